import Derived.Test.YtiokecadnmcpeaaKPooledP
import Derived.Test.YtiokecadnmcpeaaKLoop
import Derived.Deep.RegionHeld3
namespace Go.Proofs.Ytiokecadnmcpeaa
set_option linter.unusedVariables false
set_option linter.unusedSimpArgs false
open Go.ChangeShapes Go.WideShapes Go.ChangeAt Go.RowKit

theorem field_sh (a b c d e : Int) (w : World) : (Instr.field 55 (.agg #[.int .i64 a, .int .i64 b, .int .i64 c, .int .i64 d, .int .i64 e]) 4).run Try.prog w = .ok (.int .i64 e) w := by kernel_rfl
def duo (W : World) (b : Nat) (v0 v1 : Value) : World := (W.setCell ⟨b, 0, none⟩ v0).setCell ⟨b, 1, none⟩ v1
theorem duo_block {W : World} {b : Nat} {t : TypeId} {o0 o1 : Value} (v0 v1 : Value) (h : W.heap[b]? = some (.cells #[o0, o1] t (0, 0))) : (duo W b v0 v1).heap[b]? = some (.cells #[v0, v1] t (0, 0)) := by
  have h0 : (W.setCell ⟨b, 0, none⟩ v0).heap[b]? = some (.cells #[v0, o1] t (0, 0)) := heap_setCell_same _ b 0 _ t v0 h
  have h1 : ((W.setCell ⟨b, 0, none⟩ v0).setCell ⟨b, 1, none⟩ v1).heap[b]? = some (.cells #[v0, v1] t (0, 0)) := heap_setCell_same _ b 1 _ t v1 h0
  exact h1
theorem duo_keeps (W : World) (b : Nat) (v0 v1 : Value) : Keeps (fun k => k = b) W (duo W b v0 v1) :=
  ((Keeps.refl (fun k => k = b) W).setCell ⟨b, 0, none⟩ v0 (fun _ => rfl)).setCell ⟨b, 1, none⟩ v1 (fun _ => rfl)

section
variable {w : World} {x : Nat} {s : PS}
set_option maxHeartbeats 1600000 in
theorem value_ok (h : SC w x s) (ok : s.Ok) (n0 d r cu le ne : Int) (a : Option Addr) (cap : Nat) :
    Calls Try.prog 28 #[.pointer (some ⟨x, 0, none⟩), .agg #[.int .i64 n0, .int .i64 d, .int .i64 r, .int .i64 cu, .int .i64 le, .int .i64 ne, .slice a s.N cap]] w fun e w' => e = .returned (.tuple #[.agg #[.int .i64 (s.acc s.N).tot, .int .i64 s.allShares], .bool true]) ∧ Below w.heap.size w w' := by
  have hN := ok.N6
  have l0 := (ok.acc s.N (by omega)).l0
  have l1 := (ok.acc s.N (by omega)).l1
  have k0 := (ok.acc s.N (by omega)).k0
  have k1 := (ok.acc s.N (by omega)).k1
  have q0 := (ok.acc s.N (by omega)).queued
  obtain ⟨T, hT⟩ : ∃ T, (s.acc s.N).tot = T := ⟨_, rfl⟩
  obtain ⟨SH, hSH⟩ : ∃ SH, s.allShares = SH := ⟨_, rfl⟩
  have HSt := hid (fun W' (hS : SC W' x s) => state_any hS ok)
  rw [hSH] at HSt
  rw [hT, hSH]
  obtain ⟨W, hW⟩ : ∃ W, (w.alloc (.cells #[.int .i64 n0, .int .i64 d, .int .i64 r, .int .i64 cu, .int .i64 le, .int .i64 ne, .slice a s.N cap] 25)).alloc (.cells #[.int .i64 0, .int .i64 0] 58) = W := ⟨_, rfl⟩
  have hb : Below w.heap.size w W := by rw [← hW]; exact ((Below.refl _ _).alloc (Nat.le_refl _) _).alloc (by simp) _
  have hr : W.heap[w.heap.size + 1]? = some (.cells #[.int .i64 0, .int .i64 0] 58 (0, 0)) := by
    rw [← hW]
    have := heap_alloc_new (w.alloc (.cells #[.int .i64 n0, .int .i64 d, .int .i64 r, .int .i64 cu, .int .i64 le, .int .i64 ne, .slice a s.N cap] 25)) (.cells #[.int .i64 0, .int .i64 0] 58)
    rwa [World.size_alloc] at this
  have H0 := hid (h.below hb)
  have HW := hid hW
  have HB := hid hb
  have HR := hid hr
  have fs := field_sh
  have HT := hid (show T = (s.acc s.N).liquid + (s.acc s.N).locked + (s.acc s.N).queued from hT.symm)
  clear hW hb hr h hT hSH
  go_enter Try.func28, Try.ntmps28
  go_wp2_with fail
  rw [HW.out]
  refine (see_yes H0.out ok s.N (Nat.le_refl _)).mono ?_
  rintro e w1 ⟨rfl, b1⟩
  have ba := (Below.refl w1.heap.size w1).alloc (Nat.le_refl _) (.cells #[.int .i64 (s.acc s.N).liquid, .int .i64 (s.acc s.N).locked, .int .i64 (s.acc s.N).bid, .int .i64 (s.acc s.N).queued, .int .i64 (s.acc s.N).seats, .int .i64 (s.acc s.N).shares] 47)
  have bW := b1.trans (ba.mono b1.size)
  have HS1 := hid (H0.out.below bW)
  have hr1 := (bW.block _ (lt_of_block HR.out)).trans HR.out
  have HB1 := hid (HB.out.trans (bW.mono HB.out.size))
  have ga : (w1.alloc (.cells #[.int .i64 (s.acc s.N).liquid, .int .i64 (s.acc s.N).locked, .int .i64 (s.acc s.N).bid, .int .i64 (s.acc s.N).queued, .int .i64 (s.acc s.N).seats, .int .i64 (s.acc s.N).shares] 47)).heap[w1.heap.size]? = some (.cells #[.int .i64 (s.acc s.N).liquid, .int .i64 (s.acc s.N).locked, .int .i64 (s.acc s.N).bid, .int .i64 (s.acc s.N).queued, .int .i64 (s.acc s.N).seats, .int .i64 (s.acc s.N).shares] 47 (0, 0)) := heap_alloc_new w1 _
  have hgn : ¬ w1.heap.size = w.heap.size + 1 := by have := lt_of_block HR.out; have := b1.size; omega
  have hgn2 : ¬ w.heap.size + 1 = w1.heap.size := fun e => hgn e.symm
  clear b1 ba bW H0 HR HB HW
  go_wp2_with fail
  generalize w1.alloc (.cells #[.int .i64 (s.acc s.N).liquid, .int .i64 (s.acc s.N).locked, .int .i64 (s.acc s.N).bid, .int .i64 (s.acc s.N).queued, .int .i64 (s.acc s.N).seats, .int .i64 (s.acc s.N).shares] 47) = V at *
  generalize w1.heap.size = g at *
  have c0 : V.cell? ⟨g, 0, none⟩ = some (.int .i64 (s.acc s.N).liquid) := cell_of_row V g 0 _ _ _ ga
  have c1 : V.cell? ⟨g, 1, none⟩ = some (.int .i64 (s.acc s.N).locked) := cell_of_row V g 1 _ _ _ ga
  have c3 : V.cell? ⟨g, 3, none⟩ = some (.int .i64 (s.acc s.N).queued) := cell_of_row V g 3 _ _ _ ga
  have HG := hid ga
  have HR1 := hid hr1
  have hwr : IntKind.i64.wrap (IntKind.i64.wrap ((s.acc s.N).liquid + (s.acc s.N).locked) + (s.acc s.N).queued) = T := by
    rw [kwrap ((s.acc s.N).liquid + (s.acc s.N).locked) (by omega), kwrap _ (by omega), HT.out]
  have HWR := hid hwr
  generalize (s.acc s.N).liquid = lq at *
  generalize (s.acc s.N).locked = lk at *
  generalize (s.acc s.N).queued = qq at *
  clear ga hr1 hwr ok
  go_region_held3 (fun w' => w'.cell? ⟨g, 0, none⟩ = some (.int .i64 lq) ∧ w'.cell? ⟨g, 1, none⟩ = some (.int .i64 lk) ∧ w'.cell? ⟨g, 3, none⟩ = some (.int .i64 qq)) (go_keep) ((go_at_call 27; refine (HSt.out _ (HS1.out.below (Below.refl _ _).drew)).mono ?_; rintro e w2 ⟨rfl, b2⟩; (have e0 : w2.cell? ⟨g, 0, none⟩ = some (.int .i64 lq) := (b2.cell (block_lt_of_cell (show V.drew.cell? _ = _ from c0))).trans c0); (have e1 : w2.cell? ⟨g, 1, none⟩ = some (.int .i64 lk) := (b2.cell (block_lt_of_cell (show V.drew.cell? _ = _ from c1))).trans c1); (have e3 : w2.cell? ⟨g, 3, none⟩ = some (.int .i64 qq) := (b2.cell (block_lt_of_cell (show V.drew.cell? _ = _ from c3))).trans c3); (have hr2 : w2.heap[w.heap.size + 1]? = _ := (b2.block _ (lt_of_block (show V.drew.heap[w.heap.size + 1]? = _ from HR1.out))).trans HR1.out); (have z0 : w2.cell? ⟨w.heap.size + 1, 0, none⟩ = some (.int .i64 0) := cell_of_row w2 _ 0 _ _ _ hr2); (have z1 : w2.cell? ⟨w.heap.size + 1, 1, none⟩ = some (.int .i64 0) := cell_of_row w2 _ 1 _ _ _ hr2); (have zf : ∀ j, w2.frozen? ⟨w.heap.size + 1, j, none⟩ = false := fun j => frozen_of_row w2 _ j _ _ hr2)))
  all_goals
    go_wp2_with fail
    have hfb := duo_block (.int .i64 (IntKind.i64.wrap (IntKind.i64.wrap (lq + lk) + qq))) (.int .i64 SH) hr2
    have hb2 := HB1.out.drew.trans (b2.mono HB1.out.drew.size)
    have hfl := hb2.trans ((duo_keeps w2 (w.heap.size + 1) (.int .i64 (IntKind.i64.wrap (IntKind.i64.wrap (lq + lk) + qq))) (.int .i64 SH)).below hb2.size (fun i hi => by omega))
    change bodyPost _ _ _ _ _ (duo w2 (w.heap.size + 1) (.int .i64 (IntKind.i64.wrap (IntKind.i64.wrap (lq + lk) + qq))) (.int .i64 SH))
    generalize duo w2 (w.heap.size + 1) (.int .i64 (IntKind.i64.wrap (IntKind.i64.wrap (lq + lk) + qq))) (.int .i64 SH) = Wf at *
    have s0 : Wf.cell? ⟨w.heap.size + 1, 0, none⟩ = some (.int .i64 (IntKind.i64.wrap (IntKind.i64.wrap (lq + lk) + qq))) := cell_of_row Wf _ 0 _ _ _ hfb
    have s1 : Wf.cell? ⟨w.heap.size + 1, 1, none⟩ = some (.int .i64 SH) := cell_of_row Wf _ 1 _ _ _ hfb
    exact bodyPost_ret (v := .tuple #[.agg #[.int .i64 (IntKind.i64.wrap (IntKind.i64.wrap (lq + lk) + qq)), .int .i64 SH], .bool true]) (by simp [results, Try.results28, go_sem, s0, s1]) rfl ⟨by rw [HWR.out], hfl⟩
end

/-- What the pool has, and all shares, as they lie in a block of Pooled's own. -/
structure Old (w W : World) (gv x gc : Nat) (s : PS) : Prop where
  blk : W.heap[gv]? = some (.cells #[.int .i64 (s.acc s.N).tot, .int .i64 s.allShares] 58 (0, 0))
  nx : gv ≠ x
  ng : gv ≠ gc
  lo : w.heap.size ≤ gv
theorem Old.below {w W W' : World} {gv x gc : Nat} {s : PS} (h : Old w W gv x gc s) (b : Below W.heap.size W W') : Old w W' gv x gc s := { h with blk := (b.block _ (lt_of_block h.blk)).trans h.blk }
theorem KInv.put {w W : World} {x gc gv k : Nat} {c : Rules} {s : PS} (h : KInv w x gc c W s k) (nx : gv ≠ x) (ng : gv ≠ gc) (lo : w.heap.size ≤ gv) (v0 v1 : Value) : KInv w x gc c (duo W gv v0 v1) s k :=
  { h with
    sc := h.sc.keeps (duo_keeps W gv v0 v1) (fun e => nx e.symm)
    cfg := ((duo_keeps W gv v0 v1).block _ (lt_of_block h.cfg) (fun e => ng e.symm)).trans h.cfg
    bel := h.bel.trans ((duo_keeps W gv v0 v1).below h.bel.size (fun i hi => by have : i = gv := hi; subst this; exact lo)) }
theorem value_of {w W : World} {x gc k : Nat} {c : Rules} {s : PS} (h : KInv w x gc c W s k) :
    Calls Try.prog 28 #[.pointer (some ⟨x, 0, none⟩), .agg #[.int .i64 c.seats, .int .i64 c.delay, .int .i64 c.rate, .int .i64 c.cut, .int .i64 c.length, .int .i64 c.need, .slice c.a c.N c.cap]] W fun e w' => e = .returned (.tuple #[.agg #[.int .i64 (s.acc s.N).tot, .int .i64 s.allShares], .bool true]) ∧ Below W.heap.size W w' := by
  have hh := value_ok h.sc h.inv.good.ok c.seats c.delay c.rate c.cut c.length c.need c.a c.cap
  rw [h.cf.N] at hh ⊢
  exact hh

/-- Seven, given to an empty pool. -/
theorem seven_new (sn d r c le ne : Int) (hn : NumFit sn d r c le ne) : (newPS 1 sn d r c le ne [7] 1).Good ∧ (newPS 1 sn d r c le ne [7] 1).allShares = 0 ∧ (newPS 1 sn d r c le ne [7] 1).depMore 7 = 7 ∧ ((newPS 1 sn d r c le ne [7] 1).acc 0).liquid = 7 := by
  have hg : (newPS 1 sn d r c le ne [7] 1).Good := knew_good sn d r c le ne [7] hn ⟨by simp, fun k hk => by simp at hk; subst hk; simp⟩
  have hs : (newPS 1 sn d r c le ne [7] 1).allShares = 0 := by
    unfold PS.allShares
    have z : ∀ a, ((newPS 1 sn d r c le ne [7] 1).acc a).shares = 0 := fun a => by show (if a < 1 then _ else _ : Acc).shares = 0; split <;> rfl
    simp only [sumTo, z]; rfl
  refine ⟨hg, hs, ?_, rfl⟩
  unfold PS.depMore
  rw [if_pos hs]
theorem dep_seven {W : World} {y : Nat} (sn d r c le ne : Int) (hn : NumFit sn d r c le ne) (hS : SC W y (newPS 1 sn d r c le ne [7] 1)) :
    Calls Try.prog 29 #[.pointer (some ⟨y, 0, none⟩), .int .i64 0, .int .i64 7] W fun e w' => e = .returned (.tuple #[.int .i64 7, .int .i64 0]) ∧ PTo W y w' ((newPS 1 sn d r c le ne [7] 1).deposit 0 7 7) := by
  obtain ⟨hg, hs, hm, hl⟩ := seven_new sn d r c le ne hn
  have h := dep_ok hS hg 0 7 (by show 0 < 1; omega) (by omega) (by omega) (by rw [hl]; omega) (by rw [hm]; omega) (by rw [hs, hm]; omega)
  rw [hm] at h
  exact h
theorem lea_seven {W : World} {y : Nat} (sn d r c le ne : Int) (hn : NumFit sn d r c le ne) (hS : SC W y ((newPS 1 sn d r c le ne [7] 1).deposit 0 7 7)) :
    Calls Try.prog 30 #[.pointer (some ⟨y, 0, none⟩), .int .i64 0, .int .i64 7] W fun e w' => e = .returned (.tuple #[.int .i64 7, .int .i64 0]) ∧ PTo W y w' (((newPS 1 sn d r c le ne [7] 1).deposit 0 7 7).leave 0 7 7) := by
  obtain ⟨hg, hs, hm, hl⟩ := seven_new sn d r c le ne hn
  have hN : (newPS 1 sn d r c le ne [7] 1).N = 1 := rfl
  obtain ⟨g2, s2⟩ := hg.deposit (a := 0) (by rw [hN]; omega) 7 7 (by omega) (by rw [hl]; omega) (by omega) (by rw [hs]; omega)
  rw [hs] at s2
  obtain ⟨f1, f2, f3, f4, f5, f6, f7⟩ := (newPS 1 sn d r c le ne [7] 1).deposit_fields (a := 0) (by rw [hN]; omega) 7 7 0
  have t1 := (newPS 1 sn d r c le ne [7] 1).deposit_tot (a := 0) (by rw [hN]; omega) 7 7 1
  obtain ⟨-, k2, -, -, -, -, -⟩ := (newPS 1 sn d r c le ne [7] 1).deposit_fields (a := 0) (by rw [hN]; omega) 7 7 1
  rw [hN, if_pos rfl, if_neg (by omega)] at t1
  rw [hN, if_pos rfl] at k2
  rw [if_pos rfl] at f3
  have z0 : ((newPS 1 sn d r c le ne [7] 1).acc 0).shares = 0 := rfl
  have z1 : ((newPS 1 sn d r c le ne [7] 1).acc 1).tot = 0 := rfl
  have z2 : ((newPS 1 sn d r c le ne [7] 1).acc 1).locked = 0 := rfl
  rw [z0] at f3
  rw [z1] at t1
  rw [z2] at k2
  have hN2 : ((newPS 1 sn d r c le ne [7] 1).deposit 0 7 7).N = 1 := rfl
  have hw : ((newPS 1 sn d r c le ne [7] 1).deposit 0 7 7).worth 7 = 7 := by
    unfold PS.worth
    rw [hN2, t1, s2]; rfl
  have h := lea_ok hS g2 0 7 (by rw [hN2]; omega) (by omega) (by omega) (by rw [f3]; omega) (by rw [hw]; omega) (by rw [hw, hN2, k2]; omega)
  rw [hw] at h
  exact h
end Go.Proofs.Ytiokecadnmcpeaa
