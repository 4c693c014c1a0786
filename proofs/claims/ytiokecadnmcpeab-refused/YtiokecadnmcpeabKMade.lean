import Derived.Test.YtiokecadnmcpeabKPlay2
import Derived.Deep.RegionHeld3
import Derived.Deep.CutRange
import Derived.Laws.BitsLemmas
namespace Go.Proofs.Ytiokecadnmcpeab
set_option linter.unusedVariables false
set_option linter.unusedSimpArgs false
open Go.ChangeShapes Go.WideShapes Go.ChangeAt Go.RowKit

theorem kwrap (n : Int) (h : -4611686018427387904 ≤ n ∧ n ≤ 4611686018427387904) : IntKind.i64.wrap n = n := by
  rw [IntKind.wrap_i64]
  omega
def pickOf (c n : Int) : Int := (if c < 0 then -(c + 1) else c) % n
theorem pickOf_bd (c n : Int) (hn : 1 ≤ n) : 0 ≤ pickOf c n ∧ pickOf c n ≤ n - 1 := by
  unfold pickOf
  have h1 := Int.emod_nonneg (if c < 0 then -(c + 1) else c) (show n ≠ 0 by omega)
  have h2 := Int.emod_lt_of_pos (if c < 0 then -(c + 1) else c) (show 0 < n by omega)
  omega
theorem kpick_any (c n : Int) (w : World) (hw : (Lit.int .i64 c).wf = true) (hn : 1 ≤ n) (hn2 : n ≤ 4611686018427387904) :
    Calls Try.prog 35 #[.int .i64 c, .int .i64 n] w fun e w' => e = .returned (.int .i64 (pickOf c n)) ∧ w' = w := by
  obtain ⟨h1, h2⟩ := wfk hw
  have hz : ¬ n = 0 := by omega
  clear hw
  by_cases h : c < 0
  · have HC := hid (show pickOf c n = -(c + 1) % n by unfold pickOf; rw [if_pos h])
    go_enter Try.func35, Try.ntmps35
    go_wp2
    go_ret
    exact ⟨ret_int (by rw [HC.out, ← Int.neg_tmod, Int.tmod_eq_emod_of_nonneg (by omega)]), rfl⟩
  · have HC := hid (show pickOf c n = c % n by unfold pickOf; rw [if_neg h])
    go_enter Try.func35, Try.ntmps35
    go_wp2
    go_ret
    exact ⟨ret_int (by rw [HC.out]), rfl⟩

/-- What an account of a setup starts with. -/
def startOf (l : List Int) : List Int := (l.take 6).map (fun x => pickOf x 10000001)
theorem startOf_length (l : List Int) : (startOf l).length = min 6 l.length := by simp [startOf]
theorem startOf_getD (l : List Int) (k : Nat) (hk : k < l.length) (h6 : k < 6) : (startOf l).getD k 0 = pickOf (l.getD k 0) 10000001 := by
  simp [startOf, List.getD, List.getElem?_take, h6, hk]
theorem startOf_fit (l : List Int) : AmtFit (startOf l) := by
  intro k hk
  have hk2 := hk
  rw [startOf_length] at hk2
  rw [startOf_getD l k (by omega) (by omega)]
  have := pickOf_bd (l.getD k 0) 10000001 (by omega)
  omega

theorem kown_setCell {w : World} {B e size n : Nat} {v : Value} {xs : List Value} (h : w.ownsRow B e size v n xs) (p : Addr) (u : Value) (hp : v.ownBlock ≠ some p.block) : (w.setCell p u).ownsRow B e size v n xs :=
  (Keeps.setCell (F := fun k => k = p.block) (Keeps.refl _ w) p u (fun _ => rfl)).owns h (fun k hk e => hp (by rw [hk, e]))
theorem kown_slice {w : World} {B e size n : Nat} {v : Value} {xs : List Value} (h : w.ownsRow B e size v n xs) : ∃ a cap, v = .slice a n cap := by
  rcases h.2 with ⟨h1, h0⟩ | ⟨g, cap, cur, rfl, _⟩
  · exact ⟨none, 0, by rw [h1, h0]⟩
  · exact ⟨_, cap, rfl⟩
theorem kown_form {w : World} {B e size n : Nat} {v : Value} {xs : List Value} (h : w.ownsRow B e size v n xs) (hn : 0 < n) : ∃ g cap, v = .slice (some ⟨g, 0, none⟩) n cap := by
  rcases h.2 with ⟨_, h0⟩ | ⟨g, cap, cur, rfl, _⟩
  · omega
  · exact ⟨g, cap, rfl⟩
theorem kown_ints {w : World} {B g cap : Nat} {l : List Int} (h : w.ownsRow B 3 1 (.slice (some ⟨g, 0, none⟩) l.length cap) l.length (l.map (Value.int .i64))) : Ints w (some ⟨g, 0, none⟩) l :=
  .inr ⟨g, 0, rfl, fun i hi => by rw [Nat.zero_add, h.cellAt i (by omega), List.getElem?_map]; simp [List.getD, hi]⟩
theorem kone_lies (w : World) (u : Value) (t : TypeId) : ∀ j x, [u][j]? = some x → (w.alloc (.cells #[u] t)).cell? ((⟨w.heap.size, 0, none⟩ : Addr).add j) = some x := by
  intro j x hj
  match j, hj with
  | 0, hj => simp at hj; subst hj; simp [Addr.add]
/-- A field that holds a row of the call's own, behind an append to it: ahead of the store. -/
theorem field_pre {w w1 : World} {o : Obj} {v : Value} {c base e size n : Nat} {xs : List Value} {cs : Array Value} {t : TypeId} (hblk : w.heap[c]? = some (.cells cs t (0, 0))) (hc : c < base) (hown : w.ownsRow base e size v n xs) (hg : (w.alloc o).drew.grownBy w1 v.ownBlock) :
    w1.heap[c]? = some (.cells cs t (0, 0)) := by
  have hlt : c < w.heap.size := lt_of_block hblk
  have h1 : (w.alloc o).drew.heap[c]? = some (.cells cs t (0, 0)) := (((Below.refl w.heap.size w).alloc (Nat.le_refl _) o).block c hlt).trans hblk
  rw [hg.block c (lt_of_block h1) (fun e2 => by have := (hown.lt c e2.symm).1; omega)]
  exact h1
theorem field_keeps {w w1 : World} {o : Obj} {v : Value} {base : Nat} {n e size : Nat} {xs : List Value} (hown : w.ownsRow base e size v n xs) (hg : (w.alloc o).drew.grownBy w1 v.ownBlock) : Keeps (fun k => base ≤ k) w w1 :=
  ((Keeps.refl _ w).alloc o).drew.grown hg (fun k hk _ => (hown.lt k hk).1)

def seven (W : World) (b : Nat) (v0 v1 v2 v3 v4 v5 v6 : Value) : World := (six W b v0 v1 v2 v3 v4 v5).setCell ⟨b, 6, none⟩ v6
theorem seven_block {W : World} {b : Nat} {t : TypeId} {o0 o1 o2 o3 o4 o5 o6 : Value} (v0 v1 v2 v3 v4 v5 v6 : Value) (h : W.heap[b]? = some (.cells #[o0, o1, o2, o3, o4, o5, o6] t (0, 0))) :
    (seven W b v0 v1 v2 v3 v4 v5 v6).heap[b]? = some (.cells #[v0, v1, v2, v3, v4, v5, v6] t (0, 0)) := by
  have h0 : (W.setCell ⟨b, 0, none⟩ v0).heap[b]? = some (.cells #[v0, o1, o2, o3, o4, o5, o6] t (0, 0)) := heap_setCell_same _ b 0 _ t v0 h
  have h1 : ((W.setCell ⟨b, 0, none⟩ v0).setCell ⟨b, 1, none⟩ v1).heap[b]? = some (.cells #[v0, v1, o2, o3, o4, o5, o6] t (0, 0)) := heap_setCell_same _ b 1 _ t v1 h0
  have h2 : (((W.setCell ⟨b, 0, none⟩ v0).setCell ⟨b, 1, none⟩ v1).setCell ⟨b, 2, none⟩ v2).heap[b]? = some (.cells #[v0, v1, v2, o3, o4, o5, o6] t (0, 0)) := heap_setCell_same _ b 2 _ t v2 h1
  have h3 : ((((W.setCell ⟨b, 0, none⟩ v0).setCell ⟨b, 1, none⟩ v1).setCell ⟨b, 2, none⟩ v2).setCell ⟨b, 3, none⟩ v3).heap[b]? = some (.cells #[v0, v1, v2, v3, o4, o5, o6] t (0, 0)) := heap_setCell_same _ b 3 _ t v3 h2
  have h4 : (((((W.setCell ⟨b, 0, none⟩ v0).setCell ⟨b, 1, none⟩ v1).setCell ⟨b, 2, none⟩ v2).setCell ⟨b, 3, none⟩ v3).setCell ⟨b, 4, none⟩ v4).heap[b]? = some (.cells #[v0, v1, v2, v3, v4, o5, o6] t (0, 0)) := heap_setCell_same _ b 4 _ t v4 h3
  have h5 : ((((((W.setCell ⟨b, 0, none⟩ v0).setCell ⟨b, 1, none⟩ v1).setCell ⟨b, 2, none⟩ v2).setCell ⟨b, 3, none⟩ v3).setCell ⟨b, 4, none⟩ v4).setCell ⟨b, 5, none⟩ v5).heap[b]? = some (.cells #[v0, v1, v2, v3, v4, v5, o6] t (0, 0)) := heap_setCell_same _ b 5 _ t v5 h4
  have h6 : (((((((W.setCell ⟨b, 0, none⟩ v0).setCell ⟨b, 1, none⟩ v1).setCell ⟨b, 2, none⟩ v2).setCell ⟨b, 3, none⟩ v3).setCell ⟨b, 4, none⟩ v4).setCell ⟨b, 5, none⟩ v5).setCell ⟨b, 6, none⟩ v6).heap[b]? = some (.cells #[v0, v1, v2, v3, v4, v5, v6] t (0, 0)) := heap_setCell_same _ b 6 _ t v6 h5
  exact h6
theorem seven_keeps (W : World) (b : Nat) (v0 v1 v2 v3 v4 v5 v6 : Value) : Keeps (fun k => k = b) W (seven W b v0 v1 v2 v3 v4 v5 v6) :=
  (((((((Keeps.refl (fun k => k = b) W).setCell ⟨b, 0, none⟩ v0 (fun _ => rfl)).setCell ⟨b, 1, none⟩ v1 (fun _ => rfl)).setCell ⟨b, 2, none⟩ v2 (fun _ => rfl)).setCell ⟨b, 3, none⟩ v3 (fun _ => rfl)).setCell ⟨b, 4, none⟩ v4 (fun _ => rfl)).setCell ⟨b, 5, none⟩ v5 (fun _ => rfl)).setCell ⟨b, 6, none⟩ v6 (fun _ => rfl)
/-- The end of config. -/
theorem cfg_end {w W : World} {g cap : Nat} {l : List Int} {u0 u1 u2 u3 u4 u5 u6 v0 v1 v2 v3 v4 v5 v6 : Value} {t : TypeId} (hown : W.ownsRow (w.heap.size + 3) 3 1 (.slice (some ⟨g, 0, none⟩) l.length cap) l.length (l.map (Value.int .i64))) (hB : Below w.heap.size w W) (hr : W.heap[w.heap.size + 1]? = some (.cells #[u0, u1, u2, u3, u4, u5, u6] t (0, 0))) :
    (seven W (w.heap.size + 1) v0 v1 v2 v3 v4 v5 v6).heap[w.heap.size + 1]? = some (.cells #[v0, v1, v2, v3, v4, v5, v6] t (0, 0)) ∧ Ints (seven W (w.heap.size + 1) v0 v1 v2 v3 v4 v5 v6) (some ⟨g, 0, none⟩) l ∧ Below w.heap.size w (seven W (w.heap.size + 1) v0 v1 v2 v3 v4 v5 v6) := by
  have k := seven_keeps W (w.heap.size + 1) v0 v1 v2 v3 v4 v5 v6
  refine ⟨seven_block _ _ _ _ _ _ _ hr, kown_ints (k.owns hown (fun q hq e => by have := (hown.lt q hq).1; omega)), ?_⟩
  exact hB.trans (k.below hB.size (fun i hi => by omega))

/-- Behind the append of a start amount. -/
theorem cfg_app {w w1 : World} {o : Obj} {s n b off k : Nat} {v z u : Value} {n1 n2 n3 n4 n5 n6 : Value} {xs : List Value} {t e size : Nat} (hblk : w.heap[s + 2]? = some (.cells #[n1, n2, n3, n4, n5, n6, v] t (0, 0))) (hown : w.ownsRow (s + 3) e size v n xs) (hq6 : w.cell? ⟨s, 6, none⟩ = some z) (hc : w.cell? ⟨b, off + k, none⟩ = some u) (hb : b < s) (hg : (w.alloc o).drew.grownBy w1 v.ownBlock) :
    w1.heap[s + 2]? = some (.cells #[n1, n2, n3, n4, n5, n6, v] t (0, 0)) ∧ w1.cell? ⟨s + 2, 6, none⟩ = some v ∧ w1.frozen? ⟨s + 2, 6, none⟩ = false ∧ w1.cell? ⟨s, 6, none⟩ = some z ∧ w1.cell? ⟨b, off + k, none⟩ = some u ∧ Keeps (fun k => s + 3 ≤ k) w w1 ∧ ∀ x, (w1.setCell ⟨s + 2, 6, none⟩ x).cell? ⟨b, off + k, none⟩ = some u := by
  have h1 := field_pre hblk (Nat.lt_succ_self _) hown hg
  have h2 := field_keeps hown hg
  exact ⟨h1, cell_of_row w1 (s + 2) 6 _ _ _ h1, frozen_of_row w1 (s + 2) 6 _ _ h1, h2.cell hq6 (by show ¬ s + 3 ≤ s; omega), h2.cell hc (by show ¬ s + 3 ≤ b; omega), h2, fun x => (World.cell?_setCell_other _ _ _ _ (by intro e2; simp only [Addr.mk.injEq] at e2; omega)).trans (h2.cell hc (by show ¬ s + 3 ≤ b; omega))⟩
theorem cfg_res {w w1 : World} {s : Nat} {u : Value} {ob : Obj} (h : Keeps (fun k => s + 3 ≤ k) w w1) (hr : w.heap[s + 1]? = some ob) : (w1.setCell ⟨s + 2, 6, none⟩ u).heap[s + 1]? = some ob := by
  rw [Below.heap_setCell w1 _ u (s + 1) (by show s + 1 ≠ s + 2; omega), h.block (s + 1) (lt_of_block hr) (by show ¬ s + 3 ≤ s + 1; omega)]
  exact hr
theorem cfg_app0 {w w1 : World} {o : Obj} {s n : Nat} {v z : Value} {n1 n2 n3 n4 n5 n6 : Value} {xs : List Value} {t e size : Nat} (hblk : w.heap[s + 2]? = some (.cells #[n1, n2, n3, n4, n5, n6, v] t (0, 0))) (hown : w.ownsRow (s + 3) e size v n xs) (hq6 : w.cell? ⟨s, 6, none⟩ = some z) (hg0 : (w.alloc o).grownBy w1 v.ownBlock) :
    w1.heap[s + 2]? = some (.cells #[n1, n2, n3, n4, n5, n6, v] t (0, 0)) ∧ w1.cell? ⟨s + 2, 6, none⟩ = some v ∧ w1.frozen? ⟨s + 2, 6, none⟩ = false ∧ w1.cell? ⟨s, 6, none⟩ = some z ∧ Keeps (fun k => s + 3 ≤ k) w w1 := by
  have hg : (w.alloc o).drew.grownBy w1 v.ownBlock := ⟨hg0.os, hg0.tape, hg0.output, hg0.size, hg0.block⟩
  have h1 := field_pre hblk (Nat.lt_succ_self _) hown hg
  have h2 := field_keeps hown hg
  exact ⟨h1, cell_of_row w1 (s + 2) 6 _ _ _ h1, frozen_of_row w1 (s + 2) 6 _ _ h1, h2.cell hq6 (by show ¬ s + 3 ≤ s; omega), h2⟩
/-- .. and behind the store. -/
theorem cfg_put {w0 w1 w2 : World} {s n g cap : Nat} {v z : Value} {n1 n2 n3 n4 n5 n6 : Value} {xs : List Value} {t e size : Nat} (h1 : w2.heap[s + 2]? = some (.cells #[n1, n2, n3, n4, n5, n6, v] t (0, 0))) (hown : w2.ownsRow (s + 3) e size (.slice (some ⟨g, 0, none⟩) n cap) n xs) (hq6 : w2.cell? ⟨s, 6, none⟩ = some z) (hk : Keeps (fun k => s + 3 ≤ k) w1 w2) (hz : s + 3 ≤ w1.heap.size) (hB : Below s w0 w1) :
    (w2.setCell ⟨s + 2, 6, none⟩ (.slice (some ⟨g, 0, none⟩) n cap)).heap[s + 2]? = some (.cells #[n1, n2, n3, n4, n5, n6, .slice (some ⟨g, 0, none⟩) n cap] t (0, 0)) ∧ (w2.setCell ⟨s + 2, 6, none⟩ (.slice (some ⟨g, 0, none⟩) n cap)).ownsRow (s + 3) e size (.slice (some ⟨g, 0, none⟩) n cap) n xs ∧ (w2.setCell ⟨s + 2, 6, none⟩ (.slice (some ⟨g, 0, none⟩) n cap)).cell? ⟨s, 6, none⟩ = some z ∧ s + 3 ≤ (w2.setCell ⟨s + 2, 6, none⟩ (.slice (some ⟨g, 0, none⟩) n cap)).heap.size ∧ Below s w0 (w2.setCell ⟨s + 2, 6, none⟩ (.slice (some ⟨g, 0, none⟩) n cap)) := by
  have hsz := hk.size
  refine ⟨heap_setCell_same w2 (s + 2) 6 _ _ _ h1, kown_setCell hown _ _ (fun e2 => by have := (hown.lt _ e2).1; simp only at this; omega), ?_, by simp; omega, ?_⟩
  · rw [← hq6]
    exact World.cell?_setCell_other _ _ _ _ (by intro e2; simp only [Addr.mk.injEq] at e2; omega)
  · exact (hB.trans (hk.below (B := s) (by omega) (fun i hi => by have : s + 3 ≤ i := hi; omega))).setCell (p := ⟨s + 2, 6, none⟩) (by show s ≤ s + 2; omega) _

set_option maxHeartbeats 3200000 in
set_option maxRecDepth 100000 in
theorem config_any2 (o : SetD) (w : World) (ok : SetOk w o) :
    Calls Try.prog 13 #[.agg #[.int .i64 o.seats, .int .i64 o.delay, .int .i64 o.rate, .int .i64 o.cut, .int .i64 o.length, .int .i64 o.need, .slice o.sa o.start.length o.scap]] w fun e w' => ∃ s d r c le ne a cap l, e = .returned (.agg #[.int .i64 s, .int .i64 d, .int .i64 r, .int .i64 c, .int .i64 le, .int .i64 ne, .slice a l.length cap]) ∧ NumFit s d r c le ne ∧ StartFit l ∧ Ints w' a l ∧ Below w.heap.size w w' ∧ (0 < o.start.length → l = startOf o.start) := by
  obtain ⟨i0, hi, hz0, hz1, hz2⟩ := info_parts Try.info_int
  have h1 := pickOf_bd o.seats 10 (by omega)
  have h2 := pickOf_bd o.delay 4 (by omega)
  have h3 := pickOf_bd o.rate 101 (by omega)
  have h4 := pickOf_bd o.cut 1001 (by omega)
  have h5 := pickOf_bd o.length 20 (by omega)
  have h6 := pickOf_bd o.need 1001 (by omega)
  have Ok := hid ok
  have k1 := ok.wseats
  have k2 := ok.wdelay
  have k3 := ok.wrate
  have k4 := ok.wcut
  have k5 := ok.wlength
  have k6 := ok.wneed
  clear ok
  go_enter Try.func13, Try.ntmps13
  go_wp2_with fail
  have hcell : ∀ (j : Nat) (u : Value), #[Value.int .i64 o.seats, .int .i64 o.delay, .int .i64 o.rate, .int .i64 o.cut, .int .i64 o.length, .int .i64 o.need, .slice o.sa o.start.length o.scap][j]? = some u → ((w.alloc (.cells #[.int .i64 o.seats, .int .i64 o.delay, .int .i64 o.rate, .int .i64 o.cut, .int .i64 o.length, .int .i64 o.need, .slice o.sa o.start.length o.scap] 24)).alloc (.cells #[.int .i64 0, .int .i64 0, .int .i64 0, .int .i64 0, .int .i64 0, .int .i64 0, .slice none 0 0] 27)).cell? ⟨w.heap.size, j, none⟩ = some u := fun j u hj => by
    rw [World.cell?_alloc_past _ _ _ (by simp), World.cell?_alloc_at _ _ _ _ rfl]; exact hj
  have hbel := ((Below.refl w.heap.size w).alloc (Nat.le_refl _) (.cells #[.int .i64 o.seats, .int .i64 o.delay, .int .i64 o.rate, .int .i64 o.cut, .int .i64 o.length, .int .i64 o.need, .slice o.sa o.start.length o.scap] 24)).alloc (by simp) (.cells #[.int .i64 0, .int .i64 0, .int .i64 0, .int .i64 0, .int .i64 0, .int .i64 0, .slice none 0 0] 27)
  generalize hW : (w.alloc (.cells #[.int .i64 o.seats, .int .i64 o.delay, .int .i64 o.rate, .int .i64 o.cut, .int .i64 o.length, .int .i64 o.need, .slice o.sa o.start.length o.scap] 24)).alloc (.cells #[.int .i64 0, .int .i64 0, .int .i64 0, .int .i64 0, .int .i64 0, .int .i64 0, .slice none 0 0] 27) = W at *
  have hsz : W.heap.size = w.heap.size + 2 := by rw [← hW]; simp
  have hr0 : W.heap[w.heap.size + 1]? = some (.cells #[.int .i64 0, .int .i64 0, .int .i64 0, .int .i64 0, .int .i64 0, .int .i64 0, .slice none 0 0] 27 (0, 0)) := by rw [← hW]; have := heap_alloc_new (w.alloc (.cells #[.int .i64 o.seats, .int .i64 o.delay, .int .i64 o.rate, .int .i64 o.cut, .int .i64 o.length, .int .i64 o.need, .slice o.sa o.start.length o.scap] 24)) (.cells #[.int .i64 0, .int .i64 0, .int .i64 0, .int .i64 0, .int .i64 0, .int .i64 0, .slice none 0 0] 27); rwa [World.size_alloc] at this
  have q0 := hcell 0 _ rfl
  have q1 := hcell 1 _ rfl
  have q2 := hcell 2 _ rfl
  have q3 := hcell 3 _ rfl
  have q4 := hcell 4 _ rfl
  have q5 := hcell 5 _ rfl
  have q6 := hcell 6 _ rfl
  have Hb := hid hbel
  have Hz := hid hsz
  clear hcell hbel hsz hW
  go_cut [3] from 5 to 26 (fun v wx => v = .pointer (some ⟨W.heap.size, 0, none⟩) ∧ wx = (W.alloc (.cells #[.int .i64 (IntKind.i64.wrap (1 + pickOf o.seats 10)), .int .i64 (IntKind.i64.wrap (2 + pickOf o.delay 4)), .int .i64 (pickOf o.rate 101), .int .i64 (pickOf o.cut 1001), .int .i64 (IntKind.i64.wrap (1 + pickOf o.length 20)), .int .i64 (pickOf o.need 1001), .slice none 0 0] 27)).drew)
  case first =>
    go_region_held3 (fun w' => w'.cell? ⟨w.heap.size, 0, none⟩ = some (.int .i64 o.seats) ∧ w'.cell? ⟨w.heap.size, 1, none⟩ = some (.int .i64 o.delay) ∧ w'.cell? ⟨w.heap.size, 2, none⟩ = some (.int .i64 o.rate) ∧ w'.cell? ⟨w.heap.size, 3, none⟩ = some (.int .i64 o.cut) ∧ w'.cell? ⟨w.heap.size, 4, none⟩ = some (.int .i64 o.length) ∧ w'.cell? ⟨w.heap.size, 5, none⟩ = some (.int .i64 o.need)) (go_keep)
      ((go_at_call 35; refine (kpick_any _ _ _ (by assumption) (by omega) (by omega)).mono ?_; rintro e w' ⟨rfl, rfl⟩))
    all_goals (go_wp2_with fail; go_meet; exact ⟨rfl, rfl⟩)
  case rest =>
    obtain ⟨rfl, rfl⟩ := hcut
    rw [kwrap (1 + pickOf o.seats 10) (by omega), kwrap (2 + pickOf o.delay 4) (by omega), kwrap (1 + pickOf o.length 20) (by omega)]
    have hfit := hid (show NumFit (1 + pickOf o.seats 10) (2 + pickOf o.delay 4) (pickOf o.rate 101) (pickOf o.cut 1001) (1 + pickOf o.length 20) (pickOf o.need 1001) from ⟨by omega, by omega, by omega, by omega, by omega, by omega⟩)
    clear h1 h2 h3 h4 h5 h6 k1 k2 k3 k4 k5 k6 q0 q1 q2 q3 q4 q5
    generalize 1 + pickOf o.seats 10 = n1 at *
    generalize 2 + pickOf o.delay 4 = n2 at *
    generalize pickOf o.rate 101 = n3 at *
    generalize pickOf o.cut 1001 = n4 at *
    generalize 1 + pickOf o.length 20 = n5 at *
    generalize pickOf o.need 1001 = n6 at *
    have hblk : (W.alloc (.cells #[.int .i64 n1, .int .i64 n2, .int .i64 n3, .int .i64 n4, .int .i64 n5, .int .i64 n6, .slice none 0 0] 27)).drew.heap[W.heap.size]? = some (.cells #[.int .i64 n1, .int .i64 n2, .int .i64 n3, .int .i64 n4, .int .i64 n5, .int .i64 n6, .slice none 0 0] 27 (0, 0)) := heap_alloc_new W _
    have hb0 := hid (show Below w.heap.size w (W.alloc (.cells #[.int .i64 n1, .int .i64 n2, .int .i64 n3, .int .i64 n4, .int .i64 n5, .int .i64 n6, .slice none 0 0] 27)).drew from (Hb.out.alloc Hb.out.size _).drew)
    have hq6 : (W.alloc (.cells #[.int .i64 n1, .int .i64 n2, .int .i64 n3, .int .i64 n4, .int .i64 n5, .int .i64 n6, .slice none 0 0] 27)).drew.cell? ⟨w.heap.size, 6, none⟩ = some (.slice o.sa o.start.length o.scap) := (World.cell?_alloc_past _ _ _ (block_lt_of_cell q6)).trans q6
    have hrs := hid (show (W.alloc (.cells #[.int .i64 n1, .int .i64 n2, .int .i64 n3, .int .i64 n4, .int .i64 n5, .int .i64 n6, .slice none 0 0] 27)).drew.heap.size = w.heap.size + 3 by show (W.alloc _).heap.size = _; rw [World.size_alloc, Hz.out])
    have hr1 : (W.alloc (.cells #[.int .i64 n1, .int .i64 n2, .int .i64 n3, .int .i64 n4, .int .i64 n5, .int .i64 n6, .slice none 0 0] 27)).drew.heap[w.heap.size + 1]? = some (.cells #[.int .i64 0, .int .i64 0, .int .i64 0, .int .i64 0, .int .i64 0, .int .i64 0, .slice none 0 0] 27 (0, 0)) := (((Below.refl W.heap.size W).alloc (Nat.le_refl _) _).block _ (lt_of_block hr0)).trans hr0
    have hWz := Hz.out
    generalize hWW : (W.alloc (.cells #[.int .i64 n1, .int .i64 n2, .int .i64 n3, .int .i64 n4, .int .i64 n5, .int .i64 n6, .slice none 0 0] 27)).drew = V at *
    rw [hWz] at *
    clear hWW q6 Hb Hz hWz hr0
    go_wp2_with fail
    go_loopw [4] (fun i wr => ∃ (k : Nat) (v : Value), k ≤ (startOf o.start).length ∧ i = .int .i64 k ∧ wr.heap[w.heap.size + 2]? = some (.cells #[.int .i64 n1, .int .i64 n2, .int .i64 n3, .int .i64 n4, .int .i64 n5, .int .i64 n6, v] 27 (0, 0)) ∧ wr.ownsRow (w.heap.size + 3) 3 1 v k (((startOf o.start).take k).map (Value.int .i64)) ∧ wr.cell? ⟨w.heap.size, 6, none⟩ = some (.slice o.sa o.start.length o.scap) ∧ w.heap.size + 3 ≤ wr.heap.size ∧ Below w.heap.size w wr ∧ wr.heap[w.heap.size + 1]? = some (.cells #[.int .i64 0, .int .i64 0, .int .i64 0, .int .i64 0, .int .i64 0, .int .i64 0, .slice none 0 0] 27 (0, 0)))
      (fun i _ => (startOf o.start).length - (intOf i).toNat)
    case atStart => exact ⟨0, .slice none 0 0, Nat.zero_le _, rfl, hblk, World.ownsRow_nil _ _ _ _, hq6, by rw [hrs.out]; exact Nat.le_refl _, hb0.out, hr1⟩
    case round =>
      obtain ⟨k, v, hk, rfl, hblk, hown, hq6, hsz, hB, hR1⟩ := hrel
      have hsl := startOf_length o.start
      by_cases hlt : k < (startOf o.start).length
      · have l1 : k < o.start.length := by omega
        have l2 : k < 6 := by omega
        have l1' : (k : Int) < (o.start.length : Int) := by omega
        have l2' : (k : Int) < 6 := by omega
        obtain ⟨b, off, ha, hc⟩ := (Ok.out.l.below hB).at l1
        rw [ha] at hq6
        have hwk := Ok.out.wl (o.start.getD k 0) (by simp [List.getD, l1])
        have htk := hid (show ((startOf o.start).take (k + 1)).map (Value.int .i64) = ((startOf o.start).take k).map (Value.int .i64) ++ [.int .i64 (pickOf (o.start.getD k 0) 10000001)] by
          rw [Pm.take_snoc _ k hlt, List.map_append, startOf_getD o.start k l1 l2]; rfl)
        generalize o.start.getD k 0 = xk at *
        have c6 : wr.cell? ⟨w.heap.size + 2, 6, none⟩ = some v := cell_of_row wr (w.heap.size + 2) 6 _ _ _ hblk
        have f6 : wr.frozen? ⟨w.heap.size + 2, 6, none⟩ = false := frozen_of_row wr (w.heap.size + 2) 6 _ _ hblk
        have cA : ∀ o, (wr.alloc o).cell? ⟨w.heap.size + 2, 6, none⟩ = some v := fun o => (World.cell?_alloc_past _ _ _ (block_lt_of_cell c6)).trans c6
        have HB := hid hB
        have Hlb := hid (show b < w.heap.size by
          rcases Ok.out.l with h0 | ⟨b2, off2, ha2, hc2⟩
          · rw [h0] at l1; simp at l1
          · rw [ha2] at ha; simp only [Option.some.injEq, Addr.mk.injEq] at ha; rw [← ha.1]; exact block_lt_of_cell (hc2 k l1))
        have hbne : ¬ b = w.heap.size + 2 := by have := Hlb.out; omega
        have Hblk := hid hblk
        have Hown := hid hown
        have Hq6 := hid (by rw [← ha] at hq6; exact hq6 : wr.cell? ⟨w.heap.size, 6, none⟩ = some (.slice o.sa o.start.length o.scap))
        have Ha := hid ha
        have HR1 := hid hR1
        clear hblk hown hB ha hR1
        go_wp2_with fail
        go_region_law (first | (go_simp; go_at_call 35; refine (kpick_any _ _ _ (by assumption) (by omega) (by omega)).mono ?_; rintro e w' ⟨rfl, rfl⟩; dsimp only) | (refine step_append_lies _ rfl (.tmp 39) (.tmp 46) 22 rfl (w.heap.size + 3) 3 i0 _ 1 8 Try.underlying22 hi hz0 hz1 hz2 rfl (by decide) v k (((startOf o.start).take k).map (Value.int .i64)) rfl (by exact (Hown.out.alloc _).drew) ⟨wr.heap.size, 0, none⟩ 1 1 [.int .i64 (pickOf xk 10000001)] rfl rfl (by exact kone_lies _ _ _) (by intro u hu; simp at hu; subst hu; rfl) (by decide) (by unfold maxLen; omega) (by omega) (by simp; omega) (wr.heap.size + 1) (by simp) ?_; intro g1 cap1 w1 hown' hg hat hlt1; have P := cfg_app Hblk.out Hown.out hq6 hc Hlb.out hg; have c7 := P.2.1; have f7 := P.2.2.1; have d6 := P.2.2.2.1; have dk := P.2.2.2.2.1; have ds := P.2.2.2.2.2.2; have HP := hid P; clear hg P))
        all_goals
          go_wp2_with fail
          have R := cfg_put HP.out.1 hown' (show w1.cell? ⟨w.heap.size, 6, none⟩ = some (.slice o.sa o.start.length o.scap) by rw [Ha.out]; exact HP.out.2.2.2.1) HP.out.2.2.2.2.2.1 hsz HB.out
          rw [← htk.out] at R
          have R1 := cfg_res (u := .slice (some ⟨g1, 0, none⟩) (k + 1) cap1) HP.out.2.2.2.2.2.1 HR1.out
          clear hown'
          go_roundw
          case rel => exact ⟨k + 1, _, by omega, by go_num, R.1, R.2.1, R.2.2.1, R.2.2.2.1, R.2.2.2.2, R1⟩
          case measure => simp [intOf]; omega
      · have hk2 : k = (startOf o.start).length := by omega
        have hown2 : wr.ownsRow (w.heap.size + 3) 3 1 v (startOf o.start).length ((startOf o.start).map (Value.int .i64)) := by rw [hk2, List.take_of_length_le (Nat.le_refl _)] at hown; exact hown
        have hfS := startOf_fit o.start
        have c6 : wr.cell? ⟨w.heap.size + 2, 6, none⟩ = some v := cell_of_row wr (w.heap.size + 2) 6 _ _ _ hblk
        by_cases hz : (startOf o.start).length = 0
        · have HZ : Hid (¬ 0 < o.start.length) := by unfold Hid; rw [startOf_length] at hz; omega
          have l1 : ¬ (k : Int) < (o.start.length : Int) := by omega
          have hown0 : wr.ownsRow (w.heap.size + 3) 3 1 v 0 [] := by
            rw [hz, List.length_eq_zero_iff.1 hz] at hown2; exact hown2
          obtain ⟨a0, cap0, hv⟩ := kown_slice hown0
          rw [hv] at hown0 hblk c6
          have HB := hid hB
          have Hblk := hid hblk
          have Hown := hid hown0
          have HR1 := hid hR1
          have Hq6 := hid hq6
          clear hown2 hblk hown hfS hB hR1 hk hsl hlt hk2 hv hown0
          go_wp2_with (at_builtin; (refine wpList_append_lies _ rfl (.tmp 54) (.tmp 55) 22 rfl (w.heap.size + 3) 3 i0 (.int .i64 0) 1 8 Try.underlying22 hi hz0 hz1 hz2 rfl (by decide) (.slice a0 0 cap0) 0 [] rfl (Hown.out.alloc _) ⟨wr.heap.size, 0, none⟩ 1 1 [.int .i64 1000] rfl rfl (kone_lies _ _ _) (by intro u hu; simp at hu; subst hu; rfl) (by decide) (by unfold maxLen; omega) (by omega) (by simp; omega) (wr.heap.size + 1) (by simp) ?_); intro g1 cap1 w1 hown' hg hat hlt1; have P := cfg_app0 Hblk.out Hown.out Hq6.out hg; have c7 := P.2.1; have f7 := P.2.2.1; have PP := cfg_put P.1 (show w1.ownsRow (w.heap.size + 3) 3 1 (.slice (some ⟨g1, 0, none⟩) 1 cap1) 1 [.int .i64 1000] from hown') P.2.2.2.1 P.2.2.2.2 hsz HB.out; have PR := cfg_res (u := .slice (some ⟨g1, 0, none⟩) 1 cap1) P.2.2.2.2 HR1.out; have b0 : (w1.setCell ⟨w.heap.size + 2, 6, none⟩ (.slice (some ⟨g1, 0, none⟩) 1 cap1)).cell? ⟨w.heap.size + 2, 0, none⟩ = some (.int .i64 n1) := cell_of_row _ (w.heap.size + 2) 0 _ _ _ PP.1; have b1 : (w1.setCell ⟨w.heap.size + 2, 6, none⟩ (.slice (some ⟨g1, 0, none⟩) 1 cap1)).cell? ⟨w.heap.size + 2, 1, none⟩ = some (.int .i64 n2) := cell_of_row _ (w.heap.size + 2) 1 _ _ _ PP.1; have b2 : (w1.setCell ⟨w.heap.size + 2, 6, none⟩ (.slice (some ⟨g1, 0, none⟩) 1 cap1)).cell? ⟨w.heap.size + 2, 2, none⟩ = some (.int .i64 n3) := cell_of_row _ (w.heap.size + 2) 2 _ _ _ PP.1; have b3 : (w1.setCell ⟨w.heap.size + 2, 6, none⟩ (.slice (some ⟨g1, 0, none⟩) 1 cap1)).cell? ⟨w.heap.size + 2, 3, none⟩ = some (.int .i64 n4) := cell_of_row _ (w.heap.size + 2) 3 _ _ _ PP.1; have b4 : (w1.setCell ⟨w.heap.size + 2, 6, none⟩ (.slice (some ⟨g1, 0, none⟩) 1 cap1)).cell? ⟨w.heap.size + 2, 4, none⟩ = some (.int .i64 n5) := cell_of_row _ (w.heap.size + 2) 4 _ _ _ PP.1; have b5 : (w1.setCell ⟨w.heap.size + 2, 6, none⟩ (.slice (some ⟨g1, 0, none⟩) 1 cap1)).cell? ⟨w.heap.size + 2, 5, none⟩ = some (.int .i64 n6) := cell_of_row _ (w.heap.size + 2) 5 _ _ _ PP.1; have b6 : (w1.setCell ⟨w.heap.size + 2, 6, none⟩ (.slice (some ⟨g1, 0, none⟩) 1 cap1)).cell? ⟨w.heap.size + 2, 6, none⟩ = some (.slice (some ⟨g1, 0, none⟩) 1 cap1) := cell_of_row _ (w.heap.size + 2) 6 _ _ _ PP.1; have z0 : (w1.setCell ⟨w.heap.size + 2, 6, none⟩ (.slice (some ⟨g1, 0, none⟩) 1 cap1)).cell? ⟨w.heap.size + 1, 0, none⟩ = some (.int .i64 0) := cell_of_row _ (w.heap.size + 1) 0 _ _ _ PR; have y0 : (w1.setCell ⟨w.heap.size + 2, 6, none⟩ (.slice (some ⟨g1, 0, none⟩) 1 cap1)).frozen? ⟨w.heap.size + 1, 0, none⟩ = false := frozen_of_row _ (w.heap.size + 1) 0 _ _ PR; have z1 : (w1.setCell ⟨w.heap.size + 2, 6, none⟩ (.slice (some ⟨g1, 0, none⟩) 1 cap1)).cell? ⟨w.heap.size + 1, 1, none⟩ = some (.int .i64 0) := cell_of_row _ (w.heap.size + 1) 1 _ _ _ PR; have y1 : (w1.setCell ⟨w.heap.size + 2, 6, none⟩ (.slice (some ⟨g1, 0, none⟩) 1 cap1)).frozen? ⟨w.heap.size + 1, 1, none⟩ = false := frozen_of_row _ (w.heap.size + 1) 1 _ _ PR; have z2 : (w1.setCell ⟨w.heap.size + 2, 6, none⟩ (.slice (some ⟨g1, 0, none⟩) 1 cap1)).cell? ⟨w.heap.size + 1, 2, none⟩ = some (.int .i64 0) := cell_of_row _ (w.heap.size + 1) 2 _ _ _ PR; have y2 : (w1.setCell ⟨w.heap.size + 2, 6, none⟩ (.slice (some ⟨g1, 0, none⟩) 1 cap1)).frozen? ⟨w.heap.size + 1, 2, none⟩ = false := frozen_of_row _ (w.heap.size + 1) 2 _ _ PR; have z3 : (w1.setCell ⟨w.heap.size + 2, 6, none⟩ (.slice (some ⟨g1, 0, none⟩) 1 cap1)).cell? ⟨w.heap.size + 1, 3, none⟩ = some (.int .i64 0) := cell_of_row _ (w.heap.size + 1) 3 _ _ _ PR; have y3 : (w1.setCell ⟨w.heap.size + 2, 6, none⟩ (.slice (some ⟨g1, 0, none⟩) 1 cap1)).frozen? ⟨w.heap.size + 1, 3, none⟩ = false := frozen_of_row _ (w.heap.size + 1) 3 _ _ PR; have z4 : (w1.setCell ⟨w.heap.size + 2, 6, none⟩ (.slice (some ⟨g1, 0, none⟩) 1 cap1)).cell? ⟨w.heap.size + 1, 4, none⟩ = some (.int .i64 0) := cell_of_row _ (w.heap.size + 1) 4 _ _ _ PR; have y4 : (w1.setCell ⟨w.heap.size + 2, 6, none⟩ (.slice (some ⟨g1, 0, none⟩) 1 cap1)).frozen? ⟨w.heap.size + 1, 4, none⟩ = false := frozen_of_row _ (w.heap.size + 1) 4 _ _ PR; have z5 : (w1.setCell ⟨w.heap.size + 2, 6, none⟩ (.slice (some ⟨g1, 0, none⟩) 1 cap1)).cell? ⟨w.heap.size + 1, 5, none⟩ = some (.int .i64 0) := cell_of_row _ (w.heap.size + 1) 5 _ _ _ PR; have y5 : (w1.setCell ⟨w.heap.size + 2, 6, none⟩ (.slice (some ⟨g1, 0, none⟩) 1 cap1)).frozen? ⟨w.heap.size + 1, 5, none⟩ = false := frozen_of_row _ (w.heap.size + 1) 5 _ _ PR; have z6 : (w1.setCell ⟨w.heap.size + 2, 6, none⟩ (.slice (some ⟨g1, 0, none⟩) 1 cap1)).cell? ⟨w.heap.size + 1, 6, none⟩ = some (.slice none 0 0) := cell_of_row _ (w.heap.size + 1) 6 _ _ _ PR; have y6 : (w1.setCell ⟨w.heap.size + 2, 6, none⟩ (.slice (some ⟨g1, 0, none⟩) 1 cap1)).frozen? ⟨w.heap.size + 1, 6, none⟩ = false := frozen_of_row _ (w.heap.size + 1) 6 _ _ PR; have HE := hid (cfg_end (l := [1000]) (v0 := .int .i64 n1) (v1 := .int .i64 n2) (v2 := .int .i64 n3) (v3 := .int .i64 n4) (v4 := .int .i64 n5) (v5 := .int .i64 n6) (v6 := .slice (some ⟨g1, 0, none⟩) 1 cap1) PP.2.1 PP.2.2.2.2 PR); clear hg P PP PR hown')
          change bodyPost _ _ _ _ _ (seven (w1.setCell ⟨w.heap.size + 2, 6, none⟩ (.slice (some ⟨g1, 0, none⟩) 1 cap1)) (w.heap.size + 1) _ _ _ _ _ _ _)
          obtain ⟨e1, e2, e3⟩ := HE.out
          generalize seven (w1.setCell ⟨w.heap.size + 2, 6, none⟩ (.slice (some ⟨g1, 0, none⟩) 1 cap1)) (w.heap.size + 1) _ _ _ _ _ _ _ = Wf at *
          have s0 : Wf.cell? ⟨w.heap.size + 1, 0, none⟩ = some (.int .i64 n1) := cell_of_row Wf (w.heap.size + 1) 0 _ _ _ e1
          have s1 : Wf.cell? ⟨w.heap.size + 1, 1, none⟩ = some (.int .i64 n2) := cell_of_row Wf (w.heap.size + 1) 1 _ _ _ e1
          have s2 : Wf.cell? ⟨w.heap.size + 1, 2, none⟩ = some (.int .i64 n3) := cell_of_row Wf (w.heap.size + 1) 2 _ _ _ e1
          have s3 : Wf.cell? ⟨w.heap.size + 1, 3, none⟩ = some (.int .i64 n4) := cell_of_row Wf (w.heap.size + 1) 3 _ _ _ e1
          have s4 : Wf.cell? ⟨w.heap.size + 1, 4, none⟩ = some (.int .i64 n5) := cell_of_row Wf (w.heap.size + 1) 4 _ _ _ e1
          have s5 : Wf.cell? ⟨w.heap.size + 1, 5, none⟩ = some (.int .i64 n6) := cell_of_row Wf (w.heap.size + 1) 5 _ _ _ e1
          have s6 : Wf.cell? ⟨w.heap.size + 1, 6, none⟩ = some (.slice (some ⟨g1, 0, none⟩) 1 cap1) := cell_of_row Wf (w.heap.size + 1) 6 _ _ _ e1
          exact bodyPost_ret (v := .agg #[.int .i64 n1, .int .i64 n2, .int .i64 n3, .int .i64 n4, .int .i64 n5, .int .i64 n6, .slice (some ⟨g1, 0, none⟩) 1 cap1]) (by simp [results, Try.results13, go_sem, s0, s1, s2, s3, s4, s5, s6]) rfl ⟨n1, n2, n3, n4, n5, n6, some ⟨g1, 0, none⟩, cap1, [1000], rfl, hfit.out, ⟨by simp, fun k hk => by simp at hk; subst hk; simp⟩, e2, e3, fun h => absurd h HZ.out⟩
        · obtain ⟨g, cap, hv⟩ := kown_form hown2 (by omega)
          rw [hv] at hown2 hblk c6
          have HI := hid (kown_ints hown2)
          have HF := hid hfS
          have HB := hid hB
          have hz' : ¬ ((startOf o.start).length : Int) = 0 := by omega
          have hle6 : (startOf o.start).length ≤ 6 := by omega
          have b0 : wr.cell? ⟨w.heap.size + 2, 0, none⟩ = some (.int .i64 n1) := cell_of_row wr (w.heap.size + 2) 0 _ _ _ hblk
          have b1 : wr.cell? ⟨w.heap.size + 2, 1, none⟩ = some (.int .i64 n2) := cell_of_row wr (w.heap.size + 2) 1 _ _ _ hblk
          have b2 : wr.cell? ⟨w.heap.size + 2, 2, none⟩ = some (.int .i64 n3) := cell_of_row wr (w.heap.size + 2) 2 _ _ _ hblk
          have b3 : wr.cell? ⟨w.heap.size + 2, 3, none⟩ = some (.int .i64 n4) := cell_of_row wr (w.heap.size + 2) 3 _ _ _ hblk
          have b4 : wr.cell? ⟨w.heap.size + 2, 4, none⟩ = some (.int .i64 n5) := cell_of_row wr (w.heap.size + 2) 4 _ _ _ hblk
          have b5 : wr.cell? ⟨w.heap.size + 2, 5, none⟩ = some (.int .i64 n6) := cell_of_row wr (w.heap.size + 2) 5 _ _ _ hblk
          have z0 : wr.cell? ⟨w.heap.size + 1, 0, none⟩ = some (.int .i64 0) := cell_of_row wr (w.heap.size + 1) 0 _ _ _ hR1
          have y0 : wr.frozen? ⟨w.heap.size + 1, 0, none⟩ = false := frozen_of_row wr (w.heap.size + 1) 0 _ _ hR1
          have z1 : wr.cell? ⟨w.heap.size + 1, 1, none⟩ = some (.int .i64 0) := cell_of_row wr (w.heap.size + 1) 1 _ _ _ hR1
          have y1 : wr.frozen? ⟨w.heap.size + 1, 1, none⟩ = false := frozen_of_row wr (w.heap.size + 1) 1 _ _ hR1
          have z2 : wr.cell? ⟨w.heap.size + 1, 2, none⟩ = some (.int .i64 0) := cell_of_row wr (w.heap.size + 1) 2 _ _ _ hR1
          have y2 : wr.frozen? ⟨w.heap.size + 1, 2, none⟩ = false := frozen_of_row wr (w.heap.size + 1) 2 _ _ hR1
          have z3 : wr.cell? ⟨w.heap.size + 1, 3, none⟩ = some (.int .i64 0) := cell_of_row wr (w.heap.size + 1) 3 _ _ _ hR1
          have y3 : wr.frozen? ⟨w.heap.size + 1, 3, none⟩ = false := frozen_of_row wr (w.heap.size + 1) 3 _ _ hR1
          have z4 : wr.cell? ⟨w.heap.size + 1, 4, none⟩ = some (.int .i64 0) := cell_of_row wr (w.heap.size + 1) 4 _ _ _ hR1
          have y4 : wr.frozen? ⟨w.heap.size + 1, 4, none⟩ = false := frozen_of_row wr (w.heap.size + 1) 4 _ _ hR1
          have z5 : wr.cell? ⟨w.heap.size + 1, 5, none⟩ = some (.int .i64 0) := cell_of_row wr (w.heap.size + 1) 5 _ _ _ hR1
          have y5 : wr.frozen? ⟨w.heap.size + 1, 5, none⟩ = false := frozen_of_row wr (w.heap.size + 1) 5 _ _ hR1
          have z6 : wr.cell? ⟨w.heap.size + 1, 6, none⟩ = some (.slice none 0 0) := cell_of_row wr (w.heap.size + 1) 6 _ _ _ hR1
          have y6 : wr.frozen? ⟨w.heap.size + 1, 6, none⟩ = false := frozen_of_row wr (w.heap.size + 1) 6 _ _ hR1
          by_cases hq : k < o.start.length
          · have l1 : (k : Int) < (o.start.length : Int) := by omega
            have l2 : ¬ (k : Int) < 6 := by omega
            have HE := hid (cfg_end (v0 := .int .i64 n1) (v1 := .int .i64 n2) (v2 := .int .i64 n3) (v3 := .int .i64 n4) (v4 := .int .i64 n5) (v5 := .int .i64 n6) (v6 := .slice (some ⟨g, 0, none⟩) (startOf o.start).length cap) hown2 hB hR1)
            clear hown2 hblk hown hfS hB hR1 hk hsl hlt hk2 hv
            go_wp2_with fail
            change bodyPost _ _ _ _ _ (seven wr (w.heap.size + 1) _ _ _ _ _ _ _)
            obtain ⟨e1, e2, e3⟩ := HE.out
            generalize seven wr (w.heap.size + 1) _ _ _ _ _ _ _ = Wf at *
            have s0 : Wf.cell? ⟨w.heap.size + 1, 0, none⟩ = some (.int .i64 n1) := cell_of_row Wf (w.heap.size + 1) 0 _ _ _ e1
            have s1 : Wf.cell? ⟨w.heap.size + 1, 1, none⟩ = some (.int .i64 n2) := cell_of_row Wf (w.heap.size + 1) 1 _ _ _ e1
            have s2 : Wf.cell? ⟨w.heap.size + 1, 2, none⟩ = some (.int .i64 n3) := cell_of_row Wf (w.heap.size + 1) 2 _ _ _ e1
            have s3 : Wf.cell? ⟨w.heap.size + 1, 3, none⟩ = some (.int .i64 n4) := cell_of_row Wf (w.heap.size + 1) 3 _ _ _ e1
            have s4 : Wf.cell? ⟨w.heap.size + 1, 4, none⟩ = some (.int .i64 n5) := cell_of_row Wf (w.heap.size + 1) 4 _ _ _ e1
            have s5 : Wf.cell? ⟨w.heap.size + 1, 5, none⟩ = some (.int .i64 n6) := cell_of_row Wf (w.heap.size + 1) 5 _ _ _ e1
            have s6 : Wf.cell? ⟨w.heap.size + 1, 6, none⟩ = some (.slice (some ⟨g, 0, none⟩) (startOf o.start).length cap) := cell_of_row Wf (w.heap.size + 1) 6 _ _ _ e1
            exact bodyPost_ret (v := .agg #[.int .i64 n1, .int .i64 n2, .int .i64 n3, .int .i64 n4, .int .i64 n5, .int .i64 n6, .slice (some ⟨g, 0, none⟩) (startOf o.start).length cap]) (by simp [results, Try.results13, go_sem, s0, s1, s2, s3, s4, s5, s6]) rfl ⟨n1, n2, n3, n4, n5, n6, some ⟨g, 0, none⟩, cap, startOf o.start, rfl, hfit.out, ⟨by omega, HF.out⟩, e2, e3, fun _ => rfl⟩
          · have l1 : ¬ (k : Int) < (o.start.length : Int) := by omega
            have HE := hid (cfg_end (v0 := .int .i64 n1) (v1 := .int .i64 n2) (v2 := .int .i64 n3) (v3 := .int .i64 n4) (v4 := .int .i64 n5) (v5 := .int .i64 n6) (v6 := .slice (some ⟨g, 0, none⟩) (startOf o.start).length cap) hown2 hB hR1)
            clear hown2 hblk hown hfS hB hR1 hk hsl hlt hk2 hv
            go_wp2_with fail
            change bodyPost _ _ _ _ _ (seven wr (w.heap.size + 1) _ _ _ _ _ _ _)
            obtain ⟨e1, e2, e3⟩ := HE.out
            generalize seven wr (w.heap.size + 1) _ _ _ _ _ _ _ = Wf at *
            have s0 : Wf.cell? ⟨w.heap.size + 1, 0, none⟩ = some (.int .i64 n1) := cell_of_row Wf (w.heap.size + 1) 0 _ _ _ e1
            have s1 : Wf.cell? ⟨w.heap.size + 1, 1, none⟩ = some (.int .i64 n2) := cell_of_row Wf (w.heap.size + 1) 1 _ _ _ e1
            have s2 : Wf.cell? ⟨w.heap.size + 1, 2, none⟩ = some (.int .i64 n3) := cell_of_row Wf (w.heap.size + 1) 2 _ _ _ e1
            have s3 : Wf.cell? ⟨w.heap.size + 1, 3, none⟩ = some (.int .i64 n4) := cell_of_row Wf (w.heap.size + 1) 3 _ _ _ e1
            have s4 : Wf.cell? ⟨w.heap.size + 1, 4, none⟩ = some (.int .i64 n5) := cell_of_row Wf (w.heap.size + 1) 4 _ _ _ e1
            have s5 : Wf.cell? ⟨w.heap.size + 1, 5, none⟩ = some (.int .i64 n6) := cell_of_row Wf (w.heap.size + 1) 5 _ _ _ e1
            have s6 : Wf.cell? ⟨w.heap.size + 1, 6, none⟩ = some (.slice (some ⟨g, 0, none⟩) (startOf o.start).length cap) := cell_of_row Wf (w.heap.size + 1) 6 _ _ _ e1
            exact bodyPost_ret (v := .agg #[.int .i64 n1, .int .i64 n2, .int .i64 n3, .int .i64 n4, .int .i64 n5, .int .i64 n6, .slice (some ⟨g, 0, none⟩) (startOf o.start).length cap]) (by simp [results, Try.results13, go_sem, s0, s1, s2, s3, s4, s5, s6]) rfl ⟨n1, n2, n3, n4, n5, n6, some ⟨g, 0, none⟩, cap, startOf o.start, rfl, hfit.out, ⟨by omega, HF.out⟩, e2, e3, fun _ => rfl⟩
end Go.Proofs.Ytiokecadnmcpeab
