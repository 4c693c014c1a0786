import Derived.Test.YtiokecadnmcpeabLStepNew
import Derived.Test.YtiokecadnmcpeabPriceLaw
import Derived.Test.YtiokecadnmcpeabLPlays0
namespace Go.Proofs.Ytiokecadnmcpeab
set_option linter.unusedVariables false
set_option linter.unusedSimpArgs false
open Go.ChangeShapes Go.WideShapes Go.ChangeAt Go.RowKit
section
variable {w : World} {B wb T : Nat} {ps : List Pr} {va : Value}

set_option maxHeartbeats 3200000 in
set_option maxRecDepth 100000 in
theorem step_price (o : OpD) (wb : Nat) (w : World) (ok : OpOk w o) (hk : o.kind = 1) :
    Calls Try.prog 34 #[.pointer (some ⟨wb, 0, none⟩), .agg o.cells] w fun e w' => e = .returned (.bool true) ∧ Below w.heap.size w w' := by
  have hb0 := (Below.refl w.heap.size w).alloc (Nat.le_refl _) (.cells o.cells 85)
  have ok0 := ok.below hb0
  have hm := priced_law (.int .i64 o.kind) (.int .i64 o.who) (.int .i64 o.B) (.int .i64 o.C) (.int .i64 o.seats) (.int .i64 o.delay) (.int .i64 o.rate) (.int .i64 o.cut) (.int .i64 o.length) (.int .i64 o.need) (.slice o.sa o.start.length o.scap) o.A o.la o.lcap o.l _ ok0.l ok0.reach
  have Hm := hid hm
  have Hb := hid hb0
  have k1 : (o.kind == 1) = true := by simp [hk]
  clear hm hk hb0 ok0
  unfold OpD.cells
  go_enter Try.func34, Try.ntmps34
  go_wp2_with fail
  refine Calls.mono Hm.out ?_
  rintro e w1 ⟨rfl, hh⟩
  have HH := hid (Hb.out.trans (hh.mono Hb.out.size))
  clear hh Hm
  go_wp2_with fail
  go_ret
  exact ⟨rfl, HH.out⟩
end
end Go.Proofs.Ytiokecadnmcpeab
namespace Go.Proofs.Ytiokecadnmcpeab
set_option linter.unusedVariables false
set_option linter.unusedSimpArgs false
open Go.ChangeShapes Go.WideShapes Go.ChangeAt Go.RowKit

/-- Is a kind among the first n of the kinds? -/
def InG (kf : Nat → Int) (b : Bool) (k : Int) (n : Nat) : Prop := b = true ↔ ∃ j, j < n ∧ kf j = k

set_option maxHeartbeats 6400000 in
set_option maxRecDepth 100000 in
theorem plays_gen (kf : Nat → Int) (K : Nat) (hK : K ≤ 13)
    (step : ∀ (w : World) (B wb T : Nat) (ps : List Pr) (va : Value) (o : OpD), WInv w B wb ps va T → 6 ≤ T → ps.length * 16 + 16 ≤ 140737488355328 → T * 56 + 2800 ≤ 140737488355328 → 1 ≤ ps.length → OpOk w o → (∃ j, j < K ∧ kf j = o.kind) →
      Calls Try.prog 34 #[.pointer (some ⟨wb, 0, none⟩), .agg o.cells] w fun e w' => e = .returned (.bool true) ∧ ∃ ps' va', WInv w' B wb ps' va' (T + 50) ∧ 1 ≤ ps'.length ∧ ps'.length ≤ ps.length + 1 ∧ Below B w w')
    (a : Option Addr) (cap : Nat) (s : List OpD) (kb : Nat) (w : World) (hs : Script w a s) (hreach : s.length ≤ 1000000000)
    (hkinds : ∀ j, j < K → w.cell? ⟨kb, j, none⟩ = some (.int .i64 (kf j))) :
    Calls Try.prog 12 #[.slice a s.length cap, .slice (some ⟨kb, 0, none⟩) K K] w fun e w' => e = .returned (.bool true) ∧ Below w.heap.size w w' := by
  have hI0 := winv_start w
  have hb0 := (Below.refl w.heap.size w).alloc (Nat.le_refl _) (.cells #[.slice none 0 0] 82)
  have hb1 : Below (w.alloc (.cells #[.slice none 0 0] 82)).heap.size (w.alloc (.cells #[.slice none 0 0] 82)) ((w.alloc (.cells #[.slice none 0 0] 82)).alloc (.cells #[.int .i64 1000, .int .i64 500] 3)) := (Below.refl _ _).alloc (Nat.le_refl _) _
  have hI1 := hI0.below hb1
  have hbel1 : Below w.heap.size w ((w.alloc (.cells #[.slice none 0 0] 82)).alloc (.cells #[.int .i64 1000, .int .i64 500] 3)) := hb0.trans (hb1.mono (by simp))
  have e0 : ((w.alloc (.cells #[.slice none 0 0] 82)).alloc (.cells #[.int .i64 1000, .int .i64 500] 3)).cell? ⟨w.heap.size + 1, 0, none⟩ = some (.int .i64 1000) := by rw [World.cell?_alloc_at _ _ _ _ (by simp)]; rfl
  have e1 : ((w.alloc (.cells #[.slice none 0 0] 82)).alloc (.cells #[.int .i64 1000, .int .i64 500] 3)).cell? ⟨w.heap.size + 1, 1, none⟩ = some (.int .i64 500) := by rw [World.cell?_alloc_at _ _ _ _ (by simp)]; rfl
  have hfirst := step_new (exOp (w.heap.size + 1)) hI1 (Nat.le_refl 6) (by simp) (exOp_ok e0 e1) rfl (.inr (exOp_fits _))
  have Hfirst := hid hfirst
  have Hs := hid hs
  have Hstep := hid step
  have Hk := hid hkinds
  have Hbel1 := hid hbel1
  clear hI0 hb0 hb1 hI1 e0 e1 hfirst hs hkinds hbel1 step
  go_enter Try.func12, Try.ntmps12
  go_wp2_with fail
  change Calls _ _ #[_, .agg (exOp (w.heap.size + 1)).cells] _ _
  refine Calls.mono Hfirst.out ?_
  rintro e w1 ⟨rfl, ps, va, hI, hp1, hp2, hb⟩
  have hlen1 : ps.length = 1 := by simp at hp2; omega
  obtain ⟨ga, gcap, hva, _⟩ := own_pairs hI.own hp1
  have cw : w1.cell? ⟨w.heap.size, 0, none⟩ = some (.slice (some ⟨ga, 0, none⟩) 1 gcap) := by rw [← hlen1, ← hva]; exact cell_of_row w1 _ 0 _ _ _ hI.blk
  have hbw : Below w.heap.size w w1 := Hbel1.out.trans hb
  have HI := hid hI
  have Hbw := hid hbw
  have hp3 : ps.length ≤ 1 := by omega
  clear Hfirst hI hp2 hb hlen1 hva hbw Hbel1
  go_wp2_with fail
  clear cw
  go_loopw [7] (fun i wr => ∃ k : Nat, k ≤ s.length ∧ i = .int .i64 k ∧ ∃ ps va, WInv wr w.heap.size w.heap.size ps va (6 + k * 50) ∧ 1 ≤ ps.length ∧ ps.length ≤ 1 + k ∧ Below w.heap.size w wr) (fun i _ => s.length - (intOf i).toNat)
  case atStart => exact ⟨0, Nat.zero_le _, rfl, ps, va, HI.out, hp1, hp3, Hbw.out⟩
  case round =>
    obtain ⟨k, hk, rfl, ps2, va2, hJ, hq1, hq2, hB⟩ := hrel
    by_cases hlt : k < s.length
    · have hs2 := Hs.out.below hB
      obtain ⟨b, off, ha, hok, hc⟩ := hs2.at hlt
      subst ha
      generalize s.getD k OpD.zero = o at *
      have c0 : wr.cell? ⟨b, off + k * 13, none⟩ = some (.int .i64 o.kind) := hc 0 (by omega)
      have HJ := hid hJ
      have HB := hid hB
      have Hok := hid hok
      have Hc := hid hc
      have hkr : ∀ j, j < K → wr.cell? ⟨kb, j, none⟩ = some (.int .i64 (kf j)) := fun j hj => (hB.cell (block_lt_of_cell (Hk.out j hj))).trans (Hk.out j hj)
      have Hkr := hid hkr
      clear hJ hB hok hc hkr hs2
      go_wp2_with fail
      go_loopw [8, 9] (fun t j wq => ∃ (n : Nat) (bb : Bool), n ≤ K ∧ j = .int .i64 n ∧ t = .bool bb ∧ Hid (InG kf bb o.kind n) ∧ ∃ m, wq = wr.drewN m) (fun _ j _ => K - (intOf j).toNat)
      case atStart => exact ⟨0, false, by omega, rfl, rfl, hid (show InG kf false o.kind 0 from ⟨fun h => by simp at h, fun ⟨j, h, _⟩ => by omega⟩), 0, rfl⟩
      case round =>
        obtain ⟨n, bb, hn, rfl, rfl, hbb, m, rfl⟩ := hrel
        by_cases hn5 : n < K
        · have hn5' : (n : Int) < (K : Int) := by omega
          obtain ⟨kn, hkn⟩ : ∃ kn, kf n = kn := ⟨_, rfl⟩
          have Hkn := hid hkn
          have cj : wr.cell? ⟨kb, n, none⟩ = some (.int .i64 kn) := by rw [← hkn]; exact Hkr.out n hn5
          clear hkn
          cases bb
          · have hno : ¬ ∃ j, j < n ∧ kf j = o.kind := fun h => by have := hbb.out.2 h; simp at this
            by_cases heq : o.kind = kn
            · have hq : (o.kind == kn) = true := by simpa using heq
              have hnew := hid (show InG kf true o.kind (n + 1) from ⟨fun _ => ⟨n, by omega, by rw [Hkn.out, heq]⟩, fun _ => rfl⟩)
              clear hbb hno heq
              go_wp2_with fail
              go_quiet (fail)
              go_wp2_with fail
              go_roundw
              case rel => exact ⟨n + 1, true, by omega, by go_num, rfl, hnew, _, rfl⟩
              case measure => simp [intOf]; omega
            · have hq : (o.kind == kn) = false := by simpa using heq
              have hnew := hid (show InG kf false o.kind (n + 1) from ⟨fun h => by simp at h, fun ⟨j, h1, h2⟩ => by
                exfalso
                by_cases e : j = n
                · subst e; exact heq (by rw [← Hkn.out, h2])
                · exact hno ⟨j, by omega, h2⟩⟩)
              clear hbb hno heq
              go_wp2_with fail
              go_quiet (fail)
              go_wp2_with fail
              go_roundw
              case rel => exact ⟨n + 1, false, by omega, by go_num, rfl, hnew, _, rfl⟩
              case measure => simp [intOf]; omega
          · have hyes := hbb.out.1 rfl
            have hnew := hid (show InG kf true o.kind (n + 1) from ⟨fun _ => by obtain ⟨j, h1, h2⟩ := hyes; exact ⟨j, by omega, h2⟩, fun _ => rfl⟩)
            clear hbb hyes
            go_wp2_with fail
            go_quiet (fail)
            go_wp2_with fail
            go_roundw
            case rel => exact ⟨n + 1, true, by omega, by go_num, rfl, hnew, _, rfl⟩
            case measure => simp [intOf]; omega
        · have hn6 : n = K := by omega
          subst hn6
          cases bb
          · have hfin := hid (show ∃ ps va, WInv (wr.drewN m) w.heap.size w.heap.size ps va (6 + (k + 1) * 50) ∧ 1 ≤ ps.length ∧ ps.length ≤ 1 + (k + 1) ∧ Below w.heap.size w (wr.drewN m) from ⟨ps2, va2, (HJ.out.below (below_dn (Below.refl _ _) m)).more (by omega), hq1, by omega, below_dn HB.out m⟩)
            clear hbb
            go_wp2_with fail
            go_roundw
            case rel => exact ⟨k + 1, by omega, by go_num, hfin.out⟩
            case measure => simp [intOf]; omega
          · have hkk := hid (hbb.out.1 rfl)
            have c1 : wr.cell? ⟨b, off + k * 13 + 1, none⟩ = some (.int .i64 o.who) := Hc.out 1 (by omega)
            have c2 : wr.cell? ⟨b, off + k * 13 + 2, none⟩ = some (.int .i64 o.A) := Hc.out 2 (by omega)
            have c3 : wr.cell? ⟨b, off + k * 13 + 3, none⟩ = some (.int .i64 o.B) := Hc.out 3 (by omega)
            have c4 : wr.cell? ⟨b, off + k * 13 + 4, none⟩ = some (.int .i64 o.C) := Hc.out 4 (by omega)
            have c5 : wr.cell? ⟨b, off + k * 13 + 5, none⟩ = some (.int .i64 o.seats) := Hc.out 5 (by omega)
            have c6 : wr.cell? ⟨b, off + k * 13 + 6, none⟩ = some (.int .i64 o.delay) := Hc.out 6 (by omega)
            have c7 : wr.cell? ⟨b, off + k * 13 + 7, none⟩ = some (.int .i64 o.rate) := Hc.out 7 (by omega)
            have c8 : wr.cell? ⟨b, off + k * 13 + 8, none⟩ = some (.int .i64 o.cut) := Hc.out 8 (by omega)
            have c9 : wr.cell? ⟨b, off + k * 13 + 9, none⟩ = some (.int .i64 o.length) := Hc.out 9 (by omega)
            have c10 : wr.cell? ⟨b, off + k * 13 + 10, none⟩ = some (.int .i64 o.need) := Hc.out 10 (by omega)
            have c11 : wr.cell? ⟨b, off + k * 13 + 11, none⟩ = some (.slice o.sa o.start.length o.scap) := Hc.out 11 (by omega)
            have c12 : wr.cell? ⟨b, off + k * 13 + 12, none⟩ = some (.slice o.la o.l.length o.lcap) := Hc.out 12 (by omega)
            have hbm : Hid (Below wr.heap.size wr (wr.drewN m)) := below_dn (Below.refl _ _) m
            clear hbb
            go_wp2_with fail
            change Calls _ _ #[_, .agg o.cells] _ _
            refine (Hstep.out _ _ _ _ _ _ o (HJ.out.below hbm.out) (by omega) (by omega) (by omega) hq1 (Hok.out.below hbm.out) hkk.out).mono ?_
            rintro e w3 ⟨rfl, ps3, va3, h31, h32, h33, h34⟩
            have hfin := hid (show ∃ ps va, WInv w3 w.heap.size w.heap.size ps va (6 + (k + 1) * 50) ∧ 1 ≤ ps.length ∧ ps.length ≤ 1 + (k + 1) ∧ Below w.heap.size w w3 from ⟨ps3, va3, h31.more (by omega), h32, by omega, (below_dn HB.out m).trans h34⟩)
            clear h31 h34 c0 c1 c2 c3 c4 c5 c6 c7 c8 c9 c10 c11 c12
            go_wp2_with fail
            go_roundw
            case rel => exact ⟨k + 1, by omega, by go_num, hfin.out⟩
            case measure => simp [intOf]; omega
    · go_wp2
      go_ret
      exact ⟨rfl, hB⟩
end Go.Proofs.Ytiokecadnmcpeab
