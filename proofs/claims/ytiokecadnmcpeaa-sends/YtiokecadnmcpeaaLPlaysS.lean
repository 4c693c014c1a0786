import Derived.Test.YtiokecadnmcpeaaLPlays0
namespace Go.Proofs.Ytiokecadnmcpeaa
set_option linter.unusedVariables false
set_option linter.unusedSimpArgs false
open Go.ChangeShapes Go.WideShapes Go.ChangeAt Go.RowKit

theorem step_anyS {w : World} {B wb T : Nat} {ps : List Pr} {va : Value} (o : OpD) (hI : WInv w B wb ps va T) (hT : 6 ≤ T) (hps : ps.length * 16 + 16 ≤ 140737488355328) (hTl : T * 56 + 56 ≤ 140737488355328) (hne : 1 ≤ ps.length) (ok : OpOk w o) (hk : 2 ≤ o.kind ∧ o.kind < 7) :
    Calls Try.prog 39 #[.pointer (some ⟨wb, 0, none⟩), .agg o.cells] w fun e w' => e = .returned (.bool true) ∧ ∃ ps' va', WInv w' B wb ps' va' (T + 1) ∧ 1 ≤ ps'.length ∧ ps'.length ≤ ps.length + 1 ∧ Below B w w' := by
  have hB : B ≤ w.heap.size := Nat.le_trans hI.lo (Nat.le_of_lt (lt_of_block hI.blk))
  rcases (show o.kind = 2 ∨ o.kind = 3 ∨ o.kind = 4 ∨ o.kind = 5 ∨ o.kind = 6 by omega) with h | h | h | h | h
  · refine (step_new o hI hT hps ok h (.inl hne)).mono ?_
    rintro e w' ⟨rfl, ps', va', h1, h2, h3, h4⟩
    exact ⟨rfl, ps', va', h1.more (by omega), h2, h3, h4⟩
  · refine (step_ask3 o hI (by omega) hne ok h (by omega)).mono ?_
    rintro e w' ⟨rfl, b⟩
    exact ⟨rfl, ps, va, (hI.below b).more (by omega), hne, by omega, b.mono hB⟩
  · refine (step_ask4 o hI (by omega) hne ok h (by omega)).mono ?_
    rintro e w' ⟨rfl, b⟩
    exact ⟨rfl, ps, va, (hI.below b).more (by omega), hne, by omega, b.mono hB⟩
  · refine (step_ask5 o hI (by omega) hne ok h (by omega)).mono ?_
    rintro e w' ⟨rfl, b⟩
    exact ⟨rfl, ps, va, (hI.below b).more (by omega), hne, by omega, b.mono hB⟩
  · refine (step_send o hI (by omega) hne ok h (by omega) (by omega)).mono ?_
    rintro e w' ⟨rfl, ps', h1, h2, h3⟩
    exact ⟨rfl, ps', va, h1.more (by omega), by omega, by omega, h3⟩

set_option maxHeartbeats 6400000 in
set_option maxRecDepth 100000 in
theorem plays_sends (a : Option Addr) (cap : Nat) (s : List OpD) (kb : Nat) (w : World) (hs : Script w a s) (hreach : s.length * 136 ≤ 140737488351232)
    (hkinds : ∀ j, j < 5 → w.cell? ⟨kb, j, none⟩ = some (.int .i64 ((j : Int) + 2))) :
    Calls Try.prog 17 #[.slice a s.length cap, .slice (some ⟨kb, 0, none⟩) 5 5] w fun e w' => e = .returned (.bool true) ∧ Below w.heap.size w w' := by
  have hI0 := winv_start w
  have hb0 := (Below.refl w.heap.size w).alloc (Nat.le_refl _) (.cells #[.slice none 0 0] 72)
  have hb1 : Below (w.alloc (.cells #[.slice none 0 0] 72)).heap.size (w.alloc (.cells #[.slice none 0 0] 72)) ((w.alloc (.cells #[.slice none 0 0] 72)).alloc (.cells #[.int .i64 1000, .int .i64 500] 3)) := (Below.refl _ _).alloc (Nat.le_refl _) _
  have hI1 := hI0.below hb1
  have hbel1 : Below w.heap.size w ((w.alloc (.cells #[.slice none 0 0] 72)).alloc (.cells #[.int .i64 1000, .int .i64 500] 3)) := hb0.trans (hb1.mono (by simp))
  have e0 : ((w.alloc (.cells #[.slice none 0 0] 72)).alloc (.cells #[.int .i64 1000, .int .i64 500] 3)).cell? ⟨w.heap.size + 1, 0, none⟩ = some (.int .i64 1000) := by rw [World.cell?_alloc_at _ _ _ _ (by simp)]; rfl
  have e1 : ((w.alloc (.cells #[.slice none 0 0] 72)).alloc (.cells #[.int .i64 1000, .int .i64 500] 3)).cell? ⟨w.heap.size + 1, 1, none⟩ = some (.int .i64 500) := by rw [World.cell?_alloc_at _ _ _ _ (by simp)]; rfl
  have hfirst := step_new (exOp (w.heap.size + 1)) hI1 (Nat.le_refl 6) (by simp) (exOp_ok e0 e1) rfl (.inr (exOp_fits _))
  have Hfirst := hid hfirst
  have Hs := hid hs
  have Hk := hid hkinds
  have Hbel1 := hid hbel1
  clear hI0 hb0 hb1 hI1 e0 e1 hfirst hs hkinds hbel1
  go_enter Try.func17, Try.ntmps17
  go_wp2_with fail
  change Calls _ _ #[_, .agg (exOp (w.heap.size + 1)).cells] _ _
  refine Calls.mono Hfirst.out ?_
  rintro e w1 ⟨rfl, ps, va, hI, hp1, hp2, hb⟩
  have hlen1 : ps.length = 1 := by simp at hp2; omega
  obtain ⟨ga, gcap, hva, _⟩ := own_pairs hI.own hp1
  have cw : w1.cell? ⟨w.heap.size, 0, none⟩ = some (.slice (some ⟨ga, 0, none⟩) 1 gcap) := by rw [← hlen1, ← hva]; exact cell_of_row w1 _ 0 _ _ _ hI.blk
  have hbw : Below w.heap.size w w1 := Hbel1.out.trans hb
  have HI := hid hI
  have Hbw := hid hbw
  have hp3 : ps.length ≤ 1 := by omega
  clear Hfirst hI hp2 hb hlen1 hva hbw Hbel1
  go_wp2_with fail
  clear cw
  go_loopw [7] (fun i wr => ∃ k : Nat, k ≤ s.length ∧ i = .int .i64 k ∧ ∃ ps va, WInv wr w.heap.size w.heap.size ps va (6 + k * 1) ∧ 1 ≤ ps.length ∧ ps.length ≤ 1 + k ∧ Below w.heap.size w wr) (fun i _ => s.length - (intOf i).toNat)
  case atStart => exact ⟨0, Nat.zero_le _, rfl, ps, va, HI.out, hp1, hp3, Hbw.out⟩
  case round =>
    obtain ⟨k, hk, rfl, ps2, va2, hJ, hq1, hq2, hB⟩ := hrel
    by_cases hlt : k < s.length
    · have hs2 := Hs.out.below hB
      obtain ⟨b, off, ha, hok, hc⟩ := hs2.at hlt
      subst ha
      generalize s.getD k OpD.zero = o at *
      have c0 : wr.cell? ⟨b, off + k * 13, none⟩ = some (.int .i64 o.kind) := hc 0 (by omega)
      have HJ := hid hJ
      have HB := hid hB
      have Hok := hid hok
      have Hc := hid hc
      have hkr : ∀ j, j < 5 → wr.cell? ⟨kb, j, none⟩ = some (.int .i64 ((j : Int) + 2)) := fun j hj => (hB.cell (block_lt_of_cell (Hk.out j hj))).trans (Hk.out j hj)
      have Hkr := hid hkr
      clear hJ hB hok hc hkr hs2
      go_wp2_with fail
      go_loopw [8, 9] (fun t j wq => ∃ (n : Nat) (bb : Bool), n ≤ 5 ∧ j = .int .i64 n ∧ t = .bool bb ∧ Hid (InK bb o.kind n) ∧ ∃ m, wq = wr.drewN m) (fun _ j _ => 5 - (intOf j).toNat)
      case atStart => exact ⟨0, false, by omega, rfl, rfl, hid (show InK false o.kind 0 from ⟨fun h => by simp at h, fun h => by omega⟩), 0, rfl⟩
      case round =>
        obtain ⟨n, bb, hn, rfl, rfl, hbb, m, rfl⟩ := hrel
        by_cases hn5 : n < 5
        · have hn5' : (n : Int) < 5 := by omega
          have cj : wr.cell? ⟨kb, n, none⟩ = some (.int .i64 ((n : Int) + 2)) := Hkr.out n hn5
          cases bb
          · have hno : ¬ (2 ≤ o.kind ∧ o.kind < 2 + (n : Int)) := fun h => by have := hbb.out.2 h; simp at this
            by_cases heq : o.kind = (n : Int) + 2
            · have hq : (o.kind == (n : Int) + 2) = true := by simpa using heq
              have hnew := hid (show InK true o.kind (n + 1) from ⟨fun _ => by omega, fun _ => rfl⟩)
              clear hbb hno heq
              go_wp2_with fail
              go_quiet (fail)
              go_wp2_with fail
              go_roundw
              case rel => exact ⟨n + 1, true, by omega, by go_num, rfl, hnew, _, rfl⟩
              case measure => simp [intOf]; omega
            · have hq : (o.kind == (n : Int) + 2) = false := by simpa using heq
              have hnew := hid (show InK false o.kind (n + 1) from ⟨fun h => by simp at h, fun h => by omega⟩)
              clear hbb hno heq
              go_wp2_with fail
              go_quiet (fail)
              go_wp2_with fail
              go_roundw
              case rel => exact ⟨n + 1, false, by omega, by go_num, rfl, hnew, _, rfl⟩
              case measure => simp [intOf]; omega
          · have hyes := hbb.out.1 rfl
            have hnew := hid (show InK true o.kind (n + 1) from ⟨fun _ => by omega, fun _ => rfl⟩)
            clear hbb hyes
            go_wp2_with fail
            go_quiet (fail)
            go_wp2_with fail
            go_roundw
            case rel => exact ⟨n + 1, true, by omega, by go_num, rfl, hnew, _, rfl⟩
            case measure => simp [intOf]; omega
        · have hn6 : n = 5 := by omega
          subst hn6
          cases bb
          · have hfin := hid (show ∃ ps va, WInv (wr.drewN m) w.heap.size w.heap.size ps va (6 + (k + 1) * 1) ∧ 1 ≤ ps.length ∧ ps.length ≤ 1 + (k + 1) ∧ Below w.heap.size w (wr.drewN m) from ⟨ps2, va2, (HJ.out.below (below_dn (Below.refl _ _) m)).more (by omega), hq1, by omega, below_dn HB.out m⟩)
            clear hbb
            go_wp2_with fail
            go_roundw
            case rel => exact ⟨k + 1, by omega, by go_num, hfin.out⟩
            case measure => simp [intOf]; omega
          · have hkk : Hid (2 ≤ o.kind ∧ o.kind < 7) := by have h := hbb.out.1 rfl; exact ⟨h.1, by omega⟩
            have c1 : wr.cell? ⟨b, off + k * 13 + 1, none⟩ = some (.int .i64 o.who) := Hc.out 1 (by omega)
            have c2 : wr.cell? ⟨b, off + k * 13 + 2, none⟩ = some (.int .i64 o.A) := Hc.out 2 (by omega)
            have c3 : wr.cell? ⟨b, off + k * 13 + 3, none⟩ = some (.int .i64 o.B) := Hc.out 3 (by omega)
            have c4 : wr.cell? ⟨b, off + k * 13 + 4, none⟩ = some (.int .i64 o.C) := Hc.out 4 (by omega)
            have c5 : wr.cell? ⟨b, off + k * 13 + 5, none⟩ = some (.int .i64 o.seats) := Hc.out 5 (by omega)
            have c6 : wr.cell? ⟨b, off + k * 13 + 6, none⟩ = some (.int .i64 o.delay) := Hc.out 6 (by omega)
            have c7 : wr.cell? ⟨b, off + k * 13 + 7, none⟩ = some (.int .i64 o.rate) := Hc.out 7 (by omega)
            have c8 : wr.cell? ⟨b, off + k * 13 + 8, none⟩ = some (.int .i64 o.cut) := Hc.out 8 (by omega)
            have c9 : wr.cell? ⟨b, off + k * 13 + 9, none⟩ = some (.int .i64 o.length) := Hc.out 9 (by omega)
            have c10 : wr.cell? ⟨b, off + k * 13 + 10, none⟩ = some (.int .i64 o.need) := Hc.out 10 (by omega)
            have c11 : wr.cell? ⟨b, off + k * 13 + 11, none⟩ = some (.slice o.sa o.start.length o.scap) := Hc.out 11 (by omega)
            have c12 : wr.cell? ⟨b, off + k * 13 + 12, none⟩ = some (.slice o.la o.l.length o.lcap) := Hc.out 12 (by omega)
            have hbm : Hid (Below wr.heap.size wr (wr.drewN m)) := below_dn (Below.refl _ _) m
            clear hbb
            go_wp2_with fail
            change Calls _ _ #[_, .agg o.cells] _ _
            refine (step_anyS o (HJ.out.below hbm.out) (by omega) (by omega) (by omega) hq1 (Hok.out.below hbm.out) hkk.out).mono ?_
            rintro e w3 ⟨rfl, ps3, va3, h31, h32, h33, h34⟩
            have hfin := hid (show ∃ ps va, WInv w3 w.heap.size w.heap.size ps va (6 + (k + 1) * 1) ∧ 1 ≤ ps.length ∧ ps.length ≤ 1 + (k + 1) ∧ Below w.heap.size w w3 from ⟨ps3, va3, h31.more (by omega), h32, by omega, (below_dn HB.out m).trans h34⟩)
            clear h31 h34 c0 c1 c2 c3 c4 c5 c6 c7 c8 c9 c10 c11 c12
            go_wp2_with fail
            go_roundw
            case rel => exact ⟨k + 1, by omega, by go_num, hfin.out⟩
            case measure => simp [intOf]; omega
    · go_wp2
      go_ret
      exact ⟨rfl, hB⟩
end Go.Proofs.Ytiokecadnmcpeaa
