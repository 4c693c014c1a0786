import Derived.Test.YtfeonkcfnmamnabPSend
import Derived.Test.YtfeonkcfnmamnabPG
namespace Go.Proofs.Ytfeonkcfnmamnab
set_option linter.unusedVariables false
set_option linter.unusedSimpArgs false
open Go.ChangeShapes Go.WideShapes Go.ChangeAt Go.RowKit

section
variable {w : World} {x : Nat} {s : PS}

set_option maxHeartbeats 800000 in
theorem make_height (h : SC w x s) (ok : s.Cf) (a : Int) (ha : ¬ (0 ≤ a ∧ a ≤ s.length - 1)) :
    Calls Try.prog 17 #[.pointer (some ⟨x, 0, none⟩), .int .i64 a] w fun e w' => e = .returned (.int .i64 10) ∧ Below w.heap.size w w' := by
  have Ha := hid ha
  clear ha
  go_enter Try.func17, Try.ntmps17
  go_wp2_with fail
  refine (isheight_no h ok _ Ha.out).mono ?_
  rintro e w1 ⟨rfl, rfl⟩
  go_wp2_with fail
  go_ret
  exact ⟨rfl, Below.refl _ _⟩

set_option maxHeartbeats 800000 in
theorem make_none (h : SC w x s) (ok : s.Cf) (a : Int) (ha1 : 0 ≤ a) (ha2 : a ≤ s.length - 1) (hz : s.rlen = 0) :
    Calls Try.prog 17 #[.pointer (some ⟨x, 0, none⟩), .int .i64 a] w fun e w' => e = .returned (.int .i64 11) ∧ Below w.heap.size w w' := by
  have hR : w.cell? ⟨x, 97, none⟩ = some (.int .i64 0) := by have := h.rlenAt; rw [hz] at this; exact this
  clear hz
  go_enter Try.func17, Try.ntmps17
  go_wp2_with fail
  refine (isheight_yes h ok _ ha1 ha2).mono ?_
  rintro e w1 ⟨rfl, rfl⟩
  go_wp2_with fail
  go_ret
  exact ⟨rfl, Below.refl _ _⟩

set_option maxHeartbeats 800000 in
theorem make_again (h : SC w x s) (ok : s.Cf) (a : Nat) (ha2 : (a : Int) ≤ s.length - 1) (hz : 0 < s.rlen) (hb : s.blocks a = true) :
    Calls Try.prog 17 #[.pointer (some ⟨x, 0, none⟩), .int .i64 a] w fun e w' => e = .returned (.int .i64 12) ∧ Below w.heap.size w w' := by
  have hR := h.rlenAt
  have hl := ok.length
  have hB := h.blk (k := a) (by omega)
  rw [hb] at hB
  have ha1 : (0 : Int) ≤ (a : Int) := by omega
  have i0 : ¬ (s.rlen : Int) < 1 := by omega
  have i2 : (a : Int) < 20 := by omega
  clear hb
  generalize s.rlen = n at *
  go_enter Try.func17, Try.ntmps17
  go_wp2_with fail
  refine (isheight_yes h ok _ ha1 ha2).mono ?_
  rintro e w1 ⟨rfl, rfl⟩
  go_wp2_with fail
  go_ret
  exact ⟨rfl, Below.refl _ _⟩

set_option maxHeartbeats 800000 in
theorem make_ok (h : SC w x s) (ok : s.Cf) (a : Nat) (ha2 : (a : Int) ≤ s.length - 1) (hz : 0 < s.rlen) (hb : s.blocks a = false) :
    Calls Try.prog 17 #[.pointer (some ⟨x, 0, none⟩), .int .i64 a] w fun e w' => e = .returned (.int .i64 0) ∧ PTo w x w' (s.make a) := by
  have hR := h.rlenAt
  have hl := ok.length
  have hB := h.blk (k := a) (by omega)
  rw [hb] at hB
  have ha1 : (0 : Int) ≤ (a : Int) := by omega
  have i0 : ¬ (s.rlen : Int) < 1 := by omega
  have i2 : (a : Int) < 20 := by omega
  have f0 : w.frozen? ⟨x, 98 + a, none⟩ = false := h.frozen _
  have T := hid (show PTo w x _ (s.make a) from h.setBlk (k := a) (by omega) true)
  clear hb
  generalize s.rlen = n at hR i0
  go_enter Try.func17, Try.ntmps17
  go_wp2_with fail
  refine (isheight_yes h ok _ ha1 ha2).mono ?_
  rintro e w1 ⟨rfl, hw⟩
  have hw2 := hw.symm
  subst hw2
  go_wp2_with fail
  go_ret
  exact ⟨rfl, T.out⟩

set_option maxHeartbeats 800000 in
theorem slash_name (h : SC w x s) (a : Int) (ha : ¬ (0 ≤ a ∧ a ≤ (s.N : Int))) :
    Calls Try.prog 18 #[.pointer (some ⟨x, 0, none⟩), .int .i64 a] w fun e w' => e = .returned (.int .i64 2) ∧ Below w.heap.size w w' := by
  have Ha := hid ha
  clear ha
  go_enter Try.func18, Try.ntmps18
  go_wp2_with fail
  refine (isacc_no h _ Ha.out).mono ?_
  rintro e w1 ⟨rfl, rfl⟩
  go_wp2_with fail
  go_ret
  exact ⟨rfl, Below.refl _ _⟩

set_option maxHeartbeats 800000 in
theorem slash_none (h : SC w x s) (ok : s.Cf) (a : Nat) (ha : a ≤ s.N) (hz : (s.acc a).seats < 1) :
    Calls Try.prog 18 #[.pointer (some ⟨x, 0, none⟩), .int .i64 a] w fun e w' => e = .returned (.int .i64 11) ∧ Below w.heap.size w w' := by
  have hp6 := ok.N6
  have e3 : w.cell? ⟨x, 10 + a * 11 + 3, none⟩ = some (.int .i64 (s.acc a).seats) := h.at (a := a) (by omega) (j := 3) (by omega)
  have g1 : (0 : Int) ≤ (a : Int) := by omega
  have g2 : (a : Int) ≤ (s.N : Int) := by omega
  have g5 : (a : Int) < 7 := by omega
  go_enter Try.func18, Try.ntmps18
  go_wp2_with fail
  refine (isacc_yes h _ g1 g2).mono ?_
  rintro e w1 ⟨rfl, rfl⟩
  go_wp2_with fail
  go_ret
  exact ⟨rfl, Below.refl _ _⟩

set_option maxHeartbeats 800000 in
theorem slash_ok (h : SC w x s) (ok : s.Cf) (a : Nat) (ha : a ≤ s.N) (hz : ¬ (s.acc a).seats < 1) :
    Calls Try.prog 18 #[.pointer (some ⟨x, 0, none⟩), .int .i64 a] w fun e w' => e = .returned (.int .i64 0) ∧ PTo w x w' (s.slash a) := by
  have hp6 := ok.N6
  have e3 : w.cell? ⟨x, 10 + a * 11 + 3, none⟩ = some (.int .i64 (s.acc a).seats) := h.at (a := a) (by omega) (j := 3) (by omega)
  have e10 : w.cell? ⟨x, 10 + a * 11 + 10, none⟩ = some (.bool (s.acc a).cheated) := h.at (a := a) (by omega) (j := 10) (by omega)
  have f0 : w.frozen? ⟨x, 10 + a * 11 + 10, none⟩ = false := h.frozen _
  have g1 : (0 : Int) ≤ (a : Int) := by omega
  have g2 : (a : Int) ≤ (s.N : Int) := by omega
  have g5 : (a : Int) < 7 := by omega
  have T := hid (show PTo w x _ (s.slash a) from h.setCheat (a := a) (by omega) true)
  generalize (s.acc a).cheated = hc at e10
  go_enter Try.func18, Try.ntmps18
  go_wp2_with fail
  refine (isacc_yes h _ g1 g2).mono ?_
  rintro e w1 ⟨rfl, hw⟩
  have hw2 := hw.symm
  subst hw2
  go_wp2_with fail
  go_ret
  exact ⟨rfl, T.out⟩
end
end Go.Proofs.Ytfeonkcfnmamnab
