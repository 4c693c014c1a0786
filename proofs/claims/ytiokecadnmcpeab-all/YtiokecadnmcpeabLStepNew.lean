import Derived.Test.YtiokecadnmcpeabLMadeYes
namespace Go.Proofs.Ytiokecadnmcpeab
set_option linter.unusedVariables false
set_option linter.unusedSimpArgs false
open Go.ChangeShapes Go.WideShapes Go.ChangeAt Go.RowKit
section
variable {w : World} {B wb T : Nat} {ps : List Pr} {va : Value}

set_option maxHeartbeats 3200000 in
set_option maxRecDepth 100000 in
theorem step_new (o : OpD) (hI : WInv w B wb ps va T) (hT : 6 ≤ T) (hps : ps.length * 16 + 16 ≤ 140737488355328) (ok : OpOk w o) (hk : o.kind = 2) (hne : 1 ≤ ps.length ∨ (NumFit o.seats o.delay o.rate o.cut o.length o.need ∧ StartFit o.l)) :
    Calls Try.prog 34 #[.pointer (some ⟨wb, 0, none⟩), .agg o.cells] w fun e w' => e = .returned (.bool true) ∧ ∃ ps' va', WInv w' B wb ps' va' T ∧ 1 ≤ ps'.length ∧ ps'.length ≤ ps.length + 1 ∧ Below B w w' := by
  have hb0 := (Below.refl w.heap.size w).alloc (Nat.le_refl _) (.cells o.cells 85)
  have hB : B ≤ w.heap.size := Nat.le_trans hI.lo (Nat.le_of_lt (lt_of_block hI.blk))
  have hm : Calls Try.prog 60 #[.pointer (some ⟨wb, 0, none⟩), .agg o.cells] (w.alloc (.cells o.cells 85)) fun e w' => e = .returned (.bool true) ∧ ∃ ps' va', WInv w' B wb ps' va' T ∧ 1 ≤ ps'.length ∧ ps'.length ≤ ps.length + 1 ∧ Below B w w' := by
    by_cases hn : NumFit o.seats o.delay o.rate o.cut o.length o.need ∧ StartFit o.l
    · refine (made_yes o _ (hI.below hb0) hT hps (ok.below hb0) hn.1 hn.2).mono ?_
      rintro e w' ⟨rfl, ps', va', h1, h2, h3⟩
      exact ⟨rfl, ps', va', h1, by omega, by omega, (hb0.mono hB).trans h3⟩
    · refine (made_no wb o _ (ok.below hb0) hn).mono ?_
      rintro e w' ⟨rfl, b⟩
      have b2 : Below w.heap.size w w' := hb0.trans (b.mono hb0.size)
      exact ⟨rfl, ps, va, hI.below b2, hne.resolve_right hn, by omega, b2.mono hB⟩
  have Hm := hid hm
  have k1 : (o.kind == 1) = false := by simp [hk]
  have k2 : (o.kind == 2) = true := by simp [hk]
  clear hm hk hb0
  unfold OpD.cells
  go_enter Try.func34, Try.ntmps34
  go_wp2_with fail
  refine Calls.mono Hm.out ?_
  rintro e w1 ⟨rfl, hh⟩
  have HH := hid hh
  clear hh Hm
  go_wp2_with fail
  go_ret
  exact ⟨rfl, HH.out⟩

end
end Go.Proofs.Ytiokecadnmcpeab
