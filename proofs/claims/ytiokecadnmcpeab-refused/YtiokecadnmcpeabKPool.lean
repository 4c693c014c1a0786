import Derived.Test.YtiokecadnmcpeabKPlay
import Derived.Test.YtiokecadnmcpeabPMake
namespace Go.Proofs.Ytiokecadnmcpeab
set_option linter.unusedVariables false
set_option linter.unusedSimpArgs false
open Go.ChangeShapes Go.WideShapes Go.ChangeAt Go.RowKit
section
variable {x : Nat} {s : PS}
theorem deposit_by (D : DepDo) (I : s.Inv) (o : StD) (ok : o.Ok) (hk : o.kind = 6) : ∃ er s', s.Did o er s' ∧ ∃ v : Int, ∀ W, SC W x s → Calls Try.prog 21 #[.pointer (some ⟨x, 0, none⟩), .int .i64 o.A, .int .i64 o.B] W fun e W' => e = .returned (.tuple #[.int .i64 v, .int .i64 er]) ∧ PTo W x W' s' := by
  have g := I.good
  have p := I.pool
  by_cases ha : 0 ≤ o.A ∧ o.A ≤ (s.N : Int) - 1
  · by_cases hn : 1 ≤ o.B ∧ o.B ≤ 1000000000
    · obtain ⟨i, hi⟩ := Int.eq_ofNat_of_zero_le ha.1
      rw [hi] at ha ⊢
      have hiN : i < s.N := by omega
      by_cases hf : (s.acc i).liquid < o.B
      · exact ⟨4, s, .no _ (by omega), 0, fun W hS => (D.funds hS g p i o.B hiN hn.1 hn.2 hf).mono (fun e W' ⟨h1, h2⟩ => ⟨h1, PTo.ofBelow hS h2⟩)⟩
      · by_cases hm : s.depMore o.B < 1
        · exact ⟨5, s, .no _ (by omega), 0, fun W hS => (D.small hS g p i o.B hiN hn.1 hn.2 (by omega) hm).mono (fun e W' ⟨h1, h2⟩ => ⟨h1, PTo.ofBelow hS h2⟩)⟩
        · by_cases hx : 1000000000 < s.allShares + s.depMore o.B
          · exact ⟨6, s, .no _ (by omega), 0, fun W hS => (D.full hS g p i o.B hiN hn.1 hn.2 (by omega) (by omega) hx).mono (fun e W' ⟨h1, h2⟩ => ⟨h1, PTo.ofBelow hS h2⟩)⟩
          · exact ⟨0, _, .deposit hk i o.B (s.depMore o.B) hiN hn.1 (by omega) rfl (by omega) (by omega), s.depMore o.B, fun W hS => D.ok hS g p i o.B hiN hn.1 hn.2 (by omega) (by omega) (by omega)⟩
    · exact ⟨3, s, .no _ (by omega), 0, fun W hS => (D.amount hS g p _ _ ha.1 ha.2 hn).mono (fun e W' ⟨h1, h2⟩ => ⟨h1, PTo.ofBelow hS h2⟩)⟩
  · exact ⟨2, s, .no _ (by omega), 0, fun W hS => (D.name hS g p _ _ ha).mono (fun e W' ⟨h1, h2⟩ => ⟨h1, PTo.ofBelow hS h2⟩)⟩
theorem leave_by (D : LeaDo) (I : s.Inv) (o : StD) (ok : o.Ok) (hk : o.kind = 7) : ∃ er s', s.Did o er s' ∧ ∃ v : Int, ∀ W, SC W x s → Calls Try.prog 22 #[.pointer (some ⟨x, 0, none⟩), .int .i64 o.A, .int .i64 o.B] W fun e W' => e = .returned (.tuple #[.int .i64 v, .int .i64 er]) ∧ PTo W x W' s' := by
  have g := I.good
  have p := I.pool
  by_cases ha : 0 ≤ o.A ∧ o.A ≤ (s.N : Int) - 1
  · by_cases hn : 1 ≤ o.B ∧ o.B ≤ 1000000000
    · obtain ⟨i, hi⟩ := Int.eq_ofNat_of_zero_le ha.1
      rw [hi] at ha ⊢
      have hiN : i < s.N := by omega
      by_cases hf : (s.acc i).shares < o.B
      · exact ⟨4, s, .no _ (by omega), 0, fun W hS => (D.funds hS g p i o.B hiN hn.1 hn.2 hf).mono (fun e W' ⟨h1, h2⟩ => ⟨h1, PTo.ofBelow hS h2⟩)⟩
      · by_cases hm : s.worth o.B < 1
        · exact ⟨5, s, .no _ (by omega), 0, fun W hS => (D.small hS g p i o.B hiN hn.1 hn.2 (by omega) hm).mono (fun e W' ⟨h1, h2⟩ => ⟨h1, PTo.ofBelow hS h2⟩)⟩
        · by_cases hx : (s.acc s.N).locked < s.worth o.B
          · exact ⟨7, s, .no _ (by omega), 0, fun W hS => (D.busy hS g p i o.B hiN hn.1 hn.2 (by omega) (by omega) hx).mono (fun e W' ⟨h1, h2⟩ => ⟨h1, PTo.ofBelow hS h2⟩)⟩
          · exact ⟨0, _, .leave hk i o.B hiN hn.1 (by omega) (show 1 ≤ s.worth o.B by omega) (show s.worth o.B ≤ _ by omega), s.worth o.B, fun W hS => D.ok hS g p i o.B hiN hn.1 hn.2 (by omega) (by omega) (by omega)⟩
    · exact ⟨3, s, .no _ (by omega), 0, fun W hS => (D.amount hS g p _ _ ha.1 ha.2 hn).mono (fun e W' ⟨h1, h2⟩ => ⟨h1, PTo.ofBelow hS h2⟩)⟩
  · exact ⟨2, s, .no _ (by omega), 0, fun W hS => (D.name hS g p _ _ ha).mono (fun e W' ⟨h1, h2⟩ => ⟨h1, PTo.ofBelow hS h2⟩)⟩
end
section
variable {x : Nat} {s : PS}
theorem deposit_do (I : s.Inv) (o : StD) (ok : o.Ok) (hk : o.kind = 6) : ∃ er s', s.Did o er s' ∧ ∃ v : Int, ∀ W, SC W x s → Calls Try.prog 21 #[.pointer (some ⟨x, 0, none⟩), .int .i64 o.A, .int .i64 o.B] W fun e W' => e = .returned (.tuple #[.int .i64 v, .int .i64 er]) ∧ PTo W x W' s' := deposit_by depDo I o ok hk
theorem leave_do (I : s.Inv) (o : StD) (ok : o.Ok) (hk : o.kind = 7) : ∃ er s', s.Did o er s' ∧ ∃ v : Int, ∀ W, SC W x s → Calls Try.prog 22 #[.pointer (some ⟨x, 0, none⟩), .int .i64 o.A, .int .i64 o.B] W fun e W' => e = .returned (.tuple #[.int .i64 v, .int .i64 er]) ∧ PTo W x W' s' := leave_by leaDo I o ok hk
end
end Go.Proofs.Ytiokecadnmcpeab
