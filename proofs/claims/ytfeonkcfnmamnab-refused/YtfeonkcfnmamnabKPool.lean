import Derived.Test.YtfeonkcfnmamnabKPlay
namespace Go.Proofs.Ytfeonkcfnmamnab
set_option linter.unusedVariables false
set_option linter.unusedSimpArgs false
open Go.ChangeShapes Go.WideShapes Go.ChangeAt Go.RowKit
section
variable {x : Nat} {s : PS}
theorem deposit_do (I : s.Inv) (o : StD) (ok : o.Ok) (hk : o.kind = 6) : ∃ er s', s.Did o er s' ∧ ∃ v : Int, ∀ W, SC W x s → Calls Try.prog 19 #[.pointer (some ⟨x, 0, none⟩), .int .i64 o.A, .int .i64 o.B] W fun e W' => e = .returned (.tuple #[.int .i64 v, .int .i64 er]) ∧ PTo W x W' s' := by
  refine ⟨0, s, .idle (by omega) (by omega), 0, fun W hS => ?_⟩
  go_enter Try.func19, Try.ntmps19
  go_wp2_with fail
  go_ret2
  exact ⟨rfl, PTo.refl hS⟩
theorem leave_do (I : s.Inv) (o : StD) (ok : o.Ok) (hk : o.kind = 7) : ∃ er s', s.Did o er s' ∧ ∃ v : Int, ∀ W, SC W x s → Calls Try.prog 20 #[.pointer (some ⟨x, 0, none⟩), .int .i64 o.A, .int .i64 o.B] W fun e W' => e = .returned (.tuple #[.int .i64 v, .int .i64 er]) ∧ PTo W x W' s' := by
  refine ⟨0, s, .idle (by omega) (by omega), 0, fun W hS => ?_⟩
  go_enter Try.func20, Try.ntmps20
  go_wp2_with fail
  go_ret2
  exact ⟨rfl, PTo.refl hS⟩
end
end Go.Proofs.Ytfeonkcfnmamnab
