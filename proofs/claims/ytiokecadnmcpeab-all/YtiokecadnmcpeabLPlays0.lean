import Derived.Test.YtiokecadnmcpeabLS
import Derived.Test.YtiokecadnmcpeabLStepD
import Derived.Test.YtiokecadnmcpeabLStepNew
namespace Go.Proofs.Ytiokecadnmcpeab
set_option linter.unusedVariables false
set_option linter.unusedSimpArgs false
open Go.ChangeShapes Go.WideShapes Go.ChangeAt Go.RowKit

/-- The example with which every play begins. -/
def exOp (lb : Nat) : OpD := ⟨2, 0, 0, 0, 0, 2, 2, 100, 100, 10, 500, [], none, 0, [1000, 500], some ⟨lb, 0, none⟩, 2⟩

theorem exOp_ok {w : World} {lb : Nat} (h0 : w.cell? ⟨lb, 0, none⟩ = some (.int .i64 1000)) (h1 : w.cell? ⟨lb, 1, none⟩ = some (.int .i64 500)) : OpOk w (exOp lb) := by
  refine ⟨.inr ⟨lb, 0, rfl, fun i hi => ?_⟩, by simp [exOp], rfl, rfl, rfl, rfl, rfl, rfl, rfl, rfl, rfl, rfl, rfl, ?_⟩
  · have hi2 : i < 2 := hi
    rcases (show i = 0 ∨ i = 1 by omega) with rfl | rfl
    · exact h0
    · exact h1
  · intro x hx
    have : x = 1000 ∨ x = 500 := by simpa [exOp] using hx
    rcases this with rfl | rfl <;> rfl
theorem exOp_fits (lb : Nat) : NumFit (exOp lb).seats (exOp lb).delay (exOp lb).rate (exOp lb).cut (exOp lb).length (exOp lb).need ∧ StartFit (exOp lb).l := by
  refine ⟨⟨by simp [exOp], by simp [exOp], by simp [exOp], by simp [exOp], by simp [exOp], by simp [exOp]⟩, ⟨by simp [exOp], by simp [exOp]⟩, fun k hk => ?_⟩
  have hk2 : k < 2 := hk
  rcases (show k = 0 ∨ k = 1 by omega) with rfl | rfl
  · exact ⟨by simp [exOp], by simp [exOp]⟩
  · exact ⟨by simp [exOp], by simp [exOp]⟩

theorem winv_start (w : World) : WInv (w.alloc (.cells #[.slice none 0 0] 82)) w.heap.size w.heap.size [] (.slice none 0 0) 6 where
  lo := Nat.le_refl _
  blk := heap_alloc_new w _
  own := World.ownsRow_nil _ _ _ _
  nwb := by simp [Value.ownBlock]
  ok := fun i hi => by simp at hi
  dis := fun i j hi => by simp at hi
  sw := fun i hi => by simp at hi
  sa := fun i hi => by simp at hi
  len := fun i hi => by simp at hi
  ep := fun i hi => by simp at hi

def InK (bb : Bool) (kind : Int) (n : Nat) : Prop := bb = true ↔ (2 ≤ kind ∧ kind < 2 + (n : Int))

end Go.Proofs.Ytiokecadnmcpeab
