import Derived.Test.YtfeonkcfnmamnaaRefSee
namespace Go.Proofs.Ytfeonkcfnmamnaa
set_option linter.unusedVariables false
set_option linter.unusedSimpArgs false
open Go.ChangeShapes Go.WideShapes Go.ChangeAt Go.RowKit

/-- What an append to a slice of a chain, stored back, comes to. -/
theorem turn_of_append {w w1 : World} {o : Obj} {B y : Nat} {r : RS} {v : Nat → Value} {i idx n g cap e size : Nat} {xs : List Value} (h : RC w B y r v) (hi : i < 6) (hidx : w.cell? ⟨y, idx, none⟩ = some (v i))
    (hown : w1.ownsRow B e size (.slice (some ⟨g, 0, none⟩) n cap) n xs) (hg : (w.alloc o).grownBy w1 (v i).ownBlock) (hat : (v i).ownBlock = some g ∨ g = w.heap.size + 1) :
    Turn w (w1.setCell ⟨y, idx, none⟩ (.slice (some ⟨g, 0, none⟩) n cap)) y v i idx (.slice (some ⟨g, 0, none⟩) n cap) ∧ (w1.setCell ⟨y, idx, none⟩ (.slice (some ⟨g, 0, none⟩) n cap)).ownsRow B e size (.slice (some ⟨g, 0, none⟩) n cap) n xs ∧
      (∀ j, w1.cell? ⟨y, j, none⟩ = w.cell? ⟨y, j, none⟩) ∧ (∀ j, w1.frozen? ⟨y, j, none⟩ = w.frozen? ⟨y, j, none⟩) := by
  have hyb := (h.lt (.inl rfl)).2
  have hgy : g ≠ y := by
    rcases hat with h1 | h1
    · intro e2; subst e2; exact h.ny i hi h1
    · omega
  have k1 : Keeps (fun k => (v i).ownBlock = some k) w w1 := ((Keeps.refl _ w).alloc o).grown hg (fun k hk _ => hk)
  have hyk : ∀ j, w1.cell? ⟨y, j, none⟩ = w.cell? ⟨y, j, none⟩ := fun j => World.cell?_of_block (k1.block y hyb (h.ny i hi))
  have hyf : ∀ j, w1.frozen? ⟨y, j, none⟩ = w.frozen? ⟨y, j, none⟩ := fun j => World.frozen?_of_block (k1.block y hyb (h.ny i hi))
  refine ⟨⟨(k1.mono (fun _ _ h => .inr h)).setCell _ _ (fun _ => .inl rfl), ?_, ?_, setCell_same ((hyk idx).trans hidx), fun j hj => ?_, fun j => ?_⟩, own_setCell hown _ _ (by simp [Value.ownBlock]; exact hgy), hyk, hyf⟩
  · intro q hq
    simp only [Value.ownBlock, Option.some.injEq] at hq
    subst hq
    exact hat.elim .inl (fun e2 => .inr (by omega))
  · simp [Value.ownBlock]; exact hgy
  · rw [← hyk j]
    exact World.cell?_setCell_other _ _ _ _ (by intro e2; simp only [Addr.mk.injEq] at e2; omega)
  · rw [← hyf j]
    exact World.frozen?_setCell _ _ _ _

theorem one_lies (w : World) (u : Value) (t : TypeId) : ∀ j x, [u][j]? = some x → (w.alloc (.cells #[u] t)).cell? ((⟨w.heap.size, 0, none⟩ : Addr).add j) = some x := by
  intro j x hj
  match j, hj with
  | 0, hj => simp at hj; subst hj; simp [Addr.add]
theorem one_lies' (w : World) (u : Value) (t : TypeId) (n : Nat) (hn : n = w.heap.size) : ∀ j x, [u][j]? = some x → (w.alloc (.cells #[u] t)).cell? ((⟨n, 0, none⟩ : Addr).add j) = some x := by
  subst hn; exact one_lies w u t
end Go.Proofs.Ytfeonkcfnmamnaa
