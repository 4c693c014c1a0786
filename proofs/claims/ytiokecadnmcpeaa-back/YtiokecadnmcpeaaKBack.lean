import Derived.Test.YtiokecadnmcpeaaKDue
namespace Go.Proofs.Ytiokecadnmcpeaa
set_option linter.unusedVariables false
set_option linter.unusedSimpArgs false
open Go.ChangeShapes Go.WideShapes Go.ChangeAt Go.RowKit

theorem Try.info_ints : (Try.prog.info? 23).map (fun i => (i.zero, i.size, i.bytes)) = some (some (.slice none 0 0), 1, 24) := by kernel_rfl
/-- The rows of what was due ahead of Next: each a slice of its own. -/
structure Ahead (W : World) (B : Nat) (v : Value) (k D : Nat) (s : PS) (f : Nat → Nat × Nat) : Prop where
  row : W.ownsRow B 23 1 v k ((List.range k).map (fun i => Value.slice (some ⟨(f i).1, 0, none⟩) D (f i).2))
  off : ∀ i, i < k → v.ownBlock ≠ some (f i).1
  lo : ∀ i, i < k → B ≤ (f i).1
  lt : ∀ i, i < k → (f i).1 < W.heap.size
  cells : ∀ i, i < k → ∀ j, j < D → W.cell? ⟨(f i).1, j, none⟩ = some (.int .i64 ((s.acc i).q j))
section
variable {w W W' : World} {B k D : Nat} {v : Value} {s : PS} {f : Nat → Nat × Nat}
theorem Ahead.keeps {F : Nat → Prop} (h : Ahead W B v k D s f) (kk : Keeps F W W') (hF : ∀ q, B ≤ q → ¬ F q) : Ahead W' B v k D s f :=
  { h with
    row := kk.owns h.row (fun q hq => hF q (h.row.lt q hq).1)
    lt := fun i hi => Nat.lt_of_lt_of_le (h.lt i hi) kk.size
    cells := fun i hi j hj => kk.cell (h.cells i hi j hj) (hF _ (h.lo i hi)) }
theorem Ahead.below (h : Ahead W B v k D s f) (b : Below W.heap.size W W') : Ahead W' B v k D s f := h.keeps (F := fun _ => False) (Keeps.ofBelow b) (fun _ _ hf => hf)
theorem Ahead.nil (W : World) (B D : Nat) (s : PS) (f : Nat → Nat × Nat) : Ahead W B (.slice none 0 0) 0 D s f :=
  ⟨World.ownsRow_nil _ _ _ _, fun i hi => absurd hi (Nat.not_lt_zero i), fun i hi => absurd hi (Nat.not_lt_zero i), fun i hi => absurd hi (Nat.not_lt_zero i), fun i hi => absurd hi (Nat.not_lt_zero i)⟩
/-- One more row. -/
theorem Ahead.push {w2 w3 : World} {o : Obj} {g cp g1 cap1 : Nat} (h : Ahead w2 B v k D s f) (hd : w2.ownsRow B 3 1 (.slice (some ⟨g, 0, none⟩) D cp) D (s.dues k D)) (hgv : v.ownBlock ≠ some g)
    (hg : (w2.alloc o).grownBy w3 v.ownBlock) (hat : v.ownBlock = some g1 ∨ g1 = w2.heap.size + 1) (hown' : w3.ownsRow B 23 1 (.slice (some ⟨g1, 0, none⟩) (k + 1) cap1) (k + 1) ((List.range k).map (fun i => Value.slice (some ⟨(f i).1, 0, none⟩) D (f i).2) ++ [Value.slice (some ⟨g, 0, none⟩) D cp])) :
    Ahead w3 B (.slice (some ⟨g1, 0, none⟩) (k + 1) cap1) (k + 1) D s (fun i => if i = k then (g, cp) else f i) ∧ Keeps (fun q => v.ownBlock = some q) w2 w3 := by
  have kk : Keeps (fun q => v.ownBlock = some q) w2 w3 := ((Keeps.refl _ w2).alloc o).grown hg (fun q hq _ => hq)
  have hgl := hd.lt g rfl
  have hg1 : ∀ q, v.ownBlock ≠ some q → q < w2.heap.size → g1 ≠ q := fun q h1 h2 => by
    rcases hat with e | e
    · intro e2; subst e2; exact h1 e
    · omega
  refine ⟨⟨?_, fun i hi => ?_, fun i hi => ?_, fun i hi => ?_, fun i hi j hj => ?_⟩, kk⟩
  · have e : (List.range (k + 1)).map (fun i => Value.slice (some ⟨(if i = k then (g, cp) else f i).1, 0, none⟩) D (if i = k then (g, cp) else f i).2) = (List.range k).map (fun i => Value.slice (some ⟨(f i).1, 0, none⟩) D (f i).2) ++ [Value.slice (some ⟨g, 0, none⟩) D cp] := by
      rw [List.range_succ, List.map_append]
      congr 1
      · apply List.map_congr_left
        intro i hi
        have : i ≠ k := by have := List.mem_range.1 hi; omega
        rw [if_neg this]
      · simp
    rw [e]; exact hown'
  · simp only [Value.ownBlock, ne_eq, Option.some.injEq]
    by_cases e : i = k
    · rw [if_pos e]; exact hg1 g hgv hgl.2
    · rw [if_neg e]; exact hg1 _ (h.off i (by omega)) (h.lt i (by omega))
  · by_cases e : i = k
    · rw [if_pos e]; exact hgl.1
    · rw [if_neg e]; exact h.lo i (by omega)
  · by_cases e : i = k
    · rw [if_pos e]; exact Nat.lt_of_lt_of_le hgl.2 kk.size
    · rw [if_neg e]; exact Nat.lt_of_lt_of_le (h.lt i (by omega)) kk.size
  · by_cases e : i = k
    · rw [if_pos e]
      subst e
      exact kk.cell ((hd.cellAt j (by omega)).trans (s.dues_at i D j hj)) (fun h1 => hgv h1)
    · rw [if_neg e]
      exact kk.cell (h.cells i (by omega) j hj) (fun h1 => h.off i (by omega) h1)
theorem Ahead.at {g cap : Nat} (h : Ahead W B (.slice (some ⟨g, 0, none⟩) k cap) k D s f) {i : Nat} (hi : i < k) : W.cell? ⟨g, i, none⟩ = some (.slice (some ⟨(f i).1, 0, none⟩) D (f i).2) := by
  rw [h.row.cellAt i (by omega)]; simp [hi]
end
end Go.Proofs.Ytiokecadnmcpeaa
