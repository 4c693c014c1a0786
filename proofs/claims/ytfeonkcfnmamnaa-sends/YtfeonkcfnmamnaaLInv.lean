import Derived.Test.YtfeonkcfnmamnaaLMade
namespace Go.Proofs.Ytfeonkcfnmamnaa
set_option linter.unusedVariables false
set_option linter.unusedSimpArgs false
open Go.ChangeShapes Go.WideShapes Go.ChangeAt Go.RowKit

def RS.none : RS := ⟨0, 0, 0, 0, 0, 0, 0, [], [], [], 0, 0, [], [], []⟩
def Pr.none : Pr := ⟨0, 0, RS.none, fun _ => .slice .none 0 0, PS.zero⟩
def Pr.cells (p : Pr) : List Value := [.pointer (some ⟨p.x, 0, .none⟩), .pointer (some ⟨p.y, 0, .none⟩)]

/-- All chains so far. -/
structure WInv (w : World) (B wb : Nat) (ps : List Pr) (va : Value) (T : Nat) : Prop where
  lo : B ≤ wb
  blk : w.heap[wb]? = some (.cells #[va] 67 (0, 0))
  own : w.ownsRow B 106 2 va ps.length (ps.flatMap Pr.cells)
  nwb : va.ownBlock ≠ some wb
  ok : ∀ i, i < ps.length → PrOk w B (ps.getD i Pr.none)
  dis : ∀ i j, i < ps.length → j < ps.length → i ≠ j → ∀ k, PFoot (ps.getD i Pr.none) k → ¬ PFoot (ps.getD j Pr.none) k
  sw : ∀ i, i < ps.length → ¬ PFoot (ps.getD i Pr.none) wb
  sa : ∀ i, i < ps.length → ∀ k, va.ownBlock = some k → ¬ PFoot (ps.getD i Pr.none) k
  len : ∀ i, i < ps.length → (ps.getD i Pr.none).r.book.length ≤ T
  ep : ∀ i, i < ps.length → (ps.getD i Pr.none).r.epoch ≤ (T : Int)

section
variable {w w' : World} {B wb T : Nat} {ps : List Pr} {va : Value}

theorem WInv.below (h : WInv w B wb ps va T) (b : Below w.heap.size w w') : WInv w' B wb ps va T :=
  { h with
    blk := (b.block _ (lt_of_block h.blk)).trans h.blk
    own := (Keeps.ofBelow (F := fun _ => False) b).owns h.own (fun _ _ hf => hf)
    ok := fun i hi => (h.ok i hi).below b }

theorem WInv.more (h : WInv w B wb ps va T) {T' : Nat} (hT : T ≤ T') : WInv w B wb ps va T' :=
  { h with len := fun i hi => Nat.le_trans (h.len i hi) hT, ep := fun i hi => by have := h.ep i hi; omega }

theorem getD_set_same (l : List Pr) (i : Nat) (p : Pr) (hi : i < l.length) : (l.set i p).getD i Pr.none = p := by
  simp [List.getD, hi]
theorem getD_set_other (l : List Pr) (i j : Nat) (p : Pr) (hij : j ≠ i) : (l.set i p).getD j Pr.none = l.getD j Pr.none := by
  simp [List.getD, List.getElem?_set, show ¬ i = j from fun e => hij e.symm]
theorem cells_set (l : List Pr) (i : Nat) (p : Pr) (hi : i < l.length) (hx : p.x = (l.getD i Pr.none).x) (hy : p.y = (l.getD i Pr.none).y) : (l.set i p).flatMap Pr.cells = l.flatMap Pr.cells := by
  induction l generalizing i with
  | nil => simp at hi
  | cons q l ih =>
    cases i with
    | zero =>
      simp only [List.set_cons_zero, List.flatMap_cons]
      have e : p.cells = q.cells := by
        unfold Pr.cells
        rw [hx, hy]; rfl
      rw [e]
    | succ i =>
      simp only [List.set_cons_succ, List.flatMap_cons]
      rw [ih i (by simpa using hi) hx hy]

/-- One call on a pair leaves all others. -/
theorem WInv.turn (h : WInv w B wb ps va T) (i : Nat) (hi : i < ps.length) {d : Nat} {p' : Pr} (t : Turned d w w' B (ps.getD i Pr.none) p') : WInv w' B wb (ps.set i p') va (T + d) where
  lo := h.lo
  blk := (t.keeps.block _ (lt_of_block h.blk) (h.sw i hi)).trans h.blk
  own := by
    rw [cells_set ps i p' hi t.x t.y, List.length_set]
    exact t.keeps.owns h.own (fun k hk => h.sa i hi k hk)
  nwb := h.nwb
  ok := fun j hj => by
    rw [List.length_set] at hj
    by_cases e : j = i
    · subst e; rw [getD_set_same _ _ _ hi]; exact t.ok
    · rw [getD_set_other _ _ _ _ e]
      exact (h.ok j hj).keeps t.keeps (fun b hb => h.dis j i hj hi e b hb)
  dis := fun a b ha hb hab k hk hk2 => by
    rw [List.length_set] at ha hb
    by_cases e : a = i
    · subst e
      rw [getD_set_same _ _ _ hi] at hk
      rw [getD_set_other _ _ _ _ (fun e => hab e.symm)] at hk2
      rcases t.foot k hk with h1 | h1
      · exact h.dis a b hi hb hab k h1 hk2
      · have := ((h.ok b hb).lt hk2).2; omega
    · rw [getD_set_other _ _ _ _ e] at hk
      by_cases e2 : b = i
      · subst e2
        rw [getD_set_same _ _ _ hi] at hk2
        rcases t.foot k hk2 with h1 | h1
        · exact h.dis a b ha hi e k hk h1
        · have := ((h.ok a ha).lt hk).2; omega
      · rw [getD_set_other _ _ _ _ e2] at hk2
        exact h.dis a b ha hb hab k hk hk2
  sw := fun j hj hk => by
    rw [List.length_set] at hj
    by_cases e : j = i
    · subst e
      rw [getD_set_same _ _ _ hi] at hk
      rcases t.foot _ hk with h1 | h1
      · exact h.sw j hi h1
      · have := lt_of_block h.blk; omega
    · rw [getD_set_other _ _ _ _ e] at hk
      exact h.sw j hj hk
  sa := fun j hj k hv hk => by
    rw [List.length_set] at hj
    by_cases e : j = i
    · subst e
      rw [getD_set_same _ _ _ hi] at hk
      rcases t.foot _ hk with h1 | h1
      · exact h.sa j hi k hv h1
      · have := (h.own.lt k hv).2; omega
    · rw [getD_set_other _ _ _ _ e] at hk
      exact h.sa j hj k hv hk
  len := fun j hj => by
    rw [List.length_set] at hj
    by_cases e : j = i
    · subst e
      rw [getD_set_same _ _ _ hi]
      have := t.len
      have := h.len j hi
      omega
    · rw [getD_set_other _ _ _ _ e]
      have := h.len j hj
      omega
  ep := fun j hj => by
    rw [List.length_set] at hj
    by_cases e : j = i
    · subst e
      rw [getD_set_same _ _ _ hi]
      have := t.ep
      have := h.ep j hi
      omega
    · rw [getD_set_other _ _ _ _ e]
      have := h.ep j hj
      omega

theorem getD_snoc_old (l : List Pr) (p : Pr) (i : Nat) (hi : i < l.length) : (l ++ [p]).getD i Pr.none = l.getD i Pr.none := by
  simp [List.getD, List.getElem?_append_left hi]
theorem getD_snoc_new (l : List Pr) (p : Pr) : (l ++ [p]).getD l.length Pr.none = p := by
  simp [List.getD]

/-- One chain more. -/
theorem WInv.push (h : WInv w B wb ps va T) {p : Pr} (hp : PrOk w B p) {n0 : Nat} (hnew : ∀ k, PFoot p k → n0 ≤ k) (hold : ∀ k, k = wb ∨ va.ownBlock = some k ∨ (∃ i, i < ps.length ∧ PFoot (ps.getD i Pr.none) k) → k < n0) (hlen : p.r.book.length ≤ T) (hep : p.r.epoch ≤ (T : Int))
    {w1 : World} {o : Obj} {g cap : Nat} (hown : w1.ownsRow B 106 2 (.slice (some ⟨g, 0, .none⟩) (ps.length + 1) cap) (ps.length + 1) (ps.flatMap Pr.cells ++ p.cells)) (hg : (w.alloc o).grownBy w1 va.ownBlock) (hat : va.ownBlock = some g ∨ g = w.heap.size + 1) :
    WInv (w1.setCell ⟨wb, 0, .none⟩ (.slice (some ⟨g, 0, .none⟩) (ps.length + 1) cap)) B wb (ps ++ [p]) (.slice (some ⟨g, 0, .none⟩) (ps.length + 1) cap) T ∧ Below B w (w1.setCell ⟨wb, 0, .none⟩ (.slice (some ⟨g, 0, .none⟩) (ps.length + 1) cap)) ∧ w1.cell? ⟨wb, 0, .none⟩ = some va ∧ w1.frozen? ⟨wb, 0, .none⟩ = false := by
  have hwb := lt_of_block h.blk
  have k1 : Keeps (fun k => va.ownBlock = some k) w w1 := ((Keeps.refl _ w).alloc o).grown hg (fun k hk _ => hk)
  have kf : Keeps (fun k => k = wb ∨ va.ownBlock = some k) w (w1.setCell ⟨wb, 0, .none⟩ (.slice (some ⟨g, 0, .none⟩) (ps.length + 1) cap)) := (k1.mono (fun _ _ h => .inr h)).setCell ⟨wb, 0, .none⟩ _ (fun _ => .inl rfl)
  have b1 : w1.heap[wb]? = some (.cells #[va] 67 (0, 0)) := (k1.block wb hwb h.nwb).trans h.blk
  have hgw : g ≠ wb := by
    rcases hat with h1 | h1
    · intro e; exact h.nwb (by rw [h1, e])
    · omega
  have farO : ∀ i, i < ps.length → ∀ b, PFoot (ps.getD i Pr.none) b → ¬ (b = wb ∨ va.ownBlock = some b) := by
    rintro i hi b hb (rfl | hv)
    · exact h.sw i hi hb
    · exact h.sa i hi b hv hb
  have farN : ∀ b, PFoot p b → ¬ (b = wb ∨ va.ownBlock = some b) := by
    rintro b hb hh
    have := hnew b hb
    have := hold b (hh.elim .inl (fun e => .inr (.inl e)))
    omega
  refine ⟨⟨h.lo, ?_, ?_, ?_, ?_, ?_, ?_, ?_, ?_, ?_⟩, kf.below (B := B) (Nat.le_trans h.lo (Nat.le_of_lt hwb)) ?_, cell_of_row w1 wb 0 _ _ _ b1, frozen_of_row w1 wb 0 _ _ b1⟩
  · exact heap_setCell_same w1 wb 0 _ _ _ b1
  · rw [List.flatMap_append, List.length_append]
    refine own_setCell ?_ _ _ (by simp only [Value.ownBlock, ne_eq, Option.some.injEq]; exact hgw)
    simpa using hown
  · simp only [Value.ownBlock, ne_eq, Option.some.injEq]; exact hgw
  · intro i hi
    rw [List.length_append] at hi
    by_cases e : i < ps.length
    · rw [getD_snoc_old _ _ _ e]; exact (h.ok i e).keeps kf (farO i e)
    · obtain rfl : i = ps.length := by simp at hi; omega
      rw [getD_snoc_new]; exact hp.keeps kf farN
  · intro i j hi hj hij k hk hk2
    rw [List.length_append] at hi hj
    simp only [List.length_singleton] at hi hj
    by_cases e : i < ps.length
    · rw [getD_snoc_old _ _ _ e] at hk
      by_cases e2 : j < ps.length
      · rw [getD_snoc_old _ _ _ e2] at hk2
        exact h.dis i j e e2 hij k hk hk2
      · obtain rfl : j = ps.length := by omega
        rw [getD_snoc_new] at hk2
        have := hnew k hk2
        have := hold k (.inr (.inr ⟨i, e, hk⟩))
        omega
    · obtain rfl : i = ps.length := by omega
      rw [getD_snoc_new] at hk
      have e2 : j < ps.length := by omega
      rw [getD_snoc_old _ _ _ e2] at hk2
      have := hnew k hk
      have := hold k (.inr (.inr ⟨j, e2, hk2⟩))
      omega
  · intro i hi hk
    rw [List.length_append] at hi
    by_cases e : i < ps.length
    · rw [getD_snoc_old _ _ _ e] at hk; exact h.sw i e hk
    · obtain rfl : i = ps.length := by simp at hi; omega
      rw [getD_snoc_new] at hk
      exact farN wb hk (.inl rfl)
  · intro i hi k hv hk
    simp only [Value.ownBlock, Option.some.injEq] at hv
    subst hv
    rw [List.length_append] at hi
    by_cases e : i < ps.length
    · rw [getD_snoc_old _ _ _ e] at hk
      rcases hat with h1 | h1
      · exact h.sa i e _ h1 hk
      · have := ((h.ok i e).lt hk).2; omega
    · obtain rfl : i = ps.length := by simp at hi; omega
      rw [getD_snoc_new] at hk
      rcases hat with h1 | h1
      · exact farN _ hk (.inr h1)
      · have := (hp.lt hk).2; omega
  · intro i hi
    rw [List.length_append] at hi
    by_cases e : i < ps.length
    · rw [getD_snoc_old _ _ _ e]; exact h.len i e
    · obtain rfl : i = ps.length := by simp at hi; omega
      rw [getD_snoc_new]; exact hlen
  · intro i hi
    rw [List.length_append] at hi
    by_cases e : i < ps.length
    · rw [getD_snoc_old _ _ _ e]; exact h.ep i e
    · obtain rfl : i = ps.length := by simp at hi; omega
      rw [getD_snoc_new]; exact hep
  · rintro i (rfl | hv)
    · exact h.lo
    · exact (h.own.lt i hv).1
end
end Go.Proofs.Ytfeonkcfnmamnaa
