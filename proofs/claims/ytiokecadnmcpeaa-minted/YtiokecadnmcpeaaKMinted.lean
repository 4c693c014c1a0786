import Derived.Test.YtiokecadnmcpeaaKMint
namespace Go.Proofs.Ytiokecadnmcpeaa
set_option linter.unusedVariables false
set_option linter.unusedSimpArgs false
open Go.ChangeShapes Go.WideShapes Go.ChangeAt Go.RowKit

/-- Who was slashed, by the law's own list. -/
structure Sl (W : World) (gs x gc n lo : Nat) (f : Nat → Bool) : Prop where
  cells : ∀ i, i < n → W.cell? ⟨gs, i, none⟩ = some (.bool (f i))
  fro : ∀ i, W.frozen? ⟨gs, i, none⟩ = false
  nx : gs ≠ x
  ng : gs ≠ gc
  lo : lo ≤ gs
  lt : gs < W.heap.size
section
variable {w W W' : World} {gs x gc n lo k : Nat} {f g : Nat → Bool} {c : Rules} {s s' : PS} {o : StD} {er : Int}
theorem Sl.blk (h : Sl W gs x gc n lo f) (hz : W.heap.size ≤ W'.heap.size) (hb : W'.heap[gs]? = W.heap[gs]?) : Sl W' gs x gc n lo f :=
  { h with cells := fun i hi => (World.cell?_of_block (a := ⟨gs, i, none⟩) hb).trans (h.cells i hi), fro := fun i => (World.frozen?_of_block (a := ⟨gs, i, none⟩) hb).trans (h.fro i), lt := Nat.lt_of_lt_of_le h.lt hz }
theorem Sl.below (h : Sl W gs x gc n lo f) (b : Below W.heap.size W W') : Sl W' gs x gc n lo f := h.blk b.size (b.block gs h.lt)
theorem Sl.to (h : Sl W gs x gc n lo f) (t : PTo W x W' s') : Sl W' gs x gc n lo f := h.blk t.keeps.size (t.keeps.block gs h.lt (fun e => h.nx e))
theorem Sl.congr (h : Sl W gs x gc n lo f) (e : ∀ i, f i = g i) : Sl W gs x gc n lo g := { h with cells := fun i hi => by rw [← e i]; exact h.cells i hi }
theorem Sl.set (h : Sl W gs x gc n lo f) (i : Nat) (hi : i < n) : Sl (W.setCell ⟨gs, i, none⟩ (.bool true)) gs x gc n lo (fun j => if j = i then true else f j) where
  cells := fun j hj => by
    by_cases e : j = i
    · subst e; rw [if_pos rfl]; exact World.cell?_setCell_same _ _ _ (h.cells j hj)
    · rw [if_neg e, World.cell?_setCell_other _ _ _ _ (by intro e2; simp only [Addr.mk.injEq] at e2; exact e e2.2.1.symm)]; exact h.cells j hj
  fro := fun j => (World.frozen?_setCell _ _ _ _).trans (h.fro j)
  nx := h.nx
  ng := h.ng
  lo := h.lo
  lt := by simpa using h.lt
theorem KInv.setSl (h : KInv w x gc c W s k) (l : Sl W gs x gc n w.heap.size f) (i : Nat) (u : Value) : KInv w x gc c (W.setCell ⟨gs, i, none⟩ u) s k := by
  have kk : Keeps (fun q => q = gs) W (W.setCell ⟨gs, i, none⟩ u) := (Keeps.refl (fun q => q = gs) W).setCell ⟨gs, i, none⟩ u (fun _ => rfl)
  exact { h with
    sc := h.sc.keeps kk (fun e => l.nx e.symm)
    cfg := (kk.block _ (lt_of_block h.cfg) (fun e => l.ng e.symm)).trans h.cfg
    bel := h.bel.trans (kk.below h.bel.size (fun j hj => by have : j = gs := hj; subst this; exact l.lo)) }
theorem PS.Did.che (h : s.Did o er s') (hk3 : o.kind ≠ 3) : (o.kind = 5 ∧ er = 0 ∧ ∃ a : Nat, o.A = a ∧ a ≤ s.N ∧ ∀ i, (s'.acc i).cheated = if i = a then true else (s.acc i).cheated) ∨ (¬ (o.kind = 5 ∧ er = 0) ∧ ∀ i, (s'.acc i).cheated = (s.acc i).cheated) := by
  cases h using PS.Did.which with
  | no _ h => exact .inr ⟨fun e => h e.2, fun _ => rfl⟩
  | idle h1 h5 => exact .inr ⟨fun e => h5 e.1, fun _ => rfl⟩
  | send hk a b n ha hb h0 hf => exact .inr ⟨fun e => by omega, fun i => (s.send_fields a b n i).2.2.2.2.2.2⟩
  | bid hk a n ha h0 h1 hf => exact .inr ⟨fun e => by omega, fun i => (s.bid_fields a n i).2.2.2.2⟩
  | next hk => exact absurd hk hk3
  | make hk k hl => exact .inr ⟨fun e => by omega, fun _ => rfl⟩
  | slash hk a hA ha hz => exact .inl ⟨hk, rfl, a, hA, ha, fun i => (PS.slash_fields s a i).2.2.2.2.2.2⟩
  | deposit hk a n m ha h0 hf hm hm1 hs => exact .inr ⟨fun e => by omega, fun i => (s.deposit_fields ha n m i).2.2.2.2.2.2⟩
  | leave hk a n ha h0 hf hm1 hs => exact .inr ⟨fun e => by omega, fun i => (s.leave_fields ha n _ i).2.2.2.2.2.2⟩
end
theorem Try.info_bool : (Try.prog.info? 4).map (fun i => (i.zero, i.size, i.bytes)) = some (some (.bool false), 1, 1) := by kernel_rfl
theorem made_false (n j : Nat) (hj : j < n) : (madeCells (Value.bool false).cells (n * 1)).toList[j]? = some (.bool false) := by
  simp [madeCells, Value.cells, hj, Nat.mod_one]
/-- A new list. -/
theorem sl_new {w W W' : World} {x gc n : Nat} (hx : x < W.heap.size) (hg : gc < W.heap.size) (hl : w.heap.size ≤ W.heap.size) (hn : 0 < n) (ho : W'.ownsRow w.heap.size 4 1 (.slice (some ⟨W.heap.size, 0, none⟩) n n) n (madeCells (Value.bool false).cells (n * 1)).toList) : Sl W' W.heap.size x gc n w.heap.size (fun _ => false) where
  cells := fun i hi => by rw [ho.cellAt i (by omega)]; exact made_false n i hi
  fro := fun i => ho.frozenAt i
  nx := by omega
  ng := by omega
  lo := hl
  lt := block_lt_of_cell ((ho.cellAt 0 (by omega)).trans (made_false n 0 hn))
end Go.Proofs.Ytiokecadnmcpeaa
