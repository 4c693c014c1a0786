import Derived.Test.YtiokecadnmcpeabRows
import Derived.Test.YtiokecadnmcpeabBook
import Derived.Test.YtiokecadnmcpeabKeeps
import Derived.ProofKit
namespace Go.Proofs.Ytiokecadnmcpeab
set_option linter.unusedVariables false
set_option linter.unusedSimpArgs false
open Go.ChangeShapes Go.WideShapes Go.ChangeAt Go.RowKit

theorem Try.info_move : (Try.prog.info? 135).map (fun i => (i.zero, i.size, i.bytes)) = some (some (.agg #[.int .i64 0, .int .i64 0, .int .i64 0, .int .i64 0, .int .i64 0, .int .i64 0, .int .i64 0]), 7, 56) := by kernel_rfl

theorem own_form {w : World} {B e size n : Nat} {v : Value} {xs : List Value} (h : w.ownsRow B e size v n xs) (hn : 0 < n) : ∃ g cap, v = .slice (some ⟨g, 0, none⟩) n cap := by
  rcases h.2 with ⟨_, h0⟩ | ⟨g, cap, cur, rfl, _⟩
  · omega
  · exact ⟨g, cap, rfl⟩

theorem mv_lies (w : World) (m : Mv) : ∀ j u, m.cells[j]? = some u → (w.alloc (.cells #[.int .i64 m.fk, .int .i64 m.fa, .int .i64 m.fe, .int .i64 m.tk, .int .i64 m.ta, .int .i64 m.te, .int .i64 m.n] 135)).cell? ((⟨w.heap.size, 0, none⟩ : Addr).add j) = some u := by
  intro j u hj
  rw [add_plain, Nat.zero_add, World.cell?_alloc_at _ _ _ _ rfl]
  simpa [Mv.cells] using hj

theorem mv_one (m : Mv) : ∀ u ∈ m.cells, u.oneCell' = true := by
  intro u hu
  simp only [Mv.cells, List.mem_cons, List.not_mem_nil, or_false] at hu
  rcases hu with rfl | rfl | rfl | rfl | rfl | rfl | rfl <;> rfl

theorem move_cell {W w1 : World} {o : Obj} {vb v : Value} {y : Nat} (hg : (W.alloc o).drew.grownBy w1 vb.ownBlock) (hne : vb.ownBlock ≠ some y) (hy : W.cell? ⟨y, 8, none⟩ = some v) : w1.cell? ⟨y, 8, none⟩ = some v := by
  have h1 : (W.alloc o).drew.cell? ⟨y, 8, none⟩ = some v := by
    have : (W.alloc o).cell? ⟨y, 8, none⟩ = some v := by rw [World.cell?_alloc_past _ _ _ (block_lt_of_cell hy)]; exact hy
    exact this
  rw [← h1]
  exact World.cell?_of_block (hg.block y (block_lt_of_cell h1) (fun e => hne e.symm))

theorem move_frozen {W w1 : World} {o : Obj} {vb v : Value} {y : Nat} (hg : (W.alloc o).drew.grownBy w1 vb.ownBlock) (hne : vb.ownBlock ≠ some y) (hy : W.cell? ⟨y, 8, none⟩ = some v) (hf : W.frozen? ⟨y, 8, none⟩ = false) : w1.frozen? ⟨y, 8, none⟩ = false := by
  have hb : Below W.heap.size W ((W.alloc o).drew) := ((Below.refl _ _).alloc (Nat.le_refl _) _).drew
  have hlt : y < (W.alloc o).drew.heap.size := Nat.lt_of_lt_of_le (block_lt_of_cell hy) hb.size
  rw [World.frozen?_of_block (hg.block y hlt (fun e => hne e.symm))]
  exact (hb.frozen (p := ⟨y, 8, none⟩) (block_lt_of_cell hy)).trans hf

theorem own_setCell {w : World} {B e size n : Nat} {v : Value} {xs : List Value} (h : w.ownsRow B e size v n xs) (p : Addr) (u : Value) (hp : v.ownBlock ≠ some p.block) : (w.setCell p u).ownsRow B e size v n xs :=
  (Keeps.setCell (F := fun k => k = p.block) (Keeps.refl _ w) p u (fun _ => rfl)).owns h (fun k hk e => hp (by rw [hk, e]))

theorem setCell_same {w : World} {p : Addr} {v u : Value} (h : w.cell? p = some v) : (w.setCell p u).cell? p = some u :=
  World.cell?_setCell_same _ _ _ h

theorem move_post {W w w1 : World} {o : Obj} {B y : Nat} {vb : Value} {b : List Mv} {m : Mv} {g cap : Nat} (hyb : y < w.heap.size) (hWk : Below w.heap.size w W) (hB : B ≤ w.heap.size) (hne : vb.ownBlock ≠ some y)
    (hy1 : w1.cell? ⟨y, 8, none⟩ = some vb)
    (hown' : w1.ownsRow B 135 7 (.slice (some ⟨g, 0, none⟩) (b.length + 1) cap) (b.length + 1) (bookCells b ++ m.cells)) (hg : (W.alloc o).drew.grownBy w1 vb.ownBlock) (hat : vb.ownBlock = some g ∨ g = w.heap.size + 3) (hlt : g < w1.heap.size) :
    ∃ g' cap', (w1.setCell ⟨y, 8, none⟩ (.slice (some ⟨g, 0, none⟩) (b.length + 1) cap)).cell? ⟨y, 8, none⟩ = some (.slice (some ⟨g', 0, none⟩) (b.length + 1) cap') ∧ (w1.setCell ⟨y, 8, none⟩ (.slice (some ⟨g, 0, none⟩) (b.length + 1) cap)).ownsRow B 135 7 (.slice (some ⟨g', 0, none⟩) (b.length + 1) cap') (b.length + 1) (bookCells (b ++ [m])) ∧
        Keeps (fun k => k = y ∨ vb.ownBlock = some k) w (w1.setCell ⟨y, 8, none⟩ (.slice (some ⟨g, 0, none⟩) (b.length + 1) cap)) ∧ (vb.ownBlock = some g' ∨ w.heap.size ≤ g') ∧ g' ≠ y ∧ (∀ j, j ≠ 8 → (w1.setCell ⟨y, 8, none⟩ (.slice (some ⟨g, 0, none⟩) (b.length + 1) cap)).cell? ⟨y, j, none⟩ = w.cell? ⟨y, j, none⟩) ∧ (∀ j, (w1.setCell ⟨y, 8, none⟩ (.slice (some ⟨g, 0, none⟩) (b.length + 1) cap)).frozen? ⟨y, j, none⟩ = w.frozen? ⟨y, j, none⟩) := by
  have hgy : g ≠ y := by
    rcases hat with h | h
    · intro e; subst e; exact hne h
    · omega
  have k1 : Keeps (fun k => vb.ownBlock = some k) w w1 := ((Keeps.ofBelow hWk).alloc o).drew.grown hg (fun k hk _ => hk)
  have hyk : ∀ j, w1.cell? ⟨y, j, none⟩ = w.cell? ⟨y, j, none⟩ := fun j => World.cell?_of_block (k1.block y hyb hne)
  have hyf : ∀ j, w1.frozen? ⟨y, j, none⟩ = w.frozen? ⟨y, j, none⟩ := fun j => World.frozen?_of_block (k1.block y hyb hne)
  refine ⟨g, cap, setCell_same hy1, ?_, ?_, ?_, hgy, ?_, ?_⟩
  · rw [bookCells_snoc]
    exact own_setCell hown' _ _ (by simp [Value.ownBlock]; exact hgy)
  · exact (k1.mono (fun _ _ h => .inr h)).setCell _ _ (fun _ => .inl rfl)
  · rcases hat with h | h
    · exact .inl h
    · exact .inr (by omega)
  · intro j hj
    rw [← hyk j]
    exact World.cell?_setCell_other _ _ _ _ (by intro e; simp only [Addr.mk.injEq] at e; omega)
  · intro j
    rw [← hyf j]
    exact World.frozen?_setCell _ _ _ _

set_option maxHeartbeats 1000000 in
set_option maxRecDepth 100000 in
theorem move_any (B y : Nat) (vb : Value) (b : List Mv) (m : Mv) (w : World) (hB : B ≤ w.heap.size) (hy : w.cell? ⟨y, 8, none⟩ = some vb) (hyf : w.frozen? ⟨y, 8, none⟩ = false) (hne : vb.ownBlock ≠ some y)
    (hown : w.ownsRow B 135 7 vb b.length (bookCells b)) (hl : b.length * 56 + 56 ≤ 140737488355328) :
    Calls Try.prog 91 #[.pointer (some ⟨y, 0, none⟩), .agg #[.int .i64 m.fk, .int .i64 m.fa, .int .i64 m.fe], .agg #[.int .i64 m.tk, .int .i64 m.ta, .int .i64 m.te], .int .i64 m.n] w fun e w' =>
      e = .returned (.tuple #[]) ∧ ∃ g cap, w'.cell? ⟨y, 8, none⟩ = some (.slice (some ⟨g, 0, none⟩) (b.length + 1) cap) ∧ w'.ownsRow B 135 7 (.slice (some ⟨g, 0, none⟩) (b.length + 1) cap) (b.length + 1) (bookCells (b ++ [m])) ∧
        Keeps (fun k => k = y ∨ vb.ownBlock = some k) w w' ∧ (vb.ownBlock = some g ∨ w.heap.size ≤ g) ∧ g ≠ y ∧ (∀ j, j ≠ 8 → w'.cell? ⟨y, j, none⟩ = w.cell? ⟨y, j, none⟩) ∧ (∀ j, w'.frozen? ⟨y, j, none⟩ = w.frozen? ⟨y, j, none⟩) := by
  obtain ⟨i0, hi, hz0, hz1, hz2⟩ := info_parts Try.info_move
  have hyb := block_lt_of_cell hy
  go_enter Try.func91, Try.ntmps91
  go_wp2
  generalize hW : (w.alloc (Obj.cells #[Value.int IntKind.i64 m.fk, Value.int IntKind.i64 m.fa, Value.int IntKind.i64 m.fe] 131)).alloc (Obj.cells #[Value.int IntKind.i64 m.tk, Value.int IntKind.i64 m.ta, Value.int IntKind.i64 m.te] 131) = W
  have hz : W.heap.size = w.heap.size + 2 := by rw [← hW]; simp
  have hWk : Below w.heap.size w W := by rw [← hW]; exact ((Below.refl _ _).alloc (Nat.le_refl _) _).alloc (by simp) _
  have f0 : W.cell? ⟨w.heap.size, 0, none⟩ = some (.int .i64 m.fk) := by rw [← hW, World.cell?_alloc_past _ _ _ (by simp), World.cell?_alloc_at _ _ _ _ rfl]; rfl
  have f1 : W.cell? ⟨w.heap.size, 1, none⟩ = some (.int .i64 m.fa) := by rw [← hW, World.cell?_alloc_past _ _ _ (by simp), World.cell?_alloc_at _ _ _ _ rfl]; rfl
  have f2 : W.cell? ⟨w.heap.size, 2, none⟩ = some (.int .i64 m.fe) := by rw [← hW, World.cell?_alloc_past _ _ _ (by simp), World.cell?_alloc_at _ _ _ _ rfl]; rfl
  have t0 : W.cell? ⟨w.heap.size + 1, 0, none⟩ = some (.int .i64 m.tk) := by rw [← hW, World.cell?_alloc_at _ _ _ _ (by simp)]; rfl
  have t1 : W.cell? ⟨w.heap.size + 1, 1, none⟩ = some (.int .i64 m.ta) := by rw [← hW, World.cell?_alloc_at _ _ _ _ (by simp)]; rfl
  have t2 : W.cell? ⟨w.heap.size + 1, 2, none⟩ = some (.int .i64 m.te) := by rw [← hW, World.cell?_alloc_at _ _ _ _ (by simp)]; rfl
  have hyW : W.cell? ⟨y, 8, none⟩ = some vb := (hWk.cell hyb).trans hy
  have hyfW : W.frozen? ⟨y, 8, none⟩ = false := (hWk.frozen hyb).trans hyf
  have hownW : W.ownsRow B 135 7 vb b.length (bookCells b) := (Keeps.ofBelow (F := fun _ => False) hWk).owns hown (fun _ _ h => h)
  have hne1 : y ≠ w.heap.size := by have : y < w.heap.size := hyb; omega
  have hne2 : y ≠ w.heap.size + 1 := by have : y < w.heap.size := hyb; omega
  have hyA : ∀ o, (W.alloc o).cell? ⟨y, 8, none⟩ = some vb := fun o => by rw [World.cell?_alloc_past _ _ _ (block_lt_of_cell hyW)]; exact hyW
  have Hz : Hid (W.heap.size = w.heap.size + 2) := hz
  clear hW hz hy hyf hown
  go_region_law (refine step_append_lies _ rfl (.tmp 12) (.tmp 17) 125 rfl B 135 i0 _ 7 56 Try.underlying125 hi hz0 hz1 hz2 rfl (by decide) vb b.length (bookCells b) rfl (by exact (hownW.alloc _).drew) ⟨W.heap.size, 0, none⟩ 1 1 m.cells rfl rfl (by exact mv_lies W m) (mv_one m) (by decide) (by unfold maxLen; omega) (by omega) (by simp; have := Hz.out; omega) (w.heap.size + 3) (by simp; have := Hz.out; omega) ?_; intro g1 cap1 w1 hown' hg hat hlt1; have hy1 := move_cell hg hne hyW; have hyf1 := move_frozen hg hne hyW hyfW)
  all_goals
    go_end0
    refine ⟨rfl, ?_⟩
    exact move_post hyb hWk hB hne hy1 hown' hg hat hlt1
end Go.Proofs.Ytiokecadnmcpeab
