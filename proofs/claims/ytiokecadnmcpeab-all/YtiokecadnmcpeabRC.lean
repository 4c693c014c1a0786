import Derived.Test.YtiokecadnmcpeabAt
import Derived.Test.YtiokecadnmcpeabMove
namespace Go.Proofs.Ytiokecadnmcpeab
set_option linter.unusedVariables false
set_option linter.unusedSimpArgs false
open Go.ChangeShapes Go.WideShapes Go.ChangeAt Go.RowKit

/-- The document's chain, as data. -/
structure RS where
  seats : Int
  delay : Int
  rate : Int
  cut : Int
  length : Int
  need : Int
  N : Nat
  book : List Mv
  bids : List Int
  has : List Int
  epoch : Int
  price : Int
  row : List Int
  made : List Bool
  cheat : List Bool

/-- Its slices' values, by their numbers (0 book, 1 bids, 2 has, 3 row, 4 made, 5 cheat; 6: what stands where Start stood). -/
def upd (v : Nat → Value) (i : Nat) (x : Value) : Nat → Value := fun j => if j = i then x else v j
theorem upd_same (v : Nat → Value) (i : Nat) (x : Value) : upd v i x i = x := by simp [upd]
theorem upd_other (v : Nat → Value) (i : Nat) (x : Value) {j : Nat} (h : j ≠ i) : upd v i x j = v j := by simp [upd, h]

def rcCells (r : RS) (v : Nat → Value) : List Value :=
  [.int .i64 r.seats, .int .i64 r.delay, .int .i64 r.rate, .int .i64 r.cut, .int .i64 r.length, .int .i64 r.need, v 6, .int .i64 r.N, v 0, v 1, v 2, .int .i64 r.epoch, .int .i64 r.price, v 3, v 4, v 5]

/-- The blocks of a chain of the document's. -/
def RFoot (y : Nat) (v : Nat → Value) (k : Nat) : Prop := k = y ∨ ∃ i, i < 6 ∧ (v i).ownBlock = some k

/-- A chain of the document's, as it lies in memory. -/
structure RC (w : World) (B y : Nat) (r : RS) (v : Nat → Value) : Prop where
  lo : B ≤ y
  cells : ∀ j, j < 16 → w.cell? ⟨y, j, none⟩ = (rcCells r v)[j]?
  frozen : ∀ j, w.frozen? ⟨y, j, none⟩ = false
  book : w.ownsRow B 135 7 (v 0) r.book.length (bookCells r.book)
  bids : w.ownsRow B 3 1 (v 1) r.bids.length (r.bids.map (Value.int .i64))
  has : w.ownsRow B 3 1 (v 2) r.has.length (r.has.map (Value.int .i64))
  row : w.ownsRow B 3 1 (v 3) r.row.length (r.row.map (Value.int .i64))
  made : w.ownsRow B 4 1 (v 4) r.made.length (r.made.map Value.bool)
  cheat : w.ownsRow B 4 1 (v 5) r.cheat.length (r.cheat.map Value.bool)
  ny : ∀ i, i < 6 → (v i).ownBlock ≠ some y
  dist : ∀ i j, i < 6 → j < 6 → i ≠ j → ∀ k, (v i).ownBlock = some k → (v j).ownBlock ≠ some k
  lbook : r.book.length * 56 ≤ 140737488355328

theorem RC.lt {w : World} {B y : Nat} {r : RS} {v : Nat → Value} (h : RC w B y r v) {k : Nat} (hk : RFoot y v k) : B ≤ k ∧ k < w.heap.size := by
  rcases hk with rfl | ⟨i, hi, hk⟩
  · exact ⟨h.lo, block_lt_of_cell (h.cells 0 (by omega))⟩
  · rcases (show i = 0 ∨ i = 1 ∨ i = 2 ∨ i = 3 ∨ i = 4 ∨ i = 5 by omega) with rfl | rfl | rfl | rfl | rfl | rfl
    · exact h.book.lt k hk
    · exact h.bids.lt k hk
    · exact h.has.lt k hk
    · exact h.row.lt k hk
    · exact h.made.lt k hk
    · exact h.cheat.lt k hk

/-- What leaves a chain's blocks alone leaves the chain. -/
theorem RC.keeps {w w' : World} {B y : Nat} {r : RS} {v : Nat → Value} (h : RC w B y r v) {F : Nat → Prop} (k : Keeps F w w') (hF : ∀ b, RFoot y v b → ¬ F b) : RC w' B y r v :=
  { h with
    cells := fun j hj => by
      rw [← h.cells j hj]
      exact World.cell?_of_block (k.block y (h.lt (.inl rfl)).2 (hF y (.inl rfl)))
    frozen := fun j => by
      rw [← h.frozen j]
      exact World.frozen?_of_block (k.block y (h.lt (.inl rfl)).2 (hF y (.inl rfl)))
    book := k.owns h.book (fun b hb => hF b (.inr ⟨0, by omega, hb⟩))
    bids := k.owns h.bids (fun b hb => hF b (.inr ⟨1, by omega, hb⟩))
    has := k.owns h.has (fun b hb => hF b (.inr ⟨2, by omega, hb⟩))
    row := k.owns h.row (fun b hb => hF b (.inr ⟨3, by omega, hb⟩))
    made := k.owns h.made (fun b hb => hF b (.inr ⟨4, by omega, hb⟩))
    cheat := k.owns h.cheat (fun b hb => hF b (.inr ⟨5, by omega, hb⟩)) }

theorem RC.below {w w' : World} {B y : Nat} {r : RS} {v : Nat → Value} (h : RC w B y r v) (k : Below w.heap.size w w') : RC w' B y r v :=
  h.keeps (F := fun _ => False) (Keeps.ofBelow k) (fun _ _ hf => hf)

/-- One slice of a chain has another value now: what all such turns have in common. -/
structure Turn (w w' : World) (y : Nat) (v : Nat → Value) (i idx : Nat) (vn : Value) : Prop where
  keeps : Keeps (fun k => k = y ∨ (v i).ownBlock = some k) w w'
  at' : ∀ g, vn.ownBlock = some g → (v i).ownBlock = some g ∨ w.heap.size ≤ g
  ny : vn.ownBlock ≠ some y
  cell : w'.cell? ⟨y, idx, none⟩ = some vn
  cells : ∀ j, j ≠ idx → w'.cell? ⟨y, j, none⟩ = w.cell? ⟨y, j, none⟩
  frozen : ∀ j, w'.frozen? ⟨y, j, none⟩ = w.frozen? ⟨y, j, none⟩

theorem Turn.ny' {w w' : World} {B y : Nat} {r : RS} {v : Nat → Value} {i idx : Nat} {vn : Value} (t : Turn w w' y v i idx vn) (h : RC w B y r v) : ∀ j, j < 6 → (upd v i vn j).ownBlock ≠ some y := by
  intro j hj
  by_cases e : j = i
  · rw [e, upd_same]; exact t.ny
  · rw [upd_other _ _ _ e]; exact h.ny j hj

theorem Turn.dist {w w' : World} {B y : Nat} {r : RS} {v : Nat → Value} {i idx : Nat} {vn : Value} (hi : i < 6) (t : Turn w w' y v i idx vn) (h : RC w B y r v) :
    ∀ a b, a < 6 → b < 6 → a ≠ b → ∀ k, (upd v i vn a).ownBlock = some k → (upd v i vn b).ownBlock ≠ some k := by
  intro a b ha hb hab k hk hk2
  by_cases e : a = i
  · have e2 : b ≠ i := fun e2 => hab (by rw [e, e2])
    rw [e, upd_same] at hk
    rw [upd_other _ _ _ e2] at hk2
    rcases t.at' k hk with h1 | h1
    · exact h.dist i b hi hb (fun e3 => e2 e3.symm) k h1 hk2
    · have := (h.lt (.inr ⟨b, hb, hk2⟩)).2
      omega
  · rw [upd_other _ _ _ e] at hk
    by_cases e2 : b = i
    · rw [e2, upd_same] at hk2
      rcases t.at' k hk2 with h1 | h1
      · exact h.dist a i ha hi e k hk h1
      · have := (h.lt (.inr ⟨a, ha, hk⟩)).2
        omega
    · rw [upd_other _ _ _ e2] at hk2
      exact h.dist a b ha hb hab k hk hk2

theorem Turn.far {w w' : World} {B y : Nat} {r : RS} {v : Nat → Value} {i idx : Nat} {vn : Value} (hi : i < 6) (_t : Turn w w' y v i idx vn) (h : RC w B y r v) (j : Nat) (hj : j < 6) (hne : j ≠ i) :
    ∀ k, (v j).ownBlock = some k → ¬ (k = y ∨ (v i).ownBlock = some k) := by
  rintro k hk (rfl | h2)
  · exact h.ny j hj hk
  · exact h.dist j i hj hi hne k hk h2

theorem Turn.foot {w w' : World} {B y : Nat} {r : RS} {v : Nat → Value} {i idx : Nat} {vn : Value} (hi : i < 6) (t : Turn w w' y v i idx vn) (_h : RC w B y r v) : Keeps (RFoot y v) w w' ∧ ∀ k, RFoot y (upd v i vn) k → RFoot y v k ∨ w.heap.size ≤ k := by
  refine ⟨t.keeps.mono (fun k _ hk => hk.elim .inl (fun e => .inr ⟨i, hi, e⟩)), ?_⟩
  rintro k (rfl | ⟨j, hj, hk⟩)
  · exact .inl (.inl rfl)
  · by_cases e : j = i
    · rw [e, upd_same] at hk
      exact (t.at' k hk).elim (fun e => .inl (.inr ⟨i, hi, e⟩)) .inr
    · rw [upd_other _ _ _ e] at hk
      exact .inl (.inr ⟨j, hj, hk⟩)

theorem RC.turn_book {w w' : World} {B y : Nat} {r : RS} {v : Nat → Value} (h : RC w B y r v) {nl : List Mv} {vn : Value} (t : Turn w w' y v 0 8 vn) (ho : w'.ownsRow B 135 7 vn nl.length (bookCells nl)) (hl : nl.length * 56 ≤ 140737488355328) : RC w' B y { r with book := nl } (upd v 0 vn) where
  lo := h.lo
  cells := fun j hj => by
    by_cases e : j = 8
    · subst e; rw [t.cell]; rfl
    · rw [t.cells j e, h.cells j hj]
      rcases (show j = 0 ∨ j = 1 ∨ j = 2 ∨ j = 3 ∨ j = 4 ∨ j = 5 ∨ j = 6 ∨ j = 7 ∨ j = 9 ∨ j = 10 ∨ j = 11 ∨ j = 12 ∨ j = 13 ∨ j = 14 ∨ j = 15 by omega) with rfl | rfl | rfl | rfl | rfl | rfl | rfl | rfl | rfl | rfl | rfl | rfl | rfl | rfl | rfl <;> rfl
  frozen := fun j => (t.frozen j).trans (h.frozen j)
  book := ho
  bids := t.keeps.owns h.bids (t.far (by omega) h 1 (by omega) (by omega))
  has := t.keeps.owns h.has (t.far (by omega) h 2 (by omega) (by omega))
  row := t.keeps.owns h.row (t.far (by omega) h 3 (by omega) (by omega))
  made := t.keeps.owns h.made (t.far (by omega) h 4 (by omega) (by omega))
  cheat := t.keeps.owns h.cheat (t.far (by omega) h 5 (by omega) (by omega))
  ny := t.ny' h
  dist := t.dist (by omega) h
  lbook := hl

theorem RC.turn_bids {w w' : World} {B y : Nat} {r : RS} {v : Nat → Value} (h : RC w B y r v) {nl : List Int} {vn : Value} (t : Turn w w' y v 1 9 vn) (ho : w'.ownsRow B 3 1 vn nl.length (nl.map (Value.int .i64))) : RC w' B y { r with bids := nl } (upd v 1 vn) where
  lo := h.lo
  cells := fun j hj => by
    by_cases e : j = 9
    · subst e; rw [t.cell]; rfl
    · rw [t.cells j e, h.cells j hj]
      rcases (show j = 0 ∨ j = 1 ∨ j = 2 ∨ j = 3 ∨ j = 4 ∨ j = 5 ∨ j = 6 ∨ j = 7 ∨ j = 8 ∨ j = 10 ∨ j = 11 ∨ j = 12 ∨ j = 13 ∨ j = 14 ∨ j = 15 by omega) with rfl | rfl | rfl | rfl | rfl | rfl | rfl | rfl | rfl | rfl | rfl | rfl | rfl | rfl | rfl <;> rfl
  frozen := fun j => (t.frozen j).trans (h.frozen j)
  book := t.keeps.owns h.book (t.far (by omega) h 0 (by omega) (by omega))
  bids := ho
  has := t.keeps.owns h.has (t.far (by omega) h 2 (by omega) (by omega))
  row := t.keeps.owns h.row (t.far (by omega) h 3 (by omega) (by omega))
  made := t.keeps.owns h.made (t.far (by omega) h 4 (by omega) (by omega))
  cheat := t.keeps.owns h.cheat (t.far (by omega) h 5 (by omega) (by omega))
  ny := t.ny' h
  dist := t.dist (by omega) h
  lbook := h.lbook

theorem RC.turn_has {w w' : World} {B y : Nat} {r : RS} {v : Nat → Value} (h : RC w B y r v) {nl : List Int} {vn : Value} (t : Turn w w' y v 2 10 vn) (ho : w'.ownsRow B 3 1 vn nl.length (nl.map (Value.int .i64))) : RC w' B y { r with has := nl } (upd v 2 vn) where
  lo := h.lo
  cells := fun j hj => by
    by_cases e : j = 10
    · subst e; rw [t.cell]; rfl
    · rw [t.cells j e, h.cells j hj]
      rcases (show j = 0 ∨ j = 1 ∨ j = 2 ∨ j = 3 ∨ j = 4 ∨ j = 5 ∨ j = 6 ∨ j = 7 ∨ j = 8 ∨ j = 9 ∨ j = 11 ∨ j = 12 ∨ j = 13 ∨ j = 14 ∨ j = 15 by omega) with rfl | rfl | rfl | rfl | rfl | rfl | rfl | rfl | rfl | rfl | rfl | rfl | rfl | rfl | rfl <;> rfl
  frozen := fun j => (t.frozen j).trans (h.frozen j)
  book := t.keeps.owns h.book (t.far (by omega) h 0 (by omega) (by omega))
  bids := t.keeps.owns h.bids (t.far (by omega) h 1 (by omega) (by omega))
  has := ho
  row := t.keeps.owns h.row (t.far (by omega) h 3 (by omega) (by omega))
  made := t.keeps.owns h.made (t.far (by omega) h 4 (by omega) (by omega))
  cheat := t.keeps.owns h.cheat (t.far (by omega) h 5 (by omega) (by omega))
  ny := t.ny' h
  dist := t.dist (by omega) h
  lbook := h.lbook

theorem RC.turn_row {w w' : World} {B y : Nat} {r : RS} {v : Nat → Value} (h : RC w B y r v) {nl : List Int} {vn : Value} (t : Turn w w' y v 3 13 vn) (ho : w'.ownsRow B 3 1 vn nl.length (nl.map (Value.int .i64))) : RC w' B y { r with row := nl } (upd v 3 vn) where
  lo := h.lo
  cells := fun j hj => by
    by_cases e : j = 13
    · subst e; rw [t.cell]; rfl
    · rw [t.cells j e, h.cells j hj]
      rcases (show j = 0 ∨ j = 1 ∨ j = 2 ∨ j = 3 ∨ j = 4 ∨ j = 5 ∨ j = 6 ∨ j = 7 ∨ j = 8 ∨ j = 9 ∨ j = 10 ∨ j = 11 ∨ j = 12 ∨ j = 14 ∨ j = 15 by omega) with rfl | rfl | rfl | rfl | rfl | rfl | rfl | rfl | rfl | rfl | rfl | rfl | rfl | rfl | rfl <;> rfl
  frozen := fun j => (t.frozen j).trans (h.frozen j)
  book := t.keeps.owns h.book (t.far (by omega) h 0 (by omega) (by omega))
  bids := t.keeps.owns h.bids (t.far (by omega) h 1 (by omega) (by omega))
  has := t.keeps.owns h.has (t.far (by omega) h 2 (by omega) (by omega))
  row := ho
  made := t.keeps.owns h.made (t.far (by omega) h 4 (by omega) (by omega))
  cheat := t.keeps.owns h.cheat (t.far (by omega) h 5 (by omega) (by omega))
  ny := t.ny' h
  dist := t.dist (by omega) h
  lbook := h.lbook

theorem RC.turn_made {w w' : World} {B y : Nat} {r : RS} {v : Nat → Value} (h : RC w B y r v) {nl : List Bool} {vn : Value} (t : Turn w w' y v 4 14 vn) (ho : w'.ownsRow B 4 1 vn nl.length (nl.map Value.bool)) : RC w' B y { r with made := nl } (upd v 4 vn) where
  lo := h.lo
  cells := fun j hj => by
    by_cases e : j = 14
    · subst e; rw [t.cell]; rfl
    · rw [t.cells j e, h.cells j hj]
      rcases (show j = 0 ∨ j = 1 ∨ j = 2 ∨ j = 3 ∨ j = 4 ∨ j = 5 ∨ j = 6 ∨ j = 7 ∨ j = 8 ∨ j = 9 ∨ j = 10 ∨ j = 11 ∨ j = 12 ∨ j = 13 ∨ j = 15 by omega) with rfl | rfl | rfl | rfl | rfl | rfl | rfl | rfl | rfl | rfl | rfl | rfl | rfl | rfl | rfl <;> rfl
  frozen := fun j => (t.frozen j).trans (h.frozen j)
  book := t.keeps.owns h.book (t.far (by omega) h 0 (by omega) (by omega))
  bids := t.keeps.owns h.bids (t.far (by omega) h 1 (by omega) (by omega))
  has := t.keeps.owns h.has (t.far (by omega) h 2 (by omega) (by omega))
  row := t.keeps.owns h.row (t.far (by omega) h 3 (by omega) (by omega))
  made := ho
  cheat := t.keeps.owns h.cheat (t.far (by omega) h 5 (by omega) (by omega))
  ny := t.ny' h
  dist := t.dist (by omega) h
  lbook := h.lbook

theorem RC.turn_cheat {w w' : World} {B y : Nat} {r : RS} {v : Nat → Value} (h : RC w B y r v) {nl : List Bool} {vn : Value} (t : Turn w w' y v 5 15 vn) (ho : w'.ownsRow B 4 1 vn nl.length (nl.map Value.bool)) : RC w' B y { r with cheat := nl } (upd v 5 vn) where
  lo := h.lo
  cells := fun j hj => by
    by_cases e : j = 15
    · subst e; rw [t.cell]; rfl
    · rw [t.cells j e, h.cells j hj]
      rcases (show j = 0 ∨ j = 1 ∨ j = 2 ∨ j = 3 ∨ j = 4 ∨ j = 5 ∨ j = 6 ∨ j = 7 ∨ j = 8 ∨ j = 9 ∨ j = 10 ∨ j = 11 ∨ j = 12 ∨ j = 13 ∨ j = 14 by omega) with rfl | rfl | rfl | rfl | rfl | rfl | rfl | rfl | rfl | rfl | rfl | rfl | rfl | rfl | rfl <;> rfl
  frozen := fun j => (t.frozen j).trans (h.frozen j)
  book := t.keeps.owns h.book (t.far (by omega) h 0 (by omega) (by omega))
  bids := t.keeps.owns h.bids (t.far (by omega) h 1 (by omega) (by omega))
  has := t.keeps.owns h.has (t.far (by omega) h 2 (by omega) (by omega))
  row := t.keeps.owns h.row (t.far (by omega) h 3 (by omega) (by omega))
  made := t.keeps.owns h.made (t.far (by omega) h 4 (by omega) (by omega))
  cheat := ho
  ny := t.ny' h
  dist := t.dist (by omega) h
  lbook := h.lbook

theorem own_moves {w : World} {B : Nat} {v : Value} {b : List Mv} (h : w.ownsRow B 135 7 v b.length (bookCells b)) : ∃ ga cap, v = .slice ga b.length cap ∧ Moves w ga b := by
  have h' := h
  rcases h.2 with ⟨rfl, h0⟩ | ⟨g, cap, cur, rfl, _⟩
  · exact ⟨none, 0, by rw [h0], .inl (List.eq_nil_of_length_eq_zero h0)⟩
  · refine ⟨_, cap, rfl, .inr ⟨g, rfl, fun i hi j hj => ?_⟩⟩
    rw [h'.cellAt (i * 7 + j) (by omega), bookCells_at b i j hi hj]

theorem own_intsL {w : World} {B : Nat} {v : Value} {l : List Int} (h : w.ownsRow B 3 1 v l.length (l.map (Value.int .i64))) : ∃ a cap, v = .slice a l.length cap ∧ Ints w a l ∧ (0 < l.length → ∃ g, a = some ⟨g, 0, none⟩) := by
  have h' := h
  rcases h.2 with ⟨rfl, h0⟩ | ⟨g, cap, cur, rfl, _⟩
  · exact ⟨none, 0, by rw [h0], .inl (List.eq_nil_of_length_eq_zero h0), fun h => by omega⟩
  · refine ⟨_, cap, rfl, .inr ⟨g, 0, rfl, fun i hi => ?_⟩, fun _ => ⟨g, rfl⟩⟩
    rw [Nat.zero_add, h'.cellAt i (by omega)]
    simp [List.getD, hi]

/-- 'all' on a chain. -/
theorem rall {w : World} {B y : Nat} {r : RS} {v : Nat → Value} (h : RC w B y r v) (kind a : Int) :
    Calls Try.prog 93 #[.pointer (some ⟨y, 0, none⟩), .int .i64 kind, .int .i64 a] w fun e w' => e = .returned (.int .i64 (wrap64 (allOf r.book kind a))) ∧ Below w.heap.size w w' := by
  obtain ⟨ga, cap, hv, hm⟩ := own_moves h.book
  exact all_any y ga cap r.book kind a w (by rw [← hv]; exact h.cells 8 (by omega)) hm h.lbook

theorem rat {w : World} {B y : Nat} {r : RS} {v : Nat → Value} (h : RC w B y r v) (kd a e : Int) :
    Calls Try.prog 96 #[.pointer (some ⟨y, 0, none⟩), .agg #[.int .i64 kd, .int .i64 a, .int .i64 e]] w fun q w' => q = .returned (.int .i64 (wrap64 (atOf r.book kd a e))) ∧ Below w.heap.size w w' := by
  obtain ⟨ga, cap, hv, hm⟩ := own_moves h.book
  exact at_any y ga cap r.book kd a e w (by rw [← hv]; exact h.cells 8 (by omega)) hm h.lbook

/-- 'move' on a chain. -/
theorem rmove {w : World} {B y : Nat} {r : RS} {v : Nat → Value} (h : RC w B y r v) (m : Mv) (hl : r.book.length * 56 + 56 ≤ 140737488355328) (hB : B ≤ w.heap.size) :
    Calls Try.prog 91 #[.pointer (some ⟨y, 0, none⟩), .agg #[.int .i64 m.fk, .int .i64 m.fa, .int .i64 m.fe], .agg #[.int .i64 m.tk, .int .i64 m.ta, .int .i64 m.te], .int .i64 m.n] w fun e w' =>
      e = .returned (.tuple #[]) ∧ ∃ vb, RC w' B y { r with book := r.book ++ [m] } (upd v 0 vb) ∧ Keeps (RFoot y v) w w' ∧ ∀ k, RFoot y (upd v 0 vb) k → RFoot y v k ∨ w.heap.size ≤ k := by
  refine (move_any B y (v 0) r.book m w hB (h.cells 8 (by omega)) (h.frozen 8) (h.ny 0 (by omega)) h.book hl).mono ?_
  rintro e w' ⟨rfl, g, cap, hc8, hown, hk, hat, hgy, hcj, hfj⟩
  have t : Turn w w' y v 0 8 (.slice (some ⟨g, 0, none⟩) (r.book.length + 1) cap) := ⟨hk, fun q hq => by
    simp only [Value.ownBlock, Option.some.injEq] at hq
    subst hq
    exact hat, by simp [Value.ownBlock]; exact hgy, hc8, hcj, hfj⟩
  refine ⟨rfl, _, h.turn_book t (by simpa using hown) (by simp; omega), t.foot (by omega) h⟩
end Go.Proofs.Ytiokecadnmcpeab
