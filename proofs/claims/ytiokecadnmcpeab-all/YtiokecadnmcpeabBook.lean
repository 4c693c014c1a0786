import Derived.WalkKit
/-
  The document's book of moves, as plain data.
-/
namespace Go.Proofs.Ytiokecadnmcpeab
open Go.RowKit

/-- A move: from a place to a place (kind, account, epoch), an amount. -/
structure Mv where
  fk : Int
  fa : Int
  fe : Int
  tk : Int
  ta : Int
  te : Int
  n : Int

def Mv.zero : Mv := ⟨0, 0, 0, 0, 0, 0, 0⟩
def Mv.cells (m : Mv) : List Value := [.int .i64 m.fk, .int .i64 m.fa, .int .i64 m.fe, .int .i64 m.tk, .int .i64 m.ta, .int .i64 m.te, .int .i64 m.n]
def bookCells (b : List Mv) : List Value := b.flatMap Mv.cells

def Mv.toIn (m : Mv) (kind a : Int) : Int := if m.tk = kind ∧ (a < 0 ∨ m.ta = a) then m.n else 0
def Mv.fromIn (m : Mv) (kind a : Int) : Int := if m.fk = kind ∧ (a < 0 ∨ m.fa = a) then m.n else 0
def Mv.toAt (m : Mv) (k a e : Int) : Int := if m.tk = k ∧ m.ta = a ∧ m.te = e then m.n else 0
def Mv.fromAt (m : Mv) (k a e : Int) : Int := if m.fk = k ∧ m.fa = a ∧ m.fe = e then m.n else 0

/-- What lies at all places of a kind, of an account (below 0: of all). -/
def allOf : List Mv → Int → Int → Int
  | [], _, _ => 0
  | m :: b, kind, a => m.toIn kind a - m.fromIn kind a + allOf b kind a

/-- What lies at a place. -/
def atOf : List Mv → Int → Int → Int → Int
  | [], _, _, _ => 0
  | m :: b, k, a, e => m.toAt k a e - m.fromAt k a e + atOf b k a e

theorem allOf_append (b c : List Mv) (kind a : Int) : allOf (b ++ c) kind a = allOf b kind a + allOf c kind a := by
  induction b with
  | nil => simp [allOf]
  | cons m b ih => simp only [List.cons_append, allOf, ih]; omega
theorem atOf_append (b c : List Mv) (k a e : Int) : atOf (b ++ c) k a e = atOf b k a e + atOf c k a e := by
  induction b with
  | nil => simp [atOf]
  | cons m b ih => simp only [List.cons_append, atOf, ih]; omega
theorem allOf_snoc (b : List Mv) (m : Mv) (kind a : Int) : allOf (b ++ [m]) kind a = allOf b kind a + m.toIn kind a - m.fromIn kind a := by
  rw [allOf_append]; simp only [allOf]; omega
theorem atOf_snoc (b : List Mv) (m : Mv) (k a e : Int) : atOf (b ++ [m]) k a e = atOf b k a e + m.toAt k a e - m.fromAt k a e := by
  rw [atOf_append]; simp only [atOf]; omega

theorem mv_take_snoc (l : List Mv) (k : Nat) (h : k < l.length) : l.take (k + 1) = l.take k ++ [l.getD k Mv.zero] := by
  rw [List.take_succ_eq_append_getElem h]
  simp [List.getD, h]
theorem allOf_step (b : List Mv) (k : Nat) (h : k < b.length) (kind a : Int) :
    allOf (b.take (k + 1)) kind a = allOf (b.take k) kind a + (b.getD k Mv.zero).toIn kind a - (b.getD k Mv.zero).fromIn kind a := by
  rw [mv_take_snoc b k h, allOf_snoc]
theorem atOf_step (b : List Mv) (k : Nat) (h : k < b.length) (kd a e : Int) :
    atOf (b.take (k + 1)) kd a e = atOf (b.take k) kd a e + (b.getD k Mv.zero).toAt kd a e - (b.getD k Mv.zero).fromAt kd a e := by
  rw [mv_take_snoc b k h, atOf_snoc]

theorem bookCells_length (b : List Mv) : (bookCells b).length = b.length * 7 := by
  induction b with
  | nil => rfl
  | cons m b ih => simp only [bookCells, List.flatMap_cons, List.length_append] at *; rw [ih]; simp [Mv.cells]; omega
theorem bookCells_snoc (b : List Mv) (m : Mv) : bookCells (b ++ [m]) = bookCells b ++ m.cells := by simp [bookCells]
theorem bookCells_at (b : List Mv) (i j : Nat) (hi : i < b.length) (hj : j < 7) : (bookCells b)[i * 7 + j]? = (b.getD i Mv.zero).cells[j]? := by
  induction b generalizing i with
  | nil => simp at hi
  | cons m b ih =>
    have hm : m.cells.length = 7 := rfl
    simp only [bookCells, List.flatMap_cons]
    cases i with
    | zero => simp only [Nat.zero_mul, Nat.zero_add]; rw [List.getElem?_append_left (by omega)]; simp [List.getD]
    | succ i =>
      rw [List.getElem?_append_right (by omega), hm]
      have := ih i (by simpa using hi)
      rw [show (i + 1) * 7 + j - 7 = i * 7 + j by omega]
      simpa [bookCells, List.getD] using this

theorem w64_add (S n : Int) : wrap64 (wrap64 S + n) = wrap64 (S + n) := by unfold wrap64; omega
theorem w64_sub (S n : Int) : wrap64 (wrap64 S - n) = wrap64 (S - n) := by unfold wrap64; omega
theorem w64_add2 (S T : Int) : wrap64 (wrap64 S + wrap64 T) = wrap64 (S + T) := by unfold wrap64; omega

end Go.Proofs.Ytiokecadnmcpeab
