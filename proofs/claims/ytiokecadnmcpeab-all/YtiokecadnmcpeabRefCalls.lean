import Derived.Test.YtiokecadnmcpeabRC
namespace Go.Proofs.Ytiokecadnmcpeab
set_option linter.unusedVariables false
set_option linter.unusedSimpArgs false
open Go.ChangeShapes Go.WideShapes Go.ChangeAt Go.RowKit

set_option maxHeartbeats 400000 in
theorem rwithin_yes (v lo hi : Int) (w : World) (h1 : lo ≤ v) (h2 : v ≤ hi) :
    Calls Try.prog 92 #[.int .i64 v, .int .i64 lo, .int .i64 hi] w fun e w' => e = .returned (.bool true) ∧ w' = w := by
  go_enter Try.func92, Try.ntmps92
  go_wp2
  go_ret
  exact ⟨rfl, rfl⟩

set_option maxHeartbeats 400000 in
theorem rwithin_no (v lo hi : Int) (w : World) (h : ¬ (lo ≤ v ∧ v ≤ hi)) :
    Calls Try.prog 92 #[.int .i64 v, .int .i64 lo, .int .i64 hi] w fun e w' => e = .returned (.bool false) ∧ w' = w := by
  by_cases h1 : lo ≤ v
  · have h2 : ¬ v ≤ hi := fun h2 => h ⟨h1, h2⟩
    clear h
    go_enter Try.func92, Try.ntmps92
    go_wp2
    go_ret
    exact ⟨rfl, rfl⟩
  · clear h
    go_enter Try.func92, Try.ntmps92
    go_wp2
    go_ret
    exact ⟨rfl, rfl⟩

section
variable {w : World} {B y : Nat} {r : RS} {v : Nat → Value}

theorem RC.cN (h : RC w B y r v) : w.cell? ⟨y, 7, none⟩ = some (.int .i64 r.N) := h.cells 7 (by omega)

set_option maxHeartbeats 400000 in
theorem rsupply (h : RC w B y r v) :
    Calls Try.prog 94 #[.pointer (some ⟨y, 0, none⟩)] w fun e w' => e = .returned (.int .i64 (wrap64 (allOf r.book 1 (-1) + allOf r.book 2 (-1) + allOf r.book 3 (-1) + allOf r.book 4 (-1)))) ∧ Below w.heap.size w w' := by
  go_enter Try.func94, Try.ntmps94
  go_wp2_with fail
  refine (rall h _ _).mono ?_
  rintro e w1 ⟨rfl, b1⟩
  have h1 := h.below b1
  go_wp2_with fail
  refine (rall h1 _ _).mono ?_
  rintro e w2 ⟨rfl, b2⟩
  have h2 := h1.below b2
  go_wp2_with fail
  refine (rall h2 _ _).mono ?_
  rintro e w3 ⟨rfl, b3⟩
  have h3 := h2.below b3
  go_wp2_with fail
  refine (rall h3 _ _).mono ?_
  rintro e w4 ⟨rfl, b4⟩
  go_wp2_with fail
  go_ret
  refine ⟨ret_int ?_, b1.trans ((b2.mono b1.size).trans ((b3.mono (Nat.le_trans b1.size b2.size)).trans (b4.mono (Nat.le_trans b1.size (Nat.le_trans b2.size b3.size)))))⟩
  unfold wrap64; omega

set_option maxHeartbeats 400000 in
theorem rdue_no (h : RC w B y r v) (a ep : Int) (ha : ¬ (0 ≤ a ∧ a ≤ (r.N : Int))) :
    Calls Try.prog 79 #[.pointer (some ⟨y, 0, none⟩), .int .i64 a, .int .i64 ep] w fun e w' => e = .returned (.tuple #[.int .i64 0, .int .i64 2]) ∧ Below w.heap.size w w' := by
  have hN := h.cN
  have Ha : Hid (¬ (0 ≤ a ∧ a ≤ (r.N : Int))) := ha
  clear ha
  go_enter Try.func79, Try.ntmps79
  go_wp2_with fail
  refine (rwithin_no _ _ _ _ Ha.out).mono ?_
  rintro e w1 ⟨rfl, rfl⟩
  go_wp2_with fail
  go_ret2
  exact ⟨rfl, Below.refl _ _⟩

set_option maxHeartbeats 400000 in
theorem rdue_yes (h : RC w B y r v) (a ep : Int) (ha : 0 ≤ a) (ha2 : a ≤ (r.N : Int)) :
    Calls Try.prog 79 #[.pointer (some ⟨y, 0, none⟩), .int .i64 a, .int .i64 ep] w fun e w' => e = .returned (.tuple #[.int .i64 (wrap64 (atOf r.book 3 a ep)), .int .i64 0]) ∧ Below w.heap.size w w' := by
  have hN := h.cN
  go_enter Try.func79, Try.ntmps79
  go_wp2_with fail
  refine (rwithin_yes _ _ _ _ ha ha2).mono ?_
  rintro e w1 ⟨rfl, rfl⟩
  go_wp2_with fail
  refine (rat h _ _ _).mono ?_
  rintro e w2 ⟨rfl, b2⟩
  go_wp2_with fail
  go_ret2
  exact ⟨rfl, b2⟩

set_option maxHeartbeats 800000 in
theorem rsend_name (h : RC w B y r v) (a b n : Int) (hN1 : 1 ≤ r.N) (hN6 : r.N ≤ 6) (hab : ¬ (0 ≤ a ∧ a ≤ (r.N : Int) - 1) ∨ ¬ (0 ≤ b ∧ b ≤ (r.N : Int) - 1)) :
    Calls Try.prog 82 #[.pointer (some ⟨y, 0, none⟩), .int .i64 a, .int .i64 b, .int .i64 n] w fun e w' => e = .returned (.int .i64 2) ∧ Below w.heap.size w w' := by
  have hN := h.cN
  by_cases ha : 0 ≤ a ∧ a ≤ (r.N : Int) - 1
  · have Hb : Hid (¬ (0 ≤ b ∧ b ≤ (r.N : Int) - 1)) := hab.resolve_left (fun hn => hn ha)
    clear hab
    obtain ⟨ha1, ha2⟩ := ha
    go_enter Try.func82, Try.ntmps82
    go_wp2_with fail
    refine (rwithin_yes _ _ _ _ ha1 ha2).mono ?_
    rintro e w1 ⟨rfl, rfl⟩
    go_wp2_with fail
    refine (rwithin_no _ _ _ _ Hb.out).mono ?_
    rintro e w1 ⟨rfl, rfl⟩
    go_wp2_with fail
    go_ret
    exact ⟨rfl, Below.refl _ _⟩
  · have Ha : Hid (¬ (0 ≤ a ∧ a ≤ (r.N : Int) - 1)) := ha
    clear ha hab
    go_enter Try.func82, Try.ntmps82
    go_wp2_with fail
    refine (rwithin_no _ _ _ _ Ha.out).mono ?_
    rintro e w1 ⟨rfl, rfl⟩
    go_wp2_with fail
    go_ret
    exact ⟨rfl, Below.refl _ _⟩

set_option maxHeartbeats 800000 in
theorem rsend_amount (h : RC w B y r v) (a b n : Int) (hN1 : 1 ≤ r.N) (hN6 : r.N ≤ 6) (ha1 : 0 ≤ a) (ha2 : a ≤ (r.N : Int) - 1) (hb1 : 0 ≤ b) (hb2 : b ≤ (r.N : Int) - 1) (hn : ¬ (1 ≤ n ∧ n ≤ 1000000000)) :
    Calls Try.prog 82 #[.pointer (some ⟨y, 0, none⟩), .int .i64 a, .int .i64 b, .int .i64 n] w fun e w' => e = .returned (.int .i64 3) ∧ Below w.heap.size w w' := by
  have hN := h.cN
  have Hn : Hid (¬ (1 ≤ n ∧ n ≤ 1000000000)) := hn
  clear hn
  go_enter Try.func82, Try.ntmps82
  go_wp2_with fail
  refine (rwithin_yes _ _ _ _ ha1 ha2).mono ?_
  rintro e w1 ⟨rfl, rfl⟩
  go_wp2_with fail
  refine (rwithin_yes _ _ _ _ hb1 hb2).mono ?_
  rintro e w1 ⟨rfl, rfl⟩
  go_wp2_with fail
  refine (rwithin_no _ _ _ _ Hn.out).mono ?_
  rintro e w1 ⟨rfl, rfl⟩
  go_wp2_with fail
  go_ret
  exact ⟨rfl, Below.refl _ _⟩

set_option maxHeartbeats 800000 in
theorem rsend_funds (h : RC w B y r v) (a b n : Int) (hN1 : 1 ≤ r.N) (hN6 : r.N ≤ 6) (ha1 : 0 ≤ a) (ha2 : a ≤ (r.N : Int) - 1) (hb1 : 0 ≤ b) (hb2 : b ≤ (r.N : Int) - 1) (hn1 : 1 ≤ n) (hn2 : n ≤ 1000000000) (hf : wrap64 (allOf r.book 1 a) < n) :
    Calls Try.prog 82 #[.pointer (some ⟨y, 0, none⟩), .int .i64 a, .int .i64 b, .int .i64 n] w fun e w' => e = .returned (.int .i64 4) ∧ Below w.heap.size w w' := by
  have hN := h.cN
  have dd : decide (wrap64 (allOf r.book 1 a) < n) = true := by simpa using hf
  clear hf
  go_enter Try.func82, Try.ntmps82
  go_wp2_with fail
  refine (rwithin_yes _ _ _ _ ha1 ha2).mono ?_
  rintro e w1 ⟨rfl, rfl⟩
  go_wp2_with fail
  refine (rwithin_yes _ _ _ _ hb1 hb2).mono ?_
  rintro e w1 ⟨rfl, rfl⟩
  go_wp2_with fail
  refine (rwithin_yes _ _ _ _ hn1 hn2).mono ?_
  rintro e w1 ⟨rfl, rfl⟩
  go_wp2_with fail
  refine (rall h _ _).mono ?_
  rintro e w1 ⟨rfl, b1⟩
  go_wp2_with fail
  go_ret
  exact ⟨rfl, b1⟩

set_option maxHeartbeats 800000 in
theorem rsend_ok (h : RC w B y r v) (a b n : Int) (hN1 : 1 ≤ r.N) (hN6 : r.N ≤ 6) (ha1 : 0 ≤ a) (ha2 : a ≤ (r.N : Int) - 1) (hb1 : 0 ≤ b) (hb2 : b ≤ (r.N : Int) - 1) (hn1 : 1 ≤ n) (hn2 : n ≤ 1000000000) (hf : ¬ wrap64 (allOf r.book 1 a) < n)
    (hl : r.book.length * 56 + 56 ≤ 140737488355328) (hB : B ≤ w.heap.size) :
    Calls Try.prog 82 #[.pointer (some ⟨y, 0, none⟩), .int .i64 a, .int .i64 b, .int .i64 n] w fun e w' => e = .returned (.int .i64 0) ∧ ∃ v', RC w' B y { r with book := r.book ++ [⟨1, a, 0, 1, b, 0, n⟩] } v' ∧ Keeps (RFoot y v) w w' ∧ ∀ k, RFoot y v' k → RFoot y v k ∨ w.heap.size ≤ k := by
  have hN := h.cN
  have dd : decide (wrap64 (allOf r.book 1 a) < n) = false := by simpa using hf
  clear hf
  go_enter Try.func82, Try.ntmps82
  go_wp2_with fail
  refine (rwithin_yes _ _ _ _ ha1 ha2).mono ?_
  rintro e w1 ⟨rfl, rfl⟩
  go_wp2_with fail
  refine (rwithin_yes _ _ _ _ hb1 hb2).mono ?_
  rintro e w1 ⟨rfl, rfl⟩
  go_wp2_with fail
  refine (rwithin_yes _ _ _ _ hn1 hn2).mono ?_
  rintro e w1 ⟨rfl, rfl⟩
  go_wp2_with fail
  refine (rall h _ _).mono ?_
  rintro e w2 ⟨rfl, b1⟩
  have h2 := h.below b1
  have hB2 : B ≤ w2.heap.size := Nat.le_trans hB b1.size
  go_wp2_with fail
  refine (rmove h2 ⟨1, a, 0, 1, b, 0, n⟩ hl hB2).mono ?_
  rintro e w3 ⟨rfl, vb, h3, k3, f3⟩
  go_wp2_with fail
  go_ret
  refine ⟨rfl, _, h3, (Keeps.ofBelow b1).trans k3 (fun i _ hi => hi), fun k hk => (f3 k hk).elim .inl (fun hk => .inr (Nat.le_trans b1.size hk))⟩
end
end Go.Proofs.Ytiokecadnmcpeab
