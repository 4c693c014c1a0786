
/-
  Plain mathematics of the price of a seat: no program in it.
-/
namespace Go.Proofs.Ytiokecadnmcpeab
namespace Pm

/-- How many seats the stakes buy at a price. -/
def bought : List Int → Int → Int
  | [], _ => 0
  | x :: l, p => x / p + bought l p

/-- All stakes together. -/
def total : List Int → Int
  | [] => 0
  | x :: l => x + total l

/-- Each stake within its bounds. -/
def Fit (l : List Int) : Prop := ∀ x, x ∈ l → 0 ≤ x ∧ x ≤ 1000000000

theorem Fit.tail {x : Int} {l : List Int} (h : Fit (x :: l)) : Fit l := fun y hy => h y (List.mem_cons_of_mem _ hy)
theorem Fit.head {x : Int} {l : List Int} (h : Fit (x :: l)) : 0 ≤ x ∧ x ≤ 1000000000 := h x (List.mem_cons_self ..)
theorem Fit.take {l : List Int} (h : Fit l) (k : Nat) : Fit (l.take k) := fun y hy => h y (List.mem_of_mem_take hy)

theorem bought_snoc (l : List Int) (x p : Int) : bought (l ++ [x]) p = bought l p + x / p := by
  induction l with
  | nil => simp [bought]
  | cons y l ih => simp only [List.cons_append, bought, ih]; omega

theorem total_snoc (l : List Int) (x : Int) : total (l ++ [x]) = total l + x := by
  induction l with
  | nil => simp [total]
  | cons y l ih => simp only [List.cons_append, total, ih]; omega

theorem bought_one (l : List Int) : bought l 1 = total l := by
  induction l with
  | nil => rfl
  | cons y l ih => simp only [bought, total, ih, Int.ediv_one]

theorem bought_bd {l : List Int} (h : Fit l) {p : Int} (hp : 1 ≤ p) : 0 ≤ bought l p ∧ bought l p ≤ 1000000000 * l.length := by
  induction l with
  | nil => simp [bought]
  | cons y l ih =>
    have := ih h.tail
    have hy := h.head
    have a : 0 ≤ y / p := Int.ediv_nonneg hy.1 (by omega)
    have b : y / p ≤ y := Int.ediv_le_self _ hy.1
    simp only [bought, List.length_cons]
    omega

theorem total_bd {l : List Int} (h : Fit l) : 0 ≤ total l ∧ total l ≤ 1000000000 * l.length := by
  have := bought_bd h (p := 1) (by omega)
  rw [bought_one] at this
  exact this

theorem div_anti {x p q : Int} (hx : 0 ≤ x) (hp : 1 ≤ p) (h : p ≤ q) : x / q ≤ x / p := by
  rw [Int.le_ediv_iff_mul_le (by omega)]
  have h1 : x / q * q ≤ x := Int.ediv_mul_le _ (by omega)
  have h2 : 0 ≤ x / q := Int.ediv_nonneg hx (by omega)
  have h3 : x / q * p ≤ x / q * q := Int.mul_le_mul_of_nonneg_left h h2
  omega

theorem bought_anti {l : List Int} (h : Fit l) {p q : Int} (hp : 1 ≤ p) (hq : p ≤ q) : bought l q ≤ bought l p := by
  induction l with
  | nil => simp [bought]
  | cons y l ih =>
    have := ih h.tail
    have := div_anti h.head.1 hp hq
    simp only [bought]
    omega

theorem bought_top {l : List Int} (h : Fit l) {p : Int} (hp : 1000000000 < p) : bought l p = 0 := by
  induction l with
  | nil => rfl
  | cons y l ih =>
    have := ih h.tail
    have hy := h.head
    have : y / p = 0 := Int.ediv_eq_zero_of_lt hy.1 (by omega)
    simp only [bought]
    omega

theorem div_le_bought {l : List Int} (h : Fit l) {p : Int} (hp : 1 ≤ p) {x : Int} (hx : x ∈ l) : x / p ≤ bought l p := by
  induction l with
  | nil => cases hx
  | cons y l ih =>
    have hb := bought_bd h.tail hp
    have hy : 0 ≤ y / p := Int.ediv_nonneg h.head.1 (by omega)
    simp only [bought]
    rcases List.mem_cons.1 hx with e | e
    · subst e; omega
    · have := ih h.tail e; omega

/-- The price of a seat. -/
def IsPrice (l : List Int) (n p : Int) : Prop := 1 ≤ p ∧ p ≤ 1000000000 ∧ n ≤ bought l p ∧ bought l (p + 1) < n

theorem price_unique {l : List Int} (h : Fit l) {n p q : Int} (a : IsPrice l n p) (b : IsPrice l n q) : p = q := by
  obtain ⟨a1, _, a2, a3⟩ := a
  obtain ⟨b1, _, b2, b3⟩ := b
  rcases Int.lt_trichotomy p q with c | c | c
  · have := bought_anti h (p := p + 1) (q := q) (by omega) (by omega); omega
  · exact c
  · have := bought_anti h (p := q + 1) (q := p) (by omega) (by omega); omega

theorem price_exists_from {l : List Int} (n : Int) (d : Nat) : ∀ p : Int, 1 ≤ p → n ≤ bought l p → bought l (p + d) < n → ∃ q, IsPrice l n q ∨ 1000000000 < q ∧ n ≤ bought l q := by
  induction d with
  | zero => intro p hp a b; simp at b; omega
  | succ d ih =>
    intro p hp a b
    by_cases c : bought l (p + 1) < n
    · by_cases e : p ≤ 1000000000
      · exact ⟨p, .inl ⟨hp, e, a, c⟩⟩
      · exact ⟨p, .inr ⟨by omega, a⟩⟩
    · refine ih (p + 1) (by omega) (by omega) ?_
      have : p + 1 + (d : Int) = p + ((d + 1 : Nat) : Int) := by omega
      rw [this]; exact b

theorem price_exists {l : List Int} (h : Fit l) {n : Int} (hn : 1 ≤ n) (ht : n ≤ total l) : ∃ q, IsPrice l n q := by
  obtain ⟨q, hq⟩ := price_exists_from n 1000000000 1 (by omega) (by rw [bought_one]; exact ht) (by rw [bought_top h (by omega)]; omega)
  rcases hq with hq | ⟨hq, hb⟩
  · exact ⟨q, hq⟩
  · rw [bought_top h hq] at hb; omega

theorem drop_of_less {l : List Int} (h : Fit l) {p : Int} (hp : 1 ≤ p) (hl : bought l (p + 1) < bought l p) : ∃ x, x ∈ l ∧ x / (p + 1) < x / p := by
  induction l with
  | nil => simp [bought] at hl
  | cons y l ih =>
    by_cases c : y / (p + 1) < y / p
    · exact ⟨y, List.mem_cons_self .., c⟩
    · have := div_anti h.head.1 hp (q := p + 1) (by omega)
      simp only [bought] at hl
      obtain ⟨x, hx, e⟩ := ih h.tail (by omega)
      exact ⟨x, List.mem_cons_of_mem _ hx, e⟩

/-- The price is among the stakes' parts: at some stake and some number k of seats, 1 to n. -/
theorem price_among {l : List Int} (h : Fit l) {n p : Int} (hn : 1 ≤ n) (hp : IsPrice l n p) : ∃ x, x ∈ l ∧ ∃ k, 1 ≤ k ∧ k ≤ n ∧ x / k = p := by
  obtain ⟨h1, h1', h2, h3⟩ := hp
  obtain ⟨x, hx, hlt⟩ := drop_of_less h h1 (by omega)
  have hx0 := h x hx
  have a : x / p * p ≤ x := Int.ediv_mul_le _ (by omega)
  have z : 0 ≤ x / (p + 1) := Int.ediv_nonneg hx0.1 (by omega)
  refine ⟨x, hx, ?_⟩
  by_cases c : x / p ≤ n
  · refine ⟨x / p, by omega, c, ?_⟩
    have b : x < x / p * (p + 1) := by
      rw [← Int.ediv_lt_iff_lt_mul (by omega)]; exact hlt
    have l1 : p ≤ x / (x / p) := by
      rw [Int.le_ediv_iff_mul_le (by omega), Int.mul_comm]; exact a
    have l2 : x / (x / p) < p + 1 := by
      rw [Int.ediv_lt_iff_lt_mul (by omega), Int.mul_comm]; exact b
    omega
  · refine ⟨n, hn, Int.le_refl _, ?_⟩
    have l1 : p ≤ x / n := by
      rw [Int.le_ediv_iff_mul_le (by omega)]
      have : p * n ≤ p * (x / p) := Int.mul_le_mul_of_nonneg_left (by omega) (by omega)
      rw [Int.mul_comm p (x / p)] at this
      omega
    have q1 : n ≤ x / (x / n) := by
      rw [Int.le_ediv_iff_mul_le (by omega), Int.mul_comm]
      exact Int.ediv_mul_le _ (by omega)
    have q2 : x / (x / n) ≤ bought l (x / n) := div_le_bought h (by omega) hx
    by_cases e : p + 1 ≤ x / n
    · have := bought_anti h (p := p + 1) (q := x / n) (by omega) e
      omega
    · omega

/-- What the search among the stakes' parts ends with is the price. -/
theorem best_is {l : List Int} (h : Fit l) {n top : Int} (hn : 1 ≤ n) (ht : n ≤ total l)
    (h0 : top = 0 ∨ 1 ≤ top ∧ n ≤ bought l top)
    (hall : ∀ x, x ∈ l → ∀ k, 1 ≤ k → k ≤ n → x / k ≤ top ∨ bought l (x / k) < n) : IsPrice l n top := by
  obtain ⟨q, hq⟩ := price_exists h hn ht
  obtain ⟨x, hx, k, k1, k2, e⟩ := price_among h hn hq
  have g := hall x hx k k1 k2
  rw [e] at g
  have hq' := hq
  obtain ⟨q1, q1', q2, q3⟩ := hq'
  have hle : q ≤ top := by omega
  have : top = q := by
    rcases h0 with h0 | ⟨h0, h0'⟩
    · omega
    · by_cases c : top = q
      · exact c
      · have := bought_anti h (p := q + 1) (q := top) (by omega) (by omega)
        omega
  rw [this]; exact hq

/-- Out of order: a number of seats or a list of stakes that may not be. -/
def bad (l : List Int) (n : Int) : Prop := n < 1 ∨ 10 < n ∨ 16 < l.length ∨ ¬ Fit l

theorem take_snoc (l : List Int) (k : Nat) (h : k < l.length) : l.take (k + 1) = l.take k ++ [l.getD k 0] := by
  rw [List.take_succ_eq_append_getElem h]
  simp [List.getD, h]

theorem fit_at {l : List Int} (h : Fit l) {k : Nat} (hk : k < l.length) : 0 ≤ l.getD k 0 ∧ l.getD k 0 ≤ 1000000000 := by
  have : l.getD k 0 = l[k] := by simp [List.getD, hk]
  rw [this]; exact h _ (List.getElem_mem hk)

theorem not_fit {l : List Int} {k : Nat} (hk : k < l.length) (h : ¬ (0 ≤ l.getD k 0 ∧ l.getD k 0 ≤ 1000000000)) : ¬ Fit l :=
  fun f => h (fit_at f hk)

theorem fit_of_at {l : List Int} (h : ∀ k, k < l.length → 0 ≤ l.getD k 0 ∧ l.getD k 0 ≤ 1000000000) : Fit l := by
  intro x hx
  obtain ⟨k, hk, e⟩ := List.getElem_of_mem hx
  have := h k hk
  have e2 : l.getD k 0 = l[k] := by simp [List.getD, hk]
  rw [e2, e] at this
  exact this

end Pm
end Go.Proofs.Ytiokecadnmcpeab
