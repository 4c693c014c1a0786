import Derived.Test.YtdfdjbhdgbbolaaMath
namespace Go.Proofs.Ytdfdjbhdgbbolaa
set_option linter.unusedVariables false
/-- The price of a list of stakes: looked for from k down. -/
def priceFrom (l : List Int) (n : Int) : Nat → Int
  | 0 => 0
  | k + 1 => if 1 ≤ ((k + 1 : Nat) : Int) ∧ ((k + 1 : Nat) : Int) ≤ 1000000000 ∧ n ≤ Pm.bought l ((k + 1 : Nat) : Int) ∧ Pm.bought l (((k + 1 : Nat) : Int) + 1) < n then ((k + 1 : Nat) : Int) else priceFrom l n k
theorem priceFrom_is (l : List Int) (n : Int) (k : Nat) : ∀ j : Nat, 1 ≤ j → j ≤ k → Pm.IsPrice l n j → Pm.IsPrice l n (priceFrom l n k) := by
  induction k with
  | zero => intro j h1 h2 _; omega
  | succ k ih =>
    intro j h1 h2 h
    simp only [priceFrom]
    split
    · rename_i e; exact e
    · rename_i e
      by_cases hj : j = k + 1
      · subst hj; exact absurd h e
      · exact ih j h1 (by omega) h
def priceOf (l : List Int) (n : Int) : Int := priceFrom l n (1000000000 + (Pm.total l).natAbs)
theorem priceOf_is {l : List Int} {n p : Int} (h : Pm.IsPrice l n p) : Pm.IsPrice l n (priceOf l n) := by
  have h1 := h.1
  have h2 := h.2.1
  obtain ⟨j, hj⟩ := Int.eq_ofNat_of_zero_le (show 0 ≤ p by omega)
  rw [hj] at h
  exact priceFrom_is l n _ j (by omega) (by omega) h
theorem priceOf_eq {l : List Int} (hf : Pm.Fit l) {n p : Int} (h : Pm.IsPrice l n p) : p = priceOf l n := Pm.price_unique hf h (priceOf_is h)
end Go.Proofs.Ytdfdjbhdgbbolaa
