import Derived.Test.YtfeonkcfnmamnabMath
namespace Go.Proofs.Ytfeonkcfnmamnab

/-- The price of a seat (where there is one). -/
noncomputable def priceOf (l : List Int) (n : Int) : Int := Classical.epsilon (fun p => Pm.IsPrice l n p)
theorem priceOf_is {l : List Int} {n p : Int} (h : Pm.IsPrice l n p) : Pm.IsPrice l n (priceOf l n) := Classical.epsilon_spec (p := fun p => Pm.IsPrice l n p) ⟨p, h⟩
theorem priceOf_eq {l : List Int} (hf : Pm.Fit l) {n p : Int} (h : Pm.IsPrice l n p) : p = priceOf l n := Pm.price_unique hf h (priceOf_is h)

end Go.Proofs.Ytfeonkcfnmamnab
