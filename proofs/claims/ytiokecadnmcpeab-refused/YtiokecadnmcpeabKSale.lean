import Derived.Test.YtiokecadnmcpeabKPlay
namespace Go.Proofs.Ytiokecadnmcpeab
set_option linter.unusedVariables false
set_option linter.unusedSimpArgs false

theorem PS.leftTo_is {s : PS} (p : Int) (hp : 1 ≤ p) (h0 : 0 ≤ s.seats) (hk : ∀ a, a < 7 → 0 ≤ (s.acc a).locked) (k : Nat) (h7 : k ≤ 7) : 0 ≤ Pm.bought (s.stakesTo k) p ∧ s.leftTo p k = max 0 (s.seats - Pm.bought (s.stakesTo k) p) := by
  induction k with
  | zero => simp only [PS.leftTo, PS.stakesTo, List.range_zero, List.map_nil, Pm.bought]; omega
  | succ k ih =>
    obtain ⟨i1, i2⟩ := ih (by omega)
    have hq := Int.ediv_nonneg (hk k (by omega)) (show 0 ≤ p by omega)
    rw [s.stakesTo_snoc, Pm.bought_snoc]
    simp only [PS.leftTo]
    rw [i2]
    unfold seatsOf
    rw [if_neg (by omega)]
    generalize (s.acc k).locked / p = q at *
    generalize Pm.bought (s.stakesTo k) p = b at *
    split <;> omega
theorem PS.leftTo_none {s : PS} (p : Int) (hp : p < 1) (k : Nat) : s.leftTo p k = s.seats := by
  induction k with
  | zero => rfl
  | succ k ih =>
    simp only [PS.leftTo]
    rw [ih]
    unfold seatsOf
    rw [if_pos hp]; omega
/-- The price of a sale. -/
theorem PS.salePrice_is {s : PS} (h : s.Good) : (Pm.total (s.stakesTo 7) < s.seats ∧ s.salePrice = 0) ∨ (s.seats ≤ Pm.total (s.stakesTo 7) ∧ Pm.IsPrice (s.stakesTo 7) s.seats s.salePrice) := by
  have hf := PS.stakesTo_fit h.ok 7 (Nat.le_refl _)
  have hs := h.seats
  unfold PS.salePrice
  by_cases ht : Pm.total (s.stakesTo 7) < s.seats
  · exact .inl ⟨ht, by rw [if_pos ht]⟩
  · rw [if_neg ht]
    obtain ⟨q, hq⟩ := Pm.price_exists hf hs.1 (by omega)
    exact .inr ⟨by omega, priceOf_is hq⟩
theorem PS.sell_all {s : PS} (h : s.Good) (q : Nat) : (s.sell q).seatsTo 7 = 0 ∨ (s.sell q).seatsTo 7 = s.seats := by
  have e := s.sell_sum q 7 (Nat.le_refl _)
  have hs := h.seats
  rcases PS.salePrice_is h with ⟨h1, h2⟩ | ⟨h1, h2⟩
  · left
    rw [e, h2, PS.leftTo_none 0 (by omega)]; omega
  · right
    have := (PS.leftTo_is s.salePrice h2.1 (by omega) (fun a ha => (h.pos a ha).k0) 7 (Nat.le_refl _)).2
    have h3 := h2.2.2.1
    rw [e, this]; omega

/-- All seats are given, or none. -/
def PS.SeatsOk (s : PS) : Prop := s.seatsTo 7 = 0 ∨ s.seatsTo 7 = s.seats
section
variable {s s' : PS} {o : StD} {er : Int}
theorem PS.next_seats (s : PS) (seed : Int) (a : Nat) (ha : a < 7) : ((s.next seed).acc a).seats = (s.p7.acc a).seats := by
  have := (s.p7.draw_kept seed).2.2.2.2.2.2.2.2.2.2.2 a ha
  show ((s.p7.draw seed).acc a).seats = _
  rw [this]
theorem PS.p6_seats (s : PS) : s.p6.seats = s.seats := by
  have a1 : s.p1.seats = s.seats := rfl
  have a2 : s.p2.seats = s.p1.seats := rfl
  have a3 : s.p3.seats = s.p2.seats := rfl
  have a4 : s.p4.seats = s.p3.seats := rfl
  have a5 : s.p5.seats = s.p4.seats := rfl
  have a6 : s.p6.seats = s.p5.seats := rfl
  rw [a6, a5, a4, a3, a2, a1]
theorem PS.SeatsOk.next (h : s.Good) (hl : s.Low) (he : s.epoch ≤ 4611686018427387904) (seed : Int) : (s.next seed).SeatsOk := by
  have h6 := PS.Good.p6 h hl he
  have e1 : (s.next seed).seatsTo 7 = s.p7.seatsTo 7 := sumTo_congr 7 (fun a ha => s.next_seats seed a ha)
  have e2 := PS.sell_all h6 (s.delay - 2).toNat
  have e3 : s.p7.seatsTo 7 = (s.p6.sell (s.delay - 2).toNat).seatsTo 7 := rfl
  unfold PS.SeatsOk
  rw [e1, e3, (s.next_num seed).2.1, ← s.p6_seats]
  exact e2
theorem PS.SeatsOk.did (k : s.SeatsOk) (h : s.Did o er s') (I : s.Inv) (he : s.epoch ≤ 4611686018427387904) : s'.SeatsOk := by
  by_cases hk : o.kind = 3
  · cases h using PS.Did.which with
    | no _ h => exact k
    | next h => exact PS.SeatsOk.next I.good I.low he o.A
    | idle h1 => exact absurd hk h1
    | _ => omega
  · have kk := h.kept I hk
    have e : s'.seatsTo 7 = s.seatsTo 7 := sumTo_congr 7 (fun a _ => kk.has a)
    unfold PS.SeatsOk
    rw [e, kk.seats]; exact k
end
theorem sumTo_zero {f : Nat → Int} (n : Nat) (h : ∀ k, k < n → f k = 0) : sumTo f n = 0 := by
  induction n with
  | zero => rfl
  | succ n ih => simp only [sumTo]; rw [ih (fun k hk => h k (by omega)), h n (by omega)]; rfl
theorem sumTo_far {f : Nat → Int} (n m : Nat) (hm : n ≤ m) (h : ∀ k, n ≤ k → k < m → f k = 0) : sumTo f m = sumTo f n := by
  induction m with
  | zero => have : n = 0 := by omega
            subst this; rfl
  | succ m ih =>
    by_cases e : n = m + 1
    · subst e; rfl
    · simp only [sumTo]
      rw [ih (by omega) (fun k h1 h2 => h k h1 (by omega)), h m (by omega) (by omega)]; omega
theorem sumTo_mono {f : Nat → Int} {n m : Nat} (hnm : n ≤ m) (h : ∀ k, k < m → 0 ≤ f k) : sumTo f n ≤ sumTo f m := by
  induction m with
  | zero => have : n = 0 := by omega
            subst this; exact Int.le_refl _
  | succ m ih =>
    by_cases e : n = m + 1
    · subst e; exact Int.le_refl _
    · have := ih (by omega) (fun k hk => h k (by omega))
      have := h m (by omega)
      simp only [sumTo]; omega
end Go.Proofs.Ytiokecadnmcpeab
