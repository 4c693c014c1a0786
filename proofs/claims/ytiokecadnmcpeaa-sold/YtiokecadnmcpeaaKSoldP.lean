import Derived.Test.YtiokecadnmcpeaaKSale
namespace Go.Proofs.Ytiokecadnmcpeaa
set_option linter.unusedVariables false
set_option linter.unusedSimpArgs false

/-- The seats are sold at the price for what is locked. -/
structure PS.SoldOk (t : PS) : Prop where
  sale : (Pm.total (t.stakesTo (t.N + 1)) < t.seats ∧ t.price = 0 ∧ ∀ i, i ≤ t.N → (t.acc i).seats = 0) ∨ (t.seats ≤ Pm.total (t.stakesTo (t.N + 1)) ∧ Pm.IsPrice (t.stakesTo (t.N + 1)) t.seats t.price ∧ ∀ i, i ≤ t.N → (t.acc i).seats = seatsOf (t.acc i).locked t.price (t.leftTo t.price i))
  bid : ∀ i, i < t.N → (t.acc i).bid = (t.acc i).locked

/-- What a sale leaves locked. -/
theorem sell_locked (s : PS) (p : Int) (q : Nat) (a : Nat) (c : Acc) : (sellF s p q a c).locked = (if c.locked < p then 0 else c.locked) ∧ (sellF s p q a c).seats = seatsOf c.locked p (s.leftTo p a) ∧ (sellF s p q a c).bid = (if c.locked < p then 0 else c.bid) := by
  by_cases e : c.locked < p
  · simp [sellF, e, Acc.quit, Acc.unlock]
  · simp [sellF, e]
theorem seatsOf_less {l p left : Int} (h0 : 0 ≤ l) (h1 : l < p) (hl : 0 ≤ left) : seatsOf l p left = 0 ∧ seatsOf 0 p left = 0 := by
  have e1 := Int.ediv_eq_zero_of_lt h0 h1
  constructor
  · unfold seatsOf; rw [if_neg (by omega), e1, if_neg (by omega)]
  · unfold seatsOf; rw [if_neg (by omega), Int.zero_ediv, if_neg (by omega)]
/-- Whose stake is below the price buys nothing, with or without it. -/
theorem bought_less {s t : PS} (p r : Int) (hp : 1 ≤ p) (hr : p ≤ r) (h0 : ∀ a, a < 7 → 0 ≤ (s.acc a).locked) (he : ∀ a, a < 7 → (t.acc a).locked = if (s.acc a).locked < p then 0 else (s.acc a).locked) (k : Nat) (hk : k ≤ 7) : Pm.bought (t.stakesTo k) r = Pm.bought (s.stakesTo k) r := by
  induction k with
  | zero => rfl
  | succ k ih =>
    rw [t.stakesTo_snoc, s.stakesTo_snoc, Pm.bought_snoc, Pm.bought_snoc, ih (by omega), he k (by omega)]
    split
    · rename_i e; rw [Int.zero_ediv, Int.ediv_eq_zero_of_lt (h0 k (by omega)) (by omega)]
    · rfl
theorem leftTo_less {s t : PS} (p : Int) (hs : t.seats = s.seats) (hp : 1 ≤ p) (hl : ∀ k, k ≤ 7 → 0 ≤ s.leftTo p k) (h0 : ∀ a, a < 7 → 0 ≤ (s.acc a).locked) (he : ∀ a, a < 7 → (t.acc a).locked = if (s.acc a).locked < p then 0 else (s.acc a).locked) (k : Nat) (hk : k ≤ 7) : t.leftTo p k = s.leftTo p k := by
  induction k with
  | zero => exact hs
  | succ k ih =>
    simp only [PS.leftTo]
    rw [ih (by omega), he k (by omega)]
    split
    · rename_i e
      have := seatsOf_less (h0 k (by omega)) e (hl k (by omega))
      omega
    · rfl
theorem stakes_far {t : PS} (n : Nat) (hf : ∀ a, n ≤ a → a < 7 → (t.acc a).locked = 0) (k : Nat) (h1 : n ≤ k) (h2 : k ≤ 7) : (∀ p, Pm.bought (t.stakesTo k) p = Pm.bought (t.stakesTo n) p) ∧ Pm.total (t.stakesTo k) = Pm.total (t.stakesTo n) := by
  induction k with
  | zero => have : n = 0 := by omega
            subst this; exact ⟨fun p => rfl, rfl⟩
  | succ k ih =>
    by_cases e : n = k + 1
    · subst e; exact ⟨fun p => rfl, rfl⟩
    · obtain ⟨i1, i2⟩ := ih (by omega) (by omega)
      have hz := hf k (by omega) (by omega)
      refine ⟨fun p => ?_, ?_⟩
      · rw [t.stakesTo_snoc, Pm.bought_snoc, i1, hz, Int.zero_ediv]; omega
      · rw [t.stakesTo_snoc, Pm.total_snoc, i2, hz]; omega

theorem stakes_congr {s t : PS} (k : Nat) (h : ∀ a, a < k → (t.acc a).locked = (s.acc a).locked) : t.stakesTo k = s.stakesTo k := by
  induction k with
  | zero => rfl
  | succ k ih => rw [PS.stakesTo_snoc, PS.stakesTo_snoc, ih (fun a ha => h a (by omega)), h k (by omega)]
theorem soldOk_of {m t : PS} (g6 : m.Good) (gN : t.Good) (hseats : t.seats = m.seats) (hprice : t.price = m.salePrice)
    (hlk : ∀ a, a < 7 → (t.acc a).locked = if (m.acc a).locked < m.salePrice then 0 else (m.acc a).locked)
    (hst : ∀ a, a < 7 → (t.acc a).seats = seatsOf (m.acc a).locked m.salePrice (m.leftTo m.salePrice a))
    (hbd : ∀ a, a < 7 → (t.acc a).bid = if (m.acc a).locked < m.salePrice then 0 else (m.acc a).bid)
    (hbl : ∀ a, a < t.N → (m.acc a).bid = (m.acc a).locked) : t.SoldOk := by
  have h0 : ∀ a, a < 7 → 0 ≤ (m.acc a).locked := fun a ha => (g6.pos a ha).k0
  have hN6 := gN.N6
  have hs7 := g6.seats
  have hfar : ∀ a, t.N + 1 ≤ a → a < 7 → (t.acc a).locked = 0 := fun a h1 h2 => by rw [gN.far a (by omega)]; rfl
  have hsf := stakes_far (t.N + 1) hfar 7 (by omega) (Nat.le_refl _)
  refine ⟨?_, fun i hi => ?_⟩
  · rcases PS.salePrice_is g6 with ⟨h1, h2⟩ | ⟨h1, h2⟩
    · left
      rw [h2] at hlk hst hprice
      have hsame : t.stakesTo 7 = m.stakesTo 7 := stakes_congr 7 (fun k hk => by rw [hlk k hk, if_neg (by have := h0 k hk; omega)])
      refine ⟨?_, hprice, fun i hi => ?_⟩
      · rw [← hsf.2, hsame, hseats]; exact h1
      · rw [hst i (by omega)]; unfold seatsOf; rw [if_pos (by omega)]
    · right
      have hp1 := h2.1
      have b1 : ∀ r, m.salePrice ≤ r → Pm.bought (t.stakesTo (t.N + 1)) r = Pm.bought (m.stakesTo 7) r := fun r hr => by
        rw [← hsf.1 r]; exact bought_less m.salePrice r hp1 hr h0 hlk 7 (Nat.le_refl _)
      have hfit : Pm.Fit (t.stakesTo (t.N + 1)) := PS.stakesTo_fit gN.ok _ (by omega)
      have hlb : ∀ k, k ≤ 7 → 0 ≤ m.leftTo m.salePrice k := fun k hk => (PS.leftTo_bd g6.ok _ k hk).1
      rw [hprice, hseats]
      refine ⟨?_, ⟨h2.1, h2.2.1, ?_, ?_⟩, fun i hi => ?_⟩
      · rw [← Pm.bought_one]
        have h3 := Pm.bought_anti hfit (p := 1) (q := m.salePrice) (by omega) hp1
        rw [b1 _ (Int.le_refl _)] at h3
        have := h2.2.2.1
        omega
      · rw [b1 _ (Int.le_refl _)]; exact h2.2.2.1
      · rw [b1 _ (by omega)]; exact h2.2.2.2
      · rw [hst i (by omega), leftTo_less m.salePrice hseats hp1 hlb h0 hlk i (by omega), hlk i (by omega)]
        split
        · rename_i e
          have := seatsOf_less (h0 i (by omega)) e (hlb i (by omega))
          omega
        · rfl
  · rw [hbd i (by omega), hlk i (by omega), hbl i hi]

theorem PS.SoldOk.next {s : PS} (I : s.Inv) (he : s.epoch ≤ 4611686018427387904) (seed : Int) : (s.next seed).SoldOk := by
  have h := I.good
  have hl := I.low
  have hnum := s.next_num seed
  obtain ⟨q, hq⟩ : ∃ q, q = (s.delay - 2).toNat := ⟨_, rfl⟩
  have hacc : ∀ a, a < 7 → (s.next seed).acc a = { sellF s.p6 s.p6.salePrice q a (s.p6.acc a) with cheated := false } := fun a ha => by
    have e1 := (s.p7.draw_kept seed).2.2.2.2.2.2.2.2.2.2.2 a ha
    have e2 : s.p7.acc a = sellF s.p6 s.p6.salePrice q a (s.p6.acc a) := by
      rw [hq]
      show (if a < 7 then sellF s.p6 s.p6.salePrice (s.delay - 2).toNat a (s.p6.acc a) else s.p6.acc a) = _
      rw [if_pos ha]
    show (s.p7.draw seed).acc a = _
    rw [e1, e2]
  have hprice : (s.next seed).price = s.p6.salePrice := by
    have e1 : (s.next seed).price = s.p7.price := (s.p7.draw_kept seed).2.2.2.2.2.2.2.2.2.1
    rw [e1]; rfl
  have hbl : ∀ i, i < s.N → i < 7 → (s.p6.acc i).bid = (s.p6.acc i).locked := fun i hi h7 => by
    have e1 : s.p5.N = s.N := by
      have a1 : s.p1.N = s.N := rfl
      have a2 : s.p2.N = s.p1.N := rfl
      have a3 : s.p3.N = s.p2.N := rfl
      have a4 : s.p4.N = s.p3.N := rfl
      have a5 : s.p5.N = s.p4.N := rfl
      rw [a5, a4, a3, a2, a1]
    have e2 : s.p6.acc i = lowerF (s.delay - 2).toNat i (s.p5.acc i) := by
      show (if i < s.p5.N then lowerF (s.delay - 2).toNat i (s.p5.acc i) else s.p5.acc i) = _
      rw [if_pos (by omega)]
    have hl5 := PS.p5_low h hl he i h7
    rw [e2]
    generalize s.p5.acc i = c at *
    unfold lowerF
    split
    · show c.bid = c.locked - (c.locked - c.bid); omega
    · omega
  have hseats : (s.next seed).seats = s.p6.seats := by rw [hnum.2.1, s.p6_seats]
  have g6 := PS.Good.p6 h hl he
  have gN := PS.Good.next h hl he seed
  have hN := hnum.1
  have hN6 := h.N6
  clear hnum hq
  generalize s.next seed = t at *
  generalize s.p6 = m at *
  exact soldOk_of g6 gN hseats hprice (fun a ha => by rw [hacc a ha]; exact (sell_locked m m.salePrice q a (m.acc a)).1) (fun a ha => by rw [hacc a ha]; exact (sell_locked m m.salePrice q a (m.acc a)).2.1) (fun a ha => by rw [hacc a ha]; exact (sell_locked m m.salePrice q a (m.acc a)).2.2) (fun a ha => hbl a (by omega) (by omega))
end Go.Proofs.Ytiokecadnmcpeaa
