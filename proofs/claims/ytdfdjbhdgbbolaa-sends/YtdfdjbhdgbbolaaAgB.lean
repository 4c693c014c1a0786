import Derived.Test.YtdfdjbhdgbbolaaAgA
import Derived.Test.YtdfdjbhdgbbolaaRefNew
import Derived.Test.YtdfdjbhdgbbolaaRefB
namespace Go.Proofs.Ytdfdjbhdgbbolaa
set_option linter.unusedVariables false
set_option linter.unusedSimpArgs false

theorem Bk.same {b : List Mv} {s s' : PS} (h : Bk b s) (hN : s'.N = s.N) (he : s'.epoch = s.epoch) (ht : s'.treasury = s.treasury) (ha : ∀ a, a ≤ s.N → (s'.acc a).liquid = (s.acc a).liquid ∧ (s'.acc a).locked = (s.acc a).locked ∧ (s'.acc a).shares = (s.acc a).shares ∧ (s'.acc a).q = (s.acc a).q) : Bk b s' := by
  have hamt : ∀ (k : Int) (a : Nat), a ≤ s.N → s'.amt k a = s.amt k a := fun k a hk => by
    obtain ⟨a1, a2, a3, a4⟩ := ha a hk
    unfold PS.amt Acc.queued
    rw [a1, a2, a3, a4, ht]
  refine ⟨fun k a h1 h5 hk => ?_, fun k h1 h5 => ?_, fun a e hk => ?_⟩
  · rw [h.all k a h1 h5 (by omega), hamt k a (by omega)]
  · rw [h.sum k h1 h5, hN]; exact sumTo_congr _ (fun a hk => (hamt k a (by omega)).symm)
  · rw [h.due a e (by omega)]
    unfold PS.dueOf
    rw [he, (ha a (by omega)).2.2.2]

section
variable {s : PS}

theorem stakes_far (g : s.Good) (d : Nat) : Pm.total (s.stakesTo (s.N + 1 + d)) = Pm.total (s.stakesTo (s.N + 1)) ∧ ∀ p, Pm.bought (s.stakesTo (s.N + 1 + d)) p = Pm.bought (s.stakesTo (s.N + 1)) p := by
  induction d with
  | zero => exact ⟨rfl, fun _ => rfl⟩
  | succ d ih =>
    have hz : (s.acc (s.N + 1 + d)).locked = 0 := by rw [g.far (s.N + 1 + d) (by omega)]; rfl
    rw [show s.N + 1 + (d + 1) = (s.N + 1 + d) + 1 by omega, PS.stakesTo_snoc, hz]
    refine ⟨by rw [Pm.total_snoc, ih.1]; omega, fun p => by rw [Pm.bought_snoc, ih.2 p, Int.zero_ediv]; omega⟩
theorem stakes_eq {b : List Mv} (h : Bk b s) : stakesTo b (s.N + 1) = s.stakesTo (s.N + 1) := by
  unfold stakesTo PS.stakesTo
  apply List.map_congr_left
  intro a ha
  have : a < s.N + 1 := by simpa using ha
  exact h.all 2 a (by omega) (by omega) (by omega)
theorem priceFrom_congr {l l' : List Int} (n : Int) (h : ∀ p, Pm.bought l p = Pm.bought l' p) (k : Nat) : priceFrom l n k = priceFrom l' n k := by
  induction k with
  | zero => rfl
  | succ k ih => simp only [priceFrom]; rw [h, h, ih]
theorem priceOf_congr {l l' : List Int} (n : Int) (h1 : Pm.total l = Pm.total l') (h : ∀ p, Pm.bought l p = Pm.bought l' p) : priceOf l n = priceOf l' n := by
  unfold priceOf
  rw [h1, priceFrom_congr n h]
theorem priceOf_far (g : s.Good) {b : List Mv} (h : Bk b s) (n : Int) : Pm.total (stakesTo b (s.N + 1)) = Pm.total (s.stakesTo 7) ∧ priceOf (stakesTo b (s.N + 1)) n = priceOf (s.stakesTo 7) n := by
  have hN := g.N6
  have e := stakes_far g (7 - (s.N + 1))
  rw [show s.N + 1 + (7 - (s.N + 1)) = 7 by omega] at e
  rw [stakes_eq h]
  refine ⟨e.1.symm, ?_⟩
  exact priceOf_congr n e.1.symm (fun p => (e.2 p).symm)
/-- Somebody's price. -/
theorem salePrice_pos (g : s.Good) (hf : ¬ Pm.total (s.stakesTo 7) < s.seats) : 1 ≤ s.salePrice := by
  have hfit := PS.stakesTo_fit g.ok 7 (Nat.le_refl _)
  unfold PS.salePrice
  rw [if_neg hf]
  have hse := g.seats
  have ⟨p, hp⟩ : ∃ p, Pm.IsPrice (s.stakesTo 7) s.seats p := Pm.price_exists hfit hse.1 (by omega)
  exact (priceOf_is hp).1

theorem seatsOf_min {lo p l : Int} (hp : 1 ≤ p) : seatsOf lo p l = min (lo / p) l := by
  unfold seatsOf
  rw [if_neg (by omega)]
  split <;> omega
theorem ediv_zero_iff {lo p : Int} (h0 : 0 ≤ lo) (hp : 1 ≤ p) : lo / p = 0 ↔ lo < p := by
  constructor
  · intro h
    have := Int.lt_ediv_add_one_mul_self lo (show 0 < p by omega)
    rw [h] at this
    omega
  · intro h; exact Int.ediv_eq_zero_of_lt h0 h

theorem sell_bk {r : RS} (g : s.Good) (h : Bk r.book s) (hN : r.N = s.N) (hs : r.seats = s.seats) (bl : r.bids.length = s.N + 1) (hl : s.N + 1 ≤ r.has.length) (bid : ∀ a, a ≤ s.N → r.bids.getD a 0 = (s.acc a).bid) (q : Nat) (hq : q < 5) (he : r.epoch + r.delay = s.epoch + 1 + q) (p : Int) (hp : 1 ≤ p) (hz : ∀ a, a ≤ s.N → r.has.getD a 0 = 0) : ∀ k, k ≤ s.N + 1 →
    Bk (r.sellTo (s.stakesTo (s.N + 1)) p k).1.book (s.mapTo (sellF s p q) k) ∧ (r.sellTo (s.stakesTo (s.N + 1)) p k).1.bids.length = s.N + 1 ∧ (∀ a, a ≤ s.N → (r.sellTo (s.stakesTo (s.N + 1)) p k).1.bids.getD a 0 = ((s.mapTo (sellF s p q) k).acc a).bid) ∧ (r.sellTo (s.stakesTo (s.N + 1)) p k).1.has.length = r.has.length ∧ (∀ a, a < k → (r.sellTo (s.stakesTo (s.N + 1)) p k).1.has.getD a 0 = ((s.mapTo (sellF s p q) k).acc a).seats) ∧ (r.sellTo (s.stakesTo (s.N + 1)) p k).2 = s.seats - s.leftTo p k := by
  intro k
  induction k with
  | zero =>
    intro _
    rw [PS.mapTo_zero]
    exact ⟨h, bl, bid, rfl, fun a ha => absurd ha (by omega), by show (0 : Int) = s.seats - s.seats; omega⟩
  | succ k ih =>
    intro hk
    obtain ⟨i1, i2, i3, i4, i5, i6⟩ := ih (by omega)
    have hN6 := g.N6
    have hpk := g.pos k (by omega)
    have ho := PS.mapTo_at s (sellF s p q) k
    have hn : (s.mapTo (sellF s p q) (k + 1)).acc k = { (if (s.acc k).locked < p then (s.acc k).quit q else s.acc k) with seats := seatsOf (s.acc k).locked p (s.leftTo p k) } := PS.mapTo_new _ _ _
    have hlk : (s.stakesTo (s.N + 1)).getD k 0 = (s.acc k).locked := by
      unfold PS.stakesTo
      simp [List.getD, show k < s.N + 1 by omega]
    have hm := seatsOf_min (lo := (s.acc k).locked) (l := s.leftTo p k) hp
    have hz0 := ediv_zero_iff hpk.k0 hp
    simp only [RS.sellTo]
    rw [hlk, i6, hs, show s.seats - (s.seats - s.leftTo p k) = s.leftTo p k by omega, ← hm]
    generalize hQ : (r.sellTo (s.stakesTo (s.N + 1)) p k).1 = Q at *
    have hhas : ∀ (Q' : RS), Q'.has = Q.has → (Q'.has.set k (seatsOf (s.acc k).locked p (s.leftTo p k))).length = r.has.length ∧ ∀ a, a < k + 1 → (Q'.has.set k (seatsOf (s.acc k).locked p (s.leftTo p k))).getD a 0 = ((s.mapTo (sellF s p q) (k + 1)).acc a).seats := fun Q' hQ' => by
      rw [hQ']
      refine ⟨by rw [List.length_set]; exact i4, fun a ha => ?_⟩
      by_cases e : a = k
      · subst e
        rw [hn]
        have : a < Q.has.length := by omega
        simp [List.getD, this]
      · rw [getD_set_ne _ _ _ _ (fun e2 => e e2.symm), i5 a (by omega), PS.mapTo_oth _ _ _ e]
    have hleft : s.seats - s.leftTo p k + seatsOf (s.acc k).locked p (s.leftTo p k) = s.seats - s.leftTo p (k + 1) := by simp only [PS.leftTo]; omega
    by_cases e : (s.acc k).locked / p = 0
    · rw [if_pos e]
      have elt := hz0.1 e
      rw [if_pos elt] at hn
      refine ⟨?_, ?_, fun a ha => ?_, (hhas _ rfl).1, (hhas _ rfl).2, hleft⟩
      · show Bk (Q.book ++ [⟨2, k, 0, 3, k, r.epoch + r.delay, (s.acc k).locked⟩]) _
        refine i1.unlock (a := k) (q := q) (by show k ≤ s.N; omega) hq (s.acc k).locked _ he rfl rfl rfl (fun i hi => PS.mapTo_oth _ _ k hi) ?_ ?_ ?_ ?_
        · rw [hn, ho]; rfl
        · rw [hn, ho]; rfl
        · rw [hn, ho]; rfl
        · rw [hn, ho]; rfl
      · show (Q.bids.set k 0).length = _
        rw [List.length_set]; exact i2
      · show (Q.bids.set k 0).getD a 0 = _
        by_cases e4 : a = k
        · subst e4
          rw [hn]
          have : a < Q.bids.length := by omega
          simp [List.getD, this, Acc.quit]
        · rw [getD_set_ne _ _ _ _ (fun e5 => e4 e5.symm), i3 a ha, PS.mapTo_oth _ _ _ e4]
    · rw [if_neg e]
      have elt : ¬ (s.acc k).locked < p := fun h2 => e (hz0.2 h2)
      rw [if_neg elt] at hn
      refine ⟨?_, i2, fun a ha => ?_, (hhas _ rfl).1, (hhas _ rfl).2, hleft⟩
      · refine i1.same rfl rfl rfl (fun a ha => ?_)
        by_cases e4 : a = k
        · subst e4; rw [hn, ho]; exact ⟨rfl, rfl, rfl, rfl⟩
        · rw [PS.mapTo_oth _ _ _ e4]; exact ⟨rfl, rfl, rfl, rfl⟩
      · show Q.bids.getD a 0 = _
        rw [i3 a ha]
        by_cases e4 : a = k
        · subst e4; rw [hn, ho]
        · rw [PS.mapTo_oth _ _ _ e4]
theorem sellF_far (g : s.Good) (p : Int) (q : Nat) (a : Nat) (h1 : s.N < a) (h2 : a < 7) : sellF s p q a (s.acc a) = s.acc a := by
  have hl := PS.leftTo_bd g.ok p a (by omega)
  rw [g.far a h1]
  have e0 : seatsOf Acc.zero.locked p (s.leftTo p a) = 0 := seatsOf_zero hl.1
  unfold sellF
  rw [e0, Acc.quit_zero]
  simp
  rfl

/-- The sale. -/
theorem sale_bk {r : RS} (g : s.Good) (h : Bk r.book s) (hN : r.N = s.N) (hs : r.seats = s.seats) (bl : r.bids.length = s.N + 1) (hl : r.has.length = s.N + 1) (bid : ∀ a, a ≤ s.N → r.bids.getD a 0 = (s.acc a).bid) (q : Nat) (hq : q < 5) (he : r.epoch + r.delay = s.epoch + 1 + q) :
    Bk r.sale.book (s.sell q) ∧ r.sale.bids.length = s.N + 1 ∧ (∀ a, a ≤ s.N → r.sale.bids.getD a 0 = ((s.sell q).acc a).bid) ∧ r.sale.has.length = s.N + 1 ∧ (∀ a, a ≤ s.N → r.sale.has.getD a 0 = ((s.sell q).acc a).seats) ∧ r.sale.price = (s.sell q).price := by
  have hN6 := g.N6
  have hpf := priceOf_far g h s.seats
  obtain ⟨cl, hcl, hcll⟩ := r.clearTo_eq (r.N + 1)
  have hch := r.clearTo_has (r.N + 1) (by omega)
  rw [hcl] at hch
  have hpt : Pm.total (stakesTo r.book (r.N + 1)) = Pm.total (s.stakesTo 7) := by rw [hN]; exact hpf.1
  have hpp : priceOf (stakesTo r.book (r.N + 1)) r.seats = priceOf (s.stakesTo 7) s.seats := by rw [hN, hs]; exact hpf.2
  by_cases hf : Pm.total (s.stakesTo 7) < s.seats
  · have hsale : r.sale = { r with has := cl, price := 0 } := by
      unfold RS.sale
      rw [hpt, if_pos (by rw [hs]; exact hf), hcl]
    rw [hsale]
    have hp0 : s.salePrice = 0 := by unfold PS.salePrice; rw [if_pos hf]
    have hacc : ∀ a, a ≤ s.N → (s.sell q).acc a = { s.acc a with seats := 0 } := fun a ha => by
      show (if a < 7 then sellF s s.salePrice q a (s.acc a) else s.acc a) = _
      rw [if_pos (by omega), hp0]
      have hk0 := (g.pos a (by omega)).k0
      unfold sellF
      rw [if_neg (by omega)]
      have : seatsOf (s.acc a).locked 0 (s.leftTo 0 a) = 0 := by unfold seatsOf; rw [if_pos (by omega)]
      rw [this]
    refine ⟨h.same rfl rfl rfl (fun a ha => by rw [hacc a ha]; exact ⟨rfl, rfl, rfl, rfl⟩), bl, fun a ha => by rw [hacc a ha]; exact bid a ha, by show cl.length = _; omega, fun a ha => by rw [hacc a ha]; exact hch a (by omega), hp0.symm⟩
  · have hp : priceOf (s.stakesTo 7) s.seats = s.salePrice := by unfold PS.salePrice; rw [if_neg hf]
    have hp1 := salePrice_pos g hf
    obtain ⟨z, hz⟩ : ∃ z : RS, z = { r with has := cl, price := s.salePrice } := ⟨_, rfl⟩
    have hst : stakesTo r.book (r.N + 1) = s.stakesTo (s.N + 1) := by rw [hN]; exact stakes_eq h
    have hsale : r.sale = (z.sellTo (s.stakesTo (s.N + 1)) s.salePrice (s.N + 1)).1 := by
      unfold RS.sale
      rw [if_neg (by rw [hpt, hs]; exact hf), hpp, hp, hst, hz, hcl, ← hN]
    rw [hsale]
    have z1 : z.book = r.book := by rw [hz]
    have z2 : z.bids = r.bids := by rw [hz]
    have z3 : z.has = cl := by rw [hz]
    have z4 : z.N = r.N := by rw [hz]
    have z5 : z.seats = r.seats := by rw [hz]
    have z6 : z.epoch = r.epoch := by rw [hz]
    have z7 : z.delay = r.delay := by rw [hz]
    have z8 : z.price = s.salePrice := by rw [hz]
    have hsb := sell_bk (r := z) g (by rw [z1]; exact h) (by rw [z4]; exact hN) (by rw [z5]; exact hs) (by rw [z2]; exact bl) (by rw [z3]; omega) (by rw [z2]; exact bid) q hq (by rw [z6, z7]; exact he) s.salePrice hp1 (by rw [z3]; intro a ha; exact hch a (by omega)) (s.N + 1) (Nat.le_refl _)
    obtain ⟨i1, i2, i3, i4, i5, i6⟩ := hsb
    have hpz := (RS.sellTo_sold z (s.stakesTo (s.N + 1)) s.salePrice (by rw [z5, hs]; have := g.seats; omega) (fun j => by
      by_cases hj : j < (s.stakesTo (s.N + 1)).length
      · exact Int.ediv_nonneg (Pm.fit_at (PS.stakesTo_fit g.ok (s.N + 1) (by omega)) hj).1 (by omega)
      · have : (s.stakesTo (s.N + 1)).getD j 0 = 0 := by simp [List.getD, List.getElem?_eq_none (Nat.le_of_not_lt hj)]
        rw [this]; simp) (s.N + 1)).price
    have hfar : s.sell q = { s.mapTo (sellF s s.salePrice q) (s.N + 1) with price := s.salePrice } := by
      show ({ s with price := s.salePrice } : PS).mapTo (sellF s s.salePrice q) 7 = _
      exact PS.mapTo_far { s with price := s.salePrice } (sellF s s.salePrice q) (s.N + 1) 7 (by omega) (fun a h1 h2 => sellF_far g _ q a (by omega) h2)
    rw [hfar]
    refine ⟨i1.same rfl rfl rfl (fun a ha => ⟨rfl, rfl, rfl, rfl⟩), i2, i3, by rw [i4, z3]; omega, fun a ha => i5 a (by omega), by rw [hpz, z8]⟩
end

/-- The row. -/
theorem row_eq (s : PS) (l : List Int) (h0 : ∀ a, a < 7 → 0 ≤ (s.acc a).seats) : ∀ k, k ≤ 7 → (∀ a, a < k → l.getD a 0 = (s.acc a).seats) → (rowOf l k).length = (s.rowTo k).rlen ∧ ∀ j, j < (s.rowTo k).rlen → (rowOf l k).getD j 0 = (s.rowTo k).row j := by
  intro k
  induction k with
  | zero => intro _ _; exact ⟨rfl, fun j hj => absurd hj (Nat.not_lt_zero j)⟩
  | succ k ih =>
    intro hk hl
    obtain ⟨i1, i2⟩ := ih (by omega) (fun a ha => hl a (by omega))
    have hlk := hl k (by omega)
    have er : (s.rowTo (k + 1)).rlen = (s.rowTo k).rlen + (s.acc k).seats.toNat := rfl
    have ef : ∀ j, (s.rowTo (k + 1)).row j = if (s.rowTo k).rlen ≤ j ∧ j < (s.rowTo k).rlen + (s.acc k).seats.toNat then (k : Int) else (s.rowTo k).row j := fun _ => rfl
    simp only [rowOf]
    rw [hlk, er]
    refine ⟨by rw [List.length_append, i1, List.length_replicate], fun j hj => ?_⟩
    rw [ef j]
    by_cases e : j < (s.rowTo k).rlen
    · rw [if_neg (by omega), ← i2 j e]
      simp only [List.getD]
      rw [List.getElem?_append_left (by omega)]
    · rw [if_pos ⟨by omega, hj⟩]
      simp only [List.getD]
      rw [List.getElem?_append_right (by omega), List.getElem?_replicate, if_pos (by omega)]; first | done | rfl
theorem row_far (s : PS) (l : List Int) (n : Nat) (hl : ∀ a, n ≤ a → (s.acc a).seats = 0) : ∀ d, (s.rowTo (n + d)).rlen = (s.rowTo n).rlen ∧ ∀ j, j < (s.rowTo n).rlen → (s.rowTo (n + d)).row j = (s.rowTo n).row j := by
  intro d
  induction d with
  | zero => exact ⟨rfl, fun _ _ => rfl⟩
  | succ d ih =>
    have hz := hl (n + d) (by omega)
    have er : (s.rowTo (n + (d + 1))).rlen = (s.rowTo (n + d)).rlen + (s.acc (n + d)).seats.toNat := rfl
    have ef : ∀ j, (s.rowTo (n + (d + 1))).row j = if (s.rowTo (n + d)).rlen ≤ j ∧ j < (s.rowTo (n + d)).rlen + (s.acc (n + d)).seats.toNat then ((n + d : Nat) : Int) else (s.rowTo (n + d)).row j := fun _ => rfl
    rw [hz] at er ef
    refine ⟨by rw [er, ih.1]; rfl, fun j hj => ?_⟩
    rw [ef j, if_neg (by rw [ih.1]; have : (0 : Int).toNat = 0 := rfl; omega), ih.2 j hj]
theorem shuf_eq (n : Nat) : ∀ (r : Int) (l : List Int) (f : Nat → Int), n ≤ l.length → (∀ j, j < l.length → l.getD j 0 = f j) → ∀ j, j < l.length → (shuf n r l).getD j 0 = shufP n r f j := by
  induction n with
  | zero => intro r l f _ h; exact h
  | succ n ih =>
    intro r l f hn h
    match n, ih with
    | 0, _ => exact h
    | n + 1, ih =>
      intro j hj
      simp only [shuf, shufP]
      have hr : rollOf r = rollP r := rfl
      rw [hr]
      have hb : (rollP r / 65536 % ((n : Int) + 2)).toNat < n + 2 := by
        have := Int.emod_lt_of_pos (rollP r / 65536) (show (0 : Int) < (n : Int) + 2 by omega)
        have := Int.emod_nonneg (rollP r / 65536) (show (n : Int) + 2 ≠ 0 by omega)
        omega
      generalize (rollP r / 65536 % ((n : Int) + 2)).toNat = m at *
      refine ih (rollP r) _ _ (by rw [exch_length]; omega) (fun i hi => ?_) j (by rw [exch_length]; exact hj)
      rw [exch_length] at hi
      rw [exch_at _ _ _ _ hi]
      unfold exAt swapP
      rw [h (n + 1) (by omega), h m (by omega), h i hi]
theorem draw_eq (s : PS) (g : s.Good) (l : List Int) (seed : Int) (hl : l.length = s.N + 1) (hs : ∀ a, a ≤ s.N → l.getD a 0 = (s.acc a).seats) : (drawOf l seed).length = (s.draw seed).rlen ∧ ∀ j, j < (s.draw seed).rlen → (drawOf l seed).getD j 0 = (s.draw seed).row j := by
  have hN := g.N6
  have e1 := row_eq s l (fun a ha => (g.pos a ha).s0) (s.N + 1) (by omega) (fun a ha => hs a (by omega))
  have e2 := row_far s l (s.N + 1) (fun a ha => by rw [g.far a (by omega)]; rfl) (7 - (s.N + 1))
  rw [show s.N + 1 + (7 - (s.N + 1)) = 7 by omega] at e2
  have er : (s.draw seed).rlen = (s.rowTo 7).rlen := rfl
  have ef : (s.draw seed).row = shufP (s.rowTo 7).rlen (seed % 2147483648) (s.rowTo 7).row := rfl
  unfold drawOf
  rw [hl, er, ef, shuf_length, e1.1, e2.1]
  refine ⟨rfl, fun j hj => ?_⟩
  exact shuf_eq _ _ _ _ (by rw [e1.1]; exact Nat.le_refl _) (fun i hi => by rw [e1.1] at hi; rw [e1.2 i hi, e2.2 i hi]) j (by rw [e1.1]; exact hj)
end Go.Proofs.Ytdfdjbhdgbbolaa
namespace Go.Proofs.Ytdfdjbhdgbbolaa
set_option linter.unusedVariables false
set_option linter.unusedSimpArgs false

/-- What Next leaves as it is. -/
structure PKept (s s' : PS) : Prop where
  N : s'.N = s.N
  seats : s'.seats = s.seats
  delay : s'.delay = s.delay
  rate : s'.rate = s.rate
  cut : s'.cut = s.cut
  length : s'.length = s.length
  need : s'.need = s.need
theorem PKept.trans {a b c : PS} (h : PKept a b) (k : PKept b c) : PKept a c := ⟨k.N.trans h.N, k.seats.trans h.seats, k.delay.trans h.delay, k.rate.trans h.rate, k.cut.trans h.cut, k.length.trans h.length, k.need.trans h.need⟩
theorem burn_kept (s : PS) (j : Nat → Int) : PKept s (s.burn j) ∧ (s.burn j).epoch = s.epoch := ⟨⟨rfl, rfl, rfl, rfl, rfl, rfl, rfl⟩, rfl⟩
theorem pay_kept (s : PS) (j : Nat → Int) : PKept s (s.pay j) ∧ (s.pay j).epoch = s.epoch := ⟨⟨rfl, rfl, rfl, rfl, rfl, rfl, rfl⟩, rfl⟩
theorem dismiss_kept (s : PS) (j : Nat → Int) (q : Nat) : PKept s (s.dismiss j q) ∧ (s.dismiss j q).epoch = s.epoch := ⟨⟨rfl, rfl, rfl, rfl, rfl, rfl, rfl⟩, rfl⟩
theorem begin_kept (s : PS) : PKept s s.begin ∧ s.begin.epoch = s.epoch + 1 := ⟨⟨rfl, rfl, rfl, rfl, rfl, rfl, rfl⟩, rfl⟩
theorem pool_kept (s : PS) : PKept s s.lockPool ∧ s.lockPool.epoch = s.epoch := ⟨⟨rfl, rfl, rfl, rfl, rfl, rfl, rfl⟩, rfl⟩
theorem lower_kept (s : PS) (q : Nat) : PKept s (s.lower q) ∧ (s.lower q).epoch = s.epoch := ⟨⟨rfl, rfl, rfl, rfl, rfl, rfl, rfl⟩, rfl⟩
theorem sell_kept (s : PS) (q : Nat) : PKept s (s.sell q) ∧ (s.sell q).epoch = s.epoch := ⟨⟨rfl, rfl, rfl, rfl, rfl, rfl, rfl⟩, rfl⟩
theorem kept1 (s : PS) : PKept s s.p1 ∧ s.p1.epoch = s.epoch := burn_kept s _
theorem kept2 (s : PS) : PKept s s.p2 ∧ s.p2.epoch = s.epoch := ⟨(kept1 s).1.trans (pay_kept s.p1 s.stand).1, (pay_kept s.p1 s.stand).2.trans (kept1 s).2⟩
theorem kept3 (s : PS) : PKept s s.p3 ∧ s.p3.epoch = s.epoch := ⟨(kept2 s).1.trans (dismiss_kept s.p2 s.stand _).1, (dismiss_kept s.p2 s.stand (s.delay - 1).toNat).2.trans (kept2 s).2⟩
theorem kept4 (s : PS) : PKept s s.p4 ∧ s.p4.epoch = s.epoch + 1 := ⟨(kept3 s).1.trans (begin_kept s.p3).1, (begin_kept s.p3).2.trans (by rw [(kept3 s).2])⟩
theorem kept5 (s : PS) : PKept s s.p5 ∧ s.p5.epoch = s.epoch + 1 := ⟨(kept4 s).1.trans (pool_kept s.p4).1, (pool_kept s.p4).2.trans (kept4 s).2⟩
theorem kept6 (s : PS) : PKept s s.p6 ∧ s.p6.epoch = s.epoch + 1 := ⟨(kept5 s).1.trans (lower_kept s.p5 _).1, (lower_kept s.p5 (s.delay - 2).toNat).2.trans (kept5 s).2⟩
theorem kept7 (s : PS) : PKept s s.p7 ∧ s.p7.epoch = s.epoch + 1 := ⟨(kept6 s).1.trans (sell_kept s.p6 _).1, (sell_kept s.p6 (s.delay - 2).toNat).2.trans (kept6 s).2⟩

/-- The program's chain and the document's agree. -/
structure Ag (s : PS) (r : RS) : Prop where
  good : s.Good
  low : s.Low
  che : ∀ a, (s.acc a).cheated = true → 1 ≤ (s.acc a).seats
  N : s.N = r.N
  seats : s.seats = r.seats
  delay : s.delay = r.delay
  rate : s.rate = r.rate
  cut : s.cut = r.cut
  length : s.length = r.length
  need : s.need = r.need
  epoch : s.epoch = r.epoch
  price : s.price = r.price
  bk : Bk r.book s
  bl : r.bids.length = s.N + 1
  bid : ∀ a, a ≤ s.N → r.bids.getD a 0 = (s.acc a).bid
  hl : r.has.length = s.N + 1
  has : ∀ a, a ≤ s.N → r.has.getD a 0 = (s.acc a).seats
  cl : r.cheat.length = s.N + 1
  cheat : ∀ a, a ≤ s.N → r.cheat.getD a false = (s.acc a).cheated
  ml : (r.made.length : Int) = r.length
  made : ∀ k : Nat, (k : Int) < r.length → r.made.getD k false = s.blocks k
  rlen : r.row.length = s.rlen
  row : ∀ k, k < s.rlen → r.row.getD k 0 = s.row k

section
variable {s : PS} {r : RS}

theorem Ag.same (h : Ag s r) : Same s r :=
  ⟨h.N, h.seats, h.delay, h.rate, h.cut, h.epoch, h.length, h.need, h.has, h.cheat, h.made, h.rlen, h.row, h.good.length, h.good.far, h.che, h.good.N6⟩
theorem getD_far {l : List Int} {a : Nat} (h : l.length ≤ a) : l.getD a 0 = 0 := by simp [List.getD, List.getElem?_eq_none h]
theorem Ag.cfg (h : Ag s r) (he : r.epoch ≤ 4611686018427387904) : Cfg r where
  seats := by rw [← h.seats]; exact h.good.seats
  delay := by rw [← h.delay]; exact h.good.delay
  rate := by rw [← h.rate]; exact h.good.rate
  cut := by rw [← h.cut]; exact h.good.cut
  length := by rw [← h.length]; exact h.good.length
  need := by rw [← h.need]; exact h.good.need
  N := by rw [← h.N]; exact ⟨h.good.N1, h.good.N6⟩
  bids := by rw [h.bl, h.N]
  has := by rw [h.hl, h.N]
  cheat := by rw [h.cl, h.N]
  made := h.ml
  row := by rw [h.rlen]; exact h.good.rlen
  has0 := fun a => by
    have hN := h.good.N6
    by_cases ha : a ≤ s.N
    · rw [h.has a ha]; exact ⟨(h.good.pos a (by omega)).s0, (h.good.pos a (by omega)).s1⟩
    · rw [getD_far (by rw [h.hl]; omega)]; omega
  epoch := ⟨by rw [← h.epoch]; exact h.good.e0, he⟩
theorem Ag.amt (h : Ag s r) : Amt r.book r.N := by rw [← h.N]; exact h.bk.amtOk h.good

theorem Ag.money (h : Ag s r) : Bk r.money.book s.p2 ∧ r.money.bids.length = s.N + 1 ∧ ∀ a, a ≤ s.N → r.money.bids.getD a 0 = (s.p2.acc a).bid := by
  have := pay_bk h.good h.same h.bk h.bl h.bid (s.N + 1) (Nat.le_refl _)
  rw [pay_far h.good h.same]
  unfold RS.money
  rw [show r.N + 1 = s.N + 1 by rw [h.N]] at *
  exact this
theorem Ag.away (h : Ag s r) (k : Nat) (hk : k ≤ s.N + 1) : Bk (r.money.awayTo r.gone k).book (s.p2.mapTo (dismissF s.stand (s.delay - 1).toNat) k) ∧ (r.money.awayTo r.gone k).bids.length = s.N + 1 ∧ ∀ a, a ≤ s.N → (r.money.awayTo r.gone k).bids.getD a 0 = ((s.p2.mapTo (dismissF s.stand (s.delay - 1).toNat) k).acc a).bid := away_bk h.good h.same h.money.1 h.money.2.1 h.money.2.2 k hk
theorem Ag.st3 (h : Ag s r) : Bk r.st3.book s.p3 ∧ r.st3.bids.length = s.N + 1 ∧ ∀ a, a ≤ s.N → r.st3.bids.getD a 0 = (s.p3.acc a).bid := by
  have := h.away (s.N + 1) (Nat.le_refl _)
  rw [away_far h.good h.low]
  unfold RS.st3
  rw [← h.N]
  exact this
theorem Ag.n3 (h : Ag s r) : r.st3.N = s.N ∧ r.st3.epoch = s.epoch ∧ r.st3.delay = s.delay ∧ r.st3.seats = s.seats := ⟨r.st3_alike.N.trans h.N.symm, r.st3_alike.epoch.trans h.epoch.symm, r.st3_alike.delay.trans h.delay.symm, r.st3_alike.seats.trans h.seats.symm⟩
theorem Ag.home (h : Ag s r) (k : Nat) (hk : k ≤ s.N + 1) : Bk (r.st3.homeTo k).book (s.p3.mapTo homeF k) :=
  home_bk h.st3.1 (h.n3.1.trans (kept3 s).1.N.symm) (h.n3.2.1.trans (kept3 s).2.symm) k (by rw [(kept3 s).1.N]; exact hk)
theorem homeTo_bids (q : RS) (k : Nat) : (q.homeTo k).bids = q.bids := by
  induction k with
  | zero => rfl
  | succ k ih => exact ih
theorem home_bids (q : RS) : q.home.bids = q.bids := homeTo_bids q (q.N + 1)

theorem st4_of {q : RS} {t : PS} (g3 : t.Good) (g4 : t.begin.Good) (hN : q.N = t.N) (h1 : Bk (q.homeTo (t.N + 1)).book (t.mapTo homeF (t.N + 1))) : Bk q.home.book t.begin.lockPool := by
  rw [← home_far g3] at h1
  have h2 : Bk (q.homeTo (t.N + 1)).book t.begin := Bk.rebase g3 h1
  have h3 := pool_bk g4 h2
  have e : q.home.book = (q.homeTo (t.N + 1)).book ++ [⟨1, t.N, 0, 2, t.N, 0, allOf (q.homeTo (t.N + 1)).book 1 t.N⟩] := by rw [← hN]; rfl
  rw [e]
  exact h3
theorem Ag.st4b (h : Ag s r) (he : r.epoch ≤ 4611686018427387904) : Bk r.st4.book s.p5 := by
  have g3 := h.good.p3 h.low
  have g4 := PS.Good.p4 h.good h.low (by rw [h.epoch]; exact he)
  have k3 := (kept3 s).1.N
  have h1 := h.home (s.N + 1) (Nat.le_refl _)
  rw [← k3] at h1
  exact st4_of g3 g4 (h.n3.1.trans k3.symm) h1
theorem back_bid (s : PS) (a : Nat) (ha : a < 7) : (s.begin.acc a).bid = (s.acc a).bid := by
  show (if a < 7 then (s.acc a).back else s.acc a).bid = _
  rw [if_pos ha]; rfl
theorem pool_bid (s : PS) (a : Nat) : (s.lockPool.acc a).bid = (s.acc a).bid := by
  unfold PS.lockPool
  by_cases e : a = s.N
  · subst e; rw [PS.setAcc_same]; rfl
  · rw [PS.setAcc_other _ _ e]
theorem Ag.st4 (h : Ag s r) (he : r.epoch ≤ 4611686018427387904) : Bk r.st4.book s.p5 ∧ r.st4.bids.length = s.N + 1 ∧ ∀ a, a ≤ s.N → r.st4.bids.getD a 0 = (s.p5.acc a).bid := by
  have hN6 : ∀ a, a ≤ s.N → a < 7 := fun a ha => by have := h.good.N6; omega
  refine ⟨h.st4b he, ?_, fun a ha => ?_⟩
  · unfold RS.st4; rw [home_bids]; exact h.st3.2.1
  · unfold RS.st4
    rw [home_bids, h.st3.2.2 a ha]
    unfold PS.p5 PS.p4
    rw [pool_bid, back_bid _ _ (hN6 a ha)]
theorem Ag.n4 (h : Ag s r) : r.st4.N = s.N ∧ r.st4.epoch = s.epoch ∧ r.st4.delay = s.delay ∧ r.st4.seats = s.seats ∧ r.st4.has = r.has := ⟨r.st4_alike.N.trans h.N.symm, r.st4_alike.epoch.trans h.epoch.symm, r.st4_alike.delay.trans h.delay.symm, r.st4_alike.seats.trans h.seats.symm, r.st4_alike.has⟩
theorem delay_facts {d : Int} (h : 2 ≤ d ∧ d ≤ 5) (e : Int) : (d - 2).toNat < 5 ∧ (d - 1).toNat < 5 ∧ e + d = e + 1 + 1 + ((d - 2).toNat : Int) := by omega
theorem Ag.back (h : Ag s r) (he : r.epoch ≤ 4611686018427387904) (k : Nat) (hk : k ≤ s.N) : Bk (r.st4.backTo k).book (s.p5.mapTo (lowerF (s.delay - 2).toNat) k) := by
  have hd := delay_facts h.good.delay s.epoch
  have k5 := kept5 s
  have h4 := h.st4 he
  have lo := PS.p5_low h.good h.low (by rw [h.epoch]; exact he)
  have n4 := h.n4
  have N6 := h.good.N6
  rw [← k5.1.N] at h4 hk N6
  have hN : r.st4.N = s.p5.N := n4.1.trans k5.1.N.symm
  have hE : r.st4.epoch + r.st4.delay = s.p5.epoch + 1 + ((s.delay - 2).toNat : Int) := by rw [n4.2.1, n4.2.2.1, k5.2]; exact hd.2.2
  generalize s.p5 = t at *
  generalize r.st4 = q at *
  exact lower_bk h4.1 lo hN N6 h4.2.2 _ hd.1 hE k hk
theorem lower_bid (t : PS) (q a : Nat) : ((t.lower q).acc a).bid = (t.acc a).bid := by
  show (if a < t.N then lowerF q a (t.acc a) else t.acc a).bid = _
  split
  · unfold lowerF; split <;> rfl
  · rfl
theorem Ag.st5 (h : Ag s r) (he : r.epoch ≤ 4611686018427387904) : Bk r.st5.book s.p6 ∧ r.st5.bids.length = s.N + 1 ∧ ∀ a, a ≤ s.N → r.st5.bids.getD a 0 = (s.p6.acc a).bid := by
  have h1 := h.back he s.N (Nat.le_refl _)
  have h4 := h.st4 he
  have k5 := (kept5 s).1.N
  have hN := h.N
  unfold RS.st5 PS.p6
  generalize r.st4 = q at *
  generalize s.p5 = t at *
  rw [RS.backTo_bids, ← hN]
  refine ⟨?_, h4.2.1, fun a ha => ?_⟩
  · unfold PS.lower; rw [k5]; exact h1
  · rw [lower_bid]; exact h4.2.2 a ha
theorem Ag.n5 (h : Ag s r) : r.st5.N = s.N ∧ r.st5.epoch = s.epoch ∧ r.st5.delay = s.delay ∧ r.st5.seats = s.seats ∧ r.st5.has = r.has := ⟨r.st5_alike.N.trans h.N.symm, r.st5_alike.epoch.trans h.epoch.symm, r.st5_alike.delay.trans h.delay.symm, r.st5_alike.seats.trans h.seats.symm, r.st5_alike.has⟩
theorem Ag.sale (h : Ag s r) (he : r.epoch ≤ 4611686018427387904) :
    Bk r.st5.sale.book s.p7 ∧ r.st5.sale.bids.length = s.N + 1 ∧ (∀ a, a ≤ s.N → r.st5.sale.bids.getD a 0 = (s.p7.acc a).bid) ∧ r.st5.sale.has.length = s.N + 1 ∧ (∀ a, a ≤ s.N → r.st5.sale.has.getD a 0 = (s.p7.acc a).seats) ∧ r.st5.sale.price = s.p7.price := by
  have hd := delay_facts h.good.delay s.epoch
  have k6 := kept6 s
  have g6 := PS.Good.p6 h.good h.low (by rw [h.epoch]; exact he)
  have h5 := h.st5 he
  have n5 := h.n5
  have hhl := h.hl
  rw [← k6.1.N] at h5 hhl ⊢
  have hN : r.st5.N = s.p6.N := n5.1.trans k6.1.N.symm
  have hS : r.st5.seats = s.p6.seats := n5.2.2.2.1.trans k6.1.seats.symm
  have hE : r.st5.epoch + r.st5.delay = s.p6.epoch + 1 + ((s.delay - 2).toNat : Int) := by rw [n5.2.1, n5.2.2.1, k6.2]; exact hd.2.2
  have hH : r.st5.has.length = s.p6.N + 1 := by rw [n5.2.2.2.2]; exact hhl
  unfold PS.p7
  generalize s.p6 = t at *
  generalize r.st5 = q at *
  exact sale_bk g6 h5.1 hN hS h5.2.1 hH h5.2.2 _ hd.1 hE
theorem far_len {l : List Int} {n a : Nat} (h : l.length = n + 1) (ha : ¬ a ≤ n) : l.getD a 0 = 0 := getD_far (by omega)
theorem Bk.amtOk' {b : List Mv} {t : PS} (h : Bk b t) (g : t.Good) {N : Nat} (hN : t.N = N) : Amt b N := by rw [← hN]; exact h.amtOk g
theorem PS.mapTo_N (t : PS) (f : Nat → Acc → Acc) (k : Nat) : (t.mapTo f k).N = t.N := rfl
theorem Ag.nextOk (h : Ag s r) (he : r.epoch ≤ 4611686018427387904) : NextOk r := by
  have hN6 : ∀ a, a ≤ s.N → a < 7 := fun a ha => by have := h.good.N6; omega
  have hes : s.epoch ≤ 4611686018427387904 := by rw [h.epoch]; exact he
  have hd := delay_facts h.good.delay s.epoch
  have z1 : (0 : Int) ≤ 0 ∧ (0 : Int) ≤ 1000000000 := ⟨by omega, by omega⟩
  have z2 : (0 : Int) ≤ 0 ∧ (0 : Int) ≤ 2000000000 := ⟨by omega, by omega⟩
  have z3 : (0 : Int) ≤ 0 ∧ (0 : Int) ≤ 10 := ⟨by omega, by omega⟩
  have zz : (1000000000 : Int) ≤ 2000000000 := by omega
  refine ⟨fun a => ?_, fun k hk => ?_, fun k hk => ?_, fun k hk => ?_, fun k hk => ?_, fun a => ?_, fun a => ?_⟩
  · by_cases ha : a ≤ s.N
    · rw [h.bid a ha]; exact ⟨(h.good.pos a (hN6 a ha)).b0, (h.good.pos a (hN6 a ha)).b1⟩
    · rw [far_len h.bl ha]; exact z1
  · rw [← h.N] at hk ⊢
    exact (burn_bk h.same h.bk k hk).amtOk' (h.good.burnTo k) (PS.mapTo_N _ _ _)
  · rw [← h.N] at hk ⊢
    exact (h.away k hk).1.amtOk' ((h.good.p2 h.low).1.dismissTo _ _ hd.2.1 k) ((PS.mapTo_N _ _ _).trans (kept2 s).1.N)
  · rw [← h.N] at hk ⊢
    exact (h.home k hk).amtOk' ((h.good.p3 h.low).homeTo k) ((PS.mapTo_N _ _ _).trans (kept3 s).1.N)
  · rw [← h.N] at hk ⊢
    exact (h.back he k hk).amtOk' ((PS.Good.p5 h.good h.low hes).lowerTo _ hd.1 k) ((PS.mapTo_N _ _ _).trans (kept5 s).1.N)
  · by_cases ha : a ≤ s.N
    · rw [(h.st4 he).2.2 a ha]
      have hp := (PS.Good.p5 h.good h.low hes).pos a (hN6 a ha)
      exact ⟨hp.b0, Int.le_trans hp.b1 zz⟩
    · rw [far_len (h.st4 he).2.1 ha]; exact z2
  · by_cases ha : a ≤ s.N
    · rw [(h.sale he).2.2.2.2.1 a ha]
      have hp := (PS.Good.p7 h.good h.low hes).pos a (hN6 a ha)
      exact ⟨hp.s0, hp.s1⟩
    · rw [far_len (h.sale he).2.2.2.1 ha]; exact z3

theorem Ag.next (h : Ag s r) (he : r.epoch ≤ 4611686018427387904) (seed : Int) : Ag (s.next seed) (r.next seed) := by
  have hN6 : ∀ a, a ≤ s.N → a < 7 := fun a ha => by have := h.good.N6; omega
  have hN7 : ∀ a, ¬ a < 7 → s.N < a ∧ 7 ≤ a := fun a ha => by have := h.good.N6; omega
  have hlr : (r.length.toNat : Int) = r.length := by have := h.good.length; rw [h.length] at this; omega
  have hes : s.epoch ≤ 4611686018427387904 := by rw [h.epoch]; exact he
  have g7 := PS.Good.p7 h.good h.low hes
  have hsl := h.sale he
  have k7s := kept7 s
  obtain ⟨k0, k1, k2, k3, k4, k5, k6, k7, k8, k9, k10, k11⟩ := s.p7.draw_kept seed
  have be := r.st5.sale_beside
  have al := r.st5_alike
  have hacc : ∀ a, a ≤ s.N → (s.next seed).acc a = { s.p7.acc a with cheated := false } := fun a ha => k11 a (hN6 a ha)
  have hdr := draw_eq s.p7 g7 r.st5.sale.has seed (by rw [k7s.1.N]; exact hsl.2.2.2.1) (by rw [k7s.1.N]; exact hsl.2.2.2.2.1)
  have hN8 : (s.next seed).N = s.N := k0.trans k7s.1.N
  refine { good := PS.Good.next h.good h.low hes seed, low := PS.next_low h.good h.low hes seed, che := fun a hc => ?_, N := ?_, seats := ?_, delay := ?_, rate := ?_, cut := ?_, length := ?_, need := ?_, epoch := ?_, price := ?_, bk := ?_, bl := ?_, bid := fun a ha => ?_, hl := ?_, has := fun a ha => ?_, cl := ?_, cheat := fun a ha => ?_, ml := ?_, made := fun k hk => ?_, rlen := hdr.1, row := hdr.2 }
  · exfalso
    by_cases ha : a < 7
    · have e := k11 a ha
      have e2 : ((s.p7.draw seed).acc a).cheated = true := hc
      rw [e] at e2
      cases e2
    · have e := k10 a (hN7 a ha).2
      have e2 : ((s.p7.draw seed).acc a).cheated = true := hc
      rw [e, g7.far a (by rw [k7s.1.N]; exact (hN7 a ha).1)] at e2
      cases e2
  · show (s.p7.draw seed).N = r.st5.sale.N
    rw [k0, be.N, al.N, ← h.N]; exact k7s.1.N
  · show (s.p7.draw seed).seats = r.st5.sale.seats
    rw [k1, be.seats, al.seats, ← h.seats]; exact k7s.1.seats
  · show (s.p7.draw seed).delay = r.st5.sale.delay
    rw [k2, be.delay, al.delay, ← h.delay]; exact k7s.1.delay
  · show (s.p7.draw seed).rate = r.st5.sale.rate
    rw [k3, be.rate, al.rate, ← h.rate]; exact k7s.1.rate
  · show (s.p7.draw seed).cut = r.st5.sale.cut
    rw [k4, be.cut, al.cut, ← h.cut]; exact k7s.1.cut
  · show (s.p7.draw seed).length = r.st5.sale.length
    rw [k5, be.length, al.length, ← h.length]; exact k7s.1.length
  · show (s.p7.draw seed).need = r.st5.sale.need
    rw [k6, be.need, al.need, ← h.need]; exact k7s.1.need
  · show (s.p7.draw seed).epoch = r.epoch + 1
    rw [k7, ← h.epoch]; exact k7s.2
  · show (s.p7.draw seed).price = r.st5.sale.price
    rw [k9, hsl.2.2.2.2.2]
  · refine hsl.1.same k0 k7 k8 (fun a ha => ?_)
    rw [k7s.1.N] at ha
    rw [hacc a ha]; exact ⟨rfl, rfl, rfl, rfl⟩
  · show r.st5.sale.bids.length = (s.p7.draw seed).N + 1
    rw [k0, k7s.1.N]; exact hsl.2.1
  · have ha' : a ≤ s.N := by rw [hN8] at ha; exact ha
    rw [hacc a ha']; exact hsl.2.2.1 a ha'
  · show r.st5.sale.has.length = (s.p7.draw seed).N + 1
    rw [k0, k7s.1.N]; exact hsl.2.2.2.1
  · have ha' : a ≤ s.N := by rw [hN8] at ha; exact ha
    rw [hacc a ha']; exact hsl.2.2.2.2.1 a ha'
  · show (List.replicate (r.N + 1) false).length = (s.p7.draw seed).N + 1
    rw [k0, k7s.1.N, List.length_replicate, ← h.N]
  · have ha' : a ≤ s.N := by rw [hN8] at ha; exact ha
    rw [hacc a ha']
    show (List.replicate (r.N + 1) false).getD a false = false
    have : a < r.N + 1 := by rw [← h.N]; exact Nat.lt_succ_of_le ha'
    simp [List.getD, this]
  · show ((List.replicate r.length.toNat false).length : Int) = r.st5.sale.length
    rw [be.length, al.length, List.length_replicate]; exact hlr
  · show (List.replicate r.length.toNat false).getD k false = (s.p7.draw seed).blocks k
    have eb : ∀ n, (s.p7.rowTo n).blocks = fun _ => false := fun n => by
      induction n with
      | zero => rfl
      | succ n ih => exact ih
    have eb2 : (s.p7.draw seed).blocks = fun _ => false := eb 7
    rw [eb2]
    simp only [List.getD, List.getElem?_replicate]
    split <;> rfl
end
end Go.Proofs.Ytdfdjbhdgbbolaa
namespace Go.Proofs.Ytdfdjbhdgbbolaa
set_option linter.unusedVariables false
set_option linter.unusedSimpArgs false

section
variable {s : PS} {r : RS}

theorem Ag.liq (h : Ag s r) (a : Nat) (ha : a ≤ s.N) : allOf r.book 1 a = (s.acc a).liquid := h.bk.all 1 a (by omega) (by omega) ha
theorem Ag.lock (h : Ag s r) (a : Nat) (ha : a ≤ s.N) : allOf r.book 2 a = (s.acc a).locked := h.bk.all 2 a (by omega) (by omega) ha

/-- A Send. -/
theorem Ag.send (h : Ag s r) (a b : Nat) (n : Int) (ha : a < s.N) (hb : b < s.N) (hn : 1 ≤ n) (hf : ¬ (s.acc a).liquid < n) : Ag (s.send a b n) { r with book := r.book ++ [⟨1, a, 0, 1, b, 0, n⟩] } := by
  have hN6 := h.good.N6
  have fields : ∀ i, ((s.send a b n).acc i).locked = (s.acc i).locked ∧ ((s.send a b n).acc i).bid = (s.acc i).bid ∧ ((s.send a b n).acc i).seats = (s.acc i).seats ∧ ((s.send a b n).acc i).shares = (s.acc i).shares ∧ ((s.send a b n).acc i).q = (s.acc i).q ∧ ((s.send a b n).acc i).cheated = (s.acc i).cheated ∧ ((s.send a b n).acc i).liquid = (s.acc i).liquid + (if b = i then n else 0) - (if a = i then n else 0) := fun i => by
    unfold PS.send PS.take
    by_cases e1 : i = b
    · subst e1
      rw [PS.setAcc_same]
      by_cases e2 : i = a
      · subst e2; rw [PS.setAcc_same]; exact ⟨rfl, rfl, rfl, rfl, rfl, rfl, by simp⟩
      · rw [PS.setAcc_other _ _ e2]; exact ⟨rfl, rfl, rfl, rfl, rfl, rfl, by rw [if_pos rfl, if_neg (fun e => e2 e.symm)]; simp⟩
    · rw [PS.setAcc_other _ _ e1]
      by_cases e2 : i = a
      · subst e2; rw [PS.setAcc_same]; exact ⟨rfl, rfl, rfl, rfl, rfl, rfl, by rw [if_neg (fun e => e1 e.symm), if_pos rfl]; simp⟩
      · rw [PS.setAcc_other _ _ e2]; exact ⟨rfl, rfl, rfl, rfl, rfl, rfl, by rw [if_neg (fun e => e1 e.symm), if_neg (fun e => e2 e.symm)]; simp⟩
  have hbk : Bk (r.book ++ [⟨1, a, 0, 1, b, 0, n⟩]) (s.send a b n) := by
    refine h.bk.push ⟨1, a, 0, 1, b, 0, n⟩ ⟨fun _ => ⟨b, by omega, rfl⟩, fun _ => ⟨a, by omega, rfl⟩⟩ rfl (fun k i h1 h5 hi => ?_) (fun i e hi => ?_)
    · obtain ⟨f1, f2, f3, f4, f5, f6, f7⟩ := fields i
      rcases kinds5 h1 h5 with rfl | rfl | rfl | rfl | rfl
      · show ((s.send a b n).acc i).liquid = (s.acc i).liquid + _ - _
        rw [f7]
        have e1 : Mv.toIn ⟨1, a, 0, 1, b, 0, n⟩ 1 i = if b = i then n else 0 := by
          unfold Mv.toIn
          by_cases e : b = i
          · subst e; simp
          · rw [if_neg e, if_neg]; rintro ⟨_, e2⟩; simp only at e2; omega
        have e2 : Mv.fromIn ⟨1, a, 0, 1, b, 0, n⟩ 1 i = if a = i then n else 0 := by
          unfold Mv.fromIn
          by_cases e : a = i
          · subst e; simp
          · rw [if_neg e, if_neg]; rintro ⟨_, e2⟩; simp only at e2; omega
        rw [e1, e2]
      · show ((s.send a b n).acc i).locked = (s.acc i).locked + _ - _
        rw [f1]; simp [Mv.toIn, Mv.fromIn]
      · show ((s.send a b n).acc i).queued = (s.acc i).queued + _ - _
        unfold Acc.queued; rw [f5]; simp [Mv.toIn, Mv.fromIn]
      · simp [PS.amt, Mv.toIn, Mv.fromIn, PS.send, PS.take, PS.setAcc]
      · show ((s.send a b n).acc i).shares = (s.acc i).shares + _ - _
        rw [f4]; simp [Mv.toIn, Mv.fromIn]
    · obtain ⟨f1, f2, f3, f4, f5, f6, f7⟩ := fields i
      unfold PS.dueOf
      rw [f5]
      simp [Mv.toAt, Mv.fromAt, PS.send, PS.take, PS.setAcc]
  exact { h with
    good := h.good.send a b ha hb n (by omega) (by omega)
    low := PS.send_low h.low a b n
    che := fun i hc => by rw [(fields i).2.2.2.2.2.1] at hc; rw [(fields i).2.2.1]; exact h.che i hc
    bk := hbk
    bid := fun i hi => by rw [(fields i).2.1]; exact h.bid i hi
    has := fun i hi => by rw [(fields i).2.2.1]; exact h.has i hi
    cheat := fun i hi => by rw [(fields i).2.2.2.2.2.1]; exact h.cheat i hi }

/-- A Bid. -/
theorem Ag.bids (h : Ag s r) (a : Nat) (n : Int) (ha : a < s.N) (h0 : 0 ≤ n) (h1 : n ≤ 1000000000) (hf : n - (s.acc a).locked ≤ (s.acc a).liquid) : Ag (s.bid a n) (r.bid a n) := by
  have hN6 := h.good.N6
  have hlk := h.lock a (by omega)
  have oth : ∀ i, i ≠ a → (s.bid a n).acc i = s.acc i := fun i hi => PS.setAcc_other _ _ hi
  have own : (s.bid a n).acc a = (s.acc a).bidding n := PS.setAcc_same _ _ _
  have hbid : ((s.acc a).bidding n).bid = n := by unfold Acc.bidding; split <;> rfl
  have hse : ((s.acc a).bidding n).seats = (s.acc a).seats := by unfold Acc.bidding; split <;> rfl
  have hch : ((s.acc a).bidding n).cheated = (s.acc a).cheated := by unfold Acc.bidding; split <;> rfl
  have hbk : Bk (r.bid a n).book (s.bid a n) := by
    unfold RS.bid
    rw [hlk]
    by_cases e : (s.acc a).locked < n
    · rw [if_pos e]
      have ec : (s.acc a).bidding n = { s.acc a with liquid := (s.acc a).liquid - (n - (s.acc a).locked), locked := n, bid := n } := by unfold Acc.bidding; rw [if_pos e]
      refine h.bk.acc ⟨1, a, 0, 2, a, 0, n - (s.acc a).locked⟩ (a := a) (by omega) rfl rfl oth (.inr (.inl ⟨.inr (.inl rfl), rfl⟩)) (.inr (.inl ⟨.inl rfl, rfl⟩)) (fun h => by cases h) (fun h => by cases h) ?_ ?_ ?_ ?_ ?_ ?_
      · rw [own, ec]; simp [Mv.toIn, Mv.fromIn]
      · rw [own, ec]; simp [Mv.toIn, Mv.fromIn]; omega
      · rw [own, ec]; simp [Mv.toIn, Mv.fromIn, Acc.queued]
      · rw [own, ec]; simp [Mv.toIn, Mv.fromIn]
      · simp [Mv.toIn, Mv.fromIn, PS.bid, PS.setAcc]
      · intro j hj; rw [own, ec]; simp [Mv.toAt, Mv.fromAt]
    · rw [if_neg e]
      have ec : (s.acc a).bidding n = { s.acc a with bid := n } := by unfold Acc.bidding; rw [if_neg e]
      refine h.bk.same rfl rfl rfl (fun i hi => ?_)
      by_cases e2 : i = a
      · subst e2; rw [own, ec]; exact ⟨rfl, rfl, rfl, rfl⟩
      · rw [oth i e2]; exact ⟨rfl, rfl, rfl, rfl⟩
  have hr : ∀ (f : RS → Prop), f (r.push ⟨1, a, 0, 2, a, 0, n - allOf r.book 2 a⟩) → f r → f (if allOf r.book 2 a < n then r.push ⟨1, a, 0, 2, a, 0, n - allOf r.book 2 a⟩ else r) := by
    intro f h1 h2
    split
    · exact h1
    · exact h2
  refine { good := h.good.bid a ha n h0 h1 hf, low := PS.bid_low h.low a n, che := fun i hc => ?_, N := ?_, seats := ?_, delay := ?_, rate := ?_, cut := ?_, length := ?_, need := ?_, epoch := ?_, price := ?_, bk := hbk, bl := ?_, bid := fun i hi => ?_, hl := ?_, has := fun i hi => ?_, cl := ?_, cheat := fun i hi => ?_, ml := ?_, made := fun k hk => ?_, rlen := ?_, row := fun k hk => ?_ }
  · by_cases e : i = a
    · subst e; rw [own, hch] at hc; rw [own, hse]; exact h.che i hc
    · rw [oth i e] at hc ⊢; exact h.che i hc
  · exact hr (fun q => s.N = q.N) h.N h.N
  · exact hr (fun q => s.seats = q.seats) h.seats h.seats
  · exact hr (fun q => s.delay = q.delay) h.delay h.delay
  · exact hr (fun q => s.rate = q.rate) h.rate h.rate
  · exact hr (fun q => s.cut = q.cut) h.cut h.cut
  · exact hr (fun q => s.length = q.length) h.length h.length
  · exact hr (fun q => s.need = q.need) h.need h.need
  · exact hr (fun q => s.epoch = q.epoch) h.epoch h.epoch
  · exact hr (fun q => s.price = q.price) h.price h.price
  · show (r.bids.set a n).length = s.N + 1
    rw [List.length_set]; exact h.bl
  · show (r.bids.set a n).getD i 0 = _
    have hi' : i ≤ s.N := hi
    by_cases e : i = a
    · subst e
      rw [own, hbid]
      have : i < r.bids.length := by rw [h.bl]; omega
      simp [List.getD, this]
    · rw [getD_set_ne _ _ _ _ (fun e2 => e e2.symm), oth i e]; exact h.bid i hi'
  · exact hr (fun q => q.has.length = s.N + 1) h.hl h.hl
  · have hi' : i ≤ s.N := hi
    have e3 : ((s.bid a n).acc i).seats = (s.acc i).seats := by
      by_cases e : i = a
      · subst e; rw [own, hse]
      · rw [oth i e]
    rw [e3]
    exact hr (fun q => q.has.getD i 0 = (s.acc i).seats) (h.has i hi') (h.has i hi')
  · exact hr (fun q => q.cheat.length = s.N + 1) h.cl h.cl
  · have hi' : i ≤ s.N := hi
    have e3 : ((s.bid a n).acc i).cheated = (s.acc i).cheated := by
      by_cases e : i = a
      · subst e; rw [own, hch]
      · rw [oth i e]
    rw [e3]
    exact hr (fun q => q.cheat.getD i false = (s.acc i).cheated) (h.cheat i hi') (h.cheat i hi')
  · exact hr (fun q => (q.made.length : Int) = q.length) h.ml h.ml
  · exact hr (fun q => (k : Int) < q.length → q.made.getD k false = s.blocks k) (h.made k) (h.made k) hk
  · exact hr (fun q => q.row.length = s.rlen) h.rlen h.rlen
  · exact hr (fun q => q.row.getD k 0 = s.row k) (h.row k hk) (h.row k hk)
end

/-- A new chain. -/
def newRS (s d r c le ne : Int) (l : List Int) : RS := ⟨s, d, r, c, le, ne, l.length, startBook l l.length, List.replicate (l.length + 1) 0, List.replicate (l.length + 1) 0, 0, 0, [], List.replicate le.toNat false, List.replicate (l.length + 1) false⟩
theorem newPS_acc (s d r c le ne : Int) (l : List Int) (a : Nat) : (newPS l.length s d r c le ne l l.length).acc a = if a < l.length then { Acc.zero with liquid := l.getD a 0 } else Acc.zero := rfl
theorem new_good (s d r c le ne : Int) (l : List Int) (hn : NumFit s d r c le ne) (hs : StartFit l) : (newPS l.length s d r c le ne l l.length).Good := by
  obtain ⟨⟨h1, h6⟩, hA⟩ := hs
  obtain ⟨n1, n2, n3, n4, n5, n6⟩ := hn
  have hp : ∀ a, ((newPS l.length s d r c le ne l l.length).acc a).Pos := fun a => by
    rw [newPS_acc]
    split
    · rename_i h
      exact ⟨(hA a h).1, Int.le_refl _, Int.le_refl _, by show (0 : Int) ≤ _; omega, Int.le_refl _, by show (0 : Int) ≤ 10; omega, Int.le_refl _, fun _ _ => Int.le_refl _⟩
    · exact Acc.zero_pos
  have ht : ∀ a, a < 7 → 0 ≤ ((newPS l.length s d r c le ne l l.length).acc a).tot ∧ ((newPS l.length s d r c le ne l l.length).acc a).tot ≤ 10000000 := fun a _ => by
    refine ⟨(hp a).tot.1, ?_⟩
    rw [newPS_acc]
    split
    · rename_i h
      have := (hA a h).2
      show l.getD a 0 + 0 + (0 + 0 + 0 + 0 + 0) ≤ _
      omega
    · show (0 : Int) + 0 + (0 + 0 + 0 + 0 + 0) ≤ _
      omega
  have hsum := (sumTo_bd (fun a => ((newPS l.length s d r c le ne l l.length).acc a).tot) 10000000 7 ht 7 (Nat.le_refl _)).2
  have hshr : (newPS l.length s d r c le ne l l.length).allShares = 0 := by
    unfold PS.allShares
    have : ∀ a, ((newPS l.length s d r c le ne l l.length).acc a).shares = 0 := fun a => by rw [newPS_acc]; split <;> rfl
    simp only [sumTo, this]; rfl
  exact { N1 := h1, N6 := h6, e0 := Int.le_refl _, e1 := by show (0 : Int) ≤ _; omega, seats := n1, delay := n2, rate := n3, cut := n4, length := n5, need := n6, rlen := by show (0 : Nat) ≤ 10; omega, pos := fun a _ => hp a, t0 := Int.le_refl _, sup := by show (0 : Int) + sumTo (fun a => ((newPS l.length s d r c le ne l l.length).acc a).tot) 7 ≤ _; omega, shr := by rw [hshr]; omega, far := fun a ha => by rw [newPS_acc, if_neg (by have : (newPS l.length s d r c le ne l l.length).N = l.length := rfl; omega)] }

theorem new_bk (s d r c le ne : Int) (l : List Int) (k : Nat) (hk : k ≤ l.length) (h6 : l.length ≤ 6) : Bk (startBook l k) (newPS l.length s d r c le ne l k) := by
  induction k with
  | zero =>
    have hz : ∀ a, (newPS l.length s d r c le ne l 0).acc a = Acc.zero := fun a => rfl
    have ha : ∀ (k : Int) (a : Nat), 1 ≤ k → k ≤ 5 → (newPS l.length s d r c le ne l 0).amt k a = 0 := fun k a h1 h5 => by
      rcases kinds5 h1 h5 with rfl | rfl | rfl | rfl | rfl
      · rfl
      · rfl
      · rfl
      · simp [PS.amt, newPS]
      · rfl
    refine ⟨fun k a h1 h5 _ => (ha k a h1 h5).symm, fun k h1 h5 => ?_, fun a e _ => ?_⟩
    · have : ∀ n, sumTo ((newPS l.length s d r c le ne l 0).amt k) n = 0 := fun n => by
        induction n with
        | zero => rfl
        | succ n ih => simp only [sumTo, ih, ha k n h1 h5]; rfl
      rw [this]; rfl
    · unfold PS.dueOf
      rw [hz]
      split <;> rfl
  | succ k ih =>
    have i1 := ih (by omega)
    rw [startBook_succ]
    have hst := newPS_step l.length s d r c le ne l k
    have ho : (newPS l.length s d r c le ne l k).acc k = Acc.zero := by
      show (if k < k then { Acc.zero with liquid := l.getD k 0 } else Acc.zero) = _
      rw [if_neg (by omega)]
    have hn : (newPS l.length s d r c le ne l (k + 1)).acc k = { Acc.zero with liquid := l.getD k 0 } := by
      show (if k < k + 1 then { Acc.zero with liquid := l.getD k 0 } else Acc.zero) = _
      rw [if_pos (by omega)]
    refine i1.acc ⟨0, 0, 0, 1, k, 0, l.getD k 0⟩ (a := k) (by show k ≤ l.length; omega) rfl rfl (fun i hi => by rw [← hst, PS.setAcc_other _ _ hi]) (.inr (.inl ⟨.inl rfl, rfl⟩)) (.inl rfl) (fun h => by cases h) (fun h => by cases h) ?_ ?_ ?_ ?_ ?_ ?_
    · rw [hn, ho]; simp [Mv.toIn, Mv.fromIn, Acc.zero]
    · rw [hn, ho]; simp [Mv.toIn, Mv.fromIn, Acc.zero]
    · rw [hn, ho]; simp [Mv.toIn, Mv.fromIn, Acc.zero, Acc.queued]
    · rw [hn, ho]; simp [Mv.toIn, Mv.fromIn, Acc.zero]
    · simp [Mv.toIn, Mv.fromIn, newPS]
    · intro j hj; rw [hn, ho]; simp [Mv.toAt, Mv.fromAt, Acc.zero]
theorem rep0 (n a : Nat) : (List.replicate n (0 : Int)).getD a 0 = 0 := by
  by_cases h : a < n
  · simp [List.getD, h]
  · simp [List.getD, h]
theorem repF (n a : Nat) : (List.replicate n false).getD a false = false := by
  by_cases h : a < n
  · simp [List.getD, h]
  · simp [List.getD, h]
theorem Ag.new (s d r c le ne : Int) (l : List Int) (hn : NumFit s d r c le ne) (hs : StartFit l) : Ag (newPS l.length s d r c le ne l l.length) (newRS s d r c le ne l) := by
  have hz : ∀ a, ((newPS l.length s d r c le ne l l.length).acc a).bid = 0 ∧ ((newPS l.length s d r c le ne l l.length).acc a).seats = 0 ∧ ((newPS l.length s d r c le ne l l.length).acc a).cheated = false ∧ ((newPS l.length s d r c le ne l l.length).acc a).locked = 0 := fun a => by
    rw [newPS_acc]; split <;> exact ⟨rfl, rfl, rfl, rfl⟩
  have hle := hn.2.2.2.2.1
  exact { good := new_good s d r c le ne l hn hs, low := fun a _ => by rw [(hz a).1, (hz a).2.2.2]; exact Int.le_refl _, che := fun a hc => absurd hc (by rw [(hz a).2.2.1]; simp), N := rfl, seats := rfl, delay := rfl, rate := rfl, cut := rfl, length := rfl, need := rfl, epoch := rfl, price := rfl, bk := new_bk s d r c le ne l l.length (Nat.le_refl _) hs.1.2, bl := by show (List.replicate (l.length + 1) (0 : Int)).length = l.length + 1; simp, bid := fun a _ => by rw [(hz a).1]; exact rep0 _ a, hl := by show (List.replicate (l.length + 1) (0 : Int)).length = l.length + 1; simp, has := fun a _ => by rw [(hz a).2.1]; exact rep0 _ a, cl := by show (List.replicate (l.length + 1) false).length = l.length + 1; simp, cheat := fun a _ => by rw [(hz a).2.2.1]; exact repF _ a, ml := by show ((List.replicate le.toNat false).length : Int) = le; simp; omega, made := fun k _ => repF _ k, rlen := rfl, row := fun k hk => absurd hk (Nat.not_lt_zero k) }
end Go.Proofs.Ytdfdjbhdgbbolaa
