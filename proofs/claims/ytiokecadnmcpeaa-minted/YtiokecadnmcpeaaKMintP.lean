import Derived.Test.YtiokecadnmcpeaaKSale
namespace Go.Proofs.Ytiokecadnmcpeaa
set_option linter.unusedVariables false
set_option linter.unusedSimpArgs false

theorem PS.next_treasury (s : PS) (seed : Int) : (s.next seed).treasury = s.p2.treasury := by
  have e8 : (s.next seed).treasury = s.p7.treasury := (s.p7.draw_kept seed).2.2.2.2.2.2.2.2.1
  have a3 : s.p3.treasury = s.p2.treasury := rfl
  have a4 : s.p4.treasury = s.p3.treasury := rfl
  have a5 : s.p5.treasury = s.p4.treasury := rfl
  have a6 : s.p6.treasury = s.p5.treasury := rfl
  have a7 : s.p7.treasury = s.p6.treasury := rfl
  rw [e8, a7, a6, a5, a4, a3]
section
variable {s : PS}
/-- From the payment on every account keeps what it has. -/
theorem PS.next_tot (h : s.Good) (hl : s.Low) (he : s.epoch ≤ 4611686018427387904) (seed : Int) (a : Nat) (ha : a < 7) : ((s.next seed).acc a).tot = (s.p2.acc a).tot := by
  have hd := h.delay
  have q5 : (s.delay - 1).toNat < 5 := by omega
  have q4 : (s.delay - 2).toNat < 5 := by omega
  have g2 := (h.p2 hl).1
  have g5 := PS.Good.p5 h hl he
  have g6 := PS.Good.p6 h hl he
  have e3 : (s.p3.acc a).tot = (s.p2.acc a).tot := by
    show (if a < 7 then dismissF s.stand (s.delay - 1).toNat a (s.p2.acc a) else s.p2.acc a).tot = _
    rw [if_pos ha]; exact (dismiss_facts s.stand _ q5 a _ (g2.pos a ha)).2.1
  have e4 : (s.p4.acc a).tot = (s.p3.acc a).tot := by
    show (if a < 7 then (s.p3.acc a).back else s.p3.acc a).tot = _
    rw [if_pos ha]; exact Acc.back_tot _
  have e5 : (s.p5.acc a).tot = (s.p4.acc a).tot := by
    show ((s.p4.setAcc s.p4.N (s.p4.acc s.p4.N).pool).acc a).tot = _
    by_cases e : a = s.p4.N
    · rw [e, PS.setAcc_same]; unfold Acc.tot Acc.queued Acc.pool; simp only; omega
    · rw [PS.setAcc_other _ _ e]
  have e6 : (s.p6.acc a).tot = (s.p5.acc a).tot := by
    show (if a < s.p5.N then lowerF (s.delay - 2).toNat a (s.p5.acc a) else s.p5.acc a).tot = _
    split
    · exact (lower_facts _ q4 a _ (g5.pos a ha)).2.1
    · rfl
  have e7 : (s.p7.acc a).tot = (s.p6.acc a).tot := by
    show (if a < 7 then sellF s.p6 s.p6.salePrice (s.delay - 2).toNat a (s.p6.acc a) else s.p6.acc a).tot = _
    rw [if_pos ha]; exact (sell_facts g6 s.p6.salePrice _ q4 a ha).2.1
  have e8 : ((s.next seed).acc a).tot = (s.p7.acc a).tot := by
    show ((s.p7.draw seed).acc a).tot = _
    rw [(s.p7.draw_kept seed).2.2.2.2.2.2.2.2.2.2.2 a ha]; rfl
  rw [e8, e7, e6, e5, e4, e3]
theorem PS.next_supply (h : s.Good) (hl : s.Low) (he : s.epoch ≤ 4611686018427387904) (seed : Int) : (s.next seed).supply = s.p2.supply := by
  unfold PS.supply
  rw [PS.next_treasury s seed, sumTo_congr 7 (fun a ha => PS.next_tot h hl he seed a ha)]
end

/-- What is burnt of the first k accounts. -/
def PS.burnt (s : PS) (k : Nat) : Int := sumTo (fun a => if (s.acc a).cheated = true then (s.acc a).locked / 2 else 0) k
theorem PS.stand_three {s : PS} (a : Nat) (hc : (s.acc a).cheated = true → 1 ≤ (s.acc a).seats) : s.stand a = 3 ↔ (s.acc a).cheated = true := by
  unfold PS.stand PS.stand0
  cases hcc : (s.acc a).cheated with
  | true =>
    have := hc hcc
    have hn : ¬ (s.acc a).seats < 1 := by omega
    simp [hn]
  | false =>
    simp only [Bool.false_eq_true, if_false, iff_false]
    repeat' split
    all_goals first | omega | (intro; omega)
theorem PS.p1_supply {s : PS} (hc : ∀ a, (s.acc a).cheated = true → 1 ≤ (s.acc a).seats) : s.p1.supply = s.supply - s.burnt 7 := by
  have e : ∀ a, a < 7 → (s.p1.acc a).tot = (s.acc a).tot - (if (s.acc a).cheated = true then (s.acc a).locked / 2 else 0) := fun a ha => by
    show (if a < 7 then burnF s.stand a (s.acc a) else s.acc a).tot = _
    rw [if_pos ha]
    unfold burnF
    by_cases e3 : s.stand a = 3
    · rw [if_pos e3, if_pos ((PS.stand_three a (hc a)).1 e3)]
      unfold Acc.tot Acc.queued; simp only; omega
    · rw [if_neg e3, if_neg (fun hh => e3 ((PS.stand_three a (hc a)).2 hh))]; omega
  unfold PS.supply PS.burnt
  rw [sumTo_congr 7 e, psum_sub]
  show s.treasury + _ = _
  omega
/-- What Next makes of the supply and the treasury. -/
theorem PS.next_money {s : PS} (I : s.Inv) (he : s.epoch ≤ 4611686018427387904) (seed : Int) : ∃ n f, n = s.supply - s.burnt 7 ∧ 0 ≤ n ∧ n ≤ 1000000000 ∧ f = (if 1000000000 - n < n * s.rate / 1000 then 1000000000 - n else n * s.rate / 1000) ∧ 0 ≤ f ∧ f ≤ 1000000000 ∧ (s.next seed).supply = n + f ∧ s.treasury + f * s.cut / 1000 ≤ (s.next seed).treasury := by
  have h := I.good
  have hl := I.low
  have g1 := h.p1
  have hr := s.p1.rest_bd g1.toCf g1.sup0 g1.sup
  have hf := s.p1.fresh_bd g1.toCf g1.sup0 g1.sup
  have hs := s.p1.pays_sum g1.toCf s.stand hr.1 (by have := g1.sup0; omega) 7
  have e1 := PS.p1_supply I.che
  have h0 := g1.sup0
  have h1 := g1.sup
  have er : s.p1.rate = s.rate := rfl
  have ec : s.p1.cut = s.cut := rfl
  have et : s.p2.treasury = s.p1.treasury + (s.p1.fresh - sumTo (s.p1.pays s.stand s.p1.rest) 7) := rfl
  have et1 : s.p1.treasury = s.treasury := rfl
  have ef : s.p1.fresh = if 1000000000 - s.p1.supply < s.p1.supply * s.p1.rate / 1000 then 1000000000 - s.p1.supply else s.p1.supply * s.p1.rate / 1000 := rfl
  have ere : s.p1.rest = s.p1.fresh - s.p1.fresh * s.p1.cut / 1000 := rfl
  refine ⟨s.p1.supply, s.p1.fresh, e1, h0, h1, by rw [ef, er], ?_, ?_, ?_, ?_⟩
  · omega
  · omega
  · rw [PS.next_supply h hl he seed, (h.p2 hl).2]
  · rw [PS.next_treasury s seed, et, et1, ← ec]
    omega
end Go.Proofs.Ytiokecadnmcpeaa
