import Derived.Test.YtiokecadnmcpeaaKSale
namespace Go.Proofs.Ytiokecadnmcpeaa
set_option linter.unusedVariables false
set_option linter.unusedSimpArgs false

/-- Nothing is queued beyond Delay. -/
def PS.QOk (s : PS) : Prop := ∀ a, a < 7 → ∀ k : Nat, s.delay ≤ (k : Int) → k < 5 → (s.acc a).q k = 0
/-- What happens to what is queued at a Next, but in the last place. -/
structure BackOk (s t : PS) : Prop where
  N : t.N = s.N
  q : ∀ a, a < 7 → ∀ k : Nat, k < 4 → (k : Int) ≠ s.delay - 2 → (t.acc a).q k = (s.acc a).q (k + 1)
  q4 : ∀ a, a < 7 → (4 : Int) ≠ s.delay - 2 → (t.acc a).q 4 = 0
  liq : ∀ a, a < 7 → a ≠ s.N → (t.acc a).liquid = (s.acc a).liquid + (s.acc a).q 0
  pool : (t.acc s.N).liquid = 0
theorem burn_lq (j : Nat → Int) (a : Nat) (c : Acc) : (burnF j a c).liquid = c.liquid ∧ (burnF j a c).q = c.q := by unfold burnF; split <;> exact ⟨rfl, rfl⟩
theorem pay_lq (s : PS) (j : Nat → Int) (r : Int) (a : Nat) (c : Acc) : (payF s j r a c).liquid = c.liquid ∧ (payF s j r a c).q = c.q := by unfold payF Acc.reward; split <;> exact ⟨rfl, rfl⟩
theorem dismiss_lq (j : Nat → Int) (p : Nat) (a : Nat) (c : Acc) : (dismissF j p a c).liquid = c.liquid ∧ ∀ k, k ≠ p → (dismissF j p a c).q k = c.q k := by
  unfold dismissF
  split
  · exact ⟨rfl, fun k hk => by show updQ c.q p (c.q p + c.locked) k = _; unfold updQ; rw [if_neg hk]⟩
  · exact ⟨rfl, fun k hk => rfl⟩
theorem back_lq (c : Acc) : c.back.liquid = c.liquid + c.q 0 ∧ (∀ k, k < 4 → c.back.q k = c.q (k + 1)) ∧ c.back.q 4 = 0 := by
  refine ⟨rfl, fun k hk => ?_, ?_⟩
  · show updQ (shiftQ c.q 4) 4 0 k = _
    unfold updQ shiftQ
    rw [if_neg (by omega), if_pos hk]
  · show updQ (shiftQ c.q 4) 4 0 4 = _
    unfold updQ; rw [if_pos rfl]
theorem lower_lq (p : Nat) (a : Nat) (c : Acc) : (lowerF p a c).liquid = c.liquid ∧ ∀ k, k ≠ p → (lowerF p a c).q k = c.q k := by
  unfold lowerF
  split
  · exact ⟨rfl, fun k hk => by show updQ c.q p _ k = _; unfold updQ; rw [if_neg hk]⟩
  · exact ⟨rfl, fun k hk => rfl⟩
theorem sell_lq (s : PS) (p : Int) (r : Nat) (a : Nat) (c : Acc) : (sellF s p r a c).liquid = c.liquid ∧ ∀ k, k ≠ r → (sellF s p r a c).q k = c.q k := by
  unfold sellF
  by_cases e : c.locked < p
  · simp only [if_pos e]
    exact ⟨rfl, fun k hk => by show updQ c.q r _ k = _; unfold updQ; rw [if_neg hk]⟩
  · simp only [if_neg e]
    exact ⟨trivial, fun k hk => trivial⟩
theorem back_next {s : PS} (h : s.Good) (seed : Int) : BackOk s (s.next seed) := by
  have hd := h.delay
  have hN6 := h.N6
  obtain ⟨d1, hd1⟩ : ∃ d1, d1 = (s.delay - 1).toNat := ⟨_, rfl⟩
  obtain ⟨d2, hd2⟩ : ∃ d2, d2 = (s.delay - 2).toNat := ⟨_, rfl⟩
  have e1 : ∀ a, a < 7 → s.p1.acc a = burnF s.stand a (s.acc a) := fun a ha => by
    show (if a < 7 then burnF s.stand a (s.acc a) else s.acc a) = _; rw [if_pos ha]
  have e2 : ∀ a, a < 7 → s.p2.acc a = payF s.p1 s.stand s.p1.rest a (s.p1.acc a) := fun a ha => by
    show (if a < 7 then payF s.p1 s.stand s.p1.rest a (s.p1.acc a) else s.p1.acc a) = _; rw [if_pos ha]
  have e3 : ∀ a, a < 7 → s.p3.acc a = dismissF s.stand d1 a (s.p2.acc a) := fun a ha => by
    rw [hd1]; show (if a < 7 then dismissF s.stand (s.delay - 1).toNat a (s.p2.acc a) else s.p2.acc a) = _; rw [if_pos ha]
  have e4 : ∀ a, a < 7 → s.p4.acc a = (s.p3.acc a).back := fun a ha => by
    show (if a < 7 then (s.p3.acc a).back else s.p3.acc a) = _; rw [if_pos ha]
  have n4 : s.p4.N = s.N := by
    have a1 : s.p1.N = s.N := rfl
    have a2 : s.p2.N = s.p1.N := rfl
    have a3 : s.p3.N = s.p2.N := rfl
    have a4 : s.p4.N = s.p3.N := rfl
    rw [a4, a3, a2, a1]
  have e5 : ∀ a, s.p5.acc a = if a = s.N then (s.p4.acc s.N).pool else s.p4.acc a := fun a => by
    have : s.p5.acc a = if a = s.p4.N then (s.p4.acc s.p4.N).pool else s.p4.acc a := rfl
    rw [this, n4]
  have e6 : ∀ a, s.p6.acc a = if a < s.p5.N then lowerF d2 a (s.p5.acc a) else s.p5.acc a := fun a => by rw [hd2]; rfl
  have e7 : ∀ a, a < 7 → s.p7.acc a = sellF s.p6 s.p6.salePrice d2 a (s.p6.acc a) := fun a ha => by
    rw [hd2]; show (if a < 7 then sellF s.p6 s.p6.salePrice (s.delay - 2).toNat a (s.p6.acc a) else s.p6.acc a) = _; rw [if_pos ha]
  have e8 : ∀ a, a < 7 → ((s.next seed).acc a).liquid = (s.p7.acc a).liquid ∧ ((s.next seed).acc a).q = (s.p7.acc a).q := fun a ha => by
    have := (s.p7.draw_kept seed).2.2.2.2.2.2.2.2.2.2.2 a ha
    have e : s.next seed = s.p7.draw seed := rfl
    rw [e, this]; exact ⟨rfl, rfl⟩
  have hnum := (s.next_num seed).1
  generalize s.next seed = t at *
  generalize s.p7 = s7 at *
  have L5 : ∀ a, a < 7 → (t.acc a).liquid = (s.p5.acc a).liquid ∧ ∀ k, k ≠ d2 → (t.acc a).q k = (s.p5.acc a).q k := fun a ha => by
    have h7 := sell_lq s.p6 s.p6.salePrice d2 a (s.p6.acc a)
    rw [← e7 a ha] at h7
    have h8 := e8 a ha
    have h6 : (s.p6.acc a).liquid = (s.p5.acc a).liquid ∧ ∀ k, k ≠ d2 → (s.p6.acc a).q k = (s.p5.acc a).q k := by
      rw [e6 a]
      split
      · exact lower_lq d2 a (s.p5.acc a)
      · exact ⟨rfl, fun k _ => rfl⟩
    exact ⟨by rw [h8.1, h7.1, h6.1], fun k hk => by rw [h8.2, h7.2 k hk, h6.2 k hk]⟩
  have L3 : ∀ a, a < 7 → (s.p3.acc a).liquid = (s.acc a).liquid ∧ ∀ k, k ≠ d1 → (s.p3.acc a).q k = (s.acc a).q k := fun a ha => by
    have h1 := burn_lq s.stand a (s.acc a)
    rw [← e1 a ha] at h1
    have h2 := pay_lq s.p1 s.stand s.p1.rest a (s.p1.acc a)
    rw [← e2 a ha] at h2
    have h3 := dismiss_lq s.stand d1 a (s.p2.acc a)
    rw [← e3 a ha] at h3
    exact ⟨by rw [h3.1, h2.1, h1.1], fun k hk => by rw [h3.2 k hk, h2.2, h1.2]⟩
  have L4 : ∀ a, a < 7 → (s.p4.acc a).liquid = (s.acc a).liquid + (s.acc a).q 0 ∧ (∀ k, k < 4 → k + 1 ≠ d1 → (s.p4.acc a).q k = (s.acc a).q (k + 1)) ∧ (s.p4.acc a).q 4 = 0 := fun a ha => by
    have hb := back_lq (s.p3.acc a)
    rw [← e4 a ha] at hb
    have h3 := L3 a ha
    exact ⟨by rw [hb.1, h3.1, h3.2 0 (by omega)], fun k hk h1 => by rw [hb.2.1 k hk, h3.2 (k + 1) h1], hb.2.2⟩
  refine ⟨hnum, fun a ha k hk hne => ?_, fun a ha hne => ?_, fun a ha hne => ?_, ?_⟩
  · rw [(L5 a ha).2 k (by omega), e5 a]
    split
    · rename_i e; subst e; exact (L4 s.N ha).2.1 k hk (by omega)
    · exact (L4 a ha).2.1 k hk (by omega)
  · rw [(L5 a ha).2 4 (by omega), e5 a]
    split
    · rename_i e; subst e; exact (L4 s.N ha).2.2
    · exact (L4 a ha).2.2
  · rw [(L5 a ha).1, e5 a, if_neg hne]; exact (L4 a ha).1
  · rw [(L5 s.N (by omega)).1, e5 s.N, if_pos rfl]; rfl
theorem PS.QOk.next {s : PS} (k : s.QOk) (h : s.Good) (seed : Int) : (s.next seed).QOk := by
  have b := back_next h seed
  have hd := h.delay
  intro a ha j hj h5
  rw [(s.next_num seed).2.2.1] at hj
  by_cases e : j = 4
  · subst e; exact b.q4 a ha (by omega)
  · rw [b.q a ha j (by omega) (by omega)]; exact k a ha (j + 1) (by omega) (by omega)
theorem PS.QOk.did {s s' : PS} {o : StD} {er : Int} (k : s.QOk) (h : s.Did o er s') (I : s.Inv) : s'.QOk := by
  have hd := I.good.delay
  cases h using PS.Did.which with
  | no _ h => exact k
  | idle => exact k
  | send hk a b n ha hb h0 hf => intro i hi j hj h5; rw [(s.send_fields a b n i).2.2.2.2.2.1]; exact k i hi j hj h5
  | bid hk a n ha h0 h1 hf => intro i hi j hj h5; rw [(s.bid_fields a n i).2.2.2.1]; exact k i hi j hj h5
  | next hk => exact k.next I.good _
  | make hk j hl => exact k
  | slash hk a hA ha hz => intro i hi j hj h5; rw [(PS.slash_fields s a i).2.2.2.2.2.1]; exact k i hi j hj h5
  | deposit hk a n m ha h0 hf hm hm1 hs => intro i hi j hj h5; rw [(s.deposit_fields ha n m i).2.2.2.2.2.1]; exact k i hi j hj h5
  | leave hk a n ha h0 hf hm1 hs =>
    intro i hi j hj h5
    have hj2 : s.delay ≤ (j : Int) := hj
    rw [(s.leave_fields ha n _ i).2.2.2.2.2.1 j, if_neg (by omega), k i hi j hj2 h5]; rfl
end Go.Proofs.Ytiokecadnmcpeaa
