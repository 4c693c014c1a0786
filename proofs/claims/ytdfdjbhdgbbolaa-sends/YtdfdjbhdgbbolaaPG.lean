import Derived.Test.YtdfdjbhdgbbolaaPD
import Derived.Test.YtdfdjbhdgbbolaaPNew
namespace Go.Proofs.Ytdfdjbhdgbbolaa
set_option linter.unusedVariables false
set_option linter.unusedSimpArgs false

theorem psum_le (f : Nat → Int) (n : Nat) (h : ∀ k, k < n → 0 ≤ f k) : 0 ≤ sumTo f n ∧ ∀ k, k < n → f k ≤ sumTo f n := by
  induction n with
  | zero => exact ⟨Int.le_refl _, fun k hk => by omega⟩
  | succ n ih =>
    have ⟨i1, i2⟩ := ih (fun k hk => h k (by omega))
    have := h n (by omega)
    simp only [sumTo]
    refine ⟨by omega, fun k hk => ?_⟩
    by_cases e : k = n
    · subst e; omega
    · have := i2 k (by omega); omega
theorem psum_add (f g : Nat → Int) (n : Nat) : sumTo (fun k => f k + g k) n = sumTo f n + sumTo g n := by
  induction n with
  | zero => rfl
  | succ n ih => simp only [sumTo, ih]; omega
theorem psum_mono (f g : Nat → Int) (n : Nat) (h : ∀ k, k < n → f k ≤ g k) : sumTo f n ≤ sumTo g n := by
  induction n with
  | zero => exact Int.le_refl _
  | succ n ih => have := ih (fun k hk => h k (by omega)); have := h n (by omega); simp only [sumTo]; omega

/-- The amounts of an account. -/
structure Acc.Pos (c : Acc) : Prop where
  l0 : 0 ≤ c.liquid
  k0 : 0 ≤ c.locked
  b0 : 0 ≤ c.bid
  b1 : c.bid ≤ 1000000000
  s0 : 0 ≤ c.seats
  s1 : c.seats ≤ 10
  h0 : 0 ≤ c.shares
  q0 : ∀ k, k < 5 → 0 ≤ c.q k
theorem Acc.Pos.que {c : Acc} (h : c.Pos) : 0 ≤ c.queued ∧ ∀ k, k < 5 → c.q k ≤ c.queued := by
  have a0 := h.q0 0 (by omega)
  have a1 := h.q0 1 (by omega)
  have a2 := h.q0 2 (by omega)
  have a3 := h.q0 3 (by omega)
  have a4 := h.q0 4 (by omega)
  unfold Acc.queued
  refine ⟨by omega, fun k hk => ?_⟩
  rcases (show k = 0 ∨ k = 1 ∨ k = 2 ∨ k = 3 ∨ k = 4 by omega) with rfl | rfl | rfl | rfl | rfl <;> omega
theorem Acc.Pos.tot {c : Acc} (h : c.Pos) : 0 ≤ c.tot ∧ c.liquid ≤ c.tot ∧ c.locked ≤ c.tot ∧ ∀ k, k < 5 → c.q k ≤ c.tot := by
  have := h.que
  have := h.l0
  have := h.k0
  unfold Acc.tot
  refine ⟨by omega, by omega, by omega, fun k hk => ?_⟩
  have := this
  have := h.que.2 k hk
  omega

/-- What holds of every chain of the program's, always. -/
structure PS.Good (s : PS) : Prop extends PS.Cf s where
  pos : ∀ a, a < 7 → (s.acc a).Pos
  t0 : 0 ≤ s.treasury
  sup : s.supply ≤ 1000000000
  shr : s.allShares ≤ 1000000000
  far : ∀ a, s.N < a → s.acc a = Acc.zero
theorem PS.Good.ok {s : PS} (h : s.Good) : s.Ok := by
  have ht := psum_le (fun a => (s.acc a).tot) 7 (fun k hk => (h.pos k hk).tot.1)
  have hs := psum_le (fun a => (s.acc a).shares) 7 (fun k hk => (h.pos k hk).h0)
  have t0 := h.t0
  have sup := h.sup
  have shr := h.shr
  unfold PS.supply at sup
  unfold PS.allShares at shr
  refine { h.toCf with acc := fun a ha => ?_, t0 := h.t0, t1 := by omega }
  have hp := h.pos a ha
  have e1 := hp.tot
  have e2 : (s.acc a).tot ≤ sumTo (fun a => (s.acc a).tot) 7 := ht.2 a ha
  have e3 : (s.acc a).shares ≤ sumTo (fun a => (s.acc a).shares) 7 := hs.2 a ha
  exact ⟨hp.l0, by omega, hp.k0, by omega, hp.b0, hp.b1, hp.s0, hp.s1, hp.h0, by omega, hp.q0, fun k hk => by have := e1.2.2.2 k hk; omega⟩
theorem PS.Good.sup0 {s : PS} (h : s.Good) : 0 ≤ s.supply := by
  have ht := psum_le (fun a => (s.acc a).tot) 7 (fun k hk => (h.pos k hk).tot.1)
  have := h.t0
  unfold PS.supply; omega

/-- A turn of every account by itself. -/
theorem PS.Good.map {s : PS} (h : s.Good) (f : Nat → Acc → Acc) (k : Nat) (hp : ∀ a, a < 7 → a < k → (f a (s.acc a)).Pos) (ht : ∀ a, a < 7 → a < k → (f a (s.acc a)).tot ≤ (s.acc a).tot) (hs : ∀ a, a < 7 → a < k → (f a (s.acc a)).shares = (s.acc a).shares) (hf : ∀ a, s.N < a → f a Acc.zero = Acc.zero) : (s.mapTo f k).Good := by
  have h1 : ∀ a, a < 7 → ((s.mapTo f k).acc a).tot ≤ (s.acc a).tot := fun a ha => by
    by_cases e : a < k
    · simp only [PS.mapTo, if_pos e]; exact ht a ha e
    · simp only [PS.mapTo, if_neg e]; exact Int.le_refl _
  have h2 : ∀ a, a < 7 → ((s.mapTo f k).acc a).shares = (s.acc a).shares := fun a ha => by
    by_cases e : a < k
    · simp only [PS.mapTo, if_pos e]; exact hs a ha e
    · simp only [PS.mapTo, if_neg e]
  refine { N1 := h.N1, N6 := h.N6, e0 := h.e0, e1 := h.e1, seats := h.seats, delay := h.delay, rate := h.rate, cut := h.cut, length := h.length, need := h.need, rlen := h.rlen, pos := fun a ha => ?_, t0 := h.t0, sup := ?_, shr := ?_, far := fun a ha => ?_ }
  · by_cases e : a < k
    · simp only [PS.mapTo, if_pos e]; exact hp a ha e
    · simp only [PS.mapTo, if_neg e]; exact h.pos a ha
  · have := psum_mono _ _ 7 h1
    have := h.sup
    unfold PS.supply at *
    show s.treasury + sumTo (fun a => ((s.mapTo f k).acc a).tot) 7 ≤ _
    omega
  · have := sumTo_congr 7 h2
    have := h.shr
    unfold PS.allShares at *
    omega
  · have e0 := h.far a ha
    show (if a < k then f a (s.acc a) else s.acc a) = _
    rw [e0, hf a ha]; simp

theorem Acc.zero_pos : Acc.zero.Pos := ⟨by simp [Acc.zero], by simp [Acc.zero], by simp [Acc.zero], by simp [Acc.zero], by simp [Acc.zero], by simp [Acc.zero], by simp [Acc.zero], by simp [Acc.zero]⟩
theorem updQ_queued (c : Acc) (k : Nat) (hk : k < 5) (n : Int) : ({ c with q := updQ c.q k (c.q k + n) } : Acc).queued = c.queued + n := by
  unfold Acc.queued updQ
  rcases (show k = 0 ∨ k = 1 ∨ k = 2 ∨ k = 3 ∨ k = 4 by omega) with rfl | rfl | rfl | rfl | rfl <;> simp <;> omega
theorem Acc.unlock_tot (c : Acc) (n : Int) (k : Nat) (hk : k < 5) : (c.unlock n k).tot = c.tot := by
  have := updQ_queued c k hk n
  unfold Acc.queued at this
  unfold Acc.tot Acc.queued Acc.unlock
  simp only at *
  omega
theorem Acc.quit_tot (c : Acc) (k : Nat) (hk : k < 5) : (c.quit k).tot = c.tot := c.unlock_tot c.locked k hk
theorem updQ_zero (k : Nat) : updQ (fun _ => (0 : Int)) k 0 = fun _ => 0 := by funext j; simp [updQ]
theorem Acc.quit_zero (k : Nat) : Acc.zero.quit k = Acc.zero := by simp [Acc.quit, Acc.unlock, Acc.zero, updQ_zero]
theorem Acc.Pos.unlock {c : Acc} (h : c.Pos) {n : Int} {k : Nat} (hk : k < 5) (h0 : 0 ≤ n) (hb : n ≤ c.locked) : (c.unlock n k).Pos :=
  ⟨h.l0, by show 0 ≤ c.locked - n; omega, h.b0, h.b1, h.s0, h.s1, h.h0, fun j hj => by
    show 0 ≤ updQ c.q k (c.q k + n) j
    unfold updQ
    split
    · have := h.q0 k hk; omega
    · exact h.q0 j hj⟩
theorem Acc.Pos.quit {c : Acc} (h : c.Pos) {k : Nat} (hk : k < 5) : (c.quit k).Pos :=
  ⟨h.l0, by show 0 ≤ c.locked - c.locked; omega, Int.le_refl _, by show (0 : Int) ≤ 1000000000; omega, h.s0, h.s1, h.h0, fun j hj => by
    show 0 ≤ updQ c.q k (c.q k + c.locked) j
    unfold updQ
    split
    · have := h.q0 k hk; have := h.k0; omega
    · exact h.q0 j hj⟩
theorem Acc.back_tot (c : Acc) : c.back.tot = c.tot := by
  unfold Acc.tot Acc.queued Acc.back updQ shiftQ
  simp
  omega
theorem Acc.Pos.back {c : Acc} (h : c.Pos) : c.back.Pos :=
  ⟨by show 0 ≤ c.liquid + c.q 0; have := h.l0; have := h.q0 0 (by omega); omega, h.k0, h.b0, h.b1, h.s0, h.s1, h.h0, fun j hj => by
    show 0 ≤ updQ (shiftQ c.q 4) 4 0 j
    unfold updQ shiftQ
    by_cases e : j = 4
    · rw [if_pos e]; exact Int.le_refl _
    · rw [if_neg e, if_pos (by omega)]; exact h.q0 (j + 1) (by omega)⟩
theorem Acc.back_zero : Acc.zero.back = Acc.zero := by
  have : updQ (shiftQ (fun _ => (0 : Int)) 4) 4 0 = fun _ => 0 := by funext j; simp [updQ, shiftQ]
  simp [Acc.back, Acc.zero, this]

/-- Somebody's stand beyond the pool. -/
theorem PS.stand_far {s : PS} {a : Nat} (h : s.acc a = Acc.zero) : s.stand a = 0 := by
  unfold PS.stand PS.stand0
  rw [h]
  simp [Acc.zero]

/-- No bid is above what is locked. -/
def PS.Low (s : PS) : Prop := ∀ a, a < 7 → (s.acc a).bid ≤ (s.acc a).locked

theorem Acc.burn_tot (j : Nat → Int) (a : Nat) (c : Acc) (h : c.Pos) : (burnF j a c).tot ≤ c.tot ∧ (burnF j a c).Pos ∧ (burnF j a c).shares = c.shares := by
  have := h.k0
  unfold burnF
  split
  · refine ⟨by unfold Acc.tot Acc.queued; simp only; omega, ⟨h.l0, by show 0 ≤ c.locked - c.locked / 2; omega, h.b0, h.b1, h.s0, h.s1, h.h0, h.q0⟩, rfl⟩
  · exact ⟨Int.le_refl _, h, rfl⟩
theorem PS.Good.burnTo {s : PS} (h : s.Good) (k : Nat) : (s.mapTo (burnF s.stand) k).Good :=
  h.map _ k (fun a ha _ => (Acc.burn_tot _ a _ (h.pos a ha)).2.1) (fun a ha _ => (Acc.burn_tot _ a _ (h.pos a ha)).1) (fun a ha _ => (Acc.burn_tot _ a _ (h.pos a ha)).2.2)
    (fun a ha => by unfold burnF; rw [PS.stand_far (h.far a ha)]; rfl)
theorem PS.Good.p1 {s : PS} (h : s.Good) : s.p1.Good := h.burnTo 7

/-- Each height has one leader at most. -/
theorem PS.leads_one (s : PS) (k : Nat) (n : Nat) : sumTo (fun a => if (s.blocks k && s.leads (a : Nat) k) = true then (1 : Int) else 0) n ≤ (if (k : Int) < s.length then 1 else 0) ∧ (sumTo (fun a => if (s.blocks k && s.leads (a : Nat) k) = true then (1 : Int) else 0) n ≠ 0 → s.row (k % s.rlen) < n) ∧ 0 ≤ sumTo (fun a => if (s.blocks k && s.leads (a : Nat) k) = true then (1 : Int) else 0) n := by
  induction n with
  | zero => refine ⟨by simp only [sumTo]; split <;> omega, fun h => absurd rfl h, Int.le_refl _⟩
  | succ n ih =>
    obtain ⟨i1, i2, i3⟩ := ih
    simp only [sumTo]
    by_cases h : (s.blocks k && s.leads (n : Nat) k) = true
    · rw [if_pos h]
      simp only [Bool.and_eq_true, PS.leads, decide_eq_true_eq] at h
      have hz : sumTo (fun a => if (s.blocks k && s.leads (a : Nat) k) = true then (1 : Int) else 0) n = 0 := by
        apply Classical.byContradiction
        intro hne
        have := i2 hne
        omega
      rw [hz]
      rw [if_pos h.2.1]
      exact ⟨by omega, fun _ => by omega, by omega⟩
    · rw [if_neg h]
      exact ⟨by omega, fun hne => by have := i2 (by omega); omega, by omega⟩
theorem PS.made_sum (s : PS) (n : Nat) (k : Nat) : sumTo (fun a => s.madeTo (a : Nat) k) n ≤ k ∧ sumTo (fun a => s.madeTo (a : Nat) k) n ≤ max s.length 0 := by
  induction k with
  | zero =>
    have : sumTo (fun a => s.madeTo (a : Nat) 0) n = 0 := by
      induction n with
      | zero => rfl
      | succ n ih => simp only [sumTo, ih]; rfl
    rw [this]; omega
  | succ k ih =>
    have e : sumTo (fun a => s.madeTo (a : Nat) (k + 1)) n = sumTo (fun a => s.madeTo (a : Nat) k) n + sumTo (fun a => if (s.blocks k && s.leads (a : Nat) k) = true then (1 : Int) else 0) n := by
      rw [← psum_add]; rfl
    have := s.leads_one k n
    rw [e]
    by_cases h : (k : Int) < s.length
    · rw [if_pos h] at this; omega
    · rw [if_neg h] at this; omega
theorem psum_mul (f : Nat → Int) (c : Int) (n : Nat) : sumTo (fun k => c * f k) n = c * sumTo f n := by
  induction n with
  | zero => simp [sumTo]
  | succ n ih => simp only [sumTo, ih, Int.mul_add]
theorem psum_div (f : Nat → Int) (c : Int) (hc : 0 < c) (n : Nat) : sumTo (fun k => f k / c) n ≤ sumTo f n / c := by
  induction n with
  | zero => simp [sumTo]
  | succ n ih =>
    simp only [sumTo]
    have h1 : c * (sumTo (fun k => f k / c) n) ≤ sumTo f n := by
      have := Int.mul_le_mul_of_nonneg_left ih (Int.le_of_lt hc)
      exact Int.le_trans this (Int.mul_ediv_self_le (by omega))
    have h2 : c * (f n / c) ≤ f n := Int.mul_ediv_self_le (by omega)
    rw [Int.le_ediv_iff_mul_le hc, Int.add_mul, Int.mul_comm _ c, Int.mul_comm _ c]
    omega
theorem PS.pays_sum {s : PS} (ok : s.Cf) (j : Nat → Int) {rest : Int} (h0 : 0 ≤ rest) (h1 : rest ≤ 1000000000) (n : Nat) : sumTo (s.pays j rest) n ≤ rest := by
  have hl := ok.length
  have e1 : sumTo (s.pays j rest) n ≤ sumTo (fun a => rest * s.made (a : Nat) / s.length) n := psum_mono _ _ n (fun k hk => by
    unfold PS.pays
    split
    · exact Int.le_refl _
    · exact Int.ediv_nonneg (Int.mul_nonneg h0 (s.made_bd k).1) (by omega))
  have e2 := psum_div (fun a => rest * s.made (a : Nat)) s.length (by omega) n
  rw [psum_mul] at e2
  have e3 := (s.made_sum n 20).2
  have e4 : rest * sumTo (fun a => s.made (a : Nat)) n ≤ rest * s.length := Int.mul_le_mul_of_nonneg_left (by
    have : sumTo (fun a => s.made (a : Nat)) n = sumTo (fun a => s.madeTo (a : Nat) 20) n := rfl
    omega) h0
  have e5 : rest * sumTo (fun a => s.made (a : Nat)) n / s.length ≤ rest := by
    apply Int.ediv_le_of_le_mul (by omega)
    exact e4
  omega

theorem PS.stand_one {s : PS} {a : Nat} (h : s.stand a = 1) : 1 ≤ (s.acc a).seats ∧ (s.acc a).cheated = false := by
  unfold PS.stand PS.stand0 at h
  by_cases h1 : (s.acc a).seats < 1
  · simp [h1] at h
  · refine ⟨by omega, ?_⟩
    cases hc : (s.acc a).cheated with
    | false => rfl
    | true => simp [h1, hc] at h

theorem PS.Good.pay {s : PS} (h : s.Good) (j : Nat → Int) (hj : ∀ a, s.N < a → j a = 0) (hlow : ∀ a, a < 7 → j a = 1 → (s.acc a).bid ≤ (s.acc a).locked) : (s.pay j).Good ∧ (s.pay j).supply = s.supply + s.fresh := by
  have hs0 := h.sup0
  have hf := s.fresh_bd h.toCf h.sup0 h.sup
  have hr := s.rest_bd h.toCf h.sup0 h.sup
  have hs := s.pays_sum h.toCf j hr.1 (by omega) 7
  have hpb := fun a => s.pays_bd h.toCf j hr.1 (by omega) a
  have htot : ∀ a, ((s.pay j).acc a).tot = (s.acc a).tot + (if a < 7 then s.pays j s.rest a else 0) := by
    intro a
    show (if a < 7 then payF s j s.rest a (s.acc a) else s.acc a).tot = _
    by_cases e : a < 7
    · rw [if_pos e, if_pos e]
      unfold payF
      by_cases e1 : j a = 1
      · rw [if_pos e1]; unfold Acc.tot Acc.queued Acc.reward; simp only; omega
      · rw [if_neg e1]; unfold PS.pays; rw [if_neg e1]; omega
    · rw [if_neg e, if_neg e]; omega
  have hsup : (s.pay j).supply = s.supply + s.fresh := by
    unfold PS.supply
    have e1 : sumTo (fun a => ((s.pay j).acc a).tot) 7 = sumTo (fun a => (s.acc a).tot) 7 + sumTo (s.pays j s.rest) 7 := by
      rw [← psum_add]
      exact sumTo_congr 7 (fun k hk => by rw [htot k, if_pos hk])
    rw [e1]
    show s.treasury + (s.fresh - sumTo (s.pays j s.rest) 7) + _ = _
    omega
  have hfar : ∀ a, s.N < a → (s.pay j).acc a = Acc.zero := fun a ha => by
    show (if a < 7 then payF s j s.rest a (s.acc a) else s.acc a) = _
    have e0 := h.far a ha
    have e2 : payF s j s.rest a Acc.zero = Acc.zero := by unfold payF; rw [if_neg (by rw [hj a ha]; omega)]
    rw [e0, e2]; simp
  have t0 := h.t0
  have htp : 0 ≤ (s.pay j).treasury := by show 0 ≤ s.treasury + (s.fresh - sumTo (s.pays j s.rest) 7); omega
  have htotnn : ∀ a, a < 7 → 0 ≤ ((s.pay j).acc a).tot := fun a ha => by have := htot a; rw [if_pos ha] at this; have := (hpb a).1; have := (h.pos a ha).tot.1; omega
  have hle : ∀ a, a < 7 → ((s.pay j).acc a).tot ≤ 1000000000 := fun a ha => by
    have e1 : ((s.pay j).acc a).tot ≤ sumTo (fun a => ((s.pay j).acc a).tot) 7 := (psum_le (fun a => ((s.pay j).acc a).tot) 7 htotnn).2 a ha
    have e2 : (s.pay j).supply = (s.pay j).treasury + sumTo (fun a => ((s.pay j).acc a).tot) 7 := rfl
    omega
  refine ⟨{ N1 := h.N1, N6 := h.N6, e0 := h.e0, e1 := h.e1, seats := h.seats, delay := h.delay, rate := h.rate, cut := h.cut, length := h.length, need := h.need, rlen := h.rlen, pos := fun a ha => ?_, t0 := htp, sup := by omega, shr := ?_, far := hfar }, hsup⟩
  · have hp := h.pos a ha
    have hl := hle a ha
    have hpa := (hpb a).1
    show (if a < 7 then payF s j s.rest a (s.acc a) else s.acc a).Pos
    have hl2 : (if a < 7 then payF s j s.rest a (s.acc a) else s.acc a).tot ≤ 1000000000 := hl
    rw [if_pos ha] at hl2 ⊢
    unfold payF at *
    by_cases e1 : j a = 1
    · rw [if_pos e1] at hl2 ⊢
      have := hlow a ha e1
      have := hp.que
      have hl0 := hp.l0
      have hk0 := hp.k0
      have hb0 := hp.b0
      have hb1 := hp.b1
      unfold Acc.tot Acc.queued Acc.reward at hl2
      unfold Acc.queued at this
      simp only at hl2
      refine ⟨hp.l0, by show 0 ≤ (s.acc a).locked + _; omega, ?_, ?_, hp.s0, hp.s1, hp.h0, hp.q0⟩
      · show 0 ≤ if a < s.N then (s.acc a).bid + s.pays j s.rest a else (s.acc a).bid
        split <;> omega
      · show (if a < s.N then (s.acc a).bid + s.pays j s.rest a else (s.acc a).bid) ≤ _
        split <;> omega
    · rw [if_neg e1]; exact hp
  · have e1 : (s.pay j).allShares = s.allShares := by
      unfold PS.allShares
      exact sumTo_congr 7 (fun k hk => by
        show (if k < 7 then payF s j s.rest k (s.acc k) else s.acc k).shares = _
        rw [if_pos hk]
        unfold payF
        split <;> rfl)
    have := h.shr
    omega

theorem PS.p1_kept (s : PS) : s.p1.N = s.N ∧ s.p1.delay = s.delay ∧ s.p1.epoch = s.epoch := ⟨rfl, rfl, rfl⟩
theorem PS.stand_farN {s : PS} (h : s.Good) (a : Nat) (ha : s.N < a) : s.stand a = 0 := PS.stand_far (h.far a ha)
theorem PS.p1_low {s : PS} (hl : s.Low) : ∀ a, a < 7 → s.stand a ≠ 3 → (s.p1.acc a).bid ≤ (s.p1.acc a).locked := fun a ha hne => by
  show (if a < 7 then burnF s.stand a (s.acc a) else s.acc a).bid ≤ (if a < 7 then burnF s.stand a (s.acc a) else s.acc a).locked
  rw [if_pos ha]
  unfold burnF
  rw [if_neg hne]
  exact hl a ha
theorem PS.Good.p2 {s : PS} (h : s.Good) (hl : s.Low) : s.p2.Good ∧ s.p2.supply = s.p1.supply + s.p1.fresh :=
  h.p1.pay s.stand (fun a ha => PS.stand_farN h a ha) (fun a ha h1 => PS.p1_low hl a ha (by omega))
theorem PS.p2_low {s : PS} (h : s.Good) (hl : s.Low) : ∀ a, a < 7 → s.stand a ≠ 3 → (s.p2.acc a).bid ≤ (s.p2.acc a).locked := fun a ha hne => by
  have h1 := PS.p1_low hl a ha hne
  have hr := s.p1.rest_bd h.p1.toCf h.p1.sup0 h.p1.sup
  have hf := s.p1.fresh_bd h.p1.toCf h.p1.sup0 h.p1.sup
  have h0 := h.p1.sup0
  have hp := (s.p1.pays_bd h.p1.toCf s.stand hr.1 (by omega) a).1
  show (if a < 7 then payF s.p1 s.stand s.p1.rest a (s.p1.acc a) else s.p1.acc a).bid ≤ (if a < 7 then payF s.p1 s.stand s.p1.rest a (s.p1.acc a) else s.p1.acc a).locked
  rw [if_pos ha]
  unfold payF
  split
  · show (if a < s.p1.N then (s.p1.acc a).bid + s.p1.pays s.stand s.p1.rest a else (s.p1.acc a).bid) ≤ (s.p1.acc a).locked + s.p1.pays s.stand s.p1.rest a
    split <;> omega
  · exact h1
theorem dismiss_facts (j : Nat → Int) (q : Nat) (hq : q < 5) (a : Nat) (c : Acc) (h : c.Pos) : (dismissF j q a c).Pos ∧ (dismissF j q a c).tot = c.tot ∧ (dismissF j q a c).shares = c.shares := by
  unfold dismissF
  split
  · exact ⟨h.quit hq, c.quit_tot q hq, rfl⟩
  · exact ⟨h, rfl, rfl⟩
theorem PS.Good.dismissTo {s : PS} (h : s.Good) (j : Nat → Int) (q : Nat) (hq : q < 5) (k : Nat) : (s.mapTo (dismissF j q) k).Good :=
  h.map _ k (fun a ha _ => (dismiss_facts j q hq a _ (h.pos a ha)).1) (fun a ha _ => Int.le_of_eq (dismiss_facts j q hq a _ (h.pos a ha)).2.1) (fun a ha _ => (dismiss_facts j q hq a _ (h.pos a ha)).2.2)
    (fun a ha => by unfold dismissF; rw [Acc.quit_zero]; split <;> rfl)
theorem PS.Good.p3 {s : PS} (h : s.Good) (hl : s.Low) : s.p3.Good := (h.p2 hl).1.dismissTo _ _ (by have := h.delay; omega) 7
theorem PS.p3_low {s : PS} (h : s.Good) (hl : s.Low) : s.p3.Low := fun a ha => by
  show (if a < 7 then dismissF s.stand (s.delay - 1).toNat a (s.p2.acc a) else s.p2.acc a).bid ≤ (if a < 7 then dismissF s.stand (s.delay - 1).toNat a (s.p2.acc a) else s.p2.acc a).locked
  rw [if_pos ha]
  unfold dismissF
  split
  · show (0 : Int) ≤ (s.p2.acc a).locked - (s.p2.acc a).locked
    omega
  · rename_i hne
    exact PS.p2_low h hl a ha (fun e => hne (.inl e))
theorem PS.Good.backTo {s : PS} (h : s.Good) (k : Nat) : (s.mapTo (fun _ c => c.back) k).Good :=
  h.map _ k (fun a ha _ => (h.pos a ha).back) (fun a ha _ => Int.le_of_eq (Acc.back_tot _)) (fun a ha _ => rfl) (fun a ha => Acc.back_zero)
theorem PS.Good.begin {s : PS} (h : s.Good) (he : s.epoch ≤ 4611686018427387904) : s.begin.Good :=
  { h.backTo 7 with e0 := by show 0 ≤ s.epoch + 1; have := h.e0; omega, e1 := by show s.epoch + 1 ≤ _; omega, N1 := h.N1, N6 := h.N6, seats := h.seats, delay := h.delay, rate := h.rate, cut := h.cut, length := h.length, need := h.need, rlen := h.rlen, pos := (h.backTo 7).pos, t0 := h.t0, sup := (h.backTo 7).sup, shr := (h.backTo 7).shr, far := (h.backTo 7).far }
theorem PS.begin_low {s : PS} (hl : s.Low) : s.begin.Low := fun a ha => by
  show (if a < 7 then (s.acc a).back else s.acc a).bid ≤ (if a < 7 then (s.acc a).back else s.acc a).locked
  rw [if_pos ha]
  exact hl a ha

/-- One account is turned. -/
theorem PS.Good.one {s : PS} (h : s.Good) (b : Nat) (hb : b ≤ s.N) (c : Acc) (hp : c.Pos) (ht : c.tot ≤ (s.acc b).tot) (hs : c.shares = (s.acc b).shares) : (s.setAcc b c).Good := by
  have hN := h.N6
  have h1 : ∀ a, a < 7 → ((s.setAcc b c).acc a).tot ≤ (s.acc a).tot := fun a ha => by
    by_cases e : a = b
    · subst e; rw [PS.setAcc_same]; exact ht
    · rw [PS.setAcc_other _ _ e]; exact Int.le_refl _
  have h2 : ∀ a, a < 7 → ((s.setAcc b c).acc a).shares = (s.acc a).shares := fun a ha => by
    by_cases e : a = b
    · subst e; rw [PS.setAcc_same]; exact hs
    · rw [PS.setAcc_other _ _ e]
  refine { N1 := h.N1, N6 := h.N6, e0 := h.e0, e1 := h.e1, seats := h.seats, delay := h.delay, rate := h.rate, cut := h.cut, length := h.length, need := h.need, rlen := h.rlen, pos := fun a ha => ?_, t0 := h.t0, sup := ?_, shr := ?_, far := fun a ha => ?_ }
  · by_cases e : a = b
    · subst e; rw [PS.setAcc_same]; exact hp
    · rw [PS.setAcc_other _ _ e]; exact h.pos a ha
  · have e1 := psum_mono _ _ 7 h1
    have e2 := h.sup
    have e3 : s.supply = s.treasury + sumTo (fun a => (s.acc a).tot) 7 := rfl
    show s.treasury + sumTo (fun a => ((s.setAcc b c).acc a).tot) 7 ≤ _
    omega
  · have e1 := sumTo_congr 7 h2
    have e2 := h.shr
    unfold PS.allShares at *
    omega
  · have hne : a ≠ b := by
      intro e
      have hN2 : (s.setAcc b c).N = s.N := rfl
      omega
    rw [PS.setAcc_other _ _ hne]
    exact h.far a ha
theorem PS.Good.lockPool {s : PS} (h : s.Good) : s.lockPool.Good := by
  have hN := h.N6
  have hp := h.pos s.N (by omega)
  refine h.one s.N (Nat.le_refl _) _ ⟨Int.le_refl _, ?_, hp.b0, hp.b1, hp.s0, hp.s1, hp.h0, hp.q0⟩ ?_ rfl
  · show 0 ≤ (s.acc s.N).locked + (s.acc s.N).liquid
    have := hp.k0; have := hp.l0; omega
  · unfold Acc.tot Acc.queued Acc.pool; simp only; omega
theorem PS.lockPool_low {s : PS} (h : s.Good) (hl : s.Low) : s.lockPool.Low := fun a ha => by
  have hN := h.N6
  unfold PS.lockPool
  by_cases e : a = s.N
  · rw [e, PS.setAcc_same]
    show (s.acc s.N).bid ≤ (s.acc s.N).locked + (s.acc s.N).liquid
    have := hl s.N (by omega); have := (h.pos s.N (by omega)).l0; omega
  · rw [PS.setAcc_other _ _ e]; exact hl a ha
theorem lower_facts (q : Nat) (hq : q < 5) (a : Nat) (c : Acc) (h : c.Pos) : (lowerF q a c).Pos ∧ (lowerF q a c).tot = c.tot ∧ (lowerF q a c).shares = c.shares ∧ (c.bid ≤ c.locked → (lowerF q a c).bid ≤ (lowerF q a c).locked) := by
  unfold lowerF
  split
  · refine ⟨h.unlock hq (by omega) (by have := h.b0; omega), c.unlock_tot _ q hq, rfl, fun _ => ?_⟩
    show c.bid ≤ c.locked - (c.locked - c.bid)
    omega
  · exact ⟨h, rfl, rfl, fun h => h⟩
theorem PS.Good.lowerTo {s : PS} (h : s.Good) (q : Nat) (hq : q < 5) (k : Nat) : (s.mapTo (lowerF q) k).Good :=
  h.map _ k (fun a ha _ => (lower_facts q hq a _ (h.pos a ha)).1) (fun a ha _ => Int.le_of_eq (lower_facts q hq a _ (h.pos a ha)).2.1) (fun a ha _ => (lower_facts q hq a _ (h.pos a ha)).2.2.1)
    (fun a ha => by unfold lowerF; simp [Acc.zero])
theorem PS.map_low {s : PS} (f : Nat → Acc → Acc) (k : Nat) (hl : s.Low) (hf : ∀ a, a < 7 → (f a (s.acc a)).bid ≤ (f a (s.acc a)).locked) : (s.mapTo f k).Low := fun a ha => by
  show (if a < k then f a (s.acc a) else s.acc a).bid ≤ (if a < k then f a (s.acc a) else s.acc a).locked
  split
  · exact hf a ha
  · exact hl a ha
theorem PS.lower_low {s : PS} (h : s.Good) (hl : s.Low) (q : Nat) (hq : q < 5) : (s.lower q).Low := PS.map_low _ _ hl (fun a ha => (lower_facts q hq a _ (h.pos a ha)).2.2.2 (hl a ha))
end Go.Proofs.Ytdfdjbhdgbbolaa
namespace Go.Proofs.Ytdfdjbhdgbbolaa
set_option linter.unusedVariables false
set_option linter.unusedSimpArgs false

theorem PS.Good.map' {s : PS} (h : s.Good) (f : Nat → Acc → Acc) (k : Nat) (hp : ∀ a, a < 7 → a < k → (f a (s.acc a)).Pos) (ht : ∀ a, a < 7 → a < k → (f a (s.acc a)).tot ≤ (s.acc a).tot) (hs : ∀ a, a < 7 → a < k → (f a (s.acc a)).shares = (s.acc a).shares) (hf : ∀ a, s.N < a → a < k → f a Acc.zero = Acc.zero) : (s.mapTo f k).Good := by
  have e : s.mapTo f k = s.mapTo (fun a c => if a < k then f a c else c) k := by
    simp only [PS.mapTo, PS.mk.injEq, true_and, and_true]
    funext a
    by_cases e : a < k <;> simp [e]
  rw [e]
  refine h.map _ k (fun a h1 h2 => ?_) (fun a h1 h2 => ?_) (fun a h1 h2 => ?_) (fun a h1 => ?_)
  · simp only [if_pos h2]; exact hp a h1 h2
  · simp only [if_pos h2]; exact ht a h1 h2
  · simp only [if_pos h2]; exact hs a h1 h2
  · by_cases h2 : a < k
    · simp only [if_pos h2]; exact hf a h1 h2
    · simp only [if_neg h2]

theorem seatsOf_zero {p l : Int} (hl : 0 ≤ l) : seatsOf 0 p l = 0 := by
  unfold seatsOf
  split
  · rfl
  · rw [Int.zero_ediv]; rw [if_neg (by omega)]
theorem sell_facts {s : PS} (h : s.Good) (p : Int) (q : Nat) (hq : q < 5) (a : Nat) (ha : a < 7) : (sellF s p q a (s.acc a)).Pos ∧ (sellF s p q a (s.acc a)).tot = (s.acc a).tot ∧ (sellF s p q a (s.acc a)).shares = (s.acc a).shares ∧ ((s.acc a).bid ≤ (s.acc a).locked → (sellF s p q a (s.acc a)).bid ≤ (sellF s p q a (s.acc a)).locked) := by
  have hp := h.pos a ha
  have hl := PS.leftTo_bd h.ok p a (by omega)
  have hse := h.seats
  have hb := seatsOf_bd (p := p) hp.k0 hl.1
  unfold sellF
  by_cases e : (s.acc a).locked < p
  · simp only [if_pos e]
    have hq2 := hp.quit hq
    refine ⟨⟨hq2.l0, hq2.k0, hq2.b0, hq2.b1, hb.1, by show seatsOf _ _ _ ≤ 10; omega, hq2.h0, hq2.q0⟩, (s.acc a).quit_tot q hq, rfl, fun _ => ?_⟩
    show (0 : Int) ≤ (s.acc a).locked - (s.acc a).locked
    omega
  · rw [if_neg e]
    exact ⟨⟨hp.l0, hp.k0, hp.b0, hp.b1, hb.1, by show seatsOf _ _ _ ≤ 10; omega, hp.h0, hp.q0⟩, rfl, rfl, fun h => h⟩
theorem PS.Good.sell {s : PS} (h : s.Good) (q : Nat) (hq : q < 5) : (s.sell q).Good := by
  have g : ({ s with price := s.salePrice } : PS).Good := { N1 := h.N1, N6 := h.N6, e0 := h.e0, e1 := h.e1, seats := h.seats, delay := h.delay, rate := h.rate, cut := h.cut, length := h.length, need := h.need, rlen := h.rlen, pos := h.pos, t0 := h.t0, sup := h.sup, shr := h.shr, far := h.far }
  refine g.map' _ 7 (fun a ha _ => (sell_facts h _ q hq a ha).1) (fun a ha _ => Int.le_of_eq (sell_facts h _ q hq a ha).2.1) (fun a ha _ => (sell_facts h _ q hq a ha).2.2.1) (fun a ha hk => ?_)
  have hl := PS.leftTo_bd h.ok s.salePrice a (by omega)
  have e0 : seatsOf Acc.zero.locked s.salePrice (s.leftTo s.salePrice a) = 0 := seatsOf_zero hl.1
  unfold sellF
  rw [e0, Acc.quit_zero]
  simp
  rfl
theorem PS.sell_low {s : PS} (h : s.Good) (hl : s.Low) (q : Nat) (hq : q < 5) : (s.sell q).Low := fun a ha => by
  show (if a < 7 then sellF s s.salePrice q a (s.acc a) else s.acc a).bid ≤ (if a < 7 then sellF s s.salePrice q a (s.acc a) else s.acc a).locked
  rw [if_pos ha]
  exact (sell_facts h _ q hq a ha).2.2.2 (hl a ha)
theorem PS.sell_seats (s : PS) (q : Nat) (a : Nat) (ha : a < 7) : ((s.sell q).acc a).seats = seatsOf (s.acc a).locked s.salePrice (s.leftTo s.salePrice a) := by
  show (if a < 7 then sellF s s.salePrice q a (s.acc a) else s.acc a).seats = _
  rw [if_pos ha]; rfl
theorem PS.sell_sum (s : PS) (q : Nat) (k : Nat) (hk : k ≤ 7) : (s.sell q).seatsTo k = s.seats - s.leftTo s.salePrice k := by
  induction k with
  | zero => show (0 : Int) = s.seats - s.seats; omega
  | succ k ih =>
    have := ih (by omega)
    have e := s.sell_seats q k (by omega)
    show (s.sell q).seatsTo k + ((s.sell q).acc k).seats = _
    rw [e]
    simp only [PS.leftTo]
    omega

theorem PS.draw_kept (s : PS) (seed : Int) : (s.draw seed).N = s.N ∧ (s.draw seed).seats = s.seats ∧ (s.draw seed).delay = s.delay ∧ (s.draw seed).rate = s.rate ∧ (s.draw seed).cut = s.cut ∧ (s.draw seed).length = s.length ∧ (s.draw seed).need = s.need ∧ (s.draw seed).epoch = s.epoch ∧ (s.draw seed).treasury = s.treasury ∧ (s.draw seed).price = s.price ∧ (∀ a, 7 ≤ a → (s.draw seed).acc a = s.acc a) ∧ (∀ a, a < 7 → (s.draw seed).acc a = { s.acc a with cheated := false }) := s.rowTo_kept 7
theorem PS.Good.draw {s : PS} (h : s.Good) (hs : s.seatsTo 7 ≤ 10) (seed : Int) : (s.draw seed).Good := by
  obtain ⟨k0, k1, k2, k3, k4, k5, k6, k7, k8, k9, k10, k11⟩ := s.draw_kept seed
  have hN := h.N6
  have ht : ∀ a, a < 7 → ((s.draw seed).acc a).tot = (s.acc a).tot := fun a ha => by rw [k11 a ha]; rfl
  have hr := s.rowTo_len (fun a ha => (h.pos a ha).s0) 7 (Nat.le_refl _)
  refine { N1 := by rw [k0]; exact h.N1, N6 := by rw [k0]; exact h.N6, e0 := by rw [k7]; exact h.e0, e1 := by rw [k7]; exact h.e1, seats := by rw [k1]; exact h.seats, delay := by rw [k2]; exact h.delay, rate := by rw [k3]; exact h.rate, cut := by rw [k4]; exact h.cut, length := by rw [k5]; exact h.length, need := by rw [k6]; exact h.need, rlen := ?_, pos := fun a ha => ?_, t0 := by rw [k8]; exact h.t0, sup := ?_, shr := ?_, far := fun a ha => ?_ }
  · show (s.rowTo 7).rlen ≤ 10
    omega
  · rw [k11 a ha]
    have hp := h.pos a ha
    exact ⟨hp.l0, hp.k0, hp.b0, hp.b1, hp.s0, hp.s1, hp.h0, hp.q0⟩
  · have e1 := sumTo_congr 7 ht
    have e2 := h.sup
    unfold PS.supply at *
    rw [e1, k8]; exact e2
  · have e1 : (s.draw seed).allShares = s.allShares := sumTo_congr 7 (fun a ha => by rw [k11 a ha])
    rw [e1]; exact h.shr
  · rw [k0] at ha
    by_cases e : a < 7
    · rw [k11 a e, h.far a ha]; rfl
    · rw [k10 a (by omega)]; exact h.far a ha
theorem PS.draw_low {s : PS} (hl : s.Low) (seed : Int) : (s.draw seed).Low := fun a ha => by
  rw [(s.draw_kept seed).2.2.2.2.2.2.2.2.2.2.2 a ha]; exact hl a ha

section
variable {s : PS}
theorem PS.Good.p4 (h : s.Good) (hl : s.Low) (he : s.epoch ≤ 4611686018427387904) : s.p4.Good := (h.p3 hl).begin he
theorem PS.Good.p5 (h : s.Good) (hl : s.Low) (he : s.epoch ≤ 4611686018427387904) : s.p5.Good := (PS.Good.p4 h hl he).lockPool
theorem PS.Good.p6 (h : s.Good) (hl : s.Low) (he : s.epoch ≤ 4611686018427387904) : s.p6.Good := (PS.Good.p5 h hl he).lowerTo _ (by have := h.delay; omega) _
theorem PS.Good.p7 (h : s.Good) (hl : s.Low) (he : s.epoch ≤ 4611686018427387904) : s.p7.Good := (PS.Good.p6 h hl he).sell _ (by have := h.delay; omega)
theorem PS.p4_low (h : s.Good) (hl : s.Low) : s.p4.Low := PS.begin_low (PS.p3_low h hl)
theorem PS.p5_low (h : s.Good) (hl : s.Low) (he : s.epoch ≤ 4611686018427387904) : s.p5.Low := PS.lockPool_low (PS.Good.p4 h hl he) (PS.p4_low h hl)
theorem PS.p6_low (h : s.Good) (hl : s.Low) (he : s.epoch ≤ 4611686018427387904) : s.p6.Low := PS.lower_low (PS.Good.p5 h hl he) (PS.p5_low h hl he) _ (by have := h.delay; omega)
theorem PS.p7_low (h : s.Good) (hl : s.Low) (he : s.epoch ≤ 4611686018427387904) : s.p7.Low := PS.sell_low (PS.Good.p6 h hl he) (PS.p6_low h hl he) _ (by have := h.delay; omega)
theorem PS.p7_sum (h : s.Good) (hl : s.Low) (he : s.epoch ≤ 4611686018427387904) : ∀ k, k ≤ 7 → s.p7.seatsTo k ≤ 10 := fun k hk => by
  have h6 := PS.Good.p6 h hl he
  have e1 := PS.sell_sum s.p6 (s.delay - 2).toNat k hk
  have e2 := PS.leftTo_bd h6.ok s.p6.salePrice k hk
  have e3 := h6.seats
  have e4 : s.p7.seatsTo k = (s.p6.sell (s.delay - 2).toNat).seatsTo k := rfl
  omega
theorem PS.Good.nextOk (h : s.Good) (hl : s.Low) (he : s.epoch ≤ 4611686018427387904) : PNextOk s :=
  ⟨h.ok, h.p1.ok, h.p1.sup0, h.p1.sup, (h.p2 hl).1.ok, (h.p3 hl).ok, (PS.Good.p4 h hl he).ok, (PS.Good.p5 h hl he).ok, (PS.Good.p6 h hl he).ok,
    fun a ha => ⟨((PS.Good.p7 h hl he).pos a ha).s0, ((PS.Good.p7 h hl he).pos a ha).s1⟩, PS.p7_sum h hl he⟩
theorem PS.Good.next (h : s.Good) (hl : s.Low) (he : s.epoch ≤ 4611686018427387904) (seed : Int) : (s.next seed).Good := (PS.Good.p7 h hl he).draw (PS.p7_sum h hl he 7 (Nat.le_refl _)) seed
theorem PS.next_low (h : s.Good) (hl : s.Low) (he : s.epoch ≤ 4611686018427387904) (seed : Int) : (s.next seed).Low := PS.draw_low (PS.p7_low h hl he) seed
end

/-- Send and Bid. -/
theorem PS.take_tot (s : PS) (a b : Nat) (n : Int) (ha : a < 7) (hb : b < 7) : sumTo (fun k => ((s.send a b n).acc k).tot) 7 = sumTo (fun k => (s.acc k).tot) 7 := by
  have hd : ∀ k, ((s.send a b n).acc k).tot = (s.acc k).tot + (if k = b then n else 0) - (if k = a then n else 0) := by
    intro k
    unfold PS.send PS.take
    by_cases e1 : k = b
    · subst e1
      rw [PS.setAcc_same, if_pos rfl]
      by_cases e2 : k = a
      · subst e2
        rw [PS.setAcc_same, if_pos rfl]; unfold Acc.tot Acc.queued; simp only; omega
      · rw [PS.setAcc_other _ _ e2, if_neg e2]; unfold Acc.tot Acc.queued; simp only; omega
    · rw [PS.setAcc_other _ _ e1, if_neg e1]
      by_cases e2 : k = a
      · subst e2
        rw [PS.setAcc_same, if_pos rfl]; unfold Acc.tot Acc.queued; simp only; omega
      · rw [PS.setAcc_other _ _ e2, if_neg e2]; omega
  simp only [sumTo, hd]
  rcases (show a = 0 ∨ a = 1 ∨ a = 2 ∨ a = 3 ∨ a = 4 ∨ a = 5 ∨ a = 6 by omega) with rfl | rfl | rfl | rfl | rfl | rfl | rfl <;> rcases (show b = 0 ∨ b = 1 ∨ b = 2 ∨ b = 3 ∨ b = 4 ∨ b = 5 ∨ b = 6 by omega) with rfl | rfl | rfl | rfl | rfl | rfl | rfl <;> simp <;> omega
theorem PS.Good.bid {s : PS} (h : s.Good) (a : Nat) (ha : a < s.N) (n : Int) (h0 : 0 ≤ n) (h1 : n ≤ 1000000000) (hf : n - (s.acc a).locked ≤ (s.acc a).liquid) : (s.bid a n).Good := by
  have hN := h.N6
  have hp := h.pos a (by omega)
  refine h.one a (by omega) _ ?_ ?_ ?_
  · unfold Acc.bidding
    split
    · exact ⟨by show 0 ≤ (s.acc a).liquid - (n - (s.acc a).locked); omega, h0, h0, h1, hp.s0, hp.s1, hp.h0, hp.q0⟩
    · exact ⟨hp.l0, hp.k0, h0, h1, hp.s0, hp.s1, hp.h0, hp.q0⟩
  · unfold Acc.bidding
    split
    · unfold Acc.tot Acc.queued; simp only; omega
    · exact Int.le_refl _
  · unfold Acc.bidding
    split <;> rfl
theorem PS.bid_low {s : PS} (hl : s.Low) (a : Nat) (n : Int) : (s.bid a n).Low := fun b hb => by
  unfold PS.bid
  by_cases e : b = a
  · subst e
    rw [PS.setAcc_same]
    unfold Acc.bidding
    split
    · exact Int.le_refl _
    · show n ≤ (s.acc b).locked
      omega
  · rw [PS.setAcc_other _ _ e]; exact hl b hb
theorem PS.Good.send {s : PS} (h : s.Good) (a b : Nat) (ha : a < s.N) (hb : b < s.N) (n : Int) (h0 : 0 ≤ n) (hf : n ≤ (s.acc a).liquid) : (s.send a b n).Good := by
  have hN := h.N6
  have ht := s.take_tot a b n (by omega) (by omega)
  have hs : ∀ k, ((s.send a b n).acc k).shares = (s.acc k).shares := fun k => by
    unfold PS.send PS.take
    by_cases e1 : k = b
    · subst e1
      rw [PS.setAcc_same]
      by_cases e2 : k = a
      · subst e2; rw [PS.setAcc_same]
      · rw [PS.setAcc_other _ _ e2]
    · rw [PS.setAcc_other _ _ e1]
      by_cases e2 : k = a
      · subst e2; rw [PS.setAcc_same]
      · rw [PS.setAcc_other _ _ e2]
  have hpt : ∀ k, k < 7 → ((s.take a n).acc k).Pos := fun k hk => by
    have hp := h.pos k hk
    unfold PS.take
    by_cases e2 : k = a
    · subst e2; rw [PS.setAcc_same]; exact ⟨by show 0 ≤ (s.acc k).liquid - n; omega, hp.k0, hp.b0, hp.b1, hp.s0, hp.s1, hp.h0, hp.q0⟩
    · rw [PS.setAcc_other _ _ e2]; exact hp
  refine { N1 := h.N1, N6 := h.N6, e0 := h.e0, e1 := h.e1, seats := h.seats, delay := h.delay, rate := h.rate, cut := h.cut, length := h.length, need := h.need, rlen := h.rlen, pos := fun k hk => ?_, t0 := h.t0, sup := ?_, shr := ?_, far := fun k hk => ?_ }
  · have hp := hpt k hk
    unfold PS.send
    by_cases e1 : k = b
    · subst e1; rw [PS.setAcc_same]; exact ⟨by show 0 ≤ ((s.take a n).acc k).liquid + n; have := hp.l0; omega, hp.k0, hp.b0, hp.b1, hp.s0, hp.s1, hp.h0, hp.q0⟩
    · rw [PS.setAcc_other _ _ e1]; exact hp
  · have e2 := h.sup
    unfold PS.supply at *
    rw [ht]; exact e2
  · have e1 : (s.send a b n).allShares = s.allShares := sumTo_congr 7 (fun k _ => hs k)
    rw [e1]; exact h.shr
  · have hk2 : s.N < k := hk
    unfold PS.send PS.take
    rw [PS.setAcc_other _ _ (by omega), PS.setAcc_other _ _ (by omega)]
    exact h.far k hk2
theorem PS.send_low {s : PS} (hl : s.Low) (a b : Nat) (n : Int) : (s.send a b n).Low := fun k hk => by
  have := hl k hk
  unfold PS.send PS.take
  by_cases e1 : k = b
  · subst e1
    rw [PS.setAcc_same]
    by_cases e2 : k = a
    · subst e2; rw [PS.setAcc_same]; exact this
    · rw [PS.setAcc_other _ _ e2]; exact this
  · rw [PS.setAcc_other _ _ e1]
    by_cases e2 : k = a
    · subst e2; rw [PS.setAcc_same]; exact this
    · rw [PS.setAcc_other _ _ e2]; exact this
end Go.Proofs.Ytdfdjbhdgbbolaa
