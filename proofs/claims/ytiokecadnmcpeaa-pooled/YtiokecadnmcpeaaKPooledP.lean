import Derived.Test.YtiokecadnmcpeaaKMintP
namespace Go.Proofs.Ytiokecadnmcpeaa
set_option linter.unusedVariables false
set_option linter.unusedSimpArgs false

/-- A share's worth has not fallen. -/
def Worth (T S T' S' : Int) : Prop := S = 0 ∨ S' = 0 ∨ T * S' ≤ T' * S
theorem worth_deposit {T S n m : Int} (hT : 0 < T) (hS : 0 < S) (hn : 0 ≤ n) (hm : m = n * S / T) : T * (S + m) ≤ (T + n) * S := by
  have h := Int.mul_ediv_self_le (x := n * S) (k := T) (by omega)
  rw [← hm] at h
  rw [Int.mul_add, Int.add_mul]
  omega
theorem worth_leave {T S n m : Int} (hT : 0 ≤ T) (hS : 0 < S) (hn : 0 ≤ n) (hm : m = n * T / S) : T * (S - n) ≤ (T - m) * S := by
  have h := Int.mul_ediv_self_le (x := n * T) (k := S) (by omega)
  rw [← hm] at h
  rw [Int.mul_sub, Int.sub_mul]
  rw [Int.mul_comm T n, Int.mul_comm m S]
  omega

section
variable {s s' : PS} {o : StD} {er : Int}
/-- Nobody has been slashed. -/
def PS.Clean (s : PS) : Prop := ∀ a, (s.acc a).cheated = false
theorem PS.next_shares (I : s.Inv) (he : s.epoch ≤ 4611686018427387904) (seed : Int) : (s.next seed).allShares = s.allShares := (PS.PKeep.next I.good I.low he seed).shr
theorem PS.next_pool (I : s.Inv) (he : s.epoch ≤ 4611686018427387904) (c : s.Clean) (seed : Int) : (s.acc s.N).tot ≤ ((s.next seed).acc s.N).tot := by
  have hN := I.good.N6
  rw [PS.next_tot I.good I.low he seed s.N (by omega)]
  have g1 := I.good.p1
  have e1 : s.p1.acc s.N = s.acc s.N := by
    show (if s.N < 7 then burnF s.stand s.N (s.acc s.N) else s.acc s.N) = _
    rw [if_pos (by omega)]
    unfold burnF
    rw [if_neg]
    intro e
    have := (PS.stand_three s.N (I.che s.N)).1 e
    rw [c s.N] at this
    simp at this
  have hr := s.p1.rest_bd g1.toCf g1.sup0 g1.sup
  have hf := s.p1.fresh_bd g1.toCf g1.sup0 g1.sup
  have hs0 := g1.sup0
  have hp := s.p1.pays_bd g1.toCf s.stand hr.1 (by omega) s.N
  have e2 : s.p2.acc s.N = payF s.p1 s.stand s.p1.rest s.N (s.p1.acc s.N) := by
    show (if s.N < 7 then payF s.p1 s.stand s.p1.rest s.N (s.p1.acc s.N) else s.p1.acc s.N) = _
    rw [if_pos (by omega)]
  rw [e2, e1]
  unfold payF
  split
  · unfold Acc.tot Acc.queued Acc.reward; simp only; omega
  · exact Int.le_refl _
theorem PS.Did.worth (h : s.Did o er s') (I : s.Inv) (he : s.epoch ≤ 4611686018427387904) (c : s.Clean) (h5 : o.kind ≠ 5) : Worth (s.acc s.N).tot s.allShares (s'.acc s.N).tot s'.allShares ∧ s'.Clean := by
  have hN := I.good.N6
  have same : ∀ {t : PS}, (t.acc s.N).tot = (s.acc s.N).tot → t.allShares = s.allShares → Worth (s.acc s.N).tot s.allShares (t.acc s.N).tot t.allShares := fun e1 e2 => .inr (.inr (by rw [e1, e2]; exact Int.le_refl _))
  have hs0 : 0 ≤ s.allShares := (psum_le (fun a => (s.acc a).shares) 7 (fun k hk => (I.good.pos k hk).h0)).1
  have ht0 : 0 ≤ (s.acc s.N).tot := (I.good.pos s.N (by omega)).tot.1
  cases h using PS.Did.which with
  | no _ h => exact ⟨same rfl rfl, c⟩
  | idle => exact ⟨same rfl rfl, c⟩
  | send hk a b n ha hb h0 hf =>
    refine ⟨same ?_ (sumTo_congr 7 (fun i _ => (s.send_fields a b n i).2.2.2.2.1)), fun i => by rw [(s.send_fields a b n i).2.2.2.2.2.2]; exact c i⟩
    obtain ⟨f1, f2, f3, f4, f5, f6, f7⟩ := s.send_fields a b n s.N
    unfold Acc.tot Acc.queued
    rw [f1, f2, f6, if_neg (by omega), if_neg (by omega)]; omega
  | bid hk a n ha h0 h1 hf => exact ⟨same (s.bid_fields a n s.N).1 (sumTo_congr 7 (fun i _ => (s.bid_fields a n i).2.2.1)), fun i => by rw [(s.bid_fields a n i).2.2.2.2]; exact c i⟩
  | next hk =>
    refine ⟨.inr (.inr ?_), fun i => s.next_cheated I.good I.low he o.A i⟩
    rw [PS.next_shares I he o.A]
    exact Int.mul_le_mul_of_nonneg_right (PS.next_pool I he c o.A) hs0
  | make hk k hl => exact ⟨same rfl rfl, c⟩
  | slash hk a hA ha hz => exact absurd hk h5
  | deposit hk a n m ha h0 hf hm hm1 hs =>
    have e1 := (I.good.deposit ha n m (by omega) hf (by omega) hs).2
    have e2 := s.deposit_tot ha n m s.N
    rw [if_pos rfl, if_neg (by omega)] at e2
    refine ⟨?_, fun i => by rw [(s.deposit_fields ha n m i).2.2.2.2.2.2]; exact c i⟩
    by_cases e : s.allShares = 0
    · exact .inl e
    · rw [if_neg e] at hm
      refine .inr (.inr ?_)
      rw [e1, e2]
      have := worth_deposit (I.pool.purse (by omega)) (show 0 < s.allShares by omega) (show 0 ≤ n by omega) hm
      have e3 : (s.acc s.N).tot + n - 0 = (s.acc s.N).tot + n := by omega
      rw [e3]; exact this
  | leave hk a n ha h0 hf hm1 hs =>
    have hle : (s.acc a).shares ≤ s.allShares := (psum_le (fun a => (s.acc a).shares) 7 (fun k hk => (I.good.pos k hk).h0)).2 a (by omega)
    have e1 := (I.good.leave ha n (n * (s.acc s.N).tot / s.allShares) (by omega) hf (by omega) hs).2
    have e2 := s.leave_tot ha I.good.delay n (n * (s.acc s.N).tot / s.allShares) s.N
    rw [if_pos rfl, if_neg (by omega)] at e2
    refine ⟨.inr (.inr ?_), fun i => by rw [(s.leave_fields ha n _ i).2.2.2.2.2.2]; exact c i⟩
    rw [e1, e2]
    have := worth_leave ht0 (show 0 < s.allShares by omega) (show 0 ≤ n by omega) (rfl : n * (s.acc s.N).tot / s.allShares = _)
    have e3 : (s.acc s.N).tot + 0 - n * (s.acc s.N).tot / s.allShares = (s.acc s.N).tot - n * (s.acc s.N).tot / s.allShares := by omega
    rw [e3]; exact this
end
end Go.Proofs.Ytiokecadnmcpeaa
