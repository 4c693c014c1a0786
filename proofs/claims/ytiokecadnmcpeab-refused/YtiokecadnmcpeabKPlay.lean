import Derived.Test.YtiokecadnmcpeabKRead
import Derived.Test.YtiokecadnmcpeabPMake
namespace Go.Proofs.Ytiokecadnmcpeab
set_option linter.unusedVariables false
set_option linter.unusedSimpArgs false
open Go.ChangeShapes Go.WideShapes Go.ChangeAt Go.RowKit

theorem wfk {n : Int} (h : (Lit.int .i64 n).wf = true) : -9223372036854775808 ≤ n ∧ n ≤ 9223372036854775807 := by
  simp only [Lit.wf, IntKind.min, IntKind.max, IntKind.signed, IntKind.bits, Bool.and_eq_true, decide_eq_true_eq, if_true] at h
  omega

/-- What holds of a chain behind whatever calls. -/
structure PS.Inv (s : PS) : Prop where
  good : s.Good
  low : s.Low
  pool : s.PoolOk
  che : ∀ a, (s.acc a).cheated = true → 1 ≤ (s.acc a).seats

/-- What a step does: its error, and the chain behind it. -/
def PS.Did (s : PS) (o : StD) (er : Int) (s' : PS) : Prop :=
  (er ≠ 0 ∧ s' = s) ∨ (o.kind ≠ 3 ∧ o.kind ≠ 5 ∧ er = 0 ∧ s' = s) ∨
  (o.kind = 1 ∧ ∃ (a b : Nat) (n : Int), a < s.N ∧ b < s.N ∧ 1 ≤ n ∧ n ≤ (s.acc a).liquid ∧ er = 0 ∧ s' = s.send a b n) ∨
  (o.kind = 2 ∧ ∃ (a : Nat) (n : Int), a < s.N ∧ 0 ≤ n ∧ n ≤ 1000000000 ∧ n - (s.acc a).locked ≤ (s.acc a).liquid ∧ er = 0 ∧ s' = s.bid a n) ∨
  (o.kind = 3 ∧ er = 0 ∧ s' = s.next o.A) ∨
  (o.kind = 4 ∧ ∃ k : Nat, (k : Int) ≤ s.length - 1 ∧ er = 0 ∧ s' = s.make k) ∨
  (o.kind = 5 ∧ ∃ a : Nat, o.A = a ∧ a ≤ s.N ∧ 1 ≤ (s.acc a).seats ∧ er = 0 ∧ s' = s.slash a) ∨
  (o.kind = 6 ∧ ∃ (a : Nat) (n m : Int), a < s.N ∧ 1 ≤ n ∧ n ≤ (s.acc a).liquid ∧ (m = if s.allShares = 0 then n else n * s.allShares / (s.acc s.N).tot) ∧ 1 ≤ m ∧ s.allShares + m ≤ 1000000000 ∧ er = 0 ∧ s' = s.deposit a n m) ∨
  (o.kind = 7 ∧ ∃ (a : Nat) (n : Int), a < s.N ∧ 1 ≤ n ∧ n ≤ (s.acc a).shares ∧ 1 ≤ n * (s.acc s.N).tot / s.allShares ∧ n * (s.acc s.N).tot / s.allShares ≤ (s.acc s.N).locked ∧ er = 0 ∧ s' = s.leave a n (n * (s.acc s.N).tot / s.allShares))
section
variable {s : PS} {o : StD}
theorem PS.Did.no (er : Int) (h : er ≠ 0) : s.Did o er s := .inl ⟨h, rfl⟩
theorem PS.Did.idle (h3 : o.kind ≠ 3) (h5 : o.kind ≠ 5) : s.Did o 0 s := .inr (.inl ⟨h3, h5, rfl, rfl⟩)
theorem PS.Did.send (hk : o.kind = 1) (a b : Nat) (n : Int) (ha : a < s.N) (hb : b < s.N) (h0 : 1 ≤ n) (hf : n ≤ (s.acc a).liquid) : s.Did o 0 (s.send a b n) := .inr (.inr (.inl ⟨hk, a, b, n, ha, hb, h0, hf, rfl, rfl⟩))
theorem PS.Did.bid (hk : o.kind = 2) (a : Nat) (n : Int) (ha : a < s.N) (h0 : 0 ≤ n) (h1 : n ≤ 1000000000) (hf : n - (s.acc a).locked ≤ (s.acc a).liquid) : s.Did o 0 (s.bid a n) := .inr (.inr (.inr (.inl ⟨hk, a, n, ha, h0, h1, hf, rfl, rfl⟩)))
theorem PS.Did.next (hk : o.kind = 3) : s.Did o 0 (s.next o.A) := .inr (.inr (.inr (.inr (.inl ⟨hk, rfl, rfl⟩))))
theorem PS.Did.make (hk : o.kind = 4) (k : Nat) (hl : (k : Int) ≤ s.length - 1) : s.Did o 0 (s.make k) := .inr (.inr (.inr (.inr (.inr (.inl ⟨hk, k, hl, rfl, rfl⟩)))))
theorem PS.Did.slash (hk : o.kind = 5) (a : Nat) (hA : o.A = a) (ha : a ≤ s.N) (hz : 1 ≤ (s.acc a).seats) : s.Did o 0 (s.slash a) := .inr (.inr (.inr (.inr (.inr (.inr (.inl ⟨hk, a, hA, ha, hz, rfl, rfl⟩))))))
theorem PS.Did.deposit (hk : o.kind = 6) (a : Nat) (n m : Int) (ha : a < s.N) (h0 : 1 ≤ n) (hf : n ≤ (s.acc a).liquid) (hm : m = if s.allShares = 0 then n else n * s.allShares / (s.acc s.N).tot) (hm1 : 1 ≤ m) (hs : s.allShares + m ≤ 1000000000) : s.Did o 0 (s.deposit a n m) := .inr (.inr (.inr (.inr (.inr (.inr (.inr (.inl ⟨hk, a, n, m, ha, h0, hf, hm, hm1, hs, rfl, rfl⟩)))))))
theorem PS.Did.leave (hk : o.kind = 7) (a : Nat) (n : Int) (ha : a < s.N) (h0 : 1 ≤ n) (hf : n ≤ (s.acc a).shares) (hm1 : 1 ≤ n * (s.acc s.N).tot / s.allShares) (hs : n * (s.acc s.N).tot / s.allShares ≤ (s.acc s.N).locked) : s.Did o 0 (s.leave a n (n * (s.acc s.N).tot / s.allShares)) := .inr (.inr (.inr (.inr (.inr (.inr (.inr (.inr ⟨hk, a, n, ha, h0, hf, hm1, hs, rfl, rfl⟩)))))))
/-- Which it was. -/
theorem PS.Did.which {motive : (er : Int) → (s' : PS) → s.Did o er s' → Prop} (no : ∀ (er : Int) (h : er ≠ 0), motive er s (.no er h)) (idle : ∀ (h3 : o.kind ≠ 3) (h5 : o.kind ≠ 5), motive 0 s (.idle h3 h5))
    (send : ∀ (hk : o.kind = 1) (a b : Nat) (n : Int) (ha : a < s.N) (hb : b < s.N) (h0 : 1 ≤ n) (hf : n ≤ (s.acc a).liquid), motive 0 (s.send a b n) (.send hk a b n ha hb h0 hf))
    (bid : ∀ (hk : o.kind = 2) (a : Nat) (n : Int) (ha : a < s.N) (h0 : 0 ≤ n) (h1 : n ≤ 1000000000) (hf : n - (s.acc a).locked ≤ (s.acc a).liquid), motive 0 (s.bid a n) (.bid hk a n ha h0 h1 hf))
    (next : ∀ (hk : o.kind = 3), motive 0 (s.next o.A) (.next hk))
    (make : ∀ (hk : o.kind = 4) (k : Nat) (hl : (k : Int) ≤ s.length - 1), motive 0 (s.make k) (.make hk k hl))
    (slash : ∀ (hk : o.kind = 5) (a : Nat) (hA : o.A = a) (ha : a ≤ s.N) (hz : 1 ≤ (s.acc a).seats), motive 0 (s.slash a) (.slash hk a hA ha hz))
    (deposit : ∀ (hk : o.kind = 6) (a : Nat) (n m : Int) (ha : a < s.N) (h0 : 1 ≤ n) (hf : n ≤ (s.acc a).liquid) (hm : m = if s.allShares = 0 then n else n * s.allShares / (s.acc s.N).tot) (hm1 : 1 ≤ m) (hs : s.allShares + m ≤ 1000000000), motive 0 (s.deposit a n m) (.deposit hk a n m ha h0 hf hm hm1 hs))
    (leave : ∀ (hk : o.kind = 7) (a : Nat) (n : Int) (ha : a < s.N) (h0 : 1 ≤ n) (hf : n ≤ (s.acc a).shares) (hm1 : 1 ≤ n * (s.acc s.N).tot / s.allShares) (hs : n * (s.acc s.N).tot / s.allShares ≤ (s.acc s.N).locked), motive 0 (s.leave a n (n * (s.acc s.N).tot / s.allShares)) (.leave hk a n ha h0 hf hm1 hs))
    {er : Int} {s' : PS} (h : s.Did o er s') : motive er s' h := by
  have h' := h
  rcases h' with ⟨h1, rfl⟩ | ⟨h3, h5, rfl, rfl⟩ | ⟨hk, a, b, n, ha, hb, h0, hf, rfl, rfl⟩ | ⟨hk, a, n, ha, h0, h1, hf, rfl, rfl⟩ | ⟨hk, rfl, rfl⟩ | ⟨hk, k, hl, rfl, rfl⟩ | ⟨hk, a, hA, ha, hz, rfl, rfl⟩ | ⟨hk, a, n, m, ha, h0, hf, hm, hm1, hs, rfl, rfl⟩ | ⟨hk, a, n, ha, h0, hf, hm1, hs, rfl, rfl⟩
  · exact no _ h1
  · exact idle h3 h5
  · exact send hk a b n ha hb h0 hf
  · exact bid hk a n ha h0 h1 hf
  · exact next hk
  · exact make hk k hl
  · exact slash hk a hA ha hz
  · exact deposit hk a n m ha h0 hf hm hm1 hs
  · exact leave hk a n ha h0 hf hm1 hs
end

/-- What no step but Next changes. -/
structure PS.Kept (s s' : PS) : Prop where
  N : s'.N = s.N
  seats : s'.seats = s.seats
  delay : s'.delay = s.delay
  rate : s'.rate = s.rate
  cut : s'.cut = s.cut
  length : s'.length = s.length
  need : s'.need = s.need
  epoch : s'.epoch = s.epoch
  price : s'.price = s.price
  treasury : s'.treasury = s.treasury
  row : s'.row = s.row
  rlen : s'.rlen = s.rlen
  sup : s'.supply = s.supply
  has : ∀ a, (s'.acc a).seats = (s.acc a).seats
theorem PS.Kept.refl (s : PS) : s.Kept s := ⟨rfl, rfl, rfl, rfl, rfl, rfl, rfl, rfl, rfl, rfl, rfl, rfl, rfl, fun _ => rfl⟩

theorem PS.send_fields (s : PS) (a b : Nat) (n : Int) (i : Nat) : ((s.send a b n).acc i).liquid = (s.acc i).liquid + (if i = b then n else 0) - (if i = a then n else 0) ∧ ((s.send a b n).acc i).locked = (s.acc i).locked ∧ ((s.send a b n).acc i).bid = (s.acc i).bid ∧ ((s.send a b n).acc i).seats = (s.acc i).seats ∧ ((s.send a b n).acc i).shares = (s.acc i).shares ∧ ((s.send a b n).acc i).q = (s.acc i).q ∧ ((s.send a b n).acc i).cheated = (s.acc i).cheated := by
  unfold PS.send PS.take
  by_cases e1 : i = b
  · subst e1
    rw [PS.setAcc_same, if_pos rfl]
    by_cases e2 : i = a
    · subst e2; rw [PS.setAcc_same, if_pos rfl]; refine ⟨?_, rfl, rfl, rfl, rfl, rfl, rfl⟩; show (s.acc i).liquid - n + n = _; omega
    · rw [PS.setAcc_other _ _ e2, if_neg e2]; refine ⟨?_, rfl, rfl, rfl, rfl, rfl, rfl⟩; show (s.acc i).liquid + n = _; omega
  · rw [PS.setAcc_other _ _ e1, if_neg e1]
    by_cases e2 : i = a
    · subst e2; rw [PS.setAcc_same, if_pos rfl]; refine ⟨?_, rfl, rfl, rfl, rfl, rfl, rfl⟩; show (s.acc i).liquid - n = _; omega
    · rw [PS.setAcc_other _ _ e2, if_neg e2]; refine ⟨?_, rfl, rfl, rfl, rfl, rfl, rfl⟩; omega
theorem PS.bid_fields (s : PS) (a : Nat) (n : Int) (i : Nat) : ((s.bid a n).acc i).tot = (s.acc i).tot ∧ ((s.bid a n).acc i).seats = (s.acc i).seats ∧ ((s.bid a n).acc i).shares = (s.acc i).shares ∧ ((s.bid a n).acc i).q = (s.acc i).q ∧ ((s.bid a n).acc i).cheated = (s.acc i).cheated := by
  unfold PS.bid
  by_cases e : i = a
  · subst e
    rw [PS.setAcc_same]
    unfold Acc.bidding
    split
    · refine ⟨?_, rfl, rfl, rfl, rfl⟩
      unfold Acc.tot Acc.queued; simp only; omega
    · exact ⟨rfl, rfl, rfl, rfl, rfl⟩
  · rw [PS.setAcc_other _ _ e]; exact ⟨rfl, rfl, rfl, rfl, rfl⟩

section
variable {s s' : PS} {o : StD} {er : Int}

theorem PS.Did.kept (h : s.Did o er s') (I : s.Inv) (hk3 : o.kind ≠ 3) : s.Kept s' := by
  have hN := I.good.N6
  cases h using PS.Did.which with
  | no _ h => exact PS.Kept.refl s
  | idle => exact PS.Kept.refl s
  | send hk a b n ha hb h0 hf =>
    refine ⟨rfl, rfl, rfl, rfl, rfl, rfl, rfl, rfl, rfl, rfl, rfl, rfl, ?_, fun i => (s.send_fields a b n i).2.2.2.1⟩
    unfold PS.supply
    rw [s.take_tot a b n (by omega) (by omega)]; rfl
  | bid hk a n ha h0 h1 hf =>
    refine ⟨rfl, rfl, rfl, rfl, rfl, rfl, rfl, rfl, rfl, rfl, rfl, rfl, ?_, fun i => (s.bid_fields a n i).2.1⟩
    unfold PS.supply
    rw [sumTo_congr 7 (fun i _ => (s.bid_fields a n i).1)]; rfl
  | next hk => exact absurd hk hk3
  | make hk k hl => exact ⟨rfl, rfl, rfl, rfl, rfl, rfl, rfl, rfl, rfl, rfl, rfl, rfl, rfl, fun i => rfl⟩
  | slash hk a hA ha hz =>
    refine ⟨rfl, rfl, rfl, rfl, rfl, rfl, rfl, rfl, rfl, rfl, rfl, rfl, ?_, fun i => (PS.slash_fields s a i).2.2.2.1⟩
    unfold PS.supply
    rw [sumTo_congr (g := fun i => (s.acc i).tot) 7 (fun i _ => by
      obtain ⟨f1, f2, f3, f4, f5, f6, f7⟩ := PS.slash_fields s a i
      unfold Acc.tot Acc.queued; rw [f1, f2, f6])]; rfl
  | deposit hk a n m ha h0 hf hm hm1 hs =>
    refine ⟨rfl, rfl, rfl, rfl, rfl, rfl, rfl, rfl, rfl, rfl, rfl, rfl, ?_, fun i => (s.deposit_fields ha n m i).2.2.2.2.1⟩
    unfold PS.supply
    rw [sumTo_congr 7 (fun i _ => s.deposit_tot ha n m i), psum_sub, psum_add, psum_pick, psum_pick, if_pos (by omega), if_pos (by omega)]
    show s.treasury + _ = _
    omega
  | leave hk a n ha h0 hf hm1 hs =>
    refine ⟨rfl, rfl, rfl, rfl, rfl, rfl, rfl, rfl, rfl, rfl, rfl, rfl, ?_, fun i => (s.leave_fields ha n _ i).2.2.2.2.1⟩
    unfold PS.supply
    rw [sumTo_congr 7 (fun i _ => s.leave_tot ha I.good.delay n _ i), psum_sub, psum_add, psum_pick, psum_pick, if_pos (by omega), if_pos (by omega)]
    show s.treasury + _ = _
    omega

theorem PS.next_cheated (s : PS) (h : s.Good) (hl : s.Low) (he : s.epoch ≤ 4611686018427387904) (seed : Int) (a : Nat) : ((s.next seed).acc a).cheated = false := by
  by_cases ha : a < 7
  · have := (s.p7.draw_kept seed).2.2.2.2.2.2.2.2.2.2.2 a ha
    show ((s.p7.draw seed).acc a).cheated = false
    rw [this]
  · have hg := PS.Good.next h hl he seed
    rw [hg.far a (by have := hg.N6; omega)]; rfl

theorem PS.Did.inv (h : s.Did o er s') (I : s.Inv) (he : s.epoch ≤ 4611686018427387904) : s'.Inv := by
  have hN := I.good.N6
  cases h using PS.Did.which with
  | no _ h => exact I
  | idle => exact I
  | send hk a b n ha hb h0 hf =>
    refine ⟨I.good.send a b ha hb n (by omega) hf, PS.send_low I.low a b n, I.pool.send ha hb n, fun i hc => ?_⟩
    obtain ⟨f1, f2, f3, f4, f5, f6, f7⟩ := s.send_fields a b n i
    rw [f7] at hc; rw [f4]; exact I.che i hc
  | bid hk a n ha h0 h1 hf =>
    refine ⟨I.good.bid a ha n h0 h1 hf, PS.bid_low I.low a n, I.pool.bids ha n, fun i hc => ?_⟩
    obtain ⟨f1, f2, f3, f4, f5⟩ := s.bid_fields a n i
    rw [f5] at hc; rw [f2]; exact I.che i hc
  | next hk => exact ⟨PS.Good.next I.good I.low he _, PS.next_low I.good I.low he _, I.pool.next I.good I.low he _, fun i hc => by rw [s.next_cheated I.good I.low he o.A i] at hc; simp at hc⟩
  | make hk k hl => exact ⟨I.good.make k, PS.make_low I.low k, I.pool.make k, I.che⟩
  | slash hk a hA ha hz =>
    refine ⟨I.good.slash a ha, PS.slash_low I.low a, I.pool.slash a, fun i hc => ?_⟩
    obtain ⟨f1, f2, f3, f4, f5, f6, f7⟩ := PS.slash_fields s a i
    rw [f7] at hc; rw [f4]
    by_cases e : i = a
    · subst e; exact hz
    · rw [if_neg e] at hc; exact I.che i hc
  | deposit hk a n m ha h0 hf hm hm1 hs =>
    refine ⟨(I.good.deposit ha n m (by omega) hf (by omega) hs).1, PS.deposit_low I.low ha n m (by omega), I.pool.deposit I.good ha n m h0, fun i hc => ?_⟩
    obtain ⟨f1, f2, f3, f4, f5, f6, f7⟩ := s.deposit_fields ha n m i
    rw [f7] at hc; rw [f5]; exact I.che i hc
  | leave hk a n ha h0 hf hm1 hs =>
    refine ⟨(I.good.leave ha n _ (by omega) hf (by omega) hs).1, PS.leave_low I.low I.pool ha n _ hs, I.pool.leave I.good ha n h0 hf hs, fun i hc => ?_⟩
    obtain ⟨f1, f2, f3, f4, f5, f6, f7⟩ := s.leave_fields ha n (n * (s.acc s.N).tot / s.allShares) i
    rw [f7] at hc; rw [f5]; exact I.che i hc
theorem PS.p7_num (s : PS) : s.p7.N = s.N ∧ s.p7.seats = s.seats ∧ s.p7.delay = s.delay ∧ s.p7.rate = s.rate ∧ s.p7.cut = s.cut ∧ s.p7.length = s.length ∧ s.p7.need = s.need ∧ s.p7.epoch = s.epoch + 1 := by
  have a01 : s.p1.N = s.N := rfl
  have a02 : s.p2.N = s.p1.N := rfl
  have a03 : s.p3.N = s.p2.N := rfl
  have a04 : s.p4.N = s.p3.N := rfl
  have a05 : s.p5.N = s.p4.N := rfl
  have a06 : s.p6.N = s.p5.N := rfl
  have a07 : s.p7.N = s.p6.N := rfl
  have a11 : s.p1.seats = s.seats := rfl
  have a12 : s.p2.seats = s.p1.seats := rfl
  have a13 : s.p3.seats = s.p2.seats := rfl
  have a14 : s.p4.seats = s.p3.seats := rfl
  have a15 : s.p5.seats = s.p4.seats := rfl
  have a16 : s.p6.seats = s.p5.seats := rfl
  have a17 : s.p7.seats = s.p6.seats := rfl
  have a21 : s.p1.delay = s.delay := rfl
  have a22 : s.p2.delay = s.p1.delay := rfl
  have a23 : s.p3.delay = s.p2.delay := rfl
  have a24 : s.p4.delay = s.p3.delay := rfl
  have a25 : s.p5.delay = s.p4.delay := rfl
  have a26 : s.p6.delay = s.p5.delay := rfl
  have a27 : s.p7.delay = s.p6.delay := rfl
  have a31 : s.p1.rate = s.rate := rfl
  have a32 : s.p2.rate = s.p1.rate := rfl
  have a33 : s.p3.rate = s.p2.rate := rfl
  have a34 : s.p4.rate = s.p3.rate := rfl
  have a35 : s.p5.rate = s.p4.rate := rfl
  have a36 : s.p6.rate = s.p5.rate := rfl
  have a37 : s.p7.rate = s.p6.rate := rfl
  have a41 : s.p1.cut = s.cut := rfl
  have a42 : s.p2.cut = s.p1.cut := rfl
  have a43 : s.p3.cut = s.p2.cut := rfl
  have a44 : s.p4.cut = s.p3.cut := rfl
  have a45 : s.p5.cut = s.p4.cut := rfl
  have a46 : s.p6.cut = s.p5.cut := rfl
  have a47 : s.p7.cut = s.p6.cut := rfl
  have a51 : s.p1.length = s.length := rfl
  have a52 : s.p2.length = s.p1.length := rfl
  have a53 : s.p3.length = s.p2.length := rfl
  have a54 : s.p4.length = s.p3.length := rfl
  have a55 : s.p5.length = s.p4.length := rfl
  have a56 : s.p6.length = s.p5.length := rfl
  have a57 : s.p7.length = s.p6.length := rfl
  have a61 : s.p1.need = s.need := rfl
  have a62 : s.p2.need = s.p1.need := rfl
  have a63 : s.p3.need = s.p2.need := rfl
  have a64 : s.p4.need = s.p3.need := rfl
  have a65 : s.p5.need = s.p4.need := rfl
  have a66 : s.p6.need = s.p5.need := rfl
  have a67 : s.p7.need = s.p6.need := rfl
  have a71 : s.p1.epoch = s.epoch := rfl
  have a72 : s.p2.epoch = s.p1.epoch := rfl
  have a73 : s.p3.epoch = s.p2.epoch := rfl
  have a74 : s.p4.epoch = s.p3.epoch + 1 := rfl
  have a75 : s.p5.epoch = s.p4.epoch := rfl
  have a76 : s.p6.epoch = s.p5.epoch := rfl
  have a77 : s.p7.epoch = s.p6.epoch := rfl
  refine ⟨?_, ?_, ?_, ?_, ?_, ?_, ?_, ?_⟩
  · rw [a07, a06, a05, a04, a03, a02, a01]
  · rw [a17, a16, a15, a14, a13, a12, a11]
  · rw [a27, a26, a25, a24, a23, a22, a21]
  · rw [a37, a36, a35, a34, a33, a32, a31]
  · rw [a47, a46, a45, a44, a43, a42, a41]
  · rw [a57, a56, a55, a54, a53, a52, a51]
  · rw [a67, a66, a65, a64, a63, a62, a61]
  · rw [a77, a76, a75, a74, a73, a72, a71]
theorem PS.next_num (s : PS) (seed : Int) : (s.next seed).N = s.N ∧ (s.next seed).seats = s.seats ∧ (s.next seed).delay = s.delay ∧ (s.next seed).rate = s.rate ∧ (s.next seed).cut = s.cut ∧ (s.next seed).length = s.length ∧ (s.next seed).need = s.need ∧ (s.next seed).epoch = s.epoch + 1 := by
  obtain ⟨k0, k1, k2, k3, k4, k5, k6, k7, k8, k9, k10, k11⟩ := s.p7.draw_kept seed
  have e : s.next seed = s.p7.draw seed := rfl
  obtain ⟨g0, g1, g2, g3, g4, g5, g6, g7⟩ := s.p7_num
  rw [e, k0, k1, k2, k3, k4, k5, k6, k7]
  exact ⟨g0, g1, g2, g3, g4, g5, g6, g7⟩
/-- The rules stay; the epoch goes on by one at most. -/
theorem PS.Did.num (h : s.Did o er s') (I : s.Inv) : s'.N = s.N ∧ s'.seats = s.seats ∧ s'.delay = s.delay ∧ s'.rate = s.rate ∧ s'.cut = s.cut ∧ s'.length = s.length ∧ s'.need = s.need ∧ s'.epoch ≤ s.epoch + 1 := by
  by_cases hk : o.kind = 3
  · cases h using PS.Did.which with
    | no _ h => exact ⟨rfl, rfl, rfl, rfl, rfl, rfl, rfl, by omega⟩
    | next h =>
      obtain ⟨k0, k1, k2, k3, k4, k5, k6, k7⟩ := s.next_num o.A
      exact ⟨k0, k1, k2, k3, k4, k5, k6, by omega⟩
    | idle h1 => exact absurd hk h1
    | _ => omega
  · have k := h.kept I hk
    exact ⟨k.N, k.seats, k.delay, k.rate, k.cut, k.length, k.need, by have := k.epoch; omega⟩
end

section
variable {x : Nat} {s : PS}

theorem send_do (I : s.Inv) (o : StD) (hk : o.kind = 1) : ∃ er s', s.Did o er s' ∧ ∀ W, SC W x s → Calls Try.prog 10 #[.pointer (some ⟨x, 0, none⟩), .int .i64 o.A, .int .i64 o.B, .int .i64 o.C] W fun e W' => e = .returned (.int .i64 er) ∧ PTo W x W' s' := by
  have ok := I.good.ok
  by_cases hab : ¬ (0 ≤ o.A ∧ o.A ≤ (s.N : Int) - 1) ∨ ¬ (0 ≤ o.B ∧ o.B ≤ (s.N : Int) - 1)
  · exact ⟨2, s, .no _ (by omega), fun W hS => (send_name hS ok _ _ _ hab).mono (fun e W' ⟨h1, h2⟩ => ⟨h1, PTo.ofBelow hS h2⟩)⟩
  · have ha : 0 ≤ o.A ∧ o.A ≤ (s.N : Int) - 1 := by omega
    have hb : 0 ≤ o.B ∧ o.B ≤ (s.N : Int) - 1 := by omega
    by_cases hn : 1 ≤ o.C ∧ o.C ≤ 1000000000
    · obtain ⟨i, hi⟩ := Int.eq_ofNat_of_zero_le ha.1
      obtain ⟨j, hj⟩ := Int.eq_ofNat_of_zero_le hb.1
      rw [hi] at ha ⊢
      rw [hj] at hb ⊢
      by_cases hf : (s.acc i).liquid < o.C
      · exact ⟨4, s, .no _ (by omega), fun W hS => (send_funds hS ok i j _ (by omega) (by omega) hn.1 hn.2 hf).mono (fun e W' ⟨h1, h2⟩ => ⟨h1, PTo.ofBelow hS h2⟩)⟩
      · exact ⟨0, _, .send hk i j o.C (by omega) (by omega) hn.1 (by omega), fun W hS => send_ok hS ok i j _ (by omega) (by omega) hn.1 hn.2 hf⟩
    · exact ⟨3, s, .no _ (by omega), fun W hS => (send_amount hS ok _ _ _ ha.1 (by omega) hb.1 (by omega) hn).mono (fun e W' ⟨h1, h2⟩ => ⟨h1, PTo.ofBelow hS h2⟩)⟩

theorem bid_do (I : s.Inv) (o : StD) (hk : o.kind = 2) : ∃ er s', s.Did o er s' ∧ ∀ W, SC W x s → Calls Try.prog 18 #[.pointer (some ⟨x, 0, none⟩), .int .i64 o.A, .int .i64 o.B] W fun e W' => e = .returned (.int .i64 er) ∧ PTo W x W' s' := by
  have ok := I.good.ok
  by_cases ha : 0 ≤ o.A ∧ o.A ≤ (s.N : Int) - 1
  · by_cases hn : 0 ≤ o.B ∧ o.B ≤ 1000000000
    · obtain ⟨i, hi⟩ := Int.eq_ofNat_of_zero_le ha.1
      rw [hi] at ha ⊢
      by_cases hf : (s.acc i).liquid < o.B - (s.acc i).locked
      · exact ⟨4, s, .no _ (by omega), fun W hS => (bid_funds hS ok i _ (by omega) hn.1 hn.2 hf).mono (fun e W' ⟨h1, h2⟩ => ⟨h1, PTo.ofBelow hS h2⟩)⟩
      · exact ⟨0, _, .bid hk i o.B (by omega) hn.1 hn.2 (by omega), fun W hS => bid_ok hS ok i _ (by omega) hn.1 hn.2 (by omega)⟩
    · exact ⟨3, s, .no _ (by omega), fun W hS => (bid_amount hS ok _ _ ha.1 (by omega) hn).mono (fun e W' ⟨h1, h2⟩ => ⟨h1, PTo.ofBelow hS h2⟩)⟩
  · exact ⟨2, s, .no _ (by omega), fun W hS => (bid_name hS ok _ _ ha).mono (fun e W' ⟨h1, h2⟩ => ⟨h1, PTo.ofBelow hS h2⟩)⟩

theorem next_do (I : s.Inv) (he : s.epoch ≤ 4611686018427387904) (o : StD) (ok : o.Ok) (hk : o.kind = 3) : ∃ er s', s.Did o er s' ∧ ∀ W, SC W x s → Calls Try.prog 11 #[.pointer (some ⟨x, 0, none⟩), .int .i64 o.A] W fun e W' => e = .returned (.int .i64 er) ∧ PTo W x W' s' :=
  ⟨0, _, .next hk, fun W hS => next_ok hS (PS.Good.nextOk I.good I.low he) _ (wfk ok.wA).1 (wfk ok.wA).2⟩

theorem make_do (I : s.Inv) (o : StD) (hk : o.kind = 4) : ∃ er s', s.Did o er s' ∧ ∀ W, SC W x s → Calls Try.prog 19 #[.pointer (some ⟨x, 0, none⟩), .int .i64 o.A] W fun e W' => e = .returned (.int .i64 er) ∧ PTo W x W' s' := by
  have pf := I.good.toCf
  by_cases ha : 0 ≤ o.A ∧ o.A ≤ s.length - 1
  · obtain ⟨n, hn⟩ := Int.eq_ofNat_of_zero_le ha.1
    rw [hn] at ha ⊢
    by_cases hz : s.rlen = 0
    · exact ⟨11, s, .no _ (by omega), fun W hS => (make_none hS pf n ha.1 ha.2 hz).mono (fun e W' ⟨h1, h2⟩ => ⟨h1, PTo.ofBelow hS h2⟩)⟩
    · by_cases hb : s.blocks n = true
      · exact ⟨12, s, .no _ (by omega), fun W hS => (make_again hS pf n ha.2 (by omega) hb).mono (fun e W' ⟨h1, h2⟩ => ⟨h1, PTo.ofBelow hS h2⟩)⟩
      · exact ⟨0, _, .make hk n ha.2, fun W hS => make_ok hS pf n ha.2 (by omega) (by simpa using hb)⟩
  · exact ⟨10, s, .no _ (by omega), fun W hS => (make_height hS pf _ ha).mono (fun e W' ⟨h1, h2⟩ => ⟨h1, PTo.ofBelow hS h2⟩)⟩

theorem slash_do (I : s.Inv) (o : StD) (hk : o.kind = 5) : ∃ er s', s.Did o er s' ∧ ∀ W, SC W x s → Calls Try.prog 20 #[.pointer (some ⟨x, 0, none⟩), .int .i64 o.A] W fun e W' => e = .returned (.int .i64 er) ∧ PTo W x W' s' := by
  have pf := I.good.toCf
  by_cases ha : 0 ≤ o.A ∧ o.A ≤ (s.N : Int)
  · obtain ⟨n, hn⟩ := Int.eq_ofNat_of_zero_le ha.1
    have hn2 := hn
    rw [hn] at ha ⊢
    by_cases hz : (s.acc n).seats < 1
    · exact ⟨11, s, .no _ (by omega), fun W hS => (slash_none hS pf n (by omega) hz).mono (fun e W' ⟨h1, h2⟩ => ⟨h1, PTo.ofBelow hS h2⟩)⟩
    · exact ⟨0, _, .slash hk n hn2 (by omega) (by omega), fun W hS => slash_ok hS pf n (by omega) hz⟩
  · exact ⟨2, s, .no _ (by omega), fun W hS => (slash_name hS _ ha).mono (fun e W' ⟨h1, h2⟩ => ⟨h1, PTo.ofBelow hS h2⟩)⟩
end
end Go.Proofs.Ytiokecadnmcpeab
