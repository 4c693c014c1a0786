import Derived.Test.YtiokecadnmcpeabAgB
import Derived.Test.YtiokecadnmcpeabRefD
namespace Go.Proofs.Ytiokecadnmcpeab
set_option linter.unusedVariables false
set_option linter.unusedSimpArgs false

section
variable {s : PS} {r : RS}

theorem getD_set_bool (l : List Bool) (k i : Nat) (hk : k < l.length) : (l.set k true).getD i false = if i = k then true else l.getD i false := by
  by_cases e : i = k
  · subst e; simp [List.getD, hk]
  · rw [if_neg e]; simp [List.getD, List.getElem?_set_ne (fun h => e h.symm)]

/-- A Make. -/
theorem Ag.make (h : Ag s r) (k : Nat) (hk : (k : Int) < r.length) : Ag (s.make k) { r with made := r.made.set k true } := by
  have hml := h.ml
  exact { h with
    good := h.good.make k
    low := PS.make_low h.low k
    pool := h.pool.make k
    bk := h.bk.same rfl rfl rfl (fun i hi => ⟨rfl, rfl, rfl, rfl⟩)
    ml := by show ((r.made.set k true).length : Int) = r.length; rw [List.length_set]; exact hml
    made := fun i hi => by
      show (r.made.set k true).getD i false = if i = k then true else s.blocks i
      rw [getD_set_bool _ _ _ (by omega), h.made i hi] }

/-- A Slash. -/
theorem Ag.slash (h : Ag s r) (a : Nat) (ha : a ≤ s.N) (hz : 1 ≤ (s.acc a).seats) : Ag (s.slash a) { r with cheat := r.cheat.set a true } := by
  have hcl := h.cl
  exact { h with
    good := h.good.slash a ha
    low := PS.slash_low h.low a
    pool := h.pool.slash a
    che := fun i hc => by
      obtain ⟨f1, f2, f3, f4, f5, f6, f7⟩ := PS.slash_fields s a i
      rw [f7] at hc
      rw [f4]
      by_cases e : i = a
      · subst e; exact hz
      · rw [if_neg e] at hc; exact h.che i hc
    bk := h.bk.same rfl rfl rfl (fun i hi => by
      obtain ⟨f1, f2, f3, f4, f5, f6, f7⟩ := PS.slash_fields s a i
      exact ⟨f1, f2, f5, f6⟩)
    bid := fun i hi => by rw [(PS.slash_fields s a i).2.2.1]; exact h.bid i hi
    has := fun i hi => by rw [(PS.slash_fields s a i).2.2.2.1]; exact h.has i hi
    cl := by show (r.cheat.set a true).length = s.N + 1; rw [List.length_set]; exact hcl
    cheat := fun i hi => by
      show (r.cheat.set a true).getD i false = _
      rw [(PS.slash_fields s a i).2.2.2.2.2.2, getD_set_bool _ _ _ (by omega), h.cheat i hi] }

theorem Ag.shr (h : Ag s r) : allOf r.book 5 (-1) = s.allShares := by
  rw [h.bk.sum 5 (by omega) (by omega)]
  have hN6 := h.good.N6
  have e : ∀ d, sumTo (fun a => (s.acc a).shares) (s.N + 1 + d) = sumTo (s.amt 5) (s.N + 1) := fun d => by
    induction d with
    | zero => exact sumTo_congr _ (fun k _ => rfl)
    | succ d ih => rw [show s.N + 1 + (d + 1) = (s.N + 1 + d) + 1 by omega]; simp only [sumTo, ih]; rw [h.good.far (s.N + 1 + d) (by omega)]; simp [Acc.zero]
  have := e (7 - (s.N + 1))
  rw [show s.N + 1 + (7 - (s.N + 1)) = 7 by omega] at this
  exact this.symm
theorem Ag.purse (h : Ag s r) : r.purse = (s.acc s.N).tot := by
  unfold RS.purse
  rw [← h.N, h.bk.all 1 s.N (by omega) (by omega) (Nat.le_refl _), h.bk.all 2 s.N (by omega) (by omega) (Nat.le_refl _), h.bk.all 3 s.N (by omega) (by omega) (Nat.le_refl _)]
  rfl

/-- A Deposit. -/
theorem Ag.deposit (h : Ag s r) {a : Nat} (ha : a < s.N) (n : Int) (hn : 1 ≤ n) (hf : n ≤ (s.acc a).liquid) (hm : 0 ≤ r.depMore n) (hs : s.allShares + r.depMore n ≤ 1000000000) : Ag (s.deposit a n (r.depMore n)) (r.deposit a n) := by
  have hN6 := h.good.N6
  have hN := h.N
  generalize hM : r.depMore n = m at *
  have hbk1 : Bk (r.book ++ [⟨1, a, 0, 2, (s.N : Int), 0, n⟩]) (s.deposit a n 0) := by
    refine h.bk.push ⟨1, a, 0, 2, (s.N : Int), 0, n⟩ ⟨fun _ => ⟨s.N, by omega, rfl⟩, fun _ => ⟨a, by omega, rfl⟩⟩ rfl (fun k i h1 h5 hi => ?_) (fun i e hi => ?_)
    · obtain ⟨f1, f2, f3, f4, f5, f6, f7⟩ := s.deposit_fields ha n 0 i
      rcases kinds5 h1 h5 with rfl | rfl | rfl | rfl | rfl
      · show ((s.deposit a n 0).acc i).liquid = (s.acc i).liquid + _ - _
        rw [f1]
        have e2 : Mv.fromIn ⟨1, a, 0, 2, (s.N : Int), 0, n⟩ 1 i = if i = a then n else 0 := by
          unfold Mv.fromIn
          by_cases e : i = a
          · subst e; simp
          · rw [if_neg e, if_neg]; rintro ⟨_, e2⟩; simp only at e2; omega
        rw [e2]; simp [Mv.toIn]
      · show ((s.deposit a n 0).acc i).locked = (s.acc i).locked + _ - _
        rw [f2]
        have e1 : Mv.toIn ⟨1, a, 0, 2, (s.N : Int), 0, n⟩ 2 i = if i = s.N then n else 0 := by
          unfold Mv.toIn
          by_cases e : i = s.N
          · subst e; simp
          · rw [if_neg e, if_neg]; rintro ⟨_, e2⟩; simp only at e2; omega
        rw [e1]; simp [Mv.fromIn]
      · show ((s.deposit a n 0).acc i).queued = (s.acc i).queued + _ - _
        unfold Acc.queued; rw [f6]; simp [Mv.toIn, Mv.fromIn]
      · simp [PS.amt, Mv.toIn, Mv.fromIn, PS.deposit, PS.setAcc]
      · show ((s.deposit a n 0).acc i).shares = (s.acc i).shares + _ - _
        rw [f3]; simp [Mv.toIn, Mv.fromIn]
    · obtain ⟨f1, f2, f3, f4, f5, f6, f7⟩ := s.deposit_fields ha n 0 i
      unfold PS.dueOf
      rw [f6]
      simp [Mv.toAt, Mv.fromAt, PS.deposit, PS.setAcc]
  have own : (s.deposit a n m).acc a = { (s.deposit a n 0).acc a with shares := ((s.deposit a n 0).acc a).shares + m } := by
    unfold PS.deposit
    rw [PS.setAcc_other _ _ (by omega), PS.setAcc_same, PS.setAcc_other _ _ (by omega), PS.setAcc_same]
    simp
  have oth : ∀ i, i ≠ a → (s.deposit a n m).acc i = (s.deposit a n 0).acc i := fun i hi => by
    unfold PS.deposit
    by_cases e : i = s.N
    · subst e; rw [PS.setAcc_same, PS.setAcc_same]
    · rw [PS.setAcc_other _ _ e, PS.setAcc_other _ _ hi, PS.setAcc_other _ _ e, PS.setAcc_other _ _ hi]
  have hbk : Bk (r.deposit a n).book (s.deposit a n m) := by
    show Bk ((r.book ++ [⟨1, a, 0, 2, r.N, 0, n⟩]) ++ [⟨0, 0, 0, 5, a, 0, r.depMore n⟩]) _
    rw [hM, ← hN]
    refine hbk1.acc ⟨0, 0, 0, 5, a, 0, m⟩ (a := a) (by show a ≤ s.N; omega) rfl rfl oth (.inr (.inl ⟨.inr (.inr (.inr rfl)), rfl⟩)) (.inl rfl) (fun h => by cases h) (fun h => by cases h) ?_ ?_ ?_ ?_ ?_ ?_
    · rw [own]; simp [Mv.toIn, Mv.fromIn]
    · rw [own]; simp [Mv.toIn, Mv.fromIn]
    · rw [own]; simp [Mv.toIn, Mv.fromIn, Acc.queued]
    · rw [own]; simp [Mv.toIn, Mv.fromIn]
    · simp [Mv.toIn, Mv.fromIn, PS.deposit, PS.setAcc]
    · intro j hj; rw [own]; simp [Mv.toAt, Mv.fromAt]
  have fl := fun i => s.deposit_fields ha n m i
  exact { h with
    good := (h.good.deposit ha n m (by omega) hf hm hs).1
    low := PS.deposit_low h.low ha n m (by omega)
    pool := h.pool.deposit h.good ha n m hn
    che := fun i hc => by rw [(fl i).2.2.2.2.2.2] at hc; rw [(fl i).2.2.2.2.1]; exact h.che i hc
    bk := hbk
    bid := fun i hi => by rw [(fl i).2.2.2.1]; exact h.bid i hi
    has := fun i hi => by rw [(fl i).2.2.2.2.1]; exact h.has i hi
    cheat := fun i hi => by rw [(fl i).2.2.2.2.2.2]; exact h.cheat i hi }

/-- A Leave. -/
theorem Ag.leave (h : Ag s r) {a : Nat} (ha : a < s.N) (n : Int) (hn : 1 ≤ n) (hf : n ≤ (s.acc a).shares) (hm : 0 ≤ r.worth n) (hs : r.worth n ≤ (s.acc s.N).locked) : Ag (s.leave a n (r.worth n)) (r.leave a n) := by
  have hN6 := h.good.N6
  have hN := h.N
  have hd := h.good.delay
  have hep := h.epoch
  have hdl := h.delay
  generalize hM : r.worth n = m at *
  -- the shares go first
  have hbk1 : Bk (r.book ++ [⟨5, a, 0, 0, 0, 0, n⟩]) (s.setAcc a { s.acc a with shares := (s.acc a).shares - n }) := by
    refine h.bk.acc ⟨5, a, 0, 0, 0, 0, n⟩ (a := a) (by omega) rfl rfl (fun i hi => PS.setAcc_other _ _ hi) (.inl rfl) (.inr (.inl ⟨.inr (.inr (.inr rfl)), rfl⟩)) (fun h => by cases h) (fun h => by cases h) ?_ ?_ ?_ ?_ ?_ ?_
    · rw [PS.setAcc_same]; simp [Mv.toIn, Mv.fromIn]
    · rw [PS.setAcc_same]; simp [Mv.toIn, Mv.fromIn]
    · rw [PS.setAcc_same]; simp [Mv.toIn, Mv.fromIn, Acc.queued]
    · rw [PS.setAcc_same]; simp [Mv.toIn, Mv.fromIn]
    · simp [Mv.toIn, Mv.fromIn, PS.setAcc]
    · intro j hj; rw [PS.setAcc_same]; simp [Mv.toAt, Mv.fromAt]
  have s1 : ∀ i, ((s.setAcc a { s.acc a with shares := (s.acc a).shares - n }).acc i).liquid = (s.acc i).liquid ∧ ((s.setAcc a { s.acc a with shares := (s.acc a).shares - n }).acc i).locked = (s.acc i).locked ∧ ((s.setAcc a { s.acc a with shares := (s.acc a).shares - n }).acc i).q = (s.acc i).q ∧ ((s.setAcc a { s.acc a with shares := (s.acc a).shares - n }).acc i).shares = (s.acc i).shares - (if i = a then n else 0) := fun i => by
    by_cases e : i = a
    · subst e; rw [PS.setAcc_same]; simp
    · rw [PS.setAcc_other _ _ e, if_neg e]; simp
  have hbk : Bk (r.leave a n).book (s.leave a n m) := by
    show Bk ((r.book ++ [⟨5, a, 0, 0, 0, 0, n⟩]) ++ [⟨2, r.N, 0, 3, a, r.epoch + r.delay, r.worth n⟩]) _
    rw [hM, ← hN, ← hep, ← hdl]
    have tat : ∀ (i : Nat) (e : Int), Mv.toAt ⟨2, (s.N : Int), 0, 3, a, s.epoch + s.delay, m⟩ 3 i e = if i = a ∧ e = s.epoch + s.delay then m else 0 := fun i e => by
      unfold Mv.toAt
      by_cases e1 : i = a ∧ e = s.epoch + s.delay
      · obtain ⟨rfl, rfl⟩ := e1; simp
      · rw [if_neg e1, if_neg]; rintro ⟨_, e2, e3⟩; simp only at e2 e3; exact e1 ⟨by omega, by omega⟩
    refine hbk1.push ⟨2, (s.N : Int), 0, 3, a, s.epoch + s.delay, m⟩ ⟨fun _ => ⟨a, by show a ≤ s.N; omega, rfl⟩, fun _ => ⟨s.N, Nat.le_refl _, rfl⟩⟩ rfl (fun k i h1 h5 hi => ?_) (fun i e hi => ?_)
    · obtain ⟨f1, f2, f3, f4, f5, f6, f7⟩ := s.leave_fields ha n m i
      obtain ⟨g1, g2, g3, g4⟩ := s1 i
      rcases kinds5 h1 h5 with rfl | rfl | rfl | rfl | rfl
      · show ((s.leave a n m).acc i).liquid = ((s.setAcc a { s.acc a with shares := (s.acc a).shares - n }).acc i).liquid + _ - _
        rw [f1, g1]; simp [Mv.toIn, Mv.fromIn]
      · show ((s.leave a n m).acc i).locked = ((s.setAcc a { s.acc a with shares := (s.acc a).shares - n }).acc i).locked + _ - _
        rw [f2, g2]
        have e1 : Mv.fromIn ⟨2, (s.N : Int), 0, 3, a, s.epoch + s.delay, m⟩ 2 i = if i = s.N then m else 0 := by
          unfold Mv.fromIn
          by_cases e : i = s.N
          · subst e; simp
          · rw [if_neg e, if_neg]; rintro ⟨_, e2⟩; simp only at e2; omega
        rw [e1]; simp [Mv.toIn]
      · show ((s.leave a n m).acc i).queued = ((s.setAcc a { s.acc a with shares := (s.acc a).shares - n }).acc i).queued + _ - _
        have e1 : Mv.toIn ⟨2, (s.N : Int), 0, 3, a, s.epoch + s.delay, m⟩ 3 i = if i = a then m else 0 := by
          unfold Mv.toIn
          by_cases e : i = a
          · subst e; simp
          · rw [if_neg e, if_neg]; rintro ⟨_, e2⟩; simp only at e2; omega
        rw [e1]
        unfold Acc.queued
        rw [g3, f6, f6, f6, f6, f6]
        have e2 : Mv.fromIn ⟨2, (s.N : Int), 0, 3, a, s.epoch + s.delay, m⟩ 3 i = 0 := by simp [Mv.fromIn]
        rw [e2]
        by_cases e : i = a
        · simp only [e, true_and]
          rcases (show s.delay = 2 ∨ s.delay = 3 ∨ s.delay = 4 ∨ s.delay = 5 by omega) with d | d | d | d <;> simp [d] <;> omega
        · simp only [e, false_and, if_false]; omega
      · simp [PS.amt, Mv.toIn, Mv.fromIn, PS.leave, PS.setAcc]
      · show ((s.leave a n m).acc i).shares = ((s.setAcc a { s.acc a with shares := (s.acc a).shares - n }).acc i).shares + _ - _
        rw [f3, g4]; simp [Mv.toIn, Mv.fromIn]
    · obtain ⟨f1, f2, f3, f4, f5, f6, f7⟩ := s.leave_fields ha n m i
      obtain ⟨g1, g2, g3, g4⟩ := s1 i
      rw [tat]
      have e2 : Mv.fromAt ⟨2, (s.N : Int), 0, 3, a, s.epoch + s.delay, m⟩ 3 i e = 0 := by simp [Mv.fromAt]
      rw [e2]
      show (if s.epoch < e ∧ e ≤ s.epoch + 5 then ((s.leave a n m).acc i).q (e - s.epoch - 1).toNat else 0) = (if s.epoch < e ∧ e ≤ s.epoch + 5 then ((s.setAcc a { s.acc a with shares := (s.acc a).shares - n }).acc i).q (e - s.epoch - 1).toNat else 0) + _ - 0
      rw [g3]
      by_cases hw : s.epoch < e ∧ e ≤ s.epoch + 5
      · rw [if_pos hw, if_pos hw, f6]
        by_cases e3 : i = a ∧ e = s.epoch + s.delay
        · rw [if_pos e3, if_pos ⟨e3.1, by omega⟩]; omega
        · rw [if_neg e3, if_neg (fun h => e3 ⟨h.1, by omega⟩)]; omega
      · rw [if_neg hw, if_neg hw, if_neg (by rintro ⟨_, e3⟩; omega)]; rfl
  have fl := fun i => s.leave_fields ha n m i
  exact { h with
    good := (h.good.leave ha n m (by omega) hf hm hs).1
    low := PS.leave_low h.low h.pool ha n m hs
    pool := by
      have e : m = n * (s.acc s.N).tot / s.allShares := by rw [← hM]; unfold RS.worth; rw [h.purse, h.shr]
      rw [e]; exact h.pool.leave h.good ha n hn hf (e ▸ hs)
    che := fun i hc => by rw [(fl i).2.2.2.2.2.2] at hc; rw [(fl i).2.2.2.2.1]; exact h.che i hc
    bk := hbk
    bid := fun i hi => by rw [(fl i).2.2.2.1]; exact h.bid i hi
    has := fun i hi => by rw [(fl i).2.2.2.2.1]; exact h.has i hi
    cheat := fun i hi => by rw [(fl i).2.2.2.2.2.2]; exact h.cheat i hi }
end
end Go.Proofs.Ytiokecadnmcpeab
