import Derived.Test.YtiokecadnmcpeabPG
import Derived.Test.YtiokecadnmcpeabRefC
namespace Go.Proofs.Ytiokecadnmcpeab
set_option linter.unusedVariables false
set_option linter.unusedSimpArgs false

/-- What an account has at the places of a kind. -/
def PS.amt (s : PS) (k : Int) (a : Nat) : Int :=
  if k = 1 then (s.acc a).liquid else if k = 2 then (s.acc a).locked else if k = 3 then (s.acc a).queued else if k = 4 then (if a = 0 then s.treasury else 0) else (s.acc a).shares
/-- What is queued for an account and due at an epoch. -/
def PS.dueOf (s : PS) (a : Nat) (e : Int) : Int := if s.epoch < e ∧ e ≤ s.epoch + 5 then (s.acc a).q (e - s.epoch - 1).toNat else 0

/-- The book says what the accounts have. -/
structure Bk (b : List Mv) (s : PS) : Prop where
  all : ∀ (k : Int) (a : Nat), 1 ≤ k → k ≤ 5 → a ≤ s.N → allOf b k a = s.amt k a
  sum : ∀ (k : Int), 1 ≤ k → k ≤ 5 → allOf b k (-1) = sumTo (s.amt k) (s.N + 1)
  due : ∀ (a : Nat) (e : Int), a ≤ s.N → atOf b 3 a e = s.dueOf a e

structure Mv.Wf (m : Mv) (N : Nat) : Prop where
  to : 1 ≤ m.tk → ∃ a : Nat, a ≤ N ∧ m.ta = a
  frm : 1 ≤ m.fk → ∃ a : Nat, a ≤ N ∧ m.fa = a

theorem sum_pick (t : Nat) (n : Int) (N : Nat) : sumTo (fun a => if (t : Int) = (a : Int) then n else 0) N = if t < N then n else 0 := by
  induction N with
  | zero => rfl
  | succ N ih =>
    simp only [sumTo, ih]
    by_cases e : t = N
    · subst e; simp
    · by_cases h : t < N
      · rw [if_pos h, if_neg (by omega), if_pos (by omega)]; omega
      · rw [if_neg h, if_neg (by omega), if_neg (by omega)]; rfl
theorem Mv.toIn_sum {m : Mv} {N : Nat} (w : m.Wf N) (k : Int) (hk : 1 ≤ k) : sumTo (fun a => m.toIn k (a : Nat)) (N + 1) = m.toIn k (-1) := by
  by_cases h : m.tk = k
  · obtain ⟨t, ht, he⟩ := w.to (by omega)
    have e1 : ∀ a : Nat, m.toIn k a = if (t : Int) = (a : Int) then m.n else 0 := fun a => by
      unfold Mv.toIn
      rw [he]
      by_cases e : (t : Int) = (a : Int)
      · rw [if_pos ⟨h, .inr e⟩, if_pos e]
      · rw [if_neg (by intro hh; rcases hh.2 with h2 | h2 <;> omega), if_neg e]
    have e2 : m.toIn k (-1) = m.n := by unfold Mv.toIn; rw [if_pos ⟨h, .inl (by omega)⟩]
    rw [e2]
    rw [show (fun a : Nat => m.toIn k (a : Nat)) = fun a : Nat => if (t : Int) = (a : Int) then m.n else 0 from funext e1, sum_pick, if_pos (by omega)]
  · have e1 : ∀ a : Int, m.toIn k a = 0 := fun a => by unfold Mv.toIn; rw [if_neg (fun hh => h hh.1)]
    rw [e1, show (fun a : Nat => m.toIn k (a : Nat)) = fun _ => (0 : Int) from funext (fun a => e1 a)]
    have : ∀ n, sumTo (fun _ => (0 : Int)) n = 0 := fun n => by
      induction n with
      | zero => rfl
      | succ n ih => simp only [sumTo, ih]; rfl
    exact this _
theorem Mv.fromIn_sum {m : Mv} {N : Nat} (w : m.Wf N) (k : Int) (hk : 1 ≤ k) : sumTo (fun a => m.fromIn k (a : Nat)) (N + 1) = m.fromIn k (-1) :=
  Mv.toIn_sum (m := ⟨m.tk, m.ta, m.te, m.fk, m.fa, m.fe, m.n⟩) (N := N) ⟨w.frm, w.to⟩ k hk


theorem Bk.push {b : List Mv} {s s' : PS} (h : Bk b s) (m : Mv) (w : m.Wf s.N) (hN : s'.N = s.N) (ha : ∀ (k : Int) (a : Nat), 1 ≤ k → k ≤ 5 → a ≤ s.N → s'.amt k a = s.amt k a + m.toIn k a - m.fromIn k a)
    (hd : ∀ (a : Nat) (e : Int), a ≤ s.N → s'.dueOf a e = s.dueOf a e + m.toAt 3 a e - m.fromAt 3 a e) : Bk (b ++ [m]) s' := by
  refine ⟨fun k a h1 h5 hk => ?_, fun k h1 h5 => ?_, fun a e hk => ?_⟩
  · rw [allOf_snoc, h.all k a h1 h5 (by omega), ha k a h1 h5 (by omega)]
  · rw [allOf_snoc, h.sum k h1 h5, hN, ← Mv.toIn_sum w k h1, ← Mv.fromIn_sum w k h1, ← psum_add, ← psum_sub]
    exact sumTo_congr _ (fun a hk => (ha k a h1 h5 (by omega)).symm)
  · rw [atOf_snoc, h.due a e (by omega), hd a e (by omega)]

theorem kinds5 {k : Int} (h1 : 1 ≤ k) (h5 : k ≤ 5) : k = 1 ∨ k = 2 ∨ k = 3 ∨ k = 4 ∨ k = 5 := by omega

/-- A move that touches account a, the treasury and nowhere alone. -/
theorem Bk.acc {b : List Mv} {s s' : PS} (h : Bk b s) (m : Mv) {a : Nat} (ha : a ≤ s.N) (hN : s'.N = s.N) (he : s'.epoch = s.epoch) (hoth : ∀ i, i ≠ a → s'.acc i = s.acc i)
    (hto : m.tk = 0 ∨ ((m.tk = 1 ∨ m.tk = 2 ∨ m.tk = 3 ∨ m.tk = 5) ∧ m.ta = a) ∨ (m.tk = 4 ∧ m.ta = 0)) (hfr : m.fk = 0 ∨ ((m.fk = 1 ∨ m.fk = 2 ∨ m.fk = 3 ∨ m.fk = 5) ∧ m.fa = a) ∨ (m.fk = 4 ∧ m.fa = 0))
    (hte : m.tk = 3 → s.epoch < m.te ∧ m.te ≤ s.epoch + 5) (hfe : m.fk = 3 → s.epoch < m.fe ∧ m.fe ≤ s.epoch + 5)
    (hl : (s'.acc a).liquid = (s.acc a).liquid + m.toIn 1 a - m.fromIn 1 a) (hk : (s'.acc a).locked = (s.acc a).locked + m.toIn 2 a - m.fromIn 2 a) (hq : (s'.acc a).queued = (s.acc a).queued + m.toIn 3 a - m.fromIn 3 a)
    (hs : (s'.acc a).shares = (s.acc a).shares + m.toIn 5 a - m.fromIn 5 a) (ht : s'.treasury = s.treasury + m.toIn 4 0 - m.fromIn 4 0)
    (hd : ∀ j : Nat, j < 5 → (s'.acc a).q j = (s.acc a).q j + m.toAt 3 a (s.epoch + 1 + j) - m.fromAt 3 a (s.epoch + 1 + j)) : Bk (b ++ [m]) s' := by
  have wf : m.Wf s.N := ⟨fun h1 => by rcases hto with e | ⟨_, e⟩ | ⟨_, e⟩; · omega
                                      · exact ⟨a, ha, e⟩
                                      · exact ⟨0, by omega, e⟩,
    fun h1 => by rcases hfr with e | ⟨_, e⟩ | ⟨_, e⟩; · omega
                 · exact ⟨a, ha, e⟩
                 · exact ⟨0, by omega, e⟩⟩
  have tz : ∀ (k : Int) (i : Nat), k ≠ 4 → 1 ≤ k → i ≠ a → m.toIn k i = 0 := fun k i h4 h1 hne => by
    unfold Mv.toIn; rw [if_neg]; rintro ⟨e1, e2⟩; omega
  have fz : ∀ (k : Int) (i : Nat), k ≠ 4 → 1 ≤ k → i ≠ a → m.fromIn k i = 0 := fun k i h4 h1 hne => by
    unfold Mv.fromIn; rw [if_neg]; rintro ⟨e1, e2⟩; omega
  have tz4 : ∀ (i : Nat), i ≠ 0 → m.toIn 4 i = 0 := fun i hne => by
    unfold Mv.toIn; rw [if_neg]; rintro ⟨e1, e2⟩; omega
  have fz4 : ∀ (i : Nat), i ≠ 0 → m.fromIn 4 i = 0 := fun i hne => by
    unfold Mv.fromIn; rw [if_neg]; rintro ⟨e1, e2⟩; omega
  refine h.push m wf hN (fun k i h1 h5 hi => ?_) (fun i e hi => ?_)
  · rcases kinds5 h1 h5 with rfl | rfl | rfl | rfl | rfl
    · by_cases e : i = a
      · subst e; exact hl
      · rw [tz 1 i (by omega) (by omega) e, fz 1 i (by omega) (by omega) e]; unfold PS.amt; rw [hoth i e]; simp
    · by_cases e : i = a
      · subst e; exact hk
      · rw [tz 2 i (by omega) (by omega) e, fz 2 i (by omega) (by omega) e]; unfold PS.amt; rw [hoth i e]; simp
    · by_cases e : i = a
      · subst e; exact hq
      · rw [tz 3 i (by omega) (by omega) e, fz 3 i (by omega) (by omega) e]; unfold PS.amt; rw [hoth i e]; simp
    · by_cases e : i = 0
      · subst e; exact ht
      · rw [tz4 i e, fz4 i e]; simp [PS.amt, e]
    · by_cases e : i = a
      · subst e; exact hs
      · rw [tz 5 i (by omega) (by omega) e, fz 5 i (by omega) (by omega) e]; unfold PS.amt; rw [hoth i e]; simp
  · have ne : i ≠ a → m.toAt 3 i e = 0 ∧ m.fromAt 3 i e = 0 := fun hne => by
      unfold Mv.toAt Mv.fromAt
      rw [if_neg (by rintro ⟨e1, e2, _⟩; omega), if_neg (by rintro ⟨e1, e2, _⟩; omega)]
      exact ⟨rfl, rfl⟩
    unfold PS.dueOf
    rw [he]
    by_cases hw : s.epoch < e ∧ e ≤ s.epoch + 5
    · rw [if_pos hw, if_pos hw]
      by_cases e2 : i = a
      · subst e2
        have := hd (e - s.epoch - 1).toNat (by omega)
        rw [this, show s.epoch + 1 + ((e - s.epoch - 1).toNat : Int) = e by omega]
      · rw [hoth i e2, (ne e2).1, (ne e2).2]; omega
    · rw [if_neg hw, if_neg hw]
      have z1 : m.toAt 3 i e = 0 := by
        unfold Mv.toAt; rw [if_neg]; rintro ⟨e1, _, e3⟩; have := hte e1; omega
      have z2 : m.fromAt 3 i e = 0 := by
        unfold Mv.fromAt; rw [if_neg]; rintro ⟨e1, _, e3⟩; have := hfe e1; omega
      rw [z1, z2]; rfl

/-- The bounds of the amounts, from the accounts. -/
theorem Bk.amtOk {b : List Mv} {s : PS} (h : Bk b s) (g : s.Good) : Amt b s.N := by
  have hN := g.N6
  have hpos : ∀ (k : Int) (a : Nat), 1 ≤ k → k ≤ 5 → a ≤ s.N → 0 ≤ s.amt k a := fun k a h1 h5 ha => by
    have hp := g.pos a (by omega)
    have := hp.que.1
    have := g.t0
    rcases kinds5 h1 h5 with rfl | rfl | rfl | rfl | rfl
    · exact hp.l0
    · exact hp.k0
    · exact hp.que.1
    · show 0 ≤ if a = 0 then s.treasury else 0
      split <;> omega
    · exact hp.h0
  have hle : ∀ (k : Int), 1 ≤ k → k ≤ 5 → 0 ≤ sumTo (s.amt k) (s.N + 1) ∧ ∀ a, a ≤ s.N → s.amt k a ≤ sumTo (s.amt k) (s.N + 1) := fun k h1 h5 => by
    have := psum_le (s.amt k) (s.N + 1) (fun a ha => hpos k a h1 h5 (by omega))
    exact ⟨this.1, fun a ha => this.2 a (by omega)⟩
  have hx : ∀ (f : Acc → Int) (hz : f Acc.zero = 0), sumTo (fun a => f (s.acc a)) 7 = sumTo (fun a => f (s.acc a)) (s.N + 1) := fun f hz => by
    have : ∀ d, sumTo (fun a => f (s.acc a)) (s.N + 1 + d) = sumTo (fun a => f (s.acc a)) (s.N + 1) := fun d => by
      induction d with
      | zero => rfl
      | succ d ih => rw [show s.N + 1 + (d + 1) = (s.N + 1 + d) + 1 by omega]; simp only [sumTo, ih]; rw [g.far (s.N + 1 + d) (by omega), hz]; omega
    have e := this (7 - (s.N + 1))
    rwa [show s.N + 1 + (7 - (s.N + 1)) = 7 by omega] at e
  have ht4 : ∀ n, sumTo (s.amt 4) (n + 1) = s.treasury := fun n => by
    induction n with
    | zero => simp [sumTo, PS.amt]
    | succ n ih => simp only [sumTo] at *; rw [ih]; simp [PS.amt]
  have hsup : sumTo (s.amt 1) (s.N + 1) + sumTo (s.amt 2) (s.N + 1) + sumTo (s.amt 3) (s.N + 1) + sumTo (s.amt 4) (s.N + 1) = s.supply := by
    rw [ht4]
    unfold PS.supply
    rw [hx (fun c => c.tot) rfl, ← psum_add, ← psum_add]
    have : sumTo (fun k => s.amt 1 k + s.amt 2 k + s.amt 3 k) (s.N + 1) = sumTo (fun a => (s.acc a).tot) (s.N + 1) := sumTo_congr _ (fun k _ => rfl)
    omega
  have hshr : sumTo (s.amt 5) (s.N + 1) = s.allShares := (hx (fun c => c.shares) rfl).symm
  have g1 := g.sup
  have g2 := g.shr
  have l1 := (hle 1 (by omega) (by omega)).1
  have l2 := (hle 2 (by omega) (by omega)).1
  have l3 := (hle 3 (by omega) (by omega)).1
  have l4 := (hle 4 (by omega) (by omega)).1
  have hb : ∀ k : Int, 1 ≤ k → k ≤ 5 → sumTo (s.amt k) (s.N + 1) ≤ 1000000000 := fun k h1 h5 => by
    rcases kinds5 h1 h5 with rfl | rfl | rfl | rfl | rfl <;> omega
  refine ⟨fun k a h1 h5 ha0 haN => ?_, fun a e ha => ?_, ?_⟩
  · have b1 := hb k h1 h5
    have b0 := hle k h1 h5
    rcases (show a = -1 ∨ 0 ≤ a by omega) with rfl | h0
    · rw [h.sum k h1 h5]; exact ⟨b0.1, b1⟩
    · obtain ⟨n, rfl⟩ : ∃ n : Nat, a = n := ⟨a.toNat, by omega⟩
      rw [h.all k n h1 h5 (by omega)]
      have := b0.2 n (by omega)
      have := hpos k n h1 h5 (by omega)
      omega
  · rw [h.due a e ha]
    unfold PS.dueOf
    split
    · rename_i hw
      have hp := g.pos a (by omega)
      have h0 := hp.q0 (e - s.epoch - 1).toNat (by omega)
      have h1 := (g.ok.acc a (by omega)).q1 (e - s.epoch - 1).toNat (by omega)
      exact ⟨h0, h1⟩
    · omega
  · rw [h.sum 1 (by omega) (by omega), h.sum 2 (by omega) (by omega), h.sum 3 (by omega) (by omega), h.sum 4 (by omega) (by omega)]
    omega
theorem Bk.supply {b : List Mv} {s : PS} (h : Bk b s) (g : s.Good) : supplyOf b = s.supply := by
  have hx : ∀ (f : Acc → Int) (hz : f Acc.zero = 0), sumTo (fun a => f (s.acc a)) 7 = sumTo (fun a => f (s.acc a)) (s.N + 1) := fun f hz => by
    have hN := g.N6
    have : ∀ d, sumTo (fun a => f (s.acc a)) (s.N + 1 + d) = sumTo (fun a => f (s.acc a)) (s.N + 1) := fun d => by
      induction d with
      | zero => rfl
      | succ d ih => rw [show s.N + 1 + (d + 1) = (s.N + 1 + d) + 1 by omega]; simp only [sumTo, ih]; rw [g.far (s.N + 1 + d) (by omega), hz]; omega
    have e := this (7 - (s.N + 1))
    rwa [show s.N + 1 + (7 - (s.N + 1)) = 7 by omega] at e
  have ht4 : ∀ n, sumTo (s.amt 4) (n + 1) = s.treasury := fun n => by
    induction n with
    | zero => simp [sumTo, PS.amt]
    | succ n ih => simp only [sumTo] at *; rw [ih]; simp [PS.amt]
  unfold supplyOf
  rw [h.sum 1 (by omega) (by omega), h.sum 2 (by omega) (by omega), h.sum 3 (by omega) (by omega), h.sum 4 (by omega) (by omega), ht4]
  unfold PS.supply
  rw [hx (fun c => c.tot) rfl, ← psum_add, ← psum_add]
  have : sumTo (fun k => s.amt 1 k + s.amt 2 k + s.amt 3 k) (s.N + 1) = sumTo (fun a => (s.acc a).tot) (s.N + 1) := sumTo_congr _ (fun k _ => rfl)
  omega
end Go.Proofs.Ytiokecadnmcpeab
namespace Go.Proofs.Ytiokecadnmcpeab
set_option linter.unusedVariables false
set_option linter.unusedSimpArgs false

/-- What of the two chains stays alike while an epoch ends: who leads, who has made blocks, who has cheated. -/
structure Same (s : PS) (r : RS) : Prop where
  N : s.N = r.N
  seats : s.seats = r.seats
  delay : s.delay = r.delay
  rate : s.rate = r.rate
  cut : s.cut = r.cut
  epoch : s.epoch = r.epoch
  length : s.length = r.length
  need : s.need = r.need
  has : ∀ a, a ≤ s.N → r.has.getD a 0 = (s.acc a).seats
  cheat : ∀ a, a ≤ s.N → r.cheat.getD a false = (s.acc a).cheated
  made : ∀ k : Nat, (k : Int) < r.length → r.made.getD k false = s.blocks k
  rlen : r.row.length = s.rlen
  row : ∀ k, k < s.rlen → r.row.getD k 0 = s.row k
  len : 1 ≤ s.length ∧ s.length ≤ 20
  far : ∀ a, s.N < a → s.acc a = Acc.zero
  che : ∀ a, (s.acc a).cheated = true → 1 ≤ (s.acc a).seats
  N6 : s.N ≤ 6

section
variable {s : PS} {r : RS}

theorem Same.leads (h : Same s r) (a : Int) (k : Nat) : s.leads a k = true ↔ ((k : Int) < r.length ∧ r.leads a k) := by
  unfold PS.leads RS.leads RS.leadAt
  rw [h.length, h.rlen]
  simp only [Bool.and_eq_true, decide_eq_true_eq]
  by_cases h0 : 0 < s.rlen
  · have := h.row (k % s.rlen) (Nat.mod_lt _ h0)
    rw [this]
  · simp [h0]
theorem Same.askedTo (h : Same s r) (a : Int) (k : Nat) : s.askedTo a k = r.askedTo a (min k r.length.toNat) := by
  have hl := h.len
  rw [h.length] at hl
  induction k with
  | zero => simp [PS.askedTo, RS.askedTo]
  | succ k ih =>
    simp only [PS.askedTo, ih]
    by_cases hk : (k : Int) < r.length
    · rw [show min (k + 1) r.length.toNat = k + 1 by omega, show min k r.length.toNat = k by omega]
      simp only [RS.askedTo]
      by_cases hL : r.leads a k
      · rw [if_pos hL, if_pos ((h.leads a k).2 ⟨hk, hL⟩)]
      · rw [if_neg hL, if_neg (fun e => hL ((h.leads a k).1 e).2)]
    · rw [show min (k + 1) r.length.toNat = min k r.length.toNat by omega, if_neg (fun e => hk ((h.leads a k).1 e).1)]; omega
theorem Same.asked (h : Same s r) (a : Int) : s.asked a = r.asked a := by
  have hl := h.len
  rw [h.length] at hl
  unfold PS.asked RS.asked
  rw [h.askedTo, show min 20 r.length.toNat = r.length.toNat by omega]
theorem Same.madeTo (h : Same s r) (a : Int) (k : Nat) : s.madeTo a k = r.madeTo a (min k r.length.toNat) := by
  have hl := h.len
  rw [h.length] at hl
  induction k with
  | zero => simp [PS.madeTo, RS.madeTo]
  | succ k ih =>
    simp only [PS.madeTo, ih]
    by_cases hk : (k : Int) < r.length
    · rw [show min (k + 1) r.length.toNat = k + 1 by omega, show min k r.length.toNat = k by omega]
      simp only [RS.madeTo]
      have hm := h.made k hk
      by_cases hL : r.leads a k ∧ r.made.getD k false = true
      · rw [if_pos hL, if_pos (by rw [Bool.and_eq_true]; exact ⟨by rw [← hm]; exact hL.2, (h.leads a k).2 ⟨hk, hL.1⟩⟩)]
      · rw [if_neg hL, if_neg (by rw [Bool.and_eq_true]; exact fun e => hL ⟨((h.leads a k).1 e.2).2, by rw [hm]; exact e.1⟩)]
    · rw [show min (k + 1) r.length.toNat = min k r.length.toNat by omega, if_neg (by rw [Bool.and_eq_true]; exact fun e => hk ((h.leads a k).1 e.2).1)]; omega
theorem Same.mades (h : Same s r) (a : Int) : s.made a = r.mades a := by
  have hl := h.len
  rw [h.length] at hl
  unfold PS.made RS.mades
  rw [h.madeTo, show min 20 r.length.toNat = r.length.toNat by omega]

/-- How an account stands: by itself. -/
theorem Same.slow (h : Same s r) (a : Nat) (ha : a ≤ s.N) : r.slow a = true ↔ s.stand0 a = 2 := by
  unfold RS.slow PS.stand0
  rw [h.has a ha, h.cheat a ha, ← h.mades, ← h.asked, ← h.need]
  by_cases h1 : (s.acc a).seats < 1
  · simp [h1]; omega
  · cases hc : (s.acc a).cheated with
    | true => simp [h1]
    | false =>
      by_cases h2 : s.made a * 1000 < s.need * s.asked a
      · simp [h1, h2]; omega
      · simp [h1, h2]
theorem Same.stand0_vals (s : PS) (a : Nat) : s.stand0 a = 0 ∨ s.stand0 a = 1 ∨ s.stand0 a = 2 ∨ s.stand0 a = 3 := by
  unfold PS.stand0
  split
  · simp
  · split
    · simp
    · split <;> simp
theorem Same.stand0_pos (h : Same s r) (a : Nat) (ha : a ≤ s.N) : s.stand0 a ≠ 0 ↔ 0 < r.has.getD a 0 := by
  rw [h.has a ha]
  unfold PS.stand0
  by_cases h1 : (s.acc a).seats < 1
  · simp [h1]; omega
  · rw [if_neg h1]
    refine ⟨fun _ => by omega, fun _ => ?_⟩
    split
    · omega
    · split <;> omega
theorem Same.stand0_cheat (h : Same s r) (a : Nat) (ha : a ≤ s.N) : s.stand0 a = 3 ↔ r.cheat.getD a false = true := by
  rw [h.cheat a ha]
  unfold PS.stand0
  constructor
  · intro e
    cases hc : (s.acc a).cheated with
    | true => rfl
    | false =>
      rw [hc] at e
      split at e
      · omega
      · rw [if_neg (by simp)] at e
        split at e <;> omega
  · intro hc
    have := h.che a hc
    rw [if_neg (by omega), if_pos hc]
theorem Same.ok1 (h : Same s r) (a : Nat) (ha : a ≤ s.N) : (0 < r.has.getD a 0 ∧ r.cheat.getD a false = false ∧ r.slow a = false) ↔ s.stand0 a = 1 := by
  have h1 := h.stand0_pos a ha
  have h2 := h.stand0_cheat a ha
  have h3 := h.slow a ha
  have h4 := Same.stand0_vals s a
  constructor
  · rintro ⟨e1, e2, e3⟩
    have n0 := h1.2 e1
    have n3 : s.stand0 a ≠ 3 := fun e => by have := h2.1 e; rw [e2] at this; cases this
    have n2 : s.stand0 a ≠ 2 := fun e => by have := h3.2 e; rw [e3] at this; cases this
    omega
  · intro e
    refine ⟨h1.1 (by omega), ?_, ?_⟩
    · cases hc : r.cheat.getD a false with
      | false => rfl
      | true => have := h2.2 hc; omega
    · cases hc : r.slow a with
      | false => rfl
      | true => have := h3.1 hc; omega
theorem Same.others (h : Same s r) (k : Nat) (hk : k ≤ s.N + 1) : r.othersTo k = s.anyTo k := by
  induction k with
  | zero => rfl
  | succ k ih =>
    have e := h.ok1 k (by omega)
    simp only [RS.othersTo, PS.anyTo, ih (by omega)]
    congr 1
    generalize r.has.getD k 0 = x at *
    generalize r.cheat.getD k false = c at *
    generalize r.slow k = sl at *
    have e3 : (decide (0 < x) && (!c && !sl)) = true ↔ s.stand0 k = 1 := by rw [← e]; simp
    by_cases e1 : s.stand0 k = 1
    · rw [e3.2 e1]; simp [e1]
    · have hn : (decide (0 < x) && (!c && !sl)) = false := by
        cases hh : (decide (0 < x) && (!c && !sl)) with
        | false => rfl
        | true => exact absurd (e3.1 hh) e1
      rw [hn]; simp [e1]
theorem Same.any7 (h : Same s r) : r.othersTo (r.N + 1) = s.anyTo 7 := by
  have hN := h.N6
  rw [← h.N, h.others (s.N + 1) (Nat.le_refl _)]
  have : ∀ d, s.anyTo (s.N + 1 + d) = s.anyTo (s.N + 1) := fun d => by
    induction d with
    | zero => rfl
    | succ d ih =>
      rw [show s.N + 1 + (d + 1) = (s.N + 1 + d) + 1 by omega]
      simp only [PS.anyTo, ih]
      have : s.stand0 (s.N + 1 + d) = 0 := by unfold PS.stand0; rw [h.far (s.N + 1 + d) (by omega)]; simp [Acc.zero]
      simp [this]
  have e := this (7 - (s.N + 1))
  rw [show s.N + 1 + (7 - (s.N + 1)) = 7 by omega] at e
  exact e.symm
theorem Same.lazy (h : Same s r) (a : Nat) (ha : a ≤ s.N) : r.lazy a = true ↔ s.stand a = 2 := by
  unfold RS.lazy PS.stand
  rw [h.any7, Bool.and_eq_true, h.slow a ha]
  cases hA : s.anyTo 7 with
  | true => simp
  | false => simp; split <;> omega
theorem Same.cheats (h : Same s r) (a : Nat) (ha : a ≤ s.N) : r.cheat.getD a false = true ↔ s.stand a = 3 := by
  rw [← h.stand0_cheat a ha]
  unfold PS.stand
  split
  · exact Iff.rfl
  · split <;> omega
theorem Same.works (h : Same s r) (a : Nat) (ha : a ≤ s.N) : r.works a = true ↔ s.stand a = 1 := by
  have h1 := h.stand0_pos a ha
  have h2 := h.cheats a ha
  have h3 := h.lazy a ha
  have hv := Same.stand0_vals s a
  have hz : s.stand a = 0 ↔ s.stand0 a = 0 := by unfold PS.stand; split; · exact Iff.rfl
                                                 · split <;> omega
  have hv2 : s.stand a = 0 ∨ s.stand a = 1 ∨ s.stand a = 2 ∨ s.stand a = 3 := by unfold PS.stand; split; · exact hv
                                                                                 · split <;> omega
  unfold RS.works
  constructor
  · intro e
    simp only [Bool.and_eq_true, decide_eq_true_eq, Bool.not_eq_true'] at e
    have n0 : s.stand a ≠ 0 := fun e0 => h1.2 e.1 (hz.1 e0)
    have n3 : s.stand a ≠ 3 := fun e3 => by have := h2.2 e3; rw [e.2.1] at this; cases this
    have n2 : s.stand a ≠ 2 := fun e3 => by have := h3.2 e3; rw [e.2.2] at this; cases this
    omega
  · intro e
    simp only [Bool.and_eq_true, decide_eq_true_eq, Bool.not_eq_true']
    refine ⟨h1.1 (fun e0 => by have := hz.2 e0; omega), ?_, ?_⟩
    · cases hc : r.cheat.getD a false with
      | false => rfl
      | true => have := h2.1 hc; omega
    · cases hc : r.lazy a with
      | false => rfl
      | true => have := h3.1 hc; omega
theorem Same.gone (h : Same s r) (a : Nat) (ha : a ≤ s.N) : r.gone.getD a false = true ↔ (s.stand a = 3 ∨ s.stand a = 2) := by
  have hN := h.N
  have : r.gone.getD a false = (r.lazy a || r.cheat.getD a false) := by
    unfold RS.gone RS.goneTo
    simp [List.getD, show a < r.N + 1 by omega]
  rw [this, Bool.or_eq_true, h.lazy a ha, h.cheats a ha]
  omega
theorem Same.paid (h : Same s r) (a : Nat) (ha : a ≤ s.N) (rest : Int) : r.paid a rest = s.pays s.stand rest a := by
  have e := h.works a ha
  unfold RS.paid PS.pays
  by_cases e1 : s.stand a = 1
  · rw [if_pos e1, if_pos (e.2 e1), h.mades, h.length]
  · rw [if_neg e1, if_neg (fun hh => e1 (e.1 hh))]
end
end Go.Proofs.Ytiokecadnmcpeab
namespace Go.Proofs.Ytiokecadnmcpeab
set_option linter.unusedVariables false
set_option linter.unusedSimpArgs false

theorem PS.mapTo_acc (s : PS) (f : Nat → Acc → Acc) (k a : Nat) : (s.mapTo f k).acc a = if a < k then f a (s.acc a) else s.acc a := rfl
theorem PS.mapTo_new (s : PS) (f : Nat → Acc → Acc) (k : Nat) : (s.mapTo f (k + 1)).acc k = f k (s.acc k) := by rw [PS.mapTo_acc, if_pos (by omega)]
theorem PS.mapTo_oth (s : PS) (f : Nat → Acc → Acc) (k : Nat) {i : Nat} (h : i ≠ k) : (s.mapTo f (k + 1)).acc i = (s.mapTo f k).acc i := by
  rw [PS.mapTo_acc, PS.mapTo_acc]
  by_cases e : i < k
  · rw [if_pos e, if_pos (by omega)]
  · rw [if_neg e, if_neg (by omega)]
theorem PS.mapTo_far (s : PS) (f : Nat → Acc → Acc) (m n : Nat) (h : m ≤ n) (hf : ∀ a, m ≤ a → a < n → f a (s.acc a) = s.acc a) : s.mapTo f n = s.mapTo f m := by
  simp only [PS.mapTo, PS.mk.injEq, true_and, and_true]
  funext a
  by_cases e : a < m
  · rw [if_pos e, if_pos (by omega)]
  · rw [if_neg e]
    by_cases e2 : a < n
    · rw [if_pos e2]; exact hf a (by omega) e2
    · rw [if_neg e2]

section
variable {s : PS} {r : RS}

theorem burn_bk (sm : Same s r) (h : Bk r.book s) : ∀ k, k ≤ s.N + 1 → Bk (r.burnTo k).book (s.mapTo (burnF s.stand) k) := by
  intro k
  induction k with
  | zero => intro _; rw [PS.mapTo_zero]; exact h
  | succ k ih =>
    intro hk
    have hb := ih (by omega)
    have hc := sm.cheats k (by omega)
    have hN : (s.mapTo (burnF s.stand) k).N = s.N := rfl
    simp only [RS.burnTo]
    by_cases e : r.cheat.getD k false = true
    · rw [if_pos e]
      have e3 := hc.1 e
      have ha : allOf (r.burnTo k).book 2 k = (s.acc k).locked := by
        rw [hb.all 2 k (by omega) (by omega) (by omega)]
        show ((s.mapTo (burnF s.stand) k).acc k).locked = _
        rw [PS.mapTo_at]
      rw [ha]
      have hn : (s.mapTo (burnF s.stand) (k + 1)).acc k = { s.acc k with locked := (s.acc k).locked - (s.acc k).locked / 2 } := by rw [PS.mapTo_new]; unfold burnF; rw [if_pos e3]
      have ho := PS.mapTo_at s (burnF s.stand) k
      refine hb.acc ⟨2, k, 0, 0, 0, 0, (s.acc k).locked / 2⟩ (a := k) (by omega) rfl rfl (fun i hi => PS.mapTo_oth s _ k hi) (.inl rfl) (.inr (.inl ⟨.inr (.inl rfl), rfl⟩)) (fun h => by cases h) (fun h => by cases h) ?_ ?_ ?_ ?_ ?_ ?_
      · rw [hn, ho]; simp [Mv.toIn, Mv.fromIn]
      · rw [hn, ho]; simp [Mv.toIn, Mv.fromIn]
      · rw [hn, ho]; simp [Mv.toIn, Mv.fromIn, Acc.queued]
      · rw [hn, ho]; simp [Mv.toIn, Mv.fromIn]
      · simp [Mv.toIn, Mv.fromIn, PS.mapTo]
      · intro j hj; rw [hn, ho]; simp [Mv.toAt, Mv.fromAt]
    · rw [if_neg e, ← PS.mapTo_same _ _ _ (by unfold burnF; rw [if_neg (fun e3 => e (hc.2 e3))])]
      exact hb
theorem burn_far (g : s.Good) (sm : Same s r) : s.p1 = s.mapTo (burnF s.stand) (s.N + 1) :=
  PS.mapTo_far s _ (s.N + 1) 7 (by have := g.N6; omega) (fun a h1 h2 => by unfold burnF; rw [PS.stand_farN g a (by omega)]; rfl)
theorem burn_all (g : s.Good) (sm : Same s r) (h : Bk r.book s) : Bk (r.burnTo (r.N + 1)).book s.p1 := by
  rw [burn_far g sm, ← sm.N]; exact burn_bk sm h _ (Nat.le_refl _)

theorem fresh_eq (g : s.Good) (sm : Same s r) (h : Bk r.book s) : (r.burnTo (r.N + 1)).fresh = s.p1.fresh ∧ (r.burnTo (r.N + 1)).rest = s.p1.rest := by
  have hs := (burn_all g sm h).supply g.p1
  have al := r.burnTo_alike (r.N + 1)
  have hr : (r.burnTo (r.N + 1)).rate = s.p1.rate := al.rate.trans sm.rate.symm
  have hc : (r.burnTo (r.N + 1)).cut = s.p1.cut := al.cut.trans sm.cut.symm
  have e1 : (r.burnTo (r.N + 1)).fresh = s.p1.fresh := by
    unfold RS.fresh PS.fresh
    rw [hs, hr]
    by_cases e : 1000000000 - s.p1.supply < s.p1.supply * s.p1.rate / 1000
    · rw [if_pos e, if_pos (by omega)]
    · rw [if_neg e, if_neg (by omega)]
  exact ⟨e1, by unfold RS.rest PS.rest; rw [e1, hc]⟩

/-- The program's chain while the accounts below k are paid. -/
def PS.payS (s : PS) (j : Nat → Int) (k : Nat) : PS := { s.mapTo (payF s j s.rest) k with treasury := s.treasury + s.fresh - sumTo (s.pays j s.rest) k }
theorem pay_far (g : s.Good) (sm : Same s r) : s.p2 = s.p1.payS s.stand (s.N + 1) := by
  have hN := g.N6
  have h1 : s.p1.mapTo (payF s.p1 s.stand s.p1.rest) 7 = s.p1.mapTo (payF s.p1 s.stand s.p1.rest) (s.N + 1) :=
    PS.mapTo_far _ _ (s.N + 1) 7 (by omega) (fun a h1 h2 => by unfold payF; rw [if_neg (by rw [PS.stand_farN g a (by omega)]; omega)])
  have h2 : sumTo (s.p1.pays s.stand s.p1.rest) 7 = sumTo (s.p1.pays s.stand s.p1.rest) (s.N + 1) := by
    have : ∀ d, sumTo (s.p1.pays s.stand s.p1.rest) (s.N + 1 + d) = sumTo (s.p1.pays s.stand s.p1.rest) (s.N + 1) := fun d => by
      induction d with
      | zero => rfl
      | succ d ih =>
        rw [show s.N + 1 + (d + 1) = (s.N + 1 + d) + 1 by omega]; simp only [sumTo, ih]
        have : s.p1.pays s.stand s.p1.rest (s.N + 1 + d) = 0 := by unfold PS.pays; rw [if_neg (by rw [PS.stand_farN g (s.N + 1 + d) (by omega)]; omega)]
        omega
    have e := this (7 - (s.N + 1))
    rwa [show s.N + 1 + (7 - (s.N + 1)) = 7 by omega] at e
  unfold PS.p2 PS.pay PS.payS
  rw [h1, h2, ← Int.add_sub_assoc]
theorem pay_bk (g : s.Good) (sm : Same s r) (h : Bk r.book s) (bl : r.bids.length = s.N + 1) (bid : ∀ a, a ≤ s.N → r.bids.getD a 0 = (s.acc a).bid) : ∀ k, k ≤ s.N + 1 →
    Bk ((r.burnTo (r.N + 1)).minted.payTo (r.burnTo (r.N + 1)).rest k).book (s.p1.payS s.stand k) ∧ ((r.burnTo (r.N + 1)).minted.payTo (r.burnTo (r.N + 1)).rest k).bids.length = s.N + 1 ∧ ∀ a, a ≤ s.N → ((r.burnTo (r.N + 1)).minted.payTo (r.burnTo (r.N + 1)).rest k).bids.getD a 0 = ((s.p1.payS s.stand k).acc a).bid := by
  obtain ⟨hfe, hre⟩ := fresh_eq g sm h
  have al := (r.burnTo_alike (r.N + 1)).trans (RS.minted_alike _)
  have hb1 : (r.burnTo (r.N + 1)).minted.bids = r.bids := r.burnTo_bids (r.N + 1)
  have hp1 : ∀ a, (s.p1.acc a).bid = (s.acc a).bid := fun a => by
    show ((s.mapTo (burnF s.stand) 7).acc a).bid = _
    rw [PS.mapTo_acc]
    split
    · unfold burnF; split <;> rfl
    · rfl
  have hN1 : s.p1.N = s.N := rfl
  rw [hre]
  generalize hR : s.p1.rest = rest at *
  have hpd : ∀ k, k ≤ s.N → (r.burnTo (r.N + 1)).minted.paid k rest = s.p1.pays s.stand rest k := fun k hk => by
    rw [al.paid, sm.paid k hk]; rfl
  have hmN : (r.burnTo (r.N + 1)).minted.N = s.N := al.N.trans sm.N.symm
  intro k
  induction k with
  | zero =>
    intro _
    refine ⟨?_, by rw [show ((r.burnTo (r.N + 1)).minted.payTo rest 0).bids = r.bids from hb1]; exact bl, fun a ha => ?_⟩
    · have hz : s.p1.payS s.stand 0 = { s.p1 with treasury := s.p1.treasury + s.p1.fresh } := by
        unfold PS.payS
        rw [PS.mapTo_zero]
        simp [sumTo]
      rw [hz]
      show Bk ((r.burnTo (r.N + 1)).book ++ [⟨0, 0, 0, 4, 0, 0, (r.burnTo (r.N + 1)).fresh⟩]) _
      rw [hfe]
      refine (burn_all g sm h).acc ⟨0, 0, 0, 4, 0, 0, s.p1.fresh⟩ (a := 0) (by omega) rfl rfl (fun i hi => rfl) (.inr (.inr ⟨rfl, rfl⟩)) (.inl rfl) (fun h => by cases h) (fun h => by cases h) ?_ ?_ ?_ ?_ ?_ ?_
      · simp [Mv.toIn, Mv.fromIn]
      · simp [Mv.toIn, Mv.fromIn]
      · simp [Mv.toIn, Mv.fromIn]
      · simp [Mv.toIn, Mv.fromIn]
      · simp [Mv.toIn, Mv.fromIn]
      · intro j hj; simp [Mv.toAt, Mv.fromAt]
    · show (r.burnTo (r.N + 1)).minted.bids.getD a 0 = _
      rw [hb1, bid a ha]
      show _ = ((s.p1.mapTo (payF s.p1 s.stand s.p1.rest) 0).acc a).bid
      rw [PS.mapTo_zero, hp1]
  | succ k ih =>
    intro hk
    obtain ⟨i1, i2, i3⟩ := ih (by omega)
    have hpk := hpd k (by omega)
    have hst : (r.burnTo (r.N + 1)).minted.payTo rest (k + 1) = { ((r.burnTo (r.N + 1)).minted.payTo rest k).push ⟨4, 0, 0, 2, k, 0, (r.burnTo (r.N + 1)).minted.paid k rest⟩ with bids := if k < (r.burnTo (r.N + 1)).minted.N then ((r.burnTo (r.N + 1)).minted.payTo rest k).bids.set k ((r.burnTo (r.N + 1)).minted.bids.getD k 0 + (r.burnTo (r.N + 1)).minted.paid k rest) else ((r.burnTo (r.N + 1)).minted.payTo rest k).bids } := rfl
    rw [hpk, hmN, hb1] at hst
    have ho : (s.p1.payS s.stand k).acc k = s.p1.acc k := PS.mapTo_at _ _ _
    have hacc : (s.p1.payS s.stand (k + 1)).acc k = payF s.p1 s.stand rest k (s.p1.acc k) := by
      show (s.p1.mapTo (payF s.p1 s.stand s.p1.rest) (k + 1)).acc k = _
      rw [PS.mapTo_new, hR]
    have hn : (s.p1.payS s.stand (k + 1)).acc k = { s.p1.acc k with locked := (s.p1.acc k).locked + s.p1.pays s.stand rest k, bid := if k < s.N then (s.p1.acc k).bid + s.p1.pays s.stand rest k else (s.p1.acc k).bid } := by
      rw [hacc]
      unfold payF
      by_cases e : s.stand k = 1
      · rw [if_pos e]; rfl
      · rw [if_neg e]
        have : s.p1.pays s.stand rest k = 0 := by unfold PS.pays; rw [if_neg e]
        rw [this]; simp
    rw [hst]
    refine ⟨?_, ?_, fun a ha => ?_⟩
    · refine i1.acc ⟨4, 0, 0, 2, k, 0, s.p1.pays s.stand rest k⟩ (a := k) (by show k ≤ s.N; omega) rfl rfl (fun i hi => PS.mapTo_oth s.p1 _ k hi) (.inr (.inl ⟨.inr (.inl rfl), rfl⟩)) (.inr (.inr ⟨rfl, rfl⟩)) (fun h => by cases h) (fun h => by cases h) ?_ ?_ ?_ ?_ ?_ ?_
      · rw [hn, ho]; simp [Mv.toIn, Mv.fromIn]
      · rw [hn, ho]; simp [Mv.toIn, Mv.fromIn]
      · rw [hn, ho]; simp [Mv.toIn, Mv.fromIn, Acc.queued]
      · rw [hn, ho]; simp [Mv.toIn, Mv.fromIn]
      · show s.p1.treasury + s.p1.fresh - sumTo (s.p1.pays s.stand s.p1.rest) (k + 1) = s.p1.treasury + s.p1.fresh - sumTo (s.p1.pays s.stand s.p1.rest) k + _ - _
        rw [hR]
        simp [Mv.toIn, Mv.fromIn, sumTo]
        omega
      · intro j hj; rw [hn, ho]; simp [Mv.toAt, Mv.fromAt]
    · show (if k < s.N then (((r.burnTo (r.N + 1)).minted.payTo rest k).bids.set k _) else ((r.burnTo (r.N + 1)).minted.payTo rest k).bids).length = _
      split
      · rw [List.length_set]; exact i2
      · exact i2
    · show (if k < s.N then (((r.burnTo (r.N + 1)).minted.payTo rest k).bids.set k (r.bids.getD k 0 + s.p1.pays s.stand rest k)) else ((r.burnTo (r.N + 1)).minted.payTo rest k).bids).getD a 0 = _
      by_cases e : a = k
      · subst e
        rw [hn]
        by_cases e2 : a < s.N
        · rw [if_pos e2]
          show _ = if a < s.N then (s.p1.acc a).bid + s.p1.pays s.stand rest a else (s.p1.acc a).bid
          rw [if_pos e2, hp1, bid a ha]
          have : a < ((r.burnTo (r.N + 1)).minted.payTo rest a).bids.length := by omega
          simp [List.getD, this]
        · rw [if_neg e2]
          show _ = if a < s.N then (s.p1.acc a).bid + s.p1.pays s.stand rest a else (s.p1.acc a).bid
          rw [if_neg e2, i3 a ha, ho]
      · have hoth : ((s.p1.payS s.stand (k + 1)).acc a).bid = ((s.p1.payS s.stand k).acc a).bid := by
          show ((s.p1.mapTo (payF s.p1 s.stand s.p1.rest) (k + 1)).acc a).bid = ((s.p1.mapTo (payF s.p1 s.stand s.p1.rest) k).acc a).bid
          rw [PS.mapTo_oth _ _ _ e]
        rw [hoth, ← i3 a ha]
        split
        · rw [getD_set_ne _ _ _ _ (fun e2 => e e2.symm)]
        · rfl
end
end Go.Proofs.Ytiokecadnmcpeab
namespace Go.Proofs.Ytiokecadnmcpeab
set_option linter.unusedVariables false
set_option linter.unusedSimpArgs false

theorem updQ_same (q : Nat → Int) (k : Nat) (n : Int) : updQ q k n k = n := by simp [updQ]
theorem updQ_oth (q : Nat → Int) {k j : Nat} (n : Int) (h : j ≠ k) : updQ q k n j = q j := by simp [updQ, h]
theorem Acc.unlock_queued (c : Acc) (n : Int) (k : Nat) (hk : k < 5) : (c.unlock n k).queued = c.queued + n := updQ_queued c k hk n

/-- A part of what is locked is queued: the book's move. -/
theorem Bk.unlock {b : List Mv} {s s' : PS} (h : Bk b s) {a q : Nat} (ha : a ≤ s.N) (hq : q < 5) (n e : Int) (he : e = s.epoch + 1 + q) (hN : s'.N = s.N) (hep : s'.epoch = s.epoch) (ht : s'.treasury = s.treasury) (hoth : ∀ i, i ≠ a → s'.acc i = s.acc i)
    (hl : (s'.acc a).liquid = (s.acc a).liquid) (hk : (s'.acc a).locked = (s.acc a).locked - n) (hs : (s'.acc a).shares = (s.acc a).shares) (hd : (s'.acc a).q = updQ (s.acc a).q q ((s.acc a).q q + n)) : Bk (b ++ [⟨2, a, 0, 3, a, e, n⟩]) s' := by
  have hque : (s'.acc a).queued = (s.acc a).queued + n := by
    have := updQ_queued (s.acc a) q hq n
    unfold Acc.queued at *
    rw [hd]
    exact this
  refine h.acc ⟨2, a, 0, 3, a, e, n⟩ (a := a) ha hN hep hoth (.inr (.inl ⟨.inr (.inr (.inl rfl)), rfl⟩)) (.inr (.inl ⟨.inr (.inl rfl), rfl⟩)) (fun _ => by show s.epoch < e ∧ e ≤ s.epoch + 5; omega) (fun h => by cases h) ?_ ?_ ?_ ?_ ?_ ?_
  · rw [hl]; simp [Mv.toIn, Mv.fromIn]
  · rw [hk]; simp [Mv.toIn, Mv.fromIn]
  · rw [hque]; simp [Mv.toIn, Mv.fromIn]
  · rw [hs]; simp [Mv.toIn, Mv.fromIn]
  · rw [ht]; simp [Mv.toIn, Mv.fromIn]
  · intro j hj
    rw [hd]
    by_cases e2 : j = q
    · subst e2; rw [updQ_same]; simp [Mv.toAt, Mv.fromAt, he]
    · rw [updQ_oth _ _ e2]
      have : ¬ e = s.epoch + 1 + (j : Int) := by omega
      simp [Mv.toAt, Mv.fromAt, this]

section
variable {s : PS} {r : RS}

theorem money_alikeS (sm : Same s r) : r.money.epoch = s.epoch ∧ r.money.delay = s.delay ∧ r.money.N = s.N := ⟨r.money_alike.epoch.trans sm.epoch.symm, r.money_alike.delay.trans sm.delay.symm, r.money_alike.N.trans sm.N.symm⟩

theorem away_bk (g : s.Good) (sm : Same s r) (h2 : Bk r.money.book s.p2) (bl : r.money.bids.length = s.N + 1) (bid : ∀ a, a ≤ s.N → r.money.bids.getD a 0 = (s.p2.acc a).bid) : ∀ k, k ≤ s.N + 1 →
    Bk (r.money.awayTo r.gone k).book (s.p2.mapTo (dismissF s.stand (s.delay - 1).toNat) k) ∧ (r.money.awayTo r.gone k).bids.length = s.N + 1 ∧ ∀ a, a ≤ s.N → (r.money.awayTo r.gone k).bids.getD a 0 = ((s.p2.mapTo (dismissF s.stand (s.delay - 1).toNat) k).acc a).bid := by
  have hde := g.delay
  obtain ⟨m1, m2, m3⟩ := money_alikeS sm
  have hN2 : s.p2.N = s.N := rfl
  have hE2 : s.p2.epoch = s.epoch := rfl
  intro k
  induction k with
  | zero => intro _; rw [PS.mapTo_zero]; exact ⟨h2, bl, bid⟩
  | succ k ih =>
    intro hk
    obtain ⟨i1, i2, i3⟩ := ih (by omega)
    have hg := sm.gone k (by omega)
    simp only [RS.awayTo]
    by_cases e : r.gone.getD k false = true
    · rw [if_pos e]
      have e3 := hg.1 e
      have ho := PS.mapTo_at s.p2 (dismissF s.stand (s.delay - 1).toNat) k
      have hn : (s.p2.mapTo (dismissF s.stand (s.delay - 1).toNat) (k + 1)).acc k = (s.p2.acc k).quit (s.delay - 1).toNat := by rw [PS.mapTo_new]; unfold dismissF; rw [if_pos e3]
      have ha : allOf (r.money.awayTo r.gone k).book 2 k = (s.p2.acc k).locked := by
        rw [i1.all 2 k (by omega) (by omega) (by show k ≤ s.N; omega)]
        show ((s.p2.mapTo (dismissF s.stand (s.delay - 1).toNat) k).acc k).locked = _
        rw [PS.mapTo_at]
      rw [ha]
      refine ⟨?_, by show ((r.money.awayTo r.gone k).bids.set k 0).length = _; rw [List.length_set]; exact i2, fun a haN => ?_⟩
      · refine i1.unlock (a := k) (q := (s.delay - 1).toNat) (by show k ≤ s.N; omega) (by omega) (s.p2.acc k).locked _ (by rw [m1, m2]; show _ = s.epoch + 1 + _; omega) rfl rfl rfl (fun i hi => PS.mapTo_oth _ _ k hi) ?_ ?_ ?_ ?_
        · rw [hn, ho]; rfl
        · rw [hn, ho]; rfl
        · rw [hn, ho]; rfl
        · rw [hn, ho]; rfl
      · show ((r.money.awayTo r.gone k).bids.set k 0).getD a 0 = _
        by_cases e4 : a = k
        · subst e4
          rw [hn]
          have : a < (r.money.awayTo r.gone a).bids.length := by omega
          simp [List.getD, this, Acc.quit]
        · rw [getD_set_ne _ _ _ _ (fun e5 => e4 e5.symm), i3 a haN, PS.mapTo_oth _ _ _ e4]
    · rw [if_neg e, ← PS.mapTo_same _ _ _ (by unfold dismissF; rw [if_neg (fun e3 => e (hg.2 e3))])]
      exact ⟨i1, i2, i3⟩
theorem away_far (g : s.Good) (hl : s.Low) : s.p3 = s.p2.mapTo (dismissF s.stand (s.delay - 1).toNat) (s.N + 1) :=
  PS.mapTo_far _ _ (s.N + 1) 7 (by have := g.N6; omega) (fun a h1 h2 => by unfold dismissF; rw [if_neg (by rw [PS.stand_farN g a (by omega)]; omega)])

/-- What is due comes back, by the old epoch's number. -/
def homeF (_ : Nat) (c : Acc) : Acc := { c with liquid := c.liquid + c.q 0, q := updQ c.q 0 0 }
theorem home_tot (a : Nat) (c : Acc) : (homeF a c).tot = c.tot := by
  unfold Acc.tot Acc.queued homeF updQ
  simp
  omega
theorem Acc.Pos.home {c : Acc} (h : c.Pos) (a : Nat) : (homeF a c).Pos :=
  ⟨by show 0 ≤ c.liquid + c.q 0; have := h.l0; have := h.q0 0 (by omega); omega, h.k0, h.b0, h.b1, h.s0, h.s1, h.h0, fun j hj => by
    show 0 ≤ updQ c.q 0 0 j
    unfold updQ
    split
    · exact Int.le_refl _
    · exact h.q0 j hj⟩
theorem home_zero (a : Nat) : homeF a Acc.zero = Acc.zero := by simp [homeF, Acc.zero, updQ_zero]
theorem PS.Good.homeTo (h : s.Good) (k : Nat) : (s.mapTo homeF k).Good :=
  h.map _ k (fun a ha _ => (h.pos a ha).home a) (fun a ha _ => Int.le_of_eq (home_tot a _)) (fun a ha _ => rfl) (fun a ha => home_zero a)
theorem home_bk (h : Bk r.book s) (hN : r.N = s.N) (he : r.epoch = s.epoch) : ∀ k, k ≤ s.N + 1 → Bk (r.homeTo k).book (s.mapTo homeF k) := by
  intro k
  induction k with
  | zero => intro _; rw [PS.mapTo_zero]; exact h
  | succ k ih =>
    intro hk
    have i1 := ih (by omega)
    have ho := PS.mapTo_at s homeF k
    have hn := PS.mapTo_new s homeF k
    have hE : (s.mapTo homeF k).epoch = s.epoch := rfl
    have ha : atOf (r.homeTo k).book 3 k (r.epoch + 1) = (s.acc k).q 0 := by
      rw [i1.due k _ (by show k ≤ s.N; omega)]
      unfold PS.dueOf
      rw [hE, he, if_pos (by omega), ho]
      rw [show (s.epoch + 1 - s.epoch - 1).toNat = 0 by omega]
    show Bk ((r.homeTo k).book ++ [⟨3, k, r.epoch + 1, 1, k, 0, atOf (r.homeTo k).book 3 k (r.epoch + 1)⟩]) _
    rw [ha]
    refine i1.acc ⟨3, k, r.epoch + 1, 1, k, 0, (s.acc k).q 0⟩ (a := k) (by show k ≤ s.N; omega) rfl rfl (fun i hi => PS.mapTo_oth s _ k hi) (.inr (.inl ⟨.inl rfl, rfl⟩)) (.inr (.inl ⟨.inr (.inr (.inl rfl)), rfl⟩)) (fun h => by cases h) (fun _ => by show s.epoch < r.epoch + 1 ∧ r.epoch + 1 ≤ s.epoch + 5; omega) ?_ ?_ ?_ ?_ ?_ ?_
    · rw [hn, ho]; simp [Mv.toIn, Mv.fromIn, homeF]
    · rw [hn, ho]; simp [Mv.toIn, Mv.fromIn, homeF]
    · rw [hn, ho]; simp [Mv.toIn, Mv.fromIn, homeF, Acc.queued, updQ]; omega
    · rw [hn, ho]; simp [Mv.toIn, Mv.fromIn, homeF]
    · simp [Mv.toIn, Mv.fromIn, PS.mapTo]
    · intro j hj
      rw [hn, ho, hE]
      show updQ (s.acc k).q 0 0 j = _
      by_cases e2 : j = 0
      · subst e2; rw [updQ_same]; simp [Mv.toAt, Mv.fromAt, he]
      · rw [updQ_oth _ _ e2]
        have : ¬ r.epoch + 1 = s.epoch + 1 + (j : Int) := by omega
        simp [Mv.toAt, Mv.fromAt, this]
theorem home_far (g : s.Good) : s.mapTo homeF 7 = s.mapTo homeF (s.N + 1) :=
  PS.mapTo_far _ _ (s.N + 1) 7 (by have := g.N6; omega) (fun a h1 h2 => by rw [g.far a (by omega), home_zero])
/-- The same book, by the new epoch's number. -/
theorem Bk.rebase {b : List Mv} (g : s.Good) (h : Bk b (s.mapTo homeF 7)) : Bk b s.begin := by
  have hN6 := g.N6
  have hacc : ∀ a, a ≤ s.N → (s.begin.acc a).liquid = ((s.mapTo homeF 7).acc a).liquid ∧ (s.begin.acc a).locked = ((s.mapTo homeF 7).acc a).locked ∧ (s.begin.acc a).queued = ((s.mapTo homeF 7).acc a).queued ∧ (s.begin.acc a).shares = ((s.mapTo homeF 7).acc a).shares := fun a ha => by
    have e1 : s.begin.acc a = (s.acc a).back := by show (if a < 7 then (s.acc a).back else s.acc a) = _; rw [if_pos (by omega)]
    have e2 : (s.mapTo homeF 7).acc a = homeF a (s.acc a) := by rw [PS.mapTo_acc, if_pos (by omega)]
    rw [e1, e2]
    refine ⟨rfl, rfl, ?_, rfl⟩
    unfold Acc.queued Acc.back homeF updQ shiftQ
    simp
  have hamt : ∀ (k : Int) (a : Nat), a ≤ s.N → s.begin.amt k a = (s.mapTo homeF 7).amt k a := fun k a ha => by
    obtain ⟨a1, a2, a3, a4⟩ := hacc a ha
    unfold PS.amt
    rw [a1, a2, a3, a4]
    rfl
  refine ⟨fun k a h1 h5 ha => ?_, fun k h1 h5 => ?_, fun a e ha => ?_⟩
  · rw [h.all k a h1 h5 ha, hamt k a ha]
  · rw [h.sum k h1 h5]
    exact sumTo_congr _ (fun a ha => (hamt k a (by show a ≤ s.N; have : (s.mapTo homeF 7).N = s.N := rfl; omega)).symm)
  · rw [h.due a e ha]
    have ha' : a ≤ s.N := ha
    have e1 : s.begin.acc a = (s.acc a).back := by show (if a < 7 then (s.acc a).back else s.acc a) = _; rw [if_pos (by omega)]
    have e2 : (s.mapTo homeF 7).acc a = homeF a (s.acc a) := by rw [PS.mapTo_acc, if_pos (by omega)]
    unfold PS.dueOf
    rw [e1, e2]
    show (if s.epoch < e ∧ e ≤ s.epoch + 5 then updQ (s.acc a).q 0 0 (e - s.epoch - 1).toNat else 0) = if s.epoch + 1 < e ∧ e ≤ s.epoch + 1 + 5 then updQ (shiftQ (s.acc a).q 4) 4 0 (e - (s.epoch + 1) - 1).toNat else 0
    by_cases h1 : s.epoch < e ∧ e ≤ s.epoch + 5
    · rw [if_pos h1]
      by_cases h2 : e = s.epoch + 1
      · rw [if_neg (by omega), show (e - s.epoch - 1).toNat = 0 by omega, updQ_same]
      · rw [if_pos (by omega), updQ_oth _ _ (by omega), updQ_oth _ _ (by omega)]
        unfold shiftQ
        rw [if_pos (by omega), show (e - (s.epoch + 1) - 1).toNat + 1 = (e - s.epoch - 1).toNat by omega]
    · rw [if_neg h1]
      by_cases h2 : e = s.epoch + 6
      · rw [if_pos (by omega), show (e - (s.epoch + 1) - 1).toNat = 4 by omega, updQ_same]
      · rw [if_neg (by omega)]
theorem pool_bk {b : List Mv} (g : s.Good) (h : Bk b s) : Bk (b ++ [⟨1, s.N, 0, 2, s.N, 0, allOf b 1 s.N⟩]) s.lockPool := by
  have ha : allOf b 1 s.N = (s.acc s.N).liquid := h.all 1 s.N (by omega) (by omega) (Nat.le_refl _)
  have hn : s.lockPool.acc s.N = (s.acc s.N).pool := PS.setAcc_same _ _ _
  rw [ha]
  refine h.acc ⟨1, s.N, 0, 2, s.N, 0, (s.acc s.N).liquid⟩ (a := s.N) (Nat.le_refl _) rfl rfl (fun i hi => PS.setAcc_other _ _ hi) (.inr (.inl ⟨.inr (.inl rfl), rfl⟩)) (.inr (.inl ⟨.inl rfl, rfl⟩)) (fun h => by cases h) (fun h => by cases h) ?_ ?_ ?_ ?_ ?_ ?_
  · rw [hn]; simp [Mv.toIn, Mv.fromIn, Acc.pool]
  · rw [hn]; simp [Mv.toIn, Mv.fromIn, Acc.pool]
  · rw [hn]; simp [Mv.toIn, Mv.fromIn, Acc.pool, Acc.queued]
  · rw [hn]; simp [Mv.toIn, Mv.fromIn, Acc.pool]
  · simp [Mv.toIn, Mv.fromIn, PS.lockPool, PS.setAcc]
  · intro j hj; rw [hn]; simp [Mv.toAt, Mv.fromAt, Acc.pool]
/-- What is locked above the bids is queued. -/
theorem lower_bk (h : Bk r.book s) (lo : s.Low) (hN : r.N = s.N) (hN6 : s.N ≤ 6) (bid : ∀ a, a ≤ s.N → r.bids.getD a 0 = (s.acc a).bid) (q : Nat) (hq : q < 5) (he : r.epoch + r.delay = s.epoch + 1 + q) : ∀ k, k ≤ s.N → Bk (r.backTo k).book (s.mapTo (lowerF q) k) := by
  intro k
  induction k with
  | zero => intro _; rw [PS.mapTo_zero]; exact h
  | succ k ih =>
    intro hk
    have i1 := ih (by omega)
    have ho := PS.mapTo_at s (lowerF q) k
    have hn : (s.mapTo (lowerF q) (k + 1)).acc k = (s.acc k).unlock ((s.acc k).locked - (s.acc k).bid) q := by
      rw [PS.mapTo_new]
      unfold lowerF
      by_cases e : (s.acc k).bid < (s.acc k).locked
      · rw [if_pos e]
      · rw [if_neg e]
        have hlo := lo k (by omega)
        have ez : (s.acc k).locked - (s.acc k).bid = 0 := by omega
        rw [ez]
        unfold Acc.unlock
        have eq : updQ (s.acc k).q q ((s.acc k).q q + 0) = (s.acc k).q := by
          funext j
          by_cases e2 : j = q
          · subst e2; rw [updQ_same]; omega
          · rw [updQ_oth _ _ e2]
        rw [eq, Int.sub_zero]
    have ha : allOf (r.backTo k).book 2 k = (s.acc k).locked := by
      rw [i1.all 2 k (by omega) (by omega) (by show k ≤ s.N; omega)]
      show ((s.mapTo (lowerF q) k).acc k).locked = _
      rw [PS.mapTo_at]
    show Bk ((r.backTo k).book ++ [⟨2, k, 0, 3, k, r.epoch + r.delay, allOf (r.backTo k).book 2 k - r.bids.getD k 0⟩]) _
    rw [ha, bid k (by omega)]
    refine i1.unlock (a := k) (q := q) (by show k ≤ s.N; omega) hq ((s.acc k).locked - (s.acc k).bid) _ he rfl rfl rfl (fun i hi => PS.mapTo_oth _ _ k hi) ?_ ?_ ?_ ?_
    · rw [hn, ho]; rfl
    · rw [hn, ho]; rfl
    · rw [hn, ho]; rfl
    · rw [hn, ho]; rfl
end
end Go.Proofs.Ytiokecadnmcpeab
