import Derived.Test.YtiokecadnmcpeabPA
import Derived.Deep.RegionHeld3
namespace Go.Proofs.Ytiokecadnmcpeab
set_option linter.unusedVariables false
set_option linter.unusedSimpArgs false
open Go.ChangeShapes Go.WideShapes Go.ChangeAt Go.RowKit

/-- The accounts below k are turned by f. -/
def PS.mapTo (s : PS) (f : Nat → Acc → Acc) (k : Nat) : PS := { s with acc := fun a => if a < k then f a (s.acc a) else s.acc a }
theorem PS.mapTo_zero (s : PS) (f : Nat → Acc → Acc) : s.mapTo f 0 = s := by cases s; simp [PS.mapTo]
theorem PS.mapTo_at (s : PS) (f : Nat → Acc → Acc) (k : Nat) : (s.mapTo f k).acc k = s.acc k := by simp [PS.mapTo]
theorem PS.mapTo_step (s : PS) (f : Nat → Acc → Acc) (k : Nat) : (s.mapTo f k).setAcc k (f k (s.acc k)) = s.mapTo f (k + 1) := by
  simp only [PS.setAcc, PS.mapTo, PS.mk.injEq, true_and, and_true]
  funext b
  by_cases e : b = k
  · subst e; simp
  · by_cases h : b < k
    · simp [e, h, show b < k + 1 by omega]
    · simp [e, h, show ¬ b < k + 1 by omega]
theorem PS.mapTo_same (s : PS) (f : Nat → Acc → Acc) (k : Nat) (h : f k (s.acc k) = s.acc k) : s.mapTo f k = s.mapTo f (k + 1) := by
  rw [← PS.mapTo_step, h, ← PS.mapTo_at s f k, PS.setAcc_self]

def burnF (j : Nat → Int) (a : Nat) (c : Acc) : Acc := if j a = 3 then { c with locked := c.locked - c.locked / 2 } else c
def PS.burn (s : PS) (j : Nat → Int) : PS := s.mapTo (burnF j) 7

section
variable {w : World} {x : Nat} {s : PS}

set_option maxHeartbeats 1600000 in
theorem burn_ok (h : SC w x s) (ok : s.Ok) (j : Nat → Int) :
    Calls Try.prog 26 #[.pointer (some ⟨x, 0, none⟩), .agg (arrI 7 j)] w fun e w' => e = .returned (.tuple #[]) ∧ PTo w x w' (s.burn j) := by
  have hidx := hid (idx7 j)
  obtain ⟨A, hA⟩ : ∃ A, A = arrI 7 j := ⟨_, rfl⟩
  rw [← hA] at hidx ⊢
  have hsz : A.size = 7 := by rw [hA, arrI_size]
  clear hA
  unfold PS.burn
  have G := heap_alloc_new w (.cells A 74)
  have T0 := hid (PTo.ofBelow h ((Below.refl w.heap.size w).alloc (Nat.le_refl _) (.cells A 74)))
  go_enter Try.func26, Try.ntmps26
  go_wp2_with (refine wpList_load_row rfl 74 _ rfl w.heap.size rfl 74 A (0, 0) _ G Try.underlying74 rfl (by rw [info_st, hsz]) ?_)
  go_loopw [8] (fun i wr => ∃ k : Nat, k ≤ 7 ∧ i = .int .i64 k ∧ PTo w x wr (s.mapTo (burnF j) k)) (fun i _ => 7 - (intOf i).toNat)
  case atStart => exact ⟨0, by omega, rfl, by rw [PS.mapTo_zero]; exact T0.out⟩
  case round =>
    clear T0 G
    obtain ⟨k, hk, rfl, T⟩ := hrel
    by_cases hlt : k < 7
    · have hi := hidx.out k hlt
      have i1 : (k : Int) < 7 := by omega
      have c1 : wr.cell? ⟨x, 10 + k * 11 + 1, none⟩ = some (.int .i64 (s.acc k).locked) := by have := T.sc.at hlt (j := 1) (by omega); rwa [PS.mapTo_at] at this
      have f1 : wr.frozen? ⟨x, 10 + k * 11 + 1, none⟩ = false := T.sc.frozen _
      have k0 := (ok.acc k hlt).k0
      have k1 := (ok.acc k hlt).k1
      by_cases h3 : j k = 3
      · have t2 := T.trans (T.sc.setLock hlt ((s.acc k).locked - (s.acc k).locked / 2))
        rw [PS.mapTo_at] at t2
        have H2 := hid (show PTo w x _ (s.mapTo (burnF j) (k + 1)) by rw [← PS.mapTo_step]; unfold burnF; rw [if_pos h3]; exact t2)
        rw [h3] at hi
        clear T t2 hidx h3
        generalize (s.acc k).locked = lo at *
        go_wp2_with fail
        go_region
        go_wp2_with fail
        go_roundw
        case rel => exact ⟨k + 1, by omega, by go_num, H2.out.same rfl rfl rfl rfl⟩
        case measure => simp [intOf]; omega
      · have H2 := hid (show PTo w x wr (s.mapTo (burnF j) (k + 1)) by rw [← PS.mapTo_same _ _ _ (by unfold burnF; rw [if_neg h3])]; exact T)
        have h3' : (j k == 3) = false := by simpa using h3
        clear T hidx c1 f1
        go_wp2_with fail
        go_roundw
        case rel => exact ⟨k + 1, by omega, by go_num, H2.out⟩
        case measure => simp [intOf]; omega
    · have hk7 : k = 7 := by omega
      subst hk7
      go_wp2_with fail
      go_end0
      exact ⟨rfl, T⟩

/-- The new money. -/
def PS.fresh (s : PS) : Int := if 1000000000 - s.supply < s.supply * s.rate / 1000 then 1000000000 - s.supply else s.supply * s.rate / 1000

set_option maxHeartbeats 800000 in
theorem newmoney_ok (h : SC w x s) (ok : s.Ok) (h0 : 0 ≤ s.supply) (h1 : s.supply ≤ 1000000000) :
    Calls Try.prog 48 #[.pointer (some ⟨x, 0, none⟩)] w fun e w' => e = .returned (.int .i64 s.fresh) ∧ Below w.heap.size w w' := by
  obtain ⟨f, hf⟩ : ∃ f, s.fresh = f := ⟨_, rfl⟩
  rw [hf]
  unfold PS.fresh at hf
  have hm := pmul_bd h0 h1 ok.rate.1 ok.rate.2
  go_enter Try.func48, Try.ntmps48
  go_wp2_with fail
  refine (supply_any h ok).mono ?_
  rintro e w1 ⟨rfl, n, rfl⟩
  have c3 : (w.drewN n).cell? ⟨x, 3, none⟩ = some (.int .i64 s.rate) := (h.dn n).num (j := 3) (by omega)
  generalize s.supply = S at *
  by_cases hc : 1000000000 - S < S * s.rate / 1000
  · have HF := hid (show f = 1000000000 - S by rw [← hf, if_pos hc])
    have dd : decide (1000000000 - S < S * s.rate / 1000) = true := by simpa using hc
    clear hf hc
    go_wp2_with fail
    go_ret
    exact ⟨by rw [HF.out]; rfl, below_dn (Below.refl _ _) n⟩
  · have HF := hid (show f = S * s.rate / 1000 by rw [← hf, if_neg hc])
    have dd : decide (1000000000 - S < S * s.rate / 1000) = false := by simpa using hc
    clear hf hc
    go_wp2_with fail
    go_ret
    exact ⟨by rw [HF.out]; rfl, below_dn (Below.refl _ _) n⟩

def Acc.reward (c : Acc) (n : Int) (p : Prop) [Decidable p] : Acc := { c with locked := c.locked + n, bid := if p then c.bid + n else c.bid }

set_option maxHeartbeats 800000 in
theorem reward_ok (h : SC w x s) (ok : s.Cf) (a : Nat) (ha : a < 7) (n : Int) (hn : 0 ≤ n ∧ n ≤ 20000000000) (hb : 0 ≤ (s.acc a).locked ∧ (s.acc a).locked ≤ 20000000000) (hb2 : 0 ≤ (s.acc a).bid ∧ (s.acc a).bid ≤ 20000000000) :
    Calls Try.prog 50 #[.pointer (some ⟨x, 0, none⟩), .int .i64 a, .int .i64 n] w fun e w' => e = .returned (.tuple #[]) ∧ PTo w x w' (s.setAcc a ((s.acc a).reward n (a < s.N))) := by
  have i1 : (a : Int) < 7 := by omega
  have c1 : w.cell? ⟨x, 10 + a * 11 + 1, none⟩ = some (.int .i64 (s.acc a).locked) := h.at ha (j := 1) (by omega)
  have f1 : w.frozen? ⟨x, 10 + a * 11 + 1, none⟩ = false := h.frozen _
  have t1 := h.setLock ha ((s.acc a).locked + n)
  have h1 := t1.sc
  have ok1 : (s.setAcc a { s.acc a with locked := (s.acc a).locked + n }).Cf := ⟨ok.N1, ok.N6, ok.e0, ok.e1, ok.seats, ok.delay, ok.rate, ok.cut, ok.length, ok.need, ok.rlen⟩
  have c2 : (w.setCell ⟨x, 10 + a * 11 + 1, none⟩ (.int .i64 ((s.acc a).locked + n))).cell? ⟨x, 10 + a * 11 + 2, none⟩ = some (.int .i64 (s.acc a).bid) := by have := h1.at ha (j := 2) (by omega); rw [PS.setAcc_same] at this; exact this
  have f2 : (w.setCell ⟨x, 10 + a * 11 + 1, none⟩ (.int .i64 ((s.acc a).locked + n))).frozen? ⟨x, 10 + a * 11 + 2, none⟩ = false := h1.frozen _
  have hN6 := ok.N6
  have hN1 := ok.N1
  by_cases hp : a < s.N
  · have t2 := t1.trans (h1.setBid ha ((s.acc a).bid + n))
    rw [PS.setAcc_same, PS.setAcc_setAcc] at t2
    have H2 := hid (show PTo w x _ (s.setAcc a ((s.acc a).reward n (a < s.N))) by unfold Acc.reward; simp only [if_pos hp]; exact t2)
    have g1 : (0 : Int) ≤ (a : Int) := by omega
    have g2 : (a : Int) ≤ (s.N : Int) - 1 := by omega
    generalize s.setAcc a ((s.acc a).reward n (a < s.N)) = s' at *
    clear t1 t2
    go_enter Try.func50, Try.ntmps50
    go_wp2_with fail
    refine (isper_yes h1 ok1 a g1 g2).mono ?_
    rintro e w1 ⟨rfl, hw⟩
    subst hw
    go_wp2_with fail
    go_end0
    exact ⟨rfl, H2.out⟩
  · have H2 := hid (show PTo w x _ (s.setAcc a ((s.acc a).reward n (a < s.N))) by unfold Acc.reward; simp only [if_neg hp]; exact t1)
    have hg := hid (show ¬ (0 ≤ (a : Int) ∧ (a : Int) ≤ (s.N : Int) - 1) by omega)
    generalize s.setAcc a ((s.acc a).reward n (a < s.N)) = s' at *
    clear t1
    go_enter Try.func50, Try.ntmps50
    go_wp2_with fail
    refine (isper_no h1 ok1 a hg.out).mono ?_
    rintro e w1 ⟨rfl, hw⟩
    subst hw
    go_wp2_with fail
    go_end0
    exact ⟨rfl, H2.out⟩

/-- What an account is paid, of the rest. -/
def PS.pays (s : PS) (j : Nat → Int) (rest : Int) (a : Nat) : Int := if j a = 1 then rest * s.made a / s.length else 0
def payF (s : PS) (j : Nat → Int) (rest : Int) (a : Nat) (c : Acc) : Acc := if j a = 1 then c.reward (s.pays j rest a) (a < s.N) else c
def PS.rest (s : PS) : Int := s.fresh - s.fresh * s.cut / 1000
def PS.pay (s : PS) (j : Nat → Int) : PS := { s.mapTo (payF s j s.rest) 7 with treasury := s.treasury + (s.fresh - sumTo (s.pays j s.rest) 7) }
theorem PS.pays_bd {s : PS} (ok : s.Cf) (j : Nat → Int) {rest : Int} (h0 : 0 ≤ rest) (h1 : rest ≤ 1000000000) (a : Nat) : 0 ≤ s.pays j rest a ∧ s.pays j rest a ≤ 20000000000 := by
  unfold PS.pays
  have hm := s.made_bd a
  have hl := ok.length
  have hp := pmul_bd h0 h1 hm.1 hm.2
  split
  · refine ⟨Int.ediv_nonneg hp.1 (by omega), Int.le_trans (Int.ediv_le_self _ hp.1) (by omega)⟩
  · omega
theorem PS.fresh_bd {s : PS} (ok : s.Cf) (h0 : 0 ≤ s.supply) (h1 : s.supply ≤ 1000000000) : 0 ≤ s.fresh ∧ s.fresh + s.supply ≤ 1000000000 := by
  have := Int.ediv_nonneg (Int.mul_nonneg h0 ok.rate.1) (show (0 : Int) ≤ 1000 by omega)
  unfold PS.fresh
  split <;> omega
theorem PS.rest_bd {s : PS} (ok : s.Cf) (h0 : 0 ≤ s.supply) (h1 : s.supply ≤ 1000000000) : 0 ≤ s.rest ∧ s.rest ≤ s.fresh := by
  have hf := s.fresh_bd ok h0 h1
  have hc := ok.cut
  have h1 : 0 ≤ s.fresh * s.cut / 1000 := Int.ediv_nonneg (Int.mul_nonneg hf.1 hc.1) (by omega)
  have h2 : s.fresh * s.cut / 1000 ≤ s.fresh := Int.ediv_le_of_le_mul (by omega) (Int.mul_le_mul_of_nonneg_left hc.2 hf.1)
  unfold PS.rest; omega

set_option maxHeartbeats 1600000 in
theorem pay_ok (h : SC w x s) (ok : s.Ok) (j : Nat → Int) (h0 : 0 ≤ s.supply) (h1 : s.supply ≤ 1000000000) :
    Calls Try.prog 27 #[.pointer (some ⟨x, 0, none⟩), .agg (arrI 7 j)] w fun e w' => e = .returned (.tuple #[]) ∧ PTo w x w' (s.pay j) := by
  have hidx := hid (idx7 j)
  obtain ⟨A, hA⟩ : ∃ A, A = arrI 7 j := ⟨_, rfl⟩
  rw [← hA] at hidx ⊢
  have hsz : A.size = 7 := by rw [hA, arrI_size]
  clear hA
  obtain ⟨sp, hsp⟩ : ∃ sp, s.pay j = sp := ⟨_, rfl⟩
  rw [hsp]
  have HSP := hid (show { s.mapTo (payF s j s.rest) 7 with treasury := s.treasury + (s.fresh - sumTo (s.pays j s.rest) 7) } = sp from hsp)
  clear hsp
  have hfb := s.fresh_bd ok.toCf h0 h1
  have hrb := s.rest_bd ok.toCf h0 h1
  have hfc := pmul_bd hfb.1 (show s.fresh ≤ 1000000000 by omega) ok.cut.1 ok.cut.2
  have hpb := hid (fun a => s.pays_bd ok.toCf j hrb.1 (by omega) a)
  have Hrest := hid (show s.fresh - s.fresh * s.cut / 1000 = s.rest from rfl)
  have hsb := hid (sumTo_bd (s.pays j s.rest) 20000000000 7 (fun k hk => hpb.out k))
  have ht0 := ok.t0
  have ht1 := ok.t1
  have G := heap_alloc_new w (.cells A 74)
  have b0 := (Below.refl w.heap.size w).alloc (Nat.le_refl _) (.cells A 74)
  have hs0 := h.below b0
  go_enter Try.func27, Try.ntmps27
  go_wp2_with fail
  refine (newmoney_ok hs0 ok h0 h1).mono ?_
  rintro e w1 ⟨rfl, b1⟩
  have G1 := (b1.block _ (lt_of_block G)).trans G
  have T1 := hid (PTo.ofBelow h (b0.trans (b1.mono b0.size)))
  have c4 : w1.cell? ⟨x, 4, none⟩ = some (.int .i64 s.cut) := T1.out.sc.num (j := 4) (by omega)
  clear G b0 b1 hs0
  generalize s.fresh = f at *
  go_wp2_with (refine wpList_load_row rfl 74 _ rfl w.heap.size rfl 74 A (0, 0) _ G1 Try.underlying74 rfl (by rw [info_st, hsz]) ?_)
  rw [Hrest.out]
  clear Hrest hfc c4 G1
  go_loopw [4, 22] (fun fv i wr => ∃ k : Nat, k ≤ 7 ∧ i = .int .i64 k ∧ fv = .int .i64 (f - sumTo (s.pays j s.rest) k) ∧ PTo w x wr (s.mapTo (payF s j s.rest) k)) (fun _ i _ => 7 - (intOf i).toNat)
  case atStart => exact ⟨0, by omega, rfl, by simp [sumTo], by rw [PS.mapTo_zero]; exact T1.out⟩
  case round =>
    clear T1
    obtain ⟨k, hk, rfl, rfl, T⟩ := hrel
    have sbk := hsb.out k hk
    have hT := T.sc
    by_cases hlt : k < 7
    · have hi := hidx.out k hlt
      have i1 : (k : Int) < 7 := by omega
      have hpk := hpb.out k
      have SS := hid (show sumTo (s.pays j s.rest) (k + 1) = sumTo (s.pays j s.rest) k + s.pays j s.rest k from rfl)
      have k0 := (ok.acc k hlt).k0
      have k1 := (ok.acc k hlt).k1
      have q0 := (ok.acc k hlt).b0
      have q1 := (ok.acc k hlt).b1
      have okk : (s.mapTo (payF s j s.rest) k).Cf := ⟨ok.N1, ok.N6, ok.e0, ok.e1, ok.seats, ok.delay, ok.rate, ok.cut, ok.length, ok.need, ok.rlen⟩
      generalize sumTo (s.pays j s.rest) k = S at *
      by_cases h1 : j k = 1
      · have hmk : (s.mapTo (payF s j s.rest) k).made k = s.made k := rfl
        have hpe := hid (show s.pays j s.rest k = s.rest * s.made k / s.length by unfold PS.pays; rw [if_pos h1])
        have hmb := s.made_bd k
        have hmm := pmul_bd hrb.1 (show s.rest ≤ 1000000000 by omega) hmb.1 hmb.2
        have c5 : wr.cell? ⟨x, 5, none⟩ = some (.int .i64 s.length) := hT.num (j := 5) (by omega)
        have hst := hid (s.mapTo_step (payF s j s.rest) k)
        have hpf := hid (show payF s j s.rest k (s.acc k) = (s.acc k).reward (s.pays j s.rest k) (k < s.N) by unfold payF; rw [if_pos h1])
        have hlen := ok.length
        have hl0 : ¬ s.length = 0 := by omega
        have hl1 : ¬ s.length = -1 := by omega
        rw [h1] at hi
        clear h1 hidx hpb hsb
        go_wp2_with fail
        go_region_held3 (fun w' => w'.cell? ⟨x, 5, none⟩ = some (.int .i64 s.length)) (go_keep) ((go_at_call 49; refine (made_any (hT.below (Below.refl _ _).drew) okk k).mono ?_; rintro e w1 ⟨rfl, b1⟩; (have d5 : w1.cell? ⟨x, 5, none⟩ = some (.int .i64 s.length) := (b1.cell (block_lt_of_cell c5)).trans c5)))
        go_wp2_with fail
        rw [← hpe.out]
        have T1 := T.drew.below b1
        have e1 : (s.mapTo (payF s j s.rest) k).acc k = s.acc k := PS.mapTo_at _ _ _
        refine (reward_ok T1.sc okk k hlt (s.pays j s.rest k) hpk (by rw [e1]; omega) (by rw [e1]; omega)).mono ?_
        rintro e w2 ⟨rfl, t2⟩
        have H2 := hid (show PTo w x w2 (s.mapTo (payF s j s.rest) (k + 1)) by rw [← hst.out, hpf.out, ← e1]; exact T1.trans t2)
        clear T1 t2 T hT c5 d5 b1
        rw [hpe.out] at SS hpk
        go_wp2_with fail
        go_roundw
        case rel => exact ⟨k + 1, by omega, by go_num, by rw [SS.out]; go_num, H2.out⟩
        case measure => simp [intOf]; omega
      · have H2 := hid (show PTo w x wr (s.mapTo (payF s j s.rest) (k + 1)) by rw [← PS.mapTo_same _ _ _ (by unfold payF; rw [if_neg h1])]; exact T)
        have h1' : (j k == 1) = false := by simpa using h1
        have hp0 := hid (show s.pays j s.rest k = 0 by unfold PS.pays; rw [if_neg h1])
        clear T hT hidx h1
        go_wp2_with fail
        go_roundw
        case rel => exact ⟨k + 1, by omega, by go_num, by rw [SS.out, hp0.out, Int.add_zero], H2.out⟩
        case measure => simp [intOf]; omega
    · have hk7 : k = 7 := by omega
      subst hk7
      have c8 : wr.cell? ⟨x, 8, none⟩ = some (.int .i64 s.treasury) := hT.num (j := 8) (by omega)
      have f8 : wr.frozen? ⟨x, 8, none⟩ = false := hT.frozen _
      have t2 := T.trans (hT.setTreasury (s.treasury + (f - sumTo (s.pays j s.rest) 7)))
      have H2 := hid (show PTo w x _ sp by rw [← HSP.out]; exact t2)
      clear t2 T hT HSP
      generalize sumTo (s.pays j s.rest) 7 = S at *
      go_wp2_with fail
      go_end0
      exact ⟨rfl, H2.out⟩
end
end Go.Proofs.Ytiokecadnmcpeab
namespace Go.Proofs.Ytiokecadnmcpeab
set_option linter.unusedVariables false
set_option linter.unusedSimpArgs false
open Go.ChangeShapes Go.WideShapes Go.ChangeAt Go.RowKit

def dismissF (j : Nat → Int) (q : Nat) (a : Nat) (c : Acc) : Acc := if j a = 3 ∨ j a = 2 then c.quit q else c
def PS.dismiss (s : PS) (j : Nat → Int) (q : Nat) : PS := s.mapTo (dismissF j q) 7
def PS.begin (s : PS) : PS := { s.mapTo (fun _ c => c.back) 7 with epoch := s.epoch + 1 }
def Acc.pool (c : Acc) : Acc := { c with locked := c.locked + c.liquid, liquid := 0 }
def PS.lockPool (s : PS) : PS := s.setAcc s.N (s.acc s.N).pool
def lowerF (q : Nat) (_ : Nat) (c : Acc) : Acc := if c.bid < c.locked then c.unlock (c.locked - c.bid) q else c
def PS.lower (s : PS) (q : Nat) : PS := s.mapTo (lowerF q) s.N

section
variable {w : World} {x : Nat} {s : PS}

set_option maxHeartbeats 1600000 in
theorem dismiss_ok (h : SC w x s) (ok : s.Ok) (j : Nat → Int) (q : Nat) (hq : q < 5) (due : Int) (hd : due - s.epoch = (q : Int) + 1) :
    Calls Try.prog 28 #[.pointer (some ⟨x, 0, none⟩), .agg (arrI 7 j), .int .i64 due] w fun e w' => e = .returned (.tuple #[]) ∧ PTo w x w' (s.dismiss j q) := by
  have hidx := hid (idx7 j)
  obtain ⟨A, hA⟩ : ∃ A, A = arrI 7 j := ⟨_, rfl⟩
  rw [← hA] at hidx ⊢
  have hsz : A.size = 7 := by rw [hA, arrI_size]
  clear hA
  unfold PS.dismiss
  have e0 := ok.e0
  have e1 := ok.e1
  have hdw := hid (show IntKind.i64.wrap (due - s.epoch) = (q : Int) + 1 by rw [hd, IntKind.wrap_i64]; omega)
  have Hd := hid hd
  clear hd
  have G := heap_alloc_new w (.cells A 74)
  have T0 := hid (PTo.ofBelow h ((Below.refl w.heap.size w).alloc (Nat.le_refl _) (.cells A 74)))
  go_enter Try.func28, Try.ntmps28
  go_wp2_with (refine wpList_load_row rfl 74 _ rfl w.heap.size rfl 74 A (0, 0) _ G Try.underlying74 rfl (by rw [info_st, hsz]) ?_)
  go_loopw [9] (fun i wr => ∃ k : Nat, k ≤ 7 ∧ i = .int .i64 k ∧ PTo w x wr (s.mapTo (dismissF j q) k)) (fun i _ => 7 - (intOf i).toNat)
  case atStart => exact ⟨0, by omega, rfl, by rw [PS.mapTo_zero]; exact T0.out⟩
  case round =>
    clear T0 G
    obtain ⟨k, hk, rfl, T⟩ := hrel
    by_cases hlt : k < 7
    · have hi := hidx.out k hlt
      have i1 : (k : Int) < 7 := by omega
      have hT := T.sc
      have c7 : wr.cell? ⟨x, 7, none⟩ = some (.int .i64 s.epoch) := hT.num (j := 7) (by omega)
      have hb1 : 0 ≤ ((s.mapTo (dismissF j q) k).acc k).locked ∧ ((s.mapTo (dismissF j q) k).acc k).locked ≤ 2000000000 := by rw [PS.mapTo_at]; have := (ok.acc k hlt).k0; have := (ok.acc k hlt).k1; omega
      have hb2 : 0 ≤ ((s.mapTo (dismissF j q) k).acc k).q q ∧ ((s.mapTo (dismissF j q) k).acc k).q q ≤ 2000000000 := by rw [PS.mapTo_at]; have := (ok.acc k hlt).q0 q hq; have := (ok.acc k hlt).q1 q hq; omega
      have hst := hid (s.mapTo_step (dismissF j q) k)
      by_cases h3 : j k = 3 ∨ j k = 2
      · have hpf := hid (show dismissF j q k (s.acc k) = (s.acc k).quit q by unfold dismissF; rw [if_pos h3])
        have hat := hid (PS.mapTo_at s (dismissF j q) k)
        rcases h3 with h3 | h3
        · rw [h3] at hi
          clear h3 hidx
          go_wp2_with fail
          go_region_held3 (fun w' => w'.cell? ⟨x, 7, none⟩ = some (.int .i64 s.epoch)) (go_keep) ((go_at_call 51; refine (quit_ok (hT.below (Below.refl _ _).drew) hlt hq (IntKind.i64.wrap (due - s.epoch)) hdw.out hb1 hb2).mono ?_; rintro e w1 ⟨rfl, t1⟩; (have d7 : w1.cell? ⟨x, 7, none⟩ = some (.int .i64 s.epoch) := t1.sc.num (j := 7) (by omega))))
          go_wp2_with fail
          go_roundw
          case rel => exact ⟨k + 1, by omega, by go_num, by rw [← hst.out, hpf.out, ← hat.out]; exact T.drew.trans t1⟩
          case measure => simp [intOf]; omega
        · rw [h3] at hi
          clear h3 hidx
          go_wp2_with fail
          go_region_held3 (fun w' => w'.cell? ⟨x, 7, none⟩ = some (.int .i64 s.epoch)) (go_keep) ((go_at_call 51; refine (quit_ok (hT.below (Below.refl _ _).drew) hlt hq (IntKind.i64.wrap (due - s.epoch)) hdw.out hb1 hb2).mono ?_; rintro e w1 ⟨rfl, t1⟩; (have d7 : w1.cell? ⟨x, 7, none⟩ = some (.int .i64 s.epoch) := t1.sc.num (j := 7) (by omega))))
          go_wp2_with fail
          go_roundw
          case rel => exact ⟨k + 1, by omega, by go_num, by rw [← hst.out, hpf.out, ← hat.out]; exact T.drew.trans t1⟩
          case measure => simp [intOf]; omega
      · have H2 := hid (show PTo w x wr (s.mapTo (dismissF j q) (k + 1)) by rw [← PS.mapTo_same _ _ _ (by unfold dismissF; rw [if_neg h3])]; exact T)
        have h3' : (j k == 3) = false := by simpa using fun e => h3 (.inl e)
        have h2' : (j k == 2) = false := by simpa using fun e => h3 (.inr e)
        clear T hidx h3
        go_wp2_with fail
        go_roundw
        case rel => exact ⟨k + 1, by omega, by go_num, H2.out⟩
        case measure => simp [intOf]; omega
    · have hk7 : k = 7 := by omega
      subst hk7
      go_wp2_with fail
      go_end0
      exact ⟨rfl, T⟩

set_option maxHeartbeats 1600000 in
theorem begin_ok (h : SC w x s) (ok : s.Ok) :
    Calls Try.prog 29 #[.pointer (some ⟨x, 0, none⟩)] w fun e w' => e = .returned (.tuple #[]) ∧ PTo w x w' s.begin := by
  have e0 := ok.e0
  have e1 := ok.e1
  have c7 : w.cell? ⟨x, 7, none⟩ = some (.int .i64 s.epoch) := h.num (j := 7) (by omega)
  have f7 : w.frozen? ⟨x, 7, none⟩ = false := h.frozen _
  have T0 := hid (h.setEpoch (s.epoch + 1))
  obtain ⟨z, hz⟩ : ∃ z : PS, z = { s with epoch := s.epoch + 1 } := ⟨_, rfl⟩
  rw [← hz] at T0
  have HZ := hid (show s.begin = z.mapTo (fun _ c => c.back) 7 by rw [hz]; rfl)
  have hac := hid (show z.acc = s.acc by rw [hz])
  rw [HZ.out]
  clear hz
  go_enter Try.func29, Try.ntmps29
  go_wp2_with fail
  go_loopw [10] (fun i wr => ∃ k : Nat, k ≤ 7 ∧ i = .int .i64 k ∧ PTo w x wr (z.mapTo (fun _ c => c.back) k)) (fun i _ => 7 - (intOf i).toNat)
  case atStart => exact ⟨0, by omega, rfl, by rw [PS.mapTo_zero]; exact T0.out⟩
  case round =>
    clear T0 c7 f7
    obtain ⟨k, hk, rfl, T⟩ := hrel
    by_cases hlt : k < 7
    · have hT := T.sc
      have i1 : (k : Int) < 7 := by omega
      have hat : (z.mapTo (fun _ c => c.back) k).acc k = s.acc k := by rw [PS.mapTo_at, hac.out]
      have hst := hid (z.mapTo_step (fun _ c => c.back) k)
      have hb1 : 0 ≤ ((z.mapTo (fun _ c => c.back) k).acc k).liquid ∧ ((z.mapTo (fun _ c => c.back) k).acc k).liquid ≤ 2000000000 := by rw [hat]; have := (ok.acc k hlt).l0; have := (ok.acc k hlt).l1; omega
      have hb2 : 0 ≤ ((z.mapTo (fun _ c => c.back) k).acc k).q 0 ∧ ((z.mapTo (fun _ c => c.back) k).acc k).q 0 ≤ 2000000000 := by rw [hat]; have := (ok.acc k hlt).q0 0 (by omega); have := (ok.acc k hlt).q1 0 (by omega); omega
      have Hat := hid hat
      clear hat
      go_wp2_with fail
      refine (back_ok hT hlt hb1 hb2).mono ?_
      rintro e w1 ⟨rfl, t1⟩
      have H2 := hid (show PTo w x w1 (z.mapTo (fun _ c => c.back) (k + 1)) by rw [← hst.out, hac.out, ← Hat.out]; exact T.trans t1)
      clear T hT t1
      go_wp2_with fail
      go_roundw
      case rel => exact ⟨k + 1, by omega, by go_num, H2.out⟩
      case measure => simp [intOf]; omega
    · have hk7 : k = 7 := by omega
      subst hk7
      go_wp2_with fail
      go_end0
      exact ⟨rfl, T⟩

set_option maxHeartbeats 800000 in
theorem lockpool_ok (h : SC w x s) (ok : s.Ok) :
    Calls Try.prog 30 #[.pointer (some ⟨x, 0, none⟩)] w fun e w' => e = .returned (.tuple #[]) ∧ PTo w x w' s.lockPool := by
  have hN6 := ok.N6
  have hN7 : s.N < 7 := by omega
  have i1 : (s.N : Int) < 7 := by omega
  have c00 : w.cell? ⟨x, 0, none⟩ = some (.int .i64 (s.N : Int)) := h.num (j := 0) (by omega)
  have c0 : w.cell? ⟨x, 10 + s.N * 11, none⟩ = some (.int .i64 (s.acc s.N).liquid) := h.at hN7 (j := 0) (by omega)
  have c1 : w.cell? ⟨x, 10 + s.N * 11 + 1, none⟩ = some (.int .i64 (s.acc s.N).locked) := h.at hN7 (j := 1) (by omega)
  have f0 : w.frozen? ⟨x, 10 + s.N * 11, none⟩ = false := h.frozen _
  have f1 : w.frozen? ⟨x, 10 + s.N * 11 + 1, none⟩ = false := h.frozen _
  have l0 := (ok.acc s.N hN7).l0
  have l1 := (ok.acc s.N hN7).l1
  have k0 := (ok.acc s.N hN7).k0
  have k1 := (ok.acc s.N hN7).k1
  have t1 := h.setLock hN7 ((s.acc s.N).locked + (s.acc s.N).liquid)
  have t2 := t1.trans (t1.sc.setLiq hN7 0)
  rw [PS.setAcc_same, PS.setAcc_setAcc] at t2
  have H2 := hid (show PTo w x _ s.lockPool from t2)
  clear t1 t2
  generalize s.lockPool = s' at *
  generalize (s.acc s.N).locked = lo at *
  generalize (s.acc s.N).liquid = li at *
  generalize s.N = N at *
  go_enter Try.func30, Try.ntmps30
  go_wp2_with fail
  go_region
  go_wp2_with fail
  go_region
  go_wp2_with fail
  go_end0
  exact ⟨rfl, H2.out.same rfl rfl rfl rfl⟩

set_option maxHeartbeats 1600000 in
theorem lower_ok (h : SC w x s) (ok : s.Ok) (q : Nat) (hq : q < 5) (due : Int) (hd : due - s.epoch = (q : Int) + 1) :
    Calls Try.prog 31 #[.pointer (some ⟨x, 0, none⟩), .int .i64 due] w fun e w' => e = .returned (.tuple #[]) ∧ PTo w x w' (s.lower q) := by
  unfold PS.lower
  have e0 := ok.e0
  have e1 := ok.e1
  have Hd := hid hd
  clear hd
  have hN6 := ok.N6
  have T0 := hid (PTo.refl h)
  go_enter Try.func31, Try.ntmps31
  go_wp2_with fail
  go_loopw [4] (fun i wr => ∃ k : Nat, k ≤ s.N ∧ i = .int .i64 k ∧ PTo w x wr (s.mapTo (lowerF q) k)) (fun i _ => s.N - (intOf i).toNat)
  case atStart => exact ⟨0, by omega, rfl, by rw [PS.mapTo_zero]; exact T0.out⟩
  case round =>
    clear T0
    obtain ⟨k, hk, rfl, T⟩ := hrel
    have hT := T.sc
    have c0 : wr.cell? ⟨x, 0, none⟩ = some (.int .i64 (s.N : Int)) := hT.num (j := 0) (by omega)
    by_cases hlt : k < s.N
    · have hl7 : k < 7 := by omega
      have i1 : (k : Int) < 7 := by omega
      have c7 : wr.cell? ⟨x, 7, none⟩ = some (.int .i64 s.epoch) := hT.num (j := 7) (by omega)
      have c1 : wr.cell? ⟨x, 10 + k * 11 + 1, none⟩ = some (.int .i64 (s.acc k).locked) := by have := hT.at hl7 (j := 1) (by omega); rwa [PS.mapTo_at] at this
      have c2 : wr.cell? ⟨x, 10 + k * 11 + 2, none⟩ = some (.int .i64 (s.acc k).bid) := by have := hT.at hl7 (j := 2) (by omega); rwa [PS.mapTo_at] at this
      have k0 := (ok.acc k hl7).k0
      have k1 := (ok.acc k hl7).k1
      have q0 := (ok.acc k hl7).b0
      have q1 := (ok.acc k hl7).b1
      have hb1 : 0 ≤ ((s.mapTo (lowerF q) k).acc k).locked ∧ ((s.mapTo (lowerF q) k).acc k).locked ≤ 2000000000 := by rw [PS.mapTo_at]; omega
      have hb2 : 0 ≤ ((s.mapTo (lowerF q) k).acc k).q q ∧ ((s.mapTo (lowerF q) k).acc k).q q ≤ 2000000000 := by rw [PS.mapTo_at]; have := (ok.acc k hl7).q0 q hq; have := (ok.acc k hl7).q1 q hq; omega
      have hst := hid (s.mapTo_step (lowerF q) k)
      by_cases h3 : (s.acc k).bid < (s.acc k).locked
      · have hpf := hid (show lowerF q k (s.acc k) = (s.acc k).unlock ((s.acc k).locked - (s.acc k).bid) q by unfold lowerF; rw [if_pos h3])
        have hat := hid (PS.mapTo_at s (lowerF q) k)
        have hpos : 0 < (s.acc k).locked - (s.acc k).bid := by omega
        have hnb : 0 ≤ (s.acc k).locked - (s.acc k).bid ∧ (s.acc k).locked - (s.acc k).bid ≤ 2000000000 := by omega
        obtain ⟨dd, hdd⟩ : ∃ dd, due - s.epoch = dd := ⟨_, rfl⟩
        have Hdd := hid hdd
        have hddb : dd = (q : Int) + 1 := by rw [← hdd]; exact Hd.out
        have hb3 : -5 ≤ due - s.epoch ∧ due - s.epoch ≤ 10 := by rw [hdd, hddb]; omega
        clear hdd hddb
        go_wp2_with fail
        go_quiet (fail)
        go_wp2_with fail
        have t0 := T.dn nq
        refine (unlock_ok t0.sc hl7 hq (due - s.epoch) ((s.acc k).locked - (s.acc k).bid) Hd.out hnb hb1 hb2).mono ?_
        rintro e w1 ⟨rfl, t1⟩
        have H2 := hid (show PTo w x w1 (s.mapTo (lowerF q) (k + 1)) by rw [← hst.out, hpf.out, ← hat.out]; rw [hat.out] at t1 ⊢; exact t0.trans t1)
        clear T hT t1 t0 c1 c2 c7 c0
        go_wp2_with fail
        go_roundw
        case rel => exact ⟨k + 1, by omega, by go_num, H2.out⟩
        case measure => simp [intOf]; omega
      · have H2 := hid (show PTo w x wr (s.mapTo (lowerF q) (k + 1)) by rw [← PS.mapTo_same _ _ _ (by unfold lowerF; rw [if_neg h3])]; exact T)
        have hpos : ¬ 0 < (s.acc k).locked - (s.acc k).bid := by omega
        go_wp2_with fail
        go_quiet (fail)
        go_wp2_with fail
        go_roundw
        case rel => exact ⟨k + 1, by omega, by go_num, H2.out.dn _⟩
        case measure => simp [intOf]; omega
    · have hk7 : k = s.N := by omega
      subst hk7
      go_wp2_with fail
      go_end0
      exact ⟨rfl, T⟩
end
end Go.Proofs.Ytiokecadnmcpeab
