import Derived.Test.YtiokecadnmcpeabPCalls
namespace Go.Proofs.Ytiokecadnmcpeab
set_option linter.unusedVariables false
set_option linter.unusedSimpArgs false
open Go.ChangeShapes Go.WideShapes Go.ChangeAt Go.RowKit
section
variable {w : World} {x : Nat} {s : PS}

set_option maxHeartbeats 800000 in
theorem send_name (h : SC w x s) (ok : s.Ok) (a b n : Int) (hab : ¬ (0 ≤ a ∧ a ≤ (s.N : Int) - 1) ∨ ¬ (0 ≤ b ∧ b ≤ (s.N : Int) - 1)) :
    Calls Try.prog 10 #[.pointer (some ⟨x, 0, none⟩), .int .i64 a, .int .i64 b, .int .i64 n] w fun e w' => e = .returned (.int .i64 2) ∧ Below w.heap.size w w' := by
  by_cases ha : 0 ≤ a ∧ a ≤ (s.N : Int) - 1
  · have Hb : Hid (¬ (0 ≤ b ∧ b ≤ (s.N : Int) - 1)) := hab.resolve_left (fun hn => hn ha)
    clear hab
    obtain ⟨ha1, ha2⟩ := ha
    go_enter Try.func10, Try.ntmps10
    go_wp2_with fail
    refine (isper_yes h ok.toCf _ ha1 ha2).mono ?_
    rintro e w1 ⟨rfl, rfl⟩
    go_wp2_with fail
    refine (isper_no h ok.toCf _ Hb.out).mono ?_
    rintro e w1 ⟨rfl, rfl⟩
    go_wp2_with fail
    go_ret
    exact ⟨rfl, Below.refl _ _⟩
  · have Ha : Hid (¬ (0 ≤ a ∧ a ≤ (s.N : Int) - 1)) := ha
    clear ha hab
    go_enter Try.func10, Try.ntmps10
    go_wp2_with fail
    refine (isper_no h ok.toCf _ Ha.out).mono ?_
    rintro e w1 ⟨rfl, rfl⟩
    go_wp2_with fail
    go_ret
    exact ⟨rfl, Below.refl _ _⟩

set_option maxHeartbeats 800000 in
theorem send_amount (h : SC w x s) (ok : s.Ok) (a b n : Int) (ha1 : 0 ≤ a) (ha2 : a ≤ (s.N : Int) - 1) (hb1 : 0 ≤ b) (hb2 : b ≤ (s.N : Int) - 1) (hn : ¬ (1 ≤ n ∧ n ≤ 1000000000)) :
    Calls Try.prog 10 #[.pointer (some ⟨x, 0, none⟩), .int .i64 a, .int .i64 b, .int .i64 n] w fun e w' => e = .returned (.int .i64 3) ∧ Below w.heap.size w w' := by
  have Hn : Hid (¬ (1 ≤ n ∧ n ≤ 1000000000)) := hn
  clear hn
  go_enter Try.func10, Try.ntmps10
  go_wp2_with fail
  refine (isper_yes h ok.toCf _ ha1 ha2).mono ?_
  rintro e w1 ⟨rfl, rfl⟩
  go_wp2_with fail
  refine (isper_yes h ok.toCf _ hb1 hb2).mono ?_
  rintro e w1 ⟨rfl, rfl⟩
  go_wp2_with fail
  refine (within_no _ _ _ _ Hn.out).mono ?_
  rintro e w1 ⟨rfl, rfl⟩
  go_wp2_with fail
  go_ret
  exact ⟨rfl, Below.refl _ _⟩

set_option maxHeartbeats 800000 in
theorem send_funds (h : SC w x s) (ok : s.Ok) (a b : Nat) (n : Int) (ha2 : a < s.N) (hb2 : b < s.N) (hn1 : 1 ≤ n) (hn2 : n ≤ 1000000000) (hf : (s.acc a).liquid < n) :
    Calls Try.prog 10 #[.pointer (some ⟨x, 0, none⟩), .int .i64 a, .int .i64 b, .int .i64 n] w fun e w' => e = .returned (.int .i64 4) ∧ Below w.heap.size w w' := by
  have hp6 := ok.N6
  have e0 : w.cell? ⟨x, 10 + a * 11, none⟩ = some (.int .i64 (s.acc a).liquid) := h.at (a := a) (by omega) (j := 0) (by omega)
  have g1 : (0 : Int) ≤ (a : Int) := by omega
  have g2 : (a : Int) ≤ (s.N : Int) - 1 := by omega
  have g3 : (0 : Int) ≤ (b : Int) := by omega
  have g4 : (b : Int) ≤ (s.N : Int) - 1 := by omega
  have g5 : (a : Int) < 7 := by omega
  go_enter Try.func10, Try.ntmps10
  go_wp2_with fail
  refine (isper_yes h ok.toCf _ g1 g2).mono ?_
  rintro e w1 ⟨rfl, rfl⟩
  go_wp2_with fail
  refine (isper_yes h ok.toCf _ g3 g4).mono ?_
  rintro e w1 ⟨rfl, rfl⟩
  go_wp2_with fail
  refine (within_yes _ _ _ _ hn1 hn2).mono ?_
  rintro e w1 ⟨rfl, rfl⟩
  go_wp2_with fail
  go_ret
  exact ⟨rfl, Below.refl _ _⟩

def PS.take (s : PS) (a : Nat) (n : Int) : PS := s.setAcc a { s.acc a with liquid := (s.acc a).liquid - n }
def PS.send (s : PS) (a b : Nat) (n : Int) : PS := (s.take a n).setAcc b { (s.take a n).acc b with liquid := ((s.take a n).acc b).liquid + n }

set_option maxHeartbeats 1600000 in
theorem send_ok (h : SC w x s) (ok : s.Ok) (a b : Nat) (n : Int) (ha2 : a < s.N) (hb2 : b < s.N) (hn1 : 1 ≤ n) (hn2 : n ≤ 1000000000) (hf : ¬ (s.acc a).liquid < n) :
    Calls Try.prog 10 #[.pointer (some ⟨x, 0, none⟩), .int .i64 a, .int .i64 b, .int .i64 n] w fun e w' => e = .returned (.int .i64 0) ∧ PTo w x w' (s.send a b n) := by
  have hp6 := ok.N6
  have e0 : w.cell? ⟨x, 10 + a * 11, none⟩ = some (.int .i64 (s.acc a).liquid) := h.at (a := a) (by omega) (j := 0) (by omega)
  have f0 : w.frozen? ⟨x, 10 + a * 11, none⟩ = false := h.frozen _
  have l0 := (ok.acc a (by omega)).l0
  have l1 := (ok.acc a (by omega)).l1
  have t1 : PTo w x (w.setCell ⟨x, 10 + a * 11, none⟩ (.int .i64 ((s.acc a).liquid - n))) (s.take a n) := h.setLiq (by omega) _
  have h1 := t1.sc
  have e1 : (w.setCell ⟨x, 10 + a * 11, none⟩ (.int .i64 ((s.acc a).liquid - n))).cell? ⟨x, 10 + b * 11, none⟩ = some (.int .i64 ((s.take a n).acc b).liquid) := h1.at (a := b) (by omega) (j := 0) (by omega)
  have f1 : (w.setCell ⟨x, 10 + a * 11, none⟩ (.int .i64 ((s.acc a).liquid - n))).frozen? ⟨x, 10 + b * 11, none⟩ = false := h1.frozen _
  have m0 : 0 ≤ ((s.take a n).acc b).liquid ∧ ((s.take a n).acc b).liquid ≤ 1000000000 := by
    by_cases e : b = a
    · subst e; unfold PS.take; rw [PS.setAcc_same]; simp only; omega
    · unfold PS.take; rw [PS.setAcc_other _ _ e]; exact ⟨(ok.acc b (by omega)).l0, (ok.acc b (by omega)).l1⟩
  have t2 : PTo w x ((w.setCell ⟨x, 10 + a * 11, none⟩ (.int .i64 ((s.acc a).liquid - n))).setCell ⟨x, 10 + b * 11, none⟩ (.int .i64 (((s.take a n).acc b).liquid + n))) (s.send a b n) := t1.trans (h1.setLiq (by omega) _)
  generalize ((s.take a n).acc b).liquid = lb at *
  have g1 : (0 : Int) ≤ (a : Int) := by omega
  have g2 : (a : Int) ≤ (s.N : Int) - 1 := by omega
  have g3 : (0 : Int) ≤ (b : Int) := by omega
  have g4 : (b : Int) ≤ (s.N : Int) - 1 := by omega
  have g5 : (a : Int) < 7 := by omega
  have g6 : (b : Int) < 7 := by omega
  have H2 := hid t2
  clear t1 h1 t2
  go_enter Try.func10, Try.ntmps10
  go_wp2_with fail
  refine (isper_yes h ok.toCf _ g1 g2).mono ?_
  rintro e w1 ⟨rfl, rfl⟩
  go_wp2_with fail
  refine (isper_yes h ok.toCf _ g3 g4).mono ?_
  rintro e w1 ⟨rfl, rfl⟩
  go_wp2_with fail
  refine (within_yes _ _ _ _ hn1 hn2).mono ?_
  rintro e w1 ⟨rfl, rfl⟩
  go_wp2_with fail
  go_region
  go_wp2_with fail
  go_region
  go_wp2_with fail
  go_ret
  exact ⟨rfl, H2.out.sc.heap rfl, ⟨H2.out.keeps.os, H2.out.keeps.tape, H2.out.keeps.output, H2.out.keeps.size, H2.out.keeps.block⟩⟩

set_option maxHeartbeats 800000 in
theorem bid_name (h : SC w x s) (ok : s.Ok) (a n : Int) (ha : ¬ (0 ≤ a ∧ a ≤ (s.N : Int) - 1)) :
    Calls Try.prog 18 #[.pointer (some ⟨x, 0, none⟩), .int .i64 a, .int .i64 n] w fun e w' => e = .returned (.int .i64 2) ∧ Below w.heap.size w w' := by
  have Ha := hid ha
  clear ha
  go_enter Try.func18, Try.ntmps18
  go_wp2_with fail
  refine (isper_no h ok.toCf _ Ha.out).mono ?_
  rintro e w1 ⟨rfl, rfl⟩
  go_wp2_with fail
  go_ret
  exact ⟨rfl, Below.refl _ _⟩

set_option maxHeartbeats 800000 in
theorem bid_amount (h : SC w x s) (ok : s.Ok) (a n : Int) (ha1 : 0 ≤ a) (ha2 : a ≤ (s.N : Int) - 1) (hn : ¬ (0 ≤ n ∧ n ≤ 1000000000)) :
    Calls Try.prog 18 #[.pointer (some ⟨x, 0, none⟩), .int .i64 a, .int .i64 n] w fun e w' => e = .returned (.int .i64 3) ∧ Below w.heap.size w w' := by
  have Hn := hid hn
  clear hn
  go_enter Try.func18, Try.ntmps18
  go_wp2_with fail
  refine (isper_yes h ok.toCf _ ha1 ha2).mono ?_
  rintro e w1 ⟨rfl, rfl⟩
  go_wp2_with fail
  refine (within_no _ _ _ _ Hn.out).mono ?_
  rintro e w1 ⟨rfl, rfl⟩
  go_wp2_with fail
  go_ret
  exact ⟨rfl, Below.refl _ _⟩

set_option maxHeartbeats 800000 in
theorem bid_funds (h : SC w x s) (ok : s.Ok) (a : Nat) (n : Int) (ha : a < s.N) (hn1 : 0 ≤ n) (hn2 : n ≤ 1000000000) (hf : (s.acc a).liquid < n - (s.acc a).locked) :
    Calls Try.prog 18 #[.pointer (some ⟨x, 0, none⟩), .int .i64 a, .int .i64 n] w fun e w' => e = .returned (.int .i64 4) ∧ Below w.heap.size w w' := by
  have hp6 := ok.N6
  have e0 : w.cell? ⟨x, 10 + a * 11, none⟩ = some (.int .i64 (s.acc a).liquid) := h.at (a := a) (by omega) (j := 0) (by omega)
  have e1 : w.cell? ⟨x, 10 + a * 11 + 1, none⟩ = some (.int .i64 (s.acc a).locked) := h.at (a := a) (by omega) (j := 1) (by omega)
  have k0 := (ok.acc a (by omega)).k0
  have k1 := (ok.acc a (by omega)).k1
  have g1 : (0 : Int) ≤ (a : Int) := by omega
  have g2 : (a : Int) ≤ (s.N : Int) - 1 := by omega
  have g5 : (a : Int) < 7 := by omega
  go_enter Try.func18, Try.ntmps18
  go_wp2_with fail
  refine (isper_yes h ok.toCf _ g1 g2).mono ?_
  rintro e w1 ⟨rfl, rfl⟩
  go_wp2_with fail
  refine (within_yes _ _ _ _ hn1 hn2).mono ?_
  rintro e w1 ⟨rfl, rfl⟩
  go_wp2_with fail
  go_ret
  exact ⟨rfl, Below.refl _ _⟩

def Acc.bidding (c : Acc) (n : Int) : Acc := if c.locked < n then { c with liquid := c.liquid - (n - c.locked), locked := n, bid := n } else { c with bid := n }
def PS.bid (s : PS) (a : Nat) (n : Int) : PS := s.setAcc a ((s.acc a).bidding n)

set_option maxHeartbeats 1600000 in
theorem bid_ok (h : SC w x s) (ok : s.Ok) (a : Nat) (n : Int) (ha : a < s.N) (hn1 : 0 ≤ n) (hn2 : n ≤ 1000000000) (hf : n - (s.acc a).locked ≤ (s.acc a).liquid) :
    Calls Try.prog 18 #[.pointer (some ⟨x, 0, none⟩), .int .i64 a, .int .i64 n] w fun e w' => e = .returned (.int .i64 0) ∧ PTo w x w' (s.bid a n) := by
  have hp6 := ok.N6
  have e0 : w.cell? ⟨x, 10 + a * 11, none⟩ = some (.int .i64 (s.acc a).liquid) := h.at (a := a) (by omega) (j := 0) (by omega)
  have e1 : w.cell? ⟨x, 10 + a * 11 + 1, none⟩ = some (.int .i64 (s.acc a).locked) := h.at (a := a) (by omega) (j := 1) (by omega)
  have e2 : w.cell? ⟨x, 10 + a * 11 + 2, none⟩ = some (.int .i64 (s.acc a).bid) := h.at (a := a) (by omega) (j := 2) (by omega)
  have f0 : w.frozen? ⟨x, 10 + a * 11, none⟩ = false := h.frozen _
  have f1 : w.frozen? ⟨x, 10 + a * 11 + 1, none⟩ = false := h.frozen _
  have f2 : w.frozen? ⟨x, 10 + a * 11 + 2, none⟩ = false := h.frozen _
  have l0 := (ok.acc a (by omega)).l0
  have l1 := (ok.acc a (by omega)).l1
  have k0 := (ok.acc a (by omega)).k0
  have k1 := (ok.acc a (by omega)).k1
  have g1 : (0 : Int) ≤ (a : Int) := by omega
  have g2 : (a : Int) ≤ (s.N : Int) - 1 := by omega
  have g5 : (a : Int) < 7 := by omega
  have a7 : a < 7 := by omega
  by_cases hm : (s.acc a).locked < n
  · have t1 := h.setLiq a7 ((s.acc a).liquid - (n - (s.acc a).locked))
    have t2 := t1.trans (t1.sc.setLock a7 ((s.acc a).locked + (n - (s.acc a).locked)))
    have t3 := t2.trans (t2.sc.setBid a7 n)
    rw [PS.setAcc_same, PS.setAcc_setAcc, PS.setAcc_same, PS.setAcc_setAcc] at t3
    have H3 := hid (show PTo w x _ (s.bid a n) by
      unfold PS.bid Acc.bidding
      rw [if_pos hm]
      have e : (s.acc a).locked + (n - (s.acc a).locked) = n := by omega
      simp only [e] at t3
      exact t3)
    have hpos : 0 < n - (s.acc a).locked := by omega
    have hsum : (s.acc a).locked + (n - (s.acc a).locked) = n := by omega
    clear t1 t2 t3 hm
    go_enter Try.func18, Try.ntmps18
    go_wp2_with fail
    refine (isper_yes h ok.toCf _ g1 g2).mono ?_
    rintro e w1 ⟨rfl, rfl⟩
    go_wp2_with fail
    refine (within_yes _ _ _ _ hn1 hn2).mono ?_
    rintro e w1 ⟨rfl, rfl⟩
    go_wp2_with fail
    go_ret
    exact ⟨rfl, by simpa only [hsum] using H3.out⟩
  · have t3 := h.setBid a7 n
    have H3 := hid (show PTo w x _ (s.bid a n) by
      unfold PS.bid Acc.bidding
      rw [if_neg hm]
      exact t3)
    have hpos : ¬ 0 < n - (s.acc a).locked := by omega
    clear t3
    go_enter Try.func18, Try.ntmps18
    go_wp2_with fail
    refine (isper_yes h ok.toCf _ g1 g2).mono ?_
    rintro e w1 ⟨rfl, rfl⟩
    go_wp2_with fail
    refine (within_yes _ _ _ _ hn1 hn2).mono ?_
    rintro e w1 ⟨rfl, rfl⟩
    go_wp2_with fail
    go_ret
    exact ⟨rfl, H3.out⟩

set_option maxHeartbeats 800000 in
theorem isheight_yes (h : SC w x s) (ok : s.Cf) (a : Int) (h1 : 0 ≤ a) (h2 : a ≤ s.length - 1) :
    Calls Try.prog 42 #[.pointer (some ⟨x, 0, none⟩), .int .i64 a] w fun e w' => e = .returned (.bool true) ∧ w' = w := by
  have hL : w.cell? ⟨x, 5, none⟩ = some (.int .i64 s.length) := h.num (j := 5) (by omega)
  have hl := ok.length
  go_enter Try.func42, Try.ntmps42
  go_wp2_with fail
  refine (within_yes _ _ _ _ h1 h2).mono ?_
  rintro e w1 ⟨rfl, rfl⟩
  go_wp2_with fail
  go_ret
  exact ⟨rfl, rfl⟩
set_option maxHeartbeats 800000 in
theorem isheight_no (h : SC w x s) (ok : s.Cf) (a : Int) (hn : ¬ (0 ≤ a ∧ a ≤ s.length - 1)) :
    Calls Try.prog 42 #[.pointer (some ⟨x, 0, none⟩), .int .i64 a] w fun e w' => e = .returned (.bool false) ∧ w' = w := by
  have hL : w.cell? ⟨x, 5, none⟩ = some (.int .i64 s.length) := h.num (j := 5) (by omega)
  have hl := ok.length
  have Hn := hid hn
  clear hn
  go_enter Try.func42, Try.ntmps42
  go_wp2_with fail
  refine (within_no _ _ _ _ Hn.out).mono ?_
  rintro e w1 ⟨rfl, rfl⟩
  go_wp2_with fail
  go_ret
  exact ⟨rfl, rfl⟩

set_option maxHeartbeats 800000 in
theorem leader_height (h : SC w x s) (ok : s.Cf) (a : Int) (ha : ¬ (0 ≤ a ∧ a ≤ s.length - 1)) :
    Calls Try.prog 80 #[.pointer (some ⟨x, 0, none⟩), .int .i64 a] w fun e w' => e = .returned (.tuple #[.int .i64 0, .int .i64 10]) ∧ Below w.heap.size w w' := by
  have hL : w.cell? ⟨x, 5, none⟩ = some (.int .i64 s.length) := h.num (j := 5) (by omega)
  have hl := ok.length
  have Ha := hid ha
  clear ha
  go_enter Try.func80, Try.ntmps80
  go_wp2_with fail
  refine (isheight_no h ok _ Ha.out).mono ?_
  rintro e w1 ⟨rfl, rfl⟩
  go_wp2_with fail
  go_ret2
  exact ⟨rfl, Below.refl _ _⟩

set_option maxHeartbeats 800000 in
theorem leader_none (h : SC w x s) (ok : s.Cf) (a : Int) (ha1 : 0 ≤ a) (ha2 : a ≤ s.length - 1) (hz : s.rlen = 0) :
    Calls Try.prog 80 #[.pointer (some ⟨x, 0, none⟩), .int .i64 a] w fun e w' => e = .returned (.tuple #[.int .i64 0, .int .i64 11]) ∧ Below w.heap.size w w' := by
  have hL : w.cell? ⟨x, 5, none⟩ = some (.int .i64 s.length) := h.num (j := 5) (by omega)
  have hR : w.cell? ⟨x, 97, none⟩ = some (.int .i64 0) := by have := h.rlenAt; rw [hz] at this; exact this
  have hl := ok.length
  clear hz
  go_enter Try.func80, Try.ntmps80
  go_wp2_with fail
  refine (isheight_yes h ok _ ha1 ha2).mono ?_
  rintro e w1 ⟨rfl, rfl⟩
  go_wp2_with fail
  go_ret2
  exact ⟨rfl, Below.refl _ _⟩

set_option maxHeartbeats 800000 in
theorem leader_ok (h : SC w x s) (ok : s.Cf) (a : Nat) (ha2 : (a : Int) ≤ s.length - 1) (hz : 0 < s.rlen) :
    Calls Try.prog 80 #[.pointer (some ⟨x, 0, none⟩), .int .i64 a] w fun e w' => e = .returned (.tuple #[.int .i64 (s.row (a % s.rlen)), .int .i64 0]) ∧ Below w.heap.size w w' := by
  have hL : w.cell? ⟨x, 5, none⟩ = some (.int .i64 s.length) := h.num (j := 5) (by omega)
  have hR := h.rlenAt
  have hl := ok.length
  have hr := ok.rlen
  have hm : a % s.rlen < s.rlen := Nat.mod_lt _ hz
  have hrow := h.rowAt (k := a % s.rlen) (by omega)
  have ha1 : (0 : Int) ≤ (a : Int) := by omega
  have i0 : ¬ (s.rlen : Int) < 1 := by omega
  have i1 : ¬ (s.rlen : Int) = 0 := by omega
  have em : Int.tmod (a : Int) (s.rlen : Int) = ((a % s.rlen : Nat) : Int) := by rw [Int.tmod_eq_emod_of_nonneg (by omega)]; simp
  generalize hk : a % s.rlen = k at *
  have i2 : (k : Int) < 10 := by omega
  clear hk
  generalize s.row k = z at *
  generalize s.rlen = n at *
  go_enter Try.func80, Try.ntmps80
  go_wp2_with fail
  refine (isheight_yes h ok _ ha1 ha2).mono ?_
  rintro e w1 ⟨rfl, rfl⟩
  go_wp2_with fail
  go_region
  go_wp2_with fail
  go_ret2
  exact ⟨rfl, (Below.refl _ _).drew⟩
end
end Go.Proofs.Ytiokecadnmcpeab
