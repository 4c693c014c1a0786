import Derived.Test.YtiokecadnmcpeabPSend
import Derived.Test.YtiokecadnmcpeabPG
import Derived.Test.YtiokecadnmcpeabPA
import Derived.BigQuiet
import Derived.Deep.RegionHeld3
namespace Go.Proofs.Ytiokecadnmcpeab
set_option linter.unusedVariables false
set_option linter.unusedSimpArgs false
open Go.ChangeShapes Go.WideShapes Go.ChangeAt Go.RowKit

section
variable {w : World} {x : Nat} {s : PS}

set_option maxHeartbeats 800000 in
theorem make_height (h : SC w x s) (ok : s.Cf) (a : Int) (ha : ¬ (0 ≤ a ∧ a ≤ s.length - 1)) :
    Calls Try.prog 19 #[.pointer (some ⟨x, 0, none⟩), .int .i64 a] w fun e w' => e = .returned (.int .i64 10) ∧ Below w.heap.size w w' := by
  have Ha := hid ha
  clear ha
  go_enter Try.func19, Try.ntmps19
  go_wp2_with fail
  refine (isheight_no h ok _ Ha.out).mono ?_
  rintro e w1 ⟨rfl, rfl⟩
  go_wp2_with fail
  go_ret
  exact ⟨rfl, Below.refl _ _⟩

set_option maxHeartbeats 800000 in
theorem make_none (h : SC w x s) (ok : s.Cf) (a : Int) (ha1 : 0 ≤ a) (ha2 : a ≤ s.length - 1) (hz : s.rlen = 0) :
    Calls Try.prog 19 #[.pointer (some ⟨x, 0, none⟩), .int .i64 a] w fun e w' => e = .returned (.int .i64 11) ∧ Below w.heap.size w w' := by
  have hR : w.cell? ⟨x, 97, none⟩ = some (.int .i64 0) := by have := h.rlenAt; rw [hz] at this; exact this
  clear hz
  go_enter Try.func19, Try.ntmps19
  go_wp2_with fail
  refine (isheight_yes h ok _ ha1 ha2).mono ?_
  rintro e w1 ⟨rfl, rfl⟩
  go_wp2_with fail
  go_ret
  exact ⟨rfl, Below.refl _ _⟩

set_option maxHeartbeats 800000 in
theorem make_again (h : SC w x s) (ok : s.Cf) (a : Nat) (ha2 : (a : Int) ≤ s.length - 1) (hz : 0 < s.rlen) (hb : s.blocks a = true) :
    Calls Try.prog 19 #[.pointer (some ⟨x, 0, none⟩), .int .i64 a] w fun e w' => e = .returned (.int .i64 12) ∧ Below w.heap.size w w' := by
  have hR := h.rlenAt
  have hl := ok.length
  have hB := h.blk (k := a) (by omega)
  rw [hb] at hB
  have ha1 : (0 : Int) ≤ (a : Int) := by omega
  have i0 : ¬ (s.rlen : Int) < 1 := by omega
  have i2 : (a : Int) < 20 := by omega
  clear hb
  generalize s.rlen = n at *
  go_enter Try.func19, Try.ntmps19
  go_wp2_with fail
  refine (isheight_yes h ok _ ha1 ha2).mono ?_
  rintro e w1 ⟨rfl, rfl⟩
  go_wp2_with fail
  go_ret
  exact ⟨rfl, Below.refl _ _⟩

set_option maxHeartbeats 800000 in
theorem make_ok (h : SC w x s) (ok : s.Cf) (a : Nat) (ha2 : (a : Int) ≤ s.length - 1) (hz : 0 < s.rlen) (hb : s.blocks a = false) :
    Calls Try.prog 19 #[.pointer (some ⟨x, 0, none⟩), .int .i64 a] w fun e w' => e = .returned (.int .i64 0) ∧ PTo w x w' (s.make a) := by
  have hR := h.rlenAt
  have hl := ok.length
  have hB := h.blk (k := a) (by omega)
  rw [hb] at hB
  have ha1 : (0 : Int) ≤ (a : Int) := by omega
  have i0 : ¬ (s.rlen : Int) < 1 := by omega
  have i2 : (a : Int) < 20 := by omega
  have f0 : w.frozen? ⟨x, 98 + a, none⟩ = false := h.frozen _
  have T := hid (show PTo w x _ (s.make a) from h.setBlk (k := a) (by omega) true)
  clear hb
  generalize s.rlen = n at hR i0
  go_enter Try.func19, Try.ntmps19
  go_wp2_with fail
  refine (isheight_yes h ok _ ha1 ha2).mono ?_
  rintro e w1 ⟨rfl, hw⟩
  have hw2 := hw.symm
  subst hw2
  go_wp2_with fail
  go_ret
  exact ⟨rfl, T.out⟩

set_option maxHeartbeats 800000 in
theorem slash_name (h : SC w x s) (a : Int) (ha : ¬ (0 ≤ a ∧ a ≤ (s.N : Int))) :
    Calls Try.prog 20 #[.pointer (some ⟨x, 0, none⟩), .int .i64 a] w fun e w' => e = .returned (.int .i64 2) ∧ Below w.heap.size w w' := by
  have Ha := hid ha
  clear ha
  go_enter Try.func20, Try.ntmps20
  go_wp2_with fail
  refine (isacc_no h _ Ha.out).mono ?_
  rintro e w1 ⟨rfl, rfl⟩
  go_wp2_with fail
  go_ret
  exact ⟨rfl, Below.refl _ _⟩

set_option maxHeartbeats 800000 in
theorem slash_none (h : SC w x s) (ok : s.Cf) (a : Nat) (ha : a ≤ s.N) (hz : (s.acc a).seats < 1) :
    Calls Try.prog 20 #[.pointer (some ⟨x, 0, none⟩), .int .i64 a] w fun e w' => e = .returned (.int .i64 11) ∧ Below w.heap.size w w' := by
  have hp6 := ok.N6
  have e3 : w.cell? ⟨x, 10 + a * 11 + 3, none⟩ = some (.int .i64 (s.acc a).seats) := h.at (a := a) (by omega) (j := 3) (by omega)
  have g1 : (0 : Int) ≤ (a : Int) := by omega
  have g2 : (a : Int) ≤ (s.N : Int) := by omega
  have g5 : (a : Int) < 7 := by omega
  go_enter Try.func20, Try.ntmps20
  go_wp2_with fail
  refine (isacc_yes h _ g1 g2).mono ?_
  rintro e w1 ⟨rfl, rfl⟩
  go_wp2_with fail
  go_ret
  exact ⟨rfl, Below.refl _ _⟩

set_option maxHeartbeats 800000 in
theorem slash_ok (h : SC w x s) (ok : s.Cf) (a : Nat) (ha : a ≤ s.N) (hz : ¬ (s.acc a).seats < 1) :
    Calls Try.prog 20 #[.pointer (some ⟨x, 0, none⟩), .int .i64 a] w fun e w' => e = .returned (.int .i64 0) ∧ PTo w x w' (s.slash a) := by
  have hp6 := ok.N6
  have e3 : w.cell? ⟨x, 10 + a * 11 + 3, none⟩ = some (.int .i64 (s.acc a).seats) := h.at (a := a) (by omega) (j := 3) (by omega)
  have e10 : w.cell? ⟨x, 10 + a * 11 + 10, none⟩ = some (.bool (s.acc a).cheated) := h.at (a := a) (by omega) (j := 10) (by omega)
  have f0 : w.frozen? ⟨x, 10 + a * 11 + 10, none⟩ = false := h.frozen _
  have g1 : (0 : Int) ≤ (a : Int) := by omega
  have g2 : (a : Int) ≤ (s.N : Int) := by omega
  have g5 : (a : Int) < 7 := by omega
  have T := hid (show PTo w x _ (s.slash a) from h.setCheat (a := a) (by omega) true)
  generalize (s.acc a).cheated = hc at e10
  go_enter Try.func20, Try.ntmps20
  go_wp2_with fail
  refine (isacc_yes h _ g1 g2).mono ?_
  rintro e w1 ⟨rfl, hw⟩
  have hw2 := hw.symm
  subst hw2
  go_wp2_with fail
  go_ret
  exact ⟨rfl, T.out⟩
end
end Go.Proofs.Ytiokecadnmcpeab
namespace Go.Proofs.Ytiokecadnmcpeab
set_option linter.unusedVariables false
set_option linter.unusedSimpArgs false
open Go.ChangeShapes Go.WideShapes Go.ChangeAt Go.RowKit

/-- The shares that a deposit gives. -/
def PS.depMore (s : PS) (n : Int) : Int := if s.allShares = 0 then n else n * s.allShares / (s.acc s.N).tot
/-- What shares are worth. -/
def PS.worth (s : PS) (n : Int) : Int := n * (s.acc s.N).tot / s.allShares

/-- What the program's Deposit does. -/
structure DepDo : Prop where
  name : ∀ {W : World} {x : Nat} {s : PS}, SC W x s → s.Good → s.PoolOk → ∀ (a n : Int), ¬ (0 ≤ a ∧ a ≤ (s.N : Int) - 1) → Calls Try.prog 21 #[.pointer (some ⟨x, 0, none⟩), .int .i64 a, .int .i64 n] W fun e W' => e = .returned (.tuple #[.int .i64 0, .int .i64 2]) ∧ Below W.heap.size W W'
  amount : ∀ {W : World} {x : Nat} {s : PS}, SC W x s → s.Good → s.PoolOk → ∀ (a n : Int), 0 ≤ a → a ≤ (s.N : Int) - 1 → ¬ (1 ≤ n ∧ n ≤ 1000000000) → Calls Try.prog 21 #[.pointer (some ⟨x, 0, none⟩), .int .i64 a, .int .i64 n] W fun e W' => e = .returned (.tuple #[.int .i64 0, .int .i64 3]) ∧ Below W.heap.size W W'
  funds : ∀ {W : World} {x : Nat} {s : PS}, SC W x s → s.Good → s.PoolOk → ∀ (a : Nat) (n : Int), a < s.N → 1 ≤ n → n ≤ 1000000000 → (s.acc a).liquid < n → Calls Try.prog 21 #[.pointer (some ⟨x, 0, none⟩), .int .i64 a, .int .i64 n] W fun e W' => e = .returned (.tuple #[.int .i64 0, .int .i64 4]) ∧ Below W.heap.size W W'
  small : ∀ {W : World} {x : Nat} {s : PS}, SC W x s → s.Good → s.PoolOk → ∀ (a : Nat) (n : Int), a < s.N → 1 ≤ n → n ≤ 1000000000 → n ≤ (s.acc a).liquid → s.depMore n < 1 → Calls Try.prog 21 #[.pointer (some ⟨x, 0, none⟩), .int .i64 a, .int .i64 n] W fun e W' => e = .returned (.tuple #[.int .i64 0, .int .i64 5]) ∧ Below W.heap.size W W'
  full : ∀ {W : World} {x : Nat} {s : PS}, SC W x s → s.Good → s.PoolOk → ∀ (a : Nat) (n : Int), a < s.N → 1 ≤ n → n ≤ 1000000000 → n ≤ (s.acc a).liquid → 1 ≤ s.depMore n → 1000000000 < s.allShares + s.depMore n → Calls Try.prog 21 #[.pointer (some ⟨x, 0, none⟩), .int .i64 a, .int .i64 n] W fun e W' => e = .returned (.tuple #[.int .i64 0, .int .i64 6]) ∧ Below W.heap.size W W'
  ok : ∀ {W : World} {x : Nat} {s : PS}, SC W x s → s.Good → s.PoolOk → ∀ (a : Nat) (n : Int), a < s.N → 1 ≤ n → n ≤ 1000000000 → n ≤ (s.acc a).liquid → 1 ≤ s.depMore n → s.allShares + s.depMore n ≤ 1000000000 → Calls Try.prog 21 #[.pointer (some ⟨x, 0, none⟩), .int .i64 a, .int .i64 n] W fun e W' => e = .returned (.tuple #[.int .i64 (s.depMore n), .int .i64 0]) ∧ PTo W x W' (s.deposit a n (s.depMore n))
/-- What the program's Leave does. -/
structure LeaDo : Prop where
  name : ∀ {W : World} {x : Nat} {s : PS}, SC W x s → s.Good → s.PoolOk → ∀ (a n : Int), ¬ (0 ≤ a ∧ a ≤ (s.N : Int) - 1) → Calls Try.prog 22 #[.pointer (some ⟨x, 0, none⟩), .int .i64 a, .int .i64 n] W fun e W' => e = .returned (.tuple #[.int .i64 0, .int .i64 2]) ∧ Below W.heap.size W W'
  amount : ∀ {W : World} {x : Nat} {s : PS}, SC W x s → s.Good → s.PoolOk → ∀ (a n : Int), 0 ≤ a → a ≤ (s.N : Int) - 1 → ¬ (1 ≤ n ∧ n ≤ 1000000000) → Calls Try.prog 22 #[.pointer (some ⟨x, 0, none⟩), .int .i64 a, .int .i64 n] W fun e W' => e = .returned (.tuple #[.int .i64 0, .int .i64 3]) ∧ Below W.heap.size W W'
  funds : ∀ {W : World} {x : Nat} {s : PS}, SC W x s → s.Good → s.PoolOk → ∀ (a : Nat) (n : Int), a < s.N → 1 ≤ n → n ≤ 1000000000 → (s.acc a).shares < n → Calls Try.prog 22 #[.pointer (some ⟨x, 0, none⟩), .int .i64 a, .int .i64 n] W fun e W' => e = .returned (.tuple #[.int .i64 0, .int .i64 4]) ∧ Below W.heap.size W W'
  small : ∀ {W : World} {x : Nat} {s : PS}, SC W x s → s.Good → s.PoolOk → ∀ (a : Nat) (n : Int), a < s.N → 1 ≤ n → n ≤ 1000000000 → n ≤ (s.acc a).shares → s.worth n < 1 → Calls Try.prog 22 #[.pointer (some ⟨x, 0, none⟩), .int .i64 a, .int .i64 n] W fun e W' => e = .returned (.tuple #[.int .i64 0, .int .i64 5]) ∧ Below W.heap.size W W'
  busy : ∀ {W : World} {x : Nat} {s : PS}, SC W x s → s.Good → s.PoolOk → ∀ (a : Nat) (n : Int), a < s.N → 1 ≤ n → n ≤ 1000000000 → n ≤ (s.acc a).shares → 1 ≤ s.worth n → (s.acc s.N).locked < s.worth n → Calls Try.prog 22 #[.pointer (some ⟨x, 0, none⟩), .int .i64 a, .int .i64 n] W fun e W' => e = .returned (.tuple #[.int .i64 0, .int .i64 7]) ∧ Below W.heap.size W W'
  ok : ∀ {W : World} {x : Nat} {s : PS}, SC W x s → s.Good → s.PoolOk → ∀ (a : Nat) (n : Int), a < s.N → 1 ≤ n → n ≤ 1000000000 → n ≤ (s.acc a).shares → 1 ≤ s.worth n → s.worth n ≤ (s.acc s.N).locked → Calls Try.prog 22 #[.pointer (some ⟨x, 0, none⟩), .int .i64 a, .int .i64 n] W fun e W' => e = .returned (.tuple #[.int .i64 (s.worth n), .int .i64 0]) ∧ PTo W x W' (s.leave a n (s.worth n))
end Go.Proofs.Ytiokecadnmcpeab
namespace Go.Proofs.Ytiokecadnmcpeab
set_option linter.unusedVariables false
set_option linter.unusedSimpArgs false
open Go.ChangeShapes Go.WideShapes Go.ChangeAt Go.RowKit

set_option maxHeartbeats 800000 in
theorem part_any (v a p : Int) (w : World) (hv0 : 0 ≤ v) (hv1 : v ≤ 1000000000) (ha0 : 0 ≤ a) (ha1 : a ≤ 1000000000) (hp0 : 0 ≤ p) (hp1 : p ≤ 1000000000) :
    Calls Try.prog 65 #[.int .i64 v, .int .i64 a, .int .i64 p] w fun e w' => e = .returned (.int .i64 (v * a / p)) ∧ w' = w := by
  have hm := pmul_bd hv0 hv1 ha0 ha1
  obtain ⟨M, hM⟩ : ∃ M, v * a / p = M := ⟨_, rfl⟩
  have hMb : 0 ≤ M ∧ M ≤ 1000000000000000000 := by
    rw [← hM]; exact ⟨Int.ediv_nonneg hm.1 hp0, Int.le_trans (Int.ediv_le_self _ hm.1) (by omega)⟩
  rw [hM]
  by_cases hp : p < 1
  · have e : p = 0 := by omega
    subst e
    have e2 : M = 0 := by rw [← hM]; simp
    subst e2
    clear hM
    go_enter Try.func65, Try.ntmps65
    go_wp2_with fail
    go_ret
    exact ⟨rfl, rfl⟩
  · have p1 : ¬ p = 0 := by omega
    have p2 : ¬ p = -1 := by omega
    go_enter Try.func65, Try.ntmps65
    go_wp2_with fail
    go_ret
    exact ⟨rfl, rfl⟩

section
variable {w : World} {x : Nat} {s : PS}

theorem PS.Good.pool_bd (g : s.Good) : (0 ≤ (s.acc s.N).tot ∧ (s.acc s.N).tot ≤ 1000000000) ∧ 0 ≤ s.allShares ∧ s.allShares ≤ 1000000000 := by
  have hN := g.N6
  have h0 := psum_le (fun a => (s.acc a).shares) 7 (fun k hk => (g.pos k hk).h0)
  have h1 := psum_le (fun a => (s.acc a).tot) 7 (fun k hk => (g.pos k hk).tot.1)
  have h2 := h1.2 s.N (by omega)
  have h3 := g.sup
  have h4 := g.t0
  have h5 := (g.pos s.N (by omega)).tot.1
  have h6 := h0.1
  have h7 := g.shr
  unfold PS.supply at h3
  unfold PS.allShares at *
  omega
theorem PS.depMore_bd (g : s.Good) (n : Int) (h1 : 1 ≤ n) (h2 : n ≤ 1000000000) : 0 ≤ s.depMore n ∧ s.depMore n ≤ 1000000000000000000 := by
  obtain ⟨hp, b0, b1⟩ := g.pool_bd
  have hm := pmul_bd (show 0 ≤ n by omega) h2 b0 b1
  unfold PS.depMore
  split
  · omega
  · exact ⟨Int.ediv_nonneg hm.1 hp.1, Int.le_trans (Int.ediv_le_self _ hm.1) (by omega)⟩
theorem PS.worth_bd (g : s.Good) (n : Int) (h1 : 1 ≤ n) (h2 : n ≤ 1000000000) : 0 ≤ s.worth n ∧ s.worth n ≤ 1000000000000000000 := by
  obtain ⟨hp, b0, b1⟩ := g.pool_bd
  have hm := pmul_bd (show 0 ≤ n by omega) h2 hp.1 hp.2
  unfold PS.worth
  exact ⟨Int.ediv_nonneg hm.1 b0, Int.le_trans (Int.ediv_le_self _ hm.1) (by omega)⟩

set_option maxHeartbeats 800000 in
theorem sharesfor (h : SC w x s) (g : s.Good) (n : Int) (hn1 : 1 ≤ n) (hn2 : n ≤ 1000000000) :
    Calls Try.prog 43 #[.pointer (some ⟨x, 0, none⟩), .int .i64 n] w fun e w' => e = .returned (.int .i64 (s.depMore n)) ∧ ∃ k, w' = w.drewN k := by
  obtain ⟨⟨p0, p1⟩, b0, b1⟩ := g.pool_bd
  have hN : w.cell? ⟨x, 0, none⟩ = some (.int .i64 (s.N : Int)) := h.num (j := 0) (by omega)
  have N6 := g.N6
  have i7 : (s.N : Int) < 7 := by omega
  have HO := hid g.ok
  unfold PS.depMore
  by_cases e : s.allShares = 0
  · rw [if_pos e]
    go_enter Try.func43, Try.ntmps43
    go_wp2_with fail
    refine (allshares_any h HO.out).mono ?_
    rintro e1 w1 ⟨rfl, n1, rfl⟩
    rw [e]
    go_wp2_with fail
    go_ret
    exact ⟨rfl, _, rfl⟩
  · rw [if_neg e]
    have Hs := hid (fun W (hS : SC W x s) => allshares_any hS HO.out)
    generalize s.allShares = S at *
    go_enter Try.func43, Try.ntmps43
    go_wp2_with fail
    refine (Hs.out _ h).mono ?_
    rintro e1 w1 ⟨rfl, n1, hw1⟩
    have h1 : SC w1 x s := by rw [hw1]; exact h.dn n1
    have hN1 : w1.cell? ⟨x, 0, none⟩ = some (.int .i64 (s.N : Int)) := h1.num (j := 0) (by omega)
    have Hw := hid hw1
    clear hw1 hN
    go_wp2_with fail
    go_quiet ((go_at_call 41; exact Calls.quiet_of (all_of (h1.dn _) HO.out s.N (by omega))))
    go_wp2_with fail
    refine (part_any n S (s.acc s.N).tot _ (by omega) hn2 b0 b1 p0 p1).mono ?_
    rintro e1 w2 ⟨rfl, rfl⟩
    go_wp2_with fail
    go_ret
    exact ⟨rfl, _, by rw [Hw.out, World.drewN_drewN]⟩

set_option maxHeartbeats 800000 in
theorem worthof (h : SC w x s) (g : s.Good) (n : Int) (hn1 : 1 ≤ n) (hn2 : n ≤ 1000000000) :
    Calls Try.prog 44 #[.pointer (some ⟨x, 0, none⟩), .int .i64 n] w fun e w' => e = .returned (.int .i64 (s.worth n)) ∧ ∃ k, w' = w.drewN k := by
  obtain ⟨⟨p0, p1⟩, b0, b1⟩ := g.pool_bd
  have hN : w.cell? ⟨x, 0, none⟩ = some (.int .i64 (s.N : Int)) := h.num (j := 0) (by omega)
  have N6 := g.N6
  have i7 : (s.N : Int) < 7 := by omega
  have HO := hid g.ok
  unfold PS.worth
  go_enter Try.func44, Try.ntmps44
  go_wp2_with fail
  go_quiet ((go_at_call 41; exact Calls.quiet_of (all_of (h.dn _) HO.out s.N (by omega))))
  go_wp2_with fail
  refine (allshares_any (h.dn _) HO.out).mono ?_
  rintro e1 w1 ⟨rfl, n1, rfl⟩
  go_wp2_with fail
  refine (part_any n (s.acc s.N).tot s.allShares _ (by omega) hn2 p0 p1 b0 b1).mono ?_
  rintro e1 w1 ⟨rfl, rfl⟩
  go_wp2_with fail
  go_ret
  exact ⟨rfl, _, rfl⟩

theorem dep_same (s : PS) {a : Nat} (hne : ¬ s.N = a) (n M : Int) : s.deposit a n M = ((s.setAcc a { s.acc a with liquid := (s.acc a).liquid - n }).setAcc s.N { (s.setAcc a { s.acc a with liquid := (s.acc a).liquid - n }).acc s.N with locked := (s.acc s.N).locked + n }).setAcc a { ((s.setAcc a { s.acc a with liquid := (s.acc a).liquid - n }).setAcc s.N { (s.setAcc a { s.acc a with liquid := (s.acc a).liquid - n }).acc s.N with locked := (s.acc s.N).locked + n }).acc a with shares := (s.acc a).shares + M } := by
  rw [PS.setAcc_other _ _ hne, PS.setAcc_other _ _ (fun e => hne e.symm), PS.setAcc_same]
  unfold PS.deposit PS.setAcc
  congr 1
  funext i
  by_cases e : i = a
  · subst e
    have h2 : ¬ i = s.N := fun e => hne e.symm
    simp [h2]
  · simp [e]
theorem lea_same (s : PS) {a : Nat} (hne : ¬ s.N = a) (n M : Int) (k : Nat) (hk : (s.delay - 1).toNat = k) : s.leave a n M = ((s.setAcc a { s.acc a with shares := (s.acc a).shares - n }).setAcc s.N { (s.setAcc a { s.acc a with shares := (s.acc a).shares - n }).acc s.N with locked := (s.acc s.N).locked - M }).setAcc a { ((s.setAcc a { s.acc a with shares := (s.acc a).shares - n }).setAcc s.N { (s.setAcc a { s.acc a with shares := (s.acc a).shares - n }).acc s.N with locked := (s.acc s.N).locked - M }).acc a with q := updQ (((s.setAcc a { s.acc a with shares := (s.acc a).shares - n }).setAcc s.N { (s.setAcc a { s.acc a with shares := (s.acc a).shares - n }).acc s.N with locked := (s.acc s.N).locked - M }).acc a).q k ((((s.setAcc a { s.acc a with shares := (s.acc a).shares - n }).setAcc s.N { (s.setAcc a { s.acc a with shares := (s.acc a).shares - n }).acc s.N with locked := (s.acc s.N).locked - M }).acc a).q k + M) } := by
  rw [PS.setAcc_other _ _ hne, PS.setAcc_other _ _ (fun e => hne e.symm), PS.setAcc_same]
  unfold PS.leave PS.setAcc
  rw [hk]
  congr 1
  funext i
  by_cases e : i = a
  · subst e
    have h2 : ¬ i = s.N := fun e => hne e.symm
    simp [h2]
  · simp [e]

set_option maxHeartbeats 800000 in
theorem dep_name (h : SC w x s) (g : s.Good) (a n : Int) (ha : ¬ (0 ≤ a ∧ a ≤ (s.N : Int) - 1)) :
    Calls Try.prog 21 #[.pointer (some ⟨x, 0, none⟩), .int .i64 a, .int .i64 n] w fun e w' => e = .returned (.tuple #[.int .i64 0, .int .i64 2]) ∧ Below w.heap.size w w' := by
  have HO := hid g.ok
  have Ha := hid ha
  clear ha
  go_enter Try.func21, Try.ntmps21
  go_wp2_with fail
  refine (isper_no h HO.out.toCf _ Ha.out).mono ?_
  rintro e w1 ⟨rfl, hw1⟩
  have hw1' := hw1.symm
  subst hw1'
  go_wp2_with fail
  go_ret2
  exact ⟨rfl, Below.refl _ _⟩

set_option maxHeartbeats 800000 in
theorem dep_amount (h : SC w x s) (g : s.Good) (a n : Int) (ha1 : 0 ≤ a) (ha2 : a ≤ (s.N : Int) - 1) (hn : ¬ (1 ≤ n ∧ n ≤ 1000000000)) :
    Calls Try.prog 21 #[.pointer (some ⟨x, 0, none⟩), .int .i64 a, .int .i64 n] w fun e w' => e = .returned (.tuple #[.int .i64 0, .int .i64 3]) ∧ Below w.heap.size w w' := by
  have HO := hid g.ok
  have Hn := hid hn
  clear hn
  go_enter Try.func21, Try.ntmps21
  go_wp2_with fail
  refine (isper_yes h HO.out.toCf _ ha1 ha2).mono ?_
  rintro e w1 ⟨rfl, hw1⟩
  have hw1' := hw1.symm
  subst hw1'
  go_wp2_with fail
  refine (within_no _ _ _ _ Hn.out).mono ?_
  rintro e w1 ⟨rfl, hw1⟩
  have hw1' := hw1.symm
  subst hw1'
  go_wp2_with fail
  go_ret2
  exact ⟨rfl, Below.refl _ _⟩

set_option maxHeartbeats 800000 in
theorem dep_funds (h : SC w x s) (g : s.Good) (a : Nat) (n : Int) (ha : a < s.N) (hn1 : 1 ≤ n) (hn2 : n ≤ 1000000000) (hf : (s.acc a).liquid < n) :
    Calls Try.prog 21 #[.pointer (some ⟨x, 0, none⟩), .int .i64 a, .int .i64 n] w fun e w' => e = .returned (.tuple #[.int .i64 0, .int .i64 4]) ∧ Below w.heap.size w w' := by
  have HO := hid g.ok
  have hp6 := g.N6
  have e0 : w.cell? ⟨x, 10 + a * 11, none⟩ = some (.int .i64 (s.acc a).liquid) := h.at (a := a) (by omega) (j := 0) (by omega)
  have g1 : (0 : Int) ≤ (a : Int) := by omega
  have g2 : (a : Int) ≤ (s.N : Int) - 1 := by omega
  have g5 : (a : Int) < 7 := by omega
  go_enter Try.func21, Try.ntmps21
  go_wp2_with fail
  refine (isper_yes h HO.out.toCf _ g1 g2).mono ?_
  rintro e w1 ⟨rfl, hw1⟩
  have hw1' := hw1.symm
  subst hw1'
  go_wp2_with fail
  refine (within_yes _ _ _ _ hn1 hn2).mono ?_
  rintro e w1 ⟨rfl, hw1⟩
  have hw1' := hw1.symm
  subst hw1'
  go_wp2_with fail
  go_ret2
  exact ⟨rfl, Below.refl _ _⟩

set_option maxHeartbeats 800000 in
theorem dep_small (h : SC w x s) (g : s.Good) (a : Nat) (n : Int) (ha : a < s.N) (hn1 : 1 ≤ n) (hn2 : n ≤ 1000000000) (hf : n ≤ (s.acc a).liquid) (hm : s.depMore n < 1) :
    Calls Try.prog 21 #[.pointer (some ⟨x, 0, none⟩), .int .i64 a, .int .i64 n] w fun e w' => e = .returned (.tuple #[.int .i64 0, .int .i64 5]) ∧ Below w.heap.size w w' := by
  have HO := hid g.ok
  have hp6 := g.N6
  have e0 : w.cell? ⟨x, 10 + a * 11, none⟩ = some (.int .i64 (s.acc a).liquid) := h.at (a := a) (by omega) (j := 0) (by omega)
  have g1 : (0 : Int) ≤ (a : Int) := by omega
  have g2 : (a : Int) ≤ (s.N : Int) - 1 := by omega
  have g5 : (a : Int) < 7 := by omega
  have hmb := PS.depMore_bd g n hn1 hn2
  have HV := hid (fun W (hS : SC W x s) => sharesfor hS g n hn1 hn2)
  generalize s.depMore n = M at *
  go_enter Try.func21, Try.ntmps21
  go_wp2_with fail
  refine (isper_yes h HO.out.toCf _ g1 g2).mono ?_
  rintro e w1 ⟨rfl, hw1⟩
  have hw1' := hw1.symm
  subst hw1'
  go_wp2_with fail
  refine (within_yes _ _ _ _ hn1 hn2).mono ?_
  rintro e w1 ⟨rfl, hw1⟩
  have hw1' := hw1.symm
  subst hw1'
  go_wp2_with fail
  refine (HV.out _ h).mono ?_
  rintro e1 w1 ⟨rfl, n1, rfl⟩
  go_wp2_with fail
  go_ret2
  exact ⟨rfl, below_drewN (Below.refl _ _) _⟩

set_option maxHeartbeats 800000 in
theorem dep_full (h : SC w x s) (g : s.Good) (a : Nat) (n : Int) (ha : a < s.N) (hn1 : 1 ≤ n) (hn2 : n ≤ 1000000000) (hf : n ≤ (s.acc a).liquid) (hm : 1 ≤ s.depMore n) (hx : 1000000000 < s.allShares + s.depMore n) :
    Calls Try.prog 21 #[.pointer (some ⟨x, 0, none⟩), .int .i64 a, .int .i64 n] w fun e w' => e = .returned (.tuple #[.int .i64 0, .int .i64 6]) ∧ Below w.heap.size w w' := by
  have HO := hid g.ok
  have hp6 := g.N6
  have e0 : w.cell? ⟨x, 10 + a * 11, none⟩ = some (.int .i64 (s.acc a).liquid) := h.at (a := a) (by omega) (j := 0) (by omega)
  have g1 : (0 : Int) ≤ (a : Int) := by omega
  have g2 : (a : Int) ≤ (s.N : Int) - 1 := by omega
  have g5 : (a : Int) < 7 := by omega
  have hmb := PS.depMore_bd g n hn1 hn2
  have HV := hid (fun W (hS : SC W x s) => sharesfor hS g n hn1 hn2)
  have HS := hid (fun W (hS : SC W x s) => allshares_any hS HO.out)
  obtain ⟨hpp, b0, b1⟩ := g.pool_bd
  generalize s.depMore n = M at *
  generalize s.allShares = S at *
  go_enter Try.func21, Try.ntmps21
  go_wp2_with fail
  refine (isper_yes h HO.out.toCf _ g1 g2).mono ?_
  rintro e w1 ⟨rfl, hw1⟩
  have hw1' := hw1.symm
  subst hw1'
  go_wp2_with fail
  refine (within_yes _ _ _ _ hn1 hn2).mono ?_
  rintro e w1 ⟨rfl, hw1⟩
  have hw1' := hw1.symm
  subst hw1'
  go_wp2_with fail
  refine (HV.out _ h).mono ?_
  rintro e1 w1 ⟨rfl, n1, rfl⟩
  go_wp2_with fail
  refine (HS.out _ (h.dn _)).mono ?_
  rintro e1 w1 ⟨rfl, n2, rfl⟩
  go_wp2_with fail
  go_ret2
  exact ⟨rfl, below_drewN (Below.refl _ _) _⟩

set_option maxHeartbeats 1600000 in
theorem dep_ok (h : SC w x s) (g : s.Good) (a : Nat) (n : Int) (ha : a < s.N) (hn1 : 1 ≤ n) (hn2 : n ≤ 1000000000) (hf : n ≤ (s.acc a).liquid) (hm : 1 ≤ s.depMore n) (hx : s.allShares + s.depMore n ≤ 1000000000) :
    Calls Try.prog 21 #[.pointer (some ⟨x, 0, none⟩), .int .i64 a, .int .i64 n] w fun e w' => e = .returned (.tuple #[.int .i64 (s.depMore n), .int .i64 0]) ∧ PTo w x w' (s.deposit a n (s.depMore n)) := by
  have HO := hid g.ok
  have hp6 := g.N6
  have e0 : w.cell? ⟨x, 10 + a * 11, none⟩ = some (.int .i64 (s.acc a).liquid) := h.at (a := a) (by omega) (j := 0) (by omega)
  have g1 : (0 : Int) ≤ (a : Int) := by omega
  have g2 : (a : Int) ≤ (s.N : Int) - 1 := by omega
  have g5 : (a : Int) < 7 := by omega
  have hmb := PS.depMore_bd g n hn1 hn2
  have HV := hid (fun W (hS : SC W x s) => sharesfor hS g n hn1 hn2)
  have HS := hid (fun W (hS : SC W x s) => allshares_any hS HO.out)
  obtain ⟨hpp, b0, b1⟩ := g.pool_bd
  generalize s.depMore n = M at *
  have hN : w.cell? ⟨x, 0, none⟩ = some (.int .i64 (s.N : Int)) := h.num (j := 0) (by omega)
  have i7 : (s.N : Int) < 7 := by omega
  have hne : ¬ s.N = a := by omega
  have hsh : (s.acc a).shares ≤ s.allShares := (psum_le (fun a => (s.acc a).shares) 7 (fun k hk => (g.pos k hk).h0)).2 a (by omega)
  have hs0 := (g.pos a (by omega)).h0
  have hl0 := (g.ok.acc a (by omega)).l0
  have hl1 := (g.ok.acc a (by omega)).l1
  have hk0 := (g.ok.acc s.N (by omega)).k0
  have hk1 := (g.ok.acc s.N (by omega)).k1
  generalize s.allShares = S at *
  have e1 : w.cell? ⟨x, 10 + s.N * 11 + 1, none⟩ = some (.int .i64 (s.acc s.N).locked) := h.at (a := s.N) (by omega) (j := 1) (by omega)
  have e2 : w.cell? ⟨x, 10 + a * 11 + 4, none⟩ = some (.int .i64 (s.acc a).shares) := h.at (a := a) (by omega) (j := 4) (by omega)
  have f0 : w.frozen? ⟨x, 10 + a * 11, none⟩ = false := h.frozen _
  have f1 : w.frozen? ⟨x, 10 + s.N * 11 + 1, none⟩ = false := h.frozen _
  have f2 : w.frozen? ⟨x, 10 + a * 11 + 4, none⟩ = false := h.frozen _
  have n1 : ¬ 10 + s.N * 11 + 1 = 10 + a * 11 := by omega
  have n2 : ¬ 10 + a * 11 + 4 = 10 + a * 11 := by omega
  have n3 : ¬ 10 + a * 11 + 4 = 10 + s.N * 11 + 1 := by omega
  have n4 : ¬ 0 = 10 + a * 11 := by omega
  have t1 := h.setLiq (a := a) (by omega) ((s.acc a).liquid - n)
  have t2 := t1.trans (t1.sc.setLock (a := s.N) (by omega) ((s.acc s.N).locked + n))
  have t3 := t2.trans (t2.sc.setShares (a := a) (by omega) ((s.acc a).shares + M))
  have H3 := hid (show PTo w x _ (s.deposit a n M) by
    have e : s.deposit a n M = _ := dep_same s hne n M
    rw [e]; exact t3)
  clear t1 t2 t3
  generalize s.deposit a n M = sd at *
  generalize (s.acc a).liquid = lq at *
  generalize (s.acc a).shares = sh at *
  generalize (s.acc s.N).locked = lk at *
  go_enter Try.func21, Try.ntmps21
  go_wp2_with fail
  refine (isper_yes h HO.out.toCf _ g1 g2).mono ?_
  rintro e w1 ⟨rfl, hw1⟩
  have hw1' := hw1.symm
  subst hw1'
  go_wp2_with fail
  refine (within_yes _ _ _ _ hn1 hn2).mono ?_
  rintro e w1 ⟨rfl, hw1⟩
  have hw1' := hw1.symm
  subst hw1'
  go_wp2_with fail
  refine (HV.out _ h).mono ?_
  rintro e1 w1 ⟨rfl, n1, rfl⟩
  go_wp2_with fail
  refine (HS.out _ (h.dn _)).mono ?_
  rintro e1 w1 ⟨rfl, n2, rfl⟩
  go_wp2_with fail
  go_region
  go_wp2_with fail
  go_region
  go_wp2_with fail
  go_region
  go_wp2_with fail
  go_ret2
  exact ⟨rfl, H3.out.same rfl rfl rfl rfl⟩

set_option maxHeartbeats 800000 in
theorem lea_name (h : SC w x s) (g : s.Good) (a n : Int) (ha : ¬ (0 ≤ a ∧ a ≤ (s.N : Int) - 1)) :
    Calls Try.prog 22 #[.pointer (some ⟨x, 0, none⟩), .int .i64 a, .int .i64 n] w fun e w' => e = .returned (.tuple #[.int .i64 0, .int .i64 2]) ∧ Below w.heap.size w w' := by
  have HO := hid g.ok
  have Ha := hid ha
  clear ha
  go_enter Try.func22, Try.ntmps22
  go_wp2_with fail
  refine (isper_no h HO.out.toCf _ Ha.out).mono ?_
  rintro e w1 ⟨rfl, hw1⟩
  have hw1' := hw1.symm
  subst hw1'
  go_wp2_with fail
  go_ret2
  exact ⟨rfl, Below.refl _ _⟩

set_option maxHeartbeats 800000 in
theorem lea_amount (h : SC w x s) (g : s.Good) (a n : Int) (ha1 : 0 ≤ a) (ha2 : a ≤ (s.N : Int) - 1) (hn : ¬ (1 ≤ n ∧ n ≤ 1000000000)) :
    Calls Try.prog 22 #[.pointer (some ⟨x, 0, none⟩), .int .i64 a, .int .i64 n] w fun e w' => e = .returned (.tuple #[.int .i64 0, .int .i64 3]) ∧ Below w.heap.size w w' := by
  have HO := hid g.ok
  have Hn := hid hn
  clear hn
  go_enter Try.func22, Try.ntmps22
  go_wp2_with fail
  refine (isper_yes h HO.out.toCf _ ha1 ha2).mono ?_
  rintro e w1 ⟨rfl, hw1⟩
  have hw1' := hw1.symm
  subst hw1'
  go_wp2_with fail
  refine (within_no _ _ _ _ Hn.out).mono ?_
  rintro e w1 ⟨rfl, hw1⟩
  have hw1' := hw1.symm
  subst hw1'
  go_wp2_with fail
  go_ret2
  exact ⟨rfl, Below.refl _ _⟩

set_option maxHeartbeats 800000 in
theorem lea_funds (h : SC w x s) (g : s.Good) (a : Nat) (n : Int) (ha : a < s.N) (hn1 : 1 ≤ n) (hn2 : n ≤ 1000000000) (hf : (s.acc a).shares < n) :
    Calls Try.prog 22 #[.pointer (some ⟨x, 0, none⟩), .int .i64 a, .int .i64 n] w fun e w' => e = .returned (.tuple #[.int .i64 0, .int .i64 4]) ∧ Below w.heap.size w w' := by
  have HO := hid g.ok
  have hp6 := g.N6
  have e0 : w.cell? ⟨x, 10 + a * 11 + 4, none⟩ = some (.int .i64 (s.acc a).shares) := h.at (a := a) (by omega) (j := 4) (by omega)
  have g1 : (0 : Int) ≤ (a : Int) := by omega
  have g2 : (a : Int) ≤ (s.N : Int) - 1 := by omega
  have g5 : (a : Int) < 7 := by omega
  go_enter Try.func22, Try.ntmps22
  go_wp2_with fail
  refine (isper_yes h HO.out.toCf _ g1 g2).mono ?_
  rintro e w1 ⟨rfl, hw1⟩
  have hw1' := hw1.symm
  subst hw1'
  go_wp2_with fail
  refine (within_yes _ _ _ _ hn1 hn2).mono ?_
  rintro e w1 ⟨rfl, hw1⟩
  have hw1' := hw1.symm
  subst hw1'
  go_wp2_with fail
  go_ret2
  exact ⟨rfl, Below.refl _ _⟩

set_option maxHeartbeats 800000 in
theorem lea_small (h : SC w x s) (g : s.Good) (a : Nat) (n : Int) (ha : a < s.N) (hn1 : 1 ≤ n) (hn2 : n ≤ 1000000000) (hf : n ≤ (s.acc a).shares) (hm : s.worth n < 1) :
    Calls Try.prog 22 #[.pointer (some ⟨x, 0, none⟩), .int .i64 a, .int .i64 n] w fun e w' => e = .returned (.tuple #[.int .i64 0, .int .i64 5]) ∧ Below w.heap.size w w' := by
  have HO := hid g.ok
  have hp6 := g.N6
  have e0 : w.cell? ⟨x, 10 + a * 11 + 4, none⟩ = some (.int .i64 (s.acc a).shares) := h.at (a := a) (by omega) (j := 4) (by omega)
  have g1 : (0 : Int) ≤ (a : Int) := by omega
  have g2 : (a : Int) ≤ (s.N : Int) - 1 := by omega
  have g5 : (a : Int) < 7 := by omega
  have hmb := PS.worth_bd g n hn1 hn2
  have HV := hid (fun W (hS : SC W x s) => worthof hS g n hn1 hn2)
  generalize s.worth n = M at *
  go_enter Try.func22, Try.ntmps22
  go_wp2_with fail
  refine (isper_yes h HO.out.toCf _ g1 g2).mono ?_
  rintro e w1 ⟨rfl, hw1⟩
  have hw1' := hw1.symm
  subst hw1'
  go_wp2_with fail
  refine (within_yes _ _ _ _ hn1 hn2).mono ?_
  rintro e w1 ⟨rfl, hw1⟩
  have hw1' := hw1.symm
  subst hw1'
  go_wp2_with fail
  refine (HV.out _ h).mono ?_
  rintro e1 w1 ⟨rfl, n1, rfl⟩
  go_wp2_with fail
  go_ret2
  exact ⟨rfl, below_drewN (Below.refl _ _) _⟩

set_option maxHeartbeats 800000 in
theorem lea_busy (h : SC w x s) (g : s.Good) (a : Nat) (n : Int) (ha : a < s.N) (hn1 : 1 ≤ n) (hn2 : n ≤ 1000000000) (hf : n ≤ (s.acc a).shares) (hm : 1 ≤ s.worth n) (hx : (s.acc s.N).locked < s.worth n) :
    Calls Try.prog 22 #[.pointer (some ⟨x, 0, none⟩), .int .i64 a, .int .i64 n] w fun e w' => e = .returned (.tuple #[.int .i64 0, .int .i64 7]) ∧ Below w.heap.size w w' := by
  have HO := hid g.ok
  have hp6 := g.N6
  have e0 : w.cell? ⟨x, 10 + a * 11 + 4, none⟩ = some (.int .i64 (s.acc a).shares) := h.at (a := a) (by omega) (j := 4) (by omega)
  have g1 : (0 : Int) ≤ (a : Int) := by omega
  have g2 : (a : Int) ≤ (s.N : Int) - 1 := by omega
  have g5 : (a : Int) < 7 := by omega
  have hmb := PS.worth_bd g n hn1 hn2
  have HV := hid (fun W (hS : SC W x s) => worthof hS g n hn1 hn2)
  have hN : w.cell? ⟨x, 0, none⟩ = some (.int .i64 (s.N : Int)) := h.num (j := 0) (by omega)
  have i7 : (s.N : Int) < 7 := by omega
  have e1 : w.cell? ⟨x, 10 + s.N * 11 + 1, none⟩ = some (.int .i64 (s.acc s.N).locked) := h.at (a := s.N) (by omega) (j := 1) (by omega)
  generalize s.worth n = M at *
  go_enter Try.func22, Try.ntmps22
  go_wp2_with fail
  refine (isper_yes h HO.out.toCf _ g1 g2).mono ?_
  rintro e w1 ⟨rfl, hw1⟩
  have hw1' := hw1.symm
  subst hw1'
  go_wp2_with fail
  refine (within_yes _ _ _ _ hn1 hn2).mono ?_
  rintro e w1 ⟨rfl, hw1⟩
  have hw1' := hw1.symm
  subst hw1'
  go_wp2_with fail
  refine (HV.out _ h).mono ?_
  rintro e1 w1 ⟨rfl, n1, rfl⟩
  go_wp2_with fail
  go_quiet (fail)
  go_wp2_with fail
  go_ret2
  exact ⟨rfl, below_drewN (below_drewN (Below.refl _ _) _) _⟩

set_option maxHeartbeats 1600000 in
theorem lea_ok (h : SC w x s) (g : s.Good) (a : Nat) (n : Int) (ha : a < s.N) (hn1 : 1 ≤ n) (hn2 : n ≤ 1000000000) (hf : n ≤ (s.acc a).shares) (hm : 1 ≤ s.worth n) (hx : s.worth n ≤ (s.acc s.N).locked) :
    Calls Try.prog 22 #[.pointer (some ⟨x, 0, none⟩), .int .i64 a, .int .i64 n] w fun e w' => e = .returned (.tuple #[.int .i64 (s.worth n), .int .i64 0]) ∧ PTo w x w' (s.leave a n (s.worth n)) := by
  have HO := hid g.ok
  have hp6 := g.N6
  have e0 : w.cell? ⟨x, 10 + a * 11 + 4, none⟩ = some (.int .i64 (s.acc a).shares) := h.at (a := a) (by omega) (j := 4) (by omega)
  have g1 : (0 : Int) ≤ (a : Int) := by omega
  have g2 : (a : Int) ≤ (s.N : Int) - 1 := by omega
  have g5 : (a : Int) < 7 := by omega
  have hmb := PS.worth_bd g n hn1 hn2
  have HV := hid (fun W (hS : SC W x s) => worthof hS g n hn1 hn2)
  have hN : w.cell? ⟨x, 0, none⟩ = some (.int .i64 (s.N : Int)) := h.num (j := 0) (by omega)
  have i7 : (s.N : Int) < 7 := by omega
  have hne : ¬ s.N = a := by omega
  have hs0 := (g.pos a (by omega)).h0
  have hs1 := (g.ok.acc a (by omega)).h1
  have hk0 := (g.ok.acc s.N (by omega)).k0
  have hk1 := (g.ok.acc s.N (by omega)).k1
  have hd := g.delay
  obtain ⟨k, hk⟩ : ∃ k : Nat, (s.delay - 1).toNat = k := ⟨_, rfl⟩
  have hk5 : k < 5 := by omega
  have hdk : s.delay = (k : Int) + 1 := by omega
  have hq0 := (g.ok.acc a (by omega)).q0 k hk5
  have hq1 := (g.ok.acc a (by omega)).q1 k hk5
  generalize s.worth n = M at *
  have e1 : w.cell? ⟨x, 10 + s.N * 11 + 1, none⟩ = some (.int .i64 (s.acc s.N).locked) := h.at (a := s.N) (by omega) (j := 1) (by omega)
  have e2 : w.cell? ⟨x, 2, none⟩ = some (.int .i64 s.delay) := h.num (j := 2) (by omega)
  have f0 : w.frozen? ⟨x, 10 + a * 11 + 4, none⟩ = false := h.frozen _
  have f1 : w.frozen? ⟨x, 10 + s.N * 11 + 1, none⟩ = false := h.frozen _
  have nn : ¬ 10 + s.N * 11 + 1 = 10 + a * 11 + 4 := by omega
  have n4 : ¬ 0 = 10 + a * 11 + 4 := by omega
  have t1 := h.setShares (a := a) (by omega) ((s.acc a).shares - n)
  have t2 := t1.trans (t1.sc.setLock (a := s.N) (by omega) ((s.acc s.N).locked - M))
  have hA : ∀ W, SC W x _ → _ := fun W hS => await_ok (w := W) (x := x) (s := (s.setAcc a { s.acc a with shares := (s.acc a).shares - n }).setAcc s.N { (s.setAcc a { s.acc a with shares := (s.acc a).shares - n }).acc s.N with locked := (s.acc s.N).locked - M }) hS (a := a) (k := k) (by omega) hk5 s.delay M hdk ⟨by omega, by omega⟩ (by rw [PS.setAcc_other _ _ (fun e => hne e.symm), PS.setAcc_same]; exact ⟨hq0, Int.le_trans hq1 (by omega)⟩)
  rw [← lea_same s hne n M k hk] at hA
  have hnum : (s.leave a n M).num 2 = .int .i64 s.delay := rfl
  have hnum2 : ((s.setAcc a { s.acc a with shares := (s.acc a).shares - n }).setAcc s.N { (s.setAcc a { s.acc a with shares := (s.acc a).shares - n }).acc s.N with locked := (s.acc s.N).locked - M }).num 2 = .int .i64 s.delay := rfl
  generalize s.leave a n M = sl at *
  generalize (s.setAcc a { s.acc a with shares := (s.acc a).shares - n }).setAcc s.N { (s.setAcc a { s.acc a with shares := (s.acc a).shares - n }).acc s.N with locked := (s.acc s.N).locked - M } = s2 at *
  have T2 := hid t2
  have HA := hid hA
  have HD := hid hnum
  have HD2 := hid hnum2
  clear hA hnum hnum2 hk hdk hq0 hq1 hk5 hne
  clear t1 t2
  generalize (s.acc a).shares = sh at *
  generalize (s.acc s.N).locked = lk at *
  go_enter Try.func22, Try.ntmps22
  go_wp2_with fail
  refine (isper_yes h HO.out.toCf _ g1 g2).mono ?_
  rintro e w1 ⟨rfl, hw1⟩
  have hw1' := hw1.symm
  subst hw1'
  go_wp2_with fail
  refine (within_yes _ _ _ _ hn1 hn2).mono ?_
  rintro e w1 ⟨rfl, hw1⟩
  have hw1' := hw1.symm
  subst hw1'
  go_wp2_with fail
  refine (HV.out _ h).mono ?_
  rintro e1 w1 ⟨rfl, n1, rfl⟩
  go_wp2_with fail
  go_quiet (fail)
  go_wp2_with fail
  go_region
  go_wp2_with fail
  go_region
  go_wp2_with fail
  obtain ⟨W2, hW2⟩ : ∃ W2, W2 = (((w.drewN (n1 + nq + 1)).setCell ⟨x, 10 + a * 11 + 4, none⟩ (.int .i64 (sh - n))).setCell ⟨x, 10 + s.N * 11 + 1, none⟩ (.int .i64 (lk - M))).drew := ⟨_, rfl⟩
  rw [← hW2]
  have T3 := hid (show PTo w x W2 s2 by rw [hW2]; exact T2.out.same rfl rfl rfl rfl)
  have e2' : W2.cell? ⟨x, 2, none⟩ = some (.int .i64 s.delay) := by rw [← HD2.out]; exact T3.out.sc.num (j := 2) (by omega)
  clear hW2 T2 e0 e1 e2 f0 f1 nn n4 hN HV
  go_region_held3 (fun w' => w'.cell? ⟨x, 2, none⟩ = some (.int .i64 s.delay)) (go_keep) ((go_at_call 45; refine (HA.out _ (T3.out.sc.below (Below.refl _ _).drew)).mono ?_; rintro e1 w1 ⟨rfl, t3⟩; (have d7 : w1.cell? ⟨x, 2, none⟩ = some (.int .i64 s.delay) := by rw [← HD.out]; exact t3.sc.num (j := 2) (by omega))))
  go_wp2_with fail
  go_ret2
  exact ⟨rfl, T3.out.drew.trans t3⟩
end

theorem depDo : DepDo where
  name := fun h g p a n ha => dep_name h g a n ha
  amount := fun h g p a n h1 h2 hn => dep_amount h g a n h1 h2 hn
  funds := fun h g p a n ha h1 h2 hf => dep_funds h g a n ha h1 h2 hf
  small := fun h g p a n ha h1 h2 hf hm => dep_small h g a n ha h1 h2 hf hm
  full := fun h g p a n ha h1 h2 hf hm hx => dep_full h g a n ha h1 h2 hf hm hx
  ok := fun h g p a n ha h1 h2 hf hm hx => dep_ok h g a n ha h1 h2 hf hm hx
theorem leaDo : LeaDo where
  name := fun h g p a n ha => lea_name h g a n ha
  amount := fun h g p a n h1 h2 hn => lea_amount h g a n h1 h2 hn
  funds := fun h g p a n ha h1 h2 hf => lea_funds h g a n ha h1 h2 hf
  small := fun h g p a n ha h1 h2 hf hm => lea_small h g a n ha h1 h2 hf hm
  busy := fun h g p a n ha h1 h2 hf hm hx => lea_busy h g a n ha h1 h2 hf hm hx
  ok := fun h g p a n ha h1 h2 hf hm hx => lea_ok h g a n ha h1 h2 hf hm hx
end Go.Proofs.Ytiokecadnmcpeab
