import Derived.Test.YtiokecadnmcpeabRefB
namespace Go.Proofs.Ytiokecadnmcpeab
set_option linter.unusedVariables false
set_option linter.unusedSimpArgs false
open Go.ChangeShapes Go.WideShapes Go.ChangeAt Go.RowKit

section
variable {w : World} {B y : Nat} {r : RS} {v : Nat → Value}

set_option maxHeartbeats 800000 in
theorem rmake_height (h : RC w B y r v) (c : Cfg r) (a : Int) (ha : ¬ (0 ≤ a ∧ a ≤ r.length - 1)) :
    Calls Try.prog 85 #[.pointer (some ⟨y, 0, none⟩), .int .i64 a] w fun e w' => e = .returned (.int .i64 10) ∧ Below w.heap.size w w' := by
  have Ha := hid ha
  clear ha
  go_enter Try.func85, Try.ntmps85
  go_wp2_with fail
  refine (rleader_height h c a Ha.out).mono ?_
  rintro e w1 ⟨rfl, b1⟩
  go_wp2_with fail
  go_ret
  exact ⟨rfl, b1⟩

set_option maxHeartbeats 800000 in
theorem rmake_none (h : RC w B y r v) (c : Cfg r) (a : Int) (ha : 0 ≤ a) (ha2 : a ≤ r.length - 1) (hr : r.row.length = 0) :
    Calls Try.prog 85 #[.pointer (some ⟨y, 0, none⟩), .int .i64 a] w fun e w' => e = .returned (.int .i64 11) ∧ Below w.heap.size w w' := by
  have Hr := hid hr
  clear hr
  go_enter Try.func85, Try.ntmps85
  go_wp2_with fail
  refine (rleader_none h c a ha ha2 Hr.out).mono ?_
  rintro e w1 ⟨rfl, b1⟩
  go_wp2_with fail
  go_ret
  exact ⟨rfl, b1⟩

set_option maxHeartbeats 1600000 in
theorem rmake_again (h : RC w B y r v) (c : Cfg r) (a : Nat) (ha2 : (a : Int) ≤ r.length - 1) (hr : 0 < r.row.length) (hm : r.made.getD a false = true) :
    Calls Try.prog 85 #[.pointer (some ⟨y, 0, none⟩), .int .i64 a] w fun e w' => e = .returned (.int .i64 12) ∧ Below w.heap.size w w' := by
  have hml := c.made
  go_enter Try.func85, Try.ntmps85
  go_wp2_with fail
  refine (rleader_ok h c a ha2 hr).mono ?_
  rintro e w1 ⟨rfl, b1⟩
  have h1 := h.below b1
  have hM : w1.cell? ⟨y, 14, none⟩ = some (v 4) := h1.cells 14 (by omega)
  obtain ⟨g, cap, hv, hcm⟩ := own_boolAt h1.made (k := a) (by omega)
  rw [hm] at hcm
  rw [hv] at hM
  have i1 : (a : Int) < (r.made.length : Int) := by omega
  clear hv hm
  go_wp2_with fail
  go_ret
  exact ⟨rfl, b1⟩

set_option maxHeartbeats 1600000 in
theorem rmake_ok (h : RC w B y r v) (c : Cfg r) (a : Nat) (ha2 : (a : Int) ≤ r.length - 1) (hr : 0 < r.row.length) (hm : r.made.getD a false = false) :
    Calls Try.prog 85 #[.pointer (some ⟨y, 0, none⟩), .int .i64 a] w fun e w' => e = .returned (.int .i64 0) ∧ ∃ v', RTo w B y v w' { r with made := r.made.set a true } v' := by
  have hml := c.made
  go_enter Try.func85, Try.ntmps85
  go_wp2_with fail
  refine (rleader_ok h c a ha2 hr).mono ?_
  rintro e w1 ⟨rfl, b1⟩
  have h1 := h.below b1
  have hM : w1.cell? ⟨y, 14, none⟩ = some (v 4) := h1.cells 14 (by omega)
  obtain ⟨g, cap, hv, hcm⟩ := own_boolAt h1.made (k := a) (by omega)
  have ho := h1.made
  rw [hv] at ho
  have hfz := ho.frozenAt a
  have T := hid ((RTo.ofBelow h b1).trans (h1.set_made hv a true))
  rw [hm] at hcm
  rw [hv] at hM
  have i1 : (a : Int) < (r.made.length : Int) := by omega
  clear hv hm ho h1
  go_wp2_with fail
  go_ret
  exact ⟨rfl, v, T.out⟩

set_option maxHeartbeats 800000 in
theorem rslash_name (h : RC w B y r v) (c : Cfg r) (a : Int) (ha : ¬ (0 ≤ a ∧ a ≤ (r.N : Int))) :
    Calls Try.prog 86 #[.pointer (some ⟨y, 0, none⟩), .int .i64 a] w fun e w' => e = .returned (.int .i64 2) ∧ Below w.heap.size w w' := by
  have hN := h.cN
  have Ha := hid ha
  clear ha
  go_enter Try.func86, Try.ntmps86
  go_wp2_with fail
  refine (rwithin_no _ _ _ _ Ha.out).mono ?_
  rintro e w1 ⟨rfl, rfl⟩
  go_wp2_with fail
  go_ret
  exact ⟨rfl, Below.refl _ _⟩

set_option maxHeartbeats 1600000 in
theorem rslash_none (h : RC w B y r v) (c : Cfg r) (a : Nat) (ha : a ≤ r.N) (hz : r.has.getD a 0 = 0) :
    Calls Try.prog 86 #[.pointer (some ⟨y, 0, none⟩), .int .i64 a] w fun e w' => e = .returned (.int .i64 11) ∧ Below w.heap.size w w' := by
  have hN := h.cN
  have hhl := c.has
  have ha1 : (0 : Int) ≤ (a : Int) := by omega
  have ha2 : (a : Int) ≤ (r.N : Int) := by omega
  have hH : w.cell? ⟨y, 10, none⟩ = some (v 2) := h.cells 10 (by omega)
  obtain ⟨g, cap, hv, hcm⟩ := own_intAt h.has (k := a) (by omega)
  rw [hz] at hcm
  rw [hv, hhl] at hH
  have i1 : (a : Int) < ((r.N + 1 : Nat) : Int) := by omega
  clear hv hz hhl
  go_enter Try.func86, Try.ntmps86
  go_wp2_with fail
  refine (rwithin_yes _ _ _ _ ha1 ha2).mono ?_
  rintro e w1 ⟨rfl, rfl⟩
  go_wp2_with fail
  go_ret
  exact ⟨rfl, Below.refl _ _⟩

set_option maxHeartbeats 1600000 in
theorem rslash_ok (h : RC w B y r v) (c : Cfg r) (a : Nat) (ha : a ≤ r.N) (hz : ¬ r.has.getD a 0 = 0) :
    Calls Try.prog 86 #[.pointer (some ⟨y, 0, none⟩), .int .i64 a] w fun e w' => e = .returned (.int .i64 0) ∧ ∃ v', RTo w B y v w' { r with cheat := r.cheat.set a true } v' := by
  have hN := h.cN
  have hhl := c.has
  have hcl := c.cheat
  have ha1 : (0 : Int) ≤ (a : Int) := by omega
  have ha2 : (a : Int) ≤ (r.N : Int) := by omega
  have hH : w.cell? ⟨y, 10, none⟩ = some (v 2) := h.cells 10 (by omega)
  have hC : w.cell? ⟨y, 15, none⟩ = some (v 5) := h.cells 15 (by omega)
  obtain ⟨g, cap, hv, hcm⟩ := own_intAt h.has (k := a) (by omega)
  obtain ⟨g2, cap2, hv2, hcm2⟩ := own_boolAt h.cheat (k := a) (by omega)
  have ho := h.cheat
  rw [hv2] at ho
  have hfz := ho.frozenAt a
  have T := hid (h.set_cheat hv2 a true)
  rw [hv, hhl] at hH
  rw [hv2, hcl] at hC
  have i1 : (a : Int) < ((r.N + 1 : Nat) : Int) := by omega
  generalize r.has.getD a 0 = hx at *
  generalize r.cheat.getD a false = hc at *
  have hz' : (hx == 0) = false := by simpa using hz
  clear hv hv2 hhl hcl ho
  go_enter Try.func86, Try.ntmps86
  go_wp2_with fail
  refine (rwithin_yes _ _ _ _ ha1 ha2).mono ?_
  rintro e w1 ⟨rfl, hw⟩
  have hw2 := hw.symm
  subst hw2
  go_wp2_with fail
  go_ret
  exact ⟨rfl, v, T.out⟩
end
end Go.Proofs.Ytiokecadnmcpeab
namespace Go.Proofs.Ytiokecadnmcpeab
set_option linter.unusedVariables false
set_option linter.unusedSimpArgs false
open Go.ChangeShapes Go.WideShapes Go.ChangeAt Go.RowKit

/-- All that the pool has. -/
def RS.purse (r : RS) : Int := allOf r.book 1 r.N + allOf r.book 2 r.N + allOf r.book 3 r.N
def RS.depMore (r : RS) (n : Int) : Int := if 0 < allOf r.book 5 (-1) then n * allOf r.book 5 (-1) / r.purse else n
def RS.deposit (r : RS) (a : Nat) (n : Int) : RS := (r.push ⟨1, a, 0, 2, r.N, 0, n⟩).push ⟨0, 0, 0, 5, a, 0, r.depMore n⟩
def RS.worth (r : RS) (n : Int) : Int := n * r.purse / allOf r.book 5 (-1)
def RS.leave (r : RS) (a : Nat) (n : Int) : RS := (r.push ⟨5, a, 0, 0, 0, 0, n⟩).push ⟨2, r.N, 0, 3, a, r.epoch + r.delay, r.worth n⟩

section
variable {w : World} {B y : Nat} {r : RS} {v : Nat → Value}

theorem RS.purse_bd (A : Amt r.book r.N) : 0 ≤ r.purse ∧ r.purse ≤ 3000000000 := by
  have b1 := A.all 1 r.N (by omega) (by omega) (by omega) (by omega)
  have b2 := A.all 2 r.N (by omega) (by omega) (by omega) (by omega)
  have b3 := A.all 3 r.N (by omega) (by omega) (by omega) (by omega)
  unfold RS.purse; omega

set_option maxHeartbeats 1600000 in
set_option maxRecDepth 100000 in
theorem rpurse (h : RC w B y r v) (A : Amt r.book r.N) :
    Calls Try.prog 103 #[.pointer (some ⟨y, 0, none⟩)] w fun e w' => e = .returned (.int .i64 r.purse) ∧ Below w.heap.size w w' := by
  have hN := h.cN
  have a1 := A.all 1 r.N (by omega) (by omega) (by omega) (by omega)
  have a2 := A.all 2 r.N (by omega) (by omega) (by omega) (by omega)
  have a3 := A.all 3 r.N (by omega) (by omega) (by omega) (by omega)
  have H1 := hid (fun (W : World) (hW : RC W B y r v) => rall' hW A 1 r.N (by omega) (by omega) (by omega) (by omega))
  have H2 := hid (fun (W : World) (hW : RC W B y r v) => rall' hW A 2 r.N (by omega) (by omega) (by omega) (by omega))
  have H3 := hid (fun (W : World) (hW : RC W B y r v) => rall' hW A 3 r.N (by omega) (by omega) (by omega) (by omega))
  obtain ⟨p, hp⟩ : ∃ p, r.purse = p := ⟨_, rfl⟩
  rw [hp]
  have HP := hid (show allOf r.book 1 r.N + allOf r.book 2 r.N + allOf r.book 3 r.N = p from hp)
  have HH := hid h
  clear hp A
  generalize allOf r.book 1 r.N = x1 at *
  generalize allOf r.book 2 r.N = x2 at *
  generalize allOf r.book 3 r.N = x3 at *
  clear h
  generalize r.N = N at *
  have hw1 : IntKind.i64.wrap (x1 + x2) = x1 + x2 := by rw [wrapEq]; unfold wrap64; omega
  have hw2 : IntKind.i64.wrap (x1 + x2 + x3) = x1 + x2 + x3 := by rw [wrapEq]; unfold wrap64; omega
  go_enter Try.func103, Try.ntmps103
  go_wp2_with fail
  go_region_held3 (fun w' => w'.cell? ⟨y, 7, none⟩ = some (.int .i64 (N : Int))) (go_keep)
    ((first
      | (go_at_call 93; refine (H3.out _ (((HH.out.below (Below.refl _ _).drew).below b1).below b2)).mono ?_; rintro e w3 ⟨rfl, b3⟩; (have c3 : w3.cell? ⟨y, 7, none⟩ = some (.int .i64 (N : Int)) := (b3.cell (block_lt_of_cell c2)).trans c2))
      | (go_at_call 93; refine (H2.out _ ((HH.out.below (Below.refl _ _).drew).below b1)).mono ?_; rintro e w2 ⟨rfl, b2⟩; (have c2 : w2.cell? ⟨y, 7, none⟩ = some (.int .i64 (N : Int)) := (b2.cell (block_lt_of_cell c0)).trans c0))
      | (go_at_call 93; refine (H1.out _ (HH.out.below (Below.refl _ _).drew)).mono ?_; rintro e w1 ⟨rfl, b1⟩; (have c0 : w1.cell? ⟨y, 7, none⟩ = some (.int .i64 (N : Int)) := (b1.cell (block_lt_of_cell hN)).trans hN))))
  all_goals
    go_wp2_with fail
    go_ret
    refine ⟨ret_int (by rw [← HP.out]), ?_⟩
    have t1 : Below w.heap.size w w1 := ((Below.refl w.heap.size w).drew).trans b1
    have t2 := t1.trans (b2.mono t1.size)
    exact t2.trans (b3.mono t2.size)

set_option maxHeartbeats 800000 in
theorem rdep_name (h : RC w B y r v) (c : Cfg r) (a n : Int) (ha : ¬ (0 ≤ a ∧ a ≤ (r.N : Int) - 1)) :
    Calls Try.prog 87 #[.pointer (some ⟨y, 0, none⟩), .int .i64 a, .int .i64 n] w fun e w' => e = .returned (.tuple #[.int .i64 0, .int .i64 2]) ∧ Below w.heap.size w w' := by
  have hN := h.cN
  have hN1 := c.N
  have Ha := hid ha
  clear ha
  go_enter Try.func87, Try.ntmps87
  go_wp2_with fail
  refine (rwithin_no _ _ _ _ Ha.out).mono ?_
  rintro e w1 ⟨rfl, rfl⟩
  go_wp2_with fail
  go_ret2
  exact ⟨rfl, Below.refl _ _⟩

set_option maxHeartbeats 800000 in
theorem rdep_amount (h : RC w B y r v) (c : Cfg r) (a n : Int) (ha1 : 0 ≤ a) (ha2 : a ≤ (r.N : Int) - 1) (hn : ¬ (1 ≤ n ∧ n ≤ 1000000000)) :
    Calls Try.prog 87 #[.pointer (some ⟨y, 0, none⟩), .int .i64 a, .int .i64 n] w fun e w' => e = .returned (.tuple #[.int .i64 0, .int .i64 3]) ∧ Below w.heap.size w w' := by
  have hN := h.cN
  have hN1 := c.N
  have Hn := hid hn
  clear hn
  go_enter Try.func87, Try.ntmps87
  go_wp2_with fail
  refine (rwithin_yes _ _ _ _ ha1 ha2).mono ?_
  rintro e w1 ⟨rfl, rfl⟩
  go_wp2_with fail
  refine (rwithin_no _ _ _ _ Hn.out).mono ?_
  rintro e w1 ⟨rfl, rfl⟩
  go_wp2_with fail
  go_ret2
  exact ⟨rfl, Below.refl _ _⟩

set_option maxHeartbeats 800000 in
theorem rdep_funds (h : RC w B y r v) (c : Cfg r) (A : Amt r.book r.N) (a n : Int) (ha1 : 0 ≤ a) (ha2 : a ≤ (r.N : Int) - 1) (hn1 : 1 ≤ n) (hn2 : n ≤ 1000000000) (hf : allOf r.book 1 a < n) :
    Calls Try.prog 87 #[.pointer (some ⟨y, 0, none⟩), .int .i64 a, .int .i64 n] w fun e w' => e = .returned (.tuple #[.int .i64 0, .int .i64 4]) ∧ Below w.heap.size w w' := by
  have hN := h.cN
  have hN1 := c.N
  go_enter Try.func87, Try.ntmps87
  go_wp2_with fail
  refine (rwithin_yes _ _ _ _ ha1 ha2).mono ?_
  rintro e w1 ⟨rfl, rfl⟩
  go_wp2_with fail
  refine (rwithin_yes _ _ _ _ hn1 hn2).mono ?_
  rintro e w1 ⟨rfl, rfl⟩
  go_wp2_with fail
  refine (rall' h A _ _ (by omega) (by omega) (by omega) (by omega)).mono ?_
  rintro e w2 ⟨rfl, b2⟩
  go_wp2_with fail
  go_ret2
  exact ⟨rfl, b2⟩
theorem RS.depMore_bd (A : Amt r.book r.N) (n : Int) (h1 : 1 ≤ n) (h2 : n ≤ 1000000000) : 0 ≤ r.depMore n ∧ r.depMore n ≤ 1000000000000000000 := by
  have b5 := A.all 5 (-1) (by omega) (by omega) (by omega) (by omega)
  have hp := RS.purse_bd A
  have hm := mul_bd (show 0 ≤ n by omega) h2 b5.1 b5.2
  unfold RS.depMore
  split
  · exact ⟨Int.ediv_nonneg hm.1 hp.1, Int.le_trans (Int.ediv_le_self _ hm.1) (by omega)⟩
  · omega
set_option maxHeartbeats 1600000 in
theorem rdep_small (h : RC w B y r v) (c : Cfg r) (A : Amt r.book r.N) (a : Nat) (n : Int) (ha : a < r.N) (hn1 : 1 ≤ n) (hn2 : n ≤ 1000000000) (hf : ¬ allOf r.book 1 a < n) (hpp : 0 < allOf r.book 5 (-1) → 0 < r.purse) (hm : r.depMore n = 0) :
    Calls Try.prog 87 #[.pointer (some ⟨y, 0, none⟩), .int .i64 a, .int .i64 n] w fun e w' => e = .returned (.tuple #[.int .i64 0, .int .i64 5]) ∧ Below w.heap.size w w' := by
  have hN := h.cN
  have hN1 := c.N
  have ha1 : (0 : Int) ≤ (a : Int) := by omega
  have ha2 : (a : Int) ≤ (r.N : Int) - 1 := by omega
  have b5 := A.all 5 (-1) (by omega) (by omega) (by omega) (by omega)
  have hmb := RS.depMore_bd A n hn1 hn2
  have hpb := RS.purse_bd A
  have hnm := mul_bd (show 0 ≤ n by omega) hn2 b5.1 b5.2
  obtain ⟨M, hM⟩ : ∃ M, r.depMore n = M := ⟨_, rfl⟩
  have HM0 := hid hM
  rw [hM] at hm hmb
  unfold RS.depMore at hM
  go_enter Try.func87, Try.ntmps87
  go_wp2_with fail
  refine (rwithin_yes _ _ _ _ ha1 ha2).mono ?_
  rintro e w1 ⟨rfl, hw1⟩
  have hw1' := hw1.symm
  subst hw1'
  go_wp2_with fail
  refine (rwithin_yes _ _ _ _ hn1 hn2).mono ?_
  rintro e w1 ⟨rfl, hw1⟩
  have hw1' := hw1.symm
  subst hw1'
  go_wp2_with fail
  refine (rall' h A _ _ (by omega) (by omega) (by omega) (by omega)).mono ?_
  rintro e w2 ⟨rfl, b2⟩
  have h2 := h.below b2
  go_wp2_with fail
  refine (rall' h2 A _ _ (by omega) (by omega) (by omega) (by omega)).mono ?_
  rintro e w3 ⟨rfl, b3⟩
  have h3 := h2.below b3
  have B3 := b2.trans (b3.mono b2.size)
  have N3 := h3.cN
  clear hN h2 b2 b3
  by_cases hs : 0 < allOf r.book 5 (-1)
  · rw [if_pos hs] at hM
    have p0 := hpp hs
    have p1 : ¬ r.purse = 0 := by omega
    have p2 : ¬ r.purse = -1 := by omega
    generalize allOf r.book 5 (-1) = S at *
    go_wp2_with fail
    refine (rpurse h3 A).mono ?_
    rintro e w4 ⟨rfl, b4⟩
    have h4 := h3.below b4
    have B4 := B3.trans (b4.mono B3.size)
    have N4 := h4.cN
    clear N3 h3 b4 B3
    generalize r.purse = P at *
    rw [hm] at hM
    go_wp2_with fail
    go_ret2
    exact ⟨rfl, B4⟩
  · rw [if_neg hs] at hM
    generalize allOf r.book 5 (-1) = S at *
    exact absurd hM (by omega)

set_option maxHeartbeats 1600000 in
theorem rdep_full (h : RC w B y r v) (c : Cfg r) (A : Amt r.book r.N) (a : Nat) (n : Int) (ha : a < r.N) (hn1 : 1 ≤ n) (hn2 : n ≤ 1000000000) (hf : ¬ allOf r.book 1 a < n) (hpp : 0 < allOf r.book 5 (-1) → 0 < r.purse) (hm : ¬ r.depMore n = 0) (hx : 1000000000 < allOf r.book 5 (-1) + r.depMore n) :
    Calls Try.prog 87 #[.pointer (some ⟨y, 0, none⟩), .int .i64 a, .int .i64 n] w fun e w' => e = .returned (.tuple #[.int .i64 0, .int .i64 6]) ∧ Below w.heap.size w w' := by
  have hN := h.cN
  have hN1 := c.N
  have ha1 : (0 : Int) ≤ (a : Int) := by omega
  have ha2 : (a : Int) ≤ (r.N : Int) - 1 := by omega
  have b5 := A.all 5 (-1) (by omega) (by omega) (by omega) (by omega)
  have hmb := RS.depMore_bd A n hn1 hn2
  have hpb := RS.purse_bd A
  have hnm := mul_bd (show 0 ≤ n by omega) hn2 b5.1 b5.2
  obtain ⟨M, hM⟩ : ∃ M, r.depMore n = M := ⟨_, rfl⟩
  have HM0 := hid hM
  rw [hM] at hm hmb hx
  unfold RS.depMore at hM
  go_enter Try.func87, Try.ntmps87
  go_wp2_with fail
  refine (rwithin_yes _ _ _ _ ha1 ha2).mono ?_
  rintro e w1 ⟨rfl, hw1⟩
  have hw1' := hw1.symm
  subst hw1'
  go_wp2_with fail
  refine (rwithin_yes _ _ _ _ hn1 hn2).mono ?_
  rintro e w1 ⟨rfl, hw1⟩
  have hw1' := hw1.symm
  subst hw1'
  go_wp2_with fail
  refine (rall' h A _ _ (by omega) (by omega) (by omega) (by omega)).mono ?_
  rintro e w2 ⟨rfl, b2⟩
  have h2 := h.below b2
  go_wp2_with fail
  refine (rall' h2 A _ _ (by omega) (by omega) (by omega) (by omega)).mono ?_
  rintro e w3 ⟨rfl, b3⟩
  have h3 := h2.below b3
  have B3 := b2.trans (b3.mono b2.size)
  have N3 := h3.cN
  clear hN h2 b2 b3
  by_cases hs : 0 < allOf r.book 5 (-1)
  · rw [if_pos hs] at hM
    have p0 := hpp hs
    have p1 : ¬ r.purse = 0 := by omega
    have p2 : ¬ r.purse = -1 := by omega
    generalize allOf r.book 5 (-1) = S at *
    go_wp2_with fail
    refine (rpurse h3 A).mono ?_
    rintro e w4 ⟨rfl, b4⟩
    have h4 := h3.below b4
    have B4 := B3.trans (b4.mono B3.size)
    have N4 := h4.cN
    clear N3 h3 b4 B3
    generalize r.purse = P at *
    go_wp2_with fail
    go_ret2
    exact ⟨rfl, B4⟩
  · rw [if_neg hs] at hM
    exact absurd hx (by omega)

set_option maxHeartbeats 1600000 in
theorem rdep_ok (h : RC w B y r v) (c : Cfg r) (A : Amt r.book r.N) (a : Nat) (n : Int) (ha : a < r.N) (hn1 : 1 ≤ n) (hn2 : n ≤ 1000000000) (hf : ¬ allOf r.book 1 a < n) (hpp : 0 < allOf r.book 5 (-1) → 0 < r.purse) (hm : ¬ r.depMore n = 0) (hx : ¬ 1000000000 < allOf r.book 5 (-1) + r.depMore n) (hl : r.book.length * 56 + 112 ≤ 140737488355328) :
    Calls Try.prog 87 #[.pointer (some ⟨y, 0, none⟩), .int .i64 a, .int .i64 n] w fun e w' => e = .returned (.tuple #[.int .i64 (r.depMore n), .int .i64 0]) ∧ ∃ v', RTo w B y v w' (r.deposit a n) v' := by
  have hN := h.cN
  have hN1 := c.N
  have ha1 : (0 : Int) ≤ (a : Int) := by omega
  have ha2 : (a : Int) ≤ (r.N : Int) - 1 := by omega
  have b5 := A.all 5 (-1) (by omega) (by omega) (by omega) (by omega)
  have hmb := RS.depMore_bd A n hn1 hn2
  have hpb := RS.purse_bd A
  have hnm := mul_bd (show 0 ≤ n by omega) hn2 b5.1 b5.2
  obtain ⟨M, hM⟩ : ∃ M, r.depMore n = M := ⟨_, rfl⟩
  have HM0 := hid hM
  rw [hM] at hm hmb hx ⊢
  unfold RS.depMore at hM
  go_enter Try.func87, Try.ntmps87
  go_wp2_with fail
  refine (rwithin_yes _ _ _ _ ha1 ha2).mono ?_
  rintro e w1 ⟨rfl, hw1⟩
  have hw1' := hw1.symm
  subst hw1'
  go_wp2_with fail
  refine (rwithin_yes _ _ _ _ hn1 hn2).mono ?_
  rintro e w1 ⟨rfl, hw1⟩
  have hw1' := hw1.symm
  subst hw1'
  go_wp2_with fail
  refine (rall' h A _ _ (by omega) (by omega) (by omega) (by omega)).mono ?_
  rintro e w2 ⟨rfl, b2⟩
  have h2 := h.below b2
  go_wp2_with fail
  refine (rall' h2 A _ _ (by omega) (by omega) (by omega) (by omega)).mono ?_
  rintro e w3 ⟨rfl, b3⟩
  have h3 := h2.below b3
  have B3 := b2.trans (b3.mono b2.size)
  have N3 := h3.cN
  clear hN h2 b2 b3
  by_cases hs : 0 < allOf r.book 5 (-1)
  · rw [if_pos hs] at hM
    have p0 := hpp hs
    have p1 : ¬ r.purse = 0 := by omega
    have p2 : ¬ r.purse = -1 := by omega
    generalize allOf r.book 5 (-1) = S at *
    go_wp2_with fail
    refine (rpurse h3 A).mono ?_
    rintro e w4 ⟨rfl, b4⟩
    have h4 := h3.below b4
    have B4 := B3.trans (b4.mono B3.size)
    have N4 := h4.cN
    clear N3 h3 b4 B3
    generalize r.purse = P at *
    go_wp2_with fail
    refine (rmove' h4 ⟨1, a, 0, 2, r.N, 0, n⟩ (by omega)).mono ?_
    rintro e w5 ⟨rfl, v5, t5⟩
    have h5 := t5.rc
    go_wp2_with fail
    refine (rmove' h5 ⟨0, 0, 0, 5, a, 0, M⟩ (by show (r.book ++ [_]).length * 56 + 56 ≤ _; rw [List.length_append]; simp; omega)).mono ?_
    rintro e w6 ⟨rfl, v6, t6⟩
    have T6 := hid (show RTo w B y v w6 (r.deposit a n) v6 by unfold RS.deposit; rw [HM0.out]; exact ((RTo.ofBelow h B4).trans t5).trans t6)
    clear t5 t6 h5
    go_wp2_with fail
    go_ret2
    exact ⟨rfl, v6, T6.out⟩
  · rw [if_neg hs] at hM
    generalize allOf r.book 5 (-1) = S at *
    subst hM
    go_wp2_with fail
    refine (rmove' h3 ⟨1, a, 0, 2, r.N, 0, n⟩ (by omega)).mono ?_
    rintro e w5 ⟨rfl, v5, t5⟩
    have h5 := t5.rc
    go_wp2_with fail
    refine (rmove' h5 ⟨0, 0, 0, 5, a, 0, n⟩ (by show (r.book ++ [_]).length * 56 + 56 ≤ _; rw [List.length_append]; simp; omega)).mono ?_
    rintro e w6 ⟨rfl, v6, t6⟩
    have T6 := hid (show RTo w B y v w6 (r.deposit a n) v6 by unfold RS.deposit; rw [HM0.out]; exact ((RTo.ofBelow h B3).trans t5).trans t6)
    clear t5 t6 h5
    go_wp2_with fail
    go_ret2
    exact ⟨rfl, v6, T6.out⟩

end
end Go.Proofs.Ytiokecadnmcpeab
namespace Go.Proofs.Ytiokecadnmcpeab
set_option linter.unusedVariables false
set_option linter.unusedSimpArgs false
open Go.ChangeShapes Go.WideShapes Go.ChangeAt Go.RowKit

section
variable {w : World} {B y : Nat} {r : RS} {v : Nat → Value}

set_option maxHeartbeats 800000 in
theorem rlea_name (h : RC w B y r v) (c : Cfg r) (a n : Int) (ha : ¬ (0 ≤ a ∧ a ≤ (r.N : Int) - 1)) :
    Calls Try.prog 88 #[.pointer (some ⟨y, 0, none⟩), .int .i64 a, .int .i64 n] w fun e w' => e = .returned (.tuple #[.int .i64 0, .int .i64 2]) ∧ Below w.heap.size w w' := by
  have hN := h.cN
  have hN1 := c.N
  have Ha := hid ha
  clear ha
  go_enter Try.func88, Try.ntmps88
  go_wp2_with fail
  refine (rwithin_no _ _ _ _ Ha.out).mono ?_
  rintro e w1 ⟨rfl, rfl⟩
  go_wp2_with fail
  go_ret2
  exact ⟨rfl, Below.refl _ _⟩

set_option maxHeartbeats 800000 in
theorem rlea_amount (h : RC w B y r v) (c : Cfg r) (a n : Int) (ha1 : 0 ≤ a) (ha2 : a ≤ (r.N : Int) - 1) (hn : ¬ (1 ≤ n ∧ n ≤ 1000000000)) :
    Calls Try.prog 88 #[.pointer (some ⟨y, 0, none⟩), .int .i64 a, .int .i64 n] w fun e w' => e = .returned (.tuple #[.int .i64 0, .int .i64 3]) ∧ Below w.heap.size w w' := by
  have hN := h.cN
  have hN1 := c.N
  have Hn := hid hn
  clear hn
  go_enter Try.func88, Try.ntmps88
  go_wp2_with fail
  refine (rwithin_yes _ _ _ _ ha1 ha2).mono ?_
  rintro e w1 ⟨rfl, rfl⟩
  go_wp2_with fail
  refine (rwithin_no _ _ _ _ Hn.out).mono ?_
  rintro e w1 ⟨rfl, rfl⟩
  go_wp2_with fail
  go_ret2
  exact ⟨rfl, Below.refl _ _⟩

set_option maxHeartbeats 800000 in
theorem rlea_funds (h : RC w B y r v) (c : Cfg r) (A : Amt r.book r.N) (a n : Int) (ha1 : 0 ≤ a) (ha2 : a ≤ (r.N : Int) - 1) (hn1 : 1 ≤ n) (hn2 : n ≤ 1000000000) (hf : allOf r.book 5 a < n) :
    Calls Try.prog 88 #[.pointer (some ⟨y, 0, none⟩), .int .i64 a, .int .i64 n] w fun e w' => e = .returned (.tuple #[.int .i64 0, .int .i64 4]) ∧ Below w.heap.size w w' := by
  have hN := h.cN
  have hN1 := c.N
  go_enter Try.func88, Try.ntmps88
  go_wp2_with fail
  refine (rwithin_yes _ _ _ _ ha1 ha2).mono ?_
  rintro e w1 ⟨rfl, rfl⟩
  go_wp2_with fail
  refine (rwithin_yes _ _ _ _ hn1 hn2).mono ?_
  rintro e w1 ⟨rfl, rfl⟩
  go_wp2_with fail
  refine (rall' h A _ _ (by omega) (by omega) (by omega) (by omega)).mono ?_
  rintro e w2 ⟨rfl, b2⟩
  go_wp2_with fail
  go_ret2
  exact ⟨rfl, b2⟩

theorem RS.worth_bd (A : Amt r.book r.N) (n : Int) (h1 : 1 ≤ n) (h2 : n ≤ 1000000000) : 0 ≤ r.worth n ∧ r.worth n ≤ 3000000000000000000 := by
  have b5 := A.all 5 (-1) (by omega) (by omega) (by omega) (by omega)
  have hp := RS.purse_bd A
  have hm := mul_bd (show 0 ≤ n by omega) h2 hp.1 hp.2
  unfold RS.worth
  exact ⟨Int.ediv_nonneg hm.1 b5.1, Int.le_trans (Int.ediv_le_self _ hm.1) (by omega)⟩

set_option maxHeartbeats 1600000 in
theorem rlea_small (h : RC w B y r v) (c : Cfg r) (A : Amt r.book r.N) (a : Nat) (n : Int) (ha : a < r.N) (hn1 : 1 ≤ n) (hn2 : n ≤ 1000000000) (hf : ¬ allOf r.book 5 a < n) (hS : 0 < allOf r.book 5 (-1)) (hm : r.worth n = 0) :
    Calls Try.prog 88 #[.pointer (some ⟨y, 0, none⟩), .int .i64 a, .int .i64 n] w fun e w' => e = .returned (.tuple #[.int .i64 0, .int .i64 5]) ∧ Below w.heap.size w w' := by
  have hN := h.cN
  have hN1 := c.N
  have ha1 : (0 : Int) ≤ (a : Int) := by omega
  have ha2 : (a : Int) ≤ (r.N : Int) - 1 := by omega
  have b5 := A.all 5 (-1) (by omega) (by omega) (by omega) (by omega)
  have hmb := RS.worth_bd A n hn1 hn2
  have hpb := RS.purse_bd A
  have hnm := mul_bd (show 0 ≤ n by omega) hn2 hpb.1 hpb.2
  have s1 : ¬ allOf r.book 5 (-1) = 0 := by omega
  have s2 : ¬ allOf r.book 5 (-1) = -1 := by omega
  obtain ⟨M, hM⟩ : ∃ M, r.worth n = M := ⟨_, rfl⟩
  have HM0 := hid hM
  rw [hM] at hm hmb
  unfold RS.worth at hM
  go_enter Try.func88, Try.ntmps88
  go_wp2_with fail
  refine (rwithin_yes _ _ _ _ ha1 ha2).mono ?_
  rintro e w1 ⟨rfl, hw1⟩
  have hw1' := hw1.symm
  subst hw1'
  go_wp2_with fail
  refine (rwithin_yes _ _ _ _ hn1 hn2).mono ?_
  rintro e w1 ⟨rfl, hw1⟩
  have hw1' := hw1.symm
  subst hw1'
  go_wp2_with fail
  refine (rall' h A _ _ (by omega) (by omega) (by omega) (by omega)).mono ?_
  rintro e w2 ⟨rfl, b2⟩
  have h2 := h.below b2
  go_wp2_with fail
  refine (rpurse h2 A).mono ?_
  rintro e w3 ⟨rfl, b3⟩
  have h3 := h2.below b3
  have B3 := b2.trans (b3.mono b2.size)
  go_wp2_with fail
  refine (rall' h3 A _ _ (by omega) (by omega) (by omega) (by omega)).mono ?_
  rintro e w4 ⟨rfl, b4⟩
  have h4 := h3.below b4
  have B4 := B3.trans (b4.mono B3.size)
  have N4 := h4.cN
  clear hN h2 b2 b3 h3 B3 b4
  generalize r.purse = P at *
  generalize allOf r.book 5 (-1) = S at *
  rw [hm] at hM
  go_wp2_with fail
  go_ret2
  exact ⟨rfl, B4⟩

set_option maxHeartbeats 1600000 in
theorem rlea_full (h : RC w B y r v) (c : Cfg r) (A : Amt r.book r.N) (a : Nat) (n : Int) (ha : a < r.N) (hn1 : 1 ≤ n) (hn2 : n ≤ 1000000000) (hf : ¬ allOf r.book 5 a < n) (hS : 0 < allOf r.book 5 (-1)) (hm : ¬ r.worth n = 0) (hx : allOf r.book 2 r.N < r.worth n) :
    Calls Try.prog 88 #[.pointer (some ⟨y, 0, none⟩), .int .i64 a, .int .i64 n] w fun e w' => e = .returned (.tuple #[.int .i64 0, .int .i64 7]) ∧ Below w.heap.size w w' := by
  have hN := h.cN
  have hN1 := c.N
  have ha1 : (0 : Int) ≤ (a : Int) := by omega
  have ha2 : (a : Int) ≤ (r.N : Int) - 1 := by omega
  have b5 := A.all 5 (-1) (by omega) (by omega) (by omega) (by omega)
  have hmb := RS.worth_bd A n hn1 hn2
  have hpb := RS.purse_bd A
  have hnm := mul_bd (show 0 ≤ n by omega) hn2 hpb.1 hpb.2
  have s1 : ¬ allOf r.book 5 (-1) = 0 := by omega
  have s2 : ¬ allOf r.book 5 (-1) = -1 := by omega
  obtain ⟨M, hM⟩ : ∃ M, r.worth n = M := ⟨_, rfl⟩
  have HM0 := hid hM
  rw [hM] at hm hmb hx
  unfold RS.worth at hM
  go_enter Try.func88, Try.ntmps88
  go_wp2_with fail
  refine (rwithin_yes _ _ _ _ ha1 ha2).mono ?_
  rintro e w1 ⟨rfl, hw1⟩
  have hw1' := hw1.symm
  subst hw1'
  go_wp2_with fail
  refine (rwithin_yes _ _ _ _ hn1 hn2).mono ?_
  rintro e w1 ⟨rfl, hw1⟩
  have hw1' := hw1.symm
  subst hw1'
  go_wp2_with fail
  refine (rall' h A _ _ (by omega) (by omega) (by omega) (by omega)).mono ?_
  rintro e w2 ⟨rfl, b2⟩
  have h2 := h.below b2
  go_wp2_with fail
  refine (rpurse h2 A).mono ?_
  rintro e w3 ⟨rfl, b3⟩
  have h3 := h2.below b3
  have B3 := b2.trans (b3.mono b2.size)
  go_wp2_with fail
  refine (rall' h3 A _ _ (by omega) (by omega) (by omega) (by omega)).mono ?_
  rintro e w4 ⟨rfl, b4⟩
  have h4 := h3.below b4
  have B4 := B3.trans (b4.mono B3.size)
  have N4 := h4.cN
  clear hN h2 b2 b3 h3 B3 b4
  generalize r.purse = P at *
  generalize allOf r.book 5 (-1) = S at *
  go_wp2_with fail
  refine (rall' h4 A _ _ (by omega) (by omega) (by omega) (by omega)).mono ?_
  rintro e w5 ⟨rfl, b5⟩
  have B5 := B4.trans (b5.mono B4.size)
  go_wp2_with fail
  go_ret2
  exact ⟨rfl, B5⟩

set_option maxHeartbeats 1600000 in
set_option maxRecDepth 100000 in
theorem rlea_ok (h : RC w B y r v) (c : Cfg r) (A : Amt r.book r.N) (a : Nat) (n : Int) (ha : a < r.N) (hn1 : 1 ≤ n) (hn2 : n ≤ 1000000000) (hf : ¬ allOf r.book 5 a < n) (hS : 0 < allOf r.book 5 (-1)) (hm : ¬ r.worth n = 0) (hx : ¬ allOf r.book 2 r.N < r.worth n) (he : 0 ≤ r.epoch ∧ r.epoch ≤ 4611686018427387904) (hl : r.book.length * 56 + 112 ≤ 140737488355328) :
    Calls Try.prog 88 #[.pointer (some ⟨y, 0, none⟩), .int .i64 a, .int .i64 n] w fun e w' => e = .returned (.tuple #[.int .i64 (r.worth n), .int .i64 0]) ∧ ∃ v', RTo w B y v w' (r.leave a n) v' := by
  have hN := h.cN
  have hN1 := c.N
  have ha1 : (0 : Int) ≤ (a : Int) := by omega
  have ha2 : (a : Int) ≤ (r.N : Int) - 1 := by omega
  have b5 := A.all 5 (-1) (by omega) (by omega) (by omega) (by omega)
  have hmb := RS.worth_bd A n hn1 hn2
  have hpb := RS.purse_bd A
  have hnm := mul_bd (show 0 ≤ n by omega) hn2 hpb.1 hpb.2
  have s1 : ¬ allOf r.book 5 (-1) = 0 := by omega
  have s2 : ¬ allOf r.book 5 (-1) = -1 := by omega
  obtain ⟨M, hM⟩ : ∃ M, r.worth n = M := ⟨_, rfl⟩
  have HM0 := hid hM
  rw [hM] at hm hmb hx ⊢
  unfold RS.worth at hM
  go_enter Try.func88, Try.ntmps88
  go_wp2_with fail
  refine (rwithin_yes _ _ _ _ ha1 ha2).mono ?_
  rintro e w1 ⟨rfl, hw1⟩
  have hw1' := hw1.symm
  subst hw1'
  go_wp2_with fail
  refine (rwithin_yes _ _ _ _ hn1 hn2).mono ?_
  rintro e w1 ⟨rfl, hw1⟩
  have hw1' := hw1.symm
  subst hw1'
  go_wp2_with fail
  refine (rall' h A _ _ (by omega) (by omega) (by omega) (by omega)).mono ?_
  rintro e w2 ⟨rfl, b2⟩
  have h2 := h.below b2
  go_wp2_with fail
  refine (rpurse h2 A).mono ?_
  rintro e w3 ⟨rfl, b3⟩
  have h3 := h2.below b3
  have B3 := b2.trans (b3.mono b2.size)
  go_wp2_with fail
  refine (rall' h3 A _ _ (by omega) (by omega) (by omega) (by omega)).mono ?_
  rintro e w4 ⟨rfl, b4⟩
  have h4 := h3.below b4
  have B4 := B3.trans (b4.mono B3.size)
  have N4 := h4.cN
  clear hN h2 b2 b3 h3 B3 b4
  generalize r.purse = P at *
  generalize allOf r.book 5 (-1) = S at *
  go_wp2_with fail
  refine (rall' h4 A _ _ (by omega) (by omega) (by omega) (by omega)).mono ?_
  rintro e w5 ⟨rfl, b5⟩
  have h5 := h4.below b5
  have B5 := B4.trans (b5.mono B4.size)
  clear h4 N4 B4 b5
  go_wp2_with fail
  refine (rmove' h5 ⟨5, a, 0, 0, 0, 0, n⟩ (by omega)).mono ?_
  rintro e w6 ⟨rfl, v6, t6⟩
  have h6 := t6.rc
  have hN6 : w6.cell? ⟨y, 7, none⟩ = some (.int .i64 (r.N : Int)) := h6.cN
  have hE6 : w6.cell? ⟨y, 11, none⟩ = some (.int .i64 r.epoch) := h6.cells 11 (by omega)
  have hD6 : w6.cell? ⟨y, 1, none⟩ = some (.int .i64 r.delay) := h6.cells 1 (by omega)
  have hd := c.delay
  have hw := hid (show IntKind.i64.wrap (r.epoch + r.delay) = r.epoch + r.delay by rw [wrapEq]; unfold wrap64; omega)
  have T6 := hid ((RTo.ofBelow h B5).trans t6)
  have H6 := hid h6
  have hl6 := hid (show (r.push ⟨5, a, 0, 0, 0, 0, n⟩).book.length * 56 + 56 ≤ 140737488355328 by show (r.book ++ [_]).length * 56 + 56 ≤ _; rw [List.length_append]; simp; omega)
  have A' := hid A
  clear h6 t6 h5 B5 A h
  go_wp2_with fail
  go_region_held3 (fun w' => w'.cell? ⟨y, 7, none⟩ = some (.int .i64 (r.N : Int)) ∧ w'.cell? ⟨y, 11, none⟩ = some (.int .i64 r.epoch) ∧ w'.cell? ⟨y, 1, none⟩ = some (.int .i64 r.delay)) (go_keep) ((go_at_call 91; refine (rmove2 (H6.out.below (Below.refl _ _).drew) ⟨2, r.N, 0, 3, a, IntKind.i64.wrap (r.epoch + r.delay), M⟩ hl6.out).mono ?_; rintro e w7 ⟨rfl, v7, t7⟩; (have e0 : w7.cell? ⟨y, 7, none⟩ = some (.int .i64 (r.N : Int)) := t7.rc.cN); (have e1 : w7.cell? ⟨y, 11, none⟩ = some (.int .i64 r.epoch) := t7.rc.cells 11 (by omega)); (have e2 : w7.cell? ⟨y, 1, none⟩ = some (.int .i64 r.delay) := t7.rc.cells 1 (by omega))))
  all_goals
    have T7 := hid (show RTo w B y v w7 (r.leave a n) (upd v6 0 v7) by unfold RS.leave; rw [HM0.out, ← hw.out]; exact T6.out.trans ((RTo.ofBelow H6.out (Below.refl _ _).drew).trans t7))
    clear t7
    go_wp2_with fail
    go_ret2
    exact ⟨rfl, _, T7.out⟩

end
end Go.Proofs.Ytiokecadnmcpeab
