import Derived.Test.YtdfdjbhdgbbolaaRefCalls
import Derived.Laws.OwnMore
namespace Go.Proofs.Ytdfdjbhdgbbolaa
set_option linter.unusedVariables false
set_option linter.unusedSimpArgs false
open Go.ChangeShapes Go.WideShapes Go.ChangeAt Go.RowKit

theorem own_icells {w : World} {B : Nat} {v : Value} {l : List Int} (h : w.ownsRow B 3 1 v l.length (l.map (Value.int .i64))) (h0 : 0 < l.length) : ∃ g cap, v = .slice (some ⟨g, 0, none⟩) l.length cap ∧ ∀ i, i < l.length → w.cell? ⟨g, i, none⟩ = some (.int .i64 (l.getD i 0)) := by
  obtain ⟨g, cap, rfl⟩ := own_form h h0
  refine ⟨g, cap, rfl, fun i hi => ?_⟩
  have := h.cellAt i (by omega)
  rw [this]; simp [List.getD, hi]

theorem own_bools {w : World} {B : Nat} {v : Value} {l : List Bool} (h : w.ownsRow B 4 1 v l.length (l.map Value.bool)) (h0 : 0 < l.length) : ∃ g cap, v = .slice (some ⟨g, 0, none⟩) l.length cap ∧ ∀ i, i < l.length → w.cell? ⟨g, i, none⟩ = some (.bool (l.getD i false)) := by
  obtain ⟨g, cap, rfl⟩ := own_form h h0
  refine ⟨g, cap, rfl, fun i hi => ?_⟩
  have := h.cellAt i (by omega)
  rw [this]; simp [List.getD, hi]

theorem own_intAt {w : World} {B : Nat} {v : Value} {l : List Int} (h : w.ownsRow B 3 1 v l.length (l.map (Value.int .i64))) {k : Nat} (h0 : k < l.length) : ∃ g cap, v = .slice (some ⟨g, 0, none⟩) l.length cap ∧ w.cell? ⟨g, k, none⟩ = some (.int .i64 (l.getD k 0)) := by
  obtain ⟨g, cap, h1, h2⟩ := own_icells h (by omega)
  exact ⟨g, cap, h1, h2 k h0⟩
theorem own_boolAt {w : World} {B : Nat} {v : Value} {l : List Bool} (h : w.ownsRow B 4 1 v l.length (l.map Value.bool)) {k : Nat} (h0 : k < l.length) : ∃ g cap, v = .slice (some ⟨g, 0, none⟩) l.length cap ∧ w.cell? ⟨g, k, none⟩ = some (.bool (l.getD k false)) := by
  obtain ⟨g, cap, h1, h2⟩ := own_bools h (by omega)
  exact ⟨g, cap, h1, h2 k h0⟩

/-- The account that leads at a height (where there is a row). -/
def RS.leadAt (r : RS) (h : Nat) : Int := r.row.getD (h % r.row.length) 0
/-- Does a lead at the height? -/
abbrev RS.leads (r : RS) (a : Int) (h : Nat) : Prop := 0 < r.row.length ∧ r.leadAt h = a
def RS.askedTo (r : RS) (a : Int) : Nat → Int
  | 0 => 0
  | k + 1 => r.askedTo a k + if r.leads a k then 1 else 0
def RS.madeTo (r : RS) (a : Int) : Nat → Int
  | 0 => 0
  | k + 1 => r.madeTo a k + if r.leads a k ∧ r.made.getD k false = true then 1 else 0
theorem RS.askedTo_bd (r : RS) (a : Int) (k : Nat) : 0 ≤ r.askedTo a k ∧ r.askedTo a k ≤ k := by
  induction k with
  | zero => simp [RS.askedTo]
  | succ k ih => simp only [RS.askedTo]; split <;> omega
theorem RS.madeTo_bd (r : RS) (a : Int) (k : Nat) : 0 ≤ r.madeTo a k ∧ r.madeTo a k ≤ k := by
  induction k with
  | zero => simp [RS.madeTo]
  | succ k ih => simp only [RS.madeTo]; split <;> omega

/-- What a chain of the document's keeps to, amounts aside. -/
structure Cfg (r : RS) : Prop where
  seats : 1 ≤ r.seats ∧ r.seats ≤ 10
  delay : 2 ≤ r.delay ∧ r.delay ≤ 5
  rate : 0 ≤ r.rate ∧ r.rate ≤ 100
  cut : 0 ≤ r.cut ∧ r.cut ≤ 1000
  length : 1 ≤ r.length ∧ r.length ≤ 20
  need : 0 ≤ r.need ∧ r.need ≤ 1000
  N : 1 ≤ r.N ∧ r.N ≤ 6
  bids : r.bids.length = r.N + 1
  has : r.has.length = r.N + 1
  cheat : r.cheat.length = r.N + 1
  made : (r.made.length : Int) = r.length
  row : r.row.length ≤ 10
  has0 : ∀ a, 0 ≤ r.has.getD a 0 ∧ r.has.getD a 0 ≤ 10
  epoch : 0 ≤ r.epoch ∧ r.epoch ≤ 4611686018427387904

section
variable {w : World} {B y : Nat} {r : RS} {v : Nat → Value}

set_option maxHeartbeats 800000 in
theorem rleader_height (h : RC w B y r v) (c : Cfg r) (a : Int) (ha : ¬ (0 ≤ a ∧ a ≤ r.length - 1)) :
    Calls Try.prog 85 #[.pointer (some ⟨y, 0, none⟩), .int .i64 a] w fun e w' => e = .returned (.tuple #[.int .i64 0, .int .i64 10]) ∧ Below w.heap.size w w' := by
  have hL : w.cell? ⟨y, 4, none⟩ = some (.int .i64 r.length) := h.cells 4 (by omega)
  have hl := c.length
  have Ha : Hid (¬ (0 ≤ a ∧ a ≤ r.length - 1)) := ha
  clear ha
  go_enter Try.func85, Try.ntmps85
  go_wp2_with fail
  refine (rwithin_no _ _ _ _ Ha.out).mono ?_
  rintro e w1 ⟨rfl, rfl⟩
  go_wp2_with fail
  go_ret2
  exact ⟨rfl, Below.refl _ _⟩

set_option maxHeartbeats 800000 in
theorem rleader_none (h : RC w B y r v) (c : Cfg r) (a : Int) (ha : 0 ≤ a) (ha2 : a ≤ r.length - 1) (hr : r.row.length = 0) :
    Calls Try.prog 85 #[.pointer (some ⟨y, 0, none⟩), .int .i64 a] w fun e w' => e = .returned (.tuple #[.int .i64 0, .int .i64 11]) ∧ Below w.heap.size w w' := by
  have hL : w.cell? ⟨y, 4, none⟩ = some (.int .i64 r.length) := h.cells 4 (by omega)
  have hR : w.cell? ⟨y, 13, none⟩ = some (v 3) := h.cells 13 (by omega)
  obtain ⟨ra, cap, hv, _, _⟩ := own_intsL h.row
  rw [hv, hr] at hR
  clear hr hv
  have hl := c.length
  go_enter Try.func85, Try.ntmps85
  go_wp2_with fail
  refine (rwithin_yes _ _ _ _ ha ha2).mono ?_
  rintro e w1 ⟨rfl, rfl⟩
  go_wp2_with fail
  go_ret2
  exact ⟨rfl, Below.refl _ _⟩

set_option maxHeartbeats 800000 in
theorem rleader_ok (h : RC w B y r v) (c : Cfg r) (a : Nat) (ha2 : (a : Int) ≤ r.length - 1) (hr : 0 < r.row.length) :
    Calls Try.prog 85 #[.pointer (some ⟨y, 0, none⟩), .int .i64 a] w fun e w' => e = .returned (.tuple #[.int .i64 (r.leadAt a), .int .i64 0]) ∧ Below w.heap.size w w' := by
  have hL : w.cell? ⟨y, 4, none⟩ = some (.int .i64 r.length) := h.cells 4 (by omega)
  have hR : w.cell? ⟨y, 13, none⟩ = some (v 3) := h.cells 13 (by omega)
  obtain ⟨g, cap, hv, hc⟩ := own_icells h.row hr
  have hlt : a % r.row.length < r.row.length := Nat.mod_lt _ hr
  have hc := hc _ hlt
  have hr10 := c.row
  rw [hv] at hR
  have hl := c.length
  have ha : (0 : Int) ≤ (a : Int) := by omega
  have ht : Int.tmod (a : Int) (r.row.length : Int) = ((a % r.row.length : Nat) : Int) := by rw [Int.tmod_eq_emod_of_nonneg (by omega)]; simp
  unfold RS.leadAt
  generalize a % r.row.length = q at *
  generalize r.row.getD q 0 = z at *
  generalize r.row.length = n at *
  clear hv
  go_enter Try.func85, Try.ntmps85
  go_wp2_with fail
  refine (rwithin_yes _ _ _ _ ha ha2).mono ?_
  rintro e w1 ⟨rfl, rfl⟩
  go_wp2_with fail
  go_region
  go_wp2_with fail
  go_ret2
  exact ⟨rfl, (Below.refl _ _).drew⟩

/-- The heights of the epoch. -/
def RS.asked (r : RS) (a : Int) : Int := r.askedTo a r.length.toNat
def RS.mades (r : RS) (a : Int) : Int := r.madeTo a r.length.toNat

theorem RS.turns_step (r : RS) (a : Int) (k : Nat) : r.askedTo a (k + 1) = r.askedTo a k + (if r.leads a k then 1 else 0) ∧ r.madeTo a (k + 1) = r.madeTo a k + (if r.leads a k ∧ r.made.getD k false = true then 1 else 0) := ⟨rfl, rfl⟩

set_option maxHeartbeats 1600000 in
theorem rturns (h : RC w B y r v) (c : Cfg r) (a : Int) :
    Calls Try.prog 113 #[.pointer (some ⟨y, 0, none⟩), .int .i64 a] w fun e w' => e = .returned (.tuple #[.int .i64 (r.asked a), .int .i64 (r.mades a)]) ∧ Below w.heap.size w w' := by
  have hl := c.length
  have hm := c.made
  unfold RS.asked RS.mades
  obtain ⟨n, hn⟩ : ∃ n : Nat, r.length = n := ⟨r.length.toNat, by omega⟩
  rw [hn, Int.toNat_natCast]
  go_enter Try.func113, Try.ntmps113
  go_wp2_with fail
  go_loopw [6, 7, 8] (fun s m i wr => ∃ k : Nat, k ≤ n ∧ i = .int .i64 k ∧ s = .int .i64 (r.askedTo a k) ∧ m = .int .i64 (r.madeTo a k) ∧ Below w.heap.size w wr) (fun _ _ i _ => n - (intOf i).toNat)
  case atStart => exact ⟨0, Nat.zero_le _, rfl, rfl, rfl, Below.refl _ _⟩
  case round =>
    obtain ⟨k, hk, rfl, rfl, rfl, hb⟩ := hrel
    have hr := h.below hb
    have hL : wr.cell? ⟨y, 4, none⟩ = some (.int .i64 (n : Int)) := by rw [← hn]; exact hr.cells 4 (by omega)
    have hA := r.askedTo_bd a k
    have hD := r.madeTo_bd a k
    by_cases hlt : k < n
    · obtain ⟨sA, sD⟩ := r.turns_step a k
      have hq : (k : Int) ≤ r.length - 1 := by omega
      by_cases hr0 : 0 < r.row.length
      · by_cases hla : r.leadAt k = a
        · have e1 : (r.leadAt k == a) = true := by simp [hla]
          rw [if_pos ⟨hr0, hla⟩] at sA
          cases hb2 : r.made.getD k false with
          | true =>
            rw [if_pos ⟨⟨hr0, hla⟩, hb2⟩] at sD
            have HA : Hid (r.askedTo a (k + 1) = r.askedTo a k + 1) := sA
            have HD : Hid (r.madeTo a (k + 1) = r.madeTo a k + 1) := sD
            clear sA sD
            go_wp2_with fail
            refine (rleader_ok hr c k hq hr0).mono ?_
            rintro e w1 ⟨rfl, b1⟩
            have h1 := hr.below b1
            have hM : w1.cell? ⟨y, 14, none⟩ = some (v 4) := h1.cells 14 (by omega)
            obtain ⟨g, cap, hv, hcm⟩ := own_boolAt h1.made (k := k) (by omega)
            have hml : k < r.made.length := by omega
            rw [hv] at hM
            rw [hb2] at hcm
            have hb' : Below w.heap.size w w1 := hb.trans (b1.mono hb.size)
            generalize r.leadAt k = q at *
            clear hla hv hb2 b1
            go_wp2_with fail
            go_roundw
            case rel => exact ⟨k + 1, by omega, by go_num, by rw [HA.out], by rw [HD.out], hb'⟩
            case measure => simp [intOf]; omega
          | false =>
            rw [if_neg (by rintro ⟨_, h2⟩; rw [hb2] at h2; cases h2)] at sD
            have HA : Hid (r.askedTo a (k + 1) = r.askedTo a k + 1) := sA
            have HD : Hid (r.madeTo a (k + 1) = r.madeTo a k + 0) := sD
            clear sA sD
            go_wp2_with fail
            refine (rleader_ok hr c k hq hr0).mono ?_
            rintro e w1 ⟨rfl, b1⟩
            have h1 := hr.below b1
            have hM : w1.cell? ⟨y, 14, none⟩ = some (v 4) := h1.cells 14 (by omega)
            obtain ⟨g, cap, hv, hcm⟩ := own_boolAt h1.made (k := k) (by omega)
            have hml : k < r.made.length := by omega
            rw [hv] at hM
            rw [hb2] at hcm
            have hb' : Below w.heap.size w w1 := hb.trans (b1.mono hb.size)
            generalize r.leadAt k = q at *
            clear hla hv hb2 b1
            go_wp2_with fail
            go_roundw
            case rel => exact ⟨k + 1, by omega, by go_num, by rw [HA.out], by rw [HD.out, Int.add_zero], hb'⟩
            case measure => simp [intOf]; omega
        · have e1 : (r.leadAt k == a) = false := by simp [hla]
          rw [if_neg (fun h2 => hla h2.2)] at sA
          rw [if_neg (fun h2 => hla h2.1.2)] at sD
          have HA : Hid (r.askedTo a (k + 1) = r.askedTo a k + 0) := sA
          have HD : Hid (r.madeTo a (k + 1) = r.madeTo a k + 0) := sD
          clear sA sD
          go_wp2_with fail
          refine (rleader_ok hr c k hq hr0).mono ?_
          rintro e w1 ⟨rfl, b1⟩
          have hb' : Below w.heap.size w w1 := hb.trans (b1.mono hb.size)
          generalize r.leadAt k = q at *
          clear hla b1
          go_wp2_with fail
          go_roundw
          case rel => exact ⟨k + 1, by omega, by go_num, by rw [HA.out, Int.add_zero], by rw [HD.out, Int.add_zero], hb'⟩
          case measure => simp [intOf]; omega
      · rw [if_neg (fun h2 => hr0 h2.1)] at sA
        rw [if_neg (fun h2 => hr0 h2.1.1)] at sD
        have HA : Hid (r.askedTo a (k + 1) = r.askedTo a k + 0) := sA
        have HD : Hid (r.madeTo a (k + 1) = r.madeTo a k + 0) := sD
        clear sA sD
        go_wp2_with fail
        refine (rleader_none hr c k (by omega) hq (by omega)).mono ?_
        rintro e w1 ⟨rfl, b1⟩
        have hb' : Below w.heap.size w w1 := hb.trans (b1.mono hb.size)
        clear b1
        go_wp2_with fail
        go_roundw
        case rel => exact ⟨k + 1, by omega, by go_num, by rw [HA.out, Int.add_zero], by rw [HD.out, Int.add_zero], hb'⟩
        case measure => simp [intOf]; omega
    · have hkn : k = n := by omega
      subst hkn
      go_wp2_with fail
      go_ret2
      exact ⟨rfl, hb⟩

end
end Go.Proofs.Ytdfdjbhdgbbolaa
namespace Go.Proofs.Ytdfdjbhdgbbolaa
set_option linter.unusedVariables false
set_option linter.unusedSimpArgs false
open Go.ChangeShapes Go.WideShapes Go.ChangeAt Go.RowKit

def RS.slow (r : RS) (a : Nat) : Bool := decide (0 < r.has.getD a 0) && (!(r.cheat.getD a false) && decide (r.mades a * 1000 < r.need * r.asked a))

theorem RS.asked_bd {r : RS} (c : Cfg r) (a : Int) : 0 ≤ r.asked a ∧ r.asked a ≤ 20 := by
  have := r.askedTo_bd a r.length.toNat
  have := c.length
  unfold RS.asked; omega
theorem RS.mades_bd {r : RS} (c : Cfg r) (a : Int) : 0 ≤ r.mades a ∧ r.mades a ≤ 20 ∧ r.mades a ≤ r.length := by
  have := r.madeTo_bd a r.length.toNat
  have := c.length
  unfold RS.mades; omega
theorem mul_bd {a b A C : Int} (h1 : 0 ≤ a) (h2 : a ≤ A) (h3 : 0 ≤ b) (h4 : b ≤ C) : 0 ≤ a * b ∧ a * b ≤ A * C :=
  ⟨Int.mul_nonneg h1 h3, Int.mul_le_mul h2 h4 h3 (by omega)⟩

section
variable {w : World} {B y : Nat} {r : RS} {v : Nat → Value}

set_option maxHeartbeats 1600000 in
theorem rslow (h : RC w B y r v) (c : Cfg r) (a : Nat) (ha : a ≤ r.N) :
    Calls Try.prog 109 #[.pointer (some ⟨y, 0, none⟩), .int .i64 a] w fun e w' => e = .returned (.bool (r.slow a)) ∧ Below w.heap.size w w' := by
  have hA := RS.asked_bd c a
  have hM := RS.mades_bd c a
  have hnd := c.need
  have hna := mul_bd hnd.1 hnd.2 hA.1 hA.2
  have hN6 := c.N.2
  have e0 := c.has
  have e1 := c.cheat
  obtain ⟨s, hs⟩ : ∃ s, r.slow a = s := ⟨_, rfl⟩
  rw [hs]
  unfold RS.slow at hs
  go_enter Try.func109, Try.ntmps109
  go_wp2_with fail
  refine (rturns h c a).mono ?_
  rintro e w1 ⟨rfl, b1⟩
  have h1 := h.below b1
  have hN : w1.cell? ⟨y, 5, none⟩ = some (.int .i64 r.need) := h1.cells 5 (by omega)
  have hH : w1.cell? ⟨y, 10, none⟩ = some (v 2) := h1.cells 10 (by omega)
  have hC : w1.cell? ⟨y, 15, none⟩ = some (v 5) := h1.cells 15 (by omega)
  obtain ⟨g, cap, hv, hcm⟩ := own_intAt h1.has (k := a) (by omega)
  obtain ⟨g2, cap2, hv2, hcm2⟩ := own_boolAt h1.cheat (k := a) (by omega)
  rw [hv, e0] at hH
  rw [hv2, e1] at hC
  have i1 : (a : Int) < ((r.N + 1 : Nat) : Int) := by omega
  clear hv hv2 e0 e1
  generalize r.has.getD a 0 = x at *
  generalize r.cheat.getD a false = b at *
  generalize r.mades a = m at *
  generalize r.asked a = k at *
  by_cases d1 : 0 < x
  · have f1 : decide (0 < x) = true := by simpa using d1
    rw [f1] at hs
    cases b with
    | true =>
      have Hs := hid (show s = false by simpa using hs.symm)
      clear hs
      go_wp2_with fail
      go_ret
      exact ⟨by rw [Hs.out]; rfl, b1⟩
    | false =>
      by_cases d2 : m * 1000 < r.need * k
      · have f2 : decide (m * 1000 < r.need * k) = true := by simpa using d2
        have Hs := hid (show s = true by rw [← hs, f2]; rfl)
        clear hs d2
        go_wp2_with fail
        go_ret
        exact ⟨by rw [Hs.out]; rfl, b1⟩
      · have f2 : decide (m * 1000 < r.need * k) = false := by simpa using d2
        have Hs := hid (show s = false by rw [← hs, f2]; rfl)
        clear hs d2
        go_wp2_with fail
        go_ret
        exact ⟨by rw [Hs.out]; rfl, b1⟩
  · have f1 : decide (0 < x) = false := by simpa using d1
    rw [f1] at hs
    have Hs := hid (show s = false by simpa using hs.symm)
    clear hs
    go_wp2_with fail
    go_ret
    exact ⟨by rw [Hs.out]; rfl, b1⟩

/-- Somebody with a seat, not slashed, is not slow (among the accounts below k). -/
def RS.othersTo (r : RS) : Nat → Bool
  | 0 => false
  | k + 1 => r.othersTo k || (decide (0 < r.has.getD k 0) && (!(r.cheat.getD k false) && !(r.slow k)))
def RS.lazy (r : RS) (a : Nat) : Bool := r.othersTo (r.N + 1) && r.slow a

set_option maxHeartbeats 1600000 in
theorem rlazy (h : RC w B y r v) (c : Cfg r) (a : Nat) (ha : a ≤ r.N) :
    Calls Try.prog 102 #[.pointer (some ⟨y, 0, none⟩), .int .i64 a] w fun e w' => e = .returned (.bool (r.lazy a)) ∧ Below w.heap.size w w' := by
  have hN6 := c.N.2
  have e0 := c.has
  have e1 := c.cheat
  have hN := h.cN
  have hyb := block_lt_of_cell hN
  obtain ⟨s, hs⟩ : ∃ s, r.lazy a = s := ⟨_, rfl⟩
  rw [hs]
  unfold RS.lazy at hs
  have HS := hid hs
  clear hs
  go_enter Try.func102, Try.ntmps102
  go_wp2_with fail
  go_loopw [5, 6] (fun o i wr => ∃ k : Nat, k ≤ r.N + 1 ∧ i = .int .i64 k ∧ o = .bool (r.othersTo k) ∧ Below w.heap.size w wr) (fun _ i _ => r.N + 1 - (intOf i).toNat)
  case atStart => exact ⟨0, Nat.zero_le _, rfl, rfl, Below.refl _ _⟩
  case round =>
    obtain ⟨k, hk, rfl, rfl, hb⟩ := hrel
    have hr := h.below hb
    have hNr := hr.cN
    by_cases hlt : k < r.N + 1
    · have st : r.othersTo (k + 1) = (r.othersTo k || (decide (0 < r.has.getD k 0) && (!(r.cheat.getD k false) && !(r.slow k)))) := rfl
      go_wp2_with fail
      refine (rslow hr c k (by omega)).mono ?_
      rintro e w1 ⟨rfl, b1⟩
      have h1 := hr.below b1
      have hH : w1.cell? ⟨y, 10, none⟩ = some (v 2) := h1.cells 10 (by omega)
      have hC : w1.cell? ⟨y, 15, none⟩ = some (v 5) := h1.cells 15 (by omega)
      obtain ⟨g, cap, hv, hcm⟩ := own_intAt h1.has (k := k) (by omega)
      obtain ⟨g2, cap2, hv2, hcm2⟩ := own_boolAt h1.cheat (k := k) (by omega)
      rw [hv, e0] at hH
      rw [hv2, e1] at hC
      have hb' : Below w.heap.size w w1 := hb.trans (b1.mono hb.size)
      have i1 : (k : Int) < ((r.N + 1 : Nat) : Int) := by omega
      clear hv hv2 b1
      generalize r.has.getD k 0 = x at *
      generalize r.cheat.getD k false = b at *
      generalize r.slow k = sl at *
      generalize r.othersTo k = o at *
      cases o with
      | true =>
        have ST := hid (show r.othersTo (k + 1) = true by simpa using st)
        clear st
        go_wp2_with fail
        go_roundw
        case rel => exact ⟨k + 1, by omega, by go_num, by rw [ST.out], hb'⟩
        case measure => simp [intOf]; omega
      | false =>
        by_cases d1 : 0 < x
        · have f1 : decide (0 < x) = true := by simpa using d1
          rw [f1] at st
          cases b with
          | true =>
            have ST := hid (show r.othersTo (k + 1) = false by simpa using st)
            clear st
            go_wp2_with fail
            go_roundw
            case rel => exact ⟨k + 1, by omega, by go_num, by rw [ST.out], hb'⟩
            case measure => simp [intOf]; omega
          | false =>
            cases sl with
            | true =>
              have ST := hid (show r.othersTo (k + 1) = false by simpa using st)
              clear st
              go_wp2_with fail
              go_roundw
              case rel => exact ⟨k + 1, by omega, by go_num, by rw [ST.out], hb'⟩
              case measure => simp [intOf]; omega
            | false =>
              have ST := hid (show r.othersTo (k + 1) = true by simpa using st)
              clear st
              go_wp2_with fail
              go_roundw
              case rel => exact ⟨k + 1, by omega, by go_num, by rw [ST.out], hb'⟩
              case measure => simp [intOf]; omega
        · have f1 : decide (0 < x) = false := by simpa using d1
          rw [f1] at st
          have ST := hid (show r.othersTo (k + 1) = false by simpa using st)
          clear st
          go_wp2_with fail
          go_roundw
          case rel => exact ⟨k + 1, by omega, by go_num, by rw [ST.out], hb'⟩
          case measure => simp [intOf]; omega
    · have hkn : k = r.N + 1 := by omega
      have HS2 := hid (show (r.othersTo k && r.slow a) = s by rw [hkn]; exact HS.out)
      clear hkn HS
      cases hq : r.othersTo k with
      | true =>
        have HS3 := hid (show r.slow a = s by rw [← HS2.out, hq]; simp)
        clear HS2 hq
        go_wp2_with fail
        refine (rslow hr c a ha).mono ?_
        rintro e w1 ⟨rfl, b1⟩
        go_wp2_with fail
        go_ret
        exact ⟨by rw [HS3.out]; rfl, hb.trans (b1.mono hb.size)⟩
      | false =>
        have HS3 := hid (show s = false by rw [← HS2.out, hq]; simp)
        clear HS2 hq
        go_wp2_with fail
        go_ret
        exact ⟨by rw [HS3.out]; rfl, hb⟩
end
end Go.Proofs.Ytdfdjbhdgbbolaa
namespace Go.Proofs.Ytdfdjbhdgbbolaa
set_option linter.unusedVariables false
set_option linter.unusedSimpArgs false
open Go.ChangeShapes Go.WideShapes Go.ChangeAt Go.RowKit

/-- Whether an account is paid. -/
def RS.works (r : RS) (a : Nat) : Bool := decide (0 < r.has.getD a 0) && (!(r.cheat.getD a false) && !(r.lazy a))
def RS.paid (r : RS) (a : Nat) (rest : Int) : Int := if r.works a = true then rest * r.mades a / r.length else 0

section
variable {w : World} {B y : Nat} {r : RS} {v : Nat → Value}

set_option maxHeartbeats 1600000 in
theorem rpaid (h : RC w B y r v) (c : Cfg r) (a : Nat) (ha : a ≤ r.N) (rest : Int) (hr0 : 0 ≤ rest) (hr1 : rest ≤ 1000000000) :
    Calls Try.prog 110 #[.pointer (some ⟨y, 0, none⟩), .int .i64 a, .int .i64 rest] w fun e w' => e = .returned (.int .i64 (r.paid a rest)) ∧ Below w.heap.size w w' := by
  have hM := RS.mades_bd c a
  have hna := mul_bd hr0 hr1 hM.1 hM.2.1
  have hN6 := c.N.2
  have e0 := c.has
  have e1 := c.cheat
  have hl := c.length
  have hx0 := (c.has0 a).1
  obtain ⟨s, hs⟩ : ∃ s, r.paid a rest = s := ⟨_, rfl⟩
  rw [hs]
  unfold RS.paid RS.works at hs
  go_enter Try.func110, Try.ntmps110
  go_wp2_with fail
  refine (rlazy h c a ha).mono ?_
  rintro e w1 ⟨rfl, b1⟩
  have h1 := h.below b1
  have hH : w1.cell? ⟨y, 10, none⟩ = some (v 2) := h1.cells 10 (by omega)
  have hC : w1.cell? ⟨y, 15, none⟩ = some (v 5) := h1.cells 15 (by omega)
  obtain ⟨g, cap, hv, hcm⟩ := own_intAt h1.has (k := a) (by omega)
  obtain ⟨g2, cap2, hv2, hcm2⟩ := own_boolAt h1.cheat (k := a) (by omega)
  rw [hv, e0] at hH
  rw [hv2, e1] at hC
  have i1 : (a : Int) < ((r.N + 1 : Nat) : Int) := by omega
  clear hv hv2 e0 e1
  generalize r.has.getD a 0 = x at *
  generalize r.cheat.getD a false = b at *
  generalize r.lazy a = z at *
  by_cases d1 : 0 < x
  · have f1 : decide (0 < x) = true := by simpa using d1
    rw [f1] at hs
    cases b with
    | true =>
      have Hs := hid (show s = 0 by simpa using hs.symm)
      clear hs
      go_wp2_with fail
      go_ret
      exact ⟨by rw [Hs.out]; rfl, b1⟩
    | false =>
      cases z with
      | true =>
        have Hs := hid (show s = 0 by simpa using hs.symm)
        clear hs
        go_wp2_with fail
        go_ret
        exact ⟨by rw [Hs.out]; rfl, b1⟩
      | false =>
        have Hs := hid (show s = rest * r.mades a / r.length by simpa using hs.symm)
        clear hs
        go_wp2_with fail
        refine (rturns h1 c a).mono ?_
        rintro e w2 ⟨rfl, b2⟩
        have h2 := h1.below b2
        have hL : w2.cell? ⟨y, 4, none⟩ = some (.int .i64 r.length) := h2.cells 4 (by omega)
        generalize hq : rest * r.mades a = q at *
        clear hcm hcm2 hH hC
        go_wp2_with fail
        go_ret
        exact ⟨by rw [Hs.out]; rfl, b1.trans (b2.mono b1.size)⟩
  · have f1 : decide (0 < x) = false := by simpa using d1
    rw [f1] at hs
    have Hs := hid (show s = 0 by simpa using hs.symm)
    clear hs
    have hx : x = 0 := by omega
    subst hx
    go_wp2_with fail
    go_ret
    exact ⟨by rw [Hs.out]; rfl, b1⟩
end
end Go.Proofs.Ytdfdjbhdgbbolaa
namespace Go.Proofs.Ytdfdjbhdgbbolaa
set_option linter.unusedVariables false
set_option linter.unusedSimpArgs false
open Go.ChangeShapes Go.WideShapes Go.ChangeAt Go.RowKit

/-- From w on, a chain (with the slices v) has become r', with the slices v'. -/
structure RTo (w : World) (B y : Nat) (v : Nat → Value) (w' : World) (r' : RS) (v' : Nat → Value) : Prop where
  rc : RC w' B y r' v'
  keeps : Keeps (RFoot y v) w w'
  foot : ∀ k, RFoot y v' k → RFoot y v k ∨ w.heap.size ≤ k

theorem RTo.trans {w w1 w2 : World} {B y : Nat} {v v1 v2 : Nat → Value} {r1 r2 : RS} (a : RTo w B y v w1 r1 v1) (b : RTo w1 B y v1 w2 r2 v2) : RTo w B y v w2 r2 v2 :=
  ⟨b.rc, a.keeps.trans b.keeps (fun i hi hf => (a.foot i hf).elim id (fun h => by omega)), fun k hk => (b.foot k hk).elim (a.foot k) (fun h => .inr (Nat.le_trans a.keeps.size h))⟩
theorem RTo.refl {w : World} {B y : Nat} {v : Nat → Value} {r : RS} (h : RC w B y r v) : RTo w B y v w r v := ⟨h, Keeps.refl _ _, fun _ hk => .inl hk⟩
theorem RTo.below {w w1 w2 : World} {B y : Nat} {v v1 : Nat → Value} {r1 : RS} (a : RTo w B y v w1 r1 v1) (b : Below w1.heap.size w1 w2) : RTo w B y v w2 r1 v1 :=
  a.trans ⟨a.rc.below b, Keeps.ofBelow b, fun _ hk => .inl hk⟩
theorem RTo.ofBelow {w w1 : World} {B y : Nat} {v : Nat → Value} {r : RS} (h : RC w B y r v) (b : Below w.heap.size w w1) : RTo w B y v w1 r v := (RTo.refl h).below b
theorem RTo.drew {w w1 : World} {B y : Nat} {v v1 : Nat → Value} {r1 : RS} (a : RTo w B y v w1 r1 v1) : RTo w B y v w1.drew r1 v1 := a.below (Below.refl _ _).drew

theorem RC.size {w : World} {B y : Nat} {r : RS} {v : Nat → Value} (h : RC w B y r v) : B ≤ w.heap.size := by
  have := h.lt (.inl rfl); omega

section
variable {w : World} {B y : Nat} {r : RS} {v : Nat → Value}

theorem RC.far (h : RC w B y r v) {i g n cap : Nat} (hi : i < 6) (hv : v i = .slice (some ⟨g, 0, none⟩) n cap) : g ≠ y ∧ ∀ j, j < 6 → j ≠ i → ∀ k, (v j).ownBlock = some k → ¬ k = g := by
  have e : (v i).ownBlock = some g := by rw [hv]; rfl
  refine ⟨fun e2 => h.ny i hi (by rw [e, e2]), fun j hj hne k hk e2 => h.dist i j hi hj (fun e3 => hne e3.symm) g e (by rw [hk, e2])⟩

theorem map_set_int (l : List Int) (k : Nat) (n : Int) : (l.set k n).map (Value.int .i64) = (l.map (Value.int .i64)).set k (.int .i64 n) := by rw [List.map_set]
theorem map_set_bool (l : List Bool) (k : Nat) (n : Bool) : (l.set k n).map Value.bool = (l.map Value.bool).set k (.bool n) := by rw [List.map_set]

theorem RC.set_bids (h : RC w B y r v) {g cap : Nat} (hv : v 1 = .slice (some ⟨g, 0, none⟩) r.bids.length cap) (k : Nat) (n : Int) :
    RTo w B y v (w.setCell ⟨g, k, none⟩ (.int .i64 n)) { r with bids := r.bids.set k n } v := by
  have hk : Keeps (fun b => b = g) w (w.setCell ⟨g, k, none⟩ (.int .i64 n)) := (Keeps.refl _ w).setCell _ _ (fun _ => rfl)
  obtain ⟨hgy, hfar⟩ := h.far (i := 1) (by omega) hv
  have hyb := (h.lt (.inl rfl)).2
  have ho := h.bids
  rw [hv] at ho
  have hs := (ho.stored k (.int .i64 n)).1
  refine ⟨?_, hk.mono (fun i _ e => .inr ⟨1, by omega, by rw [hv, e]; rfl⟩), fun _ hk => .inl hk⟩
  exact { h with
    cells := fun j hj => (World.cell?_of_block (hk.block y hyb (fun e => hgy e.symm))).trans (h.cells j hj)
    frozen := fun j => (World.frozen?_of_block (hk.block y hyb (fun e => hgy e.symm))).trans (h.frozen j)
    book := hk.owns h.book (hfar 0 (by omega) (by omega))
    bids := by simp only [List.length_set, map_set_int]; rw [hv]; exact hs
    has := hk.owns h.has (hfar 2 (by omega) (by omega))
    row := hk.owns h.row (hfar 3 (by omega) (by omega))
    made := hk.owns h.made (hfar 4 (by omega) (by omega))
    cheat := hk.owns h.cheat (hfar 5 (by omega) (by omega)) }

theorem RC.set_has (h : RC w B y r v) {g cap : Nat} (hv : v 2 = .slice (some ⟨g, 0, none⟩) r.has.length cap) (k : Nat) (n : Int) :
    RTo w B y v (w.setCell ⟨g, k, none⟩ (.int .i64 n)) { r with has := r.has.set k n } v := by
  have hk : Keeps (fun b => b = g) w (w.setCell ⟨g, k, none⟩ (.int .i64 n)) := (Keeps.refl _ w).setCell _ _ (fun _ => rfl)
  obtain ⟨hgy, hfar⟩ := h.far (i := 2) (by omega) hv
  have hyb := (h.lt (.inl rfl)).2
  have ho := h.has
  rw [hv] at ho
  have hs := (ho.stored k (.int .i64 n)).1
  refine ⟨?_, hk.mono (fun i _ e => .inr ⟨2, by omega, by rw [hv, e]; rfl⟩), fun _ hk => .inl hk⟩
  exact { h with
    cells := fun j hj => (World.cell?_of_block (hk.block y hyb (fun e => hgy e.symm))).trans (h.cells j hj)
    frozen := fun j => (World.frozen?_of_block (hk.block y hyb (fun e => hgy e.symm))).trans (h.frozen j)
    book := hk.owns h.book (hfar 0 (by omega) (by omega))
    has := by simp only [List.length_set, map_set_int]; rw [hv]; exact hs
    bids := hk.owns h.bids (hfar 1 (by omega) (by omega))
    row := hk.owns h.row (hfar 3 (by omega) (by omega))
    made := hk.owns h.made (hfar 4 (by omega) (by omega))
    cheat := hk.owns h.cheat (hfar 5 (by omega) (by omega)) }

theorem RC.set_made (h : RC w B y r v) {g cap : Nat} (hv : v 4 = .slice (some ⟨g, 0, none⟩) r.made.length cap) (k : Nat) (n : Bool) :
    RTo w B y v (w.setCell ⟨g, k, none⟩ (.bool n)) { r with made := r.made.set k n } v := by
  have hk : Keeps (fun b => b = g) w (w.setCell ⟨g, k, none⟩ (.bool n)) := (Keeps.refl _ w).setCell _ _ (fun _ => rfl)
  obtain ⟨hgy, hfar⟩ := h.far (i := 4) (by omega) hv
  have hyb := (h.lt (.inl rfl)).2
  have ho := h.made
  rw [hv] at ho
  have hs := (ho.stored k (.bool n)).1
  refine ⟨?_, hk.mono (fun i _ e => .inr ⟨4, by omega, by rw [hv, e]; rfl⟩), fun _ hk => .inl hk⟩
  exact { h with
    cells := fun j hj => (World.cell?_of_block (hk.block y hyb (fun e => hgy e.symm))).trans (h.cells j hj)
    frozen := fun j => (World.frozen?_of_block (hk.block y hyb (fun e => hgy e.symm))).trans (h.frozen j)
    book := hk.owns h.book (hfar 0 (by omega) (by omega))
    made := by simp only [List.length_set, map_set_bool]; rw [hv]; exact hs
    bids := hk.owns h.bids (hfar 1 (by omega) (by omega))
    has := hk.owns h.has (hfar 2 (by omega) (by omega))
    row := hk.owns h.row (hfar 3 (by omega) (by omega))
    cheat := hk.owns h.cheat (hfar 5 (by omega) (by omega)) }

theorem RC.set_cheat (h : RC w B y r v) {g cap : Nat} (hv : v 5 = .slice (some ⟨g, 0, none⟩) r.cheat.length cap) (k : Nat) (n : Bool) :
    RTo w B y v (w.setCell ⟨g, k, none⟩ (.bool n)) { r with cheat := r.cheat.set k n } v := by
  have hk : Keeps (fun b => b = g) w (w.setCell ⟨g, k, none⟩ (.bool n)) := (Keeps.refl _ w).setCell _ _ (fun _ => rfl)
  obtain ⟨hgy, hfar⟩ := h.far (i := 5) (by omega) hv
  have hyb := (h.lt (.inl rfl)).2
  have ho := h.cheat
  rw [hv] at ho
  have hs := (ho.stored k (.bool n)).1
  refine ⟨?_, hk.mono (fun i _ e => .inr ⟨5, by omega, by rw [hv, e]; rfl⟩), fun _ hk => .inl hk⟩
  exact { h with
    cells := fun j hj => (World.cell?_of_block (hk.block y hyb (fun e => hgy e.symm))).trans (h.cells j hj)
    frozen := fun j => (World.frozen?_of_block (hk.block y hyb (fun e => hgy e.symm))).trans (h.frozen j)
    book := hk.owns h.book (hfar 0 (by omega) (by omega))
    cheat := by simp only [List.length_set, map_set_bool]; rw [hv]; exact hs
    bids := hk.owns h.bids (hfar 1 (by omega) (by omega))
    has := hk.owns h.has (hfar 2 (by omega) (by omega))
    row := hk.owns h.row (hfar 3 (by omega) (by omega))
    made := hk.owns h.made (hfar 4 (by omega) (by omega)) }

theorem RC.set_num (h : RC w B y r v) (idx : Nat) (n : Int) (r' : RS) (hr : r'.book = r.book ∧ r'.bids = r.bids ∧ r'.has = r.has ∧ r'.row = r.row ∧ r'.made = r.made ∧ r'.cheat = r.cheat)
    (hj : ∀ j, j < 16 → (rcCells r' v)[j]? = if j = idx then some (.int .i64 n) else (rcCells r v)[j]?) (hidx : idx < 16) :
    RTo w B y v (w.setCell ⟨y, idx, none⟩ (.int .i64 n)) r' v := by
  have hk : Keeps (fun b => b = y) w (w.setCell ⟨y, idx, none⟩ (.int .i64 n)) := (Keeps.refl _ w).setCell _ _ (fun _ => rfl)
  obtain ⟨e0, e1, e2, e3, e4, e5⟩ := hr
  have hold : ∃ u, w.cell? ⟨y, idx, none⟩ = some u := by
    rw [h.cells idx hidx]
    exact ⟨_, List.getElem?_eq_getElem (by simp [rcCells]; exact hidx)⟩
  obtain ⟨u, hu⟩ := hold
  have hny : ∀ i, i < 6 → ∀ k, (v i).ownBlock = some k → ¬ k = y := fun i hi k hk e => h.ny i hi (by rw [hk, e])
  refine ⟨?_, hk.mono (fun i _ e => .inl e), fun _ hk => .inl hk⟩
  exact {
    lo := h.lo
    cells := fun j hjj => by
      rw [hj j hjj]
      by_cases e : j = idx
      · rw [if_pos e, e]; exact setCell_same hu
      · rw [if_neg e, ← h.cells j hjj]
        exact World.cell?_setCell_other _ _ _ _ (by intro e2; simp only [Addr.mk.injEq] at e2; omega)
    frozen := fun j => (World.frozen?_setCell _ _ _ _).trans (h.frozen j)
    book := by rw [e0]; exact hk.owns h.book (hny 0 (by omega))
    bids := by rw [e1]; exact hk.owns h.bids (hny 1 (by omega))
    has := by rw [e2]; exact hk.owns h.has (hny 2 (by omega))
    row := by rw [e3]; exact hk.owns h.row (hny 3 (by omega))
    made := by rw [e4]; exact hk.owns h.made (hny 4 (by omega))
    cheat := by rw [e5]; exact hk.owns h.cheat (hny 5 (by omega))
    ny := h.ny
    dist := h.dist
    lbook := by rw [e0]; exact h.lbook }

theorem RC.set_price (h : RC w B y r v) (n : Int) : RTo w B y v (w.setCell ⟨y, 12, none⟩ (.int .i64 n)) { r with price := n } v :=
  h.set_num 12 n _ ⟨rfl, rfl, rfl, rfl, rfl, rfl⟩ (fun j hj => by
    rcases (show j = 0 ∨ j = 1 ∨ j = 2 ∨ j = 3 ∨ j = 4 ∨ j = 5 ∨ j = 6 ∨ j = 7 ∨ j = 8 ∨ j = 9 ∨ j = 10 ∨ j = 11 ∨ j = 12 ∨ j = 13 ∨ j = 14 ∨ j = 15 by omega) with rfl | rfl | rfl | rfl | rfl | rfl | rfl | rfl | rfl | rfl | rfl | rfl | rfl | rfl | rfl | rfl <;> rfl) (by omega)
theorem RC.set_epoch (h : RC w B y r v) (n : Int) : RTo w B y v (w.setCell ⟨y, 11, none⟩ (.int .i64 n)) { r with epoch := n } v :=
  h.set_num 11 n _ ⟨rfl, rfl, rfl, rfl, rfl, rfl⟩ (fun j hj => by
    rcases (show j = 0 ∨ j = 1 ∨ j = 2 ∨ j = 3 ∨ j = 4 ∨ j = 5 ∨ j = 6 ∨ j = 7 ∨ j = 8 ∨ j = 9 ∨ j = 10 ∨ j = 11 ∨ j = 12 ∨ j = 13 ∨ j = 14 ∨ j = 15 by omega) with rfl | rfl | rfl | rfl | rfl | rfl | rfl | rfl | rfl | rfl | rfl | rfl | rfl | rfl | rfl | rfl <;> rfl) (by omega)

/-- One more move is written down. -/
def RS.push (r : RS) (m : Mv) : RS := { r with book := r.book ++ [m] }

theorem rmove' (h : RC w B y r v) (m : Mv) (hl : r.book.length * 56 + 56 ≤ 140737488355328) :
    Calls Try.prog 97 #[.pointer (some ⟨y, 0, none⟩), .agg #[.int .i64 m.fk, .int .i64 m.fa, .int .i64 m.fe], .agg #[.int .i64 m.tk, .int .i64 m.ta, .int .i64 m.te], .int .i64 m.n] w fun e w' =>
      e = .returned (.tuple #[]) ∧ ∃ v', RTo w B y v w' (r.push m) v' :=
  (rmove h m hl h.size).mono (fun e w' ⟨he, vb, h1, h2, h3⟩ => ⟨he, _, h1, h2, h3⟩)

/-- The bounds of the amounts. -/
structure Amt (b : List Mv) (N : Nat) : Prop where
  all : ∀ k a : Int, 1 ≤ k → k ≤ 5 → -1 ≤ a → a ≤ N → 0 ≤ allOf b k a ∧ allOf b k a ≤ 1000000000
  due : ∀ (a : Nat) (e : Int), a ≤ N → 0 ≤ atOf b 3 a e ∧ atOf b 3 a e ≤ 1000000000
  sup : allOf b 1 (-1) + allOf b 2 (-1) + allOf b 3 (-1) + allOf b 4 (-1) ≤ 1000000000

theorem w64_id {x : Int} (h : 0 ≤ x ∧ x ≤ 1000000000) : wrap64 x = x := by unfold wrap64; omega

theorem rall' (h : RC w B y r v) (A : Amt r.book r.N) (k a : Int) (h1 : 1 ≤ k) (h2 : k ≤ 5) (h3 : -1 ≤ a) (h4 : a ≤ r.N) :
    Calls Try.prog 99 #[.pointer (some ⟨y, 0, none⟩), .int .i64 k, .int .i64 a] w fun e w' => e = .returned (.int .i64 (allOf r.book k a)) ∧ Below w.heap.size w w' := by
  have := rall h k a
  rwa [w64_id (A.all k a h1 h2 h3 h4)] at this
theorem rat' (h : RC w B y r v) (A : Amt r.book r.N) (a : Nat) (e : Int) (h4 : a ≤ r.N) :
    Calls Try.prog 101 #[.pointer (some ⟨y, 0, none⟩), .agg #[.int .i64 3, .int .i64 a, .int .i64 e]] w fun q w' => q = .returned (.int .i64 (atOf r.book 3 a e)) ∧ Below w.heap.size w w' := by
  have := rat h 3 a e
  rwa [w64_id (A.due a e h4)] at this
/-- The supply. -/
def supplyOf (b : List Mv) : Int := allOf b 1 (-1) + allOf b 2 (-1) + allOf b 3 (-1) + allOf b 4 (-1)
theorem Amt.supply {b : List Mv} {N : Nat} (A : Amt b N) : 0 ≤ supplyOf b ∧ supplyOf b ≤ 1000000000 := by
  have h1 := A.all 1 (-1) (by omega) (by omega) (by omega) (by omega)
  have h2 := A.all 2 (-1) (by omega) (by omega) (by omega) (by omega)
  have h3 := A.all 3 (-1) (by omega) (by omega) (by omega) (by omega)
  have h4 := A.all 4 (-1) (by omega) (by omega) (by omega) (by omega)
  have := A.sup
  unfold supplyOf; omega
theorem rsupply' (h : RC w B y r v) (A : Amt r.book r.N) :
    Calls Try.prog 100 #[.pointer (some ⟨y, 0, none⟩)] w fun e w' => e = .returned (.int .i64 (supplyOf r.book)) ∧ Below w.heap.size w w' := by
  have := rsupply h
  have e := w64_id A.supply
  unfold supplyOf at *
  rwa [e] at this
end
end Go.Proofs.Ytdfdjbhdgbbolaa
