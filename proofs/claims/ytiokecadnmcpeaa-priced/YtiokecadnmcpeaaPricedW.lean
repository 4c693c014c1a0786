import Derived.Test.YtiokecadnmcpeaaPrice
namespace Go.Proofs.Ytiokecadnmcpeaa
open Go.ChangeShapes Go.WideShapes Go.ChangeAt Go.RowKit

theorem priced_bad {l : List Int} {n p r : Int} (h : Priced l n p r) (hb : Pm.bad l n) : p = 0 ∧ r = 8 := by
  rcases h with ⟨_, a, b⟩ | ⟨a, _⟩ | ⟨a, _⟩
  · exact ⟨a, b⟩
  · exact absurd hb a
  · exact absurd hb a

theorem priced_few {l : List Int} {n p r : Int} (h : Priced l n p r) (hb : ¬ Pm.bad l n) (ht : Pm.total l < n) : p = 0 ∧ r = 9 := by
  rcases h with ⟨a, _⟩ | ⟨_, _, a, b⟩ | ⟨_, a, _⟩
  · exact absurd a hb
  · exact ⟨a, b⟩
  · omega

theorem priced_ok {l : List Int} {n p r : Int} (h : Priced l n p r) (hb : ¬ Pm.bad l n) (ht : n ≤ Pm.total l) : Pm.IsPrice l n p ∧ r = 0 := by
  rcases h with ⟨a, _⟩ | ⟨_, a, _⟩ | ⟨_, _, a, b⟩
  · exact absurd a hb
  · omega
  · exact ⟨a, b⟩

theorem price_bad (a : Option Addr) (cap : Nat) (l : List Int) (n : Int) (w : World) (hl : Ints w a l) (hm : l.length ≤ maxLen) (hb : Pm.bad l n) :
    Calls Try.prog 16 #[.slice a l.length cap, .int .i64 n] w fun e w' => e = .returned (.tuple #[.int .i64 0, .int .i64 8]) ∧ w' = w := by
  refine (price_any a cap l n w hl hm).mono ?_
  rintro e w' ⟨⟨p, r, rfl, h⟩, rfl⟩
  obtain ⟨rfl, rfl⟩ := priced_bad h hb
  exact ⟨rfl, rfl⟩

theorem price_few (a : Option Addr) (cap : Nat) (l : List Int) (n : Int) (w : World) (hl : Ints w a l) (hm : l.length ≤ maxLen) (hb : ¬ Pm.bad l n) (ht : Pm.total l < n) :
    Calls Try.prog 16 #[.slice a l.length cap, .int .i64 n] w fun e w' => e = .returned (.tuple #[.int .i64 0, .int .i64 9]) ∧ w' = w := by
  refine (price_any a cap l n w hl hm).mono ?_
  rintro e w' ⟨⟨p, r, rfl, h⟩, rfl⟩
  obtain ⟨rfl, rfl⟩ := priced_few h hb ht
  exact ⟨rfl, rfl⟩

theorem price_ok (a : Option Addr) (cap : Nat) (l : List Int) (n : Int) (w : World) (hl : Ints w a l) (hm : l.length ≤ maxLen) (hb : ¬ Pm.bad l n) (ht : n ≤ Pm.total l) :
    Calls Try.prog 16 #[.slice a l.length cap, .int .i64 n] w fun e w' => (∃ p, e = .returned (.tuple #[.int .i64 p, .int .i64 0]) ∧ Pm.IsPrice l n p) ∧ w' = w := by
  refine (price_any a cap l n w hl hm).mono ?_
  rintro e w' ⟨⟨p, r, rfl, h⟩, rfl⟩
  obtain ⟨hp, rfl⟩ := priced_ok h hb ht
  exact ⟨⟨p, rfl, hp⟩, rfl⟩

theorem total_step (l : List Int) (k : Nat) (hk : k < l.length) : Pm.total (l.take (k + 1)) = Pm.total (l.take k) + l.getD k 0 := by
  rw [Pm.take_snoc l k hk, Pm.total_snoc]

/-- The number of seats, or of stakes, may not be. -/
theorem pricedA (a : Option Addr) (cap : Nat) (l : List Int) (n : Int) (w : World) (hl : Ints w a l) (hm : l.length ≤ maxLen) (hb : n < 1 ∨ 10 < n ∨ 16 < l.length) :
    Calls Try.prog 4 #[.slice a l.length cap, .int .i64 n] w fun e w' => e = .returned (.bool true) ∧ w' = w := by
  have hbad : Hid (Pm.bad l n) := by
    show Pm.bad l n
    unfold Pm.bad
    omega
  have hm' := hm
  unfold maxLen at hm'
  by_cases h1 : n < 1
  · have d1 : decide (n < 1) = true := by simpa using h1
    clear hb
    go_enter Try.func4, Try.ntmps4
    go_wp2_with (go_at_call 16; refine (price_bad _ _ l _ _ hl hm hbad.out).mono ?_; rintro e w' ⟨rfl, rfl⟩)
    go_loop [7, 8] (fun b i => b = .bool true ∧ i = .int .i64 0) (fun _ _ => 0)
    case atStart => exact ⟨rfl, rfl⟩
    case round =>
      obtain ⟨rfl, rfl⟩ := hrel
      by_cases h0 : (0 : Int) < (l.length : Int)
      · go_wp2
        go_ret
        exact ⟨rfl, rfl⟩
      · go_wp2
        go_ret
        exact ⟨rfl, rfl⟩
  · have d1 : decide (n < 1) = false := by simpa using h1
    by_cases h2 : 10 < n
    · have d2 : decide (10 < n) = true := by simpa using h2
      clear hb
      go_enter Try.func4, Try.ntmps4
      go_wp2_with (go_at_call 16; refine (price_bad _ _ l _ _ hl hm hbad.out).mono ?_; rintro e w' ⟨rfl, rfl⟩)
      go_loop [7, 8] (fun b i => b = .bool true ∧ i = .int .i64 0) (fun _ _ => 0)
      case atStart => exact ⟨rfl, rfl⟩
      case round =>
        obtain ⟨rfl, rfl⟩ := hrel
        by_cases h0 : (0 : Int) < (l.length : Int)
        · go_wp2
          go_ret
          exact ⟨rfl, rfl⟩
        · go_wp2
          go_ret
          exact ⟨rfl, rfl⟩
    · have d2 : decide (10 < n) = false := by simpa using h2
      have d3 : decide ((16 : Int) < (l.length : Int)) = true := by simp; omega
      have h0 : (0 : Int) < (l.length : Int) := by omega
      clear hb
      go_enter Try.func4, Try.ntmps4
      go_wp2_with (go_at_call 16; refine (price_bad _ _ l _ _ hl hm hbad.out).mono ?_; rintro e w' ⟨rfl, rfl⟩)
      go_loop [7, 8] (fun b i => b = .bool true ∧ i = .int .i64 0) (fun _ _ => 0)
      case atStart => exact ⟨rfl, rfl⟩
      case round =>
        obtain ⟨rfl, rfl⟩ := hrel
        go_wp2
        go_ret
        exact ⟨rfl, rfl⟩

/-- A stake may not be. -/
theorem pricedB (a : Option Addr) (cap : Nat) (l : List Int) (n : Int) (w : World) (hl : Ints w a l) (hm : l.length ≤ maxLen) (h1 : 1 ≤ n) (h2 : n ≤ 10) (h3 : l.length ≤ 16) (hb : ¬ Pm.Fit l) :
    Calls Try.prog 4 #[.slice a l.length cap, .int .i64 n] w fun e w' => e = .returned (.bool true) ∧ w' = w := by
  have hbad : Hid (Pm.bad l n) := .inr (.inr (.inr hb))
  have hbh : Hid (¬ Pm.Fit l) := hb
  clear hb
  have d1 : decide (n < 1) = false := by simp; omega
  have d2 : decide (10 < n) = false := by simp; omega
  have d3 : decide ((16 : Int) < (l.length : Int)) = false := by simp; omega
  go_enter Try.func4, Try.ntmps4
  go_wp2_with (go_at_call 16; refine (price_bad _ _ l _ _ hl hm hbad.out).mono ?_; rintro e w' ⟨rfl, rfl⟩)
  go_loop [7, 8] (fun b i => ∃ k : Nat, ∃ t : Bool, k ≤ l.length ∧ b = .bool t ∧ i = .int .i64 k ∧ Hid (t = false → ∀ j, j < k → 0 ≤ l.getD j 0 ∧ l.getD j 0 ≤ 1000000000)) (fun _ i => l.length - (intOf i).toNat)
  case atStart => exact ⟨0, false, Nat.zero_le _, rfl, rfl, (fun _ j hj => by omega)⟩
  case round =>
    obtain ⟨k, t, hk, rfl, rfl, hall⟩ := hrel
    by_cases hlt : k < l.length
    · have hlt' : (k : Int) < (l.length : Int) := by omega
      cases t
      · obtain ⟨b, off, ha, hc⟩ := hl.at hlt
        subst ha
        by_cases x1 : l.getD k 0 < 0
        · generalize l.getD k 0 = x at *
          have e1 : decide (x < 0) = true := by simpa using x1
          go_wp2
          go_round
          case rel => exact ⟨k + 1, true, by omega, rfl, by go_num, (fun h => by cases h)⟩
          case measure => simp [intOf]; omega
        · by_cases x2 : 1000000000 < l.getD k 0
          · generalize l.getD k 0 = x at *
            have e1 : decide (x < 0) = false := by simpa using x1
            have e2 : decide (1000000000 < x) = true := by simpa using x2
            go_wp2
            go_round
            case rel => exact ⟨k + 1, true, by omega, rfl, by go_num, (fun h => by cases h)⟩
            case measure => simp [intOf]; omega
          · have hxs : Hid (0 ≤ l.getD k 0 ∧ l.getD k 0 ≤ 1000000000) := ⟨by omega, by omega⟩
            generalize hg : l.getD k 0 = x at hc x1 x2
            clear hg
            have e1 : decide (x < 0) = false := by simpa using x1
            have e2 : decide (1000000000 < x) = false := by simpa using x2
            go_wp2
            go_round
            case rel =>
              refine ⟨k + 1, false, by omega, rfl, by go_num, fun _ j hj => ?_⟩
              by_cases e : j = k
              · rw [e]; exact hxs.out
              · exact hall.out rfl j (by omega)
            case measure => simp [intOf]; omega
      · go_wp2
        go_ret
        exact ⟨rfl, rfl⟩
    · have hlt' : ¬ (k : Int) < (l.length : Int) := by omega
      cases t
      · exfalso
        exact hbh.out (Pm.fit_of_at fun j hj => hall.out rfl j (by omega))
      · go_wp2
        go_ret
        exact ⟨rfl, rfl⟩

/-- Too little stake. -/
theorem pricedC (a : Option Addr) (cap : Nat) (l : List Int) (n : Int) (w : World) (hl : Ints w a l) (hm : l.length ≤ maxLen) (hb : ¬ Pm.bad l n) (ht : Pm.total l < n) :
    Calls Try.prog 4 #[.slice a l.length cap, .int .i64 n] w fun e w' => e = .returned (.bool true) ∧ w' = w := by
  obtain ⟨h1, h2, h3, hf⟩ := not_bad hb
  have hbh : Hid (¬ Pm.bad l n) := hb
  have hth : Hid (Pm.total l < n) := ht
  clear hb
  have d1 : decide (n < 1) = false := by simp; omega
  have d2 : decide (10 < n) = false := by simp; omega
  have d3 : decide ((16 : Int) < (l.length : Int)) = false := by simp; omega
  have d4 : decide (Pm.total l < n) = true := by simpa using ht
  go_enter Try.func4, Try.ntmps4
  go_wp2_with (go_at_call 16; refine (price_few _ _ l _ _ hl hm hbh.out hth.out).mono ?_; rintro e w' ⟨rfl, rfl⟩)
  go_loop [7, 8] (fun b i => ∃ k : Nat, k ≤ l.length ∧ b = .bool false ∧ i = .int .i64 k) (fun _ i => l.length - (intOf i).toNat)
  case atStart => exact ⟨0, Nat.zero_le _, rfl, rfl⟩
  case round =>
    obtain ⟨k, hk, rfl, rfl⟩ := hrel
    by_cases hlt : k < l.length
    · have hlt' : (k : Int) < (l.length : Int) := by omega
      obtain ⟨b, off, ha, hc⟩ := hl.at hlt
      subst ha
      have hx := Pm.fit_at hf hlt
      generalize l.getD k 0 = x at *
      have e1 : decide (x < 0) = false := by simp; omega
      have e2 : decide (1000000000 < x) = false := by simp; omega
      go_wp2
      go_round
      case rel => exact ⟨k + 1, by omega, rfl, by go_num⟩
      case measure => simp [intOf]; omega
    · have hlt' : ¬ (k : Int) < (l.length : Int) := by omega
      go_wp2
      go_loop [9, 10] (fun s i => ∃ k : Nat, k ≤ l.length ∧ i = .int .i64 k ∧ s = .int .i64 (Pm.total (l.take k))) (fun _ i => l.length - (intOf i).toNat)
      case atStart => exact ⟨0, Nat.zero_le _, rfl, rfl⟩
      case round =>
        obtain ⟨k2, hk2, rfl, rfl⟩ := hrel
        by_cases hlt2 : k2 < l.length
        · obtain ⟨b, off, ha, hc⟩ := hl.at hlt2
          subst ha
          have hx := Pm.fit_at hf hlt2
          have hb2 := Pm.total_bd (hf.take k2)
          have hlen : (l.take k2).length ≤ k2 := List.length_take_le _ _
          have HS : Hid (Pm.total (l.take (k2 + 1)) = Pm.total (l.take k2) + l.getD k2 0) := total_step l k2 hlt2
          generalize l.getD k2 0 = x at *
          go_wp2
          go_round
          case rel => exact ⟨k2 + 1, by omega, by go_num, by rw [HS.out]⟩
          case measure => simp [intOf]; omega
        · rw [List.take_of_length_le (by omega)]
          go_wp2
          go_ret
          exact ⟨rfl, rfl⟩

/-- There is a price. -/
theorem pricedD (a : Option Addr) (cap : Nat) (l : List Int) (n : Int) (w : World) (hl : Ints w a l) (hm : l.length ≤ maxLen) (hb : ¬ Pm.bad l n) (ht : n ≤ Pm.total l) :
    Calls Try.prog 4 #[.slice a l.length cap, .int .i64 n] w fun e w' => e = .returned (.bool true) ∧ w' = w := by
  obtain ⟨h1, h2, h3, hf⟩ := not_bad hb
  have hbh : Hid (¬ Pm.bad l n) := hb
  have hth : Hid (n ≤ Pm.total l) := ht
  clear hb
  have d1 : decide (n < 1) = false := by simp; omega
  have d2 : decide (10 < n) = false := by simp; omega
  have d3 : decide ((16 : Int) < (l.length : Int)) = false := by simp; omega
  have d4 : decide (Pm.total l < n) = false := by simpa using ht
  go_enter Try.func4, Try.ntmps4
  go_wp2_with (go_at_call 16; refine (price_ok _ _ l _ _ hl hm hbh.out hth.out).mono ?_; rintro e w' ⟨⟨p, rfl, hp⟩, rfl⟩)
  obtain ⟨p1, p2, p3, p4⟩ := hp
  have p3h : Hid (n ≤ Pm.bought l p) := p3
  have p4h : Hid (Pm.bought l (p + 1) < n) := p4
  have d5 : decide (p < 1) = false := by simp; omega
  clear p3 p4
  go_loop [7, 8] (fun b i => ∃ k : Nat, k ≤ l.length ∧ b = .bool false ∧ i = .int .i64 k) (fun _ i => l.length - (intOf i).toNat)
  case atStart => exact ⟨0, Nat.zero_le _, rfl, rfl⟩
  case round =>
    obtain ⟨k, hk, rfl, rfl⟩ := hrel
    by_cases hlt : k < l.length
    · have hlt' : (k : Int) < (l.length : Int) := by omega
      obtain ⟨b, off, ha, hc⟩ := hl.at hlt
      subst ha
      have hx := Pm.fit_at hf hlt
      generalize l.getD k 0 = x at *
      have e1 : decide (x < 0) = false := by simp; omega
      have e2 : decide (1000000000 < x) = false := by simp; omega
      go_wp2
      go_round
      case rel => exact ⟨k + 1, by omega, rfl, by go_num⟩
      case measure => simp [intOf]; omega
    · have hlt' : ¬ (k : Int) < (l.length : Int) := by omega
      go_wp2
      go_loop [9, 10] (fun s i => ∃ k : Nat, k ≤ l.length ∧ i = .int .i64 k ∧ s = .int .i64 (Pm.total (l.take k))) (fun _ i => l.length - (intOf i).toNat)
      case atStart => exact ⟨0, Nat.zero_le _, rfl, rfl⟩
      case round =>
        obtain ⟨k2, hk2, rfl, rfl⟩ := hrel
        by_cases hlt2 : k2 < l.length
        · obtain ⟨b, off, ha, hc⟩ := hl.at hlt2
          subst ha
          have hx := Pm.fit_at hf hlt2
          have hb2 := Pm.total_bd (hf.take k2)
          have hlen : (l.take k2).length ≤ k2 := List.length_take_le _ _
          have HS : Hid (Pm.total (l.take (k2 + 1)) = Pm.total (l.take k2) + l.getD k2 0) := total_step l k2 hlt2
          generalize l.getD k2 0 = x at *
          go_wp2
          go_round
          case rel => exact ⟨k2 + 1, by omega, by go_num, by rw [HS.out]⟩
          case measure => simp [intOf]; omega
        · rw [List.take_of_length_le (by omega)]
          go_wp2
          go_loop [11, 12, 13] (fun s t i => ∃ k : Nat, k ≤ l.length ∧ i = .int .i64 k ∧ s = .int .i64 (Pm.bought (l.take k) p) ∧ t = .int .i64 (Pm.bought (l.take k) (p + 1))) (fun _ _ i => l.length - (intOf i).toNat)
          case atStart => exact ⟨0, Nat.zero_le _, rfl, rfl, rfl⟩
          case round =>
            obtain ⟨k3, hk3, rfl, rfl, rfl⟩ := hrel
            by_cases hlt3 : k3 < l.length
            · obtain ⟨b, off, ha, hc⟩ := hl.at hlt3
              subst ha
              have hx := Pm.fit_at hf hlt3
              have hb3 := Pm.bought_bd (hf.take k3) p1
              have hb4 := Pm.bought_bd (hf.take k3) (p := p + 1) (by omega)
              have hlen : (l.take k3).length ≤ k3 := List.length_take_le _ _
              have hd0 : 0 ≤ l.getD k3 0 / p := Int.ediv_nonneg hx.1 (by omega)
              have hd1 : l.getD k3 0 / p ≤ l.getD k3 0 := Int.ediv_le_self _ hx.1
              have he0 : 0 ≤ l.getD k3 0 / (p + 1) := Int.ediv_nonneg hx.1 (by omega)
              have he1 : l.getD k3 0 / (p + 1) ≤ l.getD k3 0 := Int.ediv_le_self _ hx.1
              have HS : Hid (Pm.bought (l.take (k3 + 1)) p = Pm.bought (l.take k3) p + l.getD k3 0 / p) := bought_step l p k3 hlt3
              have HT : Hid (Pm.bought (l.take (k3 + 1)) (p + 1) = Pm.bought (l.take k3) (p + 1) + l.getD k3 0 / (p + 1)) := bought_step l (p + 1) k3 hlt3
              generalize l.getD k3 0 = x at *
              go_wp2
              go_round
              case rel => exact ⟨k3 + 1, by omega, by go_num, by rw [HS.out], by rw [HT.out]⟩
              case measure => simp [intOf]; omega
            · rw [List.take_of_length_le (by omega)]
              have g1 : decide (n ≤ Pm.bought l p) = true := by simpa using p3h.out
              have g2 : decide (Pm.bought l (p + 1) < n) = true := by simpa using p4h.out
              go_wp2
              go_ret
              exact ⟨rfl, rfl⟩

theorem priced_walk (a : Option Addr) (cap : Nat) (l : List Int) (n : Int) (w : World) (hl : Ints w a l) (hm : l.length ≤ maxLen) :
    Calls Try.prog 4 #[.slice a l.length cap, .int .i64 n] w fun e w' => e = .returned (.bool true) ∧ w' = w := by
  by_cases h1 : n < 1 ∨ 10 < n ∨ 16 < l.length
  · exact pricedA a cap l n w hl hm h1
  · by_cases hf : Pm.Fit l
    · have hb : ¬ Pm.bad l n := by
        rintro (h | h | h | h)
        · omega
        · omega
        · omega
        · exact h hf
      by_cases ht : n ≤ Pm.total l
      · exact pricedD a cap l n w hl hm hb ht
      · exact pricedC a cap l n w hl hm hb (by omega)
    · exact pricedB a cap l n w hl hm (by omega) (by omega) (by omega) hf
end Go.Proofs.Ytiokecadnmcpeaa
