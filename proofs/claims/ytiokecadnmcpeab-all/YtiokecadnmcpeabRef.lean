import Derived.Test.YtiokecadnmcpeabPrice
namespace Go.Proofs.Ytiokecadnmcpeab
open Go.ChangeShapes Go.WideShapes Go.ChangeAt Go.RowKit

set_option maxHeartbeats 400000 in
theorem buys_any (a : Option Addr) (cap : Nat) (l : List Int) (p : Int) (w : World) (hl : Ints w a l) (hf : Pm.Fit l) (h16 : l.length ≤ 16) (hp : 1 ≤ p) :
    Calls Try.prog 104 #[.slice a l.length cap, .int .i64 p] w fun e w' => e = .returned (.int .i64 (Pm.bought l p)) ∧ w' = w := by
  go_enter Try.func104, Try.ntmps104
  go_wp2
  go_loop [5, 6] (fun s i => ∃ k : Nat, k ≤ l.length ∧ i = .int .i64 k ∧ s = .int .i64 (Pm.bought (l.take k) p)) (fun _ i => l.length - (intOf i).toNat)
  case atStart => exact ⟨0, Nat.zero_le _, rfl, rfl⟩
  case round =>
    obtain ⟨k, hk, rfl, rfl⟩ := hrel
    by_cases hlt : k < l.length
    · obtain ⟨b, off, ha, hc⟩ := hl.at hlt
      subst ha
      have hb := Pm.bought_bd (hf.take k) hp
      have hx := Pm.fit_at hf hlt
      have hd0 : 0 ≤ l.getD k 0 / p := Int.ediv_nonneg hx.1 (by omega)
      have hd1 : l.getD k 0 / p ≤ l.getD k 0 := Int.ediv_le_self _ hx.1
      have hlen : (l.take k).length ≤ k := List.length_take_le _ _
      have HS : Hid (Pm.bought (l.take (k + 1)) p = Pm.bought (l.take k) p + l.getD k 0 / p) := bought_step l p k hlt
      generalize l.getD k 0 = x at *
      go_wp2
      go_round
      case rel => exact ⟨k + 1, by omega, by go_num, by rw [HS.out]⟩
      case measure => simp [intOf]; omega
    · go_wp2
      go_ret
      exact ⟨ret_int (by rw [List.take_of_length_le (by omega)]), rfl⟩

/-- What the search has seen so far: the stakes below i, with every number of seats, and the stake i with the numbers below k. -/
def Seen (l : List Int) (n top : Int) (i : Nat) (k : Int) : Prop :=
  (top = 0 ∨ 1 ≤ top ∧ n ≤ Pm.bought l top) ∧
  (∀ j, j < i → ∀ m, 1 ≤ m → m ≤ n → l.getD j 0 / m ≤ top ∨ Pm.bought l (l.getD j 0 / m) < n) ∧
  (∀ m, 1 ≤ m → m < k → l.getD i 0 / m ≤ top ∨ Pm.bought l (l.getD i 0 / m) < n)

theorem Seen.start (l : List Int) (n : Int) : Seen l n 0 0 1 := ⟨.inl rfl, fun j hj => by omega, fun m h1 h2 => by omega⟩
theorem Seen.nonneg {l : List Int} {n top : Int} {i : Nat} {k : Int} (h : Seen l n top i k) : 0 ≤ top := by
  rcases h.1 with h | h <;> omega
theorem Seen.raise {l : List Int} {n top : Int} {i : Nat} {k : Int} (h : Seen l n top i k) (h1 : top < l.getD i 0 / k) (h2 : n ≤ Pm.bought l (l.getD i 0 / k)) : Seen l n (l.getD i 0 / k) i (k + 1) := by
  have h0 := h.nonneg
  refine ⟨.inr ⟨by omega, h2⟩, fun j hj m m1 m2 => ?_, fun m m1 m2 => ?_⟩
  · rcases h.2.1 j hj m m1 m2 with g | g
    · left; omega
    · right; exact g
  · by_cases e : m = k
    · subst e; left; exact Int.le_refl _
    · rcases h.2.2 m m1 (by omega) with g | g
      · left; omega
      · right; exact g
theorem Seen.pass {l : List Int} {n top : Int} {i : Nat} {k : Int} (h : Seen l n top i k) (h1 : l.getD i 0 / k ≤ top ∨ Pm.bought l (l.getD i 0 / k) < n) : Seen l n top i (k + 1) := by
  refine ⟨h.1, h.2.1, fun m m1 m2 => ?_⟩
  by_cases e : m = k
  · subst e; exact h1
  · exact h.2.2 m m1 (by omega)
theorem Seen.next {l : List Int} {n top : Int} {i : Nat} {k : Int} (h : Seen l n top i k) (h1 : n < k) : Seen l n top (i + 1) 1 := by
  refine ⟨h.1, fun j hj m m1 m2 => ?_, fun m m1 m2 => by omega⟩
  by_cases e : j = i
  · subst e; exact h.2.2 m m1 (by omega)
  · exact h.2.1 j (by omega) m m1 m2
theorem Seen.le {l : List Int} (hf : Pm.Fit l) {n top : Int} (hn : 1 ≤ n) {i : Nat} {k : Int} (h : Seen l n top i k) : top ≤ 1000000000 := by
  rcases h.1 with h | ⟨h1, h2⟩
  · omega
  · by_cases c : top ≤ 1000000000
    · exact c
    · rw [Pm.bought_top hf (by omega)] at h2; omega
theorem Seen.is {l : List Int} (hf : Pm.Fit l) {n top : Int} (hn : 1 ≤ n) (ht : n ≤ Pm.total l) {k : Int} (h : Seen l n top l.length k) : Pm.IsPrice l n top := by
  refine Pm.best_is hf hn ht h.1 fun x hx m m1 m2 => ?_
  obtain ⟨j, hj, e⟩ := List.getElem_of_mem hx
  have e2 : l.getD j 0 = x := by simp [List.getD, hj, e]
  have := h.2.1 j hj m m1 m2
  rw [e2] at this
  exact this

set_option maxHeartbeats 400000 in
theorem best_any (a : Option Addr) (cap : Nat) (l : List Int) (n : Int) (w : World) (hl : Ints w a l) (hf : Pm.Fit l) (h16 : l.length ≤ 16) (hn : 1 ≤ n) (hn2 : n ≤ 10) (ht : n ≤ Pm.total l) :
    Calls Try.prog 89 #[.slice a l.length cap, .int .i64 n] w fun e w' => (∃ p, e = .returned (.int .i64 p) ∧ Pm.IsPrice l n p) ∧ w' = w := by
  have hth : Hid (n ≤ Pm.total l) := ht
  clear ht
  go_enter Try.func89, Try.ntmps89
  go_wp2
  go_loop [5, 6] (fun t i => ∃ (k : Nat) (top : Int), k ≤ l.length ∧ i = .int .i64 k ∧ t = .int .i64 top ∧ Hid (Seen l n top k 1)) (fun _ i => l.length - (intOf i).toNat)
  case atStart => exact ⟨0, 0, Nat.zero_le _, rfl, rfl, Seen.start l n⟩
  case round =>
    obtain ⟨k, top, hk, rfl, rfl, hS⟩ := hrel
    by_cases hlt : k < l.length
    · obtain ⟨b, off, ha, hc⟩ := hl.at hlt
      subst ha
      have hx := Pm.fit_at hf hlt
      go_wp2
      go_loop [5, 7] (fun t i => ∃ (m : Int) (top : Int), 1 ≤ m ∧ m ≤ n + 1 ∧ i = .int .i64 m ∧ t = .int .i64 top ∧ Hid (Seen l n top k m)) (fun _ i => (n + 1 - intOf i).toNat)
      case atStart => exact ⟨1, top, by omega, by omega, rfl, rfl, hS⟩
      case round =>
        clear hS
        obtain ⟨m, t2, hm1, hm2, rfl, rfl, hS⟩ := hrel
        have hd0 : 0 ≤ l.getD k 0 / m := Int.ediv_nonneg hx.1 (by omega)
        have ht0 := Seen.nonneg hS.out
        by_cases hmn : m ≤ n
        · by_cases hgt : t2 < l.getD k 0 / m
          · by_cases hbu : n ≤ Pm.bought l (l.getD k 0 / m)
            · have hS2 : Hid (Seen l n (l.getD k 0 / m) k (m + 1)) := hS.out.raise hgt hbu
              have dgt : decide (t2 < l.getD k 0 / m) = true := by simpa using hgt
              have dbu : decide (n ≤ Pm.bought l (l.getD k 0 / m)) = true := by simpa using hbu
              clear hbu
              generalize l.getD k 0 = x at *
              go_wp2_with (go_at_call 104; refine (buys_any _ _ l _ _ hl hf h16 (by omega)).mono ?_; rintro e w' ⟨rfl, rfl⟩)
              go_round
              case rel => exact ⟨m + 1, _, by omega, by omega, by go_num, rfl, hS2⟩
              case measure => simp [intOf]; omega
            · have hS2 : Hid (Seen l n t2 k (m + 1)) := hS.out.pass (.inr (by omega))
              have dgt : decide (t2 < l.getD k 0 / m) = true := by simpa using hgt
              have dbu : decide (n ≤ Pm.bought l (l.getD k 0 / m)) = false := by simpa using hbu
              clear hbu
              generalize l.getD k 0 = x at *
              go_wp2_with (go_at_call 104; refine (buys_any _ _ l _ _ hl hf h16 (by omega)).mono ?_; rintro e w' ⟨rfl, rfl⟩)
              go_round
              case rel => exact ⟨m + 1, _, by omega, by omega, by go_num, rfl, hS2⟩
              case measure => simp [intOf]; omega
          · have hS2 : Hid (Seen l n t2 k (m + 1)) := hS.out.pass (.inl (by omega))
            have dgt : decide (t2 < l.getD k 0 / m) = false := by simpa using hgt
            generalize l.getD k 0 = x at *
            go_wp2
            go_round
            case rel => exact ⟨m + 1, _, by omega, by omega, by go_num, rfl, hS2⟩
            case measure => simp [intOf]; omega
        · have hS2 : Hid (Seen l n t2 (k + 1) 1) := hS.out.next (by omega)
          go_wp2
          go_round
          case rel => exact ⟨k + 1, _, by omega, by go_num, rfl, hS2⟩
          case measure => simp [intOf]; omega
    · have hkl : k = l.length := by omega
      subst hkl
      go_wp2
      go_ret
      exact ⟨⟨_, rfl, hS.out.is hf hn hth.out⟩, rfl⟩

set_option maxHeartbeats 1000000 in
theorem rprice_any (a : Option Addr) (cap : Nat) (l : List Int) (n : Int) (w : World) (hl : Ints w a l) (hm : l.length ≤ maxLen) :
    Calls Try.prog 72 #[.slice a l.length cap, .int .i64 n] w fun e w' => (∃ p r, e = .returned (.tuple #[.int .i64 p, .int .i64 r]) ∧ Priced l n p r) ∧ w' = w := by
  have hm' := hm
  unfold maxLen at hm'
  by_cases h1 : n < 1
  · have hb : Hid (Pm.bad l n) := .inl h1
    have d1 : decide (n < 1) = true := by simpa using h1
    go_enter Try.func72, Try.ntmps72
    go_wp2
    go_ret2
    exact ⟨⟨0, 8, rfl, .inl ⟨hb.out, rfl, rfl⟩⟩, rfl⟩
  · have d1 : decide (n < 1) = false := by simpa using h1
    by_cases h2 : 10 < n
    · have hb : Hid (Pm.bad l n) := .inr (.inl h2)
      have d2 : decide (10 < n) = true := by simpa using h2
      go_enter Try.func72, Try.ntmps72
      go_wp2
      go_ret2
      exact ⟨⟨0, 8, rfl, .inl ⟨hb.out, rfl, rfl⟩⟩, rfl⟩
    · have d2 : decide (10 < n) = false := by simpa using h2
      by_cases h3 : 16 < l.length
      · have hb : Hid (Pm.bad l n) := .inr (.inr (.inl h3))
        have d3 : decide ((16 : Int) < (l.length : Int)) = true := by simp; omega
        go_enter Try.func72, Try.ntmps72
        go_wp2
        go_ret2
        exact ⟨⟨0, 8, rfl, .inl ⟨hb.out, rfl, rfl⟩⟩, rfl⟩
      · have d3 : decide ((16 : Int) < (l.length : Int)) = false := by simp; omega
        go_enter Try.func72, Try.ntmps72
        go_wp2
        go_loop [6, 7] (fun s i => ∃ k : Nat, k ≤ l.length ∧ i = .int .i64 k ∧ s = .int .i64 (Pm.total (l.take k)) ∧ Hid (∀ j, j < k → 0 ≤ l.getD j 0 ∧ l.getD j 0 ≤ 1000000000)) (fun _ i => l.length - (intOf i).toNat)
        case atStart => exact ⟨0, Nat.zero_le _, rfl, rfl, (fun j hj => by omega)⟩
        case round =>
          obtain ⟨k, hk, rfl, rfl, hall⟩ := hrel
          have hft : Pm.Fit (l.take k) := by
            refine Pm.fit_of_at fun j hj => ?_
            rw [List.length_take] at hj
            have e : (l.take k).getD j 0 = l.getD j 0 := by simp [List.getD, show j < k by omega]
            rw [e]; exact hall.out j (by omega)
          have htb := Pm.total_bd hft
          have hlen : (l.take k).length ≤ k := List.length_take_le _ _
          by_cases hlt : k < l.length
          · obtain ⟨b, off, ha, hc⟩ := hl.at hlt
            subst ha
            have HS : Hid (Pm.total (l.take (k + 1)) = Pm.total (l.take k) + l.getD k 0) := by unfold Hid; rw [Pm.take_snoc l k hlt, Pm.total_snoc]
            by_cases x1 : l.getD k 0 < 0
            · have hb : Hid (Pm.bad l n) := .inr (.inr (.inr (Pm.not_fit hlt (by omega))))
              have e1 : decide (l.getD k 0 < 0) = true := by simpa using x1
              clear HS
              generalize l.getD k 0 = x at *
              go_wp2
              go_ret2
              exact ⟨⟨0, 8, rfl, .inl ⟨hb.out, rfl, rfl⟩⟩, rfl⟩
            · by_cases x2 : 1000000000 < l.getD k 0
              · have hb : Hid (Pm.bad l n) := .inr (.inr (.inr (Pm.not_fit hlt (by omega))))
                have e1 : decide (l.getD k 0 < 0) = false := by simpa using x1
                have e2 : decide (1000000000 < l.getD k 0) = true := by simpa using x2
                clear HS
                generalize l.getD k 0 = x at *
                go_wp2
                go_ret2
                exact ⟨⟨0, 8, rfl, .inl ⟨hb.out, rfl, rfl⟩⟩, rfl⟩
              · have hxs : Hid (0 ≤ l.getD k 0 ∧ l.getD k 0 ≤ 1000000000) := ⟨by omega, by omega⟩
                have e1 : decide (l.getD k 0 < 0) = false := by simpa using x1
                have e2 : decide (1000000000 < l.getD k 0) = false := by simpa using x2
                have hn : Hid (∀ j, j < k + 1 → 0 ≤ l.getD j 0 ∧ l.getD j 0 ≤ 1000000000) := by
                  intro j hj
                  by_cases e : j = k
                  · rw [e]; exact hxs.out
                  · exact hall.out j (by omega)
                clear hall hxs hft
                generalize hg : l.getD k 0 = x at hc e1 e2 x1 x2 HS
                clear hg
                go_wp2
                go_round
                case rel => exact ⟨k + 1, by omega, by go_num, by rw [HS.out], hn⟩
                case measure => simp [intOf]; omega
          · have hf : Hid (Pm.Fit l) := Pm.fit_of_at fun j hj => hall.out j (by omega)
            have hb : Hid (¬ Pm.bad l n) := by
              rintro (h | h | h | h)
              · omega
              · omega
              · omega
              · exact h hf.out
            rw [List.take_of_length_le (by omega)] at *
            by_cases ht : n ≤ Pm.total l
            · have hth : Hid (n ≤ Pm.total l) := ht
              have d4 : decide (Pm.total l < n) = false := by simpa using ht
              clear hall hft htb hlen ht
              go_wp2_with (go_at_call 89; refine (best_any _ _ l _ _ hl hf.out (by omega) (by omega) (by omega) hth.out).mono ?_; rintro e w' ⟨⟨p, rfl, hp⟩, rfl⟩)
              go_ret2
              exact ⟨⟨_, 0, rfl, .inr (.inr ⟨hb.out, hth.out, hp, rfl⟩)⟩, rfl⟩
            · have hth : Hid (Pm.total l < n) := by unfold Hid; omega
              have d4 : decide (Pm.total l < n) = true := by simpa using ht
              clear hall hft htb hlen ht
              go_wp2
              go_ret2
              exact ⟨⟨0, 9, rfl, .inr (.inl ⟨hb.out, hth.out, rfl, rfl⟩)⟩, rfl⟩
end Go.Proofs.Ytiokecadnmcpeab
