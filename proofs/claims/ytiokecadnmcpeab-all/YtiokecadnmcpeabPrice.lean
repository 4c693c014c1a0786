import Derived.Test.YtiokecadnmcpeabRows
import Derived.Test.YtiokecadnmcpeabMath
import Derived.WalkKit
import Derived.ProofKit
import Derived.OpenShut
import Derived.Below
import Derived.Deep.QuietTactic
import Derived.BigQuiet
namespace Go.Proofs.Ytiokecadnmcpeab
open Go.ChangeShapes Go.WideShapes Go.ChangeAt Go.RowKit

/-- A slice of ints as the walks are told of it: the list of its elements. -/
def Ints (w : World) (a : Option Addr) (l : List Int) : Prop :=
  l = [] ∨ ∃ b off, a = some ⟨b, off, none⟩ ∧ ∀ i, i < l.length → w.cell? ⟨b, off + i, none⟩ = some (.int .i64 (l.getD i 0))

theorem Ints.at {w : World} {a : Option Addr} {l : List Int} (h : Ints w a l) {k : Nat} (hk : k < l.length) :
    ∃ b off, a = some ⟨b, off, none⟩ ∧ w.cell? ⟨b, off + k, none⟩ = some (.int .i64 (l.getD k 0)) := by
  rcases h with rfl | ⟨b, off, ha, hc⟩
  · simp at hk
  · exact ⟨b, off, ha, hc k hk⟩

theorem below_dn {B : Nat} {a w : World} (h : Below B a w) (n : Nat) : Below B a (w.drewN n) := h.trans ⟨rfl, rfl, rfl, Nat.le_refl _, fun _ _ => rfl⟩
theorem ret_int {k : IntKind} {a b : Int} (h : a = b) : Ending.returned (.int k a) = .returned (.int k b) := by rw [h]
theorem ret_bool {a b : Bool} (h : a = b) : Ending.returned (.bool a) = .returned (.bool b) := by rw [h]

set_option maxHeartbeats 400000 in
theorem within_yes (v lo hi : Int) (w : World) (h1 : lo ≤ v) (h2 : v ≤ hi) :
    Calls Try.prog 24 #[.int .i64 v, .int .i64 lo, .int .i64 hi] w fun e w' => e = .returned (.bool true) ∧ w' = w := by
  go_enter Try.func24, Try.ntmps24
  go_wp2
  go_ret
  exact ⟨rfl, rfl⟩

set_option maxHeartbeats 400000 in
theorem within_no (v lo hi : Int) (w : World) (h : ¬ (lo ≤ v ∧ v ≤ hi)) :
    Calls Try.prog 24 #[.int .i64 v, .int .i64 lo, .int .i64 hi] w fun e w' => e = .returned (.bool false) ∧ w' = w := by
  by_cases h1 : lo ≤ v
  · have h2 : ¬ v ≤ hi := fun h2 => h ⟨h1, h2⟩
    clear h
    go_enter Try.func24, Try.ntmps24
    go_wp2
    go_ret
    exact ⟨rfl, rfl⟩
  · clear h
    go_enter Try.func24, Try.ntmps24
    go_wp2
    go_ret
    exact ⟨rfl, rfl⟩

theorem bought_step (l : List Int) (p : Int) (k : Nat) (hk : k < l.length) : Pm.bought (l.take (k + 1)) p = Pm.bought (l.take k) p + l.getD k 0 / p := by
  rw [Pm.take_snoc l k hk, Pm.bought_snoc]

set_option maxHeartbeats 400000 in
theorem sells_any (a : Option Addr) (cap : Nat) (l : List Int) (p n : Int) (w : World) (hl : Ints w a l) (hf : Pm.Fit l) (h16 : l.length ≤ 16) (hp : 1 ≤ p) :
    Calls Try.prog 69 #[.slice a l.length cap, .int .i64 p, .int .i64 n] w fun e w' => e = .returned (.bool (decide (n ≤ Pm.bought l p))) ∧ w' = w := by
  have hp1 : decide (p < 1) = false := by simp; omega
  go_enter Try.func69, Try.ntmps69
  go_wp2
  go_loop [7, 14] (fun s i => ∃ k : Nat, k ≤ l.length ∧ i = .int .i64 k ∧ s = .int .i64 (Pm.bought (l.take k) p)) (fun _ i => l.length - (intOf i).toNat)
  case atStart => exact ⟨0, Nat.zero_le _, rfl, rfl⟩
  case round =>
    obtain ⟨k, hk, rfl, rfl⟩ := hrel
    by_cases hlt : k < l.length
    · obtain ⟨b, off, ha, hc⟩ := hl.at hlt
      subst ha
      have hb := Pm.bought_bd (hf.take k) hp
      have hx := Pm.fit_at hf hlt
      have hd0 : 0 ≤ l.getD k 0 / p := Int.ediv_nonneg hx.1 (by omega)
      have hd1 : l.getD k 0 / p ≤ l.getD k 0 := Int.ediv_le_self _ hx.1
      have hlen : (l.take k).length ≤ k := List.length_take_le _ _
      have HS : Hid (Pm.bought (l.take (k + 1)) p = Pm.bought (l.take k) p + l.getD k 0 / p) := bought_step l p k hlt
      generalize l.getD k 0 = x at *
      go_wp2
      go_round
      case rel => exact ⟨k + 1, by omega, by go_num, by rw [HS.out]⟩
      case measure => simp [intOf]; omega
    · go_wp2
      go_ret
      exact ⟨ret_bool (by rw [List.take_of_length_le (by omega)]), rfl⟩

set_option maxHeartbeats 400000 in
theorem may_yes (a : Option Addr) (cap : Nat) (l : List Int) (n : Int) (w : World) (hl : Ints w a l) (hf : Pm.Fit l) (h16 : l.length ≤ 16) (hn : 1 ≤ n) (hn2 : n ≤ 10) :
    Calls Try.prog 68 #[.slice a l.length cap, .int .i64 n] w fun e w' => e = .returned (.bool true) ∧ w' = w := by
  have h16' : decide ((16 : Int) < (l.length : Int)) = false := by simp; omega
  go_enter Try.func68, Try.ntmps68
  go_wp2_with (go_at_call 24; refine (within_yes _ _ _ _ hn hn2).mono ?_; rintro e w' ⟨rfl, rfl⟩)
  go_loop [17] (fun i => ∃ k : Nat, k ≤ l.length ∧ i = .int .i64 k) (fun i => l.length - (intOf i).toNat)
  case atStart => exact ⟨0, Nat.zero_le _, rfl⟩
  case round =>
    obtain ⟨k, hk, rfl⟩ := hrel
    by_cases hlt : k < l.length
    · obtain ⟨b, off, ha, hc⟩ := hl.at hlt
      subst ha
      have hx := Pm.fit_at hf hlt
      generalize l.getD k 0 = x at *
      go_wp2_with (go_at_call 24; refine (within_yes _ _ _ _ hx.1 hx.2).mono ?_; rintro e w' ⟨rfl, rfl⟩)
      go_round
      case rel => exact ⟨k + 1, by omega, by go_num⟩
      case measure => simp [intOf]; omega
    · go_wp2
      go_ret
      exact ⟨rfl, rfl⟩

set_option maxHeartbeats 400000 in
theorem may_no (a : Option Addr) (cap : Nat) (l : List Int) (n : Int) (w : World) (hl : Ints w a l) (hm : l.length ≤ maxLen) (hb : Pm.bad l n) :
    Calls Try.prog 68 #[.slice a l.length cap, .int .i64 n] w fun e w' => e = .returned (.bool false) ∧ w' = w := by
  unfold maxLen at hm
  by_cases hn : 1 ≤ n ∧ n ≤ 10
  · by_cases h16 : l.length ≤ 16
    · have hnf : ¬ Pm.Fit l := by
        rcases hb with h | h | h | h
        · omega
        · omega
        · omega
        · exact h
      have h16' : decide ((16 : Int) < (l.length : Int)) = false := by simp; omega
      have hns : Hid (¬ Pm.Fit l) := hnf
      clear hnf hb
      obtain ⟨hn1, hn2⟩ := hn
      go_enter Try.func68, Try.ntmps68
      go_wp2_with (go_at_call 24; refine (within_yes _ _ _ _ hn1 hn2).mono ?_; rintro e w' ⟨rfl, rfl⟩)
      go_loop [17] (fun i => ∃ k : Nat, k ≤ l.length ∧ i = .int .i64 k ∧ Hid (∀ j, j < k → 0 ≤ l.getD j 0 ∧ l.getD j 0 ≤ 1000000000)) (fun i => l.length - (intOf i).toNat)
      case atStart => exact ⟨0, Nat.zero_le _, rfl, (fun j hj => by omega)⟩
      case round =>
        obtain ⟨k, hk, rfl, hall⟩ := hrel
        by_cases hlt : k < l.length
        · obtain ⟨b, off, ha, hc⟩ := hl.at hlt
          subst ha
          by_cases hx : 0 ≤ l.getD k 0 ∧ l.getD k 0 ≤ 1000000000
          · have hxs : Hid (0 ≤ l.getD k 0 ∧ l.getD k 0 ≤ 1000000000) := hx
            generalize hg : l.getD k 0 = x at hc hx
            have hg' : Hid (l.getD k 0 = x) := hg
            clear hg
            go_wp2_with (go_at_call 24; refine (within_yes _ _ _ _ hx.1 hx.2).mono ?_; rintro e w' ⟨rfl, rfl⟩)
            go_round
            case rel =>
              refine ⟨k + 1, by omega, by go_num, fun j hj => ?_⟩
              by_cases e : j = k
              · rw [e]; exact hxs.out
              · exact hall.out j (by omega)
            case measure => simp [intOf]; omega
          · generalize l.getD k 0 = x at *
            have hxh : Hid (¬ (0 ≤ x ∧ x ≤ 1000000000)) := hx
            clear hx
            go_wp2_with (go_at_call 24; refine (within_no _ _ _ _ hxh.out).mono ?_; rintro e w' ⟨rfl, rfl⟩)
            go_ret
            exact ⟨rfl, rfl⟩
        · exfalso
          exact hns.out (Pm.fit_of_at fun j hj => hall.out j (by omega))
    · have h16' : decide ((16 : Int) < (l.length : Int)) = true := by simp; omega
      obtain ⟨hn1, hn2⟩ := hn
      clear hb
      go_enter Try.func68, Try.ntmps68
      go_wp2_with (go_at_call 24; refine (within_yes _ _ _ _ hn1 hn2).mono ?_; rintro e w' ⟨rfl, rfl⟩)
      go_ret
      exact ⟨rfl, rfl⟩
  · have hn' : Hid (¬ (1 ≤ n ∧ n ≤ 10)) := hn
    clear hn hb
    go_enter Try.func68, Try.ntmps68
    go_wp2_with (go_at_call 24; refine (within_no _ _ _ _ hn'.out).mono ?_; rintro e w' ⟨rfl, rfl⟩)
    go_ret
    exact ⟨rfl, rfl⟩

set_option maxHeartbeats 400000 in
theorem greatest_any (a : Option Addr) (cap : Nat) (l : List Int) (n : Int) (w : World) (hl : Ints w a l) (hf : Pm.Fit l) (h16 : l.length ≤ 16) (hn : 1 ≤ n) (ht : n ≤ Pm.total l) :
    Calls Try.prog 70 #[.slice a l.length cap, .int .i64 n] w fun e w' => (∃ p, e = .returned (.int .i64 p) ∧ Pm.IsPrice l n p) ∧ w' = w := by
  have hlo : Hid (n ≤ Pm.bought l 1) := by unfold Hid; rw [Pm.bought_one]; exact ht
  have hhi : Hid (Pm.bought l 1000000001 < n) := by unfold Hid; rw [Pm.bought_top hf (by omega)]; omega
  clear ht
  go_enter Try.func70, Try.ntmps70
  go_wp2
  go_loop [5, 6] (fun g b => ∃ x y : Int, g = .int .i64 x ∧ b = .int .i64 y ∧ 1 ≤ x ∧ x < y ∧ y ≤ 1000000001 ∧ Hid (n ≤ Pm.bought l x) ∧ Hid (Pm.bought l y < n)) (fun g b => (intOf b - intOf g).toNat)
  case atStart => exact ⟨1, 1000000001, rfl, rfl, by omega, by omega, by omega, hlo, hhi⟩
  case round =>
    obtain ⟨x, y, rfl, rfl, hx, hxy, hy, hgo, hba⟩ := hrel
    by_cases hlt : 1 < y - x
    · by_cases hm : n ≤ Pm.bought l (x + (y - x) / 2)
      · have hm' : Hid (n ≤ Pm.bought l (x + (y - x) / 2)) := hm
        have hmd : decide (n ≤ Pm.bought l (x + (y - x) / 2)) = true := by simpa using hm
        clear hm
        go_wp2_with (go_at_call 69; refine (sells_any _ _ l _ _ _ hl hf h16 (by omega)).mono ?_; rintro e w' ⟨rfl, rfl⟩)
        go_round
        case rel => exact ⟨_, _, rfl, rfl, by omega, by omega, by omega, hm', hba⟩
        case measure => simp [intOf]; omega
      · have hm' : Hid (Pm.bought l (x + (y - x) / 2) < n) := by unfold Hid; omega
        have hmd : decide (n ≤ Pm.bought l (x + (y - x) / 2)) = false := by simpa using hm
        clear hm
        go_wp2_with (go_at_call 69; refine (sells_any _ _ l _ _ _ hl hf h16 (by omega)).mono ?_; rintro e w' ⟨rfl, rfl⟩)
        go_round
        case rel => exact ⟨_, _, rfl, rfl, by omega, by omega, by omega, hgo, hm'⟩
        case measure => simp [intOf]; omega
    · have hey : y = x + 1 := by omega
      subst hey
      go_wp2
      go_ret
      exact ⟨⟨x, rfl, hx, by omega, hgo.out, hba.out⟩, rfl⟩

/-- What Price answers: the price and the error. -/
def Priced (l : List Int) (n p e : Int) : Prop :=
  (Pm.bad l n ∧ p = 0 ∧ e = 8) ∨ (¬ Pm.bad l n ∧ Pm.total l < n ∧ p = 0 ∧ e = 9) ∨ (¬ Pm.bad l n ∧ n ≤ Pm.total l ∧ Pm.IsPrice l n p ∧ e = 0)

theorem not_bad {l : List Int} {n : Int} (h : ¬ Pm.bad l n) : 1 ≤ n ∧ n ≤ 10 ∧ l.length ≤ 16 ∧ Pm.Fit l := by
  unfold Pm.bad at h
  simp only [not_or, Classical.not_not] at h
  obtain ⟨h1, h2, h3, h4⟩ := h
  exact ⟨by omega, by omega, by omega, h4⟩

theorem priced_unique {l : List Int} {n p q e f : Int} (a : Priced l n p e) (b : Priced l n q f) : p = q ∧ e = f := by
  rcases a with ⟨h1, rfl, rfl⟩ | ⟨h1, h2, rfl, rfl⟩ | ⟨h1, h2, h3, rfl⟩ <;> rcases b with ⟨g1, rfl, rfl⟩ | ⟨g1, g2, rfl, rfl⟩ | ⟨g1, g2, g3, rfl⟩
  · exact ⟨rfl, rfl⟩
  · exact absurd h1 g1
  · exact absurd h1 g1
  · exact absurd g1 h1
  · exact ⟨rfl, rfl⟩
  · omega
  · exact absurd g1 h1
  · omega
  · exact ⟨Pm.price_unique (not_bad h1).2.2.2 h3 g3, rfl⟩

set_option maxHeartbeats 400000 in
theorem price_any (a : Option Addr) (cap : Nat) (l : List Int) (n : Int) (w : World) (hl : Ints w a l) (hm : l.length ≤ maxLen) :
    Calls Try.prog 55 #[.slice a l.length cap, .int .i64 n] w fun e w' => (∃ p r, e = .returned (.tuple #[.int .i64 p, .int .i64 r]) ∧ Priced l n p r) ∧ w' = w := by
  by_cases hb : Pm.bad l n
  · have hbh : Hid (Pm.bad l n) := hb
    clear hb
    go_enter Try.func55, Try.ntmps55
    go_wp2_with (go_at_call 68; refine (may_no _ _ l _ _ hl hm hbh.out).mono ?_; rintro e w' ⟨rfl, rfl⟩)
    go_ret2
    exact ⟨⟨0, 8, rfl, .inl ⟨hbh.out, rfl, rfl⟩⟩, rfl⟩
  · obtain ⟨hn1, hn2, h16, hf⟩ := not_bad hb
    have hbh : Hid (¬ Pm.bad l n) := hb
    clear hb
    by_cases ht : n ≤ Pm.total l
    · have hth : Hid (n ≤ Pm.total l) := ht
      have htd : decide (n ≤ Pm.bought l 1) = true := by rw [Pm.bought_one]; simpa using ht
      clear ht
      go_enter Try.func55, Try.ntmps55
      go_wp2_with (first | (go_at_call 68; refine (may_yes _ _ l _ _ hl hf h16 hn1 hn2).mono ?_; rintro e w' ⟨rfl, rfl⟩) | (go_at_call 69; refine (sells_any _ _ l _ _ _ hl hf h16 (by omega)).mono ?_; rintro e w' ⟨rfl, rfl⟩) | (go_at_call 70; refine (greatest_any _ _ l _ _ hl hf h16 hn1 hth.out).mono ?_; rintro e w' ⟨⟨p, rfl, hp⟩, rfl⟩))
      go_ret2
      exact ⟨⟨_, 0, rfl, .inr (.inr ⟨hbh.out, hth.out, hp, rfl⟩)⟩, rfl⟩
    · have hth : Hid (Pm.total l < n) := by unfold Hid; omega
      have htd : decide (n ≤ Pm.bought l 1) = false := by rw [Pm.bought_one]; simpa using ht
      clear ht
      go_enter Try.func55, Try.ntmps55
      go_wp2_with (first | (go_at_call 68; refine (may_yes _ _ l _ _ hl hf h16 hn1 hn2).mono ?_; rintro e w' ⟨rfl, rfl⟩) | (go_at_call 69; refine (sells_any _ _ l _ _ _ hl hf h16 (by omega)).mono ?_; rintro e w' ⟨rfl, rfl⟩))
      go_ret2
      exact ⟨⟨0, 9, rfl, .inr (.inl ⟨hbh.out, hth.out, rfl, rfl⟩)⟩, rfl⟩
end Go.Proofs.Ytiokecadnmcpeab
