import Derived.Test.YtiokecadnmcpeabPCalls
import Derived.Test.YtiokecadnmcpeabIntw
namespace Go.Proofs.Ytiokecadnmcpeab
set_option linter.unusedVariables false
set_option linter.unusedSimpArgs false
open Go.ChangeShapes Go.WideShapes Go.ChangeAt Go.RowKit

/-- The numbers of a config, within their bounds. -/
def NumFit (s d r c le ne : Int) : Prop := (1 ≤ s ∧ s ≤ 10) ∧ (2 ≤ d ∧ d ≤ 5) ∧ (0 ≤ r ∧ r ≤ 100) ∧ (0 ≤ c ∧ c ≤ 1000) ∧ (1 ≤ le ∧ le ≤ 20) ∧ (0 ≤ ne ∧ ne ≤ 1000)
def AmtFit (l : List Int) : Prop := ∀ k, k < l.length → 0 ≤ l.getD k 0 ∧ l.getD k 0 ≤ 10000000
def StartFit (l : List Int) : Prop := (1 ≤ l.length ∧ l.length ≤ 6) ∧ AmtFit l

set_option maxHeartbeats 1600000 in
theorem nf_yes (s d r c le ne : Int) (st : Value) (w : World) (h : NumFit s d r c le ne) (hs : st.oneCell' = true) :
    Calls Try.prog 36 #[.agg #[.int .i64 s, .int .i64 d, .int .i64 r, .int .i64 c, .int .i64 le, .int .i64 ne, st]] w fun e w' => e = .returned (.bool true) ∧ Below w.heap.size w w' := by
  obtain ⟨h0, h1, h2, h3, h4, h5⟩ := h
  go_enter Try.func36, Try.ntmps36
  go_wp2_with fail
  refine (within_yes _ _ _ _ h0.1 h0.2).mono ?_
  rintro e w1 ⟨rfl, rfl⟩
  go_wp2_with fail
  refine (within_yes _ _ _ _ h1.1 h1.2).mono ?_
  rintro e w1 ⟨rfl, rfl⟩
  go_wp2_with fail
  refine (within_yes _ _ _ _ h2.1 h2.2).mono ?_
  rintro e w1 ⟨rfl, rfl⟩
  go_wp2_with fail
  refine (within_yes _ _ _ _ h3.1 h3.2).mono ?_
  rintro e w1 ⟨rfl, rfl⟩
  go_wp2_with fail
  refine (within_yes _ _ _ _ h4.1 h4.2).mono ?_
  rintro e w1 ⟨rfl, rfl⟩
  go_wp2_with fail
  refine (within_yes _ _ _ _ h5.1 h5.2).mono ?_
  rintro e w1 ⟨rfl, rfl⟩
  go_wp2_with fail
  go_ret
  exact ⟨rfl, (Below.refl _ _).alloc (Nat.le_refl _) _⟩

set_option maxHeartbeats 1600000 in
theorem nf_no0 (s d r c le ne : Int) (st : Value) (w : World)  (hn : ¬ (1 ≤ s ∧ s ≤ 10)) :
    Calls Try.prog 36 #[.agg #[.int .i64 s, .int .i64 d, .int .i64 r, .int .i64 c, .int .i64 le, .int .i64 ne, st]] w fun e w' => e = .returned (.bool false) ∧ Below w.heap.size w w' := by
  have Hn : Hid (¬ (1 ≤ s ∧ s ≤ 10)) := hn
  clear hn
  go_enter Try.func36, Try.ntmps36
  go_wp2_with fail
  refine (within_no _ _ _ _ Hn.out).mono ?_
  rintro e w1 ⟨rfl, rfl⟩
  go_wp2_with fail
  go_ret
  exact ⟨rfl, (Below.refl _ _).alloc (Nat.le_refl _) _⟩

set_option maxHeartbeats 1600000 in
theorem nf_no1 (s d r c le ne : Int) (st : Value) (w : World) (h0 : 1 ≤ s ∧ s ≤ 10) (hn : ¬ (2 ≤ d ∧ d ≤ 5)) :
    Calls Try.prog 36 #[.agg #[.int .i64 s, .int .i64 d, .int .i64 r, .int .i64 c, .int .i64 le, .int .i64 ne, st]] w fun e w' => e = .returned (.bool false) ∧ Below w.heap.size w w' := by
  have Hn : Hid (¬ (2 ≤ d ∧ d ≤ 5)) := hn
  clear hn
  go_enter Try.func36, Try.ntmps36
  go_wp2_with fail
  refine (within_yes _ _ _ _ h0.1 h0.2).mono ?_
  rintro e w1 ⟨rfl, rfl⟩
  go_wp2_with fail
  refine (within_no _ _ _ _ Hn.out).mono ?_
  rintro e w1 ⟨rfl, rfl⟩
  go_wp2_with fail
  go_ret
  exact ⟨rfl, (Below.refl _ _).alloc (Nat.le_refl _) _⟩

set_option maxHeartbeats 1600000 in
theorem nf_no2 (s d r c le ne : Int) (st : Value) (w : World) (h0 : 1 ≤ s ∧ s ≤ 10) (h1 : 2 ≤ d ∧ d ≤ 5) (hn : ¬ (0 ≤ r ∧ r ≤ 100)) :
    Calls Try.prog 36 #[.agg #[.int .i64 s, .int .i64 d, .int .i64 r, .int .i64 c, .int .i64 le, .int .i64 ne, st]] w fun e w' => e = .returned (.bool false) ∧ Below w.heap.size w w' := by
  have Hn : Hid (¬ (0 ≤ r ∧ r ≤ 100)) := hn
  clear hn
  go_enter Try.func36, Try.ntmps36
  go_wp2_with fail
  refine (within_yes _ _ _ _ h0.1 h0.2).mono ?_
  rintro e w1 ⟨rfl, rfl⟩
  go_wp2_with fail
  refine (within_yes _ _ _ _ h1.1 h1.2).mono ?_
  rintro e w1 ⟨rfl, rfl⟩
  go_wp2_with fail
  refine (within_no _ _ _ _ Hn.out).mono ?_
  rintro e w1 ⟨rfl, rfl⟩
  go_wp2_with fail
  go_ret
  exact ⟨rfl, (Below.refl _ _).alloc (Nat.le_refl _) _⟩

set_option maxHeartbeats 1600000 in
theorem nf_no3 (s d r c le ne : Int) (st : Value) (w : World) (h0 : 1 ≤ s ∧ s ≤ 10) (h1 : 2 ≤ d ∧ d ≤ 5) (h2 : 0 ≤ r ∧ r ≤ 100) (hn : ¬ (0 ≤ c ∧ c ≤ 1000)) :
    Calls Try.prog 36 #[.agg #[.int .i64 s, .int .i64 d, .int .i64 r, .int .i64 c, .int .i64 le, .int .i64 ne, st]] w fun e w' => e = .returned (.bool false) ∧ Below w.heap.size w w' := by
  have Hn : Hid (¬ (0 ≤ c ∧ c ≤ 1000)) := hn
  clear hn
  go_enter Try.func36, Try.ntmps36
  go_wp2_with fail
  refine (within_yes _ _ _ _ h0.1 h0.2).mono ?_
  rintro e w1 ⟨rfl, rfl⟩
  go_wp2_with fail
  refine (within_yes _ _ _ _ h1.1 h1.2).mono ?_
  rintro e w1 ⟨rfl, rfl⟩
  go_wp2_with fail
  refine (within_yes _ _ _ _ h2.1 h2.2).mono ?_
  rintro e w1 ⟨rfl, rfl⟩
  go_wp2_with fail
  refine (within_no _ _ _ _ Hn.out).mono ?_
  rintro e w1 ⟨rfl, rfl⟩
  go_wp2_with fail
  go_ret
  exact ⟨rfl, (Below.refl _ _).alloc (Nat.le_refl _) _⟩

set_option maxHeartbeats 1600000 in
theorem nf_no4 (s d r c le ne : Int) (st : Value) (w : World) (h0 : 1 ≤ s ∧ s ≤ 10) (h1 : 2 ≤ d ∧ d ≤ 5) (h2 : 0 ≤ r ∧ r ≤ 100) (h3 : 0 ≤ c ∧ c ≤ 1000) (hn : ¬ (1 ≤ le ∧ le ≤ 20)) :
    Calls Try.prog 36 #[.agg #[.int .i64 s, .int .i64 d, .int .i64 r, .int .i64 c, .int .i64 le, .int .i64 ne, st]] w fun e w' => e = .returned (.bool false) ∧ Below w.heap.size w w' := by
  have Hn : Hid (¬ (1 ≤ le ∧ le ≤ 20)) := hn
  clear hn
  go_enter Try.func36, Try.ntmps36
  go_wp2_with fail
  refine (within_yes _ _ _ _ h0.1 h0.2).mono ?_
  rintro e w1 ⟨rfl, rfl⟩
  go_wp2_with fail
  refine (within_yes _ _ _ _ h1.1 h1.2).mono ?_
  rintro e w1 ⟨rfl, rfl⟩
  go_wp2_with fail
  refine (within_yes _ _ _ _ h2.1 h2.2).mono ?_
  rintro e w1 ⟨rfl, rfl⟩
  go_wp2_with fail
  refine (within_yes _ _ _ _ h3.1 h3.2).mono ?_
  rintro e w1 ⟨rfl, rfl⟩
  go_wp2_with fail
  refine (within_no _ _ _ _ Hn.out).mono ?_
  rintro e w1 ⟨rfl, rfl⟩
  go_wp2_with fail
  go_ret
  exact ⟨rfl, (Below.refl _ _).alloc (Nat.le_refl _) _⟩

set_option maxHeartbeats 1600000 in
theorem nf_no5 (s d r c le ne : Int) (st : Value) (w : World) (h0 : 1 ≤ s ∧ s ≤ 10) (h1 : 2 ≤ d ∧ d ≤ 5) (h2 : 0 ≤ r ∧ r ≤ 100) (h3 : 0 ≤ c ∧ c ≤ 1000) (h4 : 1 ≤ le ∧ le ≤ 20) (hn : ¬ (0 ≤ ne ∧ ne ≤ 1000)) :
    Calls Try.prog 36 #[.agg #[.int .i64 s, .int .i64 d, .int .i64 r, .int .i64 c, .int .i64 le, .int .i64 ne, st]] w fun e w' => e = .returned (.bool false) ∧ Below w.heap.size w w' := by
  have Hn : Hid (¬ (0 ≤ ne ∧ ne ≤ 1000)) := hn
  clear hn
  go_enter Try.func36, Try.ntmps36
  go_wp2_with fail
  refine (within_yes _ _ _ _ h0.1 h0.2).mono ?_
  rintro e w1 ⟨rfl, rfl⟩
  go_wp2_with fail
  refine (within_yes _ _ _ _ h1.1 h1.2).mono ?_
  rintro e w1 ⟨rfl, rfl⟩
  go_wp2_with fail
  refine (within_yes _ _ _ _ h2.1 h2.2).mono ?_
  rintro e w1 ⟨rfl, rfl⟩
  go_wp2_with fail
  refine (within_yes _ _ _ _ h3.1 h3.2).mono ?_
  rintro e w1 ⟨rfl, rfl⟩
  go_wp2_with fail
  refine (within_yes _ _ _ _ h4.1 h4.2).mono ?_
  rintro e w1 ⟨rfl, rfl⟩
  go_wp2_with fail
  refine (within_no _ _ _ _ Hn.out).mono ?_
  rintro e w1 ⟨rfl, rfl⟩
  go_wp2_with fail
  go_ret
  exact ⟨rfl, (Below.refl _ _).alloc (Nat.le_refl _) _⟩

theorem nf_no (s d r c le ne : Int) (st : Value) (w : World) (h : ¬ NumFit s d r c le ne) :
    Calls Try.prog 36 #[.agg #[.int .i64 s, .int .i64 d, .int .i64 r, .int .i64 c, .int .i64 le, .int .i64 ne, st]] w fun e w' => e = .returned (.bool false) ∧ Below w.heap.size w w' := by
  by_cases h0 : 1 ≤ s ∧ s ≤ 10
  case neg => exact nf_no0 s d r c le ne st w  h0
  by_cases h1 : 2 ≤ d ∧ d ≤ 5
  case neg => exact nf_no1 s d r c le ne st w h0 h1
  by_cases h2 : 0 ≤ r ∧ r ≤ 100
  case neg => exact nf_no2 s d r c le ne st w h0 h1 h2
  by_cases h3 : 0 ≤ c ∧ c ≤ 1000
  case neg => exact nf_no3 s d r c le ne st w h0 h1 h2 h3
  by_cases h4 : 1 ≤ le ∧ le ≤ 20
  case neg => exact nf_no4 s d r c le ne st w h0 h1 h2 h3 h4
  by_cases h5 : 0 ≤ ne ∧ ne ≤ 1000
  case neg => exact nf_no5 s d r c le ne st w h0 h1 h2 h3 h4 h5
  exact absurd ⟨h0, h1, h2, h3, h4, h5⟩ h

set_option maxHeartbeats 800000 in
theorem sf_yes (a : Option Addr) (cap : Nat) (l : List Int) (w : World) (hl : Ints w a l) (hf : StartFit l) :
    Calls Try.prog 37 #[.slice a l.length cap] w fun e w' => e = .returned (.bool true) ∧ w' = w := by
  obtain ⟨⟨h1, h6⟩, hA⟩ := hf
  have g1 : (1 : Int) ≤ (l.length : Int) := by omega
  have g6 : (l.length : Int) ≤ 6 := by omega
  have HA : Hid (AmtFit l) := hA
  clear hA
  go_enter Try.func37, Try.ntmps37
  go_wp2_with fail
  refine (within_yes _ _ _ _ g1 g6).mono ?_
  rintro e w1 ⟨rfl, rfl⟩
  go_wp2_with fail
  go_loop [11] (fun i => ∃ k : Nat, k ≤ l.length ∧ i = .int .i64 k) (fun i => l.length - (intOf i).toNat)
  case atStart => exact ⟨0, Nat.zero_le _, rfl⟩
  case round =>
    obtain ⟨k, hk, rfl⟩ := hrel
    by_cases hlt : k < l.length
    · obtain ⟨b, off, ha, hc⟩ := hl.at hlt
      subst ha
      have hx := HA.out k hlt
      generalize l.getD k 0 = x at *
      go_wp2_with fail
      refine (within_yes _ _ _ _ hx.1 hx.2).mono ?_
      rintro e w1 ⟨rfl, rfl⟩
      go_wp2_with fail
      go_round
      case rel => exact ⟨k + 1, by omega, by go_num⟩
      case measure => simp [intOf]; omega
    · go_wp2
      go_ret
      exact ⟨rfl, rfl⟩

set_option maxHeartbeats 800000 in
theorem sf_no (a : Option Addr) (cap : Nat) (l : List Int) (w : World) (hl : Ints w a l) (hm : l.length * 8 ≤ 140737488351232) (hf : ¬ StartFit l) :
    Calls Try.prog 37 #[.slice a l.length cap] w fun e w' => e = .returned (.bool false) ∧ w' = w := by
  by_cases h16 : 1 ≤ l.length ∧ l.length ≤ 6
  · have g1 : (1 : Int) ≤ (l.length : Int) := by omega
    have g6 : (l.length : Int) ≤ 6 := by omega
    have HA : Hid (¬ AmtFit l) := fun hA => hf ⟨h16, hA⟩
    clear hf
    go_enter Try.func37, Try.ntmps37
    go_wp2_with fail
    refine (within_yes _ _ _ _ g1 g6).mono ?_
    rintro e w1 ⟨rfl, rfl⟩
    go_wp2_with fail
    go_loop [11] (fun i => ∃ k : Nat, k ≤ l.length ∧ i = .int .i64 k ∧ Hid (∀ j, j < k → 0 ≤ l.getD j 0 ∧ l.getD j 0 ≤ 10000000)) (fun i => l.length - (intOf i).toNat)
    case atStart => exact ⟨0, Nat.zero_le _, rfl, (fun j hj => by omega)⟩
    case round =>
      obtain ⟨k, hk, rfl, hall⟩ := hrel
      by_cases hlt : k < l.length
      · obtain ⟨b, off, ha, hc⟩ := hl.at hlt
        subst ha
        by_cases hx : 0 ≤ l.getD k 0 ∧ l.getD k 0 ≤ 10000000
        · have hn : Hid (∀ j, j < k + 1 → 0 ≤ l.getD j 0 ∧ l.getD j 0 ≤ 10000000) := by
            intro j hj
            by_cases e : j = k
            · rw [e]; exact hx
            · exact hall.out j (by omega)
          clear hall
          generalize hg : l.getD k 0 = x at hc hx
          clear hg
          go_wp2_with fail
          refine (within_yes _ _ _ _ hx.1 hx.2).mono ?_
          rintro e w1 ⟨rfl, rfl⟩
          go_wp2_with fail
          go_round
          case rel => exact ⟨k + 1, by omega, by go_num, hn⟩
          case measure => simp [intOf]; omega
        · have Hx : Hid (¬ (0 ≤ l.getD k 0 ∧ l.getD k 0 ≤ 10000000)) := hx
          clear hx
          generalize l.getD k 0 = x at *
          go_wp2_with fail
          refine (within_no _ _ _ _ Hx.out).mono ?_
          rintro e w1 ⟨rfl, rfl⟩
          go_wp2_with fail
          go_ret
          exact ⟨rfl, rfl⟩
      · exfalso
        exact HA.out (fun j hj => hall.out j (by omega))
  · have Hn : Hid (¬ ((1 : Int) ≤ (l.length : Int) ∧ (l.length : Int) ≤ 6)) := by unfold Hid; omega
    clear hf h16
    go_enter Try.func37, Try.ntmps37
    go_wp2_with fail
    refine (within_no _ _ _ _ Hn.out).mono ?_
    rintro e w1 ⟨rfl, rfl⟩
    go_wp2_with fail
    go_ret
    exact ⟨rfl, rfl⟩
end Go.Proofs.Ytiokecadnmcpeab
