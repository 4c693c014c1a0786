import Derived.Test.YtiokecadnmcpeabRefSee
import Derived.Test.YtiokecadnmcpeabFits
namespace Go.Proofs.Ytiokecadnmcpeab
set_option linter.unusedVariables false
set_option linter.unusedSimpArgs false
open Go.ChangeShapes Go.WideShapes Go.ChangeAt Go.RowKit

/-- What an append to a slice of a chain, stored back, comes to. -/
theorem turn_of_append {w w1 : World} {o : Obj} {B y : Nat} {r : RS} {v : Nat → Value} {i idx n g cap e size : Nat} {xs : List Value} (h : RC w B y r v) (hi : i < 6) (hidx : w.cell? ⟨y, idx, none⟩ = some (v i))
    (hown : w1.ownsRow B e size (.slice (some ⟨g, 0, none⟩) n cap) n xs) (hg : (w.alloc o).grownBy w1 (v i).ownBlock) (hat : (v i).ownBlock = some g ∨ g = w.heap.size + 1) :
    Turn w (w1.setCell ⟨y, idx, none⟩ (.slice (some ⟨g, 0, none⟩) n cap)) y v i idx (.slice (some ⟨g, 0, none⟩) n cap) ∧ (w1.setCell ⟨y, idx, none⟩ (.slice (some ⟨g, 0, none⟩) n cap)).ownsRow B e size (.slice (some ⟨g, 0, none⟩) n cap) n xs ∧
      (∀ j, w1.cell? ⟨y, j, none⟩ = w.cell? ⟨y, j, none⟩) ∧ (∀ j, w1.frozen? ⟨y, j, none⟩ = w.frozen? ⟨y, j, none⟩) := by
  have hyb := (h.lt (.inl rfl)).2
  have hgy : g ≠ y := by
    rcases hat with h1 | h1
    · intro e2; subst e2; exact h.ny i hi h1
    · omega
  have k1 : Keeps (fun k => (v i).ownBlock = some k) w w1 := ((Keeps.refl _ w).alloc o).grown hg (fun k hk _ => hk)
  have hyk : ∀ j, w1.cell? ⟨y, j, none⟩ = w.cell? ⟨y, j, none⟩ := fun j => World.cell?_of_block (k1.block y hyb (h.ny i hi))
  have hyf : ∀ j, w1.frozen? ⟨y, j, none⟩ = w.frozen? ⟨y, j, none⟩ := fun j => World.frozen?_of_block (k1.block y hyb (h.ny i hi))
  refine ⟨⟨(k1.mono (fun _ _ h => .inr h)).setCell _ _ (fun _ => .inl rfl), ?_, ?_, setCell_same ((hyk idx).trans hidx), fun j hj => ?_, fun j => ?_⟩, own_setCell hown _ _ (by simp [Value.ownBlock]; exact hgy), hyk, hyf⟩
  · intro q hq
    simp only [Value.ownBlock, Option.some.injEq] at hq
    subst hq
    exact hat.elim .inl (fun e2 => .inr (by omega))
  · simp [Value.ownBlock]; exact hgy
  · rw [← hyk j]
    exact World.cell?_setCell_other _ _ _ _ (by intro e2; simp only [Addr.mk.injEq] at e2; omega)
  · rw [← hyf j]
    exact World.frozen?_setCell _ _ _ _

theorem one_lies (w : World) (u : Value) (t : TypeId) : ∀ j x, [u][j]? = some x → (w.alloc (.cells #[u] t)).cell? ((⟨w.heap.size, 0, none⟩ : Addr).add j) = some x := by
  intro j x hj
  match j, hj with
  | 0, hj => simp at hj; subst hj; simp [Addr.add]
theorem one_lies' (w : World) (u : Value) (t : TypeId) (n : Nat) (hn : n = w.heap.size) : ∀ j x, [u][j]? = some x → (w.alloc (.cells #[u] t)).cell? ((⟨n, 0, none⟩ : Addr).add j) = some x := by
  subst hn; exact one_lies w u t
end Go.Proofs.Ytiokecadnmcpeab
namespace Go.Proofs.Ytiokecadnmcpeab
set_option linter.unusedVariables false
set_option linter.unusedSimpArgs false
open Go.ChangeShapes Go.WideShapes Go.ChangeAt Go.RowKit

set_option maxHeartbeats 1600000 in
theorem rmay_no0 (s d r c le ne : Int) (a : Option Addr) (cap : Nat) (l : List Int) (w : World) (hl : Ints w a l) (hm : l.length * 8 ≤ 140737488351232)  (hn : ¬ (1 ≤ s ∧ s ≤ 10)) :
    Calls Try.prog 90 #[.agg #[.int .i64 s, .int .i64 d, .int .i64 r, .int .i64 c, .int .i64 le, .int .i64 ne, .slice a l.length cap]] w fun e w' => e = .returned (.bool false) ∧ Below w.heap.size w w' := by
  have Hn : Hid (¬ (1 ≤ s ∧ s ≤ 10)) := hn
  clear hn
  have hl1 : Ints (w.alloc (.cells #[.int .i64 s, .int .i64 d, .int .i64 r, .int .i64 c, .int .i64 le, .int .i64 ne, .slice a l.length cap] 115)) a l := hl.below ((Below.refl _ _).alloc (Nat.le_refl _) _)
  have hb1 : Below w.heap.size w (w.alloc (.cells #[.int .i64 s, .int .i64 d, .int .i64 r, .int .i64 c, .int .i64 le, .int .i64 ne, .slice a l.length cap] 115)) := (Below.refl _ _).alloc (Nat.le_refl _) _
  go_enter Try.func90, Try.ntmps90
  go_wp2_with fail
  refine (rwithin_no _ _ _ _ Hn.out).mono ?_
  rintro e w1 ⟨rfl, rfl⟩
  go_wp2_with fail
  go_loop [3, 4] (fun b i => ∃ k : Nat, k ≤ l.length ∧ b = .bool false ∧ i = .int .i64 k) (fun _ i => l.length - (intOf i).toNat)
  case atStart => exact ⟨0, Nat.zero_le _, rfl, rfl⟩
  case round =>
    obtain ⟨k, hk, rfl, rfl⟩ := hrel
    by_cases hlt : k < l.length
    · go_wp2_with fail
      go_round
      case rel => exact ⟨k + 1, by omega, rfl, by go_num⟩
      case measure => simp [intOf]; omega
    · go_wp2_with fail
      go_ret
      exact ⟨rfl, hb1⟩

set_option maxHeartbeats 1600000 in
theorem rmay_no1 (s d r c le ne : Int) (a : Option Addr) (cap : Nat) (l : List Int) (w : World) (hl : Ints w a l) (hm : l.length * 8 ≤ 140737488351232) (h0 : 1 ≤ s ∧ s ≤ 10) (hn : ¬ (2 ≤ d ∧ d ≤ 5)) :
    Calls Try.prog 90 #[.agg #[.int .i64 s, .int .i64 d, .int .i64 r, .int .i64 c, .int .i64 le, .int .i64 ne, .slice a l.length cap]] w fun e w' => e = .returned (.bool false) ∧ Below w.heap.size w w' := by
  have Hn : Hid (¬ (2 ≤ d ∧ d ≤ 5)) := hn
  clear hn
  have hl1 : Ints (w.alloc (.cells #[.int .i64 s, .int .i64 d, .int .i64 r, .int .i64 c, .int .i64 le, .int .i64 ne, .slice a l.length cap] 115)) a l := hl.below ((Below.refl _ _).alloc (Nat.le_refl _) _)
  have hb1 : Below w.heap.size w (w.alloc (.cells #[.int .i64 s, .int .i64 d, .int .i64 r, .int .i64 c, .int .i64 le, .int .i64 ne, .slice a l.length cap] 115)) := (Below.refl _ _).alloc (Nat.le_refl _) _
  go_enter Try.func90, Try.ntmps90
  go_wp2_with fail
  refine (rwithin_yes _ _ _ _ h0.1 h0.2).mono ?_
  rintro e w1 ⟨rfl, rfl⟩
  go_wp2_with fail
  refine (rwithin_no _ _ _ _ Hn.out).mono ?_
  rintro e w1 ⟨rfl, rfl⟩
  go_wp2_with fail
  go_loop [3, 4] (fun b i => ∃ k : Nat, k ≤ l.length ∧ b = .bool false ∧ i = .int .i64 k) (fun _ i => l.length - (intOf i).toNat)
  case atStart => exact ⟨0, Nat.zero_le _, rfl, rfl⟩
  case round =>
    obtain ⟨k, hk, rfl, rfl⟩ := hrel
    by_cases hlt : k < l.length
    · go_wp2_with fail
      go_round
      case rel => exact ⟨k + 1, by omega, rfl, by go_num⟩
      case measure => simp [intOf]; omega
    · go_wp2_with fail
      go_ret
      exact ⟨rfl, hb1⟩

set_option maxHeartbeats 1600000 in
theorem rmay_no2 (s d r c le ne : Int) (a : Option Addr) (cap : Nat) (l : List Int) (w : World) (hl : Ints w a l) (hm : l.length * 8 ≤ 140737488351232) (h0 : 1 ≤ s ∧ s ≤ 10) (h1 : 2 ≤ d ∧ d ≤ 5) (hn : ¬ (0 ≤ r ∧ r ≤ 100)) :
    Calls Try.prog 90 #[.agg #[.int .i64 s, .int .i64 d, .int .i64 r, .int .i64 c, .int .i64 le, .int .i64 ne, .slice a l.length cap]] w fun e w' => e = .returned (.bool false) ∧ Below w.heap.size w w' := by
  have Hn : Hid (¬ (0 ≤ r ∧ r ≤ 100)) := hn
  clear hn
  have hl1 : Ints (w.alloc (.cells #[.int .i64 s, .int .i64 d, .int .i64 r, .int .i64 c, .int .i64 le, .int .i64 ne, .slice a l.length cap] 115)) a l := hl.below ((Below.refl _ _).alloc (Nat.le_refl _) _)
  have hb1 : Below w.heap.size w (w.alloc (.cells #[.int .i64 s, .int .i64 d, .int .i64 r, .int .i64 c, .int .i64 le, .int .i64 ne, .slice a l.length cap] 115)) := (Below.refl _ _).alloc (Nat.le_refl _) _
  go_enter Try.func90, Try.ntmps90
  go_wp2_with fail
  refine (rwithin_yes _ _ _ _ h0.1 h0.2).mono ?_
  rintro e w1 ⟨rfl, rfl⟩
  go_wp2_with fail
  refine (rwithin_yes _ _ _ _ h1.1 h1.2).mono ?_
  rintro e w1 ⟨rfl, rfl⟩
  go_wp2_with fail
  refine (rwithin_no _ _ _ _ Hn.out).mono ?_
  rintro e w1 ⟨rfl, rfl⟩
  go_wp2_with fail
  go_loop [3, 4] (fun b i => ∃ k : Nat, k ≤ l.length ∧ b = .bool false ∧ i = .int .i64 k) (fun _ i => l.length - (intOf i).toNat)
  case atStart => exact ⟨0, Nat.zero_le _, rfl, rfl⟩
  case round =>
    obtain ⟨k, hk, rfl, rfl⟩ := hrel
    by_cases hlt : k < l.length
    · go_wp2_with fail
      go_round
      case rel => exact ⟨k + 1, by omega, rfl, by go_num⟩
      case measure => simp [intOf]; omega
    · go_wp2_with fail
      go_ret
      exact ⟨rfl, hb1⟩

set_option maxHeartbeats 1600000 in
theorem rmay_no3 (s d r c le ne : Int) (a : Option Addr) (cap : Nat) (l : List Int) (w : World) (hl : Ints w a l) (hm : l.length * 8 ≤ 140737488351232) (h0 : 1 ≤ s ∧ s ≤ 10) (h1 : 2 ≤ d ∧ d ≤ 5) (h2 : 0 ≤ r ∧ r ≤ 100) (hn : ¬ (0 ≤ c ∧ c ≤ 1000)) :
    Calls Try.prog 90 #[.agg #[.int .i64 s, .int .i64 d, .int .i64 r, .int .i64 c, .int .i64 le, .int .i64 ne, .slice a l.length cap]] w fun e w' => e = .returned (.bool false) ∧ Below w.heap.size w w' := by
  have Hn : Hid (¬ (0 ≤ c ∧ c ≤ 1000)) := hn
  clear hn
  have hl1 : Ints (w.alloc (.cells #[.int .i64 s, .int .i64 d, .int .i64 r, .int .i64 c, .int .i64 le, .int .i64 ne, .slice a l.length cap] 115)) a l := hl.below ((Below.refl _ _).alloc (Nat.le_refl _) _)
  have hb1 : Below w.heap.size w (w.alloc (.cells #[.int .i64 s, .int .i64 d, .int .i64 r, .int .i64 c, .int .i64 le, .int .i64 ne, .slice a l.length cap] 115)) := (Below.refl _ _).alloc (Nat.le_refl _) _
  go_enter Try.func90, Try.ntmps90
  go_wp2_with fail
  refine (rwithin_yes _ _ _ _ h0.1 h0.2).mono ?_
  rintro e w1 ⟨rfl, rfl⟩
  go_wp2_with fail
  refine (rwithin_yes _ _ _ _ h1.1 h1.2).mono ?_
  rintro e w1 ⟨rfl, rfl⟩
  go_wp2_with fail
  refine (rwithin_yes _ _ _ _ h2.1 h2.2).mono ?_
  rintro e w1 ⟨rfl, rfl⟩
  go_wp2_with fail
  refine (rwithin_no _ _ _ _ Hn.out).mono ?_
  rintro e w1 ⟨rfl, rfl⟩
  go_wp2_with fail
  go_loop [3, 4] (fun b i => ∃ k : Nat, k ≤ l.length ∧ b = .bool false ∧ i = .int .i64 k) (fun _ i => l.length - (intOf i).toNat)
  case atStart => exact ⟨0, Nat.zero_le _, rfl, rfl⟩
  case round =>
    obtain ⟨k, hk, rfl, rfl⟩ := hrel
    by_cases hlt : k < l.length
    · go_wp2_with fail
      go_round
      case rel => exact ⟨k + 1, by omega, rfl, by go_num⟩
      case measure => simp [intOf]; omega
    · go_wp2_with fail
      go_ret
      exact ⟨rfl, hb1⟩

set_option maxHeartbeats 1600000 in
theorem rmay_no4 (s d r c le ne : Int) (a : Option Addr) (cap : Nat) (l : List Int) (w : World) (hl : Ints w a l) (hm : l.length * 8 ≤ 140737488351232) (h0 : 1 ≤ s ∧ s ≤ 10) (h1 : 2 ≤ d ∧ d ≤ 5) (h2 : 0 ≤ r ∧ r ≤ 100) (h3 : 0 ≤ c ∧ c ≤ 1000) (hn : ¬ (1 ≤ le ∧ le ≤ 20)) :
    Calls Try.prog 90 #[.agg #[.int .i64 s, .int .i64 d, .int .i64 r, .int .i64 c, .int .i64 le, .int .i64 ne, .slice a l.length cap]] w fun e w' => e = .returned (.bool false) ∧ Below w.heap.size w w' := by
  have Hn : Hid (¬ (1 ≤ le ∧ le ≤ 20)) := hn
  clear hn
  have hl1 : Ints (w.alloc (.cells #[.int .i64 s, .int .i64 d, .int .i64 r, .int .i64 c, .int .i64 le, .int .i64 ne, .slice a l.length cap] 115)) a l := hl.below ((Below.refl _ _).alloc (Nat.le_refl _) _)
  have hb1 : Below w.heap.size w (w.alloc (.cells #[.int .i64 s, .int .i64 d, .int .i64 r, .int .i64 c, .int .i64 le, .int .i64 ne, .slice a l.length cap] 115)) := (Below.refl _ _).alloc (Nat.le_refl _) _
  go_enter Try.func90, Try.ntmps90
  go_wp2_with fail
  refine (rwithin_yes _ _ _ _ h0.1 h0.2).mono ?_
  rintro e w1 ⟨rfl, rfl⟩
  go_wp2_with fail
  refine (rwithin_yes _ _ _ _ h1.1 h1.2).mono ?_
  rintro e w1 ⟨rfl, rfl⟩
  go_wp2_with fail
  refine (rwithin_yes _ _ _ _ h2.1 h2.2).mono ?_
  rintro e w1 ⟨rfl, rfl⟩
  go_wp2_with fail
  refine (rwithin_yes _ _ _ _ h3.1 h3.2).mono ?_
  rintro e w1 ⟨rfl, rfl⟩
  go_wp2_with fail
  refine (rwithin_no _ _ _ _ Hn.out).mono ?_
  rintro e w1 ⟨rfl, rfl⟩
  go_wp2_with fail
  go_loop [3, 4] (fun b i => ∃ k : Nat, k ≤ l.length ∧ b = .bool false ∧ i = .int .i64 k) (fun _ i => l.length - (intOf i).toNat)
  case atStart => exact ⟨0, Nat.zero_le _, rfl, rfl⟩
  case round =>
    obtain ⟨k, hk, rfl, rfl⟩ := hrel
    by_cases hlt : k < l.length
    · go_wp2_with fail
      go_round
      case rel => exact ⟨k + 1, by omega, rfl, by go_num⟩
      case measure => simp [intOf]; omega
    · go_wp2_with fail
      go_ret
      exact ⟨rfl, hb1⟩

set_option maxHeartbeats 1600000 in
theorem rmay_no5 (s d r c le ne : Int) (a : Option Addr) (cap : Nat) (l : List Int) (w : World) (hl : Ints w a l) (hm : l.length * 8 ≤ 140737488351232) (h0 : 1 ≤ s ∧ s ≤ 10) (h1 : 2 ≤ d ∧ d ≤ 5) (h2 : 0 ≤ r ∧ r ≤ 100) (h3 : 0 ≤ c ∧ c ≤ 1000) (h4 : 1 ≤ le ∧ le ≤ 20) (hn : ¬ (0 ≤ ne ∧ ne ≤ 1000)) :
    Calls Try.prog 90 #[.agg #[.int .i64 s, .int .i64 d, .int .i64 r, .int .i64 c, .int .i64 le, .int .i64 ne, .slice a l.length cap]] w fun e w' => e = .returned (.bool false) ∧ Below w.heap.size w w' := by
  have Hn : Hid (¬ (0 ≤ ne ∧ ne ≤ 1000)) := hn
  clear hn
  have hl1 : Ints (w.alloc (.cells #[.int .i64 s, .int .i64 d, .int .i64 r, .int .i64 c, .int .i64 le, .int .i64 ne, .slice a l.length cap] 115)) a l := hl.below ((Below.refl _ _).alloc (Nat.le_refl _) _)
  have hb1 : Below w.heap.size w (w.alloc (.cells #[.int .i64 s, .int .i64 d, .int .i64 r, .int .i64 c, .int .i64 le, .int .i64 ne, .slice a l.length cap] 115)) := (Below.refl _ _).alloc (Nat.le_refl _) _
  go_enter Try.func90, Try.ntmps90
  go_wp2_with fail
  refine (rwithin_yes _ _ _ _ h0.1 h0.2).mono ?_
  rintro e w1 ⟨rfl, rfl⟩
  go_wp2_with fail
  refine (rwithin_yes _ _ _ _ h1.1 h1.2).mono ?_
  rintro e w1 ⟨rfl, rfl⟩
  go_wp2_with fail
  refine (rwithin_yes _ _ _ _ h2.1 h2.2).mono ?_
  rintro e w1 ⟨rfl, rfl⟩
  go_wp2_with fail
  refine (rwithin_yes _ _ _ _ h3.1 h3.2).mono ?_
  rintro e w1 ⟨rfl, rfl⟩
  go_wp2_with fail
  refine (rwithin_yes _ _ _ _ h4.1 h4.2).mono ?_
  rintro e w1 ⟨rfl, rfl⟩
  go_wp2_with fail
  refine (rwithin_no _ _ _ _ Hn.out).mono ?_
  rintro e w1 ⟨rfl, rfl⟩
  go_wp2_with fail
  go_loop [3, 4] (fun b i => ∃ k : Nat, k ≤ l.length ∧ b = .bool false ∧ i = .int .i64 k) (fun _ i => l.length - (intOf i).toNat)
  case atStart => exact ⟨0, Nat.zero_le _, rfl, rfl⟩
  case round =>
    obtain ⟨k, hk, rfl, rfl⟩ := hrel
    by_cases hlt : k < l.length
    · go_wp2_with fail
      go_round
      case rel => exact ⟨k + 1, by omega, rfl, by go_num⟩
      case measure => simp [intOf]; omega
    · go_wp2_with fail
      go_ret
      exact ⟨rfl, hb1⟩

set_option maxHeartbeats 1600000 in
theorem rmay_no6 (s d r c le ne : Int) (a : Option Addr) (cap : Nat) (l : List Int) (w : World) (hl : Ints w a l) (hm : l.length * 8 ≤ 140737488351232) (h0 : 1 ≤ s ∧ s ≤ 10) (h1 : 2 ≤ d ∧ d ≤ 5) (h2 : 0 ≤ r ∧ r ≤ 100) (h3 : 0 ≤ c ∧ c ≤ 1000) (h4 : 1 ≤ le ∧ le ≤ 20) (h5 : 0 ≤ ne ∧ ne ≤ 1000) (hn : ¬ ((1 : Int) ≤ (l.length : Int) ∧ (l.length : Int) ≤ 6)) :
    Calls Try.prog 90 #[.agg #[.int .i64 s, .int .i64 d, .int .i64 r, .int .i64 c, .int .i64 le, .int .i64 ne, .slice a l.length cap]] w fun e w' => e = .returned (.bool false) ∧ Below w.heap.size w w' := by
  have Hn : Hid (¬ ((1 : Int) ≤ (l.length : Int) ∧ (l.length : Int) ≤ 6)) := hn
  clear hn
  have hl1 : Ints (w.alloc (.cells #[.int .i64 s, .int .i64 d, .int .i64 r, .int .i64 c, .int .i64 le, .int .i64 ne, .slice a l.length cap] 115)) a l := hl.below ((Below.refl _ _).alloc (Nat.le_refl _) _)
  have hb1 : Below w.heap.size w (w.alloc (.cells #[.int .i64 s, .int .i64 d, .int .i64 r, .int .i64 c, .int .i64 le, .int .i64 ne, .slice a l.length cap] 115)) := (Below.refl _ _).alloc (Nat.le_refl _) _
  go_enter Try.func90, Try.ntmps90
  go_wp2_with fail
  refine (rwithin_yes _ _ _ _ h0.1 h0.2).mono ?_
  rintro e w1 ⟨rfl, rfl⟩
  go_wp2_with fail
  refine (rwithin_yes _ _ _ _ h1.1 h1.2).mono ?_
  rintro e w1 ⟨rfl, rfl⟩
  go_wp2_with fail
  refine (rwithin_yes _ _ _ _ h2.1 h2.2).mono ?_
  rintro e w1 ⟨rfl, rfl⟩
  go_wp2_with fail
  refine (rwithin_yes _ _ _ _ h3.1 h3.2).mono ?_
  rintro e w1 ⟨rfl, rfl⟩
  go_wp2_with fail
  refine (rwithin_yes _ _ _ _ h4.1 h4.2).mono ?_
  rintro e w1 ⟨rfl, rfl⟩
  go_wp2_with fail
  refine (rwithin_yes _ _ _ _ h5.1 h5.2).mono ?_
  rintro e w1 ⟨rfl, rfl⟩
  go_wp2_with fail
  refine (rwithin_no _ _ _ _ Hn.out).mono ?_
  rintro e w1 ⟨rfl, rfl⟩
  go_wp2_with fail
  go_loop [3, 4] (fun b i => ∃ k : Nat, k ≤ l.length ∧ b = .bool false ∧ i = .int .i64 k) (fun _ i => l.length - (intOf i).toNat)
  case atStart => exact ⟨0, Nat.zero_le _, rfl, rfl⟩
  case round =>
    obtain ⟨k, hk, rfl, rfl⟩ := hrel
    by_cases hlt : k < l.length
    · go_wp2_with fail
      go_round
      case rel => exact ⟨k + 1, by omega, rfl, by go_num⟩
      case measure => simp [intOf]; omega
    · go_wp2_with fail
      go_ret
      exact ⟨rfl, hb1⟩

set_option maxHeartbeats 1600000 in
theorem rmay_noA (s d r c le ne : Int) (a : Option Addr) (cap : Nat) (l : List Int) (w : World) (hl : Ints w a l) (hm : l.length * 8 ≤ 140737488351232) (h0 : 1 ≤ s ∧ s ≤ 10) (h1 : 2 ≤ d ∧ d ≤ 5) (h2 : 0 ≤ r ∧ r ≤ 100) (h3 : 0 ≤ c ∧ c ≤ 1000) (h4 : 1 ≤ le ∧ le ≤ 20) (h5 : 0 ≤ ne ∧ ne ≤ 1000) (h6 : (1 : Int) ≤ (l.length : Int) ∧ (l.length : Int) ≤ 6) (hn : ¬ AmtFit l) :
    Calls Try.prog 90 #[.agg #[.int .i64 s, .int .i64 d, .int .i64 r, .int .i64 c, .int .i64 le, .int .i64 ne, .slice a l.length cap]] w fun e w' => e = .returned (.bool false) ∧ Below w.heap.size w w' := by
  have Hn : Hid (¬ AmtFit l) := hn
  clear hn
  have hl1 : Ints (w.alloc (.cells #[.int .i64 s, .int .i64 d, .int .i64 r, .int .i64 c, .int .i64 le, .int .i64 ne, .slice a l.length cap] 115)) a l := hl.below ((Below.refl _ _).alloc (Nat.le_refl _) _)
  have hb1 : Below w.heap.size w (w.alloc (.cells #[.int .i64 s, .int .i64 d, .int .i64 r, .int .i64 c, .int .i64 le, .int .i64 ne, .slice a l.length cap] 115)) := (Below.refl _ _).alloc (Nat.le_refl _) _
  go_enter Try.func90, Try.ntmps90
  go_wp2_with fail
  refine (rwithin_yes _ _ _ _ h0.1 h0.2).mono ?_
  rintro e w1 ⟨rfl, rfl⟩
  go_wp2_with fail
  refine (rwithin_yes _ _ _ _ h1.1 h1.2).mono ?_
  rintro e w1 ⟨rfl, rfl⟩
  go_wp2_with fail
  refine (rwithin_yes _ _ _ _ h2.1 h2.2).mono ?_
  rintro e w1 ⟨rfl, rfl⟩
  go_wp2_with fail
  refine (rwithin_yes _ _ _ _ h3.1 h3.2).mono ?_
  rintro e w1 ⟨rfl, rfl⟩
  go_wp2_with fail
  refine (rwithin_yes _ _ _ _ h4.1 h4.2).mono ?_
  rintro e w1 ⟨rfl, rfl⟩
  go_wp2_with fail
  refine (rwithin_yes _ _ _ _ h5.1 h5.2).mono ?_
  rintro e w1 ⟨rfl, rfl⟩
  go_wp2_with fail
  refine (rwithin_yes _ _ _ _ h6.1 h6.2).mono ?_
  rintro e w1 ⟨rfl, rfl⟩
  go_wp2_with fail
  go_loop [3, 4] (fun b i => ∃ k : Nat, ∃ t : Bool, k ≤ l.length ∧ b = .bool t ∧ i = .int .i64 k ∧ Hid (t = true → ∀ j, j < k → 0 ≤ l.getD j 0 ∧ l.getD j 0 ≤ 10000000)) (fun _ i => l.length - (intOf i).toNat)
  case atStart => exact ⟨0, true, Nat.zero_le _, rfl, rfl, (fun _ j hj => by omega)⟩
  case round =>
    obtain ⟨k, t, hk, rfl, rfl, hall⟩ := hrel
    by_cases hlt : k < l.length
    · cases t
      · go_wp2_with fail
        go_round
        case rel => exact ⟨k + 1, false, by omega, rfl, by go_num, (fun h => by cases h)⟩
        case measure => simp [intOf]; omega
      · obtain ⟨b, off, ha, hc⟩ := hl1.at hlt
        subst ha
        by_cases hx : 0 ≤ l.getD k 0 ∧ l.getD k 0 ≤ 10000000
        · have hn : Hid (∀ j, j < k + 1 → 0 ≤ l.getD j 0 ∧ l.getD j 0 ≤ 10000000) := by
            intro j hj
            by_cases e : j = k
            · rw [e]; exact hx
            · exact hall.out rfl j (by omega)
          clear hall
          generalize hg : l.getD k 0 = x at hc hx
          clear hg
          go_wp2_with fail
          refine (rwithin_yes _ _ _ _ hx.1 hx.2).mono ?_
          rintro e w1 ⟨rfl, rfl⟩
          go_wp2_with fail
          go_round
          case rel => exact ⟨k + 1, true, by omega, rfl, by go_num, (fun _ => hn.out)⟩
          case measure => simp [intOf]; omega
        · have Hx : Hid (¬ (0 ≤ l.getD k 0 ∧ l.getD k 0 ≤ 10000000)) := hx
          clear hx
          generalize l.getD k 0 = x at *
          go_wp2_with fail
          refine (rwithin_no _ _ _ _ Hx.out).mono ?_
          rintro e w1 ⟨rfl, rfl⟩
          go_wp2_with fail
          go_round
          case rel => exact ⟨k + 1, false, by omega, rfl, by go_num, (fun h => by cases h)⟩
          case measure => simp [intOf]; omega
    · cases t
      · go_wp2_with fail
        go_ret
        exact ⟨rfl, hb1⟩
      · exfalso
        exact Hn.out (fun j hj => hall.out rfl j (by omega))

set_option maxHeartbeats 1600000 in
theorem rmay_yes0 (s d r c le ne : Int) (a : Option Addr) (cap : Nat) (l : List Int) (w : World) (hl : Ints w a l) (hm : l.length * 8 ≤ 140737488351232) (h0 : 1 ≤ s ∧ s ≤ 10) (h1 : 2 ≤ d ∧ d ≤ 5) (h2 : 0 ≤ r ∧ r ≤ 100) (h3 : 0 ≤ c ∧ c ≤ 1000) (h4 : 1 ≤ le ∧ le ≤ 20) (h5 : 0 ≤ ne ∧ ne ≤ 1000) (h6 : (1 : Int) ≤ (l.length : Int) ∧ (l.length : Int) ≤ 6) (hn : AmtFit l) :
    Calls Try.prog 90 #[.agg #[.int .i64 s, .int .i64 d, .int .i64 r, .int .i64 c, .int .i64 le, .int .i64 ne, .slice a l.length cap]] w fun e w' => e = .returned (.bool true) ∧ Below w.heap.size w w' := by
  have Hn : Hid (AmtFit l) := hn
  clear hn
  have hl1 : Ints (w.alloc (.cells #[.int .i64 s, .int .i64 d, .int .i64 r, .int .i64 c, .int .i64 le, .int .i64 ne, .slice a l.length cap] 115)) a l := hl.below ((Below.refl _ _).alloc (Nat.le_refl _) _)
  have hb1 : Below w.heap.size w (w.alloc (.cells #[.int .i64 s, .int .i64 d, .int .i64 r, .int .i64 c, .int .i64 le, .int .i64 ne, .slice a l.length cap] 115)) := (Below.refl _ _).alloc (Nat.le_refl _) _
  go_enter Try.func90, Try.ntmps90
  go_wp2_with fail
  refine (rwithin_yes _ _ _ _ h0.1 h0.2).mono ?_
  rintro e w1 ⟨rfl, rfl⟩
  go_wp2_with fail
  refine (rwithin_yes _ _ _ _ h1.1 h1.2).mono ?_
  rintro e w1 ⟨rfl, rfl⟩
  go_wp2_with fail
  refine (rwithin_yes _ _ _ _ h2.1 h2.2).mono ?_
  rintro e w1 ⟨rfl, rfl⟩
  go_wp2_with fail
  refine (rwithin_yes _ _ _ _ h3.1 h3.2).mono ?_
  rintro e w1 ⟨rfl, rfl⟩
  go_wp2_with fail
  refine (rwithin_yes _ _ _ _ h4.1 h4.2).mono ?_
  rintro e w1 ⟨rfl, rfl⟩
  go_wp2_with fail
  refine (rwithin_yes _ _ _ _ h5.1 h5.2).mono ?_
  rintro e w1 ⟨rfl, rfl⟩
  go_wp2_with fail
  refine (rwithin_yes _ _ _ _ h6.1 h6.2).mono ?_
  rintro e w1 ⟨rfl, rfl⟩
  go_wp2_with fail
  go_loop [3, 4] (fun b i => ∃ k : Nat, k ≤ l.length ∧ b = .bool true ∧ i = .int .i64 k) (fun _ i => l.length - (intOf i).toNat)
  case atStart => exact ⟨0, Nat.zero_le _, rfl, rfl⟩
  case round =>
    obtain ⟨k, hk, rfl, rfl⟩ := hrel
    by_cases hlt : k < l.length
    · obtain ⟨b, off, ha, hc⟩ := hl1.at hlt
      subst ha
      have hx := Hn.out k hlt
      generalize l.getD k 0 = x at *
      go_wp2_with fail
      refine (rwithin_yes _ _ _ _ hx.1 hx.2).mono ?_
      rintro e w1 ⟨rfl, rfl⟩
      go_wp2_with fail
      go_round
      case rel => exact ⟨k + 1, by omega, rfl, by go_num⟩
      case measure => simp [intOf]; omega
    · go_wp2_with fail
      go_ret
      exact ⟨rfl, hb1⟩

theorem rmay_yes (s d r c le ne : Int) (a : Option Addr) (cap : Nat) (l : List Int) (w : World) (hl : Ints w a l) (hm : l.length * 8 ≤ 140737488351232) (hn : NumFit s d r c le ne) (hs : StartFit l) :
    Calls Try.prog 90 #[.agg #[.int .i64 s, .int .i64 d, .int .i64 r, .int .i64 c, .int .i64 le, .int .i64 ne, .slice a l.length cap]] w fun e w' => e = .returned (.bool true) ∧ Below w.heap.size w w' := by
  obtain ⟨h0, h1, h2, h3, h4, h5⟩ := hn
  exact rmay_yes0 s d r c le ne a cap l w hl hm h0 h1 h2 h3 h4 h5 (by have := hs.1; omega) hs.2

theorem rmay_no (s d r c le ne : Int) (a : Option Addr) (cap : Nat) (l : List Int) (w : World) (hl : Ints w a l) (hm : l.length * 8 ≤ 140737488351232) (hn : ¬ (NumFit s d r c le ne ∧ StartFit l)) :
    Calls Try.prog 90 #[.agg #[.int .i64 s, .int .i64 d, .int .i64 r, .int .i64 c, .int .i64 le, .int .i64 ne, .slice a l.length cap]] w fun e w' => e = .returned (.bool false) ∧ Below w.heap.size w w' := by
  by_cases h0 : 1 ≤ s ∧ s ≤ 10
  case neg => exact rmay_no0 s d r c le ne a cap l w hl hm  h0
  by_cases h1 : 2 ≤ d ∧ d ≤ 5
  case neg => exact rmay_no1 s d r c le ne a cap l w hl hm h0 h1
  by_cases h2 : 0 ≤ r ∧ r ≤ 100
  case neg => exact rmay_no2 s d r c le ne a cap l w hl hm h0 h1 h2
  by_cases h3 : 0 ≤ c ∧ c ≤ 1000
  case neg => exact rmay_no3 s d r c le ne a cap l w hl hm h0 h1 h2 h3
  by_cases h4 : 1 ≤ le ∧ le ≤ 20
  case neg => exact rmay_no4 s d r c le ne a cap l w hl hm h0 h1 h2 h3 h4
  by_cases h5 : 0 ≤ ne ∧ ne ≤ 1000
  case neg => exact rmay_no5 s d r c le ne a cap l w hl hm h0 h1 h2 h3 h4 h5
  by_cases h6 : (1 : Int) ≤ (l.length : Int) ∧ (l.length : Int) ≤ 6
  case neg => exact rmay_no6 s d r c le ne a cap l w hl hm h0 h1 h2 h3 h4 h5 h6
  by_cases h7 : AmtFit l
  case neg => exact rmay_noA s d r c le ne a cap l w hl hm h0 h1 h2 h3 h4 h5 h6 h7
  exact absurd ⟨⟨h0, h1, h2, h3, h4, h5⟩, ⟨by omega, h7⟩⟩ hn
end Go.Proofs.Ytiokecadnmcpeab
