import Derived.Test.YtiokecadnmcpeabRef
import Derived.Test.YtiokecadnmcpeabRoom
import Derived.Deep.QuietTactic
import Derived.BigQuiet
namespace Go.Proofs.Ytiokecadnmcpeab
open Go.ChangeShapes Go.WideShapes Go.ChangeAt Go.RowKit

theorem priced_exists (l : List Int) (n : Int) : ∃ p r, Priced l n p r := by
  by_cases hb : Pm.bad l n
  · exact ⟨0, 8, .inl ⟨hb, rfl, rfl⟩⟩
  · by_cases ht : n ≤ Pm.total l
    · obtain ⟨h1, h2, h3, hf⟩ := not_bad hb
      obtain ⟨q, hq⟩ := Pm.price_exists hf h1 ht
      exact ⟨q, 0, .inr (.inr ⟨hb, ht, hq, rfl⟩)⟩
    · exact ⟨0, 9, .inr (.inl ⟨hb, by omega, rfl, rfl⟩)⟩

theorem price_eq (a : Option Addr) (cap : Nat) (l : List Int) (n p r : Int) (w : World) (hl : Ints w a l) (hm : l.length ≤ maxLen) (hp : Priced l n p r) :
    Calls Try.prog 55 #[.slice a l.length cap, .int .i64 n] w fun e w' => e = .returned (.tuple #[.int .i64 p, .int .i64 r]) ∧ w' = w := by
  refine (price_any a cap l n w hl hm).mono ?_
  rintro e w' ⟨⟨q, s, rfl, h⟩, rfl⟩
  obtain ⟨rfl, rfl⟩ := priced_unique h hp
  exact ⟨rfl, rfl⟩

theorem rprice_eq (a : Option Addr) (cap : Nat) (l : List Int) (n p r : Int) (w : World) (hl : Ints w a l) (hm : l.length ≤ maxLen) (hp : Priced l n p r) :
    Calls Try.prog 72 #[.slice a l.length cap, .int .i64 n] w fun e w' => e = .returned (.tuple #[.int .i64 p, .int .i64 r]) ∧ w' = w := by
  refine (rprice_any a cap l n w hl hm).mono ?_
  rintro e w' ⟨⟨q, s, rfl, h⟩, rfl⟩
  obtain ⟨rfl, rfl⟩ := priced_unique h hp
  exact ⟨rfl, rfl⟩

theorem Ints.drewN {w : World} {a : Option Addr} {l : List Int} (h : Ints w a l) (n : Nat) : Ints (w.drewN n) a l := by
  rcases h with h | ⟨b, off, ha, hc⟩
  · exact .inl h
  · exact .inr ⟨b, off, ha, fun i hi => by simpa using hc i hi⟩

theorem Ints.front {w : World} {a : Option Addr} {l m : List Int} (h : Ints w a (l ++ m)) : Ints w a l := by
  rcases h with h | ⟨b, off, ha, hc⟩
  · left; exact (List.append_eq_nil_iff.1 h).1
  · refine .inr ⟨b, off, ha, fun i hi => ?_⟩
    have := hc i (by rw [List.length_append]; omega)
    have e : (l ++ m).getD i 0 = l.getD i 0 := by simp [List.getD, List.getElem?_append_left hi]
    rw [e] at this
    exact this

theorem own_ints {w : World} {B : Nat} {v : Value} {l : List Int} (h : w.ownsRow B 3 1 v l.length (l.map (Value.int .i64))) (hne : 0 < l.length) :
    ∃ g cap, v = .slice (some ⟨g, 0, none⟩) l.length cap ∧ B ≤ g ∧ g < w.heap.size ∧ l.length ≤ cap ∧ cap ≤ maxLen ∧ Ints w (some ⟨g, 0, none⟩) l ∧ ∀ i, i < l.length → w.frozen? ⟨g, i, none⟩ = false := by
  have h' := h
  rcases h.2 with ⟨_, h0⟩ | ⟨g, cap, cur, rfl, hb, hg, h1, h2, h3, h4⟩
  · omega
  · refine ⟨g, cap, rfl, hb, (Array.getElem?_eq_some_iff.1 hg).1, h1, h2, .inr ⟨g, 0, rfl, fun i hi => ?_⟩, fun i hi => ?_⟩
    · rw [Nat.zero_add, h'.cellAt i (by omega)]
      simp [List.getD, hi]
    · exact h'.frozenAt i

theorem num_any (n : Int) (w : World) : Calls Try.prog 74 #[.int .i64 n] w fun e w' => e = .returned (.int .i64 n) ∧ w' = w := by
  go_enter Try.func74, Try.ntmps74
  go_wp2
  go_ret
  exact ⟨rfl, rfl⟩


set_option maxHeartbeats 800000 in
theorem priced_law (v0 v1 v3 v4 v5 v6 v7 v8 v9 v10 v11 : Value) (A : Int) (a : Option Addr) (cap : Nat) (l : List Int) (w : World) (hl : Ints w a l) (hreach : l.length * 8 ≤ 140737488351232) :
    Calls Try.prog 59 #[.agg #[v0, v1, .int .i64 A, v3, v4, v5, v6, v7, v8, v9, v10, v11, .slice a l.length cap]] w fun e w' => e = .returned (.bool true) ∧ Below w.heap.size w w' := by
  obtain ⟨p, r, hpr⟩ := priced_exists l A
  have hpr' : Hid (Priced l A p r) := hpr
  clear hpr
  go_enter Try.func59, Try.ntmps59
  go_wp2_with fail
  refine (roomy_any a cap l _ (by exact hl.below ((Below.refl _ _).alloc (Nat.le_refl _) _)) hreach).mono ?_
  rintro e w2 ⟨v, rfl, hown, hb2⟩
  have hrl := room_length l
  obtain ⟨g, capr, hv, hg1, hg2, hcap, hcapm, hints, _⟩ := own_ints hown (by omega)
  rw [hv]
  have hin1 : Ints w2 (some ⟨g, 0, none⟩) l := Ints.front hints
  have hl2 : Ints w2 a l := (hl.below ((Below.refl _ _).alloc (Nat.le_refl _) _)).below hb2
  have hbel : Below w.heap.size w w2 := ((Below.refl _ _).alloc (Nat.le_refl _) _).trans (hb2.mono (by simp))
  have hc2 : w2.cell? ⟨w.heap.size, 2, none⟩ = some (.int .i64 A) := (hb2.cell (p := ⟨w.heap.size, 2, none⟩) (by simp)).trans (by rw [World.cell?_alloc_at _ _ _ _ rfl]; rfl)
  have hc12 : w2.cell? ⟨w.heap.size, 12, none⟩ = some (.slice a l.length cap) := (hb2.cell (p := ⟨w.heap.size, 12, none⟩) (by simp)).trans (by rw [World.cell?_alloc_at _ _ _ _ rfl]; rfl)
  have hm : l.length ≤ maxLen := by unfold maxLen; omega
  have hi1 : (l.length : Int) ≤ (capr : Int) := by omega
  have hrl' : Hid ((room l).length = l.length + 8) := hrl
  clear hown hb2 hv hrl hg1
  go_wp2_with fail
  go_quiet ((go_at_call 55; exact Calls.quiet_of_same (price_eq _ _ l A p r _ (hin1.drewN _) hm hpr'.out)))
  go_wp2_with fail
  refine (rprice_eq _ _ l A p r _ (hl2.drewN _) hm hpr'.out).mono ?_
  rintro e w3 ⟨rfl, rfl⟩
  go_wp2_with fail
  refine (untouched_any _ _ _ _ l _ (hints.drewN _) (hl2.drewN _) hreach).mono ?_
  rintro e w3 ⟨rfl, rfl⟩
  go_wp2_with (go_at_call 74; refine (num_any _ _).mono ?_; rintro e w' ⟨rfl, rfl⟩)
  go_ret
  exact ⟨rfl, below_dn hbel _⟩
end Go.Proofs.Ytiokecadnmcpeab
