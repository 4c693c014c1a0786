import Derived.Test.YtiokecadnmcpeabFits
import Derived.Deep.RegionHeld3
namespace Go.Proofs.Ytiokecadnmcpeab
set_option linter.unusedVariables false
set_option linter.unusedSimpArgs false
open Go.ChangeShapes Go.WideShapes Go.ChangeAt Go.RowKit

set_option maxHeartbeats 1600000 in
theorem rulesof_any (s d r c le ne : Int) (st : Value) (w : World) (hs : st.oneCell' = true) :
    Calls Try.prog 38 #[.agg #[.int .i64 s, .int .i64 d, .int .i64 r, .int .i64 c, .int .i64 le, .int .i64 ne, st]] w fun e w' => e = .returned (.agg #[.int .i64 s, .int .i64 d, .int .i64 r, .int .i64 c, .int .i64 le, .int .i64 ne]) ∧ Below w.heap.size w w' := by
  go_enter Try.func38, Try.ntmps38
  go_wp2_with fail
  exact bodyPost_ret (v := .agg #[.int .i64 s, .int .i64 d, .int .i64 r, .int .i64 c, .int .i64 le, .int .i64 ne]) (by simp [results, Try.results38, go_sem]) rfl ⟨rfl, ((Below.refl _ _).alloc (Nat.le_refl _) _).alloc (by simp) _⟩

def Acc.zero : Acc := ⟨0, 0, 0, 0, 0, fun _ => 0, false⟩
def PS.zero : PS := ⟨0, 0, 0, 0, 0, 0, 0, 0, 0, 0, fun _ => Acc.zero, fun _ => 0, 0, fun _ => false⟩
/-- A new chain, with the first k amounts laid. -/
def newPS (n : Nat) (s d r c le ne : Int) (l : List Int) (k : Nat) : PS := ⟨n, s, d, r, c, le, ne, 0, 0, 0, fun i => if i < k then { Acc.zero with liquid := l.getD i 0 } else Acc.zero, fun _ => 0, 0, fun _ => false⟩
theorem zeroCells_is : Try.zeroCells65.toList = (List.range 118).map PS.zero.cell := by kernel_rfl
theorem zeroCells_at (i : Nat) (h : i < 118) : Try.zeroCells65[i]? = some (PS.zero.cell i) := by
  rw [← Array.getElem?_toList, zeroCells_is, List.getElem?_map, List.getElem?_range h]; rfl
theorem zeroCells_size : Try.zeroCells65.size = 118 := by
  have := congrArg List.length zeroCells_is
  rwa [Array.length_toList, List.length_map, List.length_range] at this
theorem newPS_cell (n : Nat) (s d r c le ne : Int) (i : Nat) (h : i < 118) (h7 : 7 ≤ i) : (newPS n s d r c le ne [] 0).cell i = PS.zero.cell i := by
  rcases PS.cell_kind h with h1 | ⟨b, k, hb, hk, rfl⟩ | ⟨k, hk, rfl⟩ | rfl | ⟨k, hk, rfl⟩
  · rw [PS.cell_num _ h1, PS.cell_num _ h1]
    rcases (show i = 7 ∨ i = 8 ∨ i = 9 by omega) with rfl | rfl | rfl <;> rfl
  · rw [PS.cell_acc _ hb hk, PS.cell_acc _ hb hk]; rfl
  · rw [PS.cell_row _ hk, PS.cell_row _ hk]; rfl
  · rfl
  · rw [PS.cell_blk _ hk, PS.cell_blk _ hk]; rfl
theorem newArr_at (n : Nat) (s d r c le ne : Int) (i : Nat) (h : i < 118) : (((((((Try.zeroCells65.setIfInBounds 0 (.int .i64 n)).setIfInBounds 1 (.int .i64 s)).setIfInBounds 2 (.int .i64 d)).setIfInBounds 3 (.int .i64 r)).setIfInBounds 4 (.int .i64 c)).setIfInBounds 5 (.int .i64 le)).setIfInBounds 6 (.int .i64 ne))[i]? = some ((newPS n s d r c le ne [] 0).cell i) := by
  by_cases h7 : i < 7
  · rw [PS.cell_num _ (by omega)]
    rcases (show i = 0 ∨ i = 1 ∨ i = 2 ∨ i = 3 ∨ i = 4 ∨ i = 5 ∨ i = 6 by omega) with rfl | rfl | rfl | rfl | rfl | rfl | rfl <;> simp [Array.getElem?_setIfInBounds, zeroCells_size, newPS, PS.num]
  · rw [newPS_cell n s d r c le ne i h (by omega)]
    rw [Array.getElem?_setIfInBounds, if_neg (by omega), Array.getElem?_setIfInBounds, if_neg (by omega), Array.getElem?_setIfInBounds, if_neg (by omega), Array.getElem?_setIfInBounds, if_neg (by omega), Array.getElem?_setIfInBounds, if_neg (by omega), Array.getElem?_setIfInBounds, if_neg (by omega), Array.getElem?_setIfInBounds, if_neg (by omega)]
    exact zeroCells_at i h
theorem sc_new (w : World) (n : Nat) (s d r c le ne : Int) : SC (w.alloc (.cells (((((((Try.zeroCells65.setIfInBounds 0 (.int .i64 n)).setIfInBounds 1 (.int .i64 s)).setIfInBounds 2 (.int .i64 d)).setIfInBounds 3 (.int .i64 r)).setIfInBounds 4 (.int .i64 c)).setIfInBounds 5 (.int .i64 le)).setIfInBounds 6 (.int .i64 ne)) 65)) w.heap.size (newPS n s d r c le ne [] 0) :=
  ⟨fun i hi => (World.cell?_alloc_at _ _ _ _ rfl).trans (newArr_at n s d r c le ne i hi), fun j => World.frozen?_alloc_at _ _ _ _ rfl⟩
theorem newPS_nil (n : Nat) (s d r c le ne : Int) (l : List Int) : newPS n s d r c le ne [] 0 = newPS n s d r c le ne l 0 := by
  unfold newPS; simp
theorem newPS_step (n : Nat) (s d r c le ne : Int) (l : List Int) (k : Nat) : (newPS n s d r c le ne l k).setAcc k { (newPS n s d r c le ne l k).acc k with liquid := l.getD k 0 } = newPS n s d r c le ne l (k + 1) := by
  simp only [PS.setAcc, newPS, PS.mk.injEq, true_and, and_true]
  funext i
  by_cases e : i = k
  · subst e; simp
  · by_cases h : i < k
    · simp [e, h, show i < k + 1 by omega]
    · simp [e, h, show ¬ i < k + 1 by omega]

set_option maxHeartbeats 1600000 in
theorem new_no1 (s d r c le ne : Int) (a : Option Addr) (cap : Nat) (l : List Int) (w : World) (hn : ¬ NumFit s d r c le ne) :
    Calls Try.prog 14 #[.agg #[.int .i64 s, .int .i64 d, .int .i64 r, .int .i64 c, .int .i64 le, .int .i64 ne, .slice a l.length cap]] w fun e w' => e = .returned (.tuple #[.pointer none, .int .i64 1]) ∧ Below w.heap.size w w' := by
  have Hn : Hid (¬ NumFit s d r c le ne) := hn
  clear hn
  go_enter Try.func14, Try.ntmps14
  go_wp2_with fail
  refine (nf_no s d r c le ne _ _ Hn.out).mono ?_
  rintro e w1 ⟨rfl, b1⟩
  have hb : Below w.heap.size w w1 := ((Below.refl _ _).alloc (Nat.le_refl _) _).trans (b1.mono (by simp))
  clear b1
  go_wp2_with fail
  go_ret2
  exact ⟨rfl, hb⟩

set_option maxHeartbeats 1600000 in
theorem new_no2 (s d r c le ne : Int) (a : Option Addr) (cap : Nat) (l : List Int) (w : World) (hl : Ints w a l) (hm : l.length * 8 ≤ 140737488351232) (hn : NumFit s d r c le ne) (hs : ¬ StartFit l) :
    Calls Try.prog 14 #[.agg #[.int .i64 s, .int .i64 d, .int .i64 r, .int .i64 c, .int .i64 le, .int .i64 ne, .slice a l.length cap]] w fun e w' => e = .returned (.tuple #[.pointer none, .int .i64 1]) ∧ Below w.heap.size w w' := by
  have Hn : Hid (NumFit s d r c le ne) := hn
  have Hs : Hid (¬ StartFit l) := hs
  clear hn hs
  go_enter Try.func14, Try.ntmps14
  go_wp2_with fail
  refine (nf_yes s d r c le ne _ _ Hn.out rfl).mono ?_
  rintro e w1 ⟨rfl, b1⟩
  have hb : Below w.heap.size w w1 := ((Below.refl _ _).alloc (Nat.le_refl _) _).trans (b1.mono (by simp))
  have h6 : w1.cell? ⟨w.heap.size, 6, none⟩ = some (.slice a l.length cap) := (b1.cell (p := ⟨w.heap.size, 6, none⟩) (by simp)).trans (by rw [World.cell?_alloc_at _ _ _ _ rfl]; rfl)
  have hl1 := hl.below hb
  clear b1
  go_wp2_with fail
  refine (sf_no a cap l _ hl1 hm Hs.out).mono ?_
  rintro e w2 ⟨rfl, rfl⟩
  go_wp2_with fail
  go_ret2
  exact ⟨rfl, hb⟩

set_option maxHeartbeats 3200000 in
theorem new_yes (s d r c le ne : Int) (a : Option Addr) (cap : Nat) (l : List Int) (w : World) (hl : Ints w a l) (hn : NumFit s d r c le ne) (hs : StartFit l) :
    Calls Try.prog 14 #[.agg #[.int .i64 s, .int .i64 d, .int .i64 r, .int .i64 c, .int .i64 le, .int .i64 ne, .slice a l.length cap]] w fun e w' => ∃ x, e = .returned (.tuple #[.pointer (some ⟨x, 0, none⟩), .int .i64 0]) ∧ SC w' x (newPS l.length s d r c le ne l l.length) ∧ w.heap.size ≤ x ∧ Below w.heap.size w w' := by
  have Hn : Hid (NumFit s d r c le ne) := hn
  have Hs : Hid (StartFit l) := hs
  have hlen6 : l.length ≤ 6 := hs.1.2
  clear hn hs
  go_enter Try.func14, Try.ntmps14
  go_wp2_with fail
  refine (nf_yes s d r c le ne _ _ Hn.out rfl).mono ?_
  rintro e w1 ⟨rfl, b1⟩
  have hb : Below w.heap.size w w1 := ((Below.refl _ _).alloc (Nat.le_refl _) _).trans (b1.mono (by simp))
  have q0 : w1.cell? ⟨w.heap.size, 0, none⟩ = some (.int .i64 s) := (b1.cell (p := ⟨w.heap.size, 0, none⟩) (by simp)).trans (by rw [World.cell?_alloc_at _ _ _ _ rfl]; rfl)
  have q1 : w1.cell? ⟨w.heap.size, 1, none⟩ = some (.int .i64 d) := (b1.cell (p := ⟨w.heap.size, 1, none⟩) (by simp)).trans (by rw [World.cell?_alloc_at _ _ _ _ rfl]; rfl)
  have q2 : w1.cell? ⟨w.heap.size, 2, none⟩ = some (.int .i64 r) := (b1.cell (p := ⟨w.heap.size, 2, none⟩) (by simp)).trans (by rw [World.cell?_alloc_at _ _ _ _ rfl]; rfl)
  have q3 : w1.cell? ⟨w.heap.size, 3, none⟩ = some (.int .i64 c) := (b1.cell (p := ⟨w.heap.size, 3, none⟩) (by simp)).trans (by rw [World.cell?_alloc_at _ _ _ _ rfl]; rfl)
  have q4 : w1.cell? ⟨w.heap.size, 4, none⟩ = some (.int .i64 le) := (b1.cell (p := ⟨w.heap.size, 4, none⟩) (by simp)).trans (by rw [World.cell?_alloc_at _ _ _ _ rfl]; rfl)
  have q5 : w1.cell? ⟨w.heap.size, 5, none⟩ = some (.int .i64 ne) := (b1.cell (p := ⟨w.heap.size, 5, none⟩) (by simp)).trans (by rw [World.cell?_alloc_at _ _ _ _ rfl]; rfl)
  have q6 : w1.cell? ⟨w.heap.size, 6, none⟩ = some (.slice a l.length cap) := (b1.cell (p := ⟨w.heap.size, 6, none⟩) (by simp)).trans (by rw [World.cell?_alloc_at _ _ _ _ rfl]; rfl)
  have hl1 := hl.below hb
  have hz : w.heap.size + 1 ≤ w1.heap.size := by have := b1.size; simpa using this
  clear b1
  go_wp2_with fail
  refine (sf_yes a cap l _ hl1 Hs.out).mono ?_
  rintro e w2 ⟨rfl, rfl⟩
  go_wp2_with fail
  have hkp := hid (show ∀ w3, Below w2.drew.heap.size w2.drew w3 → w3.cell? ⟨w.heap.size, 0, none⟩ = some (.int .i64 s) ∧ w3.cell? ⟨w.heap.size, 1, none⟩ = some (.int .i64 d) ∧ w3.cell? ⟨w.heap.size, 2, none⟩ = some (.int .i64 r) ∧ w3.cell? ⟨w.heap.size, 3, none⟩ = some (.int .i64 c) ∧ w3.cell? ⟨w.heap.size, 4, none⟩ = some (.int .i64 le) ∧ w3.cell? ⟨w.heap.size, 5, none⟩ = some (.int .i64 ne) ∧ w3.cell? ⟨w.heap.size, 6, none⟩ = some (.slice a l.length cap) by
    intro w3 b3
    have hbk : w.heap.size < w2.drew.heap.size := block_lt_of_cell q0
    exact ⟨(b3.cell (p := ⟨w.heap.size, 0, none⟩) hbk).trans q0, (b3.cell (p := ⟨w.heap.size, 1, none⟩) hbk).trans q1, (b3.cell (p := ⟨w.heap.size, 2, none⟩) hbk).trans q2, (b3.cell (p := ⟨w.heap.size, 3, none⟩) hbk).trans q3, (b3.cell (p := ⟨w.heap.size, 4, none⟩) hbk).trans q4, (b3.cell (p := ⟨w.heap.size, 5, none⟩) hbk).trans q5, (b3.cell (p := ⟨w.heap.size, 6, none⟩) hbk).trans q6⟩)
  go_region_held3 (fun w' => w'.cell? ⟨w.heap.size, 0, none⟩ = some (.int .i64 s) ∧ w'.cell? ⟨w.heap.size, 1, none⟩ = some (.int .i64 d) ∧ w'.cell? ⟨w.heap.size, 2, none⟩ = some (.int .i64 r) ∧ w'.cell? ⟨w.heap.size, 3, none⟩ = some (.int .i64 c) ∧ w'.cell? ⟨w.heap.size, 4, none⟩ = some (.int .i64 le) ∧ w'.cell? ⟨w.heap.size, 5, none⟩ = some (.int .i64 ne) ∧ w'.cell? ⟨w.heap.size, 6, none⟩ = some (.slice a l.length cap)) (go_keep)
    ((go_at_call 38; refine (rulesof_any s d r c le ne (.slice a l.length cap) _ rfl).mono ?_; rintro e w3 ⟨rfl, b3⟩; (obtain ⟨d0, d1, d2, d3, d4, d5, d6⟩ := hkp.out w3 b3)))
  have hb3 : Below w.heap.size w w3 := hb.trans (((Below.refl _ _).drew.trans b3).mono hb.size)
  have hge : w.heap.size ≤ w3.heap.size := hb3.size
  have Hsc := hid (sc_new w3 l.length s d r c le ne)
  rw [newPS_nil l.length s d r c le ne l] at Hsc
  have h6' : ∀ o, (w3.alloc o).cell? ⟨w.heap.size, 6, none⟩ = some (.slice a l.length cap) := fun o => by rw [World.cell?_alloc_past _ _ _ (block_lt_of_cell d6)]; exact d6
  have Hb0 := hid (hb3.alloc hb3.size (.cells (((((((Try.zeroCells65.setIfInBounds 0 (.int .i64 l.length)).setIfInBounds 1 (.int .i64 s)).setIfInBounds 2 (.int .i64 d)).setIfInBounds 3 (.int .i64 r)).setIfInBounds 4 (.int .i64 c)).setIfInBounds 5 (.int .i64 le)).setIfInBounds 6 (.int .i64 ne)) 65))
  generalize hW : w3.alloc (.cells (((((((Try.zeroCells65.setIfInBounds 0 (.int .i64 l.length)).setIfInBounds 1 (.int .i64 s)).setIfInBounds 2 (.int .i64 d)).setIfInBounds 3 (.int .i64 r)).setIfInBounds 4 (.int .i64 c)).setIfInBounds 5 (.int .i64 le)).setIfInBounds 6 (.int .i64 ne)) 65) = W at *
  have d6' : W.cell? ⟨w.heap.size, 6, none⟩ = some (.slice a l.length cap) := by rw [← hW]; exact h6' _
  have hlb := hb3
  clear hW h6' d0 d1 d2 d3 d4 d5 d6 hb hl1 hkp q0 q1 q2 q3 q4 q5 q6 b3 hz
  generalize w3.heap.size = x at *
  go_wp2_with fail
  go_loopw [26] (fun i wr => ∃ k : Nat, k ≤ l.length ∧ i = .int .i64 k ∧ SC wr x (newPS l.length s d r c le ne l k) ∧ Below w.heap.size w wr) (fun i _ => l.length - (intOf i).toNat)
  case atStart => exact ⟨0, Nat.zero_le _, rfl, Hsc.out, Hb0.out⟩
  case round =>
    obtain ⟨k, hk, rfl, hS, hB⟩ := hrel
    by_cases hlt : k < l.length
    · obtain ⟨b, off, ha, hc⟩ := (hl.below hB).at hlt
      subst ha
      have e0 := hS.at (a := k) (by omega) (j := 0) (by omega)
      have f0 := hS.frozen (10 + k * 11)
      have hS2 := hS.setLiq (a := k) (by omega) (l.getD k 0)
      rw [newPS_step] at hS2
      have HS2 := hid hS2.sc
      have HB2 := hid (hB.setCell (p := ⟨x, 10 + k * 11, none⟩) hge (.int .i64 (l.getD k 0)))
      have hk7 : (k : Int) < 7 := by omega
      clear hS2 hS Hsc d6' Hb0
      obtain ⟨v0, hv0⟩ : ∃ v0, ((newPS l.length s d r c le ne l k).acc k).cell 0 = v0 := ⟨_, rfl⟩
      rw [hv0, Nat.add_zero] at e0
      clear hv0
      generalize l.getD k 0 = q at *
      go_wp2_with fail
      go_roundw
      case rel => exact ⟨k + 1, by omega, by go_num, HS2.out, HB2.out⟩
      case measure => simp [intOf]; omega
    · have hkl : k = l.length := by omega
      subst hkl
      go_wp2
      go_ret2
      exact ⟨_, rfl, hS, hge, hB⟩
end Go.Proofs.Ytiokecadnmcpeab
