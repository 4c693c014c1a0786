import Derived.Test.YtacfebbflkfmpaaFits
namespace Go.Proofs.Ytacfebbflkfmpaa
set_option linter.unusedVariables false
set_option linter.unusedSimpArgs false
open Go.ChangeShapes Go.WideShapes Go.ChangeAt Go.RowKit

def Acc.zero : Acc := ⟨0, 0, 0, 0, 0, 0, 0, 0, 0, 0⟩
def accOf (l : List Int) (k : Nat) : Nat → Acc := fun i => if i < k then { Acc.zero with liquid := l.getD i 0 } else Acc.zero
theorem Acc.zero_ok : Acc.zero.Ok := by constructor <;> simp [Acc.zero]

theorem accOf_step (l : List Int) (k : Nat) : updL (accOf l k) k (l.getD k 0) = accOf l (k + 1) := by
  funext i
  unfold updL accOf
  by_cases e : i = k
  · subst e; simp
  · by_cases h : i < k
    · simp [e, h, show i < k + 1 by omega]
    · simp [e, h, show ¬ i < k + 1 by omega]

theorem zeroCells_is : Try.zeroCells83 = Array.replicate 74 (.int .i64 0) := by kernel_rfl
theorem chainZero_at (n : Int) (i : Nat) (h1 : 1 ≤ i) (h2 : i < 74) : (Try.zeroCells83.setIfInBounds 0 (.int .i64 n))[i]? = some (.int .i64 0) := by
  rw [zeroCells_is, Array.getElem?_setIfInBounds, if_neg (by omega), Array.getElem?_replicate, if_pos h2]
theorem chainZero_first (n : Int) : (Try.zeroCells83.setIfInBounds 0 (.int .i64 n))[0]? = some (.int .i64 n) := by
  rw [zeroCells_is, Array.getElem?_setIfInBounds, if_pos rfl, if_pos (by simp)]

theorem sc_zero (w : World) (n : Nat) : SC (w.alloc (.cells (Try.zeroCells83.setIfInBounds 0 (.int .i64 n)) 83)) w.heap.size n 0 0 0 (accOf [] 0) := by
  have hc : ∀ j, (w.alloc (.cells (Try.zeroCells83.setIfInBounds 0 (.int .i64 n)) 83)).cell? ⟨w.heap.size, j, none⟩ = (Try.zeroCells83.setIfInBounds 0 (.int .i64 n))[j]? := fun j => World.cell?_alloc_at _ _ _ _ rfl
  refine ⟨(hc 0).trans (chainZero_first _), (hc 1).trans (chainZero_at _ _ (by omega) (by omega)), (hc 2).trans (chainZero_at _ _ (by omega) (by omega)), (hc 3).trans (chainZero_at _ _ (by omega) (by omega)), fun a ha j hj => ?_, fun j => World.frozen?_alloc_at _ _ _ _ rfl, fun a ha => ?_⟩
  · rw [hc, chainZero_at _ _ (by omega) (by omega)]
    simp only [accOf, Nat.not_lt_zero, if_false]
    rcases (show j = 0 ∨ j = 1 ∨ j = 2 ∨ j = 3 ∨ j = 4 ∨ j = 5 ∨ j = 6 ∨ j = 7 ∨ j = 8 ∨ j = 9 by omega) with rfl | rfl | rfl | rfl | rfl | rfl | rfl | rfl | rfl | rfl <;> rfl
  · simp only [accOf, Nat.not_lt_zero, if_false]; exact Acc.zero_ok

def cfgAgg (s d r c le ne : Int) (a : Option Addr) (n cap : Nat) : Value := .agg #[.int .i64 s, .int .i64 d, .int .i64 r, .int .i64 c, .int .i64 le, .int .i64 ne, .slice a n cap]

set_option maxHeartbeats 1600000 in
theorem new_no1 (s d r c le ne : Int) (a : Option Addr) (cap : Nat) (l : List Int) (w : World) (hn : ¬ NumFit s d r c le ne) :
    Calls Try.prog 29 #[.agg #[.int .i64 s, .int .i64 d, .int .i64 r, .int .i64 c, .int .i64 le, .int .i64 ne, .slice a l.length cap]] w fun e w' => e = .returned (.tuple #[.pointer none, .int .i64 1]) ∧ Below w.heap.size w w' := by
  have Hn : Hid (¬ NumFit s d r c le ne) := hn
  clear hn
  go_enter Try.func29, Try.ntmps29
  go_wp2_with fail
  refine (nf_no s d r c le ne _ _ Hn.out).mono ?_
  rintro e w1 ⟨rfl, b1⟩
  have hb : Below w.heap.size w w1 := ((Below.refl _ _).alloc (Nat.le_refl _) _).trans (b1.mono (by simp))
  clear b1
  go_wp2_with fail
  go_ret2
  exact ⟨rfl, hb⟩

set_option maxHeartbeats 1600000 in
theorem new_no2 (s d r c le ne : Int) (a : Option Addr) (cap : Nat) (l : List Int) (w : World) (hl : Ints w a l) (hm : l.length * 8 ≤ 140737488351232) (hn : NumFit s d r c le ne) (hs : ¬ StartFit l) :
    Calls Try.prog 29 #[.agg #[.int .i64 s, .int .i64 d, .int .i64 r, .int .i64 c, .int .i64 le, .int .i64 ne, .slice a l.length cap]] w fun e w' => e = .returned (.tuple #[.pointer none, .int .i64 1]) ∧ Below w.heap.size w w' := by
  have Hn : Hid (NumFit s d r c le ne) := hn
  have Hs : Hid (¬ StartFit l) := hs
  clear hn hs
  go_enter Try.func29, Try.ntmps29
  go_wp2_with fail
  refine (nf_yes s d r c le ne _ _ Hn.out rfl).mono ?_
  rintro e w1 ⟨rfl, b1⟩
  have hb : Below w.heap.size w w1 := ((Below.refl _ _).alloc (Nat.le_refl _) _).trans (b1.mono (by simp))
  have h6 : w1.cell? ⟨w.heap.size, 6, none⟩ = some (.slice a l.length cap) := (b1.cell (p := ⟨w.heap.size, 6, none⟩) (by simp)).trans (by rw [World.cell?_alloc_at _ _ _ _ rfl]; rfl)
  have hl1 := hl.below hb
  clear b1
  go_wp2_with fail
  refine (sf_no a cap l _ hl1 hm Hs.out).mono ?_
  rintro e w2 ⟨rfl, rfl⟩
  go_wp2_with fail
  go_ret2
  exact ⟨rfl, hb⟩

set_option maxHeartbeats 3200000 in
theorem new_yes (s d r c le ne : Int) (a : Option Addr) (cap : Nat) (l : List Int) (w : World) (hl : Ints w a l) (hn : NumFit s d r c le ne) (hs : StartFit l) :
    Calls Try.prog 29 #[.agg #[.int .i64 s, .int .i64 d, .int .i64 r, .int .i64 c, .int .i64 le, .int .i64 ne, .slice a l.length cap]] w fun e w' => ∃ x, e = .returned (.tuple #[.pointer (some ⟨x, 0, none⟩), .int .i64 0]) ∧ SC w' x l.length 0 0 0 (accOf l l.length) ∧ w.heap.size ≤ x ∧ Below w.heap.size w w' := by
  have Hn : Hid (NumFit s d r c le ne) := hn
  have Hs : Hid (StartFit l) := hs
  have hlen6 : l.length ≤ 6 := hs.1.2
  clear hn hs
  go_enter Try.func29, Try.ntmps29
  go_wp2_with fail
  refine (nf_yes s d r c le ne _ _ Hn.out rfl).mono ?_
  rintro e w1 ⟨rfl, b1⟩
  have hb : Below w.heap.size w w1 := ((Below.refl _ _).alloc (Nat.le_refl _) _).trans (b1.mono (by simp))
  have h6 : w1.cell? ⟨w.heap.size, 6, none⟩ = some (.slice a l.length cap) := (b1.cell (p := ⟨w.heap.size, 6, none⟩) (by simp)).trans (by rw [World.cell?_alloc_at _ _ _ _ rfl]; rfl)
  have hl1 := hl.below hb
  have hz : w.heap.size + 1 ≤ w1.heap.size := by have := b1.size; simpa using this
  clear b1
  go_wp2_with fail
  refine (sf_yes a cap l _ hl1 Hs.out).mono ?_
  rintro e w2 ⟨rfl, rfl⟩
  have hsc := sc_zero w2 l.length
  have h62 : ∀ o, (w2.alloc o).cell? ⟨w.heap.size, 6, none⟩ = some (.slice a l.length cap) := fun o => by rw [World.cell?_alloc_past _ _ _ (block_lt_of_cell h6)]; exact h6
  have Hsc : Hid _ := hsc
  clear hsc
  go_wp2_with fail
  have hb0 : Below w.heap.size w (w2.alloc (.cells (Try.zeroCells83.setIfInBounds 0 (.int .i64 l.length)) 83)) := hb.alloc hb.size _
  have hge : w.heap.size ≤ w2.heap.size := hb.size
  have Hb0 : Hid _ := hb0
  clear hb0
  change Code.wp _ _ _ _ (w2.alloc (.cells (Try.zeroCells83.setIfInBounds 0 (.int .i64 l.length)) 83))
  go_loopw [24] (fun i wr => ∃ k : Nat, k ≤ l.length ∧ i = .int .i64 k ∧ SC wr w2.heap.size l.length 0 0 0 (accOf l k) ∧ Below w.heap.size w wr) (fun i _ => l.length - (intOf i).toNat)
  case atStart => exact ⟨0, Nat.zero_le _, rfl, Hsc.out, Hb0.out⟩
  case round =>
    obtain ⟨k, hk, rfl, hS, hB⟩ := hrel
    by_cases hlt : k < l.length
    · obtain ⟨b, off, ha, hc⟩ := (hl.below hB).at hlt
      subst ha
      have hx := Hs.out.2 k hlt
      have e0 : ∃ v, wr.cell? ⟨w2.heap.size, 4 + k * 10, none⟩ = some v := ⟨_, hS.rows k (by omega) 0 (by omega)⟩
      obtain ⟨v0, e0⟩ := e0
      have f0 : wr.frozen? ⟨w2.heap.size, 4 + k * 10, none⟩ = false := hS.frozen _
      have hS2 := hS.setL k (by omega) (l.getD k 0) hx.1 (by omega)
      rw [accOf_step] at hS2
      have HS2 : Hid _ := hS2
      have HB2 : Hid (Below w.heap.size w (wr.setCell ⟨w2.heap.size, 4 + k * 10, none⟩ (.int .i64 (l.getD k 0)))) := hB.setCell hge _
      have hk7 : (k : Int) < 7 := by omega
      clear hS2 hS h62 h6 hl1 Hsc
      generalize l.getD k 0 = q at *
      go_wp2_with fail
      go_roundw
      case rel => exact ⟨k + 1, by omega, by go_num, HS2.out, HB2.out⟩
      case measure => simp [intOf]; omega
    · have hkl : k = l.length := by omega
      subst hkl
      go_wp2
      go_ret2
      exact ⟨_, rfl, hS, hge, hB⟩
end Go.Proofs.Ytacfebbflkfmpaa
