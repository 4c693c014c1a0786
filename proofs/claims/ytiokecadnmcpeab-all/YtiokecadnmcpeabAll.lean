import Derived.Test.YtiokecadnmcpeabRows
import Derived.Test.YtiokecadnmcpeabBook
import Derived.Test.YtiokecadnmcpeabPrice
import Derived.ProofKit
import Derived.Below
import Derived.Deep.QuietTactic
import Derived.BigQuiet
namespace Go.Proofs.Ytiokecadnmcpeab
open Go.ChangeShapes Go.WideShapes Go.ChangeAt Go.RowKit

/-- The book, as a slice in memory. -/
def Moves (w : World) (a : Option Addr) (b : List Mv) : Prop :=
  b = [] ∨ ∃ g, a = some ⟨g, 0, none⟩ ∧ ∀ i, i < b.length → ∀ j, j < 7 → w.cell? ⟨g, i * 7 + j, none⟩ = (b.getD i Mv.zero).cells[j]?

theorem Moves.below {w w' : World} {a : Option Addr} {b : List Mv} (h : Moves w a b) (hb : Below w.heap.size w w') : Moves w' a b := by
  rcases h with h | ⟨g, ha, hc⟩
  · exact .inl h
  · refine .inr ⟨g, ha, fun i hi j hj => ?_⟩
    have := hc i hi j hj
    rw [← this]
    have e : ∃ v, (b.getD i Mv.zero).cells[j]? = some v := ⟨_, List.getElem?_eq_getElem (by simpa [Mv.cells] using hj)⟩
    obtain ⟨v, hv⟩ := e
    rw [hv] at this
    exact hb.cell (block_lt_of_cell this)

theorem Moves.at {w : World} {a : Option Addr} {b : List Mv} (h : Moves w a b) {k : Nat} (hk : k < b.length) :
    ∃ g, a = some ⟨g, 0, none⟩ ∧ ∀ j, j < 7 → w.cell? ⟨g, k * 7 + j, none⟩ = (b.getD k Mv.zero).cells[j]? := by
  rcases h with rfl | ⟨g, ha, hc⟩
  · simp at hk
  · exact ⟨g, ha, hc k hk⟩

set_option maxHeartbeats 2000000 in
theorem all_any (y : Nat) (ga : Option Addr) (cap : Nat) (b : List Mv) (kind a : Int) (w : World) (hy : w.cell? ⟨y, 8, none⟩ = some (.slice ga b.length cap)) (hm : Moves w ga b) (hl : b.length * 56 ≤ 140737488355328) :
    Calls Try.prog 93 #[.pointer (some ⟨y, 0, none⟩), .int .i64 kind, .int .i64 a] w fun e w' => e = .returned (.int .i64 (wrap64 (allOf b kind a))) ∧ Below w.heap.size w w' := by
  have hyb := block_lt_of_cell hy
  go_enter Try.func93, Try.ntmps93
  go_wp2
  go_loopw [7, 8] (fun s i wr => ∃ k : Nat, k ≤ b.length ∧ i = .int .i64 k ∧ s = .int .i64 (wrap64 (allOf (b.take k) kind a)) ∧ Below w.heap.size w wr) (fun _ i _ => b.length - (intOf i).toNat)
  case atStart => exact ⟨0, Nat.zero_le _, rfl, by simp [allOf, wrap64], Below.refl _ _⟩
  case round =>
    obtain ⟨k, hk, rfl, rfl, hb⟩ := hrel
    have hyr : wr.cell? ⟨y, 8, none⟩ = some (.slice ga b.length cap) := (hb.cell hyb).trans hy
    by_cases hlt : k < b.length
    · obtain ⟨g, hga, hc⟩ := (hm.below hb).at hlt
      subst hga
      have HS := allOf_step b k hlt kind a
      generalize b.getD k Mv.zero = m at *
      have c0 : wr.cell? ⟨g, k * 7, none⟩ = some (.int .i64 m.fk) := hc 0 (by omega)
      have c1 : wr.cell? ⟨g, k * 7 + 1, none⟩ = some (.int .i64 m.fa) := hc 1 (by omega)
      have c2 : wr.cell? ⟨g, k * 7 + 2, none⟩ = some (.int .i64 m.fe) := hc 2 (by omega)
      have c3 : wr.cell? ⟨g, k * 7 + 3, none⟩ = some (.int .i64 m.tk) := hc 3 (by omega)
      have c4 : wr.cell? ⟨g, k * 7 + 4, none⟩ = some (.int .i64 m.ta) := hc 4 (by omega)
      have c5 : wr.cell? ⟨g, k * 7 + 5, none⟩ = some (.int .i64 m.te) := hc 5 (by omega)
      have c6 : wr.cell? ⟨g, k * 7 + 6, none⟩ = some (.int .i64 m.n) := hc 6 (by omega)
      have hb2 : ∀ o, Below w.heap.size w (wr.alloc o) := fun o => hb.alloc hb.size o
      clear hc
      obtain ⟨fk, fa, fe, tk, ta, te, n⟩ := m
      simp only at c0 c1 c2 c3 c4 c5 c6
      generalize hS : allOf (b.take k) kind a = S at *
      have HS' : Hid (allOf (b.take (k + 1)) kind a = S + Mv.toIn ⟨fk, fa, fe, tk, ta, te, n⟩ kind a - Mv.fromIn ⟨fk, fa, fe, tk, ta, te, n⟩ kind a) := HS
      clear HS hS
      by_cases ha : a < 0
      · have da : decide (a < 0) = true := by simpa using ha
        rcases (show (¬ tk = kind) ∨ (tk = kind) by omega) with ht | ht
        · have t0 : (tk == kind) = false := by simp [ht]
          rcases (show (¬ fk = kind) ∨ (fk = kind) by omega) with hf | hf
          · have f0 : (fk == kind) = false := by simp [hf]
            have HR : Hid (wrap64 (allOf (b.take (k + 1)) kind a) = wrap64 S) := by
              unfold Hid; rw [HS'.out]; simp only [Mv.toIn, Mv.fromIn]
              rw [if_neg (by omega), if_neg (by omega)]; unfold wrap64; omega
            clear HS' ht hf ha
            go_wp2
            go_roundw
            case rel => exact ⟨k + 1, by omega, by go_num, by rw [HR.out], hb2 _⟩
            case measure => simp [intOf]; omega
          · have f0 : (fk == kind) = true := by simp [hf]
            have HR : Hid (wrap64 (allOf (b.take (k + 1)) kind a) = wrap64 (wrap64 S - n)) := by
              unfold Hid; rw [HS'.out]; simp only [Mv.toIn, Mv.fromIn]
              rw [if_neg (by omega), if_pos (by omega)]; unfold wrap64; omega
            clear HS' ht hf ha
            go_wp2
            go_roundw
            case rel => exact ⟨k + 1, by omega, by go_num, by rw [HR.out], hb2 _⟩
            case measure => simp [intOf]; omega
        · have t0 : (tk == kind) = true := by simp [ht]
          rcases (show (¬ fk = kind) ∨ (fk = kind) by omega) with hf | hf
          · have f0 : (fk == kind) = false := by simp [hf]
            have HR : Hid (wrap64 (allOf (b.take (k + 1)) kind a) = wrap64 (wrap64 S + n)) := by
              unfold Hid; rw [HS'.out]; simp only [Mv.toIn, Mv.fromIn]
              rw [if_pos (by omega), if_neg (by omega)]; unfold wrap64; omega
            clear HS' ht hf ha
            go_wp2
            go_roundw
            case rel => exact ⟨k + 1, by omega, by go_num, by rw [HR.out], hb2 _⟩
            case measure => simp [intOf]; omega
          · have f0 : (fk == kind) = true := by simp [hf]
            have HR : Hid (wrap64 (allOf (b.take (k + 1)) kind a) = wrap64 (wrap64 (wrap64 S + n) - n)) := by
              unfold Hid; rw [HS'.out]; simp only [Mv.toIn, Mv.fromIn]
              rw [if_pos (by omega), if_pos (by omega)]; unfold wrap64; omega
            clear HS' ht hf ha
            go_wp2
            go_roundw
            case rel => exact ⟨k + 1, by omega, by go_num, by rw [HR.out], hb2 _⟩
            case measure => simp [intOf]; omega
      · have da : decide (a < 0) = false := by simpa using ha
        rcases (show (¬ tk = kind) ∨ (tk = kind ∧ ta = a) ∨ (tk = kind ∧ ¬ ta = a) by omega) with ht | ht | ht
        · have t0 : (tk == kind) = false := by simp [ht]
          rcases (show (¬ fk = kind) ∨ (fk = kind ∧ fa = a) ∨ (fk = kind ∧ ¬ fa = a) by omega) with hf | hf | hf
          · have f0 : (fk == kind) = false := by simp [hf]
            have HR : Hid (wrap64 (allOf (b.take (k + 1)) kind a) = wrap64 S) := by
              unfold Hid; rw [HS'.out]; simp only [Mv.toIn, Mv.fromIn]
              rw [if_neg (by omega), if_neg (by omega)]; unfold wrap64; omega
            clear HS' ht hf ha
            go_wp2
            go_roundw
            case rel => exact ⟨k + 1, by omega, by go_num, by rw [HR.out], hb2 _⟩
            case measure => simp [intOf]; omega
          · have f0 : (fk == kind) = true := by simp [hf]
            have f1 : (fa == a) = true := by simp [hf]
            have HR : Hid (wrap64 (allOf (b.take (k + 1)) kind a) = wrap64 (wrap64 S - n)) := by
              unfold Hid; rw [HS'.out]; simp only [Mv.toIn, Mv.fromIn]
              rw [if_neg (by omega), if_pos (by omega)]; unfold wrap64; omega
            clear HS' ht hf ha
            go_wp2
            go_roundw
            case rel => exact ⟨k + 1, by omega, by go_num, by rw [HR.out], hb2 _⟩
            case measure => simp [intOf]; omega
          · have f0 : (fk == kind) = true := by simp [hf]
            have f1 : (fa == a) = false := by simp [hf]
            have HR : Hid (wrap64 (allOf (b.take (k + 1)) kind a) = wrap64 S) := by
              unfold Hid; rw [HS'.out]; simp only [Mv.toIn, Mv.fromIn]
              rw [if_neg (by omega), if_neg (by omega)]; unfold wrap64; omega
            clear HS' ht hf ha
            go_wp2
            go_roundw
            case rel => exact ⟨k + 1, by omega, by go_num, by rw [HR.out], hb2 _⟩
            case measure => simp [intOf]; omega
        · have t0 : (tk == kind) = true := by simp [ht]
          have t1 : (ta == a) = true := by simp [ht]
          rcases (show (¬ fk = kind) ∨ (fk = kind ∧ fa = a) ∨ (fk = kind ∧ ¬ fa = a) by omega) with hf | hf | hf
          · have f0 : (fk == kind) = false := by simp [hf]
            have HR : Hid (wrap64 (allOf (b.take (k + 1)) kind a) = wrap64 (wrap64 S + n)) := by
              unfold Hid; rw [HS'.out]; simp only [Mv.toIn, Mv.fromIn]
              rw [if_pos (by omega), if_neg (by omega)]; unfold wrap64; omega
            clear HS' ht hf ha
            go_wp2
            go_roundw
            case rel => exact ⟨k + 1, by omega, by go_num, by rw [HR.out], hb2 _⟩
            case measure => simp [intOf]; omega
          · have f0 : (fk == kind) = true := by simp [hf]
            have f1 : (fa == a) = true := by simp [hf]
            have HR : Hid (wrap64 (allOf (b.take (k + 1)) kind a) = wrap64 (wrap64 (wrap64 S + n) - n)) := by
              unfold Hid; rw [HS'.out]; simp only [Mv.toIn, Mv.fromIn]
              rw [if_pos (by omega), if_pos (by omega)]; unfold wrap64; omega
            clear HS' ht hf ha
            go_wp2
            go_roundw
            case rel => exact ⟨k + 1, by omega, by go_num, by rw [HR.out], hb2 _⟩
            case measure => simp [intOf]; omega
          · have f0 : (fk == kind) = true := by simp [hf]
            have f1 : (fa == a) = false := by simp [hf]
            have HR : Hid (wrap64 (allOf (b.take (k + 1)) kind a) = wrap64 (wrap64 S + n)) := by
              unfold Hid; rw [HS'.out]; simp only [Mv.toIn, Mv.fromIn]
              rw [if_pos (by omega), if_neg (by omega)]; unfold wrap64; omega
            clear HS' ht hf ha
            go_wp2
            go_roundw
            case rel => exact ⟨k + 1, by omega, by go_num, by rw [HR.out], hb2 _⟩
            case measure => simp [intOf]; omega
        · have t0 : (tk == kind) = true := by simp [ht]
          have t1 : (ta == a) = false := by simp [ht]
          rcases (show (¬ fk = kind) ∨ (fk = kind ∧ fa = a) ∨ (fk = kind ∧ ¬ fa = a) by omega) with hf | hf | hf
          · have f0 : (fk == kind) = false := by simp [hf]
            have HR : Hid (wrap64 (allOf (b.take (k + 1)) kind a) = wrap64 S) := by
              unfold Hid; rw [HS'.out]; simp only [Mv.toIn, Mv.fromIn]
              rw [if_neg (by omega), if_neg (by omega)]; unfold wrap64; omega
            clear HS' ht hf ha
            go_wp2
            go_roundw
            case rel => exact ⟨k + 1, by omega, by go_num, by rw [HR.out], hb2 _⟩
            case measure => simp [intOf]; omega
          · have f0 : (fk == kind) = true := by simp [hf]
            have f1 : (fa == a) = true := by simp [hf]
            have HR : Hid (wrap64 (allOf (b.take (k + 1)) kind a) = wrap64 (wrap64 S - n)) := by
              unfold Hid; rw [HS'.out]; simp only [Mv.toIn, Mv.fromIn]
              rw [if_neg (by omega), if_pos (by omega)]; unfold wrap64; omega
            clear HS' ht hf ha
            go_wp2
            go_roundw
            case rel => exact ⟨k + 1, by omega, by go_num, by rw [HR.out], hb2 _⟩
            case measure => simp [intOf]; omega
          · have f0 : (fk == kind) = true := by simp [hf]
            have f1 : (fa == a) = false := by simp [hf]
            have HR : Hid (wrap64 (allOf (b.take (k + 1)) kind a) = wrap64 S) := by
              unfold Hid; rw [HS'.out]; simp only [Mv.toIn, Mv.fromIn]
              rw [if_neg (by omega), if_neg (by omega)]; unfold wrap64; omega
            clear HS' ht hf ha
            go_wp2
            go_roundw
            case rel => exact ⟨k + 1, by omega, by go_num, by rw [HR.out], hb2 _⟩
            case measure => simp [intOf]; omega
    · go_wp2
      go_ret
      exact ⟨ret_int (by rw [List.take_of_length_le (by omega)]), hb⟩
end Go.Proofs.Ytiokecadnmcpeab
