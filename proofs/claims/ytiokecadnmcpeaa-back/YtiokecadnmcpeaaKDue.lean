import Derived.Test.YtiokecadnmcpeaaKBackP
import Derived.Test.YtiokecadnmcpeaaKMint
import Derived.BigQuiet
import Derived.Test.YtiokecadnmcpeaaPDue
namespace Go.Proofs.Ytiokecadnmcpeaa
set_option linter.unusedVariables false
set_option linter.unusedSimpArgs false
open Go.ChangeShapes Go.WideShapes Go.ChangeAt Go.RowKit

/-- What is due to account a, n epochs on. -/
def PS.dues (s : PS) (a n : Nat) : List Value := (List.range n).map (fun j => Value.int .i64 ((s.acc a).q j))
theorem PS.dues_succ (s : PS) (a n : Nat) : s.dues a (n + 1) = s.dues a n ++ [.int .i64 ((s.acc a).q n)] := by simp [PS.dues, List.range_succ]
theorem PS.dues_at (s : PS) (a n j : Nat) (hj : j < n) : (s.dues a n)[j]? = some (.int .i64 ((s.acc a).q j)) := by simp [PS.dues, hj]
theorem due_step {w w1 w2 : World} {o : Obj} {v : Value} {B e size n : Nat} {xs : List Value} (hB : Below B w w1) (hb : B ≤ w.heap.size) (hown : w1.ownsRow B e size v n xs) (hg : (w1.alloc o).grownBy w2 v.ownBlock) : Below B w w2 :=
  hB.trans ((((Keeps.refl (fun k => B ≤ k) w1).alloc o)).grown hg (fun k hk _ => (hown.lt k hk).1) |>.below (Nat.le_trans hb hB.size) (fun i hi => hi))

theorem kown_mono {w : World} {B B' e size n : Nat} {v : Value} {xs : List Value} (h : w.ownsRow B e size v n xs) (hb : B' ≤ B) : w.ownsRow B' e size v n xs := by
  refine ⟨h.1, ?_⟩
  rcases h.2 with h2 | ⟨g, cap, cur, e1, e2, rest⟩
  · exact .inl h2
  · exact .inr ⟨g, cap, cur, e1, Nat.le_trans hb e2, rest⟩

section
variable {w : World} {x : Nat} {s : PS}
set_option maxHeartbeats 1600000 in
set_option maxRecDepth 100000 in
theorem kdue_any (h : SC w x s) (ok : s.Ok) (he : s.epoch ≤ 4611686018427387905) (i : Nat) (hi7 : i ≤ s.N) (c0 r c le ne : Int) (st : Value) (hst : st.oneCell' = true) (D : Nat) (hD : s.delay = (D : Int)) :
    Calls Try.prog 43 #[.pointer (some ⟨x, 0, none⟩), .agg #[.int .i64 c0, .int .i64 s.delay, .int .i64 r, .int .i64 c, .int .i64 le, .int .i64 ne, st], .int .i64 i] w fun e w' => ∃ g cp, e = .returned (.tuple #[.slice (some ⟨g, 0, none⟩) D cp, .bool true]) ∧ w'.ownsRow w.heap.size 3 1 (.slice (some ⟨g, 0, none⟩) D cp) D (s.dues i D) ∧ Below w.heap.size w w' := by
  obtain ⟨i0, hi, hz0, hz1, hz2⟩ := info_parts Try.info_int
  have hN := ok.N6
  have hd := ok.delay
  have he0 := ok.e0
  have hD5 : 2 ≤ D ∧ D ≤ 5 := by omega
  have HD := hid hD
  clear hD
  have hb := (Below.refl w.heap.size w).alloc (Nat.le_refl _) (.cells #[.int .i64 c0, .int .i64 s.delay, .int .i64 r, .int .i64 c, .int .i64 le, .int .i64 ne, st] 25)
  have g1 : (w.alloc (.cells #[.int .i64 c0, .int .i64 s.delay, .int .i64 r, .int .i64 c, .int .i64 le, .int .i64 ne, st] 25)).cell? ⟨w.heap.size, 1, none⟩ = some (.int .i64 s.delay) := by rw [World.cell?_alloc_at _ _ _ _ rfl]; rfl
  have hS0 := hid (h.below hb)
  have HB := hid hb
  have G1 := hid g1
  have fs0 := field_st0
  clear hb g1 h
  go_enter Try.func43, Try.ntmps43
  go_wp2_with fail
  refine (state_any hS0.out ok).mono ?_
  rintro e w1 ⟨rfl, b1⟩
  have hS1 := hid (hS0.out.below b1)
  have c1 := (b1.cell (block_lt_of_cell G1.out)).trans G1.out
  have HB1 := hid (HB.out.trans (b1.mono HB.out.size))
  clear b1 hS0 HB G1
  go_wp2_with fail
  go_loopw [9, 10] (fun v i' wr => ∃ k : Nat, k ≤ D ∧ i' = .int .i64 ((k : Int) + 1) ∧ wr.ownsRow w1.heap.size 3 1 v k (s.dues i k) ∧ Below w1.heap.size w1 wr) (fun _ i' _ => D + 1 - (intOf i').toNat)
  case atStart => exact ⟨0, Nat.zero_le _, rfl, World.ownsRow_nil _ _ _ _, Below.refl _ _⟩
  case round =>
    obtain ⟨k, hk, rfl, hown, hB⟩ := hrel
    have hsz := hB.size
    have c1' : wr.cell? ⟨w.heap.size, 1, none⟩ = some (.int .i64 s.delay) := (hB.cell (block_lt_of_cell c1)).trans c1
    by_cases hlt : k < D
    · have l1 : (k : Int) + 1 ≤ s.delay := by have := HD.out; omega
      have hSr := hid (hS1.out.below hB)
      have e2 := hid (s.dues_succ i k)
      have Hown := hid hown
      have HBr := hid hB
      clear hown hB
      go_wp2_with fail
      refine (due_near hSr.out ok i k hi7 (by omega)).mono ?_
      rintro e w2 ⟨rfl, b2⟩
      have Hown2 := hid ((Keeps.ofBelow (F := fun _ => False) b2).owns Hown.out (fun _ _ hf => hf))
      have HB2 := hid (HBr.out.trans (b2.mono hsz))
      have hsz2 := b2.size
      generalize (s.acc i).q k = q at *
      clear b2 Hown HBr hSr
      go_wp2_with (at_builtin; (refine wpList_append_lies _ rfl (.tmp 33) (.tmp 35) 23 rfl w1.heap.size 3 i0 (.int .i64 0) 1 8 Try.underlying23 hi hz0 hz1 hz2 rfl (by decide) _ k (s.dues i k) rfl (Hown2.out.alloc _) ⟨w2.heap.size, 0, none⟩ 1 1 [.int .i64 q] rfl rfl (kone_lies _ _ _) (by intro u hu; simp at hu; subst hu; rfl) (by decide) (by unfold maxLen; omega) (by omega) (by simp; omega) (w2.heap.size + 1) (by simp) ?_); intro g1 cap1 w3 hown' hg hat hlt1; have hb3 := hid (due_step HB2.out (Nat.le_refl _) Hown2.out hg); have ho3 := hid (show w3.ownsRow w1.heap.size 3 1 (.slice (some ⟨g1, 0, none⟩) (k + 1) cap1) (k + 1) (s.dues i (k + 1)) by rw [e2.out]; exact hown'); clear hown' hg)
      go_roundw
      case rel => exact ⟨k + 1, by omega, by go_num, ho3.out, hb3.out⟩
      case measure => simp [intOf]; omega
    · have hkD : k = D := by omega
      subst hkD
      have l1 : ¬ (k : Int) + 1 ≤ s.delay := by have := HD.out; omega
      obtain ⟨g, cp, hv⟩ := kown_form hown (by omega)
      subst hv
      have ho2 := hid (kown_mono hown HB1.out.size)
      have hb2 := hid (HB1.out.trans (hB.mono HB1.out.size))
      clear hown hB
      go_wp2_with fail
      go_ret2
      exact ⟨g, cp, rfl, ho2.out, hb2.out⟩
end
end Go.Proofs.Ytiokecadnmcpeaa
