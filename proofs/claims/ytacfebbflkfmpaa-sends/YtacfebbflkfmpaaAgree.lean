import Derived.Test.YtacfebbflkfmpaaNewW
import Derived.Test.YtacfebbflkfmpaaRefNew
namespace Go.Proofs.Ytacfebbflkfmpaa
set_option linter.unusedVariables false
set_option linter.unusedSimpArgs false
open Go.ChangeShapes Go.WideShapes Go.ChangeAt Go.RowKit

/-- The program's accounts are what the document's book says, in epoch 0: all is liquid. -/
structure Agree (r : RS) (acc : Nat → Acc) : Prop where
  n1 : 1 ≤ r.N
  n6 : r.N ≤ 6
  ep : r.epoch = 0
  pr : r.price = 0
  bl : r.bids = List.replicate (r.N + 1) 0
  hl : r.has = List.replicate (r.N + 1) 0
  mv : ∀ m, m ∈ r.book → m.tk = 1 ∧ (m.fk = 0 ∨ m.fk = 1)
  liq : ∀ a, a < 7 → acc a = { Acc.zero with liquid := allOf r.book 1 (a : Int) }
  tot : allOf r.book 1 (-1) = sumTo (fun a => allOf r.book 1 (a : Int)) 7
  max : allOf r.book 1 (-1) ≤ 60000000
  pos : ∀ a : Nat, a < 7 → 0 ≤ allOf r.book 1 (a : Int)

theorem allOf_none {b : List Mv} (h : ∀ m, m ∈ b → m.tk = 1 ∧ (m.fk = 0 ∨ m.fk = 1)) (k a : Int) (hk : 2 ≤ k) : allOf b k a = 0 := by
  induction b with
  | nil => rfl
  | cons m b ih =>
    have hm := h m (List.mem_cons_self ..)
    have := ih (fun m hm => h m (List.mem_cons_of_mem _ hm))
    simp only [allOf, Mv.toIn, Mv.fromIn]
    rw [if_neg (by omega), if_neg (by omega)]
    omega
theorem atOf_none {b : List Mv} (h : ∀ m, m ∈ b → m.tk = 1 ∧ (m.fk = 0 ∨ m.fk = 1)) (k a e : Int) (hk : 2 ≤ k) : atOf b k a e = 0 := by
  induction b with
  | nil => rfl
  | cons m b ih =>
    have hm := h m (List.mem_cons_self ..)
    have := ih (fun m hm => h m (List.mem_cons_of_mem _ hm))
    simp only [atOf, Mv.toAt, Mv.fromAt]
    rw [if_neg (by omega), if_neg (by omega)]
    omega

theorem sumTo_le (f : Nat → Int) (n : Nat) (h : ∀ k, k < n → 0 ≤ f k) : 0 ≤ sumTo f n ∧ ∀ k, k < n → f k ≤ sumTo f n := by
  induction n with
  | zero => exact ⟨Int.le_refl _, fun k hk => by omega⟩
  | succ n ih =>
    have ⟨i1, i2⟩ := ih (fun k hk => h k (by omega))
    have := h n (by omega)
    simp only [sumTo]
    refine ⟨by omega, fun k hk => ?_⟩
    by_cases e : k = n
    · subst e; omega
    · have := i2 k (by omega); omega

theorem Agree.le {r : RS} {acc : Nat → Acc} (h : Agree r acc) (a : Nat) (ha : a < 7) : allOf r.book 1 (a : Int) ≤ 60000000 := by
  have := (sumTo_le _ 7 h.pos).2 a ha
  have := h.tot
  have := h.max
  omega
theorem Agree.tot0 {r : RS} {acc : Nat → Acc} (h : Agree r acc) : 0 ≤ allOf r.book 1 (-1) := by
  have := (sumTo_le _ 7 h.pos).1
  have := h.tot
  omega

theorem w64_id {n : Int} (h0 : 0 ≤ n) (h1 : n ≤ 60000000) : wrap64 n = n := IntWalk.wrap64_in n ⟨by omega, by omega⟩
theorem w64_zero : wrap64 0 = 0 := IntWalk.wrap64_in 0 ⟨by omega, by omega⟩

theorem rep_getD (n a : Nat) : (List.replicate n (0 : Int)).getD a 0 = 0 := by
  by_cases h : a < n
  · simp [List.getD, h]
  · simp [List.getD, h]

section
variable {x y B : Nat} {r : RS} {acc : Nat → Acc} {v : Nat → Value}

theorem see_both (ag : Agree r acc) (a : Int) : ∃ c0 c1 c2 c3 c4 c5 er : Int,
    (∀ W, SC W x r.N 0 0 0 acc → Calls Try.prog 16 #[.pointer (some ⟨x, 0, none⟩), .int .i64 a] W fun e W' => e = .returned (.tuple #[.agg #[.int .i64 c0, .int .i64 c1, .int .i64 c2, .int .i64 c3, .int .i64 c4, .int .i64 c5], .int .i64 er]) ∧ Below W.heap.size W W') ∧
    (∀ W, RC W B y r v → Calls Try.prog 56 #[.pointer (some ⟨y, 0, none⟩), .int .i64 a] W fun e W' => e = .returned (.tuple #[.agg #[.int .i64 c0, .int .i64 c1, .int .i64 c2, .int .i64 c3, .int .i64 c4, .int .i64 c5], .int .i64 er]) ∧ Below W.heap.size W W') := by
  by_cases ha : 0 ≤ a ∧ a ≤ (r.N : Int)
  · obtain ⟨n, rfl⟩ := Int.eq_ofNat_of_zero_le ha.1
    have hn : n ≤ r.N := by omega
    have h6 := ag.n6
    have hq := ag.liq n (by omega)
    refine ⟨(acc n).liquid, (acc n).locked, (acc n).bid, (acc n).queued, (acc n).seats, (acc n).shares, 0, fun W hS => see_yes hS n hn h6, fun W hR => ?_⟩
    have hh := rsee_yes hR n hn h6 (by rw [ag.bl]; simp) (by rw [ag.hl]; simp)
    rw [ag.bl, ag.hl, rep_getD, allOf_none ag.mv 2 _ (by omega), allOf_none ag.mv 3 _ (by omega), allOf_none ag.mv 5 _ (by omega), w64_zero, w64_id (ag.pos n (by omega)) (ag.le n (by omega))] at hh
    rw [hq]
    exact hh
  · exact ⟨0, 0, 0, 0, 0, 0, 2, fun W hS => see_no hS a ha, fun W hR => rsee_no hR a ha⟩

theorem state_both (ag : Agree r acc) : ∃ c0 c1 c2 c3 c4 : Int,
    (∀ W, SC W x r.N 0 0 0 acc → Calls Try.prog 37 #[.pointer (some ⟨x, 0, none⟩)] W fun e W' => e = .returned (.agg #[.int .i64 c0, .int .i64 c1, .int .i64 c2, .int .i64 c3, .int .i64 c4]) ∧ Below W.heap.size W W') ∧
    (∀ W, RC W B y r v → Calls Try.prog 57 #[.pointer (some ⟨y, 0, none⟩)] W fun e W' => e = .returned (.agg #[.int .i64 c0, .int .i64 c1, .int .i64 c2, .int .i64 c3, .int .i64 c4]) ∧ Below W.heap.size W W') := by
  refine ⟨0, 0 + sumTo (fun a => (acc a).tot) 7, 0, 0, sumTo (fun a => (acc a).shares) 7, fun W hS => state_any hS (by omega) (by omega), fun W hR => ?_⟩
  have hh := rstate hR
  have e1 : sumTo (fun a => (acc a).tot) 7 = allOf r.book 1 (-1) := by
    rw [ag.tot]
    refine sumTo_congr 7 fun k hk => ?_
    rw [ag.liq k hk]
    simp [Acc.tot, Acc.queued, Acc.zero]
  have e2 : sumTo (fun a => (acc a).shares) 7 = 0 := by
    rw [sumTo_congr (g := fun _ => 0) 7 fun k hk => by rw [ag.liq k hk]; rfl]
    simp [sumTo]
  rw [ag.ep, ag.pr, allOf_none ag.mv 2 _ (by omega), allOf_none ag.mv 3 _ (by omega), allOf_none ag.mv 4 _ (by omega), allOf_none ag.mv 5 _ (by omega), w64_zero] at hh
  rw [e1, e2]
  have e3 : wrap64 (allOf r.book 1 (-1) + 0 + 0 + 0) = 0 + allOf r.book 1 (-1) := by
    rw [IntWalk.wrap64_in _ ⟨by have := ag.tot0; omega, by have := ag.max; omega⟩]; omega
  rw [e3] at hh
  exact hh

theorem due_both (ag : Agree r acc) (a ep : Int) (hep : (Lit.int .i64 ep).wf = true) : ∃ n er : Int,
    (∀ W, SC W x r.N 0 0 0 acc → Calls Try.prog 49 #[.pointer (some ⟨x, 0, none⟩), .int .i64 a, .int .i64 ep] W fun e W' => e = .returned (.tuple #[.int .i64 n, .int .i64 er]) ∧ Below W.heap.size W W') ∧
    (∀ W, RC W B y r v → Calls Try.prog 58 #[.pointer (some ⟨y, 0, none⟩), .int .i64 a, .int .i64 ep] W fun e W' => e = .returned (.tuple #[.int .i64 n, .int .i64 er]) ∧ Below W.heap.size W W') := by
  by_cases ha : 0 ≤ a ∧ a ≤ (r.N : Int)
  · refine ⟨0, 0, fun W hS => ?_, fun W hR => ?_⟩
    · by_cases h1 : ep ≤ 0
      · exact due_past hS a ep ha.1 ha.2 h1
      · obtain ⟨n, rfl⟩ := Int.eq_ofNat_of_zero_le ha.1
        have h6 := ag.n6
        have hn : n ≤ r.N := by omega
        by_cases h2 : 0 + 5 < ep
        · have : ep ≤ 9223372036854775807 := by
            simp only [Lit.wf, IntKind.min, IntKind.max, IntKind.signed, IntKind.bits, Bool.and_eq_true, decide_eq_true_eq, if_true] at hep
            omega
          exact due_far hS n ep this h6 hn (by omega) h2
        · obtain ⟨k, hk⟩ : ∃ k : Nat, ep = (k : Int) + 1 := ⟨(ep - 1).toNat, by omega⟩
          have hk5 : k < 5 := by omega
          subst hk
          refine due_near hS n k h6 hn hk5 0 ?_
          have hc := hS.rows n (by omega) (5 + k) (by omega)
          rw [ag.liq n (by omega)] at hc
          rw [← Nat.add_assoc] at hc
          rw [hc]
          rcases (show k = 0 ∨ k = 1 ∨ k = 2 ∨ k = 3 ∨ k = 4 by omega) with rfl | rfl | rfl | rfl | rfl <;> rfl
    · have hh := rdue_yes hR a ep ha.1 ha.2
      rw [atOf_none ag.mv 3 _ _ (by omega), w64_zero] at hh
      exact hh
  · exact ⟨0, 2, fun W hS => due_no hS a ep ha, fun W hR => rdue_no hR a ep ha⟩
end
end Go.Proofs.Ytacfebbflkfmpaa
