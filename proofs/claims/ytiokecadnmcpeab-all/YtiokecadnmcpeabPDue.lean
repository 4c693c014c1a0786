import Derived.Test.YtiokecadnmcpeabPCalls
namespace Go.Proofs.Ytiokecadnmcpeab
set_option linter.unusedVariables false
set_option linter.unusedSimpArgs false
open Go.ChangeShapes Go.WideShapes Go.ChangeAt Go.RowKit
section
variable {w : World} {x : Nat} {s : PS}

set_option maxHeartbeats 800000 in
theorem duein_zero (b off : Nat) (k : Int) (w : World) (hk : ¬ (1 ≤ k ∧ k ≤ 5)) :
    Calls Try.prog 95 #[.pointer (some ⟨b, off, none⟩), .int .i64 k] w fun e w' => e = .returned (.int .i64 0) ∧ w' = w := by
  have Hk : Hid (¬ (1 ≤ k ∧ k ≤ 5)) := hk
  clear hk
  go_enter Try.func95, Try.ntmps95
  go_wp2_with fail
  refine (within_no _ _ _ _ Hk.out).mono ?_
  rintro e w1 ⟨rfl, rfl⟩
  go_wp2
  go_ret
  exact ⟨rfl, rfl⟩

set_option maxHeartbeats 800000 in
theorem duein_some (b off : Nat) (k : Nat) (q : Int) (w : World) (hk : k < 5) (hc : w.cell? ⟨b, off + 5 + k, none⟩ = some (.int .i64 q)) :
    Calls Try.prog 95 #[.pointer (some ⟨b, off, none⟩), .int .i64 ((k : Int) + 1)] w fun e w' => e = .returned (.int .i64 q) ∧ w' = w := by
  have h1 : (1 : Int) ≤ (k : Int) + 1 := by omega
  have h2 : (k : Int) + 1 ≤ 5 := by omega
  go_enter Try.func95, Try.ntmps95
  go_wp2_with fail
  refine (within_yes _ _ _ _ h1 h2).mono ?_
  rintro e w1 ⟨rfl, rfl⟩
  go_wp2
  go_ret
  exact ⟨rfl, rfl⟩

set_option maxHeartbeats 800000 in
theorem due_no (h : SC w x s) (a ep : Int) (hn : ¬ (0 ≤ a ∧ a ≤ (s.N : Int))) :
    Calls Try.prog 78 #[.pointer (some ⟨x, 0, none⟩), .int .i64 a, .int .i64 ep] w fun e w' => e = .returned (.tuple #[.int .i64 0, .int .i64 2]) ∧ Below w.heap.size w w' := by
  have Hn : Hid (¬ (0 ≤ a ∧ a ≤ (s.N : Int))) := hn
  clear hn
  go_enter Try.func78, Try.ntmps78
  go_wp2_with fail
  refine (isacc_no h _ Hn.out).mono ?_
  rintro e w1 ⟨rfl, rfl⟩
  go_wp2_with fail
  go_ret2
  exact ⟨rfl, Below.refl _ _⟩

set_option maxHeartbeats 800000 in
theorem due_past (h : SC w x s) (a ep : Int) (h1 : 0 ≤ a) (h2 : a ≤ (s.N : Int)) (he : ep ≤ s.epoch) :
    Calls Try.prog 78 #[.pointer (some ⟨x, 0, none⟩), .int .i64 a, .int .i64 ep] w fun e w' => e = .returned (.tuple #[.int .i64 0, .int .i64 0]) ∧ Below w.heap.size w w' := by
  have c1 : w.cell? ⟨x, 7, none⟩ = some (.int .i64 s.epoch) := h.num (j := 7) (by omega)
  go_enter Try.func78, Try.ntmps78
  go_wp2_with fail
  refine (isacc_yes h _ h1 h2).mono ?_
  rintro e w1 ⟨rfl, rfl⟩
  go_wp2_with fail
  go_ret2
  exact ⟨rfl, Below.refl _ _⟩

set_option maxHeartbeats 800000 in
theorem due_far (h : SC w x s) (a : Nat) (ep : Int) (hep : ep ≤ 9223372036854775807) (ok : s.Ok) (h2 : a ≤ s.N) (he : s.epoch + 5 < ep) :
    Calls Try.prog 78 #[.pointer (some ⟨x, 0, none⟩), .int .i64 a, .int .i64 ep] w fun e w' => e = .returned (.tuple #[.int .i64 0, .int .i64 0]) ∧ Below w.heap.size w w' := by
  have c1 : w.cell? ⟨x, 7, none⟩ = some (.int .i64 s.epoch) := h.num (j := 7) (by omega)
  have hp6 := ok.N6
  have he0 := ok.e0
  have g1 : (0 : Int) ≤ (a : Int) := by omega
  have g2 : (a : Int) ≤ (s.N : Int) := by omega
  have g3 : (a : Int) < 7 := by omega
  have hz : Hid (¬ (1 ≤ ep - s.epoch ∧ ep - s.epoch ≤ 5)) := by unfold Hid; omega
  go_enter Try.func78, Try.ntmps78
  go_wp2_with fail
  refine (isacc_yes h _ g1 g2).mono ?_
  rintro e w1 ⟨rfl, rfl⟩
  go_wp2_with fail
  go_quiet ((go_at_call 95; exact Calls.quiet_of_same (duein_zero _ _ _ _ hz.out)))
  go_wp2_with fail
  go_ret2
  exact ⟨rfl, below_dn (Below.refl _ _) _⟩

set_option maxHeartbeats 800000 in
theorem due_near (h : SC w x s) (ok : s.Ok) (a k : Nat) (h2 : a ≤ s.N) (hk : k < 5) :
    Calls Try.prog 78 #[.pointer (some ⟨x, 0, none⟩), .int .i64 a, .int .i64 (s.epoch + ((k : Int) + 1))] w fun e w' => e = .returned (.tuple #[.int .i64 ((s.acc a).q k), .int .i64 0]) ∧ Below w.heap.size w w' := by
  have hp6 := ok.N6
  have he0 := ok.e0
  have he1 := ok.e1
  have c1 : w.cell? ⟨x, 7, none⟩ = some (.int .i64 s.epoch) := h.num (j := 7) (by omega)
  have g1 : (0 : Int) ≤ (a : Int) := by omega
  have g2 : (a : Int) ≤ (s.N : Int) := by omega
  have g3 : (a : Int) < 7 := by omega
  have hq := h.que (a := a) (k := k) (by omega) hk
  have Hq := hid hq
  clear hq
  obtain ⟨ep, hep⟩ : ∃ ep, s.epoch + ((k : Int) + 1) = ep := ⟨_, rfl⟩
  rw [hep]
  have Hep := hid (show ep - s.epoch = (k : Int) + 1 by omega)
  have hlt : ¬ ep ≤ s.epoch := by omega
  have hub : ep ≤ 4611686018427387911 := by omega
  clear hep
  go_enter Try.func78, Try.ntmps78
  go_wp2_with fail
  refine (isacc_yes h _ g1 g2).mono ?_
  rintro e w1 ⟨rfl, rfl⟩
  go_wp2_with fail
  go_quiet ((go_at_call 95; rw [Hep.out]; exact Calls.quiet_of_same (duein_some _ _ k ((s.acc a).q k) _ hk (by exact Hq.out))))
  go_wp2_with fail
  go_ret2
  exact ⟨rfl, below_dn (Below.refl _ _) _⟩

end
end Go.Proofs.Ytiokecadnmcpeab
