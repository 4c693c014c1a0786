import Derived.Test.YtiokecadnmcpeabKLoop
import Derived.Test.YtiokecadnmcpeabKSeen
import Derived.BigQuiet
namespace Go.Proofs.Ytiokecadnmcpeab
set_option linter.unusedVariables false
set_option linter.unusedSimpArgs false
open Go.ChangeShapes Go.WideShapes Go.ChangeAt Go.RowKit

theorem ktold_at {W : World} {s : PS} {B g n cap : Nat} (h : W.ownsRow B 51 6 (.slice (some ⟨g, 0, none⟩) n cap) n (s.toldTo n)) {k : Nat} (hk : k < n) : ∀ j, j < 6 → W.cell? ⟨g, k * 6 + j, none⟩ = (s.acc k).told[j]? := fun j hj => by
  rw [h.cellAt _ (by omega), s.toldTo_at n k j hk hj]
theorem kownm {w : World} {B B' e size n : Nat} {v : Value} {xs : List Value} (h : w.ownsRow B e size v n xs) (hb : B' ≤ B) : w.ownsRow B' e size v n xs := by
  refine ⟨h.1, ?_⟩
  rcases h.2 with h2 | ⟨g, cap, cur, e1, e2, rest⟩
  · exact .inl h2
  · exact .inr ⟨g, cap, cur, e1, Nat.le_trans hb e2, rest⟩
section
variable {w : World} {s : PS}
set_option maxHeartbeats 1600000 in
set_option maxRecDepth 100000 in
theorem ksame_ok (B ga ca gb cb n : Nat) (hn : n ≤ 7) (ha : w.ownsRow B 51 6 (.slice (some ⟨ga, 0, none⟩) n ca) n (s.toldTo n)) (hb : w.ownsRow B 51 6 (.slice (some ⟨gb, 0, none⟩) n cb) n (s.toldTo n)) :
    Calls Try.prog 9 #[.slice (some ⟨ga, 0, none⟩) n ca, .slice (some ⟨gb, 0, none⟩) n cb] w fun e w' => e = .returned (.bool true) ∧ Below w.heap.size w w' := by
  go_enter Try.func9, Try.ntmps9
  go_wp2_with fail
  go_loopw [5] (fun i wr => ∃ k : Nat, k ≤ n ∧ i = .int .i64 k ∧ Below w.heap.size w wr) (fun i _ => n - (intOf i).toNat)
  case atStart => exact ⟨0, Nat.zero_le _, rfl, Below.refl _ _⟩
  case round =>
    obtain ⟨k, hk, rfl, hB⟩ := hrel
    by_cases hlt : k < n
    · have l1 : (k : Int) < (n : Int) := by omega
      have hoa := (Keeps.ofBelow (F := fun _ => False) hB).owns ha (fun _ _ hf => hf)
      have hob := (Keeps.ofBelow (F := fun _ => False) hB).owns hb (fun _ _ hf => hf)
      have a0 : wr.cell? ⟨ga, k * 6, none⟩ = some (.int .i64 (s.acc k).liquid) := ktold_at hoa hlt 0 (by omega)
      have a1 : wr.cell? ⟨ga, k * 6 + 1, none⟩ = some (.int .i64 (s.acc k).locked) := ktold_at hoa hlt 1 (by omega)
      have a2 : wr.cell? ⟨ga, k * 6 + 2, none⟩ = some (.int .i64 (s.acc k).bid) := ktold_at hoa hlt 2 (by omega)
      have a3 : wr.cell? ⟨ga, k * 6 + 3, none⟩ = some (.int .i64 (s.acc k).queued) := ktold_at hoa hlt 3 (by omega)
      have a4 : wr.cell? ⟨ga, k * 6 + 4, none⟩ = some (.int .i64 (s.acc k).seats) := ktold_at hoa hlt 4 (by omega)
      have a5 : wr.cell? ⟨ga, k * 6 + 5, none⟩ = some (.int .i64 (s.acc k).shares) := ktold_at hoa hlt 5 (by omega)
      have b0 : wr.cell? ⟨gb, k * 6, none⟩ = some (.int .i64 (s.acc k).liquid) := ktold_at hob hlt 0 (by omega)
      have b1 : wr.cell? ⟨gb, k * 6 + 1, none⟩ = some (.int .i64 (s.acc k).locked) := ktold_at hob hlt 1 (by omega)
      have b2 : wr.cell? ⟨gb, k * 6 + 2, none⟩ = some (.int .i64 (s.acc k).bid) := ktold_at hob hlt 2 (by omega)
      have b3 : wr.cell? ⟨gb, k * 6 + 3, none⟩ = some (.int .i64 (s.acc k).queued) := ktold_at hob hlt 3 (by omega)
      have b4 : wr.cell? ⟨gb, k * 6 + 4, none⟩ = some (.int .i64 (s.acc k).seats) := ktold_at hob hlt 4 (by omega)
      have b5 : wr.cell? ⟨gb, k * 6 + 5, none⟩ = some (.int .i64 (s.acc k).shares) := ktold_at hob hlt 5 (by omega)
      have HB := hid hB
      clear hoa hob hB
      generalize (s.acc k).liquid = q0 at *
      generalize (s.acc k).locked = q1 at *
      generalize (s.acc k).bid = q2 at *
      generalize (s.acc k).queued = q3 at *
      generalize (s.acc k).seats = q4 at *
      generalize (s.acc k).shares = q5 at *
      go_wp2_with fail
      go_quiet (fail)
      go_wp2_with fail
      have hb2 := hid (below_dn HB.out nq)
      go_roundw
      case rel => exact ⟨k + 1, by omega, by go_num, hb2.out⟩
      case measure => simp [intOf]; omega
    · have l1 : ¬ (k : Int) < (n : Int) := by omega
      go_wp2_with fail
      go_ret
      exact ⟨rfl, hB⟩
end
end Go.Proofs.Ytiokecadnmcpeab
