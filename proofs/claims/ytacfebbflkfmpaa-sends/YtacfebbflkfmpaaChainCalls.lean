import Derived.Test.YtacfebbflkfmpaaChain
namespace Go.Proofs.Ytacfebbflkfmpaa
open Go.ChangeShapes Go.WideShapes Go.ChangeAt Go.RowKit

/-- A chain of the program's, as it lies in memory. -/
structure SC (w : World) (x : Nat) (people : Nat) (epoch treasury price : Int) (acc : Nat → Acc) : Prop where
  c0 : w.cell? ⟨x, 0, none⟩ = some (.int .i64 people)
  c1 : w.cell? ⟨x, 1, none⟩ = some (.int .i64 epoch)
  c2 : w.cell? ⟨x, 2, none⟩ = some (.int .i64 treasury)
  c3 : w.cell? ⟨x, 3, none⟩ = some (.int .i64 price)
  rows : ∀ a, a < 7 → ∀ j, j < 10 → w.cell? ⟨x, 4 + a * 10 + j, none⟩ = (acc a).cells[j]?
  frozen : ∀ j, w.frozen? ⟨x, j, none⟩ = false
  ok : ∀ a, a < 7 → (acc a).Ok

section
variable {w : World} {x people : Nat} {epoch treasury price : Int} {acc : Nat → Acc}

theorem SC.lt (h : SC w x people epoch treasury price acc) : x < w.heap.size := block_lt_of_cell h.c0

theorem SC.keeps {w' : World} (h : SC w x people epoch treasury price acc) {F : Nat → Prop} (k : Keeps F w w') (hF : ¬ F x) : SC w' x people epoch treasury price acc := by
  have hc : ∀ j, w'.cell? ⟨x, j, none⟩ = w.cell? ⟨x, j, none⟩ := fun j => World.cell?_of_block (k.block x h.lt hF)
  have hf : ∀ j, w'.frozen? ⟨x, j, none⟩ = w.frozen? ⟨x, j, none⟩ := fun j => World.frozen?_of_block (k.block x h.lt hF)
  exact ⟨(hc _).trans h.c0, (hc _).trans h.c1, (hc _).trans h.c2, (hc _).trans h.c3, fun a ha j hj => (hc _).trans (h.rows a ha j hj), fun j => (hf j).trans (h.frozen j), h.ok⟩

theorem SC.below {w' : World} (h : SC w x people epoch treasury price acc) (k : Below w.heap.size w w') : SC w' x people epoch treasury price acc :=
  h.keeps (F := fun _ => False) (Keeps.ofBelow k) (fun hf => hf)
theorem SC.dn (h : SC w x people epoch treasury price acc) (n : Nat) : SC (w.drewN n) x people epoch treasury price acc :=
  h.keeps (F := fun _ => False) ((Keeps.refl _ _).dn n) (fun hf => hf)

theorem isacc_yes (h : SC w x people epoch treasury price acc) (a : Int) (h1 : 0 ≤ a) (h2 : a ≤ (people : Int)) :
    Calls Try.prog 38 #[.pointer (some ⟨x, 0, none⟩), .int .i64 a] w fun e w' => e = .returned (.bool true) ∧ w' = w := by
  have c0 := h.c0
  go_enter Try.func38, Try.ntmps38
  go_wp2_with fail
  refine (within_yes _ _ _ _ h1 h2).mono ?_
  rintro e w1 ⟨rfl, rfl⟩
  go_wp2
  go_ret
  exact ⟨rfl, rfl⟩
theorem isacc_no (h : SC w x people epoch treasury price acc) (a : Int) (hn : ¬ (0 ≤ a ∧ a ≤ (people : Int))) :
    Calls Try.prog 38 #[.pointer (some ⟨x, 0, none⟩), .int .i64 a] w fun e w' => e = .returned (.bool false) ∧ w' = w := by
  have c0 := h.c0
  have Hn : Hid (¬ (0 ≤ a ∧ a ≤ (people : Int))) := hn
  clear hn
  go_enter Try.func38, Try.ntmps38
  go_wp2_with fail
  refine (within_no _ _ _ _ Hn.out).mono ?_
  rintro e w1 ⟨rfl, rfl⟩
  go_wp2
  go_ret
  exact ⟨rfl, rfl⟩
theorem isper_yes (h : SC w x people epoch treasury price acc) (hp : 1 ≤ people) (hp6 : people ≤ 6) (a : Int) (h1 : 0 ≤ a) (h2 : a ≤ (people : Int) - 1) :
    Calls Try.prog 50 #[.pointer (some ⟨x, 0, none⟩), .int .i64 a] w fun e w' => e = .returned (.bool true) ∧ w' = w := by
  have c0 := h.c0
  go_enter Try.func50, Try.ntmps50
  go_wp2_with fail
  refine (within_yes _ _ _ _ h1 h2).mono ?_
  rintro e w1 ⟨rfl, rfl⟩
  go_wp2
  go_ret
  exact ⟨rfl, rfl⟩
theorem isper_no (h : SC w x people epoch treasury price acc) (hp : 1 ≤ people) (hp6 : people ≤ 6) (a : Int) (hn : ¬ (0 ≤ a ∧ a ≤ (people : Int) - 1)) :
    Calls Try.prog 50 #[.pointer (some ⟨x, 0, none⟩), .int .i64 a] w fun e w' => e = .returned (.bool false) ∧ w' = w := by
  have c0 := h.c0
  have Hn : Hid (¬ (0 ≤ a ∧ a ≤ (people : Int) - 1)) := hn
  clear hn
  go_enter Try.func50, Try.ntmps50
  go_wp2_with fail
  refine (within_no _ _ _ _ Hn.out).mono ?_
  rintro e w1 ⟨rfl, rfl⟩
  go_wp2
  go_ret
  exact ⟨rfl, rfl⟩

set_option maxHeartbeats 800000 in
theorem see_no (h : SC w x people epoch treasury price acc) (a : Int) (hn : ¬ (0 ≤ a ∧ a ≤ (people : Int))) :
    Calls Try.prog 16 #[.pointer (some ⟨x, 0, none⟩), .int .i64 a] w fun e w' => e = .returned (.tuple #[.agg #[.int .i64 0, .int .i64 0, .int .i64 0, .int .i64 0, .int .i64 0, .int .i64 0], .int .i64 2]) ∧ Below w.heap.size w w' := by
  have hs := h.below ((Below.refl w.heap.size w).alloc (Nat.le_refl _) (.cells #[.int .i64 0, .int .i64 0, .int .i64 0, .int .i64 0, .int .i64 0, .int .i64 0] 47))
  have Hn : Hid (¬ (0 ≤ a ∧ a ≤ (people : Int))) := hn
  clear hn
  go_enter Try.func16, Try.ntmps16
  go_wp2_with fail
  refine (isacc_no hs _ Hn.out).mono ?_
  rintro e w1 ⟨rfl, rfl⟩
  go_wp2_with fail
  exact bodyPost_ret (v := .tuple #[.agg #[.int .i64 0, .int .i64 0, .int .i64 0, .int .i64 0, .int .i64 0, .int .i64 0], .int .i64 2]) (by simp [results, Try.results16, go_sem]) rfl ⟨rfl, (Below.refl _ _).alloc (Nat.le_refl _) _⟩

set_option maxHeartbeats 800000 in
theorem see_yes (h : SC w x people epoch treasury price acc) (a : Nat) (ha : a ≤ people) (hp6 : people ≤ 6) :
    Calls Try.prog 16 #[.pointer (some ⟨x, 0, none⟩), .int .i64 a] w fun e w' => e = .returned (.tuple #[.agg #[.int .i64 (acc a).liquid, .int .i64 (acc a).locked, .int .i64 (acc a).bid, .int .i64 (acc a).queued, .int .i64 (acc a).seats, .int .i64 (acc a).shares], .int .i64 0]) ∧ Below w.heap.size w w' := by
  have bw := (Below.refl w.heap.size w).alloc (Nat.le_refl _) (.cells #[.int .i64 0, .int .i64 0, .int .i64 0, .int .i64 0, .int .i64 0, .int .i64 0] 47)
  have hs := h.below bw
  have h1 : (0 : Int) ≤ (a : Int) := by omega
  have h2 : (a : Int) ≤ (people : Int) := by omega
  have h3 : (a : Int) < 7 := by omega
  have hres : (w.alloc (.cells #[.int .i64 0, .int .i64 0, .int .i64 0, .int .i64 0, .int .i64 0, .int .i64 0] 47)).heap[w.heap.size]? = some (.cells #[.int .i64 0, .int .i64 0, .int .i64 0, .int .i64 0, .int .i64 0, .int .i64 0] 47 (0, 0)) := heap_alloc_new w _
  have Hres : Hid _ := hres
  clear hres
  go_enter Try.func16, Try.ntmps16
  go_wp2_with fail
  refine (isacc_yes hs _ h1 h2).mono ?_
  rintro e w1 ⟨rfl, rfl⟩
  go_wp2_with fail
  refine (seen_any x (4 + a * 10) (acc a) _ (hs.ok a (by omega)) (hs.rows a (by omega))).mono ?_
  rintro e w1 ⟨rfl, b1⟩
  have hres1 := (b1.block _ (lt_of_block Hres.out)).trans Hres.out
  have bel1 : Below w.heap.size w w1 := bw.trans (b1.mono bw.size)
  clear Hres b1 bw hs
  have r0 : w1.cell? ⟨w.heap.size, 0, none⟩ = some (.int .i64 0) := cell_of_row w1 _ 0 _ _ _ hres1
  have r1 : w1.cell? ⟨w.heap.size, 1, none⟩ = some (.int .i64 0) := cell_of_row w1 _ 1 _ _ _ hres1
  have r2 : w1.cell? ⟨w.heap.size, 2, none⟩ = some (.int .i64 0) := cell_of_row w1 _ 2 _ _ _ hres1
  have r3 : w1.cell? ⟨w.heap.size, 3, none⟩ = some (.int .i64 0) := cell_of_row w1 _ 3 _ _ _ hres1
  have r4 : w1.cell? ⟨w.heap.size, 4, none⟩ = some (.int .i64 0) := cell_of_row w1 _ 4 _ _ _ hres1
  have r5 : w1.cell? ⟨w.heap.size, 5, none⟩ = some (.int .i64 0) := cell_of_row w1 _ 5 _ _ _ hres1
  have rf : ∀ j, w1.frozen? ⟨w.heap.size, j, none⟩ = false := fun j => frozen_of_row w1 _ j _ _ hres1
  have Hfb : Hid _ := six_block (.int .i64 (acc a).liquid) (.int .i64 (acc a).locked) (.int .i64 (acc a).bid) (.int .i64 (acc a).queued) (.int .i64 (acc a).seats) (.int .i64 (acc a).shares) hres1
  have Hfl : Hid _ := six_below (.int .i64 (acc a).liquid) (.int .i64 (acc a).locked) (.int .i64 (acc a).bid) (.int .i64 (acc a).queued) (.int .i64 (acc a).seats) (.int .i64 (acc a).shares) bel1
  clear hres1 bel1
  go_wp2
  change bodyPost _ _ _ _ _ (six w1 w.heap.size (.int .i64 (acc a).liquid) (.int .i64 (acc a).locked) (.int .i64 (acc a).bid) (.int .i64 (acc a).queued) (.int .i64 (acc a).seats) (.int .i64 (acc a).shares))
  generalize six w1 w.heap.size (.int .i64 (acc a).liquid) (.int .i64 (acc a).locked) (.int .i64 (acc a).bid) (.int .i64 (acc a).queued) (.int .i64 (acc a).seats) (.int .i64 (acc a).shares) = Wf at *
  have s0 : Wf.cell? ⟨w.heap.size, 0, none⟩ = some (.int .i64 (acc a).liquid) := cell_of_row Wf _ 0 _ _ _ Hfb.out
  have s1 : Wf.cell? ⟨w.heap.size, 1, none⟩ = some (.int .i64 (acc a).locked) := cell_of_row Wf _ 1 _ _ _ Hfb.out
  have s2 : Wf.cell? ⟨w.heap.size, 2, none⟩ = some (.int .i64 (acc a).bid) := cell_of_row Wf _ 2 _ _ _ Hfb.out
  have s3 : Wf.cell? ⟨w.heap.size, 3, none⟩ = some (.int .i64 (acc a).queued) := cell_of_row Wf _ 3 _ _ _ Hfb.out
  have s4 : Wf.cell? ⟨w.heap.size, 4, none⟩ = some (.int .i64 (acc a).seats) := cell_of_row Wf _ 4 _ _ _ Hfb.out
  have s5 : Wf.cell? ⟨w.heap.size, 5, none⟩ = some (.int .i64 (acc a).shares) := cell_of_row Wf _ 5 _ _ _ Hfb.out
  exact bodyPost_ret (v := .tuple #[.agg #[.int .i64 (acc a).liquid, .int .i64 (acc a).locked, .int .i64 (acc a).bid, .int .i64 (acc a).queued, .int .i64 (acc a).seats, .int .i64 (acc a).shares], .int .i64 0]) (by simp [results, Try.results16, go_sem, s0, s1, s2, s3, s4, s5]) rfl ⟨rfl, Hfl.out⟩

def Acc.tot (c : Acc) : Int := c.liquid + c.locked + c.queued
theorem Acc.Ok.tot {c : Acc} (h : c.Ok) : 0 ≤ c.tot ∧ c.tot ≤ 7000000000 := by
  obtain ⟨l0, l1, k0, k1, b0, b1, s0, s1, h0, h1, q00, q01, q10, q11, q20, q21, q30, q31, q40, q41⟩ := h
  unfold Acc.tot Acc.queued; omega
theorem Acc.Ok.queued {c : Acc} (h : c.Ok) : 0 ≤ c.queued ∧ c.queued ≤ 5000000000 := by
  obtain ⟨l0, l1, k0, k1, b0, b1, s0, s1, h0, h1, q00, q01, q10, q11, q20, q21, q30, q31, q40, q41⟩ := h
  unfold Acc.queued; omega

theorem queued_of (h : SC w x people epoch treasury price acc) (k : Nat) (hk : k < 7) :
    Calls Try.prog 53 #[.pointer (some ⟨x, 4 + k * 10, none⟩)] w fun e w' => e = .returned (.int .i64 (acc k).queued) ∧ w' = w :=
  queued_any x (4 + k * 10) (acc k).q0 (acc k).q1 (acc k).q2 (acc k).q3 (acc k).q4 w (h.rows k hk 5 (by omega)) (h.rows k hk 6 (by omega)) (h.rows k hk 7 (by omega)) (h.rows k hk 8 (by omega)) (h.rows k hk 9 (by omega))
    (h.ok k hk).q00 (h.ok k hk).q10 (h.ok k hk).q20 (h.ok k hk).q30 (h.ok k hk).q40 (h.ok k hk).q01 (h.ok k hk).q11 (h.ok k hk).q21 (h.ok k hk).q31 (h.ok k hk).q41

set_option maxHeartbeats 800000 in
theorem supply_any (h : SC w x people epoch treasury price acc) (ht0 : 0 ≤ treasury) (ht1 : treasury ≤ 1000000000) :
    Calls Try.prog 51 #[.pointer (some ⟨x, 0, none⟩)] w fun e w' => e = .returned (.int .i64 (treasury + sumTo (fun a => (acc a).tot) 7)) ∧ ∃ n, w' = w.drewN n := by
  have c2 := h.c2
  have hbd := sumTo_bd (fun a => (acc a).tot) 7000000000 7 (fun k hk => (h.ok k hk).tot)
  have Hbd : Hid (∀ k, k ≤ 7 → 0 ≤ sumTo (fun a => (acc a).tot) k ∧ sumTo (fun a => (acc a).tot) k ≤ 7000000000 * k) := hbd
  clear hbd
  go_enter Try.func51, Try.ntmps51
  go_wp2
  go_loopw [3, 10] (fun s i wr => ∃ k : Nat, k ≤ 7 ∧ i = .int .i64 k ∧ s = .int .i64 (treasury + sumTo (fun a => (acc a).tot) k) ∧ ∃ n, wr = w.drewN n) (fun _ i _ => 7 - (intOf i).toNat)
  case atStart => exact ⟨0, by omega, rfl, by simp [sumTo], 0, rfl⟩
  case round =>
    obtain ⟨k, hk, rfl, rfl, n, rfl⟩ := hrel
    by_cases hlt : k < 7
    · have hs := h.dn n
      have e0 : w.cell? ⟨x, 4 + k * 10, none⟩ = some (.int .i64 (acc k).liquid) := h.rows k hlt 0 (by omega)
      have e1 : w.cell? ⟨x, 4 + k * 10 + 1, none⟩ = some (.int .i64 (acc k).locked) := h.rows k hlt 1 (by omega)
      have hb := Hbd.out k (by omega)
      have l0 := (h.ok k hlt).l0
      have l1 := (h.ok k hlt).l1
      have k0 := (h.ok k hlt).k0
      have k1 := (h.ok k hlt).k1
      have q0 := (h.ok k hlt).queued
      have HS : Hid (sumTo (fun a => (acc a).tot) (k + 1) = sumTo (fun a => (acc a).tot) k + ((acc k).liquid + (acc k).locked) + (acc k).queued) := by unfold Hid; simp only [sumTo, Acc.tot]; omega
      generalize sumTo (fun a => (acc a).tot) k = S at *
      go_wp2_with fail
      go_quiet (fail)
      go_wp2_with fail
      refine (queued_of (h.dn _) k hlt).mono ?_
      rintro e w1 ⟨rfl, rfl⟩
      go_wp2_with fail
      go_roundw
      case rel => exact ⟨k + 1, by omega, by go_num, by rw [HS.out]; go_num, _, rfl⟩
      case measure => simp [intOf]; omega
    · have hk7 : k = 7 := by omega
      subst hk7
      go_wp2
      go_ret
      exact ⟨rfl, n, rfl⟩

set_option maxHeartbeats 800000 in
theorem allshares_any (h : SC w x people epoch treasury price acc) :
    Calls Try.prog 52 #[.pointer (some ⟨x, 0, none⟩)] w fun e w' => e = .returned (.int .i64 (sumTo (fun a => (acc a).shares) 7)) ∧ ∃ n, w' = w.drewN n := by
  have hbd := sumTo_bd (fun a => (acc a).shares) 1000000000 7 (fun k hk => ⟨(h.ok k hk).h0, (h.ok k hk).h1⟩)
  have Hbd : Hid (∀ k, k ≤ 7 → 0 ≤ sumTo (fun a => (acc a).shares) k ∧ sumTo (fun a => (acc a).shares) k ≤ 1000000000 * k) := hbd
  clear hbd
  go_enter Try.func52, Try.ntmps52
  go_wp2
  go_loopw [3, 5] (fun s i wr => ∃ k : Nat, k ≤ 7 ∧ i = .int .i64 k ∧ s = .int .i64 (sumTo (fun a => (acc a).shares) k) ∧ ∃ n, wr = w.drewN n) (fun _ i _ => 7 - (intOf i).toNat)
  case atStart => exact ⟨0, by omega, rfl, rfl, 0, rfl⟩
  case round =>
    obtain ⟨k, hk, rfl, rfl, n, rfl⟩ := hrel
    by_cases hlt : k < 7
    · have e0 : w.cell? ⟨x, 4 + k * 10 + 4, none⟩ = some (.int .i64 (acc k).shares) := h.rows k hlt 4 (by omega)
      have hb := Hbd.out k (by omega)
      have l0 := (h.ok k hlt).h0
      have l1 := (h.ok k hlt).h1
      have HS : Hid (sumTo (fun a => (acc a).shares) (k + 1) = sumTo (fun a => (acc a).shares) k + (acc k).shares) := by unfold Hid; simp only [sumTo]
      generalize sumTo (fun a => (acc a).shares) k = S at *
      go_wp2
      go_roundw
      case rel => exact ⟨k + 1, by omega, by go_num, by rw [HS.out], _, rfl⟩
      case measure => simp [intOf]; omega
    · have hk7 : k = 7 := by omega
      subst hk7
      go_wp2
      go_ret
      exact ⟨rfl, n, rfl⟩
end
end Go.Proofs.Ytacfebbflkfmpaa
