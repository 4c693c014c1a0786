import Derived.Test.YtiokecadnmcpeabPC
namespace Go.Proofs.Ytiokecadnmcpeab
set_option linter.unusedVariables false
set_option linter.unusedSimpArgs false
open Go.ChangeShapes Go.WideShapes Go.ChangeAt Go.RowKit

/-- What the numbers of a chain of the program's keep to. -/
structure PS.Cf (s : PS) : Prop where
  N1 : 1 ≤ s.N
  N6 : s.N ≤ 6
  e0 : 0 ≤ s.epoch
  e1 : s.epoch ≤ 4611686018427387905
  seats : 1 ≤ s.seats ∧ s.seats ≤ 10
  delay : 2 ≤ s.delay ∧ s.delay ≤ 5
  rate : 0 ≤ s.rate ∧ s.rate ≤ 100
  cut : 0 ≤ s.cut ∧ s.cut ≤ 1000
  length : 1 ≤ s.length ∧ s.length ≤ 20
  need : 0 ≤ s.need ∧ s.need ≤ 1000
  rlen : s.rlen ≤ 10
/-- What a chain of the program's keeps to. -/
structure PS.Ok (s : PS) : Prop extends PS.Cf s where
  acc : ∀ a, a < 7 → (s.acc a).Ok
  t0 : 0 ≤ s.treasury
  t1 : s.treasury ≤ 1000000000

set_option maxHeartbeats 800000 in
theorem queued_any (b off : Nat) (q0 q1 q2 q3 q4 : Int) (w : World) (c0 : w.cell? ⟨b, off + 5, none⟩ = some (.int .i64 q0)) (c1 : w.cell? ⟨b, off + 5 + 1, none⟩ = some (.int .i64 q1)) (c2 : w.cell? ⟨b, off + 5 + 2, none⟩ = some (.int .i64 q2)) (c3 : w.cell? ⟨b, off + 5 + 3, none⟩ = some (.int .i64 q3)) (c4 : w.cell? ⟨b, off + 5 + 4, none⟩ = some (.int .i64 q4))
    (h0 : 0 ≤ q0) (h1 : 0 ≤ q1) (h2 : 0 ≤ q2) (h3 : 0 ≤ q3) (h4 : 0 ≤ q4) (g0 : q0 ≤ 1000000000) (g1 : q1 ≤ 1000000000) (g2 : q2 ≤ 1000000000) (g3 : q3 ≤ 1000000000) (g4 : q4 ≤ 1000000000) :
    Calls Try.prog 64 #[.pointer (some ⟨b, off, none⟩)] w fun e w' => e = .returned (.int .i64 (q0 + q1 + q2 + q3 + q4)) ∧ w' = w := by
  have i0 : ∀ w, (Instr.index 56 (.agg #[.int .i64 q0, .int .i64 q1, .int .i64 q2, .int .i64 q3, .int .i64 q4]) (.int .i64 0)).run Try.prog w = .ok (.int .i64 q0) w := fun _ => by kernel_rfl
  have i1 : ∀ w, (Instr.index 56 (.agg #[.int .i64 q0, .int .i64 q1, .int .i64 q2, .int .i64 q3, .int .i64 q4]) (.int .i64 1)).run Try.prog w = .ok (.int .i64 q1) w := fun _ => by kernel_rfl
  have i2 : ∀ w, (Instr.index 56 (.agg #[.int .i64 q0, .int .i64 q1, .int .i64 q2, .int .i64 q3, .int .i64 q4]) (.int .i64 2)).run Try.prog w = .ok (.int .i64 q2) w := fun _ => by kernel_rfl
  have i3 : ∀ w, (Instr.index 56 (.agg #[.int .i64 q0, .int .i64 q1, .int .i64 q2, .int .i64 q3, .int .i64 q4]) (.int .i64 3)).run Try.prog w = .ok (.int .i64 q3) w := fun _ => by kernel_rfl
  have i4 : ∀ w, (Instr.index 56 (.agg #[.int .i64 q0, .int .i64 q1, .int .i64 q2, .int .i64 q3, .int .i64 q4]) (.int .i64 4)).run Try.prog w = .ok (.int .i64 q4) w := fun _ => by kernel_rfl
  go_enter Try.func64, Try.ntmps64
  go_wp2
  refine wp_loop_rounds 6 ?_
  rw [rounds_succ]
  go_wp2
  rw [rounds_succ]
  go_wp2
  rw [rounds_succ]
  go_wp2
  rw [rounds_succ]
  go_wp2
  rw [rounds_succ]
  go_wp2
  rw [rounds_succ]
  go_wp2
  go_ret
  exact ⟨ret_int (by omega), rfl⟩

set_option maxHeartbeats 1600000 in
theorem seen_any (b off : Nat) (c : Acc) (w : World) (ok : c.Ok) (hc : ∀ j, j < 11 → w.cell? ⟨b, off + j, none⟩ = some (c.cell j)) :
    Calls Try.prog 40 #[.pointer (some ⟨b, off, none⟩)] w fun e w' => e = .returned (.agg #[.int .i64 c.liquid, .int .i64 c.locked, .int .i64 c.bid, .int .i64 c.queued, .int .i64 c.seats, .int .i64 c.shares]) ∧ Below w.heap.size w w' := by
  have hb := block_lt_of_cell (hc 0 (by omega))
  have hb' : w.heap.size ≠ b := by have : b < w.heap.size := hb; omega
  have c0 : w.cell? ⟨b, off, none⟩ = some (.int .i64 c.liquid) := hc 0 (by omega)
  have c1 : w.cell? ⟨b, off + 1, none⟩ = some (.int .i64 c.locked) := hc 1 (by omega)
  have c2 : w.cell? ⟨b, off + 2, none⟩ = some (.int .i64 c.bid) := hc 2 (by omega)
  have c3 : w.cell? ⟨b, off + 3, none⟩ = some (.int .i64 c.seats) := hc 3 (by omega)
  have c4 : w.cell? ⟨b, off + 4, none⟩ = some (.int .i64 c.shares) := hc 4 (by omega)
  have c5 : w.cell? ⟨b, off + 5, none⟩ = some (.int .i64 (c.q 0)) := hc 5 (by omega)
  have c6 : w.cell? ⟨b, off + 5 + 1, none⟩ = some (.int .i64 (c.q 1)) := hc 6 (by omega)
  have c7 : w.cell? ⟨b, off + 5 + 2, none⟩ = some (.int .i64 (c.q 2)) := hc 7 (by omega)
  have c8 : w.cell? ⟨b, off + 5 + 3, none⟩ = some (.int .i64 (c.q 3)) := hc 8 (by omega)
  have c9 : w.cell? ⟨b, off + 5 + 4, none⟩ = some (.int .i64 (c.q 4)) := hc 9 (by omega)
  clear hc
  generalize hW : w.alloc (.cells #[.int .i64 0, .int .i64 0, .int .i64 0, .int .i64 0, .int .i64 0, .int .i64 0] 51) = W
  have hWb : Below w.heap.size w W := by rw [← hW]; exact (Below.refl _ _).alloc (Nat.le_refl _) _
  have hres : W.heap[w.heap.size]? = some (.cells #[.int .i64 0, .int .i64 0, .int .i64 0, .int .i64 0, .int .i64 0, .int .i64 0] 51 (0, 0)) := by rw [← hW]; exact heap_alloc_new w _
  have Hres : Hid (W.heap[w.heap.size]? = some (.cells #[.int .i64 0, .int .i64 0, .int .i64 0, .int .i64 0, .int .i64 0, .int .i64 0] 51 (0, 0))) := hres
  have d0 : W.cell? ⟨b, off, none⟩ = some (.int .i64 c.liquid) := (hWb.cell (p := ⟨b, off, none⟩) hb).trans c0
  have d1 : W.cell? ⟨b, off + 1, none⟩ = some (.int .i64 c.locked) := (hWb.cell (p := ⟨b, off + 1, none⟩) hb).trans c1
  have d2 : W.cell? ⟨b, off + 2, none⟩ = some (.int .i64 c.bid) := (hWb.cell (p := ⟨b, off + 2, none⟩) hb).trans c2
  have d3 : W.cell? ⟨b, off + 3, none⟩ = some (.int .i64 c.seats) := (hWb.cell (p := ⟨b, off + 3, none⟩) hb).trans c3
  have d4 : W.cell? ⟨b, off + 4, none⟩ = some (.int .i64 c.shares) := (hWb.cell (p := ⟨b, off + 4, none⟩) hb).trans c4
  have d5 : W.cell? ⟨b, off + 5, none⟩ = some (.int .i64 (c.q 0)) := (hWb.cell (p := ⟨b, off + 5, none⟩) hb).trans c5
  have d6 : W.cell? ⟨b, off + 5 + 1, none⟩ = some (.int .i64 (c.q 1)) := (hWb.cell (p := ⟨b, off + 5 + 1, none⟩) hb).trans c6
  have d7 : W.cell? ⟨b, off + 5 + 2, none⟩ = some (.int .i64 (c.q 2)) := (hWb.cell (p := ⟨b, off + 5 + 2, none⟩) hb).trans c7
  have d8 : W.cell? ⟨b, off + 5 + 3, none⟩ = some (.int .i64 (c.q 3)) := (hWb.cell (p := ⟨b, off + 5 + 3, none⟩) hb).trans c8
  have d9 : W.cell? ⟨b, off + 5 + 4, none⟩ = some (.int .i64 (c.q 4)) := (hWb.cell (p := ⟨b, off + 5 + 4, none⟩) hb).trans c9
  have HW : Hid (w.alloc (.cells #[.int .i64 0, .int .i64 0, .int .i64 0, .int .i64 0, .int .i64 0, .int .i64 0] 51) = W) := hW
  have hq : Hid (Calls Try.prog 64 #[.pointer (some ⟨b, off, none⟩)] W.drew fun e w' => e = .returned (.int .i64 c.queued) ∧ w' = W.drew) :=
    queued_any b off (c.q 0) (c.q 1) (c.q 2) (c.q 3) (c.q 4) W.drew d5 d6 d7 d8 d9 (ok.q0 0 (by omega)) (ok.q0 1 (by omega)) (ok.q0 2 (by omega)) (ok.q0 3 (by omega)) (ok.q0 4 (by omega)) (ok.q1 0 (by omega)) (ok.q1 1 (by omega)) (ok.q1 2 (by omega)) (ok.q1 3 (by omega)) (ok.q1 4 (by omega))
  have r0 : W.cell? ⟨w.heap.size, 0, none⟩ = some (.int .i64 0) := cell_of_row W _ 0 _ _ _ hres
  have r1 : W.cell? ⟨w.heap.size, 1, none⟩ = some (.int .i64 0) := cell_of_row W _ 1 _ _ _ hres
  have r2 : W.cell? ⟨w.heap.size, 2, none⟩ = some (.int .i64 0) := cell_of_row W _ 2 _ _ _ hres
  have r3 : W.cell? ⟨w.heap.size, 3, none⟩ = some (.int .i64 0) := cell_of_row W _ 3 _ _ _ hres
  have r4 : W.cell? ⟨w.heap.size, 4, none⟩ = some (.int .i64 0) := cell_of_row W _ 4 _ _ _ hres
  have r5 : W.cell? ⟨w.heap.size, 5, none⟩ = some (.int .i64 0) := cell_of_row W _ 5 _ _ _ hres
  have rf : ∀ j, W.frozen? ⟨w.heap.size, j, none⟩ = false := fun j => frozen_of_row W _ j _ _ hres
  clear ok hW hres c0 c1 c2 c3 c4 c5 c6 c7 c8 c9
  go_enter Try.func40, Try.ntmps40
  go_wp2_with fail
  rw [HW.out]
  go_region_held (fun w' => w'.cell? ⟨b, off, none⟩ = some (.int .i64 c.liquid) ∧ w'.cell? ⟨b, off + 1, none⟩ = some (.int .i64 c.locked) ∧ w'.cell? ⟨b, off + 2, none⟩ = some (.int .i64 c.bid) ∧ w'.cell? ⟨b, off + 3, none⟩ = some (.int .i64 c.seats) ∧ w'.cell? ⟨b, off + 4, none⟩ = some (.int .i64 c.shares)) (go_keep) ((go_at_call 64; refine hq.out.mono ?_; rintro e w' ⟨rfl, rfl⟩))
  all_goals
    go_wp2
    have hfb := six_block (.int .i64 c.liquid) (.int .i64 c.locked) (.int .i64 c.bid) (.int .i64 c.queued) (.int .i64 c.seats) (.int .i64 c.shares) Hres.out
    have hfl := six_below (.int .i64 c.liquid) (.int .i64 c.locked) (.int .i64 c.bid) (.int .i64 c.queued) (.int .i64 c.seats) (.int .i64 c.shares) hWb
    change bodyPost _ _ _ _ _ (six W w.heap.size (.int .i64 c.liquid) (.int .i64 c.locked) (.int .i64 c.bid) (.int .i64 c.queued) (.int .i64 c.seats) (.int .i64 c.shares)).drew
    generalize six W w.heap.size (.int .i64 c.liquid) (.int .i64 c.locked) (.int .i64 c.bid) (.int .i64 c.queued) (.int .i64 c.seats) (.int .i64 c.shares) = Wf at *
    have s0 : Wf.drew.cell? ⟨w.heap.size, 0, none⟩ = some (.int .i64 c.liquid) := cell_of_row Wf _ 0 _ _ _ hfb
    have s1 : Wf.drew.cell? ⟨w.heap.size, 1, none⟩ = some (.int .i64 c.locked) := cell_of_row Wf _ 1 _ _ _ hfb
    have s2 : Wf.drew.cell? ⟨w.heap.size, 2, none⟩ = some (.int .i64 c.bid) := cell_of_row Wf _ 2 _ _ _ hfb
    have s3 : Wf.drew.cell? ⟨w.heap.size, 3, none⟩ = some (.int .i64 c.queued) := cell_of_row Wf _ 3 _ _ _ hfb
    have s4 : Wf.drew.cell? ⟨w.heap.size, 4, none⟩ = some (.int .i64 c.seats) := cell_of_row Wf _ 4 _ _ _ hfb
    have s5 : Wf.drew.cell? ⟨w.heap.size, 5, none⟩ = some (.int .i64 c.shares) := cell_of_row Wf _ 5 _ _ _ hfb
    have hfl2 := hfl.drew
    generalize Wf.drew = Wg at *
    exact bodyPost_ret (v := .agg #[.int .i64 c.liquid, .int .i64 c.locked, .int .i64 c.bid, .int .i64 c.queued, .int .i64 c.seats, .int .i64 c.shares]) (by simp [results, Try.results40, go_sem, s0, s1, s2, s3, s4, s5]) rfl ⟨rfl, hfl2⟩
section
variable {w : World} {x : Nat} {s : PS}

theorem isacc_yes (h : SC w x s) (a : Int) (h1 : 0 ≤ a) (h2 : a ≤ (s.N : Int)) :
    Calls Try.prog 39 #[.pointer (some ⟨x, 0, none⟩), .int .i64 a] w fun e w' => e = .returned (.bool true) ∧ w' = w := by
  have c0 : w.cell? ⟨x, 0, none⟩ = some (.int .i64 (s.N : Int)) := h.num (j := 0) (by omega)
  go_enter Try.func39, Try.ntmps39
  go_wp2_with fail
  refine (within_yes _ _ _ _ h1 h2).mono ?_
  rintro e w1 ⟨rfl, rfl⟩
  go_wp2
  go_ret
  exact ⟨rfl, rfl⟩
theorem isacc_no (h : SC w x s) (a : Int) (hn : ¬ (0 ≤ a ∧ a ≤ (s.N : Int))) :
    Calls Try.prog 39 #[.pointer (some ⟨x, 0, none⟩), .int .i64 a] w fun e w' => e = .returned (.bool false) ∧ w' = w := by
  have c0 : w.cell? ⟨x, 0, none⟩ = some (.int .i64 (s.N : Int)) := h.num (j := 0) (by omega)
  have Hn : Hid (¬ (0 ≤ a ∧ a ≤ (s.N : Int))) := hn
  clear hn
  go_enter Try.func39, Try.ntmps39
  go_wp2_with fail
  refine (within_no _ _ _ _ Hn.out).mono ?_
  rintro e w1 ⟨rfl, rfl⟩
  go_wp2
  go_ret
  exact ⟨rfl, rfl⟩
theorem isper_yes (h : SC w x s) (ok : s.Cf) (a : Int) (h1 : 0 ≤ a) (h2 : a ≤ (s.N : Int) - 1) :
    Calls Try.prog 23 #[.pointer (some ⟨x, 0, none⟩), .int .i64 a] w fun e w' => e = .returned (.bool true) ∧ w' = w := by
  have hp := ok.N1
  have hp6 := ok.N6
  have c0 : w.cell? ⟨x, 0, none⟩ = some (.int .i64 (s.N : Int)) := h.num (j := 0) (by omega)
  go_enter Try.func23, Try.ntmps23
  go_wp2_with fail
  refine (within_yes _ _ _ _ h1 h2).mono ?_
  rintro e w1 ⟨rfl, rfl⟩
  go_wp2
  go_ret
  exact ⟨rfl, rfl⟩
theorem isper_no (h : SC w x s) (ok : s.Cf) (a : Int) (hn : ¬ (0 ≤ a ∧ a ≤ (s.N : Int) - 1)) :
    Calls Try.prog 23 #[.pointer (some ⟨x, 0, none⟩), .int .i64 a] w fun e w' => e = .returned (.bool false) ∧ w' = w := by
  have hp := ok.N1
  have hp6 := ok.N6
  have c0 : w.cell? ⟨x, 0, none⟩ = some (.int .i64 (s.N : Int)) := h.num (j := 0) (by omega)
  have Hn : Hid (¬ (0 ≤ a ∧ a ≤ (s.N : Int) - 1)) := hn
  clear hn
  go_enter Try.func23, Try.ntmps23
  go_wp2_with fail
  refine (within_no _ _ _ _ Hn.out).mono ?_
  rintro e w1 ⟨rfl, rfl⟩
  go_wp2
  go_ret
  exact ⟨rfl, rfl⟩

set_option maxHeartbeats 800000 in
theorem see_no (h : SC w x s) (a : Int) (hn : ¬ (0 ≤ a ∧ a ≤ (s.N : Int))) :
    Calls Try.prog 15 #[.pointer (some ⟨x, 0, none⟩), .int .i64 a] w fun e w' => e = .returned (.tuple #[.agg #[.int .i64 0, .int .i64 0, .int .i64 0, .int .i64 0, .int .i64 0, .int .i64 0], .int .i64 2]) ∧ Below w.heap.size w w' := by
  have hs := h.below ((Below.refl w.heap.size w).alloc (Nat.le_refl _) (.cells #[.int .i64 0, .int .i64 0, .int .i64 0, .int .i64 0, .int .i64 0, .int .i64 0] 51))
  have Hn : Hid (¬ (0 ≤ a ∧ a ≤ (s.N : Int))) := hn
  clear hn
  go_enter Try.func15, Try.ntmps15
  go_wp2_with fail
  refine (isacc_no hs _ Hn.out).mono ?_
  rintro e w1 ⟨rfl, rfl⟩
  go_wp2_with fail
  exact bodyPost_ret (v := .tuple #[.agg #[.int .i64 0, .int .i64 0, .int .i64 0, .int .i64 0, .int .i64 0, .int .i64 0], .int .i64 2]) (by simp [results, Try.results15, go_sem]) rfl ⟨rfl, (Below.refl _ _).alloc (Nat.le_refl _) _⟩

set_option maxHeartbeats 800000 in
theorem see_yes (h : SC w x s) (ok : s.Ok) (a : Nat) (ha : a ≤ s.N) :
    Calls Try.prog 15 #[.pointer (some ⟨x, 0, none⟩), .int .i64 a] w fun e w' => e = .returned (.tuple #[.agg #[.int .i64 (s.acc a).liquid, .int .i64 (s.acc a).locked, .int .i64 (s.acc a).bid, .int .i64 (s.acc a).queued, .int .i64 (s.acc a).seats, .int .i64 (s.acc a).shares], .int .i64 0]) ∧ Below w.heap.size w w' := by
  have hp6 := ok.N6
  have bw := (Below.refl w.heap.size w).alloc (Nat.le_refl _) (.cells #[.int .i64 0, .int .i64 0, .int .i64 0, .int .i64 0, .int .i64 0, .int .i64 0] 51)
  have hs := h.below bw
  have h1 : (0 : Int) ≤ (a : Int) := by omega
  have h2 : (a : Int) ≤ (s.N : Int) := by omega
  have h3 : (a : Int) < 7 := by omega
  have hres : (w.alloc (.cells #[.int .i64 0, .int .i64 0, .int .i64 0, .int .i64 0, .int .i64 0, .int .i64 0] 51)).heap[w.heap.size]? = some (.cells #[.int .i64 0, .int .i64 0, .int .i64 0, .int .i64 0, .int .i64 0, .int .i64 0] 51 (0, 0)) := heap_alloc_new w _
  have Hres : Hid _ := hres
  clear hres
  go_enter Try.func15, Try.ntmps15
  go_wp2_with fail
  refine (isacc_yes hs _ h1 h2).mono ?_
  rintro e w1 ⟨rfl, rfl⟩
  go_wp2_with fail
  refine (seen_any x (10 + a * 11) (s.acc a) _ (ok.acc a (by omega)) (fun j hj => hs.at (by omega) hj)).mono ?_
  rintro e w1 ⟨rfl, b1⟩
  have hres1 := (b1.block _ (lt_of_block Hres.out)).trans Hres.out
  have bel1 : Below w.heap.size w w1 := bw.trans (b1.mono bw.size)
  clear Hres b1 bw hs
  have r0 : w1.cell? ⟨w.heap.size, 0, none⟩ = some (.int .i64 0) := cell_of_row w1 _ 0 _ _ _ hres1
  have r1 : w1.cell? ⟨w.heap.size, 1, none⟩ = some (.int .i64 0) := cell_of_row w1 _ 1 _ _ _ hres1
  have r2 : w1.cell? ⟨w.heap.size, 2, none⟩ = some (.int .i64 0) := cell_of_row w1 _ 2 _ _ _ hres1
  have r3 : w1.cell? ⟨w.heap.size, 3, none⟩ = some (.int .i64 0) := cell_of_row w1 _ 3 _ _ _ hres1
  have r4 : w1.cell? ⟨w.heap.size, 4, none⟩ = some (.int .i64 0) := cell_of_row w1 _ 4 _ _ _ hres1
  have r5 : w1.cell? ⟨w.heap.size, 5, none⟩ = some (.int .i64 0) := cell_of_row w1 _ 5 _ _ _ hres1
  have rf : ∀ j, w1.frozen? ⟨w.heap.size, j, none⟩ = false := fun j => frozen_of_row w1 _ j _ _ hres1
  have Hfb : Hid _ := six_block (.int .i64 (s.acc a).liquid) (.int .i64 (s.acc a).locked) (.int .i64 (s.acc a).bid) (.int .i64 (s.acc a).queued) (.int .i64 (s.acc a).seats) (.int .i64 (s.acc a).shares) hres1
  have Hfl : Hid _ := six_below (.int .i64 (s.acc a).liquid) (.int .i64 (s.acc a).locked) (.int .i64 (s.acc a).bid) (.int .i64 (s.acc a).queued) (.int .i64 (s.acc a).seats) (.int .i64 (s.acc a).shares) bel1
  clear hres1 bel1
  go_wp2
  change bodyPost _ _ _ _ _ (six w1 w.heap.size (.int .i64 (s.acc a).liquid) (.int .i64 (s.acc a).locked) (.int .i64 (s.acc a).bid) (.int .i64 (s.acc a).queued) (.int .i64 (s.acc a).seats) (.int .i64 (s.acc a).shares))
  generalize six w1 w.heap.size (.int .i64 (s.acc a).liquid) (.int .i64 (s.acc a).locked) (.int .i64 (s.acc a).bid) (.int .i64 (s.acc a).queued) (.int .i64 (s.acc a).seats) (.int .i64 (s.acc a).shares) = Wf at *
  have s0 : Wf.cell? ⟨w.heap.size, 0, none⟩ = some (.int .i64 (s.acc a).liquid) := cell_of_row Wf _ 0 _ _ _ Hfb.out
  have s1 : Wf.cell? ⟨w.heap.size, 1, none⟩ = some (.int .i64 (s.acc a).locked) := cell_of_row Wf _ 1 _ _ _ Hfb.out
  have s2 : Wf.cell? ⟨w.heap.size, 2, none⟩ = some (.int .i64 (s.acc a).bid) := cell_of_row Wf _ 2 _ _ _ Hfb.out
  have s3 : Wf.cell? ⟨w.heap.size, 3, none⟩ = some (.int .i64 (s.acc a).queued) := cell_of_row Wf _ 3 _ _ _ Hfb.out
  have s4 : Wf.cell? ⟨w.heap.size, 4, none⟩ = some (.int .i64 (s.acc a).seats) := cell_of_row Wf _ 4 _ _ _ Hfb.out
  have s5 : Wf.cell? ⟨w.heap.size, 5, none⟩ = some (.int .i64 (s.acc a).shares) := cell_of_row Wf _ 5 _ _ _ Hfb.out
  exact bodyPost_ret (v := .tuple #[.agg #[.int .i64 (s.acc a).liquid, .int .i64 (s.acc a).locked, .int .i64 (s.acc a).bid, .int .i64 (s.acc a).queued, .int .i64 (s.acc a).seats, .int .i64 (s.acc a).shares], .int .i64 0]) (by simp [results, Try.results15, go_sem, s0, s1, s2, s3, s4, s5]) rfl ⟨rfl, Hfl.out⟩

theorem queued_of (h : SC w x s) (ok : s.Ok) (k : Nat) (hk : k < 7) :
    Calls Try.prog 64 #[.pointer (some ⟨x, 10 + k * 11, none⟩)] w fun e w' => e = .returned (.int .i64 (s.acc k).queued) ∧ w' = w :=
  queued_any x (10 + k * 11) ((s.acc k).q 0) ((s.acc k).q 1) ((s.acc k).q 2) ((s.acc k).q 3) ((s.acc k).q 4) w (h.que hk (k := 0) (by omega)) (h.que hk (k := 1) (by omega)) (h.que hk (k := 2) (by omega)) (h.que hk (k := 3) (by omega)) (h.que hk (k := 4) (by omega))
    ((ok.acc k hk).q0 0 (by omega)) ((ok.acc k hk).q0 1 (by omega)) ((ok.acc k hk).q0 2 (by omega)) ((ok.acc k hk).q0 3 (by omega)) ((ok.acc k hk).q0 4 (by omega)) ((ok.acc k hk).q1 0 (by omega)) ((ok.acc k hk).q1 1 (by omega)) ((ok.acc k hk).q1 2 (by omega)) ((ok.acc k hk).q1 3 (by omega)) ((ok.acc k hk).q1 4 (by omega))

/-- All that there is. -/
def PS.supply (s : PS) : Int := s.treasury + sumTo (fun a => (s.acc a).tot) 7
def PS.allShares (s : PS) : Int := sumTo (fun a => (s.acc a).shares) 7

set_option maxHeartbeats 800000 in
theorem all_of (h : SC w x s) (ok : s.Ok) (k : Nat) (hk : k < 7) :
    Calls Try.prog 41 #[.pointer (some ⟨x, 10 + k * 11, none⟩)] w fun e w' => e = .returned (.int .i64 (s.acc k).tot) ∧ ∃ n, w' = w.drewN n := by
  have e0 : w.cell? ⟨x, 10 + k * 11, none⟩ = some (.int .i64 (s.acc k).liquid) := h.at hk (j := 0) (by omega)
  have e1 : w.cell? ⟨x, 10 + k * 11 + 1, none⟩ = some (.int .i64 (s.acc k).locked) := h.at hk (j := 1) (by omega)
  have l0 := (ok.acc k hk).l0
  have l1 := (ok.acc k hk).l1
  have k0 := (ok.acc k hk).k0
  have k1 := (ok.acc k hk).k1
  have q0 := (ok.acc k hk).queued
  unfold Acc.tot
  go_enter Try.func41, Try.ntmps41
  go_wp2_with fail
  go_quiet ((go_at_call 64; exact Calls.quiet_of_same (queued_of (h.dn _) ok k hk)))
  go_wp2_with fail
  go_ret
  exact ⟨rfl, _, rfl⟩

set_option maxHeartbeats 800000 in
theorem supply_any (h : SC w x s) (ok : s.Ok) :
    Calls Try.prog 16 #[.pointer (some ⟨x, 0, none⟩)] w fun e w' => e = .returned (.int .i64 s.supply) ∧ ∃ n, w' = w.drewN n := by
  have ht0 := ok.t0
  have ht1 := ok.t1
  unfold PS.supply
  have c2 : w.cell? ⟨x, 8, none⟩ = some (.int .i64 s.treasury) := h.num (j := 8) (by omega)
  generalize s.treasury = treasury at *
  have hbd := sumTo_bd (fun a => (s.acc a).tot) 7000000000 7 (fun k hk => (ok.acc k hk).tot)
  have Hbd : Hid (∀ k, k ≤ 7 → 0 ≤ sumTo (fun a => (s.acc a).tot) k ∧ sumTo (fun a => (s.acc a).tot) k ≤ 7000000000 * k) := hbd
  clear hbd
  go_enter Try.func16, Try.ntmps16
  go_wp2
  go_loopw [3, 9] (fun sv i wr => ∃ k : Nat, k ≤ 7 ∧ i = .int .i64 k ∧ sv = .int .i64 (treasury + sumTo (fun a => (s.acc a).tot) k) ∧ ∃ n, wr = w.drewN n) (fun _ i _ => 7 - (intOf i).toNat)
  case atStart => exact ⟨0, by omega, rfl, by simp [sumTo], 0, rfl⟩
  case round =>
    obtain ⟨k, hk, rfl, rfl, n, rfl⟩ := hrel
    by_cases hlt : k < 7
    · have hs := h.dn n
      have hb := Hbd.out k (by omega)
      have ht := (ok.acc k hlt).tot
      have HS : Hid (sumTo (fun a => (s.acc a).tot) (k + 1) = sumTo (fun a => (s.acc a).tot) k + (s.acc k).tot) := by unfold Hid; simp only [sumTo]
      generalize sumTo (fun a => (s.acc a).tot) k = S at *
      go_wp2_with fail
      refine (all_of (h.dn _) ok k hlt).mono ?_
      rintro e w1 ⟨rfl, n1, rfl⟩
      rw [World.drewN_drewN]
      go_wp2_with fail
      go_roundw
      case rel => exact ⟨k + 1, by omega, by go_num, by rw [HS.out]; go_num, _, rfl⟩
      case measure => simp [intOf]; omega
    · have hk7 : k = 7 := by omega
      subst hk7
      go_wp2
      go_ret
      exact ⟨rfl, n, rfl⟩

set_option maxHeartbeats 800000 in
theorem allshares_any (h : SC w x s) (ok : s.Ok) :
    Calls Try.prog 17 #[.pointer (some ⟨x, 0, none⟩)] w fun e w' => e = .returned (.int .i64 s.allShares) ∧ ∃ n, w' = w.drewN n := by
  unfold PS.allShares
  have hbd := sumTo_bd (fun a => (s.acc a).shares) 1000000000 7 (fun k hk => ⟨(ok.acc k hk).h0, (ok.acc k hk).h1⟩)
  have Hbd : Hid (∀ k, k ≤ 7 → 0 ≤ sumTo (fun a => (s.acc a).shares) k ∧ sumTo (fun a => (s.acc a).shares) k ≤ 1000000000 * k) := hbd
  clear hbd
  go_enter Try.func17, Try.ntmps17
  go_wp2
  go_loopw [3, 5] (fun sv i wr => ∃ k : Nat, k ≤ 7 ∧ i = .int .i64 k ∧ sv = .int .i64 (sumTo (fun a => (s.acc a).shares) k) ∧ ∃ n, wr = w.drewN n) (fun _ i _ => 7 - (intOf i).toNat)
  case atStart => exact ⟨0, by omega, rfl, rfl, 0, rfl⟩
  case round =>
    obtain ⟨k, hk, rfl, rfl, n, rfl⟩ := hrel
    by_cases hlt : k < 7
    · have e0 : w.cell? ⟨x, 10 + k * 11 + 4, none⟩ = some (.int .i64 (s.acc k).shares) := h.at hlt (j := 4) (by omega)
      have hb := Hbd.out k (by omega)
      have l0 := (ok.acc k hlt).h0
      have l1 := (ok.acc k hlt).h1
      have HS : Hid (sumTo (fun a => (s.acc a).shares) (k + 1) = sumTo (fun a => (s.acc a).shares) k + (s.acc k).shares) := by unfold Hid; simp only [sumTo]
      generalize sumTo (fun a => (s.acc a).shares) k = S at *
      go_wp2
      go_roundw
      case rel => exact ⟨k + 1, by omega, by go_num, by rw [HS.out], _, rfl⟩
      case measure => simp [intOf]; omega
    · have hk7 : k = 7 := by omega
      subst hk7
      go_wp2
      go_ret
      exact ⟨rfl, n, rfl⟩
set_option maxHeartbeats 1600000 in
theorem state_any (h : SC w x s) (ok : s.Ok) :
    Calls Try.prog 7 #[.pointer (some ⟨x, 0, none⟩)] w fun e w' => e = .returned (.agg #[.int .i64 s.epoch, .int .i64 s.supply, .int .i64 s.treasury, .int .i64 s.price, .int .i64 s.allShares]) ∧ Below w.heap.size w w' := by
  have hx := h.lt
  have hne : w.heap.size ≠ x := by omega
  generalize hW : w.alloc (.cells #[.int .i64 0, .int .i64 0, .int .i64 0, .int .i64 0, .int .i64 0] 34) = W
  have hWb : Below w.heap.size w W := by rw [← hW]; exact (Below.refl _ _).alloc (Nat.le_refl _) _
  have hres : W.heap[w.heap.size]? = some (.cells #[.int .i64 0, .int .i64 0, .int .i64 0, .int .i64 0, .int .i64 0] 34 (0, 0)) := by rw [← hW]; exact heap_alloc_new w _
  have Hres : Hid (W.heap[w.heap.size]? = some (.cells #[.int .i64 0, .int .i64 0, .int .i64 0, .int .i64 0, .int .i64 0] 34 (0, 0))) := hres
  have hs : SC W x s := h.below hWb
  have d1 : W.cell? ⟨x, 7, none⟩ = some (.int .i64 s.epoch) := hs.num (j := 7) (by omega)
  have d2 : W.cell? ⟨x, 8, none⟩ = some (.int .i64 s.treasury) := hs.num (j := 8) (by omega)
  have d3 : W.cell? ⟨x, 9, none⟩ = some (.int .i64 s.price) := hs.num (j := 9) (by omega)
  have r0 : W.cell? ⟨w.heap.size, 0, none⟩ = some (.int .i64 0) := cell_of_row W _ 0 _ _ _ hres
  have r1 : W.cell? ⟨w.heap.size, 1, none⟩ = some (.int .i64 0) := cell_of_row W _ 1 _ _ _ hres
  have r2 : W.cell? ⟨w.heap.size, 2, none⟩ = some (.int .i64 0) := cell_of_row W _ 2 _ _ _ hres
  have r3 : W.cell? ⟨w.heap.size, 3, none⟩ = some (.int .i64 0) := cell_of_row W _ 3 _ _ _ hres
  have r4 : W.cell? ⟨w.heap.size, 4, none⟩ = some (.int .i64 0) := cell_of_row W _ 4 _ _ _ hres
  have rf : ∀ j, W.frozen? ⟨w.heap.size, j, none⟩ = false := fun j => frozen_of_row W _ j _ _ hres
  have HW : Hid (w.alloc (.cells #[.int .i64 0, .int .i64 0, .int .i64 0, .int .i64 0, .int .i64 0] 34) = W) := hW
  clear hW hres
  generalize hT : s.supply = T at *
  have HT : Hid (s.supply = T) := hT
  clear hT
  generalize hU : s.allShares = U at *
  have HU : Hid (s.allShares = U) := hU
  clear hU
  go_enter Try.func7, Try.ntmps7
  go_wp2_with fail
  rw [HW.out]
  go_region_held (fun w' => w'.cell? ⟨x, 7, none⟩ = some (.int .i64 s.epoch) ∧ w'.cell? ⟨x, 8, none⟩ = some (.int .i64 s.treasury) ∧ w'.cell? ⟨x, 9, none⟩ = some (.int .i64 s.price)) (go_keep) ((first | (go_at_call 16; refine (supply_any (by exact hs.heap rfl) ok).mono ?_; rintro e w' ⟨rfl, n1, rfl⟩; rw [HT.out]) | (go_at_call 17; refine (allshares_any (by exact hs.heap rfl) ok).mono ?_; rintro e w' ⟨rfl, n2, rfl⟩; rw [HU.out])))
  all_goals
    go_wp2
    have hfb := five_block (W := W.drewN (1 + n1 + n2)) (.int .i64 s.epoch) (.int .i64 T) (.int .i64 s.treasury) (.int .i64 s.price) (.int .i64 U) Hres.out
    have hfl := five_below (.int .i64 s.epoch) (.int .i64 T) (.int .i64 s.treasury) (.int .i64 s.price) (.int .i64 U) (below_dn hWb (1 + n1 + n2))
    change bodyPost _ _ _ _ _ (five (W.drewN (1 + n1 + n2)) w.heap.size (.int .i64 s.epoch) (.int .i64 T) (.int .i64 s.treasury) (.int .i64 s.price) (.int .i64 U))
    generalize five (W.drewN (1 + n1 + n2)) w.heap.size (.int .i64 s.epoch) (.int .i64 T) (.int .i64 s.treasury) (.int .i64 s.price) (.int .i64 U) = Wf at *
    have s0 : Wf.cell? ⟨w.heap.size, 0, none⟩ = some (.int .i64 s.epoch) := cell_of_row Wf _ 0 _ _ _ hfb
    have s1 : Wf.cell? ⟨w.heap.size, 1, none⟩ = some (.int .i64 T) := cell_of_row Wf _ 1 _ _ _ hfb
    have s2 : Wf.cell? ⟨w.heap.size, 2, none⟩ = some (.int .i64 s.treasury) := cell_of_row Wf _ 2 _ _ _ hfb
    have s3 : Wf.cell? ⟨w.heap.size, 3, none⟩ = some (.int .i64 s.price) := cell_of_row Wf _ 3 _ _ _ hfb
    have s4 : Wf.cell? ⟨w.heap.size, 4, none⟩ = some (.int .i64 U) := cell_of_row Wf _ 4 _ _ _ hfb
    exact bodyPost_ret (v := .agg #[.int .i64 s.epoch, .int .i64 T, .int .i64 s.treasury, .int .i64 s.price, .int .i64 U]) (by simp [results, Try.results7, go_sem, s0, s1, s2, s3, s4]) rfl ⟨rfl, hfl⟩
end
end Go.Proofs.Ytiokecadnmcpeab
