import Derived.Test.YtacfebbflkfmpaaPrice
import Derived.Test.YtacfebbflkfmpaaKeeps
import Derived.WalkLawsBesides
import Derived.Deep.RegionHeld
namespace Go.Proofs.Ytacfebbflkfmpaa
open Go.ChangeShapes Go.WideShapes Go.ChangeAt Go.RowKit

set_option maxHeartbeats 800000 in
theorem queued_any (b off : Nat) (q0 q1 q2 q3 q4 : Int) (w : World) (c0 : w.cell? ⟨b, off + 5, none⟩ = some (.int .i64 q0)) (c1 : w.cell? ⟨b, off + 5 + 1, none⟩ = some (.int .i64 q1)) (c2 : w.cell? ⟨b, off + 5 + 2, none⟩ = some (.int .i64 q2)) (c3 : w.cell? ⟨b, off + 5 + 3, none⟩ = some (.int .i64 q3)) (c4 : w.cell? ⟨b, off + 5 + 4, none⟩ = some (.int .i64 q4))
    (h0 : 0 ≤ q0) (h1 : 0 ≤ q1) (h2 : 0 ≤ q2) (h3 : 0 ≤ q3) (h4 : 0 ≤ q4) (g0 : q0 ≤ 1000000000) (g1 : q1 ≤ 1000000000) (g2 : q2 ≤ 1000000000) (g3 : q3 ≤ 1000000000) (g4 : q4 ≤ 1000000000) :
    Calls Try.prog 53 #[.pointer (some ⟨b, off, none⟩)] w fun e w' => e = .returned (.int .i64 (q0 + q1 + q2 + q3 + q4)) ∧ w' = w := by
  have i0 : ∀ w, (Instr.index 78 (.agg #[.int .i64 q0, .int .i64 q1, .int .i64 q2, .int .i64 q3, .int .i64 q4]) (.int .i64 0)).run Try.prog w = .ok (.int .i64 q0) w := fun _ => by kernel_rfl
  have i1 : ∀ w, (Instr.index 78 (.agg #[.int .i64 q0, .int .i64 q1, .int .i64 q2, .int .i64 q3, .int .i64 q4]) (.int .i64 1)).run Try.prog w = .ok (.int .i64 q1) w := fun _ => by kernel_rfl
  have i2 : ∀ w, (Instr.index 78 (.agg #[.int .i64 q0, .int .i64 q1, .int .i64 q2, .int .i64 q3, .int .i64 q4]) (.int .i64 2)).run Try.prog w = .ok (.int .i64 q2) w := fun _ => by kernel_rfl
  have i3 : ∀ w, (Instr.index 78 (.agg #[.int .i64 q0, .int .i64 q1, .int .i64 q2, .int .i64 q3, .int .i64 q4]) (.int .i64 3)).run Try.prog w = .ok (.int .i64 q3) w := fun _ => by kernel_rfl
  have i4 : ∀ w, (Instr.index 78 (.agg #[.int .i64 q0, .int .i64 q1, .int .i64 q2, .int .i64 q3, .int .i64 q4]) (.int .i64 4)).run Try.prog w = .ok (.int .i64 q4) w := fun _ => by kernel_rfl
  go_enter Try.func53, Try.ntmps53
  go_wp2
  refine wp_loop_rounds 6 ?_
  rw [rounds_succ]
  go_wp2
  rw [rounds_succ]
  go_wp2
  rw [rounds_succ]
  go_wp2
  rw [rounds_succ]
  go_wp2
  rw [rounds_succ]
  go_wp2
  rw [rounds_succ]
  go_wp2
  go_ret
  exact ⟨ret_int (by omega), rfl⟩

/-- An account of the program's, as data. -/
structure Acc where
  liquid : Int
  locked : Int
  bid : Int
  seats : Int
  shares : Int
  q0 : Int
  q1 : Int
  q2 : Int
  q3 : Int
  q4 : Int

def Acc.cells (c : Acc) : List Value := [.int .i64 c.liquid, .int .i64 c.locked, .int .i64 c.bid, .int .i64 c.seats, .int .i64 c.shares, .int .i64 c.q0, .int .i64 c.q1, .int .i64 c.q2, .int .i64 c.q3, .int .i64 c.q4]
def Acc.queued (c : Acc) : Int := c.q0 + c.q1 + c.q2 + c.q3 + c.q4

structure Acc.Ok (c : Acc) : Prop where
  l0 : 0 ≤ c.liquid
  l1 : c.liquid ≤ 1000000000
  k0 : 0 ≤ c.locked
  k1 : c.locked ≤ 1000000000
  b0 : 0 ≤ c.bid
  b1 : c.bid ≤ 1000000000
  s0 : 0 ≤ c.seats
  s1 : c.seats ≤ 1000000000
  h0 : 0 ≤ c.shares
  h1 : c.shares ≤ 1000000000
  q00 : 0 ≤ c.q0
  q01 : c.q0 ≤ 1000000000
  q10 : 0 ≤ c.q1
  q11 : c.q1 ≤ 1000000000
  q20 : 0 ≤ c.q2
  q21 : c.q2 ≤ 1000000000
  q30 : 0 ≤ c.q3
  q31 : c.q3 ≤ 1000000000
  q40 : 0 ≤ c.q4
  q41 : c.q4 ≤ 1000000000

set_option maxHeartbeats 1600000 in
theorem seen_any (b off : Nat) (c : Acc) (w : World) (ok : c.Ok) (hc : ∀ j, j < 10 → w.cell? ⟨b, off + j, none⟩ = c.cells[j]?) :
    Calls Try.prog 39 #[.pointer (some ⟨b, off, none⟩)] w fun e w' => e = .returned (.agg #[.int .i64 c.liquid, .int .i64 c.locked, .int .i64 c.bid, .int .i64 c.queued, .int .i64 c.seats, .int .i64 c.shares]) ∧ Below w.heap.size w w' := by
  have hb := block_lt_of_cell (hc 0 (by omega))
  have hb' : w.heap.size ≠ b := by have : b < w.heap.size := hb; omega
  have c0 : w.cell? ⟨b, off, none⟩ = some (.int .i64 c.liquid) := hc 0 (by omega)
  have c1 : w.cell? ⟨b, off + 1, none⟩ = some (.int .i64 c.locked) := hc 1 (by omega)
  have c2 : w.cell? ⟨b, off + 2, none⟩ = some (.int .i64 c.bid) := hc 2 (by omega)
  have c3 : w.cell? ⟨b, off + 3, none⟩ = some (.int .i64 c.seats) := hc 3 (by omega)
  have c4 : w.cell? ⟨b, off + 4, none⟩ = some (.int .i64 c.shares) := hc 4 (by omega)
  have c5 : w.cell? ⟨b, off + 5, none⟩ = some (.int .i64 c.q0) := hc 5 (by omega)
  have c6 : w.cell? ⟨b, off + 5 + 1, none⟩ = some (.int .i64 c.q1) := hc 6 (by omega)
  have c7 : w.cell? ⟨b, off + 5 + 2, none⟩ = some (.int .i64 c.q2) := hc 7 (by omega)
  have c8 : w.cell? ⟨b, off + 5 + 3, none⟩ = some (.int .i64 c.q3) := hc 8 (by omega)
  have c9 : w.cell? ⟨b, off + 5 + 4, none⟩ = some (.int .i64 c.q4) := hc 9 (by omega)
  clear hc
  generalize hW : w.alloc (.cells #[.int .i64 0, .int .i64 0, .int .i64 0, .int .i64 0, .int .i64 0, .int .i64 0] 47) = W
  have hWb : Below w.heap.size w W := by rw [← hW]; exact (Below.refl _ _).alloc (Nat.le_refl _) _
  have hres : W.heap[w.heap.size]? = some (.cells #[.int .i64 0, .int .i64 0, .int .i64 0, .int .i64 0, .int .i64 0, .int .i64 0] 47 (0, 0)) := by rw [← hW]; exact heap_alloc_new w _
  have Hres : Hid (W.heap[w.heap.size]? = some (.cells #[.int .i64 0, .int .i64 0, .int .i64 0, .int .i64 0, .int .i64 0, .int .i64 0] 47 (0, 0))) := hres
  have d0 : W.cell? ⟨b, off, none⟩ = some (.int .i64 c.liquid) := (hWb.cell (p := ⟨b, off, none⟩) hb).trans c0
  have d1 : W.cell? ⟨b, off + 1, none⟩ = some (.int .i64 c.locked) := (hWb.cell (p := ⟨b, off + 1, none⟩) hb).trans c1
  have d2 : W.cell? ⟨b, off + 2, none⟩ = some (.int .i64 c.bid) := (hWb.cell (p := ⟨b, off + 2, none⟩) hb).trans c2
  have d3 : W.cell? ⟨b, off + 3, none⟩ = some (.int .i64 c.seats) := (hWb.cell (p := ⟨b, off + 3, none⟩) hb).trans c3
  have d4 : W.cell? ⟨b, off + 4, none⟩ = some (.int .i64 c.shares) := (hWb.cell (p := ⟨b, off + 4, none⟩) hb).trans c4
  have d5 : W.cell? ⟨b, off + 5, none⟩ = some (.int .i64 c.q0) := (hWb.cell (p := ⟨b, off + 5, none⟩) hb).trans c5
  have d6 : W.cell? ⟨b, off + 5 + 1, none⟩ = some (.int .i64 c.q1) := (hWb.cell (p := ⟨b, off + 5 + 1, none⟩) hb).trans c6
  have d7 : W.cell? ⟨b, off + 5 + 2, none⟩ = some (.int .i64 c.q2) := (hWb.cell (p := ⟨b, off + 5 + 2, none⟩) hb).trans c7
  have d8 : W.cell? ⟨b, off + 5 + 3, none⟩ = some (.int .i64 c.q3) := (hWb.cell (p := ⟨b, off + 5 + 3, none⟩) hb).trans c8
  have d9 : W.cell? ⟨b, off + 5 + 4, none⟩ = some (.int .i64 c.q4) := (hWb.cell (p := ⟨b, off + 5 + 4, none⟩) hb).trans c9
  have HW : Hid (w.alloc (.cells #[.int .i64 0, .int .i64 0, .int .i64 0, .int .i64 0, .int .i64 0, .int .i64 0] 47) = W) := hW
  have hq : Hid (Calls Try.prog 53 #[.pointer (some ⟨b, off, none⟩)] W.drew fun e w' => e = .returned (.int .i64 c.queued) ∧ w' = W.drew) :=
    queued_any b off c.q0 c.q1 c.q2 c.q3 c.q4 W.drew d5 d6 d7 d8 d9 ok.q00 ok.q10 ok.q20 ok.q30 ok.q40 ok.q01 ok.q11 ok.q21 ok.q31 ok.q41
  have r0 : W.cell? ⟨w.heap.size, 0, none⟩ = some (.int .i64 0) := cell_of_row W _ 0 _ _ _ hres
  have r1 : W.cell? ⟨w.heap.size, 1, none⟩ = some (.int .i64 0) := cell_of_row W _ 1 _ _ _ hres
  have r2 : W.cell? ⟨w.heap.size, 2, none⟩ = some (.int .i64 0) := cell_of_row W _ 2 _ _ _ hres
  have r3 : W.cell? ⟨w.heap.size, 3, none⟩ = some (.int .i64 0) := cell_of_row W _ 3 _ _ _ hres
  have r4 : W.cell? ⟨w.heap.size, 4, none⟩ = some (.int .i64 0) := cell_of_row W _ 4 _ _ _ hres
  have r5 : W.cell? ⟨w.heap.size, 5, none⟩ = some (.int .i64 0) := cell_of_row W _ 5 _ _ _ hres
  have rf : ∀ j, W.frozen? ⟨w.heap.size, j, none⟩ = false := fun j => frozen_of_row W _ j _ _ hres
  clear ok hW hres c0 c1 c2 c3 c4 c5 c6 c7 c8 c9
  go_enter Try.func39, Try.ntmps39
  go_wp2_with fail
  rw [HW.out]
  go_region_held (fun w' => w'.cell? ⟨b, off, none⟩ = some (.int .i64 c.liquid) ∧ w'.cell? ⟨b, off + 1, none⟩ = some (.int .i64 c.locked) ∧ w'.cell? ⟨b, off + 2, none⟩ = some (.int .i64 c.bid) ∧ w'.cell? ⟨b, off + 3, none⟩ = some (.int .i64 c.seats) ∧ w'.cell? ⟨b, off + 4, none⟩ = some (.int .i64 c.shares)) (go_keep) ((go_at_call 53; refine hq.out.mono ?_; rintro e w' ⟨rfl, rfl⟩))
  all_goals
    go_wp2
    have hfb := six_block (.int .i64 c.liquid) (.int .i64 c.locked) (.int .i64 c.bid) (.int .i64 c.queued) (.int .i64 c.seats) (.int .i64 c.shares) Hres.out
    have hfl := six_below (.int .i64 c.liquid) (.int .i64 c.locked) (.int .i64 c.bid) (.int .i64 c.queued) (.int .i64 c.seats) (.int .i64 c.shares) hWb
    change bodyPost _ _ _ _ _ (six W w.heap.size (.int .i64 c.liquid) (.int .i64 c.locked) (.int .i64 c.bid) (.int .i64 c.queued) (.int .i64 c.seats) (.int .i64 c.shares)).drew
    generalize six W w.heap.size (.int .i64 c.liquid) (.int .i64 c.locked) (.int .i64 c.bid) (.int .i64 c.queued) (.int .i64 c.seats) (.int .i64 c.shares) = Wf at *
    have s0 : Wf.drew.cell? ⟨w.heap.size, 0, none⟩ = some (.int .i64 c.liquid) := cell_of_row Wf _ 0 _ _ _ hfb
    have s1 : Wf.drew.cell? ⟨w.heap.size, 1, none⟩ = some (.int .i64 c.locked) := cell_of_row Wf _ 1 _ _ _ hfb
    have s2 : Wf.drew.cell? ⟨w.heap.size, 2, none⟩ = some (.int .i64 c.bid) := cell_of_row Wf _ 2 _ _ _ hfb
    have s3 : Wf.drew.cell? ⟨w.heap.size, 3, none⟩ = some (.int .i64 c.queued) := cell_of_row Wf _ 3 _ _ _ hfb
    have s4 : Wf.drew.cell? ⟨w.heap.size, 4, none⟩ = some (.int .i64 c.seats) := cell_of_row Wf _ 4 _ _ _ hfb
    have s5 : Wf.drew.cell? ⟨w.heap.size, 5, none⟩ = some (.int .i64 c.shares) := cell_of_row Wf _ 5 _ _ _ hfb
    have hfl2 := hfl.drew
    generalize Wf.drew = Wg at *
    exact bodyPost_ret (v := .agg #[.int .i64 c.liquid, .int .i64 c.locked, .int .i64 c.bid, .int .i64 c.queued, .int .i64 c.seats, .int .i64 c.shares]) (by simp [results, Try.results39, go_sem, s0, s1, s2, s3, s4, s5]) rfl ⟨rfl, hfl2⟩
end Go.Proofs.Ytacfebbflkfmpaa
