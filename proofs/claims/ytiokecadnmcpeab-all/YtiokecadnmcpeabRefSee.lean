import Derived.Test.YtiokecadnmcpeabRefCalls
namespace Go.Proofs.Ytiokecadnmcpeab
set_option linter.unusedVariables false
set_option linter.unusedSimpArgs false
open Go.ChangeShapes Go.WideShapes Go.ChangeAt Go.RowKit
section
variable {w : World} {B y : Nat} {r : RS} {v : Nat → Value}

/-- In the midst of See, State: the chain; the result's block; the block that is filled. -/
structure Seeing (w W : World) (B y : Nat) (r : RS) (v : Nat → Value) (t : TypeId) (z cs : Array Value) : Prop where
  rc : RC W B y r v
  res : W.heap[w.heap.size]? = some (.cells z t (0, 0))
  cur : W.heap[w.heap.size + 1]? = some (.cells cs t (0, 0))
  bel : Below w.heap.size w W

theorem Seeing.call {W w1 : World} {t : TypeId} {z cs : Array Value} (S : Seeing w W B y r v t z cs) (b : Below W.heap.size W w1) : Seeing w w1 B y r v t z cs :=
  ⟨S.rc.below b, (b.block _ (lt_of_block S.res)).trans S.res, (b.block _ (lt_of_block S.cur)).trans S.cur, S.bel.trans (b.mono S.bel.size)⟩

theorem Seeing.store {W : World} {t : TypeId} {z cs : Array Value} (S : Seeing w W B y r v t z cs) (hf : ∀ k, RFoot y v k → k < w.heap.size) (j : Nat) (u : Value) : Seeing w (W.setCell ⟨w.heap.size + 1, j, none⟩ u) B y r v t z (cs.setIfInBounds j u) :=
  ⟨S.rc.keeps (F := fun k => k = w.heap.size + 1) ((Keeps.refl _ _).setCell _ _ (fun _ => rfl)) (fun b hb e => by have := hf b hb; omega),
   (Below.heap_setCell W _ u _ (by simp)).trans S.res,
   heap_setCell_same W _ j cs t u S.cur, S.bel.setCell (by simp) u⟩

theorem Seeing.cell {W : World} {t : TypeId} {z cs : Array Value} (S : Seeing w W B y r v t z cs) (j : Nat) : W.cell? ⟨w.heap.size + 1, j, none⟩ = cs[j]? := cell_of_row W _ j cs t (0, 0) S.cur
theorem Seeing.cellR {W : World} {t : TypeId} {z cs : Array Value} (S : Seeing w W B y r v t z cs) (j : Nat) : W.cell? ⟨w.heap.size, j, none⟩ = z[j]? := cell_of_row W _ j z t (0, 0) S.res
theorem Seeing.frozen {W : World} {t : TypeId} {z cs : Array Value} (S : Seeing w W B y r v t z cs) (j : Nat) : W.frozen? ⟨w.heap.size + 1, j, none⟩ = false := frozen_of_row W _ j cs t S.cur
theorem Seeing.frozenR {W : World} {t : TypeId} {z cs : Array Value} (S : Seeing w W B y r v t z cs) (j : Nat) : W.frozen? ⟨w.heap.size, j, none⟩ = false := frozen_of_row W _ j z t S.res
theorem Seeing.start (h : RC w B y r v) (t : TypeId) (z cs : Array Value) : Seeing w ((w.alloc (.cells z t)).alloc (.cells cs t)).drew B y r v t z cs := by
  have hb : Below w.heap.size w ((w.alloc (.cells z t)).alloc (.cells cs t)).drew := (((Below.refl _ _).alloc (Nat.le_refl _) _).alloc (by simp) _).drew
  refine ⟨h.below hb, ?_, ?_, hb⟩
  · show ((w.alloc (.cells z t)).alloc (.cells cs t)).heap[w.heap.size]? = _
    rw [Below.heap_alloc _ _ _ (by simp)]
    exact heap_alloc_new w _
  · show ((w.alloc (.cells z t)).alloc (.cells cs t)).heap[w.heap.size + 1]? = _
    have := heap_alloc_new (w.alloc (.cells z t)) (.cells cs t)
    simpa using this

set_option maxHeartbeats 800000 in
theorem rsee_no (h : RC w B y r v) (a : Int) (ha : ¬ (0 ≤ a ∧ a ≤ (r.N : Int))) :
    Calls Try.prog 76 #[.pointer (some ⟨y, 0, none⟩), .int .i64 a] w fun e w' => e = .returned (.tuple #[.agg #[.int .i64 0, .int .i64 0, .int .i64 0, .int .i64 0, .int .i64 0, .int .i64 0], .int .i64 2]) ∧ Below w.heap.size w w' := by
  have hN := h.cN
  have hyb := block_lt_of_cell hN
  have Ha : Hid (¬ (0 ≤ a ∧ a ≤ (r.N : Int))) := ha
  clear ha
  go_enter Try.func76, Try.ntmps76
  go_wp2_with fail
  refine (rwithin_no _ _ _ _ Ha.out).mono ?_
  rintro e w1 ⟨rfl, rfl⟩
  go_wp2_with fail
  exact bodyPost_ret (v := .tuple #[.agg #[.int .i64 0, .int .i64 0, .int .i64 0, .int .i64 0, .int .i64 0, .int .i64 0], .int .i64 2]) (by simp [results, Try.results76, go_sem]) rfl ⟨rfl, (Below.refl _ _).alloc (Nat.le_refl _) _⟩

set_option maxHeartbeats 1600000 in
theorem rsee_yes (h : RC w B y r v) (a : Nat) (ha2 : a ≤ r.N) (hN6 : r.N ≤ 6) (hbl : r.bids.length = r.N + 1) (hhl : r.has.length = r.N + 1) :
    Calls Try.prog 76 #[.pointer (some ⟨y, 0, none⟩), .int .i64 a] w fun e w' =>
      e = .returned (.tuple #[.agg #[.int .i64 (wrap64 (allOf r.book 1 a)), .int .i64 (wrap64 (allOf r.book 2 a)), .int .i64 (r.bids.getD a 0), .int .i64 (wrap64 (allOf r.book 3 a)), .int .i64 (r.has.getD a 0), .int .i64 (wrap64 (allOf r.book 5 a))], .int .i64 0]) ∧ Below w.heap.size w w' := by
  have hN := h.cN
  have hyb := block_lt_of_cell hN
  obtain ⟨ba, bcap, hbv, hbi, _⟩ := own_intsL h.bids
  obtain ⟨ha', hcap, hhv, hhi, _⟩ := own_intsL h.has
  have hc9 : w.cell? ⟨y, 9, none⟩ = some (v 1) := h.cells 9 (by omega)
  have hc10 : w.cell? ⟨y, 10, none⟩ = some (v 2) := h.cells 10 (by omega)
  rw [hbv] at hc9
  rw [hhv] at hc10
  obtain ⟨bb, bo, rfl, hbc⟩ := hbi.at (k := a) (by omega)
  obtain ⟨hb, ho, rfl, hhc⟩ := hhi.at (k := a) (by omega)
  have hbb := block_lt_of_cell hbc
  have hhb := block_lt_of_cell hhc
  generalize r.bids.getD a 0 = bd at *
  generalize r.has.getD a 0 = hs at *
  rw [hbl] at hc9
  rw [hhl] at hc10
  have i1 : (a : Int) < ((r.N + 1 : Nat) : Int) := by omega
  have ha0 : (0 : Int) ≤ (a : Int) := by omega
  have ha2' : (a : Int) ≤ (r.N : Int) := by omega
  clear hbv hhv hbi hhi
  go_enter Try.func76, Try.ntmps76
  go_wp2_with fail
  refine (rwithin_yes _ _ _ _ ha0 ha2').mono ?_
  rintro e w1 ⟨rfl, rfl⟩
  go_wp2_with fail
  go_region
  have hft : ∀ k, RFoot y v k → k < w.heap.size := fun k hk => (h.lt hk).2
  have S0 := Seeing.start h 116 #[.int .i64 0, .int .i64 0, .int .i64 0, .int .i64 0, .int .i64 0, .int .i64 0] #[.int .i64 0, .int .i64 0, .int .i64 bd, .int .i64 0, .int .i64 hs, .int .i64 0]
  clear hN hc9 hc10 hbc hhc hbb hhb
  go_wp2_with fail
  refine (rall S0.rc _ _).mono ?_
  rintro e w1 ⟨rfl, b1⟩
  have S1 := S0.call b1
  have e1 : w1.cell? ⟨w.heap.size + 1, 0, none⟩ = some (.int .i64 0) := S1.cell 0
  have g1 := S1.frozen 0
  go_wp2_with fail
  have S2 := S1.store hft 0 (.int .i64 (wrap64 (allOf r.book 1 a)))
  refine (rall S2.rc _ _).mono ?_
  clear S0 S1 b1 e1 g1
  rintro e w2 ⟨rfl, b2⟩
  have S3 := S2.call b2
  have e1 : w2.cell? ⟨w.heap.size + 1, 1, none⟩ = some (.int .i64 0) := S3.cell 1
  have g1 := S3.frozen 1
  go_wp2_with fail
  have S4 := S3.store hft 1 (.int .i64 (wrap64 (allOf r.book 2 a)))
  refine (rall S4.rc _ _).mono ?_
  clear S2 S3 b2 e1 g1
  rintro e w3 ⟨rfl, b3⟩
  have S5 := S4.call b3
  have e1 : w3.cell? ⟨w.heap.size + 1, 3, none⟩ = some (.int .i64 0) := S5.cell 3
  have g1 := S5.frozen 3
  go_wp2_with fail
  have S6 := S5.store hft 3 (.int .i64 (wrap64 (allOf r.book 3 a)))
  refine (rall S6.rc _ _).mono ?_
  clear S4 S5 b3 e1 g1
  rintro e w4 ⟨rfl, b4⟩
  have S7 := S6.call b4
  have q0 : w4.cell? ⟨w.heap.size + 1, 0, none⟩ = some (.int .i64 (wrap64 (allOf r.book 1 a))) := S7.cell 0
  have q1 : w4.cell? ⟨w.heap.size + 1, 1, none⟩ = some (.int .i64 (wrap64 (allOf r.book 2 a))) := S7.cell 1
  have q2 : w4.cell? ⟨w.heap.size + 1, 2, none⟩ = some (.int .i64 bd) := S7.cell 2
  have q3 : w4.cell? ⟨w.heap.size + 1, 3, none⟩ = some (.int .i64 (wrap64 (allOf r.book 3 a))) := S7.cell 3
  have q4 : w4.cell? ⟨w.heap.size + 1, 4, none⟩ = some (.int .i64 hs) := S7.cell 4
  have q5 : w4.cell? ⟨w.heap.size + 1, 5, none⟩ = some (.int .i64 0) := S7.cell 5
  have g1 := S7.frozen 5
  have p0 : w4.cell? ⟨w.heap.size, 0, none⟩ = some (.int .i64 0) := S7.cellR 0
  have p1 : w4.cell? ⟨w.heap.size, 1, none⟩ = some (.int .i64 0) := S7.cellR 1
  have p2 : w4.cell? ⟨w.heap.size, 2, none⟩ = some (.int .i64 0) := S7.cellR 2
  have p3 : w4.cell? ⟨w.heap.size, 3, none⟩ = some (.int .i64 0) := S7.cellR 3
  have p4 : w4.cell? ⟨w.heap.size, 4, none⟩ = some (.int .i64 0) := S7.cellR 4
  have p5 : w4.cell? ⟨w.heap.size, 5, none⟩ = some (.int .i64 0) := S7.cellR 5
  have gR := S7.frozenR
  generalize hx1 : wrap64 (allOf r.book 1 a) = x1 at *
  have Hx1 : Hid (wrap64 (allOf r.book 1 a) = x1) := hx1
  clear hx1
  generalize hx2 : wrap64 (allOf r.book 2 a) = x2 at *
  have Hx2 : Hid (wrap64 (allOf r.book 2 a) = x2) := hx2
  clear hx2
  generalize hx3 : wrap64 (allOf r.book 3 a) = x3 at *
  have Hx3 : Hid (wrap64 (allOf r.book 3 a) = x3) := hx3
  clear hx3
  generalize hx5 : wrap64 (allOf r.book 5 a) = x5 at *
  have Hx5 : Hid (wrap64 (allOf r.book 5 a) = x5) := hx5
  clear hx5
  have hfb := six_block (.int .i64 x1) (.int .i64 x2) (.int .i64 bd) (.int .i64 x3) (.int .i64 hs) (.int .i64 x5) ((Below.heap_setCell w4 ⟨w.heap.size + 1, 5, none⟩ (.int .i64 x5) w.heap.size (by simp)).trans S7.res)
  have hfl := six_below (.int .i64 x1) (.int .i64 x2) (.int .i64 bd) (.int .i64 x3) (.int .i64 hs) (.int .i64 x5) (S7.bel.setCell (p := ⟨w.heap.size + 1, 5, none⟩) (by simp) (.int .i64 x5))
  have Hfb : Hid ((six (w4.setCell ⟨w.heap.size + 1, 5, none⟩ (.int .i64 x5)) w.heap.size (.int .i64 x1) (.int .i64 x2) (.int .i64 bd) (.int .i64 x3) (.int .i64 hs) (.int .i64 x5)).heap[w.heap.size]? = some (.cells #[.int .i64 x1, .int .i64 x2, .int .i64 bd, .int .i64 x3, .int .i64 hs, .int .i64 x5] 116 (0, 0))) := hfb
  have Hfl : Hid (Below w.heap.size w (six (w4.setCell ⟨w.heap.size + 1, 5, none⟩ (.int .i64 x5)) w.heap.size (.int .i64 x1) (.int .i64 x2) (.int .i64 bd) (.int .i64 x3) (.int .i64 hs) (.int .i64 x5))) := hfl
  clear S6 S7 b4 hfb hfl
  go_wp2_with fail
  change bodyPost _ _ _ _ _ (six (w4.setCell ⟨w.heap.size + 1, 5, none⟩ (.int .i64 x5)) w.heap.size (.int .i64 x1) (.int .i64 x2) (.int .i64 bd) (.int .i64 x3) (.int .i64 hs) (.int .i64 x5))
  generalize six (w4.setCell ⟨w.heap.size + 1, 5, none⟩ (.int .i64 x5)) w.heap.size (.int .i64 x1) (.int .i64 x2) (.int .i64 bd) (.int .i64 x3) (.int .i64 hs) (.int .i64 x5) = Wf at *
  have r0 : Wf.cell? ⟨w.heap.size, 0, none⟩ = some (.int .i64 x1) := cell_of_row Wf _ 0 _ _ _ Hfb.out
  have r1 : Wf.cell? ⟨w.heap.size, 1, none⟩ = some (.int .i64 x2) := cell_of_row Wf _ 1 _ _ _ Hfb.out
  have r2 : Wf.cell? ⟨w.heap.size, 2, none⟩ = some (.int .i64 bd) := cell_of_row Wf _ 2 _ _ _ Hfb.out
  have r3 : Wf.cell? ⟨w.heap.size, 3, none⟩ = some (.int .i64 x3) := cell_of_row Wf _ 3 _ _ _ Hfb.out
  have r4 : Wf.cell? ⟨w.heap.size, 4, none⟩ = some (.int .i64 hs) := cell_of_row Wf _ 4 _ _ _ Hfb.out
  have r5 : Wf.cell? ⟨w.heap.size, 5, none⟩ = some (.int .i64 x5) := cell_of_row Wf _ 5 _ _ _ Hfb.out
  exact bodyPost_ret (v := .tuple #[.agg #[.int .i64 x1, .int .i64 x2, .int .i64 bd, .int .i64 x3, .int .i64 hs, .int .i64 x5], .int .i64 0]) (by simp [results, Try.results76, go_sem, r0, r1, r2, r3, r4, r5]) rfl ⟨by rw [Hx1.out, Hx2.out, Hx3.out, Hx5.out], Hfl.out⟩

set_option maxHeartbeats 1600000 in
theorem rstate (h : RC w B y r v) :
    Calls Try.prog 77 #[.pointer (some ⟨y, 0, none⟩)] w fun e w' =>
      e = .returned (.agg #[.int .i64 r.epoch, .int .i64 (wrap64 (allOf r.book 1 (-1) + allOf r.book 2 (-1) + allOf r.book 3 (-1) + allOf r.book 4 (-1))), .int .i64 (wrap64 (allOf r.book 4 (-1))), .int .i64 r.price, .int .i64 (wrap64 (allOf r.book 5 (-1)))]) ∧ Below w.heap.size w w' := by
  have hyb := block_lt_of_cell h.cN
  have hc11 : w.cell? ⟨y, 11, none⟩ = some (.int .i64 r.epoch) := h.cells 11 (by omega)
  have hc12 : w.cell? ⟨y, 12, none⟩ = some (.int .i64 r.price) := h.cells 12 (by omega)
  have hft : ∀ k, RFoot y v k → k < w.heap.size := fun k hk => (h.lt hk).2
  go_enter Try.func77, Try.ntmps77
  go_wp2_with fail
  go_region
  have S0 := Seeing.start h 119 #[.int .i64 0, .int .i64 0, .int .i64 0, .int .i64 0, .int .i64 0] #[.int .i64 r.epoch, .int .i64 0, .int .i64 0, .int .i64 r.price, .int .i64 0]
  clear hc11 hc12
  go_wp2_with fail
  refine (rsupply S0.rc).mono ?_
  rintro e w1 ⟨rfl, b1⟩
  have S1 := S0.call b1
  have e1 : w1.cell? ⟨w.heap.size + 1, 1, none⟩ = some (.int .i64 0) := S1.cell 1
  have g1 := S1.frozen 1
  go_wp2_with fail
  have S2 := S1.store hft 1 (.int .i64 (wrap64 (allOf r.book 1 (-1) + allOf r.book 2 (-1) + allOf r.book 3 (-1) + allOf r.book 4 (-1))))
  refine (rall S2.rc _ _).mono ?_
  clear S0 S1 b1 e1 g1
  rintro e w2 ⟨rfl, b2⟩
  have S3 := S2.call b2
  have e1 : w2.cell? ⟨w.heap.size + 1, 2, none⟩ = some (.int .i64 0) := S3.cell 2
  have g1 := S3.frozen 2
  go_wp2_with fail
  have S4 := S3.store hft 2 (.int .i64 (wrap64 (allOf r.book 4 (-1))))
  refine (rall S4.rc _ _).mono ?_
  clear S2 S3 b2 e1 g1
  rintro e w4 ⟨rfl, b4⟩
  have S7 := S4.call b4
  have q0 : w4.cell? ⟨w.heap.size + 1, 0, none⟩ = some (.int .i64 r.epoch) := S7.cell 0
  have q1 : w4.cell? ⟨w.heap.size + 1, 1, none⟩ = some (.int .i64 (wrap64 (allOf r.book 1 (-1) + allOf r.book 2 (-1) + allOf r.book 3 (-1) + allOf r.book 4 (-1)))) := S7.cell 1
  have q2 : w4.cell? ⟨w.heap.size + 1, 2, none⟩ = some (.int .i64 (wrap64 (allOf r.book 4 (-1)))) := S7.cell 2
  have q3 : w4.cell? ⟨w.heap.size + 1, 3, none⟩ = some (.int .i64 r.price) := S7.cell 3
  have q4 : w4.cell? ⟨w.heap.size + 1, 4, none⟩ = some (.int .i64 0) := S7.cell 4
  have g1 := S7.frozen 4
  have p0 : w4.cell? ⟨w.heap.size, 0, none⟩ = some (.int .i64 0) := S7.cellR 0
  have p1 : w4.cell? ⟨w.heap.size, 1, none⟩ = some (.int .i64 0) := S7.cellR 1
  have p2 : w4.cell? ⟨w.heap.size, 2, none⟩ = some (.int .i64 0) := S7.cellR 2
  have p3 : w4.cell? ⟨w.heap.size, 3, none⟩ = some (.int .i64 0) := S7.cellR 3
  have p4 : w4.cell? ⟨w.heap.size, 4, none⟩ = some (.int .i64 0) := S7.cellR 4
  have gR := S7.frozenR
  generalize hx1 : wrap64 (allOf r.book 1 (-1) + allOf r.book 2 (-1) + allOf r.book 3 (-1) + allOf r.book 4 (-1)) = x1 at *
  have Hx1 : Hid (wrap64 (allOf r.book 1 (-1) + allOf r.book 2 (-1) + allOf r.book 3 (-1) + allOf r.book 4 (-1)) = x1) := hx1
  clear hx1
  generalize hx2 : wrap64 (allOf r.book 4 (-1)) = x2 at *
  have Hx2 : Hid (wrap64 (allOf r.book 4 (-1)) = x2) := hx2
  clear hx2
  generalize hx5 : wrap64 (allOf r.book 5 (-1)) = x5 at *
  have Hx5 : Hid (wrap64 (allOf r.book 5 (-1)) = x5) := hx5
  clear hx5
  have hfb := five_block (.int .i64 r.epoch) (.int .i64 x1) (.int .i64 x2) (.int .i64 r.price) (.int .i64 x5) ((Below.heap_setCell w4 ⟨w.heap.size + 1, 4, none⟩ (.int .i64 x5) w.heap.size (by simp)).trans S7.res)
  have hfl := five_below (.int .i64 r.epoch) (.int .i64 x1) (.int .i64 x2) (.int .i64 r.price) (.int .i64 x5) (S7.bel.setCell (p := ⟨w.heap.size + 1, 4, none⟩) (by simp) (.int .i64 x5))
  have Hfb : Hid ((five (w4.setCell ⟨w.heap.size + 1, 4, none⟩ (.int .i64 x5)) w.heap.size (.int .i64 r.epoch) (.int .i64 x1) (.int .i64 x2) (.int .i64 r.price) (.int .i64 x5)).heap[w.heap.size]? = some (.cells #[.int .i64 r.epoch, .int .i64 x1, .int .i64 x2, .int .i64 r.price, .int .i64 x5] 119 (0, 0))) := hfb
  have Hfl : Hid (Below w.heap.size w (five (w4.setCell ⟨w.heap.size + 1, 4, none⟩ (.int .i64 x5)) w.heap.size (.int .i64 r.epoch) (.int .i64 x1) (.int .i64 x2) (.int .i64 r.price) (.int .i64 x5))) := hfl
  clear S4 S7 b4 hfb hfl
  go_wp2_with fail
  change bodyPost _ _ _ _ _ (five (w4.setCell ⟨w.heap.size + 1, 4, none⟩ (.int .i64 x5)) w.heap.size (.int .i64 r.epoch) (.int .i64 x1) (.int .i64 x2) (.int .i64 r.price) (.int .i64 x5))
  generalize five (w4.setCell ⟨w.heap.size + 1, 4, none⟩ (.int .i64 x5)) w.heap.size (.int .i64 r.epoch) (.int .i64 x1) (.int .i64 x2) (.int .i64 r.price) (.int .i64 x5) = Wf at *
  have r0 : Wf.cell? ⟨w.heap.size, 0, none⟩ = some (.int .i64 r.epoch) := cell_of_row Wf _ 0 _ _ _ Hfb.out
  have r1 : Wf.cell? ⟨w.heap.size, 1, none⟩ = some (.int .i64 x1) := cell_of_row Wf _ 1 _ _ _ Hfb.out
  have r2 : Wf.cell? ⟨w.heap.size, 2, none⟩ = some (.int .i64 x2) := cell_of_row Wf _ 2 _ _ _ Hfb.out
  have r3 : Wf.cell? ⟨w.heap.size, 3, none⟩ = some (.int .i64 r.price) := cell_of_row Wf _ 3 _ _ _ Hfb.out
  have r4 : Wf.cell? ⟨w.heap.size, 4, none⟩ = some (.int .i64 x5) := cell_of_row Wf _ 4 _ _ _ Hfb.out
  exact bodyPost_ret (v := .agg #[.int .i64 r.epoch, .int .i64 x1, .int .i64 x2, .int .i64 r.price, .int .i64 x5]) (by simp [results, Try.results77, go_sem, r0, r1, r2, r3, r4]) rfl ⟨by rw [Hx1.out, Hx2.out, Hx5.out], Hfl.out⟩
end
end Go.Proofs.Ytiokecadnmcpeab
