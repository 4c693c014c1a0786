import Derived.Test.YtiokecadnmcpeabLS
namespace Go.Proofs.Ytiokecadnmcpeab
set_option linter.unusedVariables false
set_option linter.unusedSimpArgs false
open Go.ChangeShapes Go.WideShapes Go.ChangeAt Go.RowKit
section
variable {w : World} {B wb T : Nat} {ps : List Pr} {va : Value}

set_option maxHeartbeats 3200000 in
set_option maxRecDepth 100000 in
theorem step_send (o : OpD) (hI : WInv w B wb ps va T) (hps : ps.length ≤ 9223372036854775807) (hne : 1 ≤ ps.length) (ok : OpOk w o) (hk : o.kind = 6) (hTe : T ≤ 4611686018427387904) (hTl : T * 56 + 56 ≤ 140737488355328) :
    Calls Try.prog 34 #[.pointer (some ⟨wb, 0, none⟩), .agg o.cells] w fun e w' => e = .returned (.bool true) ∧ ∃ ps', WInv w' B wb ps' va (T + 1) ∧ ps'.length = ps.length ∧ Below B w w' := by
  obtain ⟨ga, cap, hva, hcells⟩ := own_pairs hI.own hne
  have hpk := pickN_lt o.who ps.length hne
  obtain ⟨cx, cy⟩ := hcells (pickN o.who ps.length) hpk
  have hp := hI.ok _ hpk
  have hpick := fun W => pick_any o.who ps.length W ok.wwho hne hps
  have hll := hI.len _ hpk
  have hepb : (ps.getD (pickN o.who ps.length) Pr.none).r.epoch ≤ 4611686018427387904 := by have := hI.ep _ hpk; omega
  have hturn := fun (w' : World) (p' : Pr) => hI.turn (d := 1) (w' := w') (p' := p') _ hpk
  generalize hkk : pickN o.who ps.length = k at *
  clear hkk
  generalize hpp : ps.getD k Pr.none = p at *
  clear hpp
  have hwb : wb < w.heap.size := lt_of_block hI.blk
  have cw : w.cell? ⟨wb, 0, none⟩ = some (.slice (some ⟨ga, 0, none⟩) ps.length cap) := by rw [← hva]; exact cell_of_row w wb 0 _ _ _ hI.blk
  have n1 : (1 : Int) ≤ (ps.length : Int) := by omega
  have n0 : ((ps.length : Int) == 0) = false := beq_eq_false_iff_ne.2 (by omega)
  have kl : decide (o.kind < 2) = false := by simp [hk]
  have kg : decide (13 < o.kind) = false := by simp [hk]
  have k1 : (o.kind == 1) = false := by simp [hk]
  have k2 : (o.kind == 2) = false := by simp [hk]
  have k3 : (o.kind == 3) = false := by simp [hk]
  have k4 : (o.kind == 4) = false := by simp [hk]
  have k5 : (o.kind == 5) = false := by simp [hk]
  have k9 : (o.kind == 9) = false := by simp [hk]
  have hBw : B ≤ w.heap.size := Nat.le_trans hI.lo (Nat.le_of_lt hwb)
  have hga : ga < w.heap.size := block_lt_of_cell cx
  have hkp : (k : Int) < (ps.length : Int) := by omega
  have hb0 := (Below.refl w.heap.size w).alloc (Nat.le_refl _) (.cells o.cells 85)
  have Hk := hid hk
  have Hok := hid ok
  have HI := hid hI
  have Hp := hid hp
  have Hpick := hid hpick
  have Hturn := hid hturn
  generalize hW : w.alloc (.cells o.cells 85) = W at *
  have HW := hid hW
  have hz : W.heap.size = w.heap.size + 1 := by rw [← hW]; simp
  have Hz := hid hz
  have blk : W.heap[w.heap.size]? = some (.cells o.cells 85 (0, 0)) := by rw [← hW]; exact heap_alloc_new w _
  have Hblk := hid blk
  have d1 : W.cell? ⟨wb, 0, none⟩ = some (.slice (some ⟨ga, 0, none⟩) ps.length cap) := (hb0.cell (p := ⟨wb, 0, none⟩) hwb).trans cw
  have d2 : W.cell? ⟨ga, k * 2, none⟩ = some (.pointer (some ⟨p.x, 0, none⟩)) := (hb0.cell (p := ⟨ga, k * 2, none⟩) hga).trans cx
  have d3 : W.cell? ⟨ga, k * 2 + 1, none⟩ = some (.pointer (some ⟨p.y, 0, none⟩)) := (hb0.cell (p := ⟨ga, k * 2 + 1, none⟩) hga).trans cy
  have d4 : W.cell? ⟨w.heap.size, 1, none⟩ = some (.int .i64 o.who) := cell_of_row W _ 1 _ _ _ blk
  have g0 : W.cell? ⟨w.heap.size, 0, none⟩ = some (.int .i64 o.kind) := cell_of_row W _ 0 _ _ _ blk
  have n2 : W.heap.size ≠ wb := by omega
  have n3 : W.heap.size ≠ ga := by omega
  have n4 : W.heap.size ≠ w.heap.size := by omega
  have Hb0 := hid hb0
  clear hk hva hcells cx cy hI hp hpick hW hz blk ok hb0 hturn
  unfold OpD.cells
  go_enter Try.func34, Try.ntmps34
  go_wp2_with fail
  change Code.wp _ _ _ _ (w.alloc (.cells o.cells 85))
  rw [HW.out]
  clear cw
  go_region_held (fun w' => w'.cell? ⟨wb, 0, none⟩ = some (.slice (some ⟨ga, 0, none⟩) ps.length cap) ∧ w'.cell? ⟨ga, k * 2, none⟩ = some (.pointer (some ⟨p.x, 0, none⟩)) ∧ w'.cell? ⟨ga, k * 2 + 1, none⟩ = some (.pointer (some ⟨p.y, 0, none⟩)) ∧ w'.cell? ⟨w.heap.size, 1, none⟩ = some (.int .i64 o.who)) (go_keep) ((go_at_call 61; refine (Hpick.out _).mono ?_; rintro e w' ⟨rfl, hw'⟩; have hw2 := hw'.symm; subst hw2))
  all_goals
    generalize hX : (W.alloc (.cells #[.pointer (some ⟨p.x, 0, none⟩), .pointer (some ⟨p.y, 0, none⟩)] 101)).drew = X at *
    have bWX : Below W.heap.size W X := by rw [← hX]; exact ((Below.refl _ _).alloc (Nat.le_refl _) _).drew
    have blkX : X.heap[w.heap.size]? = some (.cells o.cells 85 (0, 0)) := (bWX.block _ (lt_of_block Hblk.out)).trans Hblk.out
    have blkP : X.heap[W.heap.size]? = some (.cells #[.pointer (some ⟨p.x, 0, none⟩), .pointer (some ⟨p.y, 0, none⟩)] 101 (0, 0)) := by rw [← hX]; exact heap_alloc_new W _
    have bX : Below w.heap.size w X := Hb0.out.trans (bWX.mono (by have := Hz.out; omega))
    have q0 : X.cell? ⟨W.heap.size, 0, none⟩ = some (.pointer (some ⟨p.x, 0, none⟩)) := cell_of_row X _ 0 _ _ _ blkP
    have q1 : X.cell? ⟨W.heap.size, 1, none⟩ = some (.pointer (some ⟨p.y, 0, none⟩)) := cell_of_row X _ 1 _ _ _ blkP
    have e0 : X.cell? ⟨w.heap.size, 0, none⟩ = some (.int .i64 o.kind) := cell_of_row X _ 0 _ _ _ blkX
    have e1 : X.cell? ⟨w.heap.size, 1, none⟩ = some (.int .i64 o.who) := cell_of_row X _ 1 _ _ _ blkX
    have e2 : X.cell? ⟨w.heap.size, 2, none⟩ = some (.int .i64 o.A) := cell_of_row X _ 2 _ _ _ blkX
    have e3 : X.cell? ⟨w.heap.size, 3, none⟩ = some (.int .i64 o.B) := cell_of_row X _ 3 _ _ _ blkX
    have e4 : X.cell? ⟨w.heap.size, 4, none⟩ = some (.int .i64 o.C) := cell_of_row X _ 4 _ _ _ blkX
    have e5 : X.cell? ⟨w.heap.size, 5, none⟩ = some (.int .i64 o.seats) := cell_of_row X _ 5 _ _ _ blkX
    have e6 : X.cell? ⟨w.heap.size, 6, none⟩ = some (.int .i64 o.delay) := cell_of_row X _ 6 _ _ _ blkX
    have e7 : X.cell? ⟨w.heap.size, 7, none⟩ = some (.int .i64 o.rate) := cell_of_row X _ 7 _ _ _ blkX
    have e8 : X.cell? ⟨w.heap.size, 8, none⟩ = some (.int .i64 o.cut) := cell_of_row X _ 8 _ _ _ blkX
    have e9 : X.cell? ⟨w.heap.size, 9, none⟩ = some (.int .i64 o.length) := cell_of_row X _ 9 _ _ _ blkX
    have e10 : X.cell? ⟨w.heap.size, 10, none⟩ = some (.int .i64 o.need) := cell_of_row X _ 10 _ _ _ blkX
    have e11 : X.cell? ⟨w.heap.size, 11, none⟩ = some (.slice o.sa o.start.length o.scap) := cell_of_row X _ 11 _ _ _ blkX
    have e12 : X.cell? ⟨w.heap.size, 12, none⟩ = some (.slice o.la o.l.length o.lcap) := cell_of_row X _ 12 _ _ _ blkX
    have HX := hid bX
    clear hX bWX blkX blkP bX d1 d2 d3 d4 g0
    go_wp2_with fail
    refine (done_send (Hp.out.below HX.out) o Hk.out (send_both Hp.out.ag o.A o.B o.C (by omega))).mono ?_
    rintro e w1 ⟨rfl, p', t1⟩
    have tt := turned_from HX.out Hp.out t1
    have hend := hid (Hturn.out _ _ tt)
    have hbb := hid (tt.keeps.below (B := B) hBw (fun i hi => (Hp.out.lt hi).1))
    clear t1 tt q0 q1 e0 e1 e2 e3 e4 e5 e6 e7 e8 e9 e10 e11 e12
    go_wp2_with fail
    go_ret
    exact ⟨rfl, _, hend.out, by simp, hbb.out⟩

set_option maxHeartbeats 3200000 in
set_option maxRecDepth 100000 in
theorem step_bid (o : OpD) (hI : WInv w B wb ps va T) (hps : ps.length ≤ 9223372036854775807) (hne : 1 ≤ ps.length) (ok : OpOk w o) (hk : o.kind = 7) (hTe : T ≤ 4611686018427387904) (hTl : T * 56 + 56 ≤ 140737488355328) :
    Calls Try.prog 34 #[.pointer (some ⟨wb, 0, none⟩), .agg o.cells] w fun e w' => e = .returned (.bool true) ∧ ∃ ps', WInv w' B wb ps' va (T + 1) ∧ ps'.length = ps.length ∧ Below B w w' := by
  obtain ⟨ga, cap, hva, hcells⟩ := own_pairs hI.own hne
  have hpk := pickN_lt o.who ps.length hne
  obtain ⟨cx, cy⟩ := hcells (pickN o.who ps.length) hpk
  have hp := hI.ok _ hpk
  have hpick := fun W => pick_any o.who ps.length W ok.wwho hne hps
  have hll := hI.len _ hpk
  have hepb : (ps.getD (pickN o.who ps.length) Pr.none).r.epoch ≤ 4611686018427387904 := by have := hI.ep _ hpk; omega
  have hturn := fun (w' : World) (p' : Pr) => hI.turn (d := 1) (w' := w') (p' := p') _ hpk
  generalize hkk : pickN o.who ps.length = k at *
  clear hkk
  generalize hpp : ps.getD k Pr.none = p at *
  clear hpp
  have hwb : wb < w.heap.size := lt_of_block hI.blk
  have cw : w.cell? ⟨wb, 0, none⟩ = some (.slice (some ⟨ga, 0, none⟩) ps.length cap) := by rw [← hva]; exact cell_of_row w wb 0 _ _ _ hI.blk
  have n1 : (1 : Int) ≤ (ps.length : Int) := by omega
  have n0 : ((ps.length : Int) == 0) = false := beq_eq_false_iff_ne.2 (by omega)
  have kl : decide (o.kind < 2) = false := by simp [hk]
  have kg : decide (13 < o.kind) = false := by simp [hk]
  have k1 : (o.kind == 1) = false := by simp [hk]
  have k2 : (o.kind == 2) = false := by simp [hk]
  have k3 : (o.kind == 3) = false := by simp [hk]
  have k4 : (o.kind == 4) = false := by simp [hk]
  have k5 : (o.kind == 5) = false := by simp [hk]
  have k9 : (o.kind == 9) = false := by simp [hk]
  have hBw : B ≤ w.heap.size := Nat.le_trans hI.lo (Nat.le_of_lt hwb)
  have hga : ga < w.heap.size := block_lt_of_cell cx
  have hkp : (k : Int) < (ps.length : Int) := by omega
  have hb0 := (Below.refl w.heap.size w).alloc (Nat.le_refl _) (.cells o.cells 85)
  have Hk := hid hk
  have Hok := hid ok
  have HI := hid hI
  have Hp := hid hp
  have Hpick := hid hpick
  have Hturn := hid hturn
  generalize hW : w.alloc (.cells o.cells 85) = W at *
  have HW := hid hW
  have hz : W.heap.size = w.heap.size + 1 := by rw [← hW]; simp
  have Hz := hid hz
  have blk : W.heap[w.heap.size]? = some (.cells o.cells 85 (0, 0)) := by rw [← hW]; exact heap_alloc_new w _
  have Hblk := hid blk
  have d1 : W.cell? ⟨wb, 0, none⟩ = some (.slice (some ⟨ga, 0, none⟩) ps.length cap) := (hb0.cell (p := ⟨wb, 0, none⟩) hwb).trans cw
  have d2 : W.cell? ⟨ga, k * 2, none⟩ = some (.pointer (some ⟨p.x, 0, none⟩)) := (hb0.cell (p := ⟨ga, k * 2, none⟩) hga).trans cx
  have d3 : W.cell? ⟨ga, k * 2 + 1, none⟩ = some (.pointer (some ⟨p.y, 0, none⟩)) := (hb0.cell (p := ⟨ga, k * 2 + 1, none⟩) hga).trans cy
  have d4 : W.cell? ⟨w.heap.size, 1, none⟩ = some (.int .i64 o.who) := cell_of_row W _ 1 _ _ _ blk
  have g0 : W.cell? ⟨w.heap.size, 0, none⟩ = some (.int .i64 o.kind) := cell_of_row W _ 0 _ _ _ blk
  have n2 : W.heap.size ≠ wb := by omega
  have n3 : W.heap.size ≠ ga := by omega
  have n4 : W.heap.size ≠ w.heap.size := by omega
  have Hb0 := hid hb0
  clear hk hva hcells cx cy hI hp hpick hW hz blk ok hb0 hturn
  unfold OpD.cells
  go_enter Try.func34, Try.ntmps34
  go_wp2_with fail
  change Code.wp _ _ _ _ (w.alloc (.cells o.cells 85))
  rw [HW.out]
  clear cw
  go_region_held (fun w' => w'.cell? ⟨wb, 0, none⟩ = some (.slice (some ⟨ga, 0, none⟩) ps.length cap) ∧ w'.cell? ⟨ga, k * 2, none⟩ = some (.pointer (some ⟨p.x, 0, none⟩)) ∧ w'.cell? ⟨ga, k * 2 + 1, none⟩ = some (.pointer (some ⟨p.y, 0, none⟩)) ∧ w'.cell? ⟨w.heap.size, 1, none⟩ = some (.int .i64 o.who)) (go_keep) ((go_at_call 61; refine (Hpick.out _).mono ?_; rintro e w' ⟨rfl, hw'⟩; have hw2 := hw'.symm; subst hw2))
  all_goals
    generalize hX : (W.alloc (.cells #[.pointer (some ⟨p.x, 0, none⟩), .pointer (some ⟨p.y, 0, none⟩)] 101)).drew = X at *
    have bWX : Below W.heap.size W X := by rw [← hX]; exact ((Below.refl _ _).alloc (Nat.le_refl _) _).drew
    have blkX : X.heap[w.heap.size]? = some (.cells o.cells 85 (0, 0)) := (bWX.block _ (lt_of_block Hblk.out)).trans Hblk.out
    have blkP : X.heap[W.heap.size]? = some (.cells #[.pointer (some ⟨p.x, 0, none⟩), .pointer (some ⟨p.y, 0, none⟩)] 101 (0, 0)) := by rw [← hX]; exact heap_alloc_new W _
    have bX : Below w.heap.size w X := Hb0.out.trans (bWX.mono (by have := Hz.out; omega))
    have q0 : X.cell? ⟨W.heap.size, 0, none⟩ = some (.pointer (some ⟨p.x, 0, none⟩)) := cell_of_row X _ 0 _ _ _ blkP
    have q1 : X.cell? ⟨W.heap.size, 1, none⟩ = some (.pointer (some ⟨p.y, 0, none⟩)) := cell_of_row X _ 1 _ _ _ blkP
    have e0 : X.cell? ⟨w.heap.size, 0, none⟩ = some (.int .i64 o.kind) := cell_of_row X _ 0 _ _ _ blkX
    have e1 : X.cell? ⟨w.heap.size, 1, none⟩ = some (.int .i64 o.who) := cell_of_row X _ 1 _ _ _ blkX
    have e2 : X.cell? ⟨w.heap.size, 2, none⟩ = some (.int .i64 o.A) := cell_of_row X _ 2 _ _ _ blkX
    have e3 : X.cell? ⟨w.heap.size, 3, none⟩ = some (.int .i64 o.B) := cell_of_row X _ 3 _ _ _ blkX
    have e4 : X.cell? ⟨w.heap.size, 4, none⟩ = some (.int .i64 o.C) := cell_of_row X _ 4 _ _ _ blkX
    have e5 : X.cell? ⟨w.heap.size, 5, none⟩ = some (.int .i64 o.seats) := cell_of_row X _ 5 _ _ _ blkX
    have e6 : X.cell? ⟨w.heap.size, 6, none⟩ = some (.int .i64 o.delay) := cell_of_row X _ 6 _ _ _ blkX
    have e7 : X.cell? ⟨w.heap.size, 7, none⟩ = some (.int .i64 o.rate) := cell_of_row X _ 7 _ _ _ blkX
    have e8 : X.cell? ⟨w.heap.size, 8, none⟩ = some (.int .i64 o.cut) := cell_of_row X _ 8 _ _ _ blkX
    have e9 : X.cell? ⟨w.heap.size, 9, none⟩ = some (.int .i64 o.length) := cell_of_row X _ 9 _ _ _ blkX
    have e10 : X.cell? ⟨w.heap.size, 10, none⟩ = some (.int .i64 o.need) := cell_of_row X _ 10 _ _ _ blkX
    have e11 : X.cell? ⟨w.heap.size, 11, none⟩ = some (.slice o.sa o.start.length o.scap) := cell_of_row X _ 11 _ _ _ blkX
    have e12 : X.cell? ⟨w.heap.size, 12, none⟩ = some (.slice o.la o.l.length o.lcap) := cell_of_row X _ 12 _ _ _ blkX
    have HX := hid bX
    clear hX bWX blkX blkP bX d1 d2 d3 d4 g0
    go_wp2_with fail
    refine (done_bid (Hp.out.below HX.out) o Hk.out (bid_both Hp.out.ag hepb o.A o.B (by omega))).mono ?_
    rintro e w1 ⟨rfl, p', t1⟩
    have tt := turned_from HX.out Hp.out t1
    have hend := hid (Hturn.out _ _ tt)
    have hbb := hid (tt.keeps.below (B := B) hBw (fun i hi => (Hp.out.lt hi).1))
    clear t1 tt q0 q1 e0 e1 e2 e3 e4 e5 e6 e7 e8 e9 e10 e11 e12
    go_wp2_with fail
    go_ret
    exact ⟨rfl, _, hend.out, by simp, hbb.out⟩

set_option maxHeartbeats 3200000 in
set_option maxRecDepth 100000 in
theorem step_next (o : OpD) (hI : WInv w B wb ps va T) (hps : ps.length ≤ 9223372036854775807) (hne : 1 ≤ ps.length) (ok : OpOk w o) (hk : o.kind = 8) (hTe : T ≤ 4611686018427387904) (hTl : T * 56 + 2800 ≤ 140737488355328) :
    Calls Try.prog 34 #[.pointer (some ⟨wb, 0, none⟩), .agg o.cells] w fun e w' => e = .returned (.bool true) ∧ ∃ ps', WInv w' B wb ps' va (T + 50) ∧ ps'.length = ps.length ∧ Below B w w' := by
  obtain ⟨ga, cap, hva, hcells⟩ := own_pairs hI.own hne
  have hpk := pickN_lt o.who ps.length hne
  obtain ⟨cx, cy⟩ := hcells (pickN o.who ps.length) hpk
  have hp := hI.ok _ hpk
  have hpick := fun W => pick_any o.who ps.length W ok.wwho hne hps
  have hll := hI.len _ hpk
  have hepb : (ps.getD (pickN o.who ps.length) Pr.none).r.epoch ≤ 4611686018427387904 := by have := hI.ep _ hpk; omega
  have hturn := fun (w' : World) (p' : Pr) => hI.turn (d := 50) (w' := w') (p' := p') _ hpk
  generalize hkk : pickN o.who ps.length = k at *
  clear hkk
  generalize hpp : ps.getD k Pr.none = p at *
  clear hpp
  have hwb : wb < w.heap.size := lt_of_block hI.blk
  have cw : w.cell? ⟨wb, 0, none⟩ = some (.slice (some ⟨ga, 0, none⟩) ps.length cap) := by rw [← hva]; exact cell_of_row w wb 0 _ _ _ hI.blk
  have n1 : (1 : Int) ≤ (ps.length : Int) := by omega
  have n0 : ((ps.length : Int) == 0) = false := beq_eq_false_iff_ne.2 (by omega)
  have kl : decide (o.kind < 2) = false := by simp [hk]
  have kg : decide (13 < o.kind) = false := by simp [hk]
  have k1 : (o.kind == 1) = false := by simp [hk]
  have k2 : (o.kind == 2) = false := by simp [hk]
  have k3 : (o.kind == 3) = false := by simp [hk]
  have k4 : (o.kind == 4) = false := by simp [hk]
  have k5 : (o.kind == 5) = false := by simp [hk]
  have k9 : (o.kind == 9) = false := by simp [hk]
  have hBw : B ≤ w.heap.size := Nat.le_trans hI.lo (Nat.le_of_lt hwb)
  have hga : ga < w.heap.size := block_lt_of_cell cx
  have hkp : (k : Int) < (ps.length : Int) := by omega
  have hb0 := (Below.refl w.heap.size w).alloc (Nat.le_refl _) (.cells o.cells 85)
  have Hk := hid hk
  have Hok := hid ok
  have HI := hid hI
  have Hp := hid hp
  have Hpick := hid hpick
  have Hturn := hid hturn
  generalize hW : w.alloc (.cells o.cells 85) = W at *
  have HW := hid hW
  have hz : W.heap.size = w.heap.size + 1 := by rw [← hW]; simp
  have Hz := hid hz
  have blk : W.heap[w.heap.size]? = some (.cells o.cells 85 (0, 0)) := by rw [← hW]; exact heap_alloc_new w _
  have Hblk := hid blk
  have d1 : W.cell? ⟨wb, 0, none⟩ = some (.slice (some ⟨ga, 0, none⟩) ps.length cap) := (hb0.cell (p := ⟨wb, 0, none⟩) hwb).trans cw
  have d2 : W.cell? ⟨ga, k * 2, none⟩ = some (.pointer (some ⟨p.x, 0, none⟩)) := (hb0.cell (p := ⟨ga, k * 2, none⟩) hga).trans cx
  have d3 : W.cell? ⟨ga, k * 2 + 1, none⟩ = some (.pointer (some ⟨p.y, 0, none⟩)) := (hb0.cell (p := ⟨ga, k * 2 + 1, none⟩) hga).trans cy
  have d4 : W.cell? ⟨w.heap.size, 1, none⟩ = some (.int .i64 o.who) := cell_of_row W _ 1 _ _ _ blk
  have g0 : W.cell? ⟨w.heap.size, 0, none⟩ = some (.int .i64 o.kind) := cell_of_row W _ 0 _ _ _ blk
  have n2 : W.heap.size ≠ wb := by omega
  have n3 : W.heap.size ≠ ga := by omega
  have n4 : W.heap.size ≠ w.heap.size := by omega
  have Hb0 := hid hb0
  clear hk hva hcells cx cy hI hp hpick hW hz blk ok hb0 hturn
  unfold OpD.cells
  go_enter Try.func34, Try.ntmps34
  go_wp2_with fail
  change Code.wp _ _ _ _ (w.alloc (.cells o.cells 85))
  rw [HW.out]
  clear cw
  go_region_held (fun w' => w'.cell? ⟨wb, 0, none⟩ = some (.slice (some ⟨ga, 0, none⟩) ps.length cap) ∧ w'.cell? ⟨ga, k * 2, none⟩ = some (.pointer (some ⟨p.x, 0, none⟩)) ∧ w'.cell? ⟨ga, k * 2 + 1, none⟩ = some (.pointer (some ⟨p.y, 0, none⟩)) ∧ w'.cell? ⟨w.heap.size, 1, none⟩ = some (.int .i64 o.who)) (go_keep) ((go_at_call 61; refine (Hpick.out _).mono ?_; rintro e w' ⟨rfl, hw'⟩; have hw2 := hw'.symm; subst hw2))
  all_goals
    generalize hX : (W.alloc (.cells #[.pointer (some ⟨p.x, 0, none⟩), .pointer (some ⟨p.y, 0, none⟩)] 101)).drew = X at *
    have bWX : Below W.heap.size W X := by rw [← hX]; exact ((Below.refl _ _).alloc (Nat.le_refl _) _).drew
    have blkX : X.heap[w.heap.size]? = some (.cells o.cells 85 (0, 0)) := (bWX.block _ (lt_of_block Hblk.out)).trans Hblk.out
    have blkP : X.heap[W.heap.size]? = some (.cells #[.pointer (some ⟨p.x, 0, none⟩), .pointer (some ⟨p.y, 0, none⟩)] 101 (0, 0)) := by rw [← hX]; exact heap_alloc_new W _
    have bX : Below w.heap.size w X := Hb0.out.trans (bWX.mono (by have := Hz.out; omega))
    have q0 : X.cell? ⟨W.heap.size, 0, none⟩ = some (.pointer (some ⟨p.x, 0, none⟩)) := cell_of_row X _ 0 _ _ _ blkP
    have q1 : X.cell? ⟨W.heap.size, 1, none⟩ = some (.pointer (some ⟨p.y, 0, none⟩)) := cell_of_row X _ 1 _ _ _ blkP
    have e0 : X.cell? ⟨w.heap.size, 0, none⟩ = some (.int .i64 o.kind) := cell_of_row X _ 0 _ _ _ blkX
    have e1 : X.cell? ⟨w.heap.size, 1, none⟩ = some (.int .i64 o.who) := cell_of_row X _ 1 _ _ _ blkX
    have e2 : X.cell? ⟨w.heap.size, 2, none⟩ = some (.int .i64 o.A) := cell_of_row X _ 2 _ _ _ blkX
    have e3 : X.cell? ⟨w.heap.size, 3, none⟩ = some (.int .i64 o.B) := cell_of_row X _ 3 _ _ _ blkX
    have e4 : X.cell? ⟨w.heap.size, 4, none⟩ = some (.int .i64 o.C) := cell_of_row X _ 4 _ _ _ blkX
    have e5 : X.cell? ⟨w.heap.size, 5, none⟩ = some (.int .i64 o.seats) := cell_of_row X _ 5 _ _ _ blkX
    have e6 : X.cell? ⟨w.heap.size, 6, none⟩ = some (.int .i64 o.delay) := cell_of_row X _ 6 _ _ _ blkX
    have e7 : X.cell? ⟨w.heap.size, 7, none⟩ = some (.int .i64 o.rate) := cell_of_row X _ 7 _ _ _ blkX
    have e8 : X.cell? ⟨w.heap.size, 8, none⟩ = some (.int .i64 o.cut) := cell_of_row X _ 8 _ _ _ blkX
    have e9 : X.cell? ⟨w.heap.size, 9, none⟩ = some (.int .i64 o.length) := cell_of_row X _ 9 _ _ _ blkX
    have e10 : X.cell? ⟨w.heap.size, 10, none⟩ = some (.int .i64 o.need) := cell_of_row X _ 10 _ _ _ blkX
    have e11 : X.cell? ⟨w.heap.size, 11, none⟩ = some (.slice o.sa o.start.length o.scap) := cell_of_row X _ 11 _ _ _ blkX
    have e12 : X.cell? ⟨w.heap.size, 12, none⟩ = some (.slice o.la o.l.length o.lcap) := cell_of_row X _ 12 _ _ _ blkX
    have HX := hid bX
    clear hX bWX blkX blkP bX d1 d2 d3 d4 g0
    go_wp2_with fail
    refine (done_next (Hp.out.below HX.out) o Hk.out (next_both Hp.out.ag hepb o.A Hok.out.wA (by omega))).mono ?_
    rintro e w1 ⟨rfl, p', t1⟩
    have tt := turned_from HX.out Hp.out t1
    have hend := hid (Hturn.out _ _ tt)
    have hbb := hid (tt.keeps.below (B := B) hBw (fun i hi => (Hp.out.lt hi).1))
    clear t1 tt q0 q1 e0 e1 e2 e3 e4 e5 e6 e7 e8 e9 e10 e11 e12
    go_wp2_with fail
    go_ret
    exact ⟨rfl, _, hend.out, by simp, hbb.out⟩

end
end Go.Proofs.Ytiokecadnmcpeab
