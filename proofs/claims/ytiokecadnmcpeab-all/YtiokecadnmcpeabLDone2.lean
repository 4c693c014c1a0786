import Derived.Test.YtiokecadnmcpeabLDone
namespace Go.Proofs.Ytiokecadnmcpeab
set_option linter.unusedVariables false
set_option linter.unusedSimpArgs false
open Go.ChangeShapes Go.WideShapes Go.ChangeAt Go.RowKit

/-- Two calls give the same number and the same error, and the chains agree behind them. -/
def SameDo2 (fx fy : Nat) (args : List Value) (x y B d : Nat) (s : PS) (r : RS) (v : Nat → Value) : Prop := ∃ (n er : Int) (s' : PS) (r' : RS), Ag s' r' ∧ r'.book.length ≤ r.book.length + d ∧ r'.epoch ≤ r.epoch + d ∧
  (∀ W, SC W x s → Calls Try.prog fx (.pointer (some ⟨x, 0, none⟩) :: args).toArray W fun e' W' => e' = .returned (.tuple #[.int .i64 n, .int .i64 er]) ∧ PTo W x W' s') ∧
  (∀ W, RC W B y r v → Calls Try.prog fy (.pointer (some ⟨y, 0, none⟩) :: args).toArray W fun e' W' => e' = .returned (.tuple #[.int .i64 n, .int .i64 er]) ∧ ∃ v', RTo W B y v W' r' v')

set_option maxHeartbeats 3200000 in
set_option maxRecDepth 100000 in
theorem done_make {w : World} {B : Nat} {p : Pr} (hp : PrOk w B p) (o : OpD) (hk : o.kind = 10) (h : SameDo 19 85 [.int .i64 o.A] p.x p.y B 1 p.s p.r p.v) :
    Calls Try.prog 63 #[.agg #[.pointer (some ⟨p.x, 0, none⟩), .pointer (some ⟨p.y, 0, none⟩)], .agg o.cells] w fun e w' => e = .returned (.bool true) ∧ ∃ p', Turned 1 w w' B p p' := by
  obtain ⟨er, s', r', ag, hl, he, h1, h2⟩ := h
  have k6 : (o.kind == 6) = false := by simp [hk]
  have k7 : (o.kind == 7) = false := by simp [hk]
  have k8 : (o.kind == 8) = false := by simp [hk]
  have k10 : (o.kind == 10) = true := by simp [hk]
  have hb := Boxed.start w p.x p.y o
  have hp1 := hp.below hb.bel
  have H1 := hid h1
  have H2 := hid h2
  have Hb := hid hb
  have HP := hid hp1
  have Hag := hid ag
  clear h1 h2 hk hb hp1 ag
  unfold OpD.cells
  go_enter Try.func63, Try.ntmps63
  go_wp2_with fail
  change Calls _ _ _ (boxes w p.x p.y o) _
  refine (H1.out _ HP.out.sc).mono ?_
  rintro e w1 ⟨rfl, t1⟩
  have R1 := hid (HP.out.rc.keeps t1.keeps (fun b hb e => HP.out.ne (by rw [← e]; exact hb)))
  have B1 := Hb.out.keeps t1.keeps (fun i hi => by rw [hi]; exact hp.sc.lt)
  have py : w1.cell? ⟨w.heap.size, 1, none⟩ = some (.pointer (some ⟨p.y, 0, none⟩)) := cell_of_row w1 _ 1 _ _ _ B1.1
  have qA : w1.cell? ⟨w.heap.size + 1, 2, none⟩ = some (.int .i64 o.A) := cell_of_row w1 _ 2 _ _ _ B1.2
  have T1 := hid t1
  have hbel := hid Hb.out.bel
  clear H1 Hb B1 t1
  go_wp2_with fail
  refine (H2.out _ R1.out).mono ?_
  rintro e w2 ⟨rfl, v', t2⟩
  have HT := hid (turned_of hp hbel.out T1.out t2 Hag.out hl he)
  clear t2 R1 py qA H2 HP Hag T1
  go_wp2_with (go_at_call 74; refine (num_any _ _).mono ?_; rintro e w' ⟨rfl, rfl⟩)
  go_ret
  exact ⟨rfl, _, HT.out⟩

set_option maxHeartbeats 3200000 in
set_option maxRecDepth 100000 in
theorem done_slash {w : World} {B : Nat} {p : Pr} (hp : PrOk w B p) (o : OpD) (hk : o.kind = 11) (h : SameDo 20 86 [.int .i64 o.A] p.x p.y B 1 p.s p.r p.v) :
    Calls Try.prog 63 #[.agg #[.pointer (some ⟨p.x, 0, none⟩), .pointer (some ⟨p.y, 0, none⟩)], .agg o.cells] w fun e w' => e = .returned (.bool true) ∧ ∃ p', Turned 1 w w' B p p' := by
  obtain ⟨er, s', r', ag, hl, he, h1, h2⟩ := h
  have k6 : (o.kind == 6) = false := by simp [hk]
  have k7 : (o.kind == 7) = false := by simp [hk]
  have k8 : (o.kind == 8) = false := by simp [hk]
  have k10 : (o.kind == 10) = false := by simp [hk]
  have k11 : (o.kind == 11) = true := by simp [hk]
  have hb := Boxed.start w p.x p.y o
  have hp1 := hp.below hb.bel
  have H1 := hid h1
  have H2 := hid h2
  have Hb := hid hb
  have HP := hid hp1
  have Hag := hid ag
  clear h1 h2 hk hb hp1 ag
  unfold OpD.cells
  go_enter Try.func63, Try.ntmps63
  go_wp2_with fail
  change Calls _ _ _ (boxes w p.x p.y o) _
  refine (H1.out _ HP.out.sc).mono ?_
  rintro e w1 ⟨rfl, t1⟩
  have R1 := hid (HP.out.rc.keeps t1.keeps (fun b hb e => HP.out.ne (by rw [← e]; exact hb)))
  have B1 := Hb.out.keeps t1.keeps (fun i hi => by rw [hi]; exact hp.sc.lt)
  have py : w1.cell? ⟨w.heap.size, 1, none⟩ = some (.pointer (some ⟨p.y, 0, none⟩)) := cell_of_row w1 _ 1 _ _ _ B1.1
  have qA : w1.cell? ⟨w.heap.size + 1, 2, none⟩ = some (.int .i64 o.A) := cell_of_row w1 _ 2 _ _ _ B1.2
  have T1 := hid t1
  have hbel := hid Hb.out.bel
  clear H1 Hb B1 t1
  go_wp2_with fail
  refine (H2.out _ R1.out).mono ?_
  rintro e w2 ⟨rfl, v', t2⟩
  have HT := hid (turned_of hp hbel.out T1.out t2 Hag.out hl he)
  clear t2 R1 py qA H2 HP Hag T1
  go_wp2_with (go_at_call 74; refine (num_any _ _).mono ?_; rintro e w' ⟨rfl, rfl⟩)
  go_ret
  exact ⟨rfl, _, HT.out⟩

set_option maxHeartbeats 3200000 in
set_option maxRecDepth 100000 in
theorem done_deposit {w : World} {B : Nat} {p : Pr} (hp : PrOk w B p) (o : OpD) (hk : o.kind = 12) (h : SameDo2 21 87 [.int .i64 o.A, .int .i64 o.B] p.x p.y B 2 p.s p.r p.v) :
    Calls Try.prog 63 #[.agg #[.pointer (some ⟨p.x, 0, none⟩), .pointer (some ⟨p.y, 0, none⟩)], .agg o.cells] w fun e w' => e = .returned (.bool true) ∧ ∃ p', Turned 2 w w' B p p' := by
  obtain ⟨n, er, s', r', ag, hl, he, h1, h2⟩ := h
  have k6 : (o.kind == 6) = false := by simp [hk]
  have k7 : (o.kind == 7) = false := by simp [hk]
  have k8 : (o.kind == 8) = false := by simp [hk]
  have k10 : (o.kind == 10) = false := by simp [hk]
  have k11 : (o.kind == 11) = false := by simp [hk]
  have k12 : (o.kind == 12) = true := by simp [hk]
  have hb := Boxed.start w p.x p.y o
  have hp1 := hp.below hb.bel
  have H1 := hid h1
  have H2 := hid h2
  have Hb := hid hb
  have HP := hid hp1
  have Hag := hid ag
  clear h1 h2 hk hb hp1 ag
  unfold OpD.cells
  go_enter Try.func63, Try.ntmps63
  go_wp2_with fail
  change Calls _ _ _ (boxes w p.x p.y o) _
  refine (H1.out _ HP.out.sc).mono ?_
  rintro e w1 ⟨rfl, t1⟩
  have R1 := hid (HP.out.rc.keeps t1.keeps (fun b hb e => HP.out.ne (by rw [← e]; exact hb)))
  have B1 := Hb.out.keeps t1.keeps (fun i hi => by rw [hi]; exact hp.sc.lt)
  have py : w1.cell? ⟨w.heap.size, 1, none⟩ = some (.pointer (some ⟨p.y, 0, none⟩)) := cell_of_row w1 _ 1 _ _ _ B1.1
  have qA : w1.cell? ⟨w.heap.size + 1, 2, none⟩ = some (.int .i64 o.A) := cell_of_row w1 _ 2 _ _ _ B1.2
  have qB : w1.cell? ⟨w.heap.size + 1, 3, none⟩ = some (.int .i64 o.B) := cell_of_row w1 _ 3 _ _ _ B1.2
  have T1 := hid t1
  have hbel := hid Hb.out.bel
  clear H1 Hb B1 t1
  go_wp2_with fail
  refine (H2.out _ R1.out).mono ?_
  rintro e w2 ⟨rfl, v', t2⟩
  have HT := hid (turned_of hp hbel.out T1.out t2 Hag.out hl he)
  clear t2 R1 py qA qB H2 HP Hag T1
  go_wp2_with (go_at_call 74; refine (num_any _ _).mono ?_; rintro e w' ⟨rfl, rfl⟩)
  go_ret
  exact ⟨rfl, _, HT.out⟩

set_option maxHeartbeats 3200000 in
set_option maxRecDepth 100000 in
theorem done_leave {w : World} {B : Nat} {p : Pr} (hp : PrOk w B p) (o : OpD) (hk : o.kind = 13) (h : SameDo2 22 88 [.int .i64 o.A, .int .i64 o.B] p.x p.y B 2 p.s p.r p.v) :
    Calls Try.prog 63 #[.agg #[.pointer (some ⟨p.x, 0, none⟩), .pointer (some ⟨p.y, 0, none⟩)], .agg o.cells] w fun e w' => e = .returned (.bool true) ∧ ∃ p', Turned 2 w w' B p p' := by
  obtain ⟨n, er, s', r', ag, hl, he, h1, h2⟩ := h
  have k6 : (o.kind == 6) = false := by simp [hk]
  have k7 : (o.kind == 7) = false := by simp [hk]
  have k8 : (o.kind == 8) = false := by simp [hk]
  have k10 : (o.kind == 10) = false := by simp [hk]
  have k11 : (o.kind == 11) = false := by simp [hk]
  have k12 : (o.kind == 12) = false := by simp [hk]
  have hb := Boxed.start w p.x p.y o
  have hp1 := hp.below hb.bel
  have H1 := hid h1
  have H2 := hid h2
  have Hb := hid hb
  have HP := hid hp1
  have Hag := hid ag
  clear h1 h2 hk hb hp1 ag
  unfold OpD.cells
  go_enter Try.func63, Try.ntmps63
  go_wp2_with fail
  change Calls _ _ _ (boxes w p.x p.y o) _
  refine (H1.out _ HP.out.sc).mono ?_
  rintro e w1 ⟨rfl, t1⟩
  have R1 := hid (HP.out.rc.keeps t1.keeps (fun b hb e => HP.out.ne (by rw [← e]; exact hb)))
  have B1 := Hb.out.keeps t1.keeps (fun i hi => by rw [hi]; exact hp.sc.lt)
  have py : w1.cell? ⟨w.heap.size, 1, none⟩ = some (.pointer (some ⟨p.y, 0, none⟩)) := cell_of_row w1 _ 1 _ _ _ B1.1
  have qA : w1.cell? ⟨w.heap.size + 1, 2, none⟩ = some (.int .i64 o.A) := cell_of_row w1 _ 2 _ _ _ B1.2
  have qB : w1.cell? ⟨w.heap.size + 1, 3, none⟩ = some (.int .i64 o.B) := cell_of_row w1 _ 3 _ _ _ B1.2
  have T1 := hid t1
  have hbel := hid Hb.out.bel
  clear H1 Hb B1 t1
  go_wp2_with fail
  refine (H2.out _ R1.out).mono ?_
  rintro e w2 ⟨rfl, v', t2⟩
  have HT := hid (turned_of hp hbel.out T1.out t2 Hag.out hl he)
  clear t2 R1 py qA qB H2 HP Hag T1
  go_wp2_with (go_at_call 74; refine (num_any _ _).mono ?_; rintro e w' ⟨rfl, rfl⟩)
  go_ret
  exact ⟨rfl, _, HT.out⟩

end Go.Proofs.Ytiokecadnmcpeab
