import Derived.Test.YtacfebbflkfmpaaAsked
namespace Go.Proofs.Ytacfebbflkfmpaa
set_option linter.unusedVariables false
set_option linter.unusedSimpArgs false
open Go.ChangeShapes Go.WideShapes Go.ChangeAt Go.RowKit

/-- A pair of chains, as data. -/
structure Pr where
  x : Nat
  y : Nat
  r : RS
  v : Nat → Value
  acc : Nat → Acc

def PFoot (p : Pr) (k : Nat) : Prop := k = p.x ∨ RFoot p.y p.v k

/-- A pair as it lies in memory: the two agree. -/
structure PrOk (w : World) (B : Nat) (p : Pr) : Prop where
  sc : SC w p.x p.r.N 0 0 0 p.acc
  rc : RC w B p.y p.r p.v
  ag : Agree p.r p.acc
  lo : B ≤ p.x
  ne : ¬ RFoot p.y p.v p.x

theorem PrOk.lt {w : World} {B : Nat} {p : Pr} (h : PrOk w B p) {k : Nat} (hk : PFoot p k) : B ≤ k ∧ k < w.heap.size := by
  rcases hk with rfl | hk
  · exact ⟨h.lo, h.sc.lt⟩
  · exact h.rc.lt hk
theorem PrOk.keeps {w w' : World} {B : Nat} {p : Pr} (h : PrOk w B p) {F : Nat → Prop} (k : Keeps F w w') (hF : ∀ b, PFoot p b → ¬ F b) : PrOk w' B p :=
  ⟨h.sc.keeps k (hF _ (.inl rfl)), h.rc.keeps k (fun b hb => hF b (.inr hb)), h.ag, h.lo, h.ne⟩
theorem PrOk.below {w w' : World} {B : Nat} {p : Pr} (h : PrOk w B p) (k : Below w.heap.size w w') : PrOk w' B p :=
  h.keeps (F := fun _ => False) (Keeps.ofBelow k) (fun _ _ hf => hf)

/-- What one call on a pair does. -/
structure Turned (w w' : World) (B : Nat) (p p' : Pr) : Prop where
  ok : PrOk w' B p'
  keeps : Keeps (PFoot p) w w'
  foot : ∀ k, PFoot p' k → PFoot p k ∨ w.heap.size ≤ k
  len : p'.r.book.length ≤ p.r.book.length + 1
  x : p'.x = p.x
  y : p'.y = p.y

theorem Turned.same {w w' : World} {B : Nat} {p : Pr} (h : PrOk w B p) (b : Below w.heap.size w w') : Turned w w' B p p :=
  ⟨h.below b, Keeps.ofBelow b, fun _ hk => .inl hk, Nat.le_succ _, rfl, rfl⟩

set_option maxHeartbeats 3200000 in
set_option maxRecDepth 100000 in
theorem done_refused {w : World} {B x y : Nat} {r : RS} {v : Nat → Value} {acc : Nat → Acc} (o : OpD) (hk : o.kind = 6) (er : Int) (hS : SC w x r.N 0 0 0 acc) (hR : RC w B y r v)
    (h1 : ∀ W, SC W x r.N 0 0 0 acc → Calls Try.prog 32 #[.pointer (some ⟨x, 0, none⟩), .int .i64 o.A, .int .i64 o.B, .int .i64 o.C] W fun e W' => e = .returned (.int .i64 er) ∧ Below W.heap.size W W')
    (h2 : ∀ W, RC W B y r v → Calls Try.prog 61 #[.pointer (some ⟨y, 0, none⟩), .int .i64 o.A, .int .i64 o.B, .int .i64 o.C] W fun e W' => e = .returned (.int .i64 er) ∧ Below W.heap.size W W') :
    Calls Try.prog 45 #[.agg #[.pointer (some ⟨x, 0, none⟩), .pointer (some ⟨y, 0, none⟩)], .agg o.cells] w fun e w' => e = .returned (.bool true) ∧ Below w.heap.size w w' := by
  have k6 : (o.kind == 6) = true := by simpa using hk
  have hb := Boxed.start w x y o
  have sS := hS.below hb.bel
  have sR := hR.below hb.bel
  have H1 : Hid _ := h1
  have HS : Hid _ := sS
  have H2 : Hid _ := h2
  have HR : Hid _ := sR
  have Hb : Hid _ := hb
  clear h1 h2 hk hb sS sR
  unfold OpD.cells
  go_enter Try.func45, Try.ntmps45
  go_wp2_with fail
  change Calls _ _ _ (boxes w x y o) _
  refine (H1.out _ HS.out).mono ?_
  rintro e w1 ⟨rfl, b1⟩
  have B1 := Hb.out.below b1
  have R1 : Hid _ := HR.out.below b1
  have py := B1.py
  have qA := B1.A
  have qB := B1.B
  have qC := B1.C
  have HB1 : Hid _ := B1
  clear H1 Hb HR b1 B1
  go_wp2_with fail
  refine (H2.out _ R1.out).mono ?_
  rintro e w2 ⟨rfl, b2⟩
  have hbel : Hid (Below w.heap.size w w2) := HB1.out.bel.trans (b2.mono HB1.out.bel.size)
  clear b2 HB1 R1 H2 py qA qB qC
  go_wp2_with (go_at_call 23; refine (num_any _ _).mono ?_; rintro e w' ⟨rfl, rfl⟩)
  go_ret
  exact ⟨rfl, hbel.out⟩

set_option maxHeartbeats 3200000 in
set_option maxRecDepth 100000 in
theorem done_moved {w : World} {B : Nat} {p : Pr} (hp : PrOk w B p) (hB : B ≤ w.heap.size) (o : OpD) (hk : o.kind = 6) (acc' : Nat → Acc) (m : Mv) (ag : Agree { p.r with book := p.r.book ++ [m] } acc')
    (h1 : ∀ W, SC W p.x p.r.N 0 0 0 p.acc → Calls Try.prog 32 #[.pointer (some ⟨p.x, 0, none⟩), .int .i64 o.A, .int .i64 o.B, .int .i64 o.C] W fun e W' => e = .returned (.int .i64 0) ∧ SC W' p.x p.r.N 0 0 0 acc' ∧ Keeps (fun k => k = p.x) W W')
    (h2 : ∀ W, B ≤ W.heap.size → RC W B p.y p.r p.v → Calls Try.prog 61 #[.pointer (some ⟨p.y, 0, none⟩), .int .i64 o.A, .int .i64 o.B, .int .i64 o.C] W fun e W' => e = .returned (.int .i64 0) ∧ ∃ v', RC W' B p.y { p.r with book := p.r.book ++ [m] } v' ∧ Keeps (RFoot p.y p.v) W W' ∧ ∀ k, RFoot p.y v' k → RFoot p.y p.v k ∨ W.heap.size ≤ k) :
    Calls Try.prog 45 #[.agg #[.pointer (some ⟨p.x, 0, none⟩), .pointer (some ⟨p.y, 0, none⟩)], .agg o.cells] w fun e w' => e = .returned (.bool true) ∧ ∃ p', Turned w w' B p p' := by
  have k6 : (o.kind == 6) = true := by simpa using hk
  have hb := Boxed.start w p.x p.y o
  have hp1 := hp.below hb.bel
  have H1 : Hid _ := h1
  have H2 : Hid _ := h2
  have Hb : Hid _ := hb
  have HP : Hid _ := hp1
  have Hag : Hid _ := ag
  clear h1 h2 hk hb hp1 ag
  unfold OpD.cells
  go_enter Try.func45, Try.ntmps45
  go_wp2_with fail
  change Calls _ _ _ (boxes w p.x p.y o) _
  refine (H1.out _ HP.out.sc).mono ?_
  rintro e w1 ⟨rfl, S1, K1⟩
  have R1 : Hid _ := HP.out.rc.keeps K1 (fun b hb e => HP.out.ne (by rw [← e]; exact hb))
  have B1 := Hb.out.keeps K1 (fun i hi => by rw [hi]; exact hp.sc.lt)
  have py : w1.cell? ⟨w.heap.size, 1, none⟩ = some (.pointer (some ⟨p.y, 0, none⟩)) := cell_of_row w1 _ 1 _ _ _ B1.1
  have qA : w1.cell? ⟨w.heap.size + 1, 2, none⟩ = some (.int .i64 o.A) := cell_of_row w1 _ 2 _ _ _ B1.2
  have qB : w1.cell? ⟨w.heap.size + 1, 3, none⟩ = some (.int .i64 o.B) := cell_of_row w1 _ 3 _ _ _ B1.2
  have qC : w1.cell? ⟨w.heap.size + 1, 4, none⟩ = some (.int .i64 o.C) := cell_of_row w1 _ 4 _ _ _ B1.2
  have K1' : Keeps (PFoot p) w w1 := (Keeps.ofBelow Hb.out.bel).trans K1 (fun i _ hi => .inl hi)
  have HS1 : Hid _ := S1
  have HK1 : Hid _ := K1'
  clear H1 Hb B1 S1 K1 K1'
  go_wp2_with fail
  refine (H2.out _ (Nat.le_trans hB HK1.out.size) R1.out).mono ?_
  rintro e w2 ⟨rfl, v', R2, K2, F2⟩
  have hT : Turned w w2 B p ⟨p.x, p.y, { p.r with book := p.r.book ++ [m] }, v', acc'⟩ := by
    refine ⟨⟨HS1.out.keeps K2 hp.ne, R2, Hag.out, hp.lo, fun hf => ?_⟩, HK1.out.trans K2 (fun i _ hi => .inr hi), ?_, by simp, rfl, rfl⟩
    · rcases F2 _ hf with h | h
      · exact hp.ne h
      · have h' : w1.heap.size ≤ p.x := h
        have := HK1.out.size
        have := hp.sc.lt
        omega
    · rintro k (rfl | hk)
      · exact .inl (.inl rfl)
      · exact (F2 k hk).elim (fun h => .inl (.inr h)) (fun h => .inr (Nat.le_trans HK1.out.size h))
  have HT : Hid _ := hT
  clear hT R2 K2 F2 HS1 HK1 R1 py qA qB qC H2 HP Hag
  go_wp2_with (go_at_call 23; refine (num_any _ _).mono ?_; rintro e w' ⟨rfl, rfl⟩)
  go_ret
  exact ⟨rfl, _, HT.out⟩

theorem done_send {w : World} {B : Nat} {p : Pr} (hp : PrOk w B p) (hB : B ≤ w.heap.size) (o : OpD) (hk : o.kind = 6) (hl : p.r.book.length * 56 + 56 ≤ 140737488355328) :
    Calls Try.prog 45 #[.agg #[.pointer (some ⟨p.x, 0, none⟩), .pointer (some ⟨p.y, 0, none⟩)], .agg o.cells] w fun e w' => e = .returned (.bool true) ∧ ∃ p', Turned w w' B p p' := by
  rcases send_both (x := p.x) (y := p.y) (B := B) (v := p.v) hp.ag o.A o.B o.C hl with ⟨er, h1, h2⟩ | ⟨acc', m, ag, h1, h2⟩
  · refine (done_refused o hk er hp.sc hp.rc h1 h2).mono ?_
    rintro e w' ⟨rfl, b⟩
    exact ⟨rfl, p, Turned.same hp b⟩
  · exact done_moved hp hB o hk acc' m ag h1 h2

theorem asked_any {w : World} {B : Nat} {p : Pr} (hp : PrOk w B p) (o : OpD) (hk : o.kind = 3 ∨ o.kind = 4 ∨ o.kind = 5) (hw : (Lit.int .i64 o.B).wf = true) :
    Calls Try.prog 44 #[.agg #[.pointer (some ⟨p.x, 0, none⟩), .pointer (some ⟨p.y, 0, none⟩)], .agg o.cells] w fun e w' => e = .returned (.bool true) ∧ Below w.heap.size w w' := by
  rcases hk with hk | hk | hk
  · exact asked_see o hk hp.sc hp.rc hp.ag
  · exact asked_state o hk hp.sc hp.rc hp.ag
  · exact asked_due o hk hw hp.sc hp.rc hp.ag
end Go.Proofs.Ytacfebbflkfmpaa
