import Derived.Test.YtiokecadnmcpeabLAsked
namespace Go.Proofs.Ytiokecadnmcpeab
set_option linter.unusedVariables false
set_option linter.unusedSimpArgs false
open Go.ChangeShapes Go.WideShapes Go.ChangeAt Go.RowKit

/-- A pair of chains, as data. -/
structure Pr where
  x : Nat
  y : Nat
  r : RS
  v : Nat → Value
  s : PS

def PFoot (p : Pr) (k : Nat) : Prop := k = p.x ∨ RFoot p.y p.v k

/-- A pair as it lies in memory: the two agree. -/
structure PrOk (w : World) (B : Nat) (p : Pr) : Prop where
  sc : SC w p.x p.s
  rc : RC w B p.y p.r p.v
  ag : Ag p.s p.r
  lo : B ≤ p.x
  ne : ¬ RFoot p.y p.v p.x

theorem PrOk.lt {w : World} {B : Nat} {p : Pr} (h : PrOk w B p) {k : Nat} (hk : PFoot p k) : B ≤ k ∧ k < w.heap.size := by
  rcases hk with rfl | hk
  · exact ⟨h.lo, h.sc.lt⟩
  · exact h.rc.lt hk
theorem PrOk.keeps {w w' : World} {B : Nat} {p : Pr} (h : PrOk w B p) {F : Nat → Prop} (k : Keeps F w w') (hF : ∀ b, PFoot p b → ¬ F b) : PrOk w' B p :=
  ⟨h.sc.keeps k (hF _ (.inl rfl)), h.rc.keeps k (fun b hb => hF b (.inr hb)), h.ag, h.lo, h.ne⟩
theorem PrOk.below {w w' : World} {B : Nat} {p : Pr} (h : PrOk w B p) (k : Below w.heap.size w w') : PrOk w' B p :=
  h.keeps (F := fun _ => False) (Keeps.ofBelow k) (fun _ _ hf => hf)

/-- What one call on a pair does. -/
structure Turned (d : Nat) (w w' : World) (B : Nat) (p p' : Pr) : Prop where
  ok : PrOk w' B p'
  keeps : Keeps (PFoot p) w w'
  foot : ∀ k, PFoot p' k → PFoot p k ∨ w.heap.size ≤ k
  len : p'.r.book.length ≤ p.r.book.length + d
  ep : p'.r.epoch ≤ p.r.epoch + d
  x : p'.x = p.x
  y : p'.y = p.y

theorem Turned.same {d : Nat} {w w' : World} {B : Nat} {p : Pr} (h : PrOk w B p) (b : Below w.heap.size w w') : Turned d w w' B p p :=
  ⟨h.below b, Keeps.ofBelow b, fun _ hk => .inl hk, Nat.le_add_right _ _, by omega, rfl, rfl⟩

theorem turned_of {w X w1 w2 : World} {B d : Nat} {p : Pr} (hp : PrOk w B p) (hb : Below w.heap.size w X) {s' : PS} {r' : RS} {v' : Nat → Value} (t1 : PTo X p.x w1 s') (t2 : RTo w1 B p.y p.v w2 r' v') (ag : Ag s' r') (hl : r'.book.length ≤ p.r.book.length + d) (he : r'.epoch ≤ p.r.epoch + d) : Turned d w w2 B p ⟨p.x, p.y, r', v', s'⟩ := by
  have K1 : Keeps (PFoot p) w w1 := (Keeps.ofBelow hb).trans t1.keeps (fun i _ hi => .inl hi)
  refine ⟨⟨t1.sc.keeps t2.keeps hp.ne, t2.rc, ag, hp.lo, fun hf => ?_⟩, K1.trans t2.keeps (fun i _ hi => .inr hi), ?_, hl, he, rfl, rfl⟩
  · rcases t2.foot _ hf with h | h
    · exact hp.ne h
    · have h' : w1.heap.size ≤ p.x := h
      have := K1.size
      have := hp.sc.lt
      omega
  · rintro k (rfl | hk)
    · exact .inl (.inl rfl)
    · exact (t2.foot k hk).elim (fun h => .inl (.inr h)) (fun h => .inr (Nat.le_trans K1.size h))

set_option maxHeartbeats 3200000 in
set_option maxRecDepth 100000 in
theorem done_send {w : World} {B : Nat} {p : Pr} (hp : PrOk w B p) (o : OpD) (hk : o.kind = 6) (h : SameDo 10 82 [.int .i64 o.A, .int .i64 o.B, .int .i64 o.C] p.x p.y B 1 p.s p.r p.v) :
    Calls Try.prog 63 #[.agg #[.pointer (some ⟨p.x, 0, none⟩), .pointer (some ⟨p.y, 0, none⟩)], .agg o.cells] w fun e w' => e = .returned (.bool true) ∧ ∃ p', Turned 1 w w' B p p' := by
  obtain ⟨er, s', r', ag, hl, he, h1, h2⟩ := h
  have k6 : (o.kind == 6) = true := by simp [hk]
  have hb := Boxed.start w p.x p.y o
  have hp1 := hp.below hb.bel
  have H1 := hid h1
  have H2 := hid h2
  have Hb := hid hb
  have HP := hid hp1
  have Hag := hid ag
  clear h1 h2 hk hb hp1 ag
  unfold OpD.cells
  go_enter Try.func63, Try.ntmps63
  go_wp2_with fail
  change Calls _ _ _ (boxes w p.x p.y o) _
  refine (H1.out _ HP.out.sc).mono ?_
  rintro e w1 ⟨rfl, t1⟩
  have R1 := hid (HP.out.rc.keeps t1.keeps (fun b hb e => HP.out.ne (by rw [← e]; exact hb)))
  have B1 := Hb.out.keeps t1.keeps (fun i hi => by rw [hi]; exact hp.sc.lt)
  have py : w1.cell? ⟨w.heap.size, 1, none⟩ = some (.pointer (some ⟨p.y, 0, none⟩)) := cell_of_row w1 _ 1 _ _ _ B1.1
  have qA : w1.cell? ⟨w.heap.size + 1, 2, none⟩ = some (.int .i64 o.A) := cell_of_row w1 _ 2 _ _ _ B1.2
  have qB : w1.cell? ⟨w.heap.size + 1, 3, none⟩ = some (.int .i64 o.B) := cell_of_row w1 _ 3 _ _ _ B1.2
  have qC : w1.cell? ⟨w.heap.size + 1, 4, none⟩ = some (.int .i64 o.C) := cell_of_row w1 _ 4 _ _ _ B1.2
  have T1 := hid t1
  have hbel := hid Hb.out.bel
  clear H1 Hb B1 t1
  go_wp2_with fail
  refine (H2.out _ R1.out).mono ?_
  rintro e w2 ⟨rfl, v', t2⟩
  have HT := hid (turned_of hp hbel.out T1.out t2 Hag.out hl he)
  clear t2 R1 py qA qB qC H2 HP Hag T1
  go_wp2_with (go_at_call 74; refine (num_any _ _).mono ?_; rintro e w' ⟨rfl, rfl⟩)
  go_ret
  exact ⟨rfl, _, HT.out⟩

set_option maxHeartbeats 3200000 in
set_option maxRecDepth 100000 in
theorem done_bid {w : World} {B : Nat} {p : Pr} (hp : PrOk w B p) (o : OpD) (hk : o.kind = 7) (h : SameDo 18 83 [.int .i64 o.A, .int .i64 o.B] p.x p.y B 1 p.s p.r p.v) :
    Calls Try.prog 63 #[.agg #[.pointer (some ⟨p.x, 0, none⟩), .pointer (some ⟨p.y, 0, none⟩)], .agg o.cells] w fun e w' => e = .returned (.bool true) ∧ ∃ p', Turned 1 w w' B p p' := by
  obtain ⟨er, s', r', ag, hl, he, h1, h2⟩ := h
  have k6 : (o.kind == 6) = false := by simp [hk]
  have k7 : (o.kind == 7) = true := by simp [hk]
  have hb := Boxed.start w p.x p.y o
  have hp1 := hp.below hb.bel
  have H1 := hid h1
  have H2 := hid h2
  have Hb := hid hb
  have HP := hid hp1
  have Hag := hid ag
  clear h1 h2 hk hb hp1 ag
  unfold OpD.cells
  go_enter Try.func63, Try.ntmps63
  go_wp2_with fail
  change Calls _ _ _ (boxes w p.x p.y o) _
  refine (H1.out _ HP.out.sc).mono ?_
  rintro e w1 ⟨rfl, t1⟩
  have R1 := hid (HP.out.rc.keeps t1.keeps (fun b hb e => HP.out.ne (by rw [← e]; exact hb)))
  have B1 := Hb.out.keeps t1.keeps (fun i hi => by rw [hi]; exact hp.sc.lt)
  have py : w1.cell? ⟨w.heap.size, 1, none⟩ = some (.pointer (some ⟨p.y, 0, none⟩)) := cell_of_row w1 _ 1 _ _ _ B1.1
  have qA : w1.cell? ⟨w.heap.size + 1, 2, none⟩ = some (.int .i64 o.A) := cell_of_row w1 _ 2 _ _ _ B1.2
  have qB : w1.cell? ⟨w.heap.size + 1, 3, none⟩ = some (.int .i64 o.B) := cell_of_row w1 _ 3 _ _ _ B1.2
  have T1 := hid t1
  have hbel := hid Hb.out.bel
  clear H1 Hb B1 t1
  go_wp2_with fail
  refine (H2.out _ R1.out).mono ?_
  rintro e w2 ⟨rfl, v', t2⟩
  have HT := hid (turned_of hp hbel.out T1.out t2 Hag.out hl he)
  clear t2 R1 py qA qB H2 HP Hag T1
  go_wp2_with (go_at_call 74; refine (num_any _ _).mono ?_; rintro e w' ⟨rfl, rfl⟩)
  go_ret
  exact ⟨rfl, _, HT.out⟩

set_option maxHeartbeats 3200000 in
set_option maxRecDepth 100000 in
theorem done_next {w : World} {B : Nat} {p : Pr} (hp : PrOk w B p) (o : OpD) (hk : o.kind = 8) (h : SameDo 11 84 [.int .i64 o.A] p.x p.y B 50 p.s p.r p.v) :
    Calls Try.prog 63 #[.agg #[.pointer (some ⟨p.x, 0, none⟩), .pointer (some ⟨p.y, 0, none⟩)], .agg o.cells] w fun e w' => e = .returned (.bool true) ∧ ∃ p', Turned 50 w w' B p p' := by
  obtain ⟨er, s', r', ag, hl, he, h1, h2⟩ := h
  have k6 : (o.kind == 6) = false := by simp [hk]
  have k7 : (o.kind == 7) = false := by simp [hk]
  have k8 : (o.kind == 8) = true := by simp [hk]
  have hb := Boxed.start w p.x p.y o
  have hp1 := hp.below hb.bel
  have H1 := hid h1
  have H2 := hid h2
  have Hb := hid hb
  have HP := hid hp1
  have Hag := hid ag
  clear h1 h2 hk hb hp1 ag
  unfold OpD.cells
  go_enter Try.func63, Try.ntmps63
  go_wp2_with fail
  change Calls _ _ _ (boxes w p.x p.y o) _
  refine (H1.out _ HP.out.sc).mono ?_
  rintro e w1 ⟨rfl, t1⟩
  have R1 := hid (HP.out.rc.keeps t1.keeps (fun b hb e => HP.out.ne (by rw [← e]; exact hb)))
  have B1 := Hb.out.keeps t1.keeps (fun i hi => by rw [hi]; exact hp.sc.lt)
  have py : w1.cell? ⟨w.heap.size, 1, none⟩ = some (.pointer (some ⟨p.y, 0, none⟩)) := cell_of_row w1 _ 1 _ _ _ B1.1
  have qA : w1.cell? ⟨w.heap.size + 1, 2, none⟩ = some (.int .i64 o.A) := cell_of_row w1 _ 2 _ _ _ B1.2
  have T1 := hid t1
  have hbel := hid Hb.out.bel
  clear H1 Hb B1 t1
  go_wp2_with fail
  refine (H2.out _ R1.out).mono ?_
  rintro e w2 ⟨rfl, v', t2⟩
  have HT := hid (turned_of hp hbel.out T1.out t2 Hag.out hl he)
  clear t2 R1 py qA H2 HP Hag T1
  go_wp2_with (go_at_call 74; refine (num_any _ _).mono ?_; rintro e w' ⟨rfl, rfl⟩)
  go_ret
  exact ⟨rfl, _, HT.out⟩

theorem asked_any' {w : World} {B : Nat} {p : Pr} (hp : PrOk w B p) (o : OpD) (hk : o.kind = 3 ∨ o.kind = 4 ∨ o.kind = 5 ∨ o.kind = 9) (hw : (Lit.int .i64 o.B).wf = true) (he : p.r.epoch ≤ 4611686018427387904) :
    Calls Try.prog 62 #[.agg #[.pointer (some ⟨p.x, 0, none⟩), .pointer (some ⟨p.y, 0, none⟩)], .agg o.cells] w fun e w' => e = .returned (.bool true) ∧ Below w.heap.size w w' := by
  rcases hk with hk | hk | hk | hk
  · exact asked_see o hk hp.sc hp.rc hp.ag
  · exact asked_state o hk hp.sc hp.rc hp.ag
  · exact asked_due o hk hw hp.sc hp.rc hp.ag
  · exact asked_leader o hk he hp.sc hp.rc hp.ag
end Go.Proofs.Ytiokecadnmcpeab
