import Derived.Test.YtiokecadnmcpeabLBoth
import Derived.Test.YtiokecadnmcpeabScript
import Derived.Test.YtiokecadnmcpeabPriceLaw
namespace Go.Proofs.Ytiokecadnmcpeab
set_option linter.unusedVariables false
set_option linter.unusedSimpArgs false
open Go.ChangeShapes Go.WideShapes Go.ChangeAt Go.RowKit

def pairAgg (x y : Nat) : Value := .agg #[.pointer (some ⟨x, 0, none⟩), .pointer (some ⟨y, 0, none⟩)]
def boxes (w : World) (x y : Nat) (o : OpD) : World := (w.alloc (.cells #[.pointer (some ⟨x, 0, none⟩), .pointer (some ⟨y, 0, none⟩)] 101)).alloc (.cells o.cells 85)

theorem boxes_below (w : World) (x y : Nat) (o : OpD) : Below w.heap.size w (boxes w x y o) := ((Below.refl _ _).alloc (Nat.le_refl _) _).alloc (by simp) _
theorem boxes_size (w : World) (x y : Nat) (o : OpD) : (boxes w x y o).heap.size = w.heap.size + 2 := by simp [boxes]

/-- What the boxes hold, in any world beyond. -/
structure Boxed (w W : World) (x y : Nat) (o : OpD) : Prop where
  p : W.heap[w.heap.size]? = some (.cells #[.pointer (some ⟨x, 0, none⟩), .pointer (some ⟨y, 0, none⟩)] 101 (0, 0))
  q : W.heap[w.heap.size + 1]? = some (.cells o.cells 85 (0, 0))
  bel : Below w.heap.size w W

theorem Boxed.start (w : World) (x y : Nat) (o : OpD) : Boxed w (boxes w x y o) x y o := by
  refine ⟨?_, ?_, boxes_below w x y o⟩
  · unfold boxes
    rw [Below.heap_alloc _ _ _ (by simp)]
    exact heap_alloc_new w _
  · have := heap_alloc_new (w.alloc (.cells #[.pointer (some ⟨x, 0, none⟩), .pointer (some ⟨y, 0, none⟩)] 101)) (.cells o.cells 85)
    simpa [boxes] using this
theorem Boxed.below {w W W' : World} {x y : Nat} {o : OpD} (h : Boxed w W x y o) (b : Below W.heap.size W W') : Boxed w W' x y o :=
  ⟨(b.block _ (lt_of_block h.p)).trans h.p, (b.block _ (lt_of_block h.q)).trans h.q, h.bel.trans (b.mono h.bel.size)⟩
theorem Boxed.keeps {w W W' : World} {x y : Nat} {o : OpD} (h : Boxed w W x y o) {F : Nat → Prop} (k : Keeps F W W') (hF : ∀ i, F i → i < w.heap.size) : W'.heap[w.heap.size]? = some (.cells #[.pointer (some ⟨x, 0, none⟩), .pointer (some ⟨y, 0, none⟩)] 101 (0, 0)) ∧ W'.heap[w.heap.size + 1]? = some (.cells o.cells 85 (0, 0)) :=
  ⟨(k.block _ (lt_of_block h.p) (fun hf => by have := hF _ hf; omega)).trans h.p, (k.block _ (lt_of_block h.q) (fun hf => by have := hF _ hf; omega)).trans h.q⟩
theorem Boxed.px {w W : World} {x y : Nat} {o : OpD} (h : Boxed w W x y o) : W.cell? ⟨w.heap.size, 0, none⟩ = some (.pointer (some ⟨x, 0, none⟩)) := cell_of_row W _ 0 _ _ _ h.p
theorem Boxed.py {w W : World} {x y : Nat} {o : OpD} (h : Boxed w W x y o) : W.cell? ⟨w.heap.size, 1, none⟩ = some (.pointer (some ⟨y, 0, none⟩)) := cell_of_row W _ 1 _ _ _ h.p
theorem Boxed.kind {w W : World} {x y : Nat} {o : OpD} (h : Boxed w W x y o) : W.cell? ⟨w.heap.size + 1, 0, none⟩ = some (.int .i64 o.kind) := cell_of_row W _ 0 _ _ _ h.q
theorem Boxed.A {w W : World} {x y : Nat} {o : OpD} (h : Boxed w W x y o) : W.cell? ⟨w.heap.size + 1, 2, none⟩ = some (.int .i64 o.A) := cell_of_row W _ 2 _ _ _ h.q
theorem Boxed.B {w W : World} {x y : Nat} {o : OpD} (h : Boxed w W x y o) : W.cell? ⟨w.heap.size + 1, 3, none⟩ = some (.int .i64 o.B) := cell_of_row W _ 3 _ _ _ h.q
theorem Boxed.C {w W : World} {x y : Nat} {o : OpD} (h : Boxed w W x y o) : W.cell? ⟨w.heap.size + 1, 4, none⟩ = some (.int .i64 o.C) := cell_of_row W _ 4 _ _ _ h.q

section
variable {w : World} {x y B : Nat} {s : PS} {r : RS} {v : Nat → Value}

set_option maxHeartbeats 3200000 in
set_option maxRecDepth 100000 in
theorem asked_see (o : OpD) (hk : o.kind = 3) (hS : SC w x s) (hR : RC w B y r v) (ag : Ag s r) :
    Calls Try.prog 62 #[.agg #[.pointer (some ⟨x, 0, none⟩), .pointer (some ⟨y, 0, none⟩)], .agg o.cells] w fun e w' => e = .returned (.bool true) ∧ Below w.heap.size w w' := by
  obtain ⟨c0, c1, c2, c3, c4, c5, er, h1, h2⟩ := see_both (x := x) (y := y) (B := B) (v := v) ag o.A
  have k3 : (o.kind == 3) = true := by simpa using hk
  have hb := Boxed.start w x y o
  have sS := hS.below hb.bel
  have sR := hR.below hb.bel
  have H1 : Hid _ := h1
  have HS : Hid _ := sS
  have H2 : Hid _ := h2
  have HR : Hid _ := sR
  have Hb : Hid _ := hb
  clear h1 h2 hk hb sS sR
  unfold OpD.cells
  go_enter Try.func62, Try.ntmps62
  go_wp2_with fail
  change Calls _ _ _ (boxes w x y o) _
  refine (H1.out _ HS.out).mono ?_
  rintro e w1 ⟨rfl, b1⟩
  have B1 := Hb.out.below b1
  have R1 : Hid _ := HR.out.below b1
  have py : ∀ z, (w1.alloc z).cell? ⟨w.heap.size, 1, none⟩ = some (.pointer (some ⟨y, 0, none⟩)) := fun z => by rw [World.cell?_alloc_past _ _ _ (lt_of_block B1.p)]; exact B1.py
  have qA : ∀ z, (w1.alloc z).cell? ⟨w.heap.size + 1, 2, none⟩ = some (.int .i64 o.A) := fun z => by rw [World.cell?_alloc_past _ _ _ (lt_of_block B1.q)]; exact B1.A
  have HB1 : Hid _ := B1
  clear H1 Hb HR b1 B1
  go_wp2_with fail
  refine (H2.out (w1.alloc (.cells #[.int .i64 c0, .int .i64 c1, .int .i64 c2, .int .i64 c3, .int .i64 c4, .int .i64 c5] 51)) (R1.out.below ((Below.refl _ _).alloc (Nat.le_refl _) _))).mono ?_
  rintro e w2 ⟨rfl, b2⟩
  have hbel : Below w.heap.size w w2 := ((HB1.out.bel.alloc HB1.out.bel.size _).trans (b2.mono (by have := HB1.out.bel.size; simp; omega)))
  have blk : w2.heap[w1.heap.size]? = some (.cells #[.int .i64 c0, .int .i64 c1, .int .i64 c2, .int .i64 c3, .int .i64 c4, .int .i64 c5] 51 (0, 0)) := (b2.block _ (by simp)).trans (heap_alloc_new w1 _)
  have e0 : ∀ z, (w2.alloc z).cell? ⟨w1.heap.size, 0, none⟩ = some (.int .i64 c0) := fun z => by rw [World.cell?_alloc_past _ _ _ (lt_of_block blk)]; exact cell_of_row w2 _ 0 _ _ _ blk
  have e1 : ∀ z, (w2.alloc z).cell? ⟨w1.heap.size, 1, none⟩ = some (.int .i64 c1) := fun z => by rw [World.cell?_alloc_past _ _ _ (lt_of_block blk)]; exact cell_of_row w2 _ 1 _ _ _ blk
  have e2 : ∀ z, (w2.alloc z).cell? ⟨w1.heap.size, 2, none⟩ = some (.int .i64 c2) := fun z => by rw [World.cell?_alloc_past _ _ _ (lt_of_block blk)]; exact cell_of_row w2 _ 2 _ _ _ blk
  have e3 : ∀ z, (w2.alloc z).cell? ⟨w1.heap.size, 3, none⟩ = some (.int .i64 c3) := fun z => by rw [World.cell?_alloc_past _ _ _ (lt_of_block blk)]; exact cell_of_row w2 _ 3 _ _ _ blk
  have e4 : ∀ z, (w2.alloc z).cell? ⟨w1.heap.size, 4, none⟩ = some (.int .i64 c4) := fun z => by rw [World.cell?_alloc_past _ _ _ (lt_of_block blk)]; exact cell_of_row w2 _ 4 _ _ _ blk
  have e5 : ∀ z, (w2.alloc z).cell? ⟨w1.heap.size, 5, none⟩ = some (.int .i64 c5) := fun z => by rw [World.cell?_alloc_past _ _ _ (lt_of_block blk)]; exact cell_of_row w2 _ 5 _ _ _ blk
  have hb2 : ∀ z, Below w.heap.size w (w2.alloc z) := fun z => hbel.alloc hbel.size z
  have Hb2 : Hid _ := hb2
  clear blk b2 HB1 R1 H2 hbel hb2 py qA
  go_wp2_with (go_at_call 74; refine (num_any _ _).mono ?_; rintro e w' ⟨rfl, rfl⟩)
  go_ret
  exact ⟨rfl, Hb2.out _⟩

set_option maxHeartbeats 3200000 in
set_option maxRecDepth 100000 in
theorem asked_state (o : OpD) (hk : o.kind = 4) (hS : SC w x s) (hR : RC w B y r v) (ag : Ag s r) :
    Calls Try.prog 62 #[.agg #[.pointer (some ⟨x, 0, none⟩), .pointer (some ⟨y, 0, none⟩)], .agg o.cells] w fun e w' => e = .returned (.bool true) ∧ Below w.heap.size w w' := by
  obtain ⟨c0, c1, c2, c3, c4, h1, h2⟩ := state_both (x := x) (y := y) (B := B) (v := v) ag
  have k3 : (o.kind == 3) = false := by simp [hk]
  have k4 : (o.kind == 4) = true := by simp [hk]
  have hb := Boxed.start w x y o
  have sS := hS.below hb.bel
  have sR := hR.below hb.bel
  have H1 : Hid _ := h1
  have HS : Hid _ := sS
  have H2 : Hid _ := h2
  have HR : Hid _ := sR
  have Hb : Hid _ := hb
  clear h1 h2 hk hb sS sR
  unfold OpD.cells
  go_enter Try.func62, Try.ntmps62
  go_wp2_with fail
  change Calls _ _ _ (boxes w x y o) _
  refine (H1.out _ HS.out).mono ?_
  rintro e w1 ⟨rfl, b1⟩
  have B1 := Hb.out.below b1
  have R1 : Hid _ := HR.out.below b1
  have py : ∀ z, (w1.alloc z).cell? ⟨w.heap.size, 1, none⟩ = some (.pointer (some ⟨y, 0, none⟩)) := fun z => by rw [World.cell?_alloc_past _ _ _ (lt_of_block B1.p)]; exact B1.py
  have HB1 : Hid _ := B1
  clear H1 Hb HR b1 B1
  go_wp2_with fail
  refine (H2.out (w1.alloc (.cells #[.int .i64 c0, .int .i64 c1, .int .i64 c2, .int .i64 c3, .int .i64 c4] 34)) (R1.out.below ((Below.refl _ _).alloc (Nat.le_refl _) _))).mono ?_
  rintro e w2 ⟨rfl, b2⟩
  have hbel : Below w.heap.size w w2 := ((HB1.out.bel.alloc HB1.out.bel.size _).trans (b2.mono (by have := HB1.out.bel.size; simp; omega)))
  have blk : w2.heap[w1.heap.size]? = some (.cells #[.int .i64 c0, .int .i64 c1, .int .i64 c2, .int .i64 c3, .int .i64 c4] 34 (0, 0)) := (b2.block _ (by simp)).trans (heap_alloc_new w1 _)
  have e0 : ∀ z, (w2.alloc z).cell? ⟨w1.heap.size, 0, none⟩ = some (.int .i64 c0) := fun z => by rw [World.cell?_alloc_past _ _ _ (lt_of_block blk)]; exact cell_of_row w2 _ 0 _ _ _ blk
  have e1 : ∀ z, (w2.alloc z).cell? ⟨w1.heap.size, 1, none⟩ = some (.int .i64 c1) := fun z => by rw [World.cell?_alloc_past _ _ _ (lt_of_block blk)]; exact cell_of_row w2 _ 1 _ _ _ blk
  have e2 : ∀ z, (w2.alloc z).cell? ⟨w1.heap.size, 2, none⟩ = some (.int .i64 c2) := fun z => by rw [World.cell?_alloc_past _ _ _ (lt_of_block blk)]; exact cell_of_row w2 _ 2 _ _ _ blk
  have e3 : ∀ z, (w2.alloc z).cell? ⟨w1.heap.size, 3, none⟩ = some (.int .i64 c3) := fun z => by rw [World.cell?_alloc_past _ _ _ (lt_of_block blk)]; exact cell_of_row w2 _ 3 _ _ _ blk
  have e4 : ∀ z, (w2.alloc z).cell? ⟨w1.heap.size, 4, none⟩ = some (.int .i64 c4) := fun z => by rw [World.cell?_alloc_past _ _ _ (lt_of_block blk)]; exact cell_of_row w2 _ 4 _ _ _ blk
  have hb2 : ∀ z, Below w.heap.size w (w2.alloc z) := fun z => hbel.alloc hbel.size z
  have Hb2 : Hid _ := hb2
  clear blk b2 HB1 R1 H2 hbel hb2 py
  go_wp2_with fail
  go_ret
  exact ⟨rfl, Hb2.out _⟩

set_option maxHeartbeats 3200000 in
set_option maxRecDepth 100000 in
theorem asked_due (o : OpD) (hk : o.kind = 5) (hw : (Lit.int .i64 o.B).wf = true) (hS : SC w x s) (hR : RC w B y r v) (ag : Ag s r) :
    Calls Try.prog 62 #[.agg #[.pointer (some ⟨x, 0, none⟩), .pointer (some ⟨y, 0, none⟩)], .agg o.cells] w fun e w' => e = .returned (.bool true) ∧ Below w.heap.size w w' := by
  obtain ⟨n, er, h1, h2⟩ := due_both (x := x) (y := y) (B := B) (v := v) ag o.A o.B hw
  have k3 : (o.kind == 3) = false := by simp [hk]
  have k4 : (o.kind == 4) = false := by simp [hk]
  have k5 : (o.kind == 5) = true := by simp [hk]
  have hb := Boxed.start w x y o
  have sS := hS.below hb.bel
  have sR := hR.below hb.bel
  have H1 : Hid _ := h1
  have HS : Hid _ := sS
  have H2 : Hid _ := h2
  have HR : Hid _ := sR
  have Hb : Hid _ := hb
  clear h1 h2 hk hb sS sR hw
  unfold OpD.cells
  go_enter Try.func62, Try.ntmps62
  go_wp2_with fail
  change Calls _ _ _ (boxes w x y o) _
  refine (H1.out _ HS.out).mono ?_
  rintro e w1 ⟨rfl, b1⟩
  have B1 := Hb.out.below b1
  have R1 : Hid _ := HR.out.below b1
  have py := B1.py
  have qA := B1.A
  have qB := B1.B
  have HB1 : Hid _ := B1
  clear H1 Hb HR b1 B1
  go_wp2_with fail
  refine (H2.out _ R1.out).mono ?_
  rintro e w2 ⟨rfl, b2⟩
  have hbel : Hid (Below w.heap.size w w2) := HB1.out.bel.trans (b2.mono HB1.out.bel.size)
  clear b2 HB1 R1 H2 py qA qB
  go_wp2_with (go_at_call 74; refine (num_any _ _).mono ?_; rintro e w' ⟨rfl, rfl⟩)
  go_ret
  exact ⟨rfl, hbel.out⟩
set_option maxHeartbeats 3200000 in
set_option maxRecDepth 100000 in
theorem asked_leader (o : OpD) (hk : o.kind = 9) (he : r.epoch ≤ 4611686018427387904) (hS : SC w x s) (hR : RC w B y r v) (ag : Ag s r) :
    Calls Try.prog 62 #[.agg #[.pointer (some ⟨x, 0, none⟩), .pointer (some ⟨y, 0, none⟩)], .agg o.cells] w fun e w' => e = .returned (.bool true) ∧ Below w.heap.size w w' := by
  obtain ⟨n, er, h1, h2⟩ := leader_both (x := x) (y := y) (B := B) (v := v) ag he o.A
  have k3 : (o.kind == 3) = false := by simp [hk]
  have k4 : (o.kind == 4) = false := by simp [hk]
  have k5 : (o.kind == 5) = false := by simp [hk]
  have hb := Boxed.start w x y o
  have sS := hS.below hb.bel
  have sR := hR.below hb.bel
  have H1 : Hid _ := h1
  have HS : Hid _ := sS
  have H2 : Hid _ := h2
  have HR : Hid _ := sR
  have Hb : Hid _ := hb
  clear h1 h2 hk hb sS sR
  unfold OpD.cells
  go_enter Try.func62, Try.ntmps62
  go_wp2_with fail
  change Calls _ _ _ (boxes w x y o) _
  refine (H1.out _ HS.out).mono ?_
  rintro e w1 ⟨rfl, b1⟩
  have B1 := Hb.out.below b1
  have R1 : Hid _ := HR.out.below b1
  have py := B1.py
  have qA := B1.A
  have HB1 : Hid _ := B1
  clear H1 Hb HR b1 B1
  go_wp2_with fail
  refine (H2.out _ R1.out).mono ?_
  rintro e w2 ⟨rfl, b2⟩
  have hbel : Hid (Below w.heap.size w w2) := HB1.out.bel.trans (b2.mono HB1.out.bel.size)
  clear b2 HB1 R1 H2 py qA
  go_wp2_with (go_at_call 74; refine (num_any _ _).mono ?_; rintro e w' ⟨rfl, rfl⟩)
  go_ret
  exact ⟨rfl, hbel.out⟩
end
end Go.Proofs.Ytiokecadnmcpeab
