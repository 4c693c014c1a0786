import Derived.Test.YtfeonkcfnmamnaaLDone
namespace Go.Proofs.Ytfeonkcfnmamnaa
set_option linter.unusedVariables false
set_option linter.unusedSimpArgs false
open Go.ChangeShapes Go.WideShapes Go.ChangeAt Go.RowKit


theorem new_no (s d r c le ne : Int) (a : Option Addr) (cap : Nat) (l : List Int) (w : World) (hl : Ints w a l) (hm : l.length * 8 ≤ 140737488351232) (hn : ¬ (NumFit s d r c le ne ∧ StartFit l)) :
    Calls Try.prog 36 #[.agg #[.int .i64 s, .int .i64 d, .int .i64 r, .int .i64 c, .int .i64 le, .int .i64 ne, .slice a l.length cap]] w fun e w' => e = .returned (.tuple #[.pointer none, .int .i64 1]) ∧ Below w.heap.size w w' := by
  by_cases h : NumFit s d r c le ne
  · exact new_no2 s d r c le ne a cap l w hl hm h (fun hs => hn ⟨h, hs⟩)
  · exact new_no1 s d r c le ne a cap l w h

theorem rnew_ok (s d r c le ne : Int) (a : Option Addr) (cap : Nat) (l : List Int) (w : World) (hl : Ints w a l) (hm : l.length * 8 ≤ 140737488351232) (hn : NumFit s d r c le ne) (hs : StartFit l) :
    Calls Try.prog 85 #[.agg #[.int .i64 s, .int .i64 d, .int .i64 r, .int .i64 c, .int .i64 le, .int .i64 ne, .slice a l.length cap]] w fun e w' => ∃ y v, e = .returned (.tuple #[.pointer (some ⟨y, 0, none⟩), .int .i64 0]) ∧ RC w' w.heap.size y (newRS s d r c le ne l) v ∧ Below w.heap.size w w' := by
  obtain ⟨n, rfl⟩ := Int.eq_ofNat_of_zero_le (show 0 ≤ le by have := hn.2.2.2.2.1.1; omega)
  refine (rnew_yes s d r c n ne a cap l w hl hm hn hs).mono ?_
  rintro e w' ⟨y, v, rfl, hR, hb⟩
  exact ⟨y, v, rfl, hR.cast (by simp [newRS]), hb⟩

theorem own_row {w : World} {B : Nat} {v : Value} {l : List Int} (h : w.ownsRow B 3 1 v l.length (l.map (Value.int .i64))) (hne : 0 < l.length) :
    ∃ g cap cur, v = .slice (some ⟨g, 0, none⟩) l.length cap ∧ B ≤ g ∧ l.length ≤ cap ∧ Ints w (some ⟨g, 0, none⟩) l ∧ w.heap[g]? = some (.cells cur 3 (0, 0)) ∧ l.length ≤ cur.size := by
  have h' := h
  rcases h.2 with ⟨_, h0⟩ | ⟨g, cap, cur, rfl, hb, hg, h1, h2, h3, h4⟩
  · omega
  · refine ⟨g, cap, cur, rfl, hb, h1, .inr ⟨g, 0, rfl, fun i hi => ?_⟩, hg, by omega⟩
    rw [Nat.zero_add, h'.cellAt i (by omega)]
    simp [List.getD, hi]

theorem Ints.keeps {w w' : World} {b off : Nat} {l : List Int} (h : Ints w (some ⟨b, off, none⟩) l) {F : Nat → Prop} (k : Keeps F w w') (hF : ¬ F b) : Ints w' (some ⟨b, off, none⟩) l := by
  rcases h with h | ⟨b', off', ha, hc⟩
  · exact .inl h
  · refine .inr ⟨b', off', ha, fun i hi => ?_⟩
    injection ha with ha
    injection ha with hb ho
    subst hb
    exact k.cell (hc i hi) hF

/-- In the midst of made: the step's box, the config's box. -/
structure Making (w W : World) (o : OpD) (st : Value) : Prop where
  q : W.heap[w.heap.size]? = some (.cells o.cells 27 (0, 0))
  c : W.heap[w.heap.size + 1]? = some (.cells #[.int .i64 o.seats, .int .i64 o.delay, .int .i64 o.rate, .int .i64 o.cut, .int .i64 o.length, .int .i64 o.need, st] 25 (0, 0))
  bel : Below w.heap.size w W

theorem Making.below {w W W' : World} {o : OpD} {st : Value} (h : Making w W o st) (b : Below W.heap.size W W') : Making w W' o st :=
  ⟨(b.block _ (lt_of_block h.q)).trans h.q, (b.block _ (lt_of_block h.c)).trans h.c, h.bel.trans (b.mono h.bel.size)⟩

theorem Making.start (w : World) (o : OpD) : Making w ((w.alloc (.cells o.cells 27)).alloc (.cells #[.int .i64 o.seats, .int .i64 o.delay, .int .i64 o.rate, .int .i64 o.cut, .int .i64 o.length, .int .i64 o.need, .slice o.sa o.start.length o.scap] 25)) o (.slice o.sa o.start.length o.scap) := by
  refine ⟨?_, ?_, ((Below.refl _ _).alloc (Nat.le_refl _) _).alloc (by simp) _⟩
  · rw [Below.heap_alloc _ _ _ (by simp)]
    exact heap_alloc_new w _
  · have := heap_alloc_new (w.alloc (.cells o.cells 27)) (.cells #[.int .i64 o.seats, .int .i64 o.delay, .int .i64 o.rate, .int .i64 o.cut, .int .i64 o.length, .int .i64 o.need, .slice o.sa o.start.length o.scap] 25)
    simpa using this

theorem Making.set {w W : World} {o : OpD} {st : Value} (h : Making w W o st) (u : Value) : Making w (W.setCell ⟨w.heap.size + 1, 6, none⟩ u) o u :=
  ⟨(Below.heap_setCell W _ u _ (by simp)).trans h.q, heap_setCell_same W _ 6 _ _ u h.c, h.bel.setCell (by simp) u⟩

section
variable {w W : World} {o : OpD} {st : Value}
theorem Making.L (h : Making w W o st) : W.cell? ⟨w.heap.size, 12, none⟩ = some (.slice o.la o.l.length o.lcap) := cell_of_row W _ 12 _ _ _ h.q
theorem Making.c0 (h : Making w W o st) : W.cell? ⟨w.heap.size + 1, 0, none⟩ = some (.int .i64 o.seats) := cell_of_row W _ 0 _ _ _ h.c
theorem Making.c1 (h : Making w W o st) : W.cell? ⟨w.heap.size + 1, 1, none⟩ = some (.int .i64 o.delay) := cell_of_row W _ 1 _ _ _ h.c
theorem Making.c2 (h : Making w W o st) : W.cell? ⟨w.heap.size + 1, 2, none⟩ = some (.int .i64 o.rate) := cell_of_row W _ 2 _ _ _ h.c
theorem Making.c3 (h : Making w W o st) : W.cell? ⟨w.heap.size + 1, 3, none⟩ = some (.int .i64 o.cut) := cell_of_row W _ 3 _ _ _ h.c
theorem Making.c4 (h : Making w W o st) : W.cell? ⟨w.heap.size + 1, 4, none⟩ = some (.int .i64 o.length) := cell_of_row W _ 4 _ _ _ h.c
theorem Making.c5 (h : Making w W o st) : W.cell? ⟨w.heap.size + 1, 5, none⟩ = some (.int .i64 o.need) := cell_of_row W _ 5 _ _ _ h.c
theorem Making.c6 (h : Making w W o st) : W.cell? ⟨w.heap.size + 1, 6, none⟩ = some st := cell_of_row W _ 6 _ _ _ h.c
theorem Making.f6 (h : Making w W o st) : W.frozen? ⟨w.heap.size + 1, 6, none⟩ = false := frozen_of_row W _ 6 _ _ h.c
end

set_option maxHeartbeats 6400000 in
set_option maxRecDepth 100000 in
theorem made_no (wb : Nat) (o : OpD) (w : World) (ok : OpOk w o) (hn : ¬ (NumFit o.seats o.delay o.rate o.cut o.length o.need ∧ StartFit o.l)) :
    Calls Try.prog 61 #[.pointer (some ⟨wb, 0, none⟩), .agg o.cells] w fun e w' => e = .returned (.bool true) ∧ Below w.heap.size w w' := by
  have Hn := hid (hn)
  have M0 := Making.start w o
  have hl0 := ok.l.below M0.bel
  have hreach := ok.reach
  have HM0 := hid (M0)
  have Hl0 := hid (hl0)
  have Hl := hid (ok.l)
  have hra : (room o.l).length ≤ o.l.length + 8 := Nat.le_of_eq (room_length o.l)
  have hrb : o.l.length + 8 ≤ (room o.l).length := Nat.le_of_eq (room_length o.l).symm
  clear hn M0 hl0 ok
  unfold OpD.cells
  go_enter Try.func61, Try.ntmps61
  go_wp2_with fail
  refine (roomy_any o.la o.lcap o.l ((w.alloc (.cells o.cells 27)).alloc (.cells #[.int .i64 o.seats, .int .i64 o.delay, .int .i64 o.rate, .int .i64 o.cut, .int .i64 o.length, .int .i64 o.need, .slice o.sa o.start.length o.scap] 25)) Hl0.out hreach).mono ?_
  rintro e w2 ⟨rv, rfl, hown, hb2⟩
  obtain ⟨g, capr, cur, hv, hg1, hcap, hints, hblk, hcur⟩ := own_row hown (by omega)
  rw [hv]
  have M2 := HM0.out.below hb2
  have mL := M2.L
  have m0 := M2.c0
  have m1 := M2.c1
  have m2 := M2.c2
  have m3 := M2.c3
  have m4 := M2.c4
  have m5 := M2.c5
  have m6 := M2.c6
  have mf := M2.f6
  have i1 : (o.l.length : Int) ≤ (capr : Int) := by omega
  have hg2 : w.heap.size + 2 ≤ g := by simpa using hg1
  have M3 := M2.set (.slice (some ⟨g, 0, none⟩) o.l.length capr)
  have K3 : Keeps (fun k => k = w.heap.size + 1) w2 (w2.setCell ⟨w.heap.size + 1, 6, none⟩ (.slice (some ⟨g, 0, none⟩) o.l.length capr)) := (Keeps.refl (fun k => k = w.heap.size + 1) w2).setCell ⟨w.heap.size + 1, 6, none⟩ _ (fun _ => rfl)
  have I3 := hints.keeps K3 (by omega)
  have blk3 := (K3.block g (lt_of_block hblk) (by omega)).trans hblk
  have HM3 := hid (M3)
  have HI3 := hid (I3)
  have Hblk3 := hid (blk3)
  clear hown hb2 hv hg1 HM0 Hl0 M2 hints hblk M3 K3 I3 blk3
  go_wp2_with fail
  refine (new_no o.seats o.delay o.rate o.cut o.length o.need (some ⟨g, 0, none⟩) capr o.l _ (Ints.front HI3.out) hreach Hn.out).mono ?_
  rintro e w4 ⟨rfl, b4⟩
  have M4 := HM3.out.below b4
  have I4 := hid (HI3.out.below b4)
  have blk4 := hid ((b4.block g (lt_of_block Hblk3.out)).trans Hblk3.out)
  have L4 := hid (Hl.out.below M4.bel)
  have HM4 := hid (M4)
  clear mL m0 m1 m2 m3 m4 m5 m6 mf HM3 HI3 Hblk3 b4
  have mL := M4.L
  have m0 := M4.c0
  have m1 := M4.c1
  have m2 := M4.c2
  have m3 := M4.c3
  have m4 := M4.c4
  have m5 := M4.c5
  clear M4
  go_wp2_with fail
  refine (rnew_no o.seats o.delay o.rate o.cut o.length o.need o.la o.lcap o.l _ L4.out hreach Hn.out).mono ?_
  rintro e w5 ⟨rfl, b5⟩
  have M5 := HM4.out.below b5
  have I5 := hid (I4.out.below b5)
  have blk5 := hid ((b5.block g (lt_of_block blk4.out)).trans blk4.out)
  have L5 := hid (L4.out.below b5)
  have HM5 := hid (M5)
  clear mL m0 m1 m2 m3 m4 m5 HM4 I4 blk4 L4 b5
  have mL := M5.L
  clear M5
  go_wp2_with fail
  refine (untouched_any _ _ _ _ o.l _ I5.out L5.out hreach).mono ?_
  rintro e w6 ⟨rfl, rfl⟩
  clear mL
  go_wp2_with fail
  go_loopw [12] (fun i wr => ∃ k : Nat, k ≤ (room o.l).length ∧ i = .int .i64 k ∧ (∃ cr : Array Value, wr.heap[g]? = some (.cells cr 3 (0, 0)) ∧ (room o.l).length ≤ cr.size) ∧ Keeps (fun j => j = g) w6 wr) (fun i _ => (room o.l).length - (intOf i).toNat)
  case atStart => exact ⟨0, Nat.zero_le _, rfl, ⟨cur, blk5.out, hcur⟩, Keeps.refl _ _⟩
  case round =>
    obtain ⟨k, hk, rfl, ⟨cr, hcr, hcs⟩, hK⟩ := hrel
    by_cases hlt : k < (room o.l).length
    · have e0 : ∃ u, wr.cell? ⟨g, k, none⟩ = some u := ⟨cr[k], by rw [cell_of_row wr g k cr _ _ hcr]; exact Array.getElem?_eq_getElem (by omega)⟩
      obtain ⟨u0, e0⟩ := e0
      have f0 : wr.frozen? ⟨g, k, none⟩ = false := frozen_of_row wr g k cr _ hcr
      have hn : Hid (∀ u, (∃ cr : Array Value, (wr.setCell ⟨g, k, none⟩ u).heap[g]? = some (.cells cr 3 (0, 0)) ∧ (room o.l).length ≤ cr.size) ∧ Keeps (fun j => j = g) w6 (wr.setCell ⟨g, k, none⟩ u)) :=
        fun u => ⟨⟨_, heap_setCell_same wr g k cr _ u hcr, by simpa using hcs⟩, hK.setCell ⟨g, k, none⟩ u (fun _ => rfl)⟩
      clear hcr hK
      go_wp2_with fail
      go_roundw
      case rel => exact ⟨k + 1, by omega, by go_num, (hn.out _).1, (hn.out _).2⟩
      case measure => simp [intOf]; omega
    · have hbel : Hid (Below w.heap.size w wr) := HM5.out.bel.trans (hK.below (B := w.heap.size) HM5.out.bel.size (fun i hi => by rw [hi]; omega))
      clear hcr hK
      go_wp2_with (go_at_call 30; refine (num_any _ _).mono ?_; rintro e w' ⟨rfl, rfl⟩)
      go_ret
      exact ⟨rfl, hbel.out⟩
end Go.Proofs.Ytfeonkcfnmamnaa
