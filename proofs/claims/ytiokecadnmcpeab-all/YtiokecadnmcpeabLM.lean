import Derived.Test.YtiokecadnmcpeabLDone
namespace Go.Proofs.Ytiokecadnmcpeab
set_option linter.unusedVariables false
set_option linter.unusedSimpArgs false
open Go.ChangeShapes Go.WideShapes Go.ChangeAt Go.RowKit


theorem new_no (s d r c le ne : Int) (a : Option Addr) (cap : Nat) (l : List Int) (w : World) (hl : Ints w a l) (hm : l.length * 8 ≤ 140737488351232) (hn : ¬ (NumFit s d r c le ne ∧ StartFit l)) :
    Calls Try.prog 14 #[.agg #[.int .i64 s, .int .i64 d, .int .i64 r, .int .i64 c, .int .i64 le, .int .i64 ne, .slice a l.length cap]] w fun e w' => e = .returned (.tuple #[.pointer none, .int .i64 1]) ∧ Below w.heap.size w w' := by
  by_cases h : NumFit s d r c le ne
  · exact new_no2 s d r c le ne a cap l w hl hm h (fun hs => hn ⟨h, hs⟩)
  · exact new_no1 s d r c le ne a cap l w h

theorem rnew_ok (s d r c le ne : Int) (a : Option Addr) (cap : Nat) (l : List Int) (w : World) (hl : Ints w a l) (hm : l.length * 8 ≤ 140737488351232) (hn : NumFit s d r c le ne) (hs : StartFit l) :
    Calls Try.prog 75 #[.agg #[.int .i64 s, .int .i64 d, .int .i64 r, .int .i64 c, .int .i64 le, .int .i64 ne, .slice a l.length cap]] w fun e w' => ∃ y v, e = .returned (.tuple #[.pointer (some ⟨y, 0, none⟩), .int .i64 0]) ∧ RC w' w.heap.size y (newRS s d r c le ne l) v ∧ Below w.heap.size w w' := by
  obtain ⟨n, rfl⟩ := Int.eq_ofNat_of_zero_le (show 0 ≤ le by have := hn.2.2.2.2.1.1; omega)
  refine (rnew_yes s d r c n ne a cap l w hl hm hn hs).mono ?_
  rintro e w' ⟨y, v, rfl, hR, hb⟩
  exact ⟨y, v, rfl, hR.cast (by simp [newRS]), hb⟩

theorem own_row {w : World} {B : Nat} {v : Value} {l : List Int} (h : w.ownsRow B 3 1 v l.length (l.map (Value.int .i64))) (hne : 0 < l.length) :
    ∃ g cap cur, v = .slice (some ⟨g, 0, none⟩) l.length cap ∧ B ≤ g ∧ l.length ≤ cap ∧ Ints w (some ⟨g, 0, none⟩) l ∧ w.heap[g]? = some (.cells cur 3 (0, 0)) ∧ l.length ≤ cur.size := by
  have h' := h
  rcases h.2 with ⟨_, h0⟩ | ⟨g, cap, cur, rfl, hb, hg, h1, h2, h3, h4⟩
  · omega
  · refine ⟨g, cap, cur, rfl, hb, h1, .inr ⟨g, 0, rfl, fun i hi => ?_⟩, hg, by omega⟩
    rw [Nat.zero_add, h'.cellAt i (by omega)]
    simp [List.getD, hi]

theorem Ints.keeps {w w' : World} {b off : Nat} {l : List Int} (h : Ints w (some ⟨b, off, none⟩) l) {F : Nat → Prop} (k : Keeps F w w') (hF : ¬ F b) : Ints w' (some ⟨b, off, none⟩) l := by
  rcases h with h | ⟨b', off', ha, hc⟩
  · exact .inl h
  · refine .inr ⟨b', off', ha, fun i hi => ?_⟩
    injection ha with ha
    injection ha with hb ho
    subst hb
    exact k.cell (hc i hi) hF

/-- In the midst of made: the step's box, the config's box. -/
structure Making (w W : World) (o : OpD) (st : Value) : Prop where
  q : W.heap[w.heap.size]? = some (.cells o.cells 85 (0, 0))
  c : W.heap[w.heap.size + 1]? = some (.cells #[.int .i64 o.seats, .int .i64 o.delay, .int .i64 o.rate, .int .i64 o.cut, .int .i64 o.length, .int .i64 o.need, st] 27 (0, 0))
  bel : Below w.heap.size w W

theorem Making.below {w W W' : World} {o : OpD} {st : Value} (h : Making w W o st) (b : Below W.heap.size W W') : Making w W' o st :=
  ⟨(b.block _ (lt_of_block h.q)).trans h.q, (b.block _ (lt_of_block h.c)).trans h.c, h.bel.trans (b.mono h.bel.size)⟩

theorem Making.start (w : World) (o : OpD) : Making w ((w.alloc (.cells o.cells 85)).alloc (.cells #[.int .i64 o.seats, .int .i64 o.delay, .int .i64 o.rate, .int .i64 o.cut, .int .i64 o.length, .int .i64 o.need, .slice o.sa o.start.length o.scap] 27)) o (.slice o.sa o.start.length o.scap) := by
  refine ⟨?_, ?_, ((Below.refl _ _).alloc (Nat.le_refl _) _).alloc (by simp) _⟩
  · rw [Below.heap_alloc _ _ _ (by simp)]
    exact heap_alloc_new w _
  · have := heap_alloc_new (w.alloc (.cells o.cells 85)) (.cells #[.int .i64 o.seats, .int .i64 o.delay, .int .i64 o.rate, .int .i64 o.cut, .int .i64 o.length, .int .i64 o.need, .slice o.sa o.start.length o.scap] 27)
    simpa using this

theorem Making.set {w W : World} {o : OpD} {st : Value} (h : Making w W o st) (u : Value) : Making w (W.setCell ⟨w.heap.size + 1, 6, none⟩ u) o u :=
  ⟨(Below.heap_setCell W _ u _ (by simp)).trans h.q, heap_setCell_same W _ 6 _ _ u h.c, h.bel.setCell (by simp) u⟩

section
variable {w W : World} {o : OpD} {st : Value}
theorem Making.L (h : Making w W o st) : W.cell? ⟨w.heap.size, 12, none⟩ = some (.slice o.la o.l.length o.lcap) := cell_of_row W _ 12 _ _ _ h.q
theorem Making.c0 (h : Making w W o st) : W.cell? ⟨w.heap.size + 1, 0, none⟩ = some (.int .i64 o.seats) := cell_of_row W _ 0 _ _ _ h.c
theorem Making.c1 (h : Making w W o st) : W.cell? ⟨w.heap.size + 1, 1, none⟩ = some (.int .i64 o.delay) := cell_of_row W _ 1 _ _ _ h.c
theorem Making.c2 (h : Making w W o st) : W.cell? ⟨w.heap.size + 1, 2, none⟩ = some (.int .i64 o.rate) := cell_of_row W _ 2 _ _ _ h.c
theorem Making.c3 (h : Making w W o st) : W.cell? ⟨w.heap.size + 1, 3, none⟩ = some (.int .i64 o.cut) := cell_of_row W _ 3 _ _ _ h.c
theorem Making.c4 (h : Making w W o st) : W.cell? ⟨w.heap.size + 1, 4, none⟩ = some (.int .i64 o.length) := cell_of_row W _ 4 _ _ _ h.c
theorem Making.c5 (h : Making w W o st) : W.cell? ⟨w.heap.size + 1, 5, none⟩ = some (.int .i64 o.need) := cell_of_row W _ 5 _ _ _ h.c
theorem Making.c6 (h : Making w W o st) : W.cell? ⟨w.heap.size + 1, 6, none⟩ = some st := cell_of_row W _ 6 _ _ _ h.c
theorem Making.f6 (h : Making w W o st) : W.frozen? ⟨w.heap.size + 1, 6, none⟩ = false := frozen_of_row W _ 6 _ _ h.c
end

set_option maxHeartbeats 6400000 in
set_option maxRecDepth 100000 in
theorem made_no (wb : Nat) (o : OpD) (w : World) (ok : OpOk w o) (hn : ¬ (NumFit o.seats o.delay o.rate o.cut o.length o.need ∧ StartFit o.l)) :
    Calls Try.prog 60 #[.pointer (some ⟨wb, 0, none⟩), .agg o.cells] w fun e w' => e = .returned (.bool true) ∧ Below w.heap.size w w' := by
  have Hn := hid (hn)
  have M0 := Making.start w o
  have hl0 := ok.l.below M0.bel
  have hreach := ok.reach
  have HM0 := hid (M0)
  have Hl0 := hid (hl0)
  have Hl := hid (ok.l)
  have hra : (room o.l).length ≤ o.l.length + 8 := Nat.le_of_eq (room_length o.l)
  have hrb : o.l.length + 8 ≤ (room o.l).length := Nat.le_of_eq (room_length o.l).symm
  clear hn M0 hl0 ok
  unfold OpD.cells
  go_enter Try.func60, Try.ntmps60
  go_wp2_with fail
  refine (roomy_any o.la o.lcap o.l ((w.alloc (.cells o.cells 85)).alloc (.cells #[.int .i64 o.seats, .int .i64 o.delay, .int .i64 o.rate, .int .i64 o.cut, .int .i64 o.length, .int .i64 o.need, .slice o.sa o.start.length o.scap] 27)) Hl0.out hreach).mono ?_
  rintro e w2 ⟨rv, rfl, hown, hb2⟩
  obtain ⟨g, capr, cur, hv, hg1, hcap, hints, hblk, hcur⟩ := own_row hown (by omega)
  rw [hv]
  have M2 := HM0.out.below hb2
  have mL := M2.L
  have m0 := M2.c0
  have m1 := M2.c1
  have m2 := M2.c2
  have m3 := M2.c3
  have m4 := M2.c4
  have m5 := M2.c5
  have m6 := M2.c6
  have mf := M2.f6
  have i1 : (o.l.length : Int) ≤ (capr : Int) := by omega
  have hg2 : w.heap.size + 2 ≤ g := by simpa using hg1
  have M3 := M2.set (.slice (some ⟨g, 0, none⟩) o.l.length capr)
  have K3 : Keeps (fun k => k = w.heap.size + 1) w2 (w2.setCell ⟨w.heap.size + 1, 6, none⟩ (.slice (some ⟨g, 0, none⟩) o.l.length capr)) := (Keeps.refl (fun k => k = w.heap.size + 1) w2).setCell ⟨w.heap.size + 1, 6, none⟩ _ (fun _ => rfl)
  have I3 := hints.keeps K3 (by omega)
  have blk3 := (K3.block g (lt_of_block hblk) (by omega)).trans hblk
  have HM3 := hid (M3)
  have HI3 := hid (I3)
  have Hblk3 := hid (blk3)
  clear hown hb2 hv hg1 HM0 Hl0 M2 hints hblk M3 K3 I3 blk3
  go_wp2_with fail
  refine (new_no o.seats o.delay o.rate o.cut o.length o.need (some ⟨g, 0, none⟩) capr o.l _ (Ints.front HI3.out) hreach Hn.out).mono ?_
  rintro e w4 ⟨rfl, b4⟩
  have M4 := HM3.out.below b4
  have I4 := hid (HI3.out.below b4)
  have blk4 := hid ((b4.block g (lt_of_block Hblk3.out)).trans Hblk3.out)
  have L4 := hid (Hl.out.below M4.bel)
  have HM4 := hid (M4)
  clear mL m0 m1 m2 m3 m4 m5 m6 mf HM3 HI3 Hblk3 b4
  have mL := M4.L
  have m0 := M4.c0
  have m1 := M4.c1
  have m2 := M4.c2
  have m3 := M4.c3
  have m4 := M4.c4
  have m5 := M4.c5
  clear M4
  go_wp2_with fail
  refine (rnew_no o.seats o.delay o.rate o.cut o.length o.need o.la o.lcap o.l _ L4.out hreach Hn.out).mono ?_
  rintro e w5 ⟨rfl, b5⟩
  have M5 := HM4.out.below b5
  have I5 := hid (I4.out.below b5)
  have blk5 := hid ((b5.block g (lt_of_block blk4.out)).trans blk4.out)
  have L5 := hid (L4.out.below b5)
  have HM5 := hid (M5)
  clear mL m0 m1 m2 m3 m4 m5 HM4 I4 blk4 L4 b5
  have mL := M5.L
  clear M5
  go_wp2_with fail
  refine (untouched_any _ _ _ _ o.l _ I5.out L5.out hreach).mono ?_
  rintro e w6 ⟨rfl, rfl⟩
  clear mL
  go_wp2_with fail
  go_loopw [12] (fun i wr => ∃ k : Nat, k ≤ (room o.l).length ∧ i = .int .i64 k ∧ (∃ cr : Array Value, wr.heap[g]? = some (.cells cr 3 (0, 0)) ∧ (room o.l).length ≤ cr.size) ∧ Keeps (fun j => j = g) w6 wr) (fun i _ => (room o.l).length - (intOf i).toNat)
  case atStart => exact ⟨0, Nat.zero_le _, rfl, ⟨cur, blk5.out, hcur⟩, Keeps.refl _ _⟩
  case round =>
    obtain ⟨k, hk, rfl, ⟨cr, hcr, hcs⟩, hK⟩ := hrel
    by_cases hlt : k < (room o.l).length
    · have e0 : ∃ u, wr.cell? ⟨g, k, none⟩ = some u := ⟨cr[k], by rw [cell_of_row wr g k cr _ _ hcr]; exact Array.getElem?_eq_getElem (by omega)⟩
      obtain ⟨u0, e0⟩ := e0
      have f0 : wr.frozen? ⟨g, k, none⟩ = false := frozen_of_row wr g k cr _ hcr
      have hn : Hid (∀ u, (∃ cr : Array Value, (wr.setCell ⟨g, k, none⟩ u).heap[g]? = some (.cells cr 3 (0, 0)) ∧ (room o.l).length ≤ cr.size) ∧ Keeps (fun j => j = g) w6 (wr.setCell ⟨g, k, none⟩ u)) :=
        fun u => ⟨⟨_, heap_setCell_same wr g k cr _ u hcr, by simpa using hcs⟩, hK.setCell ⟨g, k, none⟩ u (fun _ => rfl)⟩
      clear hcr hK
      go_wp2_with fail
      go_roundw
      case rel => exact ⟨k + 1, by omega, by go_num, (hn.out _).1, (hn.out _).2⟩
      case measure => simp [intOf]; omega
    · have hbel : Hid (Below w.heap.size w wr) := HM5.out.bel.trans (hK.below (B := w.heap.size) HM5.out.bel.size (fun i hi => by rw [hi]; omega))
      clear hcr hK
      go_wp2_with (go_at_call 74; refine (num_any _ _).mono ?_; rintro e w' ⟨rfl, rfl⟩)
      go_ret
      exact ⟨rfl, hbel.out⟩
end Go.Proofs.Ytiokecadnmcpeab
namespace Go.Proofs.Ytiokecadnmcpeab
set_option linter.unusedVariables false
set_option linter.unusedSimpArgs false
open Go.ChangeShapes Go.WideShapes Go.ChangeAt Go.RowKit

def RS.none : RS := ⟨0, 0, 0, 0, 0, 0, 0, [], [], [], 0, 0, [], [], []⟩
def Pr.none : Pr := ⟨0, 0, RS.none, fun _ => .slice .none 0 0, PS.zero⟩
def Pr.cells (p : Pr) : List Value := [.pointer (some ⟨p.x, 0, .none⟩), .pointer (some ⟨p.y, 0, .none⟩)]

/-- All chains so far. -/
structure WInv (w : World) (B wb : Nat) (ps : List Pr) (va : Value) (T : Nat) : Prop where
  lo : B ≤ wb
  blk : w.heap[wb]? = some (.cells #[va] 82 (0, 0))
  own : w.ownsRow B 101 2 va ps.length (ps.flatMap Pr.cells)
  nwb : va.ownBlock ≠ some wb
  ok : ∀ i, i < ps.length → PrOk w B (ps.getD i Pr.none)
  dis : ∀ i j, i < ps.length → j < ps.length → i ≠ j → ∀ k, PFoot (ps.getD i Pr.none) k → ¬ PFoot (ps.getD j Pr.none) k
  sw : ∀ i, i < ps.length → ¬ PFoot (ps.getD i Pr.none) wb
  sa : ∀ i, i < ps.length → ∀ k, va.ownBlock = some k → ¬ PFoot (ps.getD i Pr.none) k
  len : ∀ i, i < ps.length → (ps.getD i Pr.none).r.book.length ≤ T
  ep : ∀ i, i < ps.length → (ps.getD i Pr.none).r.epoch ≤ (T : Int)

section
variable {w w' : World} {B wb T : Nat} {ps : List Pr} {va : Value}

theorem WInv.below (h : WInv w B wb ps va T) (b : Below w.heap.size w w') : WInv w' B wb ps va T :=
  { h with
    blk := (b.block _ (lt_of_block h.blk)).trans h.blk
    own := (Keeps.ofBelow (F := fun _ => False) b).owns h.own (fun _ _ hf => hf)
    ok := fun i hi => (h.ok i hi).below b }

theorem WInv.more (h : WInv w B wb ps va T) {T' : Nat} (hT : T ≤ T') : WInv w B wb ps va T' :=
  { h with len := fun i hi => Nat.le_trans (h.len i hi) hT, ep := fun i hi => by have := h.ep i hi; omega }

theorem getD_set_same (l : List Pr) (i : Nat) (p : Pr) (hi : i < l.length) : (l.set i p).getD i Pr.none = p := by
  simp [List.getD, hi]
theorem getD_set_other (l : List Pr) (i j : Nat) (p : Pr) (hij : j ≠ i) : (l.set i p).getD j Pr.none = l.getD j Pr.none := by
  simp [List.getD, List.getElem?_set, show ¬ i = j from fun e => hij e.symm]
theorem cells_set (l : List Pr) (i : Nat) (p : Pr) (hi : i < l.length) (hx : p.x = (l.getD i Pr.none).x) (hy : p.y = (l.getD i Pr.none).y) : (l.set i p).flatMap Pr.cells = l.flatMap Pr.cells := by
  induction l generalizing i with
  | nil => simp at hi
  | cons q l ih =>
    cases i with
    | zero =>
      simp only [List.set_cons_zero, List.flatMap_cons]
      have e : p.cells = q.cells := by
        unfold Pr.cells
        rw [hx, hy]; rfl
      rw [e]
    | succ i =>
      simp only [List.set_cons_succ, List.flatMap_cons]
      rw [ih i (by simpa using hi) hx hy]

/-- One call on a pair leaves all others. -/
theorem WInv.turn (h : WInv w B wb ps va T) (i : Nat) (hi : i < ps.length) {d : Nat} {p' : Pr} (t : Turned d w w' B (ps.getD i Pr.none) p') : WInv w' B wb (ps.set i p') va (T + d) where
  lo := h.lo
  blk := (t.keeps.block _ (lt_of_block h.blk) (h.sw i hi)).trans h.blk
  own := by
    rw [cells_set ps i p' hi t.x t.y, List.length_set]
    exact t.keeps.owns h.own (fun k hk => h.sa i hi k hk)
  nwb := h.nwb
  ok := fun j hj => by
    rw [List.length_set] at hj
    by_cases e : j = i
    · subst e; rw [getD_set_same _ _ _ hi]; exact t.ok
    · rw [getD_set_other _ _ _ _ e]
      exact (h.ok j hj).keeps t.keeps (fun b hb => h.dis j i hj hi e b hb)
  dis := fun a b ha hb hab k hk hk2 => by
    rw [List.length_set] at ha hb
    by_cases e : a = i
    · subst e
      rw [getD_set_same _ _ _ hi] at hk
      rw [getD_set_other _ _ _ _ (fun e => hab e.symm)] at hk2
      rcases t.foot k hk with h1 | h1
      · exact h.dis a b hi hb hab k h1 hk2
      · have := ((h.ok b hb).lt hk2).2; omega
    · rw [getD_set_other _ _ _ _ e] at hk
      by_cases e2 : b = i
      · subst e2
        rw [getD_set_same _ _ _ hi] at hk2
        rcases t.foot k hk2 with h1 | h1
        · exact h.dis a b ha hi e k hk h1
        · have := ((h.ok a ha).lt hk).2; omega
      · rw [getD_set_other _ _ _ _ e2] at hk2
        exact h.dis a b ha hb hab k hk hk2
  sw := fun j hj hk => by
    rw [List.length_set] at hj
    by_cases e : j = i
    · subst e
      rw [getD_set_same _ _ _ hi] at hk
      rcases t.foot _ hk with h1 | h1
      · exact h.sw j hi h1
      · have := lt_of_block h.blk; omega
    · rw [getD_set_other _ _ _ _ e] at hk
      exact h.sw j hj hk
  sa := fun j hj k hv hk => by
    rw [List.length_set] at hj
    by_cases e : j = i
    · subst e
      rw [getD_set_same _ _ _ hi] at hk
      rcases t.foot _ hk with h1 | h1
      · exact h.sa j hi k hv h1
      · have := (h.own.lt k hv).2; omega
    · rw [getD_set_other _ _ _ _ e] at hk
      exact h.sa j hj k hv hk
  len := fun j hj => by
    rw [List.length_set] at hj
    by_cases e : j = i
    · subst e
      rw [getD_set_same _ _ _ hi]
      have := t.len
      have := h.len j hi
      omega
    · rw [getD_set_other _ _ _ _ e]
      have := h.len j hj
      omega
  ep := fun j hj => by
    rw [List.length_set] at hj
    by_cases e : j = i
    · subst e
      rw [getD_set_same _ _ _ hi]
      have := t.ep
      have := h.ep j hi
      omega
    · rw [getD_set_other _ _ _ _ e]
      have := h.ep j hj
      omega

theorem getD_snoc_old (l : List Pr) (p : Pr) (i : Nat) (hi : i < l.length) : (l ++ [p]).getD i Pr.none = l.getD i Pr.none := by
  simp [List.getD, List.getElem?_append_left hi]
theorem getD_snoc_new (l : List Pr) (p : Pr) : (l ++ [p]).getD l.length Pr.none = p := by
  simp [List.getD]

/-- One chain more. -/
theorem WInv.push (h : WInv w B wb ps va T) {p : Pr} (hp : PrOk w B p) {n0 : Nat} (hnew : ∀ k, PFoot p k → n0 ≤ k) (hold : ∀ k, k = wb ∨ va.ownBlock = some k ∨ (∃ i, i < ps.length ∧ PFoot (ps.getD i Pr.none) k) → k < n0) (hlen : p.r.book.length ≤ T) (hep : p.r.epoch ≤ (T : Int))
    {w1 : World} {o : Obj} {g cap : Nat} (hown : w1.ownsRow B 101 2 (.slice (some ⟨g, 0, .none⟩) (ps.length + 1) cap) (ps.length + 1) (ps.flatMap Pr.cells ++ p.cells)) (hg : (w.alloc o).grownBy w1 va.ownBlock) (hat : va.ownBlock = some g ∨ g = w.heap.size + 1) :
    WInv (w1.setCell ⟨wb, 0, .none⟩ (.slice (some ⟨g, 0, .none⟩) (ps.length + 1) cap)) B wb (ps ++ [p]) (.slice (some ⟨g, 0, .none⟩) (ps.length + 1) cap) T ∧ Below B w (w1.setCell ⟨wb, 0, .none⟩ (.slice (some ⟨g, 0, .none⟩) (ps.length + 1) cap)) ∧ w1.cell? ⟨wb, 0, .none⟩ = some va ∧ w1.frozen? ⟨wb, 0, .none⟩ = false := by
  have hwb := lt_of_block h.blk
  have k1 : Keeps (fun k => va.ownBlock = some k) w w1 := ((Keeps.refl _ w).alloc o).grown hg (fun k hk _ => hk)
  have kf : Keeps (fun k => k = wb ∨ va.ownBlock = some k) w (w1.setCell ⟨wb, 0, .none⟩ (.slice (some ⟨g, 0, .none⟩) (ps.length + 1) cap)) := (k1.mono (fun _ _ h => .inr h)).setCell ⟨wb, 0, .none⟩ _ (fun _ => .inl rfl)
  have b1 : w1.heap[wb]? = some (.cells #[va] 82 (0, 0)) := (k1.block wb hwb h.nwb).trans h.blk
  have hgw : g ≠ wb := by
    rcases hat with h1 | h1
    · intro e; exact h.nwb (by rw [h1, e])
    · omega
  have farO : ∀ i, i < ps.length → ∀ b, PFoot (ps.getD i Pr.none) b → ¬ (b = wb ∨ va.ownBlock = some b) := by
    rintro i hi b hb (rfl | hv)
    · exact h.sw i hi hb
    · exact h.sa i hi b hv hb
  have farN : ∀ b, PFoot p b → ¬ (b = wb ∨ va.ownBlock = some b) := by
    rintro b hb hh
    have := hnew b hb
    have := hold b (hh.elim .inl (fun e => .inr (.inl e)))
    omega
  refine ⟨⟨h.lo, ?_, ?_, ?_, ?_, ?_, ?_, ?_, ?_, ?_⟩, kf.below (B := B) (Nat.le_trans h.lo (Nat.le_of_lt hwb)) ?_, cell_of_row w1 wb 0 _ _ _ b1, frozen_of_row w1 wb 0 _ _ b1⟩
  · exact heap_setCell_same w1 wb 0 _ _ _ b1
  · rw [List.flatMap_append, List.length_append]
    refine own_setCell ?_ _ _ (by simp only [Value.ownBlock, ne_eq, Option.some.injEq]; exact hgw)
    simpa using hown
  · simp only [Value.ownBlock, ne_eq, Option.some.injEq]; exact hgw
  · intro i hi
    rw [List.length_append] at hi
    by_cases e : i < ps.length
    · rw [getD_snoc_old _ _ _ e]; exact (h.ok i e).keeps kf (farO i e)
    · obtain rfl : i = ps.length := by simp at hi; omega
      rw [getD_snoc_new]; exact hp.keeps kf farN
  · intro i j hi hj hij k hk hk2
    rw [List.length_append] at hi hj
    simp only [List.length_singleton] at hi hj
    by_cases e : i < ps.length
    · rw [getD_snoc_old _ _ _ e] at hk
      by_cases e2 : j < ps.length
      · rw [getD_snoc_old _ _ _ e2] at hk2
        exact h.dis i j e e2 hij k hk hk2
      · obtain rfl : j = ps.length := by omega
        rw [getD_snoc_new] at hk2
        have := hnew k hk2
        have := hold k (.inr (.inr ⟨i, e, hk⟩))
        omega
    · obtain rfl : i = ps.length := by omega
      rw [getD_snoc_new] at hk
      have e2 : j < ps.length := by omega
      rw [getD_snoc_old _ _ _ e2] at hk2
      have := hnew k hk
      have := hold k (.inr (.inr ⟨j, e2, hk2⟩))
      omega
  · intro i hi hk
    rw [List.length_append] at hi
    by_cases e : i < ps.length
    · rw [getD_snoc_old _ _ _ e] at hk; exact h.sw i e hk
    · obtain rfl : i = ps.length := by simp at hi; omega
      rw [getD_snoc_new] at hk
      exact farN wb hk (.inl rfl)
  · intro i hi k hv hk
    simp only [Value.ownBlock, Option.some.injEq] at hv
    subst hv
    rw [List.length_append] at hi
    by_cases e : i < ps.length
    · rw [getD_snoc_old _ _ _ e] at hk
      rcases hat with h1 | h1
      · exact h.sa i e _ h1 hk
      · have := ((h.ok i e).lt hk).2; omega
    · obtain rfl : i = ps.length := by simp at hi; omega
      rw [getD_snoc_new] at hk
      rcases hat with h1 | h1
      · exact farN _ hk (.inr h1)
      · have := (hp.lt hk).2; omega
  · intro i hi
    rw [List.length_append] at hi
    by_cases e : i < ps.length
    · rw [getD_snoc_old _ _ _ e]; exact h.len i e
    · obtain rfl : i = ps.length := by simp at hi; omega
      rw [getD_snoc_new]; exact hlen
  · intro i hi
    rw [List.length_append] at hi
    by_cases e : i < ps.length
    · rw [getD_snoc_old _ _ _ e]; exact h.ep i e
    · obtain rfl : i = ps.length := by simp at hi; omega
      rw [getD_snoc_new]; exact hep
  · rintro i (rfl | hv)
    · exact h.lo
    · exact (h.own.lt i hv).1
end
end Go.Proofs.Ytiokecadnmcpeab
