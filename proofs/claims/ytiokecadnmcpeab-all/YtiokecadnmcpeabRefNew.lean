import Derived.Test.YtiokecadnmcpeabRefM
import Derived.Deep.OwnRows
namespace Go.Proofs.Ytiokecadnmcpeab
set_option linter.unusedVariables false
set_option linter.unusedSimpArgs false
open Go.ChangeShapes Go.WideShapes Go.ChangeAt Go.RowKit

set_option maxHeartbeats 1600000 in
theorem rnew_no (s d r c le ne : Int) (a : Option Addr) (cap : Nat) (l : List Int) (w : World) (hl : Ints w a l) (hm : l.length * 8 ≤ 140737488351232) (hn : ¬ (NumFit s d r c le ne ∧ StartFit l)) :
    Calls Try.prog 75 #[.agg #[.int .i64 s, .int .i64 d, .int .i64 r, .int .i64 c, .int .i64 le, .int .i64 ne, .slice a l.length cap]] w fun e w' => e = .returned (.tuple #[.pointer none, .int .i64 1]) ∧ Below w.heap.size w w' := by
  have Hn : Hid (¬ (NumFit s d r c le ne ∧ StartFit l)) := hn
  clear hn
  have hb0 := (Below.refl w.heap.size w).alloc (Nat.le_refl _) (.cells #[.int .i64 s, .int .i64 d, .int .i64 r, .int .i64 c, .int .i64 le, .int .i64 ne, .slice a l.length cap] 115)
  have hl0 := hl.below hb0
  go_enter Try.func75, Try.ntmps75
  go_wp2_with fail
  refine (rmay_no s d r c le ne a cap l _ hl0 hm Hn.out).mono ?_
  rintro e w1 ⟨rfl, b1⟩
  have hb : Below w.heap.size w w1 := hb0.trans (b1.mono hb0.size)
  clear b1 hl0 hb0
  go_wp2_with fail
  go_ret2
  exact ⟨rfl, hb⟩

def startBook (l : List Int) (k : Nat) : List Mv := (List.range k).map fun (i : Nat) => ⟨0, 0, 0, 1, (i : Int), 0, l.getD i 0⟩
theorem startBook_succ (l : List Int) (k : Nat) : startBook l (k + 1) = startBook l k ++ [⟨0, 0, 0, 1, k, 0, l.getD k 0⟩] := by
  simp [startBook, List.range_succ]
theorem startBook_length (l : List Int) (k : Nat) : (startBook l k).length = k := by simp [startBook]

def rs0 (s d r c le ne : Int) (l : List Int) (n k : Nat) : RS := ⟨s, d, r, c, le, ne, l.length, startBook l n, List.replicate k 0, List.replicate k 0, 0, 0, [], [], List.replicate k false⟩

theorem RC.lower {w : World} {B C y : Nat} {r : RS} {v : Nat → Value} (h : RC w B y r v) (hC : C ≤ B) : RC w C y r v := by
  have low : ∀ {e size n : Nat} {x : Value} {xs : List Value}, w.ownsRow B e size x n xs → w.ownsRow C e size x n xs := by
    intro e size n x xs ho
    refine ⟨ho.1, ?_⟩
    rcases ho.2 with hn | ⟨g, cap, cur, e1, hb, rest⟩
    · exact .inl hn
    · exact .inr ⟨g, cap, cur, e1, Nat.le_trans hC hb, rest⟩
  exact { h with lo := Nat.le_trans hC h.lo, book := low h.book, bids := low h.bids, has := low h.has, row := low h.row, made := low h.made, cheat := low h.cheat }

theorem app_bids {w w1 : World} {o : Obj} {B y n g cap : Nat} {r : RS} {v : Nat → Value} {x : Int} (h : RC w B y r v) (hidx : w.cell? ⟨y, 9, none⟩ = some (v 1)) (hown : w1.ownsRow B 3 1 (.slice (some ⟨g, 0, none⟩) (n + 1) cap) (n + 1) (List.replicate n (Value.int .i64 x) ++ [.int .i64 x])) (hg : (w.alloc o).grownBy w1 (v 1).ownBlock) (hat : (v 1).ownBlock = some g ∨ g = w.heap.size + 1) :
    RC (w1.setCell ⟨y, 9, none⟩ (.slice (some ⟨g, 0, none⟩) (n + 1) cap)) B y { r with bids := List.replicate (n + 1) x } (upd v 1 (.slice (some ⟨g, 0, none⟩) (n + 1) cap)) ∧ Keeps (RFoot y v) w (w1.setCell ⟨y, 9, none⟩ (.slice (some ⟨g, 0, none⟩) (n + 1) cap)) ∧
      w1.cell? ⟨y, 9, none⟩ = some (v 1) ∧ w1.frozen? ⟨y, 9, none⟩ = false ∧ (∀ j, j < 16 → w1.cell? ⟨y, j, none⟩ = (rcCells r v)[j]?) := by
  obtain ⟨t, ho, hc, hf⟩ := turn_of_append h (i := 1) (idx := 9) (by omega) hidx hown hg hat
  refine ⟨h.turn_bids t ?_, (t.foot (by omega) h).1, (hc _).trans hidx, (hf _).trans (h.frozen _), fun j hj => (hc j).trans (h.cells j hj)⟩
  simpa [List.replicate_succ'] using ho
theorem app_has {w w1 : World} {o : Obj} {B y n g cap : Nat} {r : RS} {v : Nat → Value} {x : Int} (h : RC w B y r v) (hidx : w.cell? ⟨y, 10, none⟩ = some (v 2)) (hown : w1.ownsRow B 3 1 (.slice (some ⟨g, 0, none⟩) (n + 1) cap) (n + 1) (List.replicate n (Value.int .i64 x) ++ [.int .i64 x])) (hg : (w.alloc o).grownBy w1 (v 2).ownBlock) (hat : (v 2).ownBlock = some g ∨ g = w.heap.size + 1) :
    RC (w1.setCell ⟨y, 10, none⟩ (.slice (some ⟨g, 0, none⟩) (n + 1) cap)) B y { r with has := List.replicate (n + 1) x } (upd v 2 (.slice (some ⟨g, 0, none⟩) (n + 1) cap)) ∧ Keeps (RFoot y v) w (w1.setCell ⟨y, 10, none⟩ (.slice (some ⟨g, 0, none⟩) (n + 1) cap)) ∧
      w1.cell? ⟨y, 10, none⟩ = some (v 2) ∧ w1.frozen? ⟨y, 10, none⟩ = false ∧ (∀ j, j < 16 → w1.cell? ⟨y, j, none⟩ = (rcCells r v)[j]?) := by
  obtain ⟨t, ho, hc, hf⟩ := turn_of_append h (i := 2) (idx := 10) (by omega) hidx hown hg hat
  refine ⟨h.turn_has t ?_, (t.foot (by omega) h).1, (hc _).trans hidx, (hf _).trans (h.frozen _), fun j hj => (hc j).trans (h.cells j hj)⟩
  simpa [List.replicate_succ'] using ho
theorem app_cheat {w w1 : World} {o : Obj} {B y n g cap : Nat} {r : RS} {v : Nat → Value} {x : Bool} (h : RC w B y r v) (hidx : w.cell? ⟨y, 15, none⟩ = some (v 5)) (hown : w1.ownsRow B 4 1 (.slice (some ⟨g, 0, none⟩) (n + 1) cap) (n + 1) (List.replicate n (Value.bool x) ++ [.bool x])) (hg : (w.alloc o).grownBy w1 (v 5).ownBlock) (hat : (v 5).ownBlock = some g ∨ g = w.heap.size + 1) :
    RC (w1.setCell ⟨y, 15, none⟩ (.slice (some ⟨g, 0, none⟩) (n + 1) cap)) B y { r with cheat := List.replicate (n + 1) x } (upd v 5 (.slice (some ⟨g, 0, none⟩) (n + 1) cap)) ∧ Keeps (RFoot y v) w (w1.setCell ⟨y, 15, none⟩ (.slice (some ⟨g, 0, none⟩) (n + 1) cap)) ∧
      w1.cell? ⟨y, 15, none⟩ = some (v 5) ∧ w1.frozen? ⟨y, 15, none⟩ = false ∧ (∀ j, j < 16 → w1.cell? ⟨y, j, none⟩ = (rcCells r v)[j]?) := by
  obtain ⟨t, ho, hc, hf⟩ := turn_of_append h (i := 5) (idx := 15) (by omega) hidx hown hg hat
  refine ⟨h.turn_cheat t ?_, (t.foot (by omega) h).1, (hc _).trans hidx, (hf _).trans (h.frozen _), fun j hj => (hc j).trans (h.cells j hj)⟩
  simpa [List.replicate_succ'] using ho
theorem own_rep_int {w : World} {B k : Nat} {x : Value} (h : w.ownsRow B 3 1 x (List.replicate k (0 : Int)).length ((List.replicate k (0 : Int)).map (Value.int .i64))) : w.ownsRow B 3 1 x k (List.replicate k (.int .i64 0)) := by simpa using h
theorem own_rep_bool {w : World} {B k : Nat} {x : Value} (h : w.ownsRow B 4 1 x (List.replicate k false).length ((List.replicate k false).map Value.bool)) : w.ownsRow B 4 1 x k (List.replicate k (.bool false)) := by simpa using h

theorem RC.cast {w : World} {B y : Nat} {r r' : RS} {v : Nat → Value} (h : RC w B y r v) (e : r = r') : RC w B y r' v := by rw [← e]; exact h

theorem rnew_round {a b c d w : World} {h y : Nat} {r1 r2 r3 : RS} {v1 v2 v3 : Nat → Value} {o : Obj} (R1 : RC a (h + 1) y r1 v1) (K1 : Keeps (RFoot y v1) a b) (R2 : RC b (h + 1) y r2 v2) (K2 : Keeps (RFoot y v2) b c) (R3 : RC c (h + 1) y r3 v3) (K3 : Keeps (RFoot y v3) c d)
    (hc : a.heap[h]? = some o) (hB : Below h w a) : d.heap[h]? = some o ∧ Below h w d := by
  have n1 : ∀ k, k ≤ h → ¬ RFoot y v1 k := fun k hk hf => by have := (R1.lt hf).1; omega
  have n2 : ∀ k, k ≤ h → ¬ RFoot y v2 k := fun k hk hf => by have := (R2.lt hf).1; omega
  have n3 : ∀ k, k ≤ h → ¬ RFoot y v3 k := fun k hk hf => by have := (R3.lt hf).1; omega
  have ha : h < a.heap.size := lt_of_block hc
  have hb : h < b.heap.size := Nat.lt_of_lt_of_le ha K1.size
  have hcc : h < c.heap.size := Nat.lt_of_lt_of_le hb K2.size
  refine ⟨?_, ?_⟩
  · rw [K3.block h hcc (n3 h (Nat.le_refl _)), K2.block h hb (n2 h (Nat.le_refl _)), K1.block h ha (n1 h (Nat.le_refl _))]; exact hc
  · refine hB.trans (((K1.below (B := h) (by omega) ?_).trans (K2.below (B := h) (by omega) ?_)).trans (K3.below (B := h) (by omega) ?_))
    · intro i hi; have := (R1.lt hi).1; omega
    · intro i hi; have := (R2.lt hi).1; omega
    · intro i hi; have := (R3.lt hi).1; omega

theorem RC.set6 {w : World} {B y : Nat} {r : RS} {v : Nat → Value} (h : RC w B y r v) (u : Value) : RC (w.setCell ⟨y, 6, none⟩ u) B y r (upd v 6 u) := by
  have kk : Keeps (fun k => k = y) w (w.setCell ⟨y, 6, none⟩ u) := (Keeps.refl (fun k => k = y) w).setCell ⟨y, 6, none⟩ u (fun _ => rfl)
  have far : ∀ i, i < 6 → ∀ k, (v i).ownBlock = some k → ¬ k = y := fun i hi k hk e => h.ny i hi (by rw [hk, e])
  exact {
    lo := h.lo
    cells := fun j hj => by
      by_cases e : j = 6
      · subst e; exact World.cell?_setCell_same _ _ _ (h.cells 6 (by omega))
      · rw [World.cell?_setCell_other _ _ _ _ (by intro e2; simp only [Addr.mk.injEq] at e2; omega), h.cells j hj]
        rcases (show j = 0 ∨ j = 1 ∨ j = 2 ∨ j = 3 ∨ j = 4 ∨ j = 5 ∨ j = 7 ∨ j = 8 ∨ j = 9 ∨ j = 10 ∨ j = 11 ∨ j = 12 ∨ j = 13 ∨ j = 14 ∨ j = 15 by omega) with rfl | rfl | rfl | rfl | rfl | rfl | rfl | rfl | rfl | rfl | rfl | rfl | rfl | rfl | rfl <;> rfl
    frozen := fun j => by rw [World.frozen?_setCell]; exact h.frozen j
    book := kk.owns h.book (far 0 (by omega))
    bids := kk.owns h.bids (far 1 (by omega))
    has := kk.owns h.has (far 2 (by omega))
    row := kk.owns h.row (far 3 (by omega))
    made := kk.owns h.made (far 4 (by omega))
    cheat := kk.owns h.cheat (far 5 (by omega))
    ny := fun i hi => by rw [upd_other _ _ _ (by omega)]; exact h.ny i hi
    dist := fun i j hi hj hij k hk => by
      rw [upd_other _ _ _ (by omega)] at hk
      rw [upd_other _ _ _ (by omega)]
      exact h.dist i j hi hj hij k hk
    lbook := h.lbook }

theorem made_toList (n : Nat) : (madeCells #[Value.bool false] n).toList = List.replicate n (.bool false) := toList_madeCells_one _ _

/-- Made, anew. -/
theorem RC.make {w : World} {B y : Nat} {r : RS} {v : Nat → Value} (h : RC w B y r v) (n : Nat) (hn : n ≤ maxLen) :
    RC ((w.alloc (.cells (madeCells #[.bool false] n) 4)).setCell ⟨y, 14, none⟩ (.slice (some ⟨w.heap.size, 0, none⟩) n n)) B y { r with made := List.replicate n false } (upd v 4 (.slice (some ⟨w.heap.size, 0, none⟩) n n)) ∧
      Keeps (RFoot y v) w ((w.alloc (.cells (madeCells #[.bool false] n) 4)).setCell ⟨y, 14, none⟩ (.slice (some ⟨w.heap.size, 0, none⟩) n n)) ∧ ∀ k, RFoot y (upd v 4 (.slice (some ⟨w.heap.size, 0, none⟩) n n)) k → RFoot y v k ∨ w.heap.size ≤ k := by
  have hyb := h.lt (.inl rfl)
  have hyA : ∀ j, (w.alloc (.cells (madeCells #[.bool false] n) 4)).cell? ⟨y, j, none⟩ = w.cell? ⟨y, j, none⟩ := fun j => World.cell?_alloc_past _ _ _ hyb.2
  have t : Turn w ((w.alloc (.cells (madeCells #[.bool false] n) 4)).setCell ⟨y, 14, none⟩ (.slice (some ⟨w.heap.size, 0, none⟩) n n)) y v 4 14 (.slice (some ⟨w.heap.size, 0, none⟩) n n) := by
    refine ⟨((Keeps.refl _ w).alloc _).setCell _ _ (fun _ => .inl rfl), ?_, ?_, setCell_same ((hyA 14).trans (h.cells 14 (by omega))), fun j hj => ?_, fun j => ?_⟩
    · intro g hg
      simp only [Value.ownBlock, Option.some.injEq] at hg
      exact .inr (by omega)
    · simp only [Value.ownBlock, ne_eq, Option.some.injEq]; omega
    · rw [← hyA j]
      exact World.cell?_setCell_other _ _ _ _ (by intro e2; simp only [Addr.mk.injEq] at e2; omega)
    · rw [World.frozen?_setCell]
      exact ((Below.refl w.heap.size w).alloc (Nat.le_refl _) _).frozen (p := ⟨y, j, none⟩) hyb.2
  refine ⟨h.turn_made t ?_, t.foot (by omega) h⟩
  refine own_setCell ?_ _ _ (by simp only [Value.ownBlock, ne_eq, Option.some.injEq]; omega)
  refine ⟨by simp, .inr ⟨w.heap.size, n, madeCells #[.bool false] n, by simp, Nat.le_trans h.lo (Nat.le_of_lt hyb.2), heap_alloc_new w _, by simp, hn, ?_, ?_⟩⟩
  · have := congrArg List.length (made_toList n)
    simpa using this
  · rw [made_toList]; simp

theorem Try.info_bool : (Try.prog.info? 4).map (fun i => (i.zero, i.size, i.bytes)) = some (some (.bool false), 1, 1) := by kernel_rfl

theorem rc_start {w1 : World} {B : Nat} (s d r c le ne : Int) (l : List Int) (st : Value) (hB : B ≤ w1.heap.size) :
    RC (w1.alloc (.cells #[.int .i64 s, .int .i64 d, .int .i64 r, .int .i64 c, .int .i64 le, .int .i64 ne, st, .int .i64 l.length, .slice none 0 0, .slice none 0 0, .slice none 0 0, .int .i64 0, .int .i64 0, .slice none 0 0, .slice none 0 0, .slice none 0 0] 128)) B w1.heap.size (rs0 s d r c le ne l 0 0) (upd (fun _ => .slice none 0 0) 6 st) where
  lo := hB
  cells := fun j hj => by
    rw [World.cell?_alloc_at _ _ _ _ rfl]
    rcases (show j = 0 ∨ j = 1 ∨ j = 2 ∨ j = 3 ∨ j = 4 ∨ j = 5 ∨ j = 6 ∨ j = 7 ∨ j = 8 ∨ j = 9 ∨ j = 10 ∨ j = 11 ∨ j = 12 ∨ j = 13 ∨ j = 14 ∨ j = 15 by omega) with rfl | rfl | rfl | rfl | rfl | rfl | rfl | rfl | rfl | rfl | rfl | rfl | rfl | rfl | rfl | rfl <;> rfl
  frozen := fun j => World.frozen?_alloc_at _ _ _ _ rfl
  book := World.ownsRow_nil _ _ _ _
  bids := World.ownsRow_nil _ _ _ _
  has := World.ownsRow_nil _ _ _ _
  row := World.ownsRow_nil _ _ _ _
  made := World.ownsRow_nil _ _ _ _
  cheat := World.ownsRow_nil _ _ _ _
  ny := fun i hi => by rw [upd_other _ _ _ (by omega)]; simp [Value.ownBlock]
  dist := fun i j hi hj _ k hk => by rw [upd_other _ _ _ (by omega)] at hk; simp [Value.ownBlock] at hk
  lbook := by simp [rs0, startBook]

set_option maxHeartbeats 3200000 in
set_option maxRecDepth 1000000 in
theorem rnew_yes (s d r c : Int) (le : Nat) (ne : Int) (a : Option Addr) (cap : Nat) (l : List Int) (w : World) (hl : Ints w a l) (hm : l.length * 8 ≤ 140737488351232) (hn : NumFit s d r c le ne) (hs : StartFit l) :
    Calls Try.prog 75 #[.agg #[.int .i64 s, .int .i64 d, .int .i64 r, .int .i64 c, .int .i64 le, .int .i64 ne, .slice a l.length cap]] w fun e w' => ∃ y v, e = .returned (.tuple #[.pointer (some ⟨y, 0, none⟩), .int .i64 0]) ∧ RC w' w.heap.size y ⟨s, d, r, c, le, ne, l.length, startBook l l.length, List.replicate (l.length + 1) 0, List.replicate (l.length + 1) 0, 0, 0, [], List.replicate le false, List.replicate (l.length + 1) false⟩ v ∧ Below w.heap.size w w' := by
  have Hn : Hid (NumFit s d r c le ne) := hn
  have Hs : Hid (StartFit l) := hs
  have hlen6 : l.length ≤ 6 := hs.1.2
  have hle1 : 1 ≤ le := by have := hn.2.2.2.2.1.1; omega
  have hle2 : le ≤ 20 := by have := hn.2.2.2.2.1.2; omega
  have hmk := run_make_row' (P := Try.prog) 126 4 (.bool false) 1 Try.underlying126 Try.info_bool rfl .i64 .i64 le (by omega) (by omega)
  clear hn hs
  have hb0 := (Below.refl w.heap.size w).alloc (Nat.le_refl _) (.cells #[.int .i64 s, .int .i64 d, .int .i64 r, .int .i64 c, .int .i64 le, .int .i64 ne, .slice a l.length cap] 115)
  have hl0 := hl.below hb0
  go_enter Try.func75, Try.ntmps75
  go_wp2_with fail
  refine (rmay_yes s d r c le ne a cap l _ hl0 hm Hn.out Hs.out).mono ?_
  rintro e w1 ⟨rfl, b1⟩
  have hb : Below w.heap.size w w1 := hb0.trans (b1.mono hb0.size)
  have cfg : w1.heap[w.heap.size]? = some (.cells #[.int .i64 s, .int .i64 d, .int .i64 r, .int .i64 c, .int .i64 le, .int .i64 ne, .slice a l.length cap] 115 (0, 0)) := (b1.block w.heap.size (by simp)).trans (heap_alloc_new w _)
  have q0 : w1.cell? ⟨w.heap.size, 0, none⟩ = some (.int .i64 s) := cell_of_row w1 _ 0 _ _ _ cfg
  have q1 : w1.cell? ⟨w.heap.size, 1, none⟩ = some (.int .i64 d) := cell_of_row w1 _ 1 _ _ _ cfg
  have q2 : w1.cell? ⟨w.heap.size, 2, none⟩ = some (.int .i64 r) := cell_of_row w1 _ 2 _ _ _ cfg
  have q3 : w1.cell? ⟨w.heap.size, 3, none⟩ = some (.int .i64 c) := cell_of_row w1 _ 3 _ _ _ cfg
  have q4 : w1.cell? ⟨w.heap.size, 4, none⟩ = some (.int .i64 le) := cell_of_row w1 _ 4 _ _ _ cfg
  have q5 : w1.cell? ⟨w.heap.size, 5, none⟩ = some (.int .i64 ne) := cell_of_row w1 _ 5 _ _ _ cfg
  have q6 : w1.cell? ⟨w.heap.size, 6, none⟩ = some (.slice a l.length cap) := cell_of_row w1 _ 6 _ _ _ cfg
  have Hcfg : Hid _ := cfg
  clear b1 hl0 hb0 cfg
  have hs0 := rc_start (w1 := w1) (B := w.heap.size + 1) s d r c le ne l (.slice a l.length cap) (lt_of_block Hcfg.out)
  have hb1 : ∀ o, Below w.heap.size w (w1.alloc o) := fun o => hb.alloc hb.size o
  have cfg1 : ∀ o, (w1.alloc o).heap[w.heap.size]? = _ := fun o => (Below.heap_alloc w1 o _ (lt_of_block Hcfg.out)).trans Hcfg.out
  have Hs0 : Hid _ := hs0
  have Hcfg1 : Hid _ := cfg1
  have Hb1 : Hid _ := hb1
  obtain ⟨i0, hi, hz0, hz1, hz2⟩ := info_parts Try.info_int
  obtain ⟨j0, hj, hy0, hy1, hy2⟩ := info_parts Try.info_bool
  clear hs0 cfg1 hb1
  go_wp2_with fail
  generalize hyy : w1.heap.size = y at *
  clear hyy
  go_loopw [6] (fun i wr => ∃ k : Nat, k ≤ l.length + 1 ∧ i = .int .i64 k ∧ ∃ v, RC wr (w.heap.size + 1) y (rs0 s d r c le ne l (min k l.length) k) v ∧ wr.heap[w.heap.size]? = some (.cells #[.int .i64 s, .int .i64 d, .int .i64 r, .int .i64 c, .int .i64 le, .int .i64 ne, .slice a l.length cap] 115 (0, 0)) ∧ Below w.heap.size w wr) (fun i _ => l.length + 1 - (intOf i).toNat)
  case atStart => exact ⟨0, by omega, rfl, _, Hs0.out.cast (by simp), Hcfg1.out _, Hb1.out _⟩
  case round =>
    obtain ⟨k, hk, rfl, v, hR, hcfg, hB⟩ := hrel
    have cN : wr.cell? ⟨y, 7, none⟩ = some (.int .i64 l.length) := hR.cells 7 (by omega)
    by_cases hlt : k < l.length + 1
    · by_cases hlt2 : k < l.length
      · obtain ⟨b, off, ha, hc⟩ := (hl.below hB).at hlt2
        subst ha
        have q6 : wr.cell? ⟨w.heap.size, 6, none⟩ = some (.slice (some ⟨b, off, none⟩) l.length cap) := cell_of_row wr _ 6 _ _ _ hcfg
        have HX : Hid (startBook l (k + 1) = startBook l k ++ [⟨0, 0, 0, 1, k, 0, l.getD k 0⟩]) := startBook_succ l k
        generalize l.getD k 0 = q at *
        have hmin : min k l.length = k := by omega
        rw [hmin] at hR
        go_wp2_with fail
        refine (rmove hR ⟨0, 0, 0, 1, k, 0, q⟩ (by simp [rs0, startBook_length]; omega) (by have := lt_of_block hcfg; omega)).mono ?_
        rintro e w2 ⟨rfl, vb, hR2, hK2, hF2⟩
        have hcfg2 : w2.heap[w.heap.size]? = _ := (hK2.block w.heap.size (lt_of_block hcfg) (fun hf => by have := (hR.lt hf).1; omega)).trans hcfg
        have hB2 : Below w.heap.size w w2 := hB.trans (hK2.below (B := w.heap.size) hB.size (fun i hi => by have := (hR.lt hi).1; omega))
        have Hcfg2 : Hid _ := hcfg2
        clear hcfg2 hR hcfg hB cN q6 hc hK2 hF2
        generalize upd v 0 vb = v2 at *
        have hz2w : w.heap.size + 1 ≤ w2.heap.size := lt_of_block Hcfg2.out
        have s9 : w2.cell? ⟨y, 9, none⟩ = some (v2 1) := hR2.cells 9 (by omega)
        have o9 : Hid (w2.ownsRow (w.heap.size + 1) 3 1 (v2 1) k (List.replicate k (.int .i64 0))) := own_rep_int hR2.bids
        replace hR2 : Hid _ := hR2
        go_wp2_with (first | (at_builtin; refine wpList_append_lies _ rfl (.tmp 45) (.tmp 46) 22 rfl (w.heap.size + 1) 3 i0 (.int .i64 0) 1 8 Try.underlying22 hi hz0 hz1 hz2 rfl (by decide) (v2 1) k _ rfl (o9.out.alloc _) ⟨w2.heap.size, 0, none⟩ 1 1 [.int .i64 0] rfl rfl (one_lies' _ _ _ _ (by simp)) (by intro u hu; simp at hu; subst hu; rfl) (by decide) (by unfold maxLen; omega) (by omega) (by simp; omega) (w2.heap.size + 1) (by simp) ?_; intro g1 cp1 w3 o1 hg1 ha1 hl1; (have P1 := app_bids hR2.out s9 o1 hg1 ha1; have R3 : Hid _ := P1.1; have K3 : Hid _ := P1.2.1; have e9 := P1.2.2.1; have f9 := P1.2.2.2.1; have s10 : w3.cell? ⟨y, 10, none⟩ = some (v2 2) := P1.2.2.2.2 10 (by omega); have o10 : Hid ((w3.setCell ⟨y, 9, none⟩ (.slice (some ⟨g1, 0, none⟩) (k + 1) cp1)).ownsRow (w.heap.size + 1) 3 1 (v2 2) k (List.replicate k (.int .i64 0))) := own_rep_int P1.1.has; have hz3 : w.heap.size + 1 ≤ w3.heap.size := (by have := hg1.size; simp at this; omega); clear P1 o1 hg1 ha1 hl1; have s10' : (w3.setCell ⟨y, 9, none⟩ (.slice (some ⟨g1, 0, none⟩) (k + 1) cp1)).cell? ⟨y, 10, none⟩ = some (v2 2) := R3.out.cells 10 (by omega))) | (at_builtin; refine wpList_append_lies _ rfl (.tmp 54) (.tmp 55) 22 rfl (w.heap.size + 1) 3 i0 (.int .i64 0) 1 8 Try.underlying22 hi hz0 hz1 hz2 rfl (by decide) (v2 2) k _ rfl (o10.out.alloc _) ⟨w3.heap.size, 0, none⟩ 1 1 [.int .i64 0] rfl rfl (one_lies' _ _ _ _ (by simp)) (by intro u hu; simp at hu; subst hu; rfl) (by decide) (by unfold maxLen; omega) (by omega) (by simp; omega) (w3.heap.size + 1) (by simp) ?_; intro g2 cp2 w4 o2 hg2 ha2 hl2; (have P2 := app_has R3.out s10' o2 hg2 (by simpa [upd] using ha2); have R4 : Hid _ := P2.1; have K4 : Hid _ := P2.2.1; have e10 := P2.2.2.1; have f10 := P2.2.2.2.1; have s15 : w4.cell? ⟨y, 15, none⟩ = some (v2 5) := P2.2.2.2.2 15 (by omega); have o15 : Hid ((w4.setCell ⟨y, 10, none⟩ (.slice (some ⟨g2, 0, none⟩) (k + 1) cp2)).ownsRow (w.heap.size + 1) 4 1 (v2 5) k (List.replicate k (.bool false))) := own_rep_bool P2.1.cheat; have hz4 : w.heap.size + 1 ≤ w4.heap.size := (by have := hg2.size; simp at this; omega); clear P2 o2 hg2 ha2 hl2; have s15' : (w4.setCell ⟨y, 10, none⟩ (.slice (some ⟨g2, 0, none⟩) (k + 1) cp2)).cell? ⟨y, 15, none⟩ = some (v2 5) := R4.out.cells 15 (by omega))) | (at_builtin; refine wpList_append_lies _ rfl (.tmp 63) (.tmp 64) 126 rfl (w.heap.size + 1) 4 j0 (.bool false) 1 1 Try.underlying126 hj hy0 hy1 hy2 rfl (by decide) (v2 5) k _ rfl (o15.out.alloc _) ⟨w4.heap.size, 0, none⟩ 1 1 [.bool false] rfl rfl (one_lies' _ _ _ _ (by simp)) (by intro u hu; simp at hu; subst hu; rfl) (by decide) (by unfold maxLen; omega) (by omega) (by simp; omega) (w4.heap.size + 1) (by simp) ?_; intro g3 cp3 w5 o3 hg3 ha3 hl3; (have P3 := app_cheat R4.out s15' o3 hg3 (by simpa [upd] using ha3); have R5 : Hid _ := P3.1; have K5 : Hid _ := P3.2.1; have e15 := P3.2.2.1; have f15 := P3.2.2.2.1; clear P3 o3 hg3 ha3 hl3)))
        have fin := rnew_round hR2.out K3.out R3.out K4.out R4.out K5.out Hcfg2.out hB2
        have cfg5 : Hid _ := fin.1
        have bel5 : Hid _ := fin.2
        clear fin
        go_roundw
        case rel => exact ⟨k + 1, by omega, by go_num, _, R5.out.cast (by simp [rs0, ← HX.out, show min (k + 1) l.length = k + 1 by omega]), cfg5.out, bel5.out⟩
        case measure => simp [intOf]; omega
      · rw [show min k l.length = l.length by omega] at hR
        have HcfgR : Hid _ := hcfg
        clear hcfg
        have hz2w : w.heap.size + 1 ≤ wr.heap.size := lt_of_block HcfgR.out
        have s9 : wr.cell? ⟨y, 9, none⟩ = some (v 1) := hR.cells 9 (by omega)
        have o9 : Hid (wr.ownsRow (w.heap.size + 1) 3 1 (v 1) k (List.replicate k (.int .i64 0))) := own_rep_int hR.bids
        replace hR : Hid _ := hR
        go_wp2_with (first | (at_builtin; refine wpList_append_lies _ rfl (.tmp 45) (.tmp 46) 22 rfl (w.heap.size + 1) 3 i0 (.int .i64 0) 1 8 Try.underlying22 hi hz0 hz1 hz2 rfl (by decide) (v 1) k _ rfl (o9.out.alloc _) ⟨wr.heap.size, 0, none⟩ 1 1 [.int .i64 0] rfl rfl (one_lies' _ _ _ _ (by simp)) (by intro u hu; simp at hu; subst hu; rfl) (by decide) (by unfold maxLen; omega) (by omega) (by simp; omega) (wr.heap.size + 1) (by simp) ?_; intro g1 cp1 w3 o1 hg1 ha1 hl1; (have P1 := app_bids hR.out s9 o1 hg1 ha1; have R3 : Hid _ := P1.1; have K3 : Hid _ := P1.2.1; have e9 := P1.2.2.1; have f9 := P1.2.2.2.1; have s10 : w3.cell? ⟨y, 10, none⟩ = some (v 2) := P1.2.2.2.2 10 (by omega); have o10 : Hid ((w3.setCell ⟨y, 9, none⟩ (.slice (some ⟨g1, 0, none⟩) (k + 1) cp1)).ownsRow (w.heap.size + 1) 3 1 (v 2) k (List.replicate k (.int .i64 0))) := own_rep_int P1.1.has; have hz3 : w.heap.size + 1 ≤ w3.heap.size := (by have := hg1.size; simp at this; omega); clear P1 o1 hg1 ha1 hl1; have s10' : (w3.setCell ⟨y, 9, none⟩ (.slice (some ⟨g1, 0, none⟩) (k + 1) cp1)).cell? ⟨y, 10, none⟩ = some (v 2) := R3.out.cells 10 (by omega))) | (at_builtin; refine wpList_append_lies _ rfl (.tmp 54) (.tmp 55) 22 rfl (w.heap.size + 1) 3 i0 (.int .i64 0) 1 8 Try.underlying22 hi hz0 hz1 hz2 rfl (by decide) (v 2) k _ rfl (o10.out.alloc _) ⟨w3.heap.size, 0, none⟩ 1 1 [.int .i64 0] rfl rfl (one_lies' _ _ _ _ (by simp)) (by intro u hu; simp at hu; subst hu; rfl) (by decide) (by unfold maxLen; omega) (by omega) (by simp; omega) (w3.heap.size + 1) (by simp) ?_; intro g2 cp2 w4 o2 hg2 ha2 hl2; (have P2 := app_has R3.out s10' o2 hg2 (by simpa [upd] using ha2); have R4 : Hid _ := P2.1; have K4 : Hid _ := P2.2.1; have e10 := P2.2.2.1; have f10 := P2.2.2.2.1; have s15 : w4.cell? ⟨y, 15, none⟩ = some (v 5) := P2.2.2.2.2 15 (by omega); have o15 : Hid ((w4.setCell ⟨y, 10, none⟩ (.slice (some ⟨g2, 0, none⟩) (k + 1) cp2)).ownsRow (w.heap.size + 1) 4 1 (v 5) k (List.replicate k (.bool false))) := own_rep_bool P2.1.cheat; have hz4 : w.heap.size + 1 ≤ w4.heap.size := (by have := hg2.size; simp at this; omega); clear P2 o2 hg2 ha2 hl2; have s15' : (w4.setCell ⟨y, 10, none⟩ (.slice (some ⟨g2, 0, none⟩) (k + 1) cp2)).cell? ⟨y, 15, none⟩ = some (v 5) := R4.out.cells 15 (by omega))) | (at_builtin; refine wpList_append_lies _ rfl (.tmp 63) (.tmp 64) 126 rfl (w.heap.size + 1) 4 j0 (.bool false) 1 1 Try.underlying126 hj hy0 hy1 hy2 rfl (by decide) (v 5) k _ rfl (o15.out.alloc _) ⟨w4.heap.size, 0, none⟩ 1 1 [.bool false] rfl rfl (one_lies' _ _ _ _ (by simp)) (by intro u hu; simp at hu; subst hu; rfl) (by decide) (by unfold maxLen; omega) (by omega) (by simp; omega) (w4.heap.size + 1) (by simp) ?_; intro g3 cp3 w5 o3 hg3 ha3 hl3; (have P3 := app_cheat R4.out s15' o3 hg3 (by simpa [upd] using ha3); have R5 : Hid _ := P3.1; have K5 : Hid _ := P3.2.1; have e15 := P3.2.2.1; have f15 := P3.2.2.2.1; clear P3 o3 hg3 ha3 hl3)))
        have fin := rnew_round hR.out K3.out R3.out K4.out R4.out K5.out HcfgR.out hB
        have cfg5 : Hid _ := fin.1
        have bel5 : Hid _ := fin.2
        clear fin
        go_roundw
        case rel => exact ⟨k + 1, by omega, by go_num, _, R5.out.cast (by simp [rs0, show min (k + 1) l.length = l.length by omega]), cfg5.out, bel5.out⟩
        case measure => simp [intOf]; omega
    · have hk2 : k = l.length + 1 := by omega
      subst hk2
      have hmin : min (l.length + 1) l.length = l.length := by omega
      rw [hmin] at hR
      have e6 : ∃ v6, wr.cell? ⟨y, 6, none⟩ = some v6 := ⟨_, hR.cells 6 (by omega)⟩
      obtain ⟨v6, e6⟩ := e6
      have f6 := hR.frozen 6
      have h4 : wr.cell? ⟨w.heap.size, 4, none⟩ = some (.int .i64 (le : Int)) := cell_of_row wr _ 4 _ _ _ hcfg
      have hyne : y ≠ w.heap.size := by have := hR.lo; omega
      have R6 := hR.set6 (.slice none 0 0)
      have P7 := R6.make le (by unfold maxLen; omega)
      have R7 : Hid _ := P7.1
      have e14 : wr.cell? ⟨y, 14, none⟩ = some (v 4) := hR.cells 14 (by omega)
      have f14 := hR.frozen 14
      have hyr : y < wr.heap.size := (hR.lt (.inl rfl)).2
      have e14' : ∀ o, (wr.alloc o).cell? ⟨y, 14, none⟩ = some (v 4) := fun o => by rw [World.cell?_alloc_past _ _ _ hyr]; exact e14
      have hbel : Hid (Below w.heap.size w ((((wr.setCell ⟨y, 6, none⟩ (.slice none 0 0)).alloc (.cells (madeCells #[.bool false] le) 4)).setCell ⟨y, 14, none⟩ (.slice (some ⟨(wr.setCell ⟨y, 6, none⟩ (.slice none 0 0)).heap.size, 0, none⟩) le le)))) := (((hB.setCell (p := ⟨y, 6, none⟩) (by have := hR.lo; show w.heap.size ≤ y; omega) _).alloc (by simpa using hB.size) _).setCell (p := ⟨y, 14, none⟩) (by have := hR.lo; show w.heap.size ≤ y; omega) _)
      clear P7 R6 hR
      have heq : ((wr.setCell ⟨y, 6, none⟩ (.slice none 0 0)).alloc (.cells (madeCells #[.bool false] le) 4)).setCell ⟨y, 14, none⟩ (.slice (some ⟨(wr.setCell ⟨y, 6, none⟩ (.slice none 0 0)).heap.size, 0, none⟩) le le) = ((wr.setCell ⟨y, 6, none⟩ (.slice none 0 0)).setCell ⟨y, 14, none⟩ (.slice (some ⟨wr.heap.size, 0, none⟩) le le)).alloc (.cells (madeCells #[.bool false] le) 4) := by
        rw [World.setCell_alloc_past _ _ _ _ (by simpa using hyr)]; simp
      rw [heq] at R7 hbel
      have hvr : (wr.setCell ⟨y, 6, none⟩ (.slice none 0 0)).heap.size = wr.heap.size := by simp
      rw [hvr] at R7
      clear heq hvr
      go_wp2_with fail
      go_ret2
      refine ⟨y, _, rfl, (R7.out.lower (Nat.le_succ _)).cast rfl, hbel.out⟩
end Go.Proofs.Ytiokecadnmcpeab
