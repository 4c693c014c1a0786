import Derived.Test.YtdfdjbhdgbbolaaRefSale
import Derived.Test.YtdfdjbhdgbbolaaRefDraw
import Derived.Deep.Cut
import Derived.Deep.OwnRows
namespace Go.Proofs.Ytdfdjbhdgbbolaa
set_option linter.unusedVariables false
set_option linter.unusedSimpArgs false
open Go.ChangeShapes Go.WideShapes Go.ChangeAt Go.RowKit

theorem Try.info_boolN : (Try.prog.info? 4).map (fun i => (i.zero, i.size, i.bytes)) = some (some (.bool false), 1, 1) := by kernel_rfl

/-- Who is sent away, of the accounts below k. -/
def RS.goneTo (r : RS) (k : Nat) : List Bool := (List.range k).map (fun a => r.lazy a || r.cheat.getD a false)
theorem RS.goneTo_len (r : RS) (k : Nat) : (r.goneTo k).length = k := by simp [RS.goneTo]
theorem RS.goneTo_snoc (r : RS) (k : Nat) : r.goneTo (k + 1) = r.goneTo k ++ [r.lazy k || r.cheat.getD k false] := by simp [RS.goneTo, List.range_succ]
def RS.gone (r : RS) : List Bool := r.goneTo (r.N + 1)

def RS.awayTo (r : RS) (g : List Bool) : Nat → RS
  | 0 => r
  | k + 1 => if g.getD k false = true then { (r.awayTo g k).push ⟨2, k, 0, 3, k, r.epoch + r.delay, allOf (r.awayTo g k).book 2 k⟩ with bids := (r.awayTo g k).bids.set k 0 } else r.awayTo g k
def RS.backTo (r : RS) : Nat → RS
  | 0 => r
  | k + 1 => (r.backTo k).push ⟨2, k, 0, 3, k, r.epoch + r.delay, allOf (r.backTo k).book 2 k - r.bids.getD k 0⟩

def RS.st3 (r : RS) : RS := r.money.awayTo r.gone (r.N + 1)
def RS.st4 (r : RS) : RS := r.st3.home
def RS.st5 (r : RS) : RS := r.st4.backTo r.N
/-- What Next makes of a chain. -/
def RS.next (r : RS) (seed : Int) : RS :=
  { r.st5.sale with row := drawOf r.st5.sale.has seed, epoch := r.epoch + 1, made := List.replicate r.length.toNat false, cheat := List.replicate (r.N + 1) false }

theorem RS.awayTo_alike (r : RS) (g : List Bool) (k : Nat) : Alike r (r.awayTo g k) := by
  induction k with
  | zero => exact Alike.refl r
  | succ k ih => simp only [RS.awayTo]; split
                 · exact (ih.push _).bid _ _
                 · exact ih
theorem RS.awayTo_len (r : RS) (g : List Bool) (k : Nat) : (r.awayTo g k).book.length ≤ r.book.length + k := by
  induction k with
  | zero => exact Nat.le_refl _
  | succ k ih => simp only [RS.awayTo]; split
                 · simp [RS.push]; omega
                 · omega
theorem RS.backTo_alike (r : RS) (k : Nat) : Alike r (r.backTo k) := by
  induction k with
  | zero => exact Alike.refl r
  | succ k ih => exact ih.push _
theorem RS.backTo_bids (r : RS) (k : Nat) : (r.backTo k).bids = r.bids := by
  induction k with
  | zero => rfl
  | succ k ih => exact ih
theorem RS.backTo_len (r : RS) (k : Nat) : (r.backTo k).book.length = r.book.length + k := by
  induction k with
  | zero => rfl
  | succ k ih => simp [RS.backTo, RS.push, ih]; omega
theorem RS.minted_alike (r : RS) : Alike r r.minted := (Alike.refl r).push _
theorem RS.money_alike (r : RS) : Alike r r.money := ((r.burnTo_alike _).trans (RS.minted_alike _)).trans (RS.payTo_alike _ _ _)
theorem RS.money_len (r : RS) : r.money.book.length ≤ r.book.length + 2 * r.N + 3 := by
  unfold RS.money
  rw [RS.payTo_len]
  have := r.burnTo_len (r.N + 1)
  simp [RS.minted, RS.push]; omega
theorem RS.home_alike (r : RS) : Alike r r.home := (r.homeTo_alike _).push _
theorem RS.home_len (r : RS) : r.home.book.length = r.book.length + r.N + 2 := by
  unfold RS.home
  simp [RS.push, r.homeTo_len]; omega
theorem RS.st3_alike (r : RS) : Alike r r.st3 := r.money_alike.trans (RS.awayTo_alike _ _ _)
theorem RS.st4_alike (r : RS) : Alike r r.st4 := r.st3_alike.trans (RS.home_alike _)
theorem RS.st5_alike (r : RS) : Alike r r.st5 := r.st4_alike.trans (RS.backTo_alike _ _)
theorem RS.st3_len (r : RS) : r.st3.book.length ≤ r.book.length + 3 * r.N + 4 := by
  have := RS.awayTo_len r.money r.gone (r.N + 1)
  have := r.money_len
  unfold RS.st3; omega
theorem RS.st4_len (r : RS) : r.st4.book.length ≤ r.book.length + 4 * r.N + 6 := by
  have := r.st3_len
  unfold RS.st4; rw [RS.home_len, r.st3_alike.N]; omega
theorem RS.st5_len (r : RS) : r.st5.book.length ≤ r.book.length + 5 * r.N + 6 := by
  have := r.st4_len
  unfold RS.st5; rw [RS.backTo_len]; omega

/-- What a sale keeps. -/
structure Beside (r q : RS) : Prop where
  seats : q.seats = r.seats
  delay : q.delay = r.delay
  rate : q.rate = r.rate
  cut : q.cut = r.cut
  length : q.length = r.length
  need : q.need = r.need
  N : q.N = r.N
  epoch : q.epoch = r.epoch
  bids : q.bids.length = r.bids.length
  has : q.has.length = r.has.length
  row : q.row = r.row
  made : q.made = r.made
  cheat : q.cheat = r.cheat
theorem Beside.refl (r : RS) : Beside r r := ⟨rfl, rfl, rfl, rfl, rfl, rfl, rfl, rfl, rfl, rfl, rfl, rfl, rfl⟩
theorem RS.sellTo_beside (r : RS) (l : List Int) (p : Int) (k : Nat) : Beside r (r.sellTo l p k).1 := by
  induction k with
  | zero => exact Beside.refl r
  | succ k ih =>
    simp only [RS.sellTo]
    split
    · exact ⟨ih.seats, ih.delay, ih.rate, ih.cut, ih.length, ih.need, ih.N, ih.epoch, by simp [ih.bids], by simp [ih.has, RS.push], ih.row, ih.made, ih.cheat⟩
    · exact ⟨ih.seats, ih.delay, ih.rate, ih.cut, ih.length, ih.need, ih.N, ih.epoch, ih.bids, by simp [ih.has], ih.row, ih.made, ih.cheat⟩
theorem RS.sale_beside (r : RS) : Beside r r.sale := by
  obtain ⟨l, e, hl⟩ := r.clearTo_eq (r.N + 1)
  unfold RS.sale
  split
  · rw [e]; exact ⟨rfl, rfl, rfl, rfl, rfl, rfl, rfl, rfl, rfl, hl, rfl, rfl, rfl⟩
  · have b := RS.sellTo_beside { r.clearTo (r.N + 1) with price := priceOf (stakesTo r.book (r.N + 1)) r.seats } (stakesTo r.book (r.N + 1)) (priceOf (stakesTo r.book (r.N + 1)) r.seats) (r.N + 1)
    rw [e] at b ⊢
    exact ⟨b.seats, b.delay, b.rate, b.cut, b.length, b.need, b.N, b.epoch, b.bids, b.has.trans hl, b.row, b.made, b.cheat⟩
theorem RS.sellTo_len (r : RS) (l : List Int) (p : Int) (k : Nat) : (r.sellTo l p k).1.book.length ≤ r.book.length + k := by
  induction k with
  | zero => exact Nat.le_refl _
  | succ k ih =>
    simp only [RS.sellTo]
    split
    · simp [RS.push]; omega
    · exact Nat.le_trans ih (by omega)
theorem RS.sale_len (r : RS) : r.sale.book.length ≤ r.book.length + r.N + 1 := by
  obtain ⟨l, e, hl⟩ := r.clearTo_eq (r.N + 1)
  unfold RS.sale
  split
  · rw [e]; show r.book.length ≤ _; omega
  · have b := RS.sellTo_len { r.clearTo (r.N + 1) with price := priceOf (stakesTo r.book (r.N + 1)) r.seats } (stakesTo r.book (r.N + 1)) (priceOf (stakesTo r.book (r.N + 1)) r.seats) (r.N + 1)
    rw [e] at b ⊢
    exact b
theorem getD_set_bd {l : List Int} {k : Nat} {x : Int} {P : Int → Prop} (h : ∀ a, P (l.getD a 0)) (hx : P x) : ∀ a, P ((l.set k x).getD a 0) := by
  intro a
  by_cases e : k = a
  · subst e
    by_cases hk : k < l.length
    · have : (l.set k x).getD k 0 = x := by simp [List.getD, hk]
      rw [this]; exact hx
    · have : l.set k x = l := List.set_eq_of_length_le (by omega)
      rw [this]; exact h k
  · rw [getD_set_ne _ _ _ _ e]; exact h a
theorem RS.clearTo_bd (r : RS) (h : ∀ a, 0 ≤ r.has.getD a 0 ∧ r.has.getD a 0 ≤ 10) (k : Nat) : ∀ a, 0 ≤ (r.clearTo k).has.getD a 0 ∧ (r.clearTo k).has.getD a 0 ≤ 10 := by
  induction k with
  | zero => exact h
  | succ k ih => exact getD_set_bd (P := fun x => 0 ≤ x ∧ x ≤ 10) ih ⟨by omega, by omega⟩
theorem RS.sellTo_bd (z : RS) (l : List Int) (p : Int) (hs : 0 ≤ z.seats) (hs2 : z.seats ≤ 10) (hl : ∀ j, 0 ≤ l.getD j 0 / p) (h : ∀ a, 0 ≤ z.has.getD a 0 ∧ z.has.getD a 0 ≤ 10) (k : Nat) : ∀ a, 0 ≤ (z.sellTo l p k).1.has.getD a 0 ∧ (z.sellTo l p k).1.has.getD a 0 ≤ 10 := by
  induction k with
  | zero => exact h
  | succ k ih =>
    have so := z.sellTo_sold l p hs hl k
    have := so.g0
    have := so.g1
    have := hl k
    simp only [RS.sellTo]
    split
    · exact getD_set_bd (P := fun x => 0 ≤ x ∧ x ≤ 10) ih ⟨by omega, by omega⟩
    · exact getD_set_bd (P := fun x => 0 ≤ x ∧ x ≤ 10) ih ⟨by omega, by omega⟩
theorem total_bdN {b : List Mv} {N : Nat} (A : Amt b N) (j : Nat) (p : Int) (hp : 1 ≤ p) : 0 ≤ (stakesTo b (N + 1)).getD j 0 / p := by
  by_cases hj : j < (stakesTo b (N + 1)).length
  · exact Int.ediv_nonneg (Pm.fit_at (stakesTo_fit A (N + 1) (Nat.le_refl _)) hj).1 (by omega)
  · have : (stakesTo b (N + 1)).getD j 0 = 0 := by simp [List.getD, List.getElem?_eq_none (Nat.le_of_not_lt hj)]
    rw [this]; simp

/-- The bounds that Next needs on its way. -/
structure NextOk (r : RS) : Prop where
  bids : ∀ a, 0 ≤ r.bids.getD a 0 ∧ r.bids.getD a 0 ≤ 1000000000
  burn : ∀ k, k ≤ r.N + 1 → Amt (r.burnTo k).book r.N
  away : ∀ k, k ≤ r.N + 1 → Amt (r.money.awayTo r.gone k).book r.N
  home : ∀ k, k ≤ r.N + 1 → Amt (r.st3.homeTo k).book r.N
  back : ∀ k, k ≤ r.N → Amt (r.st4.backTo k).book r.N
  bids4 : ∀ a, 0 ≤ r.st4.bids.getD a 0 ∧ r.st4.bids.getD a 0 ≤ 2000000000
  has6 : ∀ a, 0 ≤ r.st5.sale.has.getD a 0 ∧ r.st5.sale.has.getD a 0 ≤ 10

section
variable {w w1 : World} {B y : Nat} {r : RS} {v : Nat → Value}

theorem turn_fresh (h : RC w B y r v) (b : Below w.heap.size w w1) (i idx : Nat) (hidx : idx < 16) (vn : Value) (hn : ∀ g, vn.ownBlock = some g → w.heap.size ≤ g) : Turn w (w1.setCell ⟨y, idx, none⟩ vn) y v i idx vn := by
  have hyb := (h.lt (.inl rfl)).2
  have hc : ∀ j, w1.cell? ⟨y, j, none⟩ = w.cell? ⟨y, j, none⟩ := fun j => b.cell (p := ⟨y, j, none⟩) hyb
  obtain ⟨u, hu⟩ : ∃ u, w.cell? ⟨y, idx, none⟩ = some u := by
    rw [h.cells idx hidx]
    exact ⟨_, List.getElem?_eq_getElem (by simp [rcCells]; exact hidx)⟩
  refine ⟨(Keeps.ofBelow b).setCell _ _ (fun _ => .inl rfl), fun g hg => .inr (hn g hg), fun e => ?_, setCell_same ((hc idx).trans hu), fun j hj => ?_, fun j => ?_⟩
  · have := hn y e; omega
  · rw [← hc j]
    exact World.cell?_setCell_other _ _ _ _ (by intro e2; simp only [Addr.mk.injEq] at e2; omega)
  · rw [World.frozen?_setCell]
    exact b.frozen (p := ⟨y, j, none⟩) hyb

theorem RC.fresh_row (h : RC w B y r v) (b : Below w.heap.size w w1) {vn : Value} {l : List Int} (ho : w1.ownsRow w.heap.size 3 1 vn l.length (l.map (Value.int .i64))) :
    RTo w B y v (w1.setCell ⟨y, 13, none⟩ vn) { r with row := l } (upd v 3 vn) := by
  have hyb := h.lt (.inl rfl)
  have t := turn_fresh h b 3 13 (by omega) vn (fun g hg => (ho.lt g hg).1)
  have hb := own_mono ho h.size
  refine ⟨h.turn_row t (own_setCell hb _ _ (fun e => ?_)), (t.foot (by omega) h).1, (t.foot (by omega) h).2⟩
  have := (ho.lt _ e).1
  have h2 : w.heap.size ≤ y := this
  omega
theorem RC.fresh_made (h : RC w B y r v) (b : Below w.heap.size w w1) {vn : Value} {l : List Bool} (ho : w1.ownsRow w.heap.size 4 1 vn l.length (l.map Value.bool)) :
    RTo w B y v (w1.setCell ⟨y, 14, none⟩ vn) { r with made := l } (upd v 4 vn) := by
  have hyb := h.lt (.inl rfl)
  have t := turn_fresh h b 4 14 (by omega) vn (fun g hg => (ho.lt g hg).1)
  have hb := own_mono ho h.size
  refine ⟨h.turn_made t (own_setCell hb _ _ (fun e => ?_)), (t.foot (by omega) h).1, (t.foot (by omega) h).2⟩
  have := (ho.lt _ e).1
  have h2 : w.heap.size ≤ y := this
  omega
theorem RC.fresh_cheat (h : RC w B y r v) (b : Below w.heap.size w w1) {vn : Value} {l : List Bool} (ho : w1.ownsRow w.heap.size 4 1 vn l.length (l.map Value.bool)) :
    RTo w B y v (w1.setCell ⟨y, 15, none⟩ vn) { r with cheat := l } (upd v 5 vn) := by
  have hyb := h.lt (.inl rfl)
  have t := turn_fresh h b 5 15 (by omega) vn (fun g hg => (ho.lt g hg).1)
  have hb := own_mono ho h.size
  refine ⟨h.turn_cheat t (own_setCell hb _ _ (fun e => ?_)), (t.foot (by omega) h).1, (t.foot (by omega) h).2⟩
  have := (ho.lt _ e).1
  have h2 : w.heap.size ≤ y := this
  omega
theorem own_intIs {w : World} {B : Nat} {v : Value} {l : List Int} (h : w.ownsRow B 3 1 v l.length (l.map (Value.int .i64))) {k : Nat} (h0 : k < l.length) {g n cap : Nat} (hv : v = .slice (some ⟨g, 0, none⟩) n cap) : w.cell? ⟨g, k, none⟩ = some (.int .i64 (l.getD k 0)) := by
  obtain ⟨g', cap', e, hc⟩ := own_intAt h h0
  rw [hv] at e
  simp only [Value.slice.injEq, Option.some.injEq, Addr.mk.injEq] at e
  obtain ⟨⟨rfl, _⟩, _⟩ := e
  exact hc
theorem made_toListN (n : Nat) : (madeCells #[Value.bool false] n).toList = List.replicate n (.bool false) := toList_madeCells_one _ _
theorem made_own (w : World) (n : Nat) (hn : n ≤ maxLen) : (w.alloc (.cells (madeCells #[.bool false] n) 4)).ownsRow w.heap.size 4 1 (.slice (some ⟨w.heap.size, 0, none⟩) n n) (List.replicate n false).length ((List.replicate n false).map Value.bool) := by
  rw [List.length_replicate]
  refine ⟨by simp, .inr ⟨w.heap.size, n, madeCells #[.bool false] n, by simp, Nat.le_refl _, heap_alloc_new w _, by simp, hn, ?_, ?_⟩⟩
  · have := congrArg List.length (made_toListN n)
    simpa using this
  · rw [made_toListN]; simp
end
end Go.Proofs.Ytdfdjbhdgbbolaa
namespace Go.Proofs.Ytdfdjbhdgbbolaa
set_option linter.unusedVariables false
set_option linter.unusedSimpArgs false
open Go.ChangeShapes Go.WideShapes Go.ChangeAt Go.RowKit

/-- The chain, and beside it who is sent away. -/
structure Gone (w : World) (B y : Nat) (v : Nat → Value) (g : Nat) (l : List Bool) (wr : World) (r' : RS) (vr : Nat → Value) : Prop where
  to : RTo w B y v wr r' vr
  cell : ∀ i, i < l.length → wr.cell? ⟨g, i, none⟩ = some (.bool (l.getD i false))
  off : ¬ RFoot y vr g
  lt : g < wr.heap.size
theorem Gone.step {w wr w2 : World} {B y g : Nat} {v vr v2 : Nat → Value} {l : List Bool} {r1 r2 : RS} (S : Gone w B y v g l wr r1 vr) (t : RTo wr B y vr w2 r2 v2) : Gone w B y v g l w2 r2 v2 :=
  ⟨S.to.trans t, fun i hi => t.keeps.cell (S.cell i hi) S.off, fun hf => (t.foot g hf).elim S.off (fun h => by have := S.lt; omega), Nat.lt_of_lt_of_le S.lt t.keeps.size⟩

section
variable {w : World} {B y : Nat} {r : RS} {v : Nat → Value}

set_option maxHeartbeats 3200000 in
set_option maxRecDepth 1000000 in
theorem rnext (h : RC w B y r v) (c : Cfg r) (A : NextOk r) (seed : Int) (hs1 : -9223372036854775808 ≤ seed) (hs2 : seed ≤ 9223372036854775807) (hl : r.book.length * 56 + 50 * 56 ≤ 140737488355328) :
    Calls Try.prog 88 #[.pointer (some ⟨y, 0, none⟩), .int .i64 seed] w fun e w' => e = .returned (.int .i64 0) ∧ ∃ v', RTo w B y v w' (r.next seed) v' := by
  obtain ⟨i0, hin, hz0, hz1, hz2⟩ := info_parts Try.info_boolN
  have hN1 := c.N
  have he := c.epoch
  have hft : Hid (∀ b, RFoot y v b → b < w.heap.size) := fun b hb => (h.lt hb).2
  obtain ⟨r', hr'⟩ : ∃ r', r.next seed = r' := ⟨_, rfl⟩
  rw [hr']
  have HR := hid hr'
  clear hr'
  go_enter Try.func88, Try.ntmps88
  go_wp2_with fail
  go_loopw [5, 6] (fun vg i wr => ∃ k : Nat, k ≤ r.N + 1 ∧ i = .int .i64 k ∧ wr.ownsRow w.heap.size 4 1 vg (r.goneTo k).length ((r.goneTo k).map Value.bool) ∧ RTo w B y v wr r v) (fun _ i _ => r.N + 1 - (intOf i).toNat)
  case atStart => exact ⟨0, Nat.zero_le _, rfl, by simpa [RS.goneTo] using World.ownsRow_nil w w.heap.size 4 1, RTo.refl h⟩
  case round =>
    obtain ⟨k, hk, rfl, hown, T⟩ := hrel
    have hr := T.rc
    have hsz := T.keeps.size
    have hNr : wr.cell? ⟨y, 7, none⟩ = some (.int .i64 (r.N : Int)) := hr.cN
    have hgl := r.goneTo_len k
    by_cases hlt : k < r.N + 1
    · have hst := hid (r.goneTo_snoc k)
      have TT := hid T
      have hq : (r.goneTo k).length ≤ 7 := by omega
      clear T hgl
      generalize r.goneTo k = q at *
      go_wp2_with fail
      refine (rlazy hr c k (by omega)).mono ?_
      rintro e w1 ⟨rfl, b1⟩
      have T1 := hid (TT.out.below b1)
      have hr1 := T1.out.rc
      have hown1 := (Keeps.ofBelow (F := fun _ => False) b1).owns hown (fun _ _ h => h)
      have hsz1 : w.heap.size ≤ w1.heap.size := Nat.le_trans hsz b1.size
      have hC : w1.cell? ⟨y, 15, none⟩ = some (v 5) := hr1.cells 15 (by omega)
      have e1 := c.cheat
      obtain ⟨g2, cap2, hv2, hcm2⟩ := own_boolAt hr1.cheat (k := k) (by omega)
      rw [hv2, e1] at hC
      have i1 : (k : Int) < ((r.N + 1 : Nat) : Int) := by omega
      clear hown hNr hr TT b1 hr1 hv2 e1
      generalize r.lazy k = lz at *
      generalize r.cheat.getD k false = ch at *
      have fin : ∀ (bb : Bool), bb = (lz || ch) → ∀ (o : Obj) (v' : Value) (w2 : World), w2.ownsRow w.heap.size 4 1 v' (q.length + 1) (q.map Value.bool ++ [Value.bool bb]) → (w1.alloc o).grownBy w2 (Value.ownBlock v') → True := fun _ _ _ _ _ _ _ => trivial
      clear fin
      cases lz with
      | true =>
        go_wp2_with (at_builtin; refine wpList_append_own _ rfl _ _ 130 rfl w.heap.size 4 i0 (.bool false) 1 1 Try.underlying130 hin hz0 hz1 hz2 rfl (by decide) _ _ _ rfl (hown1.alloc _) ⟨w1.heap.size, 0, none⟩ 1 1 [.bool true] rfl rfl ?c1 ?c2 ?c3 ?c4 ?c5 ?_)
        case c1 =>
          intro j u hj
          match j, hj with
          | 0, hj => simp at hj; subst hj; simp [Addr.add]
        case c2 => intro u hu; simp at hu; subst hu; rfl
        case c3 => unfold maxLen; omega
        case c4 => omega
        case c5 => simp; omega
        · intro v' w2 hown' hgrow _
          obtain ⟨F, K2, hF⟩ := grown_beside hown1 hgrow
          have T2 := hid (T1.out.side K2 (fun b hb hf => by have h1 := hft.out b hb; have h2 := hF b hf; omega) hF)
          clear hgrow hown1 T1 K2 hF
          go_wp2_with fail
          go_roundw
          case rel => exact ⟨k + 1, by omega, by go_num, by rw [hst.out, List.map_append, List.length_append]; exact hown', T2.out⟩
          case measure => simp [intOf]; omega
      | false =>
        go_wp2_with (at_builtin; refine wpList_append_own _ rfl _ _ 130 rfl w.heap.size 4 i0 (.bool false) 1 1 Try.underlying130 hin hz0 hz1 hz2 rfl (by decide) _ _ _ rfl (hown1.alloc _) ⟨w1.heap.size, 0, none⟩ 1 1 [.bool ch] rfl rfl ?c1 ?c2 ?c3 ?c4 ?c5 ?_)
        case c1 =>
          intro j u hj
          match j, hj with
          | 0, hj => simp at hj; subst hj; simp [Addr.add]
        case c2 => intro u hu; simp at hu; subst hu; rfl
        case c3 => unfold maxLen; omega
        case c4 => omega
        case c5 => simp; omega
        · intro v' w2 hown' hgrow _
          obtain ⟨F, K2, hF⟩ := grown_beside hown1 hgrow
          have T2 := hid (T1.out.side K2 (fun b hb hf => by have h1 := hft.out b hb; have h2 := hF b hf; omega) hF)
          clear hgrow hown1 T1 K2 hF
          go_wp2_with fail
          go_roundw
          case rel => exact ⟨k + 1, by omega, by go_num, by rw [hst.out, List.map_append, List.length_append]; exact hown', T2.out⟩
          case measure => simp [intOf]; omega
    · have hkn : k = r.N + 1 := by omega
      subst hkn
      obtain ⟨g, cap, hv, hcell⟩ := own_bools hown (by omega)
      subst hv
      have hgs : w.heap.size ≤ g ∧ g < wr.heap.size := hown.lt g rfl
      have S0 := hid (show Gone w B y v g r.gone wr r v from ⟨T, hcell, fun hf => by have := hft.out g hf; omega, hgs.2⟩)
      clear hcell hown T
      rw [hgl]
      clear hgl
      go_wp2_with fail
      refine (rmoney hr c A.burn A.bids (by omega)).mono ?_
      rintro e wm ⟨rfl, vm, tm⟩
      have Sm := hid (S0.out.step tm)
      have alm := r.money_alike
      have lm := r.money_len
      clear S0 tm hr hNr hsz
      go_wp2_with fail
      go_loopw [8] (fun i wr => ∃ k : Nat, k ≤ r.N + 1 ∧ i = .int .i64 k ∧ ∃ vr, Gone w B y v g r.gone wr (r.money.awayTo r.gone k) vr) (fun i _ => r.N + 1 - (intOf i).toNat)
      case atStart => exact ⟨0, Nat.zero_le _, rfl, vm, Sm.out⟩
      case round =>
        clear Sm
        obtain ⟨k, hk, rfl, vr, S⟩ := hrel
        have hr := S.to.rc
        have al := alm.trans (r.money.awayTo_alike r.gone k)
        have len := r.money.awayTo_len r.gone k
        have hNr : wr.cell? ⟨y, 7, none⟩ = some (.int .i64 (r.N : Int)) := by rw [← al.N]; exact hr.cN
        by_cases hlt : k < r.N + 1
        · have hgk := S.cell k (by rw [show r.gone.length = r.N + 1 from r.goneTo_len _]; omega)
          have Ak := A.away k hk
          rw [← al.N] at Ak
          have st : r.money.awayTo r.gone (k + 1) = if r.gone.getD k false = true then { (r.money.awayTo r.gone k).push ⟨2, k, 0, 3, k, r.money.epoch + r.money.delay, allOf (r.money.awayTo r.gone k).book 2 k⟩ with bids := (r.money.awayTo r.gone k).bids.set k 0 } else r.money.awayTo r.gone k := rfl
          have hNe := al.N
          have hbl : (r.money.awayTo r.gone k).bids.length = r.N + 1 := by rw [al.bids]; exact c.bids
          have heq : (r.money.awayTo r.gone k).epoch = r.epoch := al.epoch
          have hdq : (r.money.awayTo r.gone k).delay = r.delay := al.delay
          have hde := c.delay
          have i1 : (k : Int) < ((r.N + 1 : Nat) : Int) := by omega
          rw [alm.epoch, alm.delay, ← heq, ← hdq] at st
          have SS := hid S
          have HST := hid st
          clear S st al
          obtain ⟨q', hq'⟩ : ∃ q', r.money.awayTo r.gone (k + 1) = q' := ⟨_, rfl⟩
          obtain ⟨q, hq⟩ : ∃ q, r.money.awayTo r.gone k = q := ⟨_, rfl⟩
          obtain ⟨b, hb⟩ : ∃ b, r.gone.getD k false = b := ⟨_, rfl⟩
          rw [hq', hb] at HST
          rw [hq] at HST SS Ak hNe hbl heq hdq hr len
          rw [hb] at hgk
          have HQ := hid hq'
          clear hq' hq hb
          cases b with
          | true =>
            have ST := hid (show q' = { q.push ⟨2, k, 0, 3, k, q.epoch + q.delay, allOf q.book 2 k⟩ with bids := q.bids.set k 0 } from by have := HST.out; rwa [if_pos rfl] at this)
            clear HST
            go_wp2_with fail
            refine (rall' hr Ak 2 k (by omega) (by omega) (by omega) (by omega)).mono ?_
            rintro e w1 ⟨rfl, b1⟩
            have h1 := hr.below b1
            clear hgk hNr
            go_wp2_with fail
            refine (rout2 h1 (by rw [heq]; exact he) (by rw [hdq]; exact hde) k (allOf q.book 2 k) (by omega)).mono ?_
            rintro e w2 ⟨rfl, vb, t2⟩
            have hrc3 := t2.rc
            have hB3 : w2.cell? ⟨y, 9, none⟩ = some (upd vr 0 vb 1) := hrc3.cells 9 (by omega)
            obtain ⟨gb, capb, hv, hcm⟩ := own_intAt hrc3.bids (k := k) (show k < q.bids.length by omega)
            have ho := hrc3.bids
            rw [hv] at ho
            have hfz := ho.frozenAt k
            have SA := hid (show Gone w B y v g r.gone (w2.setCell ⟨gb, k, none⟩ (.int .i64 0)) q' (upd vr 0 vb) by rw [ST.out]; exact ((SS.out.step (RTo.ofBelow hr b1)).step t2).step (hrc3.set_bids hv k 0))
            rw [hv, show (q.push ⟨2, k, 0, 3, k, q.epoch + q.delay, allOf q.book 2 k⟩).bids.length = r.N + 1 from hbl] at hB3
            clear ho hv t2 hrc3 ST SS h1 hr b1
            go_wp2_with fail
            go_roundw
            case rel => exact ⟨k + 1, by omega, by go_num, _, by rw [HQ.out]; exact SA.out⟩
            case measure => simp [intOf]; omega
          | false =>
            have ST := hid (show q' = q from by have := HST.out; rwa [if_neg (by simp)] at this)
            clear HST
            go_wp2_with fail
            go_roundw
            case rel => exact ⟨k + 1, by omega, by go_num, vr, by rw [HQ.out, ST.out]; exact SS.out⟩
            case measure => simp [intOf]; omega
        · have hkn : k = r.N + 1 := by omega
          subst hkn
          have T3 := hid (show RTo w B y v wr r.st3 vr from S.to)
          have hr3 : RC wr B y r.st3 vr := hr
          have c3 := r.st3_alike.cfg c
          have A3 : ∀ k, k ≤ r.st3.N + 1 → Amt (r.st3.homeTo k).book r.st3.N := by rw [r.st3_alike.N]; exact A.home
          have l3 := r.st3_len
          clear S hr al len hk
          go_wp2_with fail
          refine (rhome hr3 c3 A3 (by omega)).mono ?_
          rintro e w4 ⟨rfl, v4, t4⟩
          have T4 := hid (show RTo w B y v w4 r.st4 v4 from T3.out.trans t4)
          have al4 := r.st4_alike
          have l4 := r.st4_len
          clear T3 t4 hr3 c3 A3 hNr l3
          go_wp2_with fail
          go_loopw [9] (fun i wr => ∃ k : Nat, k ≤ r.N ∧ i = .int .i64 k ∧ ∃ vr, RTo w B y v wr (r.st4.backTo k) vr) (fun i _ => r.N - (intOf i).toNat)
          case atStart => exact ⟨0, Nat.zero_le _, rfl, v4, T4.out⟩
          case round =>
            clear T4
            obtain ⟨k, hk, rfl, vr, T⟩ := hrel
            have hr := T.rc
            have al := al4.trans (r.st4.backTo_alike k)
            have len := r.st4.backTo_len k
            have hNr : wr.cell? ⟨y, 7, none⟩ = some (.int .i64 (r.N : Int)) := by rw [← al.N]; exact hr.cN
            by_cases hlt : k < r.N
            · have Ak := A.back k hk
              rw [← al.N] at Ak
              have hNe := al.N
              have hbl : (r.st4.backTo k).bids.length = r.N + 1 := by rw [al.bids]; exact c.bids
              have heq : (r.st4.backTo k).epoch = r.epoch := al.epoch
              have hdq : (r.st4.backTo k).delay = r.delay := al.delay
              have hde := c.delay
              have hbb := A.bids4 k
              rw [← r.st4.backTo_bids k] at hbb
              have st := hid (show r.st4.backTo (k + 1) = (r.st4.backTo k).push ⟨2, k, 0, 3, k, (r.st4.backTo k).epoch + (r.st4.backTo k).delay, allOf (r.st4.backTo k).book 2 k - (r.st4.backTo k).bids.getD k 0⟩ by
                rw [heq, hdq, r.st4.backTo_bids k, ← al4.epoch, ← al4.delay]; rfl)
              have hp := Ak.all 2 k (by omega) (by omega) (by omega) (by omega)
              have hB : wr.cell? ⟨y, 9, none⟩ = some (vr 1) := hr.cells 9 (by omega)
              obtain ⟨gb, capb, hv, hbk⟩ := own_intAt hr.bids (k := k) (by omega)
              rw [hv, hbl] at hB
              have i1 : (k : Int) < ((r.N + 1 : Nat) : Int) := by omega
              have i2 : (k : Int) < (r.N : Int) + 1 := by omega
              have i3 : (0 : Int) ≤ (k : Int) := by omega
              have i4 : ¬ (k : Int) < 0 := by omega
              have TT := hid T
              have HV := hid hv
              have Hbl := hid hbl
              clear T al hv hbl
              obtain ⟨q', hq'⟩ : ∃ q', r.st4.backTo (k + 1) = q' := ⟨_, rfl⟩
              obtain ⟨q, hq⟩ : ∃ q, r.st4.backTo k = q := ⟨_, rfl⟩
              rw [hq', hq] at st
              rw [hq] at TT Ak hNe Hbl heq hdq hr len hbb hp hbk HV
              have HQ := hid hq'
              clear hq' hq
              obtain ⟨bk, hbke⟩ : ∃ bk, q.bids.getD k 0 = bk := ⟨_, rfl⟩
              rw [hbke] at hbk hbb
              have Hbke := hid hbke
              have hwr := hid (show IntKind.i64.wrap (allOf q.book 2 k - bk) = allOf q.book 2 k - bk by rw [wrapEq]; unfold wrap64; omega)
              have hkeep := hid (show ∀ (w1 : World) (vb : Value) (m : Mv), RC w1 B y (q.push m) (upd vr 0 vb) → w1.cell? ⟨y, 9, none⟩ = some (.slice (some ⟨gb, 0, none⟩) (r.N + 1) capb) ∧ w1.cell? ⟨gb, k, none⟩ = some (.int .i64 bk) by
                intro w1 vb m h1
                have e1 : upd vr 0 vb 1 = vr 1 := upd_other _ _ _ (by omega)
                have h9 : w1.cell? ⟨y, 9, none⟩ = some (upd vr 0 vb 1) := h1.cells 9 (by omega)
                have hb := h1.bids
                have hl2 : (q.push m).bids.length = r.N + 1 := Hbl.out
                refine ⟨by rw [h9, e1, HV.out, Hbl.out], ?_⟩
                have := own_intIs hb (k := k) (by omega) (e1.trans HV.out)
                rw [this]
                show some (Value.int .i64 (q.bids.getD k 0)) = _
                rw [Hbke.out])
              clear hbke
              go_wp2_with fail
              go_region_held3 (fun w' => w'.cell? ⟨y, 9, none⟩ = some (.slice (some ⟨gb, 0, none⟩) (r.N + 1) capb) ∧ w'.cell? ⟨gb, k, none⟩ = some (.int .i64 bk)) (go_keep)
                ((first
                  | (go_at_call 99; refine (rall' (hr.below (Below.refl _ _).drew) Ak 2 k (by omega) (by omega) (by omega) (by omega)).mono ?_; rintro e w1 ⟨rfl, b1⟩; (have c0 : w1.cell? ⟨y, 9, none⟩ = some (.slice (some ⟨gb, 0, none⟩) (r.N + 1) capb) := (b1.cell (block_lt_of_cell hB)).trans hB); (have c1 : w1.cell? ⟨gb, k, none⟩ = some (.int .i64 bk) := (b1.cell (block_lt_of_cell hbk)).trans hbk))
                  | (go_at_call 104; refine (rout2 ((hr.below (Below.refl _ _).drew).below b1) (by rw [heq]; exact he) (by rw [hdq]; exact hde) k (IntKind.i64.wrap (allOf q.book 2 k - bk)) (by omega)).mono ?_; rintro e w2 ⟨rfl, vb, t2⟩; (have d0 := (hkeep.out w2 vb _ t2.rc).1); (have d1 := (hkeep.out w2 vb _ t2.rc).2))))
              all_goals
                go_wp2_with fail
                go_roundw
                case rel => exact ⟨k + 1, by omega, by go_num, upd vr 0 vb, by rw [HQ.out, st.out, Hbke.out]; rw [hwr.out] at t2; exact (TT.out.drew.below b1).trans t2⟩
                case measure => simp [intOf]; omega
            · have hkn : k = r.N := by omega
              subst hkn
              have T5 := hid (show RTo w B y v wr r.st5 vr from T)
              have hr5 : RC wr B y r.st5 vr := hr
              have al5 := r.st5_alike
              have c5 := al5.cfg c
              have A5 : Amt r.st5.book r.st5.N := by rw [al5.N]; exact A.back r.N (Nat.le_refl _)
              have l5 := r.st5_len
              have be6 := r.st5.sale_beside
              have h6b := hid A.has6
              have hlen6 : r.st5.sale.has.length = r.N + 1 := by rw [be6.has, al5.has]; exact c.has
              have hN6 : r.st5.sale.N = r.N := by rw [be6.N, al5.N]
              have hL6 : r.st5.sale.length = r.length := by rw [be6.length, al5.length]
              have hE6 : r.st5.sale.epoch = r.epoch := by rw [be6.epoch, al5.epoch]
              have HR2 := hid (show { r.st5.sale with row := drawOf r.st5.sale.has seed, epoch := r.epoch + 1, made := List.replicate r.length.toNat false, cheat := List.replicate (r.N + 1) false } = r' from HR.out)
              clear T hr al len hk HR al5 be6 A
              go_wp2_with fail
              refine (rsale hr5 c5 A5 (by omega)).mono ?_
              rintro e w6 ⟨rfl, v6, t6⟩
              have T6 := hid (T5.out.trans t6)
              have h6 := t6.rc
              clear T5 t6 hr5 c5 A5
              generalize r.st5.sale = z at *
              have hH : w6.cell? ⟨y, 10, none⟩ = some (v6 2) := h6.cells 10 (by omega)
              obtain ⟨ah, caph, hvh, hI, _⟩ := own_intsL h6.has
              have hdr := rdrawn ah caph z.has seed w6 hI (by omega) h6b.out hs1 hs2
              rw [hvh, hlen6] at hH
              rw [hlen6] at hdr
              have Hdr := hid hdr
              clear hdr hvh hI
              go_wp2_with fail
              refine Hdr.out.mono ?_
              rintro e w7 ⟨vn, rfl, ho, b7⟩
              clear Hdr
              obtain ⟨an, capn, hvn, _, _⟩ := own_intsL ho
              subst hvn
              have h7 := h6.below b7
              have hc13 : w7.cell? ⟨y, 13, none⟩ = some (v6 3) := h7.cells 13 (by omega)
              have hf13 := h7.frozen 13
              have T7 := hid (T6.out.trans (h6.fresh_row b7 ho))
              clear T6 ho b7 hH h6 h7
              go_upto_region 21 with fail
              generalize w7.setCell ⟨y, 13, none⟩ (.slice an (drawOf z.has seed).length capn) = W8 at *
              have h8 := T7.out.rc
              have hc11 : W8.cell? ⟨y, 11, none⟩ = some (.int .i64 r.epoch) := by rw [← hE6]; exact h8.cells 11 (by omega)
              have hf11 := h8.frozen 11
              have T8 := hid (T7.out.trans (h8.set_epoch (r.epoch + 1)))
              clear T7 h8 hc13 hf13
              go_upto_region 22 with fail
              generalize W8.setCell ⟨y, 11, none⟩ (.int .i64 (r.epoch + 1)) = W9 at *
              have h9 := T8.out.rc
              obtain ⟨L, hL⟩ : ∃ L : Nat, r.length = L := ⟨r.length.toNat, by have := c.length; omega⟩
              have hLb : 1 ≤ L ∧ L ≤ 20 := by have := c.length; omega
              have hLt : r.length.toNat = L := by omega
              rw [hLt] at HR2
              have hc4 : W9.cell? ⟨y, 4, none⟩ = some (.int .i64 (L : Int)) := by rw [← hL, ← hL6]; exact h9.cells 4 (by omega)
              have hyl : y < W9.heap.size := (h9.lt (.inl rfl)).2
              have hc14 : W9.cell? ⟨y, 14, none⟩ = some (upd v6 3 (.slice an (drawOf z.has seed).length capn) 4) := h9.cells 14 (by omega)
              have hf14 := h9.frozen 14
              have hmk := run_make_row' (P := Try.prog) 130 4 (.bool false) 1 Try.underlying130 Try.info_boolN rfl .i64 .i64 L (by omega) (by omega)
              have T9 := T8.out.trans (h9.fresh_made ((Below.refl _ W9).alloc (Nat.le_refl _) _) (made_own W9 L (by unfold maxLen; omega)))
              rw [World.setCell_alloc_past _ _ _ _ hyl] at T9
              have T9h := hid T9
              clear T8 T9 h9 hc11 hf11 hL hL6 hLt
              go_upto_region 23 with fail
              generalize (W9.setCell ⟨y, 14, none⟩ (.slice (some ⟨W9.heap.size, 0, none⟩) L L)).alloc (.cells (madeCells #[.bool false] L) 4) = WA at *
              have hA := T9h.out.rc
              have hcN : WA.cell? ⟨y, 7, none⟩ = some (.int .i64 (r.N : Int)) := by rw [← hN6]; exact hA.cN
              have hya : y < WA.heap.size := (hA.lt (.inl rfl)).2
              have hc15 : WA.cell? ⟨y, 15, none⟩ = some (upd (upd v6 3 (.slice an (drawOf z.has seed).length capn)) 4 (.slice (some ⟨W9.heap.size, 0, none⟩) L L) 5) := hA.cells 15 (by omega)
              have hf15 := hA.frozen 15
              have hmk2 := run_make_row' (P := Try.prog) 130 4 (.bool false) 1 Try.underlying130 Try.info_boolN rfl .i64 .i64 (r.N + 1) (by omega) (by omega)
              rw [show ((r.N + 1 : Nat) : Int) = (r.N : Int) + 1 from by omega] at hmk2
              have TA := T9h.out.trans (hA.fresh_cheat ((Below.refl _ WA).alloc (Nat.le_refl _) _) (made_own WA (r.N + 1) (by unfold maxLen; omega)))
              rw [World.setCell_alloc_past _ _ _ _ hya] at TA
              have TAh := hid TA
              clear T9h TA hA hmk hc14 hf14 hc4
              go_wp2_with fail
              go_ret
              exact ⟨rfl, _, by rw [← HR2.out]; exact TAh.out⟩
end
end Go.Proofs.Ytdfdjbhdgbbolaa
