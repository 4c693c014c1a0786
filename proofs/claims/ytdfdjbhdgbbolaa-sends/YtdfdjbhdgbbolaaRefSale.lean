import Derived.Test.YtdfdjbhdgbbolaaRef
import Derived.Test.YtdfdjbhdgbbolaaPriceOf
import Derived.Test.YtdfdjbhdgbbolaaRefDraw
namespace Go.Proofs.Ytdfdjbhdgbbolaa
set_option linter.unusedVariables false
set_option linter.unusedSimpArgs false
open Go.ChangeShapes Go.WideShapes Go.ChangeAt Go.RowKit

/-- What the accounts below k have locked. -/
def stakesTo (b : List Mv) (k : Nat) : List Int := (List.range k).map (fun (a : Nat) => allOf b 2 (a : Int))
theorem stakesTo_len (b : List Mv) (k : Nat) : (stakesTo b k).length = k := by simp [stakesTo]
theorem stakesTo_snoc (b : List Mv) (k : Nat) : stakesTo b (k + 1) = stakesTo b k ++ [allOf b 2 k] := by simp [stakesTo, List.range_succ]
theorem stakesTo_fit {b : List Mv} {N : Nat} (A : Amt b N) (k : Nat) (hk : k ≤ N + 1) : Pm.Fit (stakesTo b k) := by
  intro x hx
  simp only [stakesTo, List.mem_map, List.mem_range] at hx
  obtain ⟨a, ha, rfl⟩ := hx
  exact A.all 2 a (by omega) (by omega) (by omega) (by omega)

/-- Nobody below k has a seat. -/
def RS.clearTo (r : RS) : Nat → RS
  | 0 => r
  | k + 1 => { r.clearTo k with has := (r.clearTo k).has.set k 0 }
theorem RS.clearTo_eq (r : RS) (k : Nat) : ∃ l, r.clearTo k = { r with has := l } ∧ l.length = r.has.length := by
  induction k with
  | zero => exact ⟨r.has, rfl, rfl⟩
  | succ k ih =>
    obtain ⟨l, e, h⟩ := ih
    exact ⟨l.set k 0, by simp only [RS.clearTo, e], by simpa using h⟩

/-- The seats are sold, to the accounts below k: the chain, and how many seats are given. -/
def RS.sellTo (r : RS) (l : List Int) (p : Int) : Nat → RS × Int
  | 0 => (r, 0)
  | k + 1 =>
    let q := (r.sellTo l p k).1
    let g := (r.sellTo l p k).2
    let q' := if l.getD k 0 / p = 0 then { q.push ⟨2, k, 0, 3, k, r.epoch + r.delay, l.getD k 0⟩ with bids := q.bids.set k 0 } else q
    let m := min (l.getD k 0 / p) (r.seats - g)
    ({ q' with has := q'.has.set k m }, g + m)
def RS.sale (r : RS) : RS :=
  if Pm.total (stakesTo r.book (r.N + 1)) < r.seats then { r.clearTo (r.N + 1) with price := 0 }
  else ({ r.clearTo (r.N + 1) with price := priceOf (stakesTo r.book (r.N + 1)) r.seats }.sellTo (stakesTo r.book (r.N + 1)) (priceOf (stakesTo r.book (r.N + 1)) r.seats) (r.N + 1)).1

theorem getD_set_ne (l : List Int) (k j : Nat) (x : Int) (h : k ≠ j) : (l.set k x).getD j 0 = l.getD j 0 := by simp [List.getD, List.getElem?_set, h]
theorem RS.clearTo_has (r : RS) (k : Nat) (hk : k ≤ r.has.length) : ∀ j, j < k → (r.clearTo k).has.getD j 0 = 0 := by
  induction k with
  | zero => intro j hj; omega
  | succ k ih =>
    intro j hj
    obtain ⟨l, e, hl⟩ := r.clearTo_eq k
    simp only [RS.clearTo]
    by_cases ej : j = k
    · subst ej
      have : j < (r.clearTo j).has.length := by rw [e]; show j < l.length; omega
      simp [List.getD, List.getElem?_set, this]
    · rw [getD_set_ne _ _ _ _ (by omega)]
      exact ih (by omega) j (by omega)

/-- What selling keeps. -/
structure Sold (z : RS) (k : Nat) (q : RS) (g : Int) : Prop where
  N : q.N = z.N
  epoch : q.epoch = z.epoch
  delay : q.delay = z.delay
  seats : q.seats = z.seats
  price : q.price = z.price
  hasl : q.has.length = z.has.length
  bidl : q.bids.length = z.bids.length
  len : q.book.length ≤ z.book.length + k
  has : ∀ j, k ≤ j → q.has.getD j 0 = z.has.getD j 0
  g0 : 0 ≤ g
  g1 : g ≤ z.seats
theorem set_same (l : List Int) (k : Nat) (x : Int) (h : k < l.length) (hx : l.getD k 0 = x) : l.set k x = l := by
  apply List.ext_getElem?
  intro j
  by_cases e : k = j
  · subst e
    simp only [List.getElem?_set, h, if_true]
    simp only [List.getD, List.getElem?_eq_getElem h, Option.getD_some] at hx
    rw [List.getElem?_eq_getElem h, hx]
  · simp [List.getElem?_set, e]
theorem RS.sellTo_sold (z : RS) (l : List Int) (p : Int) (hs : 0 ≤ z.seats) (hl : ∀ j, 0 ≤ l.getD j 0 / p) (k : Nat) : Sold z k (z.sellTo l p k).1 (z.sellTo l p k).2 := by
  induction k with
  | zero => exact ⟨rfl, rfl, rfl, rfl, rfl, rfl, rfl, by simp [RS.sellTo], fun _ _ => rfl, Int.le_refl _, hs⟩
  | succ k ih =>
    have h0 := hl k
    have hg0 := ih.g0
    have hg1 := ih.g1
    have hm0 : 0 ≤ min (l.getD k 0 / p) (z.seats - (z.sellTo l p k).2) := by omega
    have hm1 : min (l.getD k 0 / p) (z.seats - (z.sellTo l p k).2) ≤ z.seats - (z.sellTo l p k).2 := by omega
    simp only [RS.sellTo]
    split
    · exact ⟨ih.N, ih.epoch, ih.delay, ih.seats, ih.price, by simpa [RS.push] using ih.hasl, by simpa using ih.bidl, by simp [RS.push]; have := ih.len; omega, fun j hj => by rw [getD_set_ne _ _ _ _ (by omega)]; exact ih.has j (by omega), by omega, by omega⟩
    · exact ⟨ih.N, ih.epoch, ih.delay, ih.seats, ih.price, by simpa using ih.hasl, ih.bidl, by have := ih.len; simp; omega, fun j hj => by rw [getD_set_ne _ _ _ _ (by omega)]; exact ih.has j (by omega), by omega, by omega⟩
theorem RS.sellTo_step (z : RS) (l : List Int) (p : Int) (k : Nat) {q Q : RS} {G : Int} (hq : (z.sellTo l p k).1 = q) (hG : (z.sellTo l p k).2 = G)
    (hQ : Q = if l.getD k 0 / p = 0 then { q.push ⟨2, k, 0, 3, k, z.epoch + z.delay, l.getD k 0⟩ with bids := q.bids.set k 0 } else q) {m : Int} (hm : m = min (l.getD k 0 / p) (z.seats - G)) :
    z.sellTo l p (k + 1) = ({ Q with has := Q.has.set k m }, G + m) := by
  subst hq hG hQ hm; rfl

/-- Beside the chain's, other blocks turn. -/
theorem RTo.side {w wr w1 : World} {B y : Nat} {v vr : Nat → Value} {r1 : RS} (T : RTo w B y v wr r1 vr) {F : Nat → Prop} (k : Keeps F wr w1) (h1 : ∀ b, RFoot y vr b → ¬ F b) (h2 : ∀ b, F b → w.heap.size ≤ b) : RTo w B y v w1 r1 vr :=
  ⟨T.rc.keeps k h1, T.keeps.trans k (fun i hi hf => absurd (h2 i hf) (by omega)), T.foot⟩

/-- The chain, and the stakes beside it. -/
structure Sell (w : World) (B y : Nat) (v : Nat → Value) (g : Nat) (l : List Int) (wr : World) (r' : RS) (vr : Nat → Value) : Prop where
  to : RTo w B y v wr r' vr
  cell : ∀ i, i < l.length → wr.cell? ⟨g, i, none⟩ = some (.int .i64 (l.getD i 0))
  off : ¬ RFoot y vr g
  lt : g < wr.heap.size
theorem Sell.step {w wr w2 : World} {B y g : Nat} {v vr v2 : Nat → Value} {l : List Int} {r1 r2 : RS} (S : Sell w B y v g l wr r1 vr) (t : RTo wr B y vr w2 r2 v2) : Sell w B y v g l w2 r2 v2 :=
  ⟨S.to.trans t, fun i hi => t.keeps.cell (S.cell i hi) S.off, fun hf => (t.foot g hf).elim S.off (fun h => by have := S.lt; omega), Nat.lt_of_lt_of_le S.lt t.keeps.size⟩

theorem Sell.ints {w wr : World} {B y g : Nat} {v vr : Nat → Value} {l : List Int} {r1 : RS} (S : Sell w B y v g l wr r1 vr) : Ints wr (some ⟨g, 0, none⟩) l :=
  .inr ⟨g, 0, rfl, fun i hi => by rw [Nat.zero_add]; exact S.cell i hi⟩
theorem grown_beside {w1 w2 : World} {B e size n : Nat} {v : Value} {xs : List Value} {o : Obj} (hown : w1.ownsRow B e size v n xs) (hg : (w1.alloc o).grownBy w2 v.ownBlock) : ∃ F : Nat → Prop, Keeps F w1 w2 ∧ ∀ b, F b → B ≤ b :=
  ⟨fun b => v.ownBlock = some b, ((Keeps.refl _ w1).alloc o).grown hg (fun b hb _ => hb), fun b hb => (hown.lt b hb).1⟩

section
variable {w : World} {B y : Nat} {r : RS} {v : Nat → Value}

set_option maxHeartbeats 3200000 in
set_option maxRecDepth 1000000 in
theorem rsale (h : RC w B y r v) (c : Cfg r) (A : Amt r.book r.N) (hl : r.book.length * 56 + 8 * 56 ≤ 140737488355328) :
    Calls Try.prog 106 #[.pointer (some ⟨y, 0, none⟩)] w fun e w' => e = .returned (.tuple #[]) ∧ ∃ v', RTo w B y v w' r.sale v' := by
  obtain ⟨i0, hin, hz0, hz1, hz2⟩ := info_parts Try.info_int
  have hN1 := c.N
  have he := c.epoch
  have hhl := c.has
  have hft : Hid (∀ b, RFoot y v b → b < w.heap.size) := fun b hb => (h.lt hb).2
  obtain ⟨r', hr'⟩ : ∃ r', r.sale = r' := ⟨_, rfl⟩
  rw [hr']
  unfold RS.sale at hr'
  have HR := hid hr'
  clear hr'
  go_enter Try.func106, Try.ntmps106
  go_wp2_with fail
  go_loopw [2, 3, 4] (fun vs s i wr => ∃ k : Nat, k ≤ r.N + 1 ∧ i = .int .i64 k ∧ s = .int .i64 (Pm.total (stakesTo r.book k)) ∧ wr.ownsRow w.heap.size 3 1 vs (stakesTo r.book k).length ((stakesTo r.book k).map (Value.int .i64)) ∧ RTo w B y v wr (r.clearTo k) v) (fun _ _ i _ => r.N + 1 - (intOf i).toNat)
  case atStart => exact ⟨0, Nat.zero_le _, rfl, rfl, by simpa [stakesTo] using World.ownsRow_nil w w.heap.size 3 1, RTo.refl h⟩
  case round =>
    obtain ⟨k, hk, rfl, rfl, hown, T⟩ := hrel
    obtain ⟨hl', hcl, hcll⟩ := r.clearTo_eq k
    have hr := T.rc
    have hsz := T.keeps.size
    have hNr : wr.cell? ⟨y, 7, none⟩ = some (.int .i64 (r.N : Int)) := by rw [hcl] at hr; exact hr.cN
    have hfit := stakesTo_fit A k hk
    have htb := Pm.total_bd hfit
    have hsl := stakesTo_len r.book k
    rw [hsl] at htb
    by_cases hlt : k < r.N + 1
    · have hp := A.all 2 k (by omega) (by omega) (by omega) (by omega)
      have hst := hid (stakesTo_snoc r.book k)
      have htt := hid (show Pm.total (stakesTo r.book (k + 1)) = Pm.total (stakesTo r.book k) + allOf r.book 2 k by rw [stakesTo_snoc, Pm.total_snoc])
      have hcs := hid (show r.clearTo (k + 1) = { r.clearTo k with has := (r.clearTo k).has.set k 0 } from rfl)
      have Ak : Amt (r.clearTo k).book (r.clearTo k).N := by rw [hcl]; exact A
      have hkN : (k : Int) ≤ ((r.clearTo k).N : Int) := by rw [hcl]; show (k : Int) ≤ (r.N : Int); omega
      have hbk : (r.clearTo k).book = r.book := by rw [hcl]
      have hhk : (r.clearTo k).has.length = r.N + 1 := by rw [hcl]; show hl'.length = _; omega
      have TT := hid T
      have hq : (stakesTo r.book k).length ≤ 7 := by omega
      clear T hfit hcl hsl
      generalize stakesTo r.book k = q at *
      generalize Pm.total q = tq at *
      generalize r.clearTo k = z at *
      go_wp2_with fail
      refine (rall' hr Ak 2 k (by omega) (by omega) (by omega) hkN).mono ?_
      rintro e w1 ⟨rfl, b1⟩
      rw [hbk]
      have T1 := hid (TT.out.below b1)
      have hown1 := (Keeps.ofBelow (F := fun _ => False) b1).owns hown (fun _ _ h => h)
      have hsz1 : w.heap.size ≤ w1.heap.size := Nat.le_trans hsz b1.size
      clear hown hNr hr TT b1
      generalize allOf r.book 2 k = x at *
      go_wp2_with (at_builtin; refine wpList_append_own _ rfl _ _ 23 rfl w.heap.size 3 i0 (.int .i64 0) 1 8 Try.underlying23 hin hz0 hz1 hz2 rfl (by decide) _ _ _ rfl (hown1.alloc _) ⟨w1.heap.size, 0, none⟩ 1 1 [.int .i64 x] rfl rfl ?c1 ?c2 ?c3 ?c4 ?c5 ?_)
      case c1 =>
        intro j u hj
        match j, hj with
        | 0, hj => simp at hj; subst hj; simp [Addr.add]
      case c2 => intro u hu; simp at hu; subst hu; rfl
      case c3 => unfold maxLen; omega
      case c4 => omega
      case c5 => simp; omega
      · intro v' w2 hown' hgrow _
        obtain ⟨F, K2, hF⟩ := grown_beside hown1 hgrow
        have T2 := T1.out.side K2 (fun b hb hf => by have h1 := hft.out b hb; have h2 := hF b hf; omega) hF
        have h2 := T2.rc
        have hH : w2.cell? ⟨y, 10, none⟩ = some (v 2) := h2.cells 10 (by omega)
        obtain ⟨g, cap, hv, hcm⟩ := own_intAt h2.has (k := k) (by omega)
        have ho := h2.has
        rw [hv] at ho
        have hfz := ho.frozenAt k
        have hgl : g < w.heap.size := hft.out g (.inr ⟨2, by omega, by rw [hv]; rfl⟩)
        have T3 := hid (T2.trans (h2.set_has hv k 0))
        have O3 := hid (own_setCell hown' ⟨g, k, none⟩ (.int .i64 0) (fun e => by have h9 := (hown'.lt _ e).1; have h8 : g < w.heap.size := hgl; exact absurd h9 (Nat.not_le_of_lt h8)))
        rw [hv, hhk] at hH
        have i1 : (k : Int) < ((r.N + 1 : Nat) : Int) := by omega
        clear hown' hgrow hown1 T1 K2 hF T2 h2 ho hv
        generalize z.has.getD k 0 = hz at *
        go_wp2_with fail
        go_roundw
        case rel => exact ⟨k + 1, by omega, by go_num, by rw [htt.out], by rw [hst.out, List.map_append, List.length_append]; exact O3.out, by rw [hcs.out]; exact T3.out⟩
        case measure => simp [intOf]; omega
    · have hkn : k = r.N + 1 := by omega
      have hcz := r.clearTo_has (r.N + 1) (by omega)
      subst hkn
      have hse := c.seats
      have hde := c.delay
      obtain ⟨g, cap, hv, hcell⟩ := own_icells hown (by omega)
      subst hv
      have hgl : w.heap.size ≤ g ∧ g < wr.heap.size := hown.lt g rfl
      have hzs : (r.clearTo (r.N + 1)).seats = r.seats := by rw [hcl]
      have hzp : (r.clearTo (r.N + 1)).epoch = r.epoch := by rw [hcl]
      have hzd : (r.clearTo (r.N + 1)).delay = r.delay := by rw [hcl]
      have hzN : (r.clearTo (r.N + 1)).N = r.N := by rw [hcl]
      have hzb : (r.clearTo (r.N + 1)).book = r.book := by rw [hcl]
      have hzh : (r.clearTo (r.N + 1)).has.length = r.N + 1 := by rw [hcl]; show hl'.length = _; omega
      have hzbl : (r.clearTo (r.N + 1)).bids.length = r.N + 1 := by rw [hcl]; exact c.bids
      have hS0 : wr.cell? ⟨y, 0, none⟩ = some (.int .i64 r.seats) := by rw [← hzs]; exact hr.cells 0 (by omega)
      have hP0 : wr.cell? ⟨y, 12, none⟩ = some (.int .i64 (r.clearTo (r.N + 1)).price) := hr.cells 12 (by omega)
      have hPf := hr.frozen 12
      have S0 : Sell w B y v g (stakesTo r.book (r.N + 1)) wr (r.clearTo (r.N + 1)) v := ⟨T, hcell, fun hf => by have := hft.out g hf; omega, hgl.2⟩
      have S1 := hid (S0.step (hr.set_price 0))
      clear S0 hcell hown T hcl hr
      generalize stakesTo r.book (r.N + 1) = l at *
      generalize r.clearTo (r.N + 1) = zc at *
      by_cases hfew : Pm.total l < r.seats
      · have dd : decide (Pm.total l < r.seats) = true := by simpa using hfew
        have HR2 := hid (show { zc with price := 0 } = r' by have := HR.out; rwa [if_pos hfew] at this)
        clear HR hfew
        go_wp2_with fail
        refine bodyPost_ret (results_none rfl _ _ _) rfl ?_
        exact ⟨rfl, v, by rw [← HR2.out]; exact S1.out.to⟩
      · have dd : decide (Pm.total l < r.seats) = false := by simpa using hfew
        have HR2 := hid (show ({ zc with price := priceOf l r.seats }.sellTo l (priceOf l r.seats) (r.N + 1)).1 = r' by have := HR.out; rwa [if_neg hfew] at this)
        have htot : r.seats ≤ Pm.total l := by omega
        clear HR hfew
        go_wp2_with fail
        generalize hW : wr.setCell ⟨y, 12, none⟩ (.int .i64 0) = W at *
        have hbest := best_any (some ⟨g, 0, none⟩) cap l r.seats W S1.out.ints hfit (by omega) hse.1 hse.2 htot
        rw [hsl] at hbest
        refine hbest.mono ?_
        clear hbest
        rintro e w2 ⟨⟨p, rfl, hp⟩, hw2⟩
        subst hw2
        have hpe := priceOf_eq hfit hp
        rw [← hpe] at HR2
        have hp1 := hp.1
        have hp2 := hp.2.1
        have hrc1 := S1.out.to.rc
        have hP1 : w2.cell? ⟨y, 12, none⟩ = some (.int .i64 0) := hrc1.cells 12 (by omega)
        have hPf1 := hrc1.frozen 12
        have S2 := hid (S1.out.step (hrc1.set_price p))
        clear hrc1 S1 hW hS0 hP0 hPf
        obtain ⟨z, hz⟩ : ∃ z : RS, z = { zc with price := p } := ⟨_, rfl⟩
        have S3 := hid (show Sell w B y v g l (w2.setCell ⟨y, 12, none⟩ (.int .i64 p)) z v by rw [hz]; exact S2.out)
        rw [← hz] at HR2
        have Zs := hid (show z.seats = r.seats by rw [hz]; exact hzs)
        have zsb : 1 ≤ z.seats ∧ z.seats ≤ 10 := by rw [Zs.out]; exact hse
        have zp : z.price = p := by rw [hz]
        have ze : z.epoch = r.epoch := by rw [hz]; exact hzp
        have zd : z.delay = r.delay := by rw [hz]; exact hzd
        have zN : z.N = r.N := by rw [hz]; exact hzN
        have zb : z.book.length = r.book.length := by rw [hz]; show zc.book.length = _; rw [hzb]
        have zh : z.has.length = r.N + 1 := by rw [hz]; exact hzh
        have zbl : z.bids.length = r.N + 1 := by rw [hz]; exact hzbl
        have zc0 := hid (show ∀ j, j < r.N + 1 → z.has.getD j 0 = 0 by rw [hz]; exact hcz)
        have hdp := hid (show ∀ j, 0 ≤ l.getD j 0 / p by
          intro j
          by_cases hj : j < l.length
          · exact Int.ediv_nonneg (Pm.fit_at hfit hj).1 (by omega)
          · have : l.getD j 0 = 0 := by simp [List.getD, List.getElem?_eq_none (Nat.le_of_not_lt hj)]
            rw [this]; simp)
        have Hfit := hid hfit
        clear S2 hz hzs hzp hzd hzN hzb hzh hzbl hcz hfit hpe hp htb
        go_wp2_with fail
        go_loopw [6, 7] (fun gv i wr => ∃ k : Nat, k ≤ r.N + 1 ∧ i = .int .i64 k ∧ gv = .int .i64 (z.sellTo l p k).2 ∧ ∃ vr, Sell w B y v g l wr (z.sellTo l p k).1 vr) (fun _ i _ => r.N + 1 - (intOf i).toNat)
        case atStart => exact ⟨0, Nat.zero_le _, rfl, rfl, v, S3.out⟩
        case round =>
          clear S3 hP1 hPf1
          obtain ⟨k, hk, rfl, rfl, vr, S⟩ := hrel
          have so := z.sellTo_sold l p (by omega) hdp.out k
          obtain ⟨q, hq⟩ : ∃ q, (z.sellTo l p k).1 = q := ⟨_, rfl⟩
          obtain ⟨G, hG⟩ : ∃ G, (z.sellTo l p k).2 = G := ⟨_, rfl⟩
          rw [hq, hG] at so
          rw [hq] at S
          rw [hG]
          have hrc := S.to.rc
          have hNr : wr.cell? ⟨y, 7, none⟩ = some (.int .i64 (r.N : Int)) := by rw [← zN, ← so.N]; exact hrc.cN
          have hg0 := so.g0
          have hg1 := so.g1
          by_cases hlt : k < r.N + 1
          · have hPk : wr.cell? ⟨y, 12, none⟩ = some (.int .i64 p) := by rw [← zp, ← so.price]; exact hrc.cells 12 (by omega)
            have hck := S.cell k (by omega)
            have hxk := Pm.fit_at Hfit.out (k := k) (by omega)
            have hnk := hdp.out k
            have hnle : l.getD k 0 / p ≤ l.getD k 0 := Int.ediv_le_self _ hxk.1
            have i1 : (k : Int) < (l.length : Int) := by omega
            have hQl0 : k < q.has.length := by rw [so.hasl]; omega
            have hQ00 : q.has.getD k 0 = 0 := by rw [so.has k (Nat.le_refl _)]; exact zc0.out k hlt
            obtain ⟨n0, hn0⟩ : ∃ n0, l.getD k 0 / p = n0 := ⟨_, rfl⟩
            rw [hn0] at hnk hnle
            obtain ⟨m, hm⟩ : ∃ m, m = min (l.getD k 0 / p) (z.seats - G) := ⟨_, rfl⟩
            have Hm := hid hm
            have Hm' := hid (show m = min n0 (z.seats - G) by rw [← hn0]; exact hm)
            clear hm
            have hsq := hid (show q.seats = z.seats from so.seats)
            obtain ⟨x, hx⟩ : ∃ x, l.getD k 0 = x := ⟨_, rfl⟩
            rw [hx] at hck hxk hnle
            have hxp : x / p = n0 := by rw [← hx]; exact hn0
            by_cases hz0 : n0 = 0
            · have hbl : q.bids.length = r.N + 1 := by rw [so.bidl]; exact zbl
              obtain ⟨Q, hQ⟩ : ∃ Q : RS, Q = { q.push ⟨2, k, 0, 3, k, z.epoch + z.delay, l.getD k 0⟩ with bids := q.bids.set k 0 } := ⟨_, rfl⟩
              have HQ := hid (show Q = if l.getD k 0 / p = 0 then { q.push ⟨2, k, 0, 3, k, z.epoch + z.delay, l.getD k 0⟩ with bids := q.bids.set k 0 } else q by rw [if_pos (by omega)]; exact hQ)
              have hQl : k < Q.has.length := by rw [hQ]; exact hQl0
              have hQ0 : Q.has.getD k 0 = 0 := by rw [hQ]; exact hQ00
              have HQs := hid (show Q.seats = z.seats by rw [hQ]; exact hsq.out)
              have hQh : Q.has.length = r.N + 1 := by rw [hQ]; show q.has.length = _; rw [so.hasl]; exact zh
              rw [hx] at hQ
              have HQ2 := hid hQ
              have SS := hid S
              have hle := so.len
              have hqe := so.epoch
              have hqd := so.delay
              clear hQ S
              go_wp2_with fail
              go_quiet (fail)
              go_wp2_with fail
              have bD : Below wr.heap.size wr (wr.drewN nq) := ⟨rfl, rfl, rfl, Nat.le_refl _, fun _ _ => rfl⟩
              refine (rout (hrc.below bD) (by rw [hqe, ze]; exact he) (by rw [hqd, zd]; exact hde) k x (by omega)).mono ?_
              rintro e w3 ⟨rfl, va, t3⟩
              have hrc3 := t3.rc
              have hB3 : w3.cell? ⟨y, 9, none⟩ = some (va 1) := hrc3.cells 9 (by omega)
              obtain ⟨gb, capb, hv, hcm⟩ := own_intAt hrc3.bids (k := k) (show k < q.bids.length by omega)
              have ho := hrc3.bids
              rw [hv] at ho
              have hfz := ho.frozenAt k
              have SA := hid (show Sell w B y v g l (w3.setCell ⟨gb, k, none⟩ (.int .i64 0)) Q va by rw [HQ2.out, ← hqe, ← hqd]; exact ((SS.out.step (RTo.ofBelow hrc bD)).step t3).step (hrc3.set_bids hv k 0))
              rw [hv, show (q.push ⟨2, k, 0, 3, k, q.epoch + q.delay, x⟩).bids.length = r.N + 1 from hbl] at hB3
              have i2 : (k : Int) < ((r.N + 1 : Nat) : Int) := by omega
              clear ho hv t3 hrc3 HQ2 SS hrc hPk hck hNr
              go_wp2_with fail
              try rw [hxp]
              go_loopw [6, 8] (fun gv nv wr => ∃ j : Nat, (j : Int) ≤ m ∧ gv = .int .i64 (G + j) ∧ nv = .int .i64 (n0 - j) ∧ Sell w B y v g l wr { Q with has := Q.has.set k j } va) (fun _ nv _ => (intOf nv).toNat)
              case atStart => exact ⟨0, by have := Hm'.out; omega, by simp, by first | (simp; done) | (simp [hz0]; done), by rw [show Q.has.set k ((0 : Nat) : Int) = Q.has from set_same _ _ _ hQl (by rw [hQ0]; rfl)]; exact SA.out⟩
              case round =>
                clear SA
                obtain ⟨j, hj, rfl, rfl, S⟩ := hrel
                have hmb : m ≤ n0 ∧ m ≤ z.seats - G ∧ (m < n0 → z.seats - G ≤ m) := by have := Hm'.out; omega
                have hrc := S.to.rc
                have hS0 : wr.cell? ⟨y, 0, none⟩ = some (.int .i64 z.seats) := by rw [← HQs.out]; exact hrc.cells 0 (by omega)
                by_cases hjm : (j : Int) < m
                · exact absurd hjm (by omega)
                · have hjm2 := hid (show (j : Int) = m by omega)
                  have hjb : n0 ≤ j ∨ z.seats ≤ G + j := by have := hjm2.out; omega
                  have SS := hid S
                  have ST := hid (z.sellTo_step l p k hq hG HQ.out Hm.out)
                  clear S hrc hmb
                  by_cases e1 : 0 < n0 - j
                  · exact absurd e1 (by omega)
                  · have e2 : decide (0 < n0 - j) = false := by simp; omega
                    go_wp2_with fail
                    go_roundw
                    case rel => exact ⟨k + 1, by omega, by go_num, by rw [ST.out, ← hjm2.out], va, by rw [ST.out, ← hjm2.out]; exact SS.out⟩
                    case measure => simp [intOf]; omega
            · obtain ⟨Q, hQ⟩ : ∃ Q : RS, Q = q := ⟨_, rfl⟩
              have HQ := hid (show Q = if l.getD k 0 / p = 0 then { q.push ⟨2, k, 0, 3, k, z.epoch + z.delay, l.getD k 0⟩ with bids := q.bids.set k 0 } else q by rw [if_neg (by omega)]; exact hQ)
              have hQl : k < Q.has.length := by rw [hQ]; exact hQl0
              have hQ0 : Q.has.getD k 0 = 0 := by rw [hQ]; exact hQ00
              have HQs := hid (show Q.seats = z.seats by rw [hQ]; exact hsq.out)
              have hQh : Q.has.length = r.N + 1 := by rw [hQ]; rw [so.hasl]; exact zh
              have HQ2 := hid hQ
              have SS := hid S
              have hxp0 : ¬ x / p = 0 := by omega
              clear hQ S
              go_wp2_with fail
              go_quiet (fail)
              have bD : Below wr.heap.size wr (wr.drewN nq) := ⟨rfl, rfl, rfl, Nat.le_refl _, fun _ _ => rfl⟩
              obtain ⟨va, hva⟩ : ∃ va, va = vr := ⟨_, rfl⟩
              have SA := hid (show Sell w B y v g l (wr.drewN nq) Q va by rw [HQ2.out, hva]; exact SS.out.step (RTo.ofBelow hrc bD))
              clear HQ2 SS hrc hva
              go_wp2_with fail
              try rw [hxp]
              go_loopw [6, 8] (fun gv nv wr => ∃ j : Nat, (j : Int) ≤ m ∧ gv = .int .i64 (G + j) ∧ nv = .int .i64 (n0 - j) ∧ Sell w B y v g l wr { Q with has := Q.has.set k j } va) (fun _ nv _ => (intOf nv).toNat)
              case atStart => exact ⟨0, by have := Hm'.out; omega, by simp, by first | (simp; done) | (simp [hz0]; done), by rw [show Q.has.set k ((0 : Nat) : Int) = Q.has from set_same _ _ _ hQl (by rw [hQ0]; rfl)]; exact SA.out⟩
              case round =>
                clear SA
                obtain ⟨j, hj, rfl, rfl, S⟩ := hrel
                have hmb : m ≤ n0 ∧ m ≤ z.seats - G ∧ (m < n0 → z.seats - G ≤ m) := by have := Hm'.out; omega
                have hrc := S.to.rc
                have hS0 : wr.cell? ⟨y, 0, none⟩ = some (.int .i64 z.seats) := by rw [← HQs.out]; exact hrc.cells 0 (by omega)
                by_cases hjm : (j : Int) < m
                · have hH : wr.cell? ⟨y, 10, none⟩ = some (va 2) := hrc.cells 10 (by omega)
                  have hl1 : (Q.has.set k (j : Int)).length = r.N + 1 := by simp; omega
                  obtain ⟨gh, cap, hv, hcm⟩ := own_intAt hrc.has (k := k) (show k < (Q.has.set k (j : Int)).length by omega)
                  have ho := hrc.has
                  rw [hv] at ho
                  have hfz := ho.frozenAt k
                  have ST := hid (S.step (hrc.set_has hv k ((j + 1 : Nat) : Int)))
                  rw [hv, show ({ Q with has := Q.has.set k (j : Int) } : RS).has.length = r.N + 1 from hl1] at hH
                  rw [show ({ Q with has := Q.has.set k (j : Int) } : RS).has.getD k 0 = (j : Int) by simp [List.getD, List.getElem?_set, hQl]] at hcm
                  have hss := hid (show (Q.has.set k (j : Int)).set k ((j + 1 : Nat) : Int) = Q.has.set k ((j + 1 : Nat) : Int) by rw [List.set_set])
                  have e1 : 0 < n0 - j := by omega
                  have e2 : G + j < z.seats := by omega
                  clear ho hv S hrc hmb
                  go_wp2_with fail
                  go_roundw
                  case rel => exact ⟨j + 1, by omega, by simp; omega, by simp; omega, by have := ST.out; simp only [hss.out] at this; exact this⟩
                  case measure => simp [intOf]; omega
                · have hjm2 := hid (show (j : Int) = m by omega)
                  have hjb : n0 ≤ j ∨ z.seats ≤ G + j := by have := hjm2.out; omega
                  have SS := hid S
                  have ST := hid (z.sellTo_step l p k hq hG HQ.out Hm.out)
                  clear S hrc hmb
                  by_cases e1 : 0 < n0 - j
                  · have e2 : decide (G + j < z.seats) = false := by simp; omega
                    go_wp2_with fail
                    go_roundw
                    case rel => exact ⟨k + 1, by omega, by go_num, by rw [ST.out, ← hjm2.out], va, by rw [ST.out, ← hjm2.out]; exact SS.out⟩
                    case measure => simp [intOf]; omega
                  · have e2 : decide (0 < n0 - j) = false := by simp; omega
                    go_wp2_with fail
                    go_roundw
                    case rel => exact ⟨k + 1, by omega, by go_num, by rw [ST.out, ← hjm2.out], va, by rw [ST.out, ← hjm2.out]; exact SS.out⟩
                    case measure => simp [intOf]; omega
          · have hkn : k = r.N + 1 := by omega
            have HR3 := hid (show q = r' by rw [← hq, hkn]; exact HR2.out)
            have SS := hid S
            clear S hrc
            go_wp2_with fail
            go_end0
            exact ⟨rfl, vr, by rw [← HR3.out]; exact SS.out.to⟩
end
end Go.Proofs.Ytdfdjbhdgbbolaa
