import Derived.Test.YtdfdjbhdgbbolaaPB
import Derived.Test.YtdfdjbhdgbbolaaPriceOf
import Derived.Deep.Cut
namespace Go.Proofs.Ytdfdjbhdgbbolaa
set_option linter.unusedVariables false
set_option linter.unusedSimpArgs false
open Go.ChangeShapes Go.WideShapes Go.ChangeAt Go.RowKit

/-- How many of the seats that are left an account gets. -/
def seatsOf (locked price left : Int) : Int := if price < 1 then 0 else if left < locked / price then left else locked / price
def PS.stakesTo (s : PS) (k : Nat) : List Int := (List.range k).map (fun (a : Nat) => (s.acc a).locked)
theorem PS.stakesTo_len (s : PS) (k : Nat) : (s.stakesTo k).length = k := by simp [PS.stakesTo]
theorem PS.stakesTo_snoc (s : PS) (k : Nat) : s.stakesTo (k + 1) = s.stakesTo k ++ [(s.acc k).locked] := by simp [PS.stakesTo, List.range_succ]
theorem PS.stakesTo_fit {s : PS} (ok : s.Ok) (k : Nat) (hk : k ≤ 7) : Pm.Fit (s.stakesTo k) := by
  intro x hx
  simp only [PS.stakesTo, List.mem_map, List.mem_range] at hx
  obtain ⟨a, ha, rfl⟩ := hx
  exact ⟨(ok.acc a (by omega)).k0, (ok.acc a (by omega)).k1⟩
/-- The price at which the seats are sold: 0, if there is none. -/
def PS.salePrice (s : PS) : Int := if Pm.total (s.stakesTo 7) < s.seats then 0 else priceOf (s.stakesTo 7) s.seats
def PS.leftTo (s : PS) (p : Int) : Nat → Int
  | 0 => s.seats
  | k + 1 => s.leftTo p k - seatsOf (s.acc k).locked p (s.leftTo p k)
def sellF (s : PS) (p : Int) (q : Nat) (a : Nat) (c : Acc) : Acc := { (if c.locked < p then c.quit q else c) with seats := seatsOf c.locked p (s.leftTo p a) }
def PS.sell (s : PS) (q : Nat) : PS := { s with price := s.salePrice }.mapTo (sellF s s.salePrice q) 7
theorem seatsOf_bd {lo p l : Int} (h0 : 0 ≤ lo) (h1 : 0 ≤ l) : 0 ≤ seatsOf lo p l ∧ seatsOf lo p l ≤ l := by
  unfold seatsOf
  split
  · omega
  · have := Int.ediv_nonneg h0 (show 0 ≤ p by omega)
    split <;> omega
theorem PS.leftTo_bd {s : PS} (ok : s.Ok) (p : Int) (k : Nat) (hk : k ≤ 7) : 0 ≤ s.leftTo p k ∧ s.leftTo p k ≤ s.seats := by
  induction k with
  | zero => have := ok.seats; simp only [PS.leftTo]; omega
  | succ k ih =>
    have := ih (by omega)
    have := seatsOf_bd (p := p) (ok.acc k (by omega)).k0 this.1
    simp only [PS.leftTo]; omega

theorem Try.info_intP : (Try.prog.info? 3).map (fun i => (i.zero, i.size, i.bytes)) = some (some (.int .i64 0), 1, 8) := by kernel_rfl
theorem info_partsP {e : TypeId} {z : Value} {n b : Nat} (h : (Try.prog.info? e).map (fun i => (i.zero, i.size, i.bytes)) = some (some z, n, b)) : ∃ i0, Try.prog.info? e = some i0 ∧ i0.zero = some z ∧ i0.size = n ∧ i0.bytes = b := by
  cases hq : Try.prog.info? e with
  | none => simp [hq] at h
  | some i => simp [hq] at h; exact ⟨i, rfl, h.1, h.2.1, h.2.2⟩

section
variable {w : World} {x : Nat} {s : PS}

set_option maxHeartbeats 800000 in
theorem stakes_ok (h : SC w x s) (ok : s.Ok) :
    Calls Try.prog 76 #[.pointer (some ⟨x, 0, none⟩)] w fun e w' => ∃ v, e = .returned v ∧ w'.ownsRow w.heap.size 3 1 v (s.stakesTo 7).length ((s.stakesTo 7).map (Value.int .i64)) ∧ Below w.heap.size w w' := by
  obtain ⟨i0, hin, hz0, hz1, hz2⟩ := info_partsP Try.info_intP
  have hx := h.lt
  go_enter Try.func76, Try.ntmps76
  go_wp2_with fail
  have B0 := hid ((Below.refl w.heap.size w).alloc (Nat.le_refl _) (.cells #[] 3))
  have O0 := hid (show (w.alloc (.cells #[] 3)).ownsRow w.heap.size 3 1 (.slice (some ⟨w.heap.size, 0, none⟩) 0 0) 0 [] from ⟨rfl, .inr ⟨w.heap.size, 0, #[], rfl, Nat.le_refl _, heap_alloc_new w _, Nat.le_refl _, Nat.zero_le _, rfl, rfl⟩⟩)
  go_loopw [3, 6] (fun vs i wr => ∃ k : Nat, k ≤ 7 ∧ i = .int .i64 k ∧ wr.ownsRow w.heap.size 3 1 vs (s.stakesTo k).length ((s.stakesTo k).map (Value.int .i64)) ∧ Below w.heap.size w wr) (fun _ i _ => 7 - (intOf i).toNat)
  case atStart => exact ⟨0, by omega, rfl, O0.out, B0.out⟩
  case round =>
    clear B0 O0
    obtain ⟨k, hk, rfl, hown, hB⟩ := hrel
    have hsl := s.stakesTo_len k
    by_cases hlt : k < 7
    · have hs := h.below hB
      have c1 : wr.cell? ⟨x, 10 + k * 11 + 1, none⟩ = some (.int .i64 (s.acc k).locked) := hs.at hlt (j := 1) (by omega)
      have i1 : (k : Int) < 7 := by omega
      have hst := hid (s.stakesTo_snoc k)
      have hq : (s.stakesTo k).length ≤ 7 := by omega
      have HB := hid hB
      have hsz := hB.size
      clear hs hsl hB
      generalize s.stakesTo k = q at *
      generalize (s.acc k).locked = z at *
      go_wp2_with (at_builtin; refine wpList_append_own _ rfl _ _ 23 rfl w.heap.size 3 i0 (.int .i64 0) 1 8 Try.underlying23 hin hz0 hz1 hz2 rfl (by decide) _ _ _ rfl (hown.alloc _) ⟨wr.heap.size, 0, none⟩ 1 1 [.int .i64 z] rfl rfl ?c1 ?c2 ?c3 ?c4 ?c5 ?_)
      case c1 =>
        intro j u hj
        match j, hj with
        | 0, hj => simp at hj; subst hj; simp [Addr.add]
      case c2 => intro u hu; simp at hu; subst hu; rfl
      case c3 => unfold maxLen; omega
      case c4 => omega
      case c5 => simp; omega
      · intro v' w2 hown' hgrow _
        have B2 := hid (show Below w.heap.size w w2 from by
          have hx2 : (Below.refl w.heap.size w).size = (Below.refl w.heap.size w).size := rfl
          exact (HB.out.alloc hsz _).trans ⟨hgrow.os, hgrow.tape, hgrow.output, hgrow.size, fun i hi => hgrow.block i (by have := hsz; simp; omega) (fun e => by have := (hown.lt i e.symm).1; omega)⟩)
        clear hgrow hown
        go_wp2_with fail
        go_roundw
        case rel => exact ⟨k + 1, by omega, by go_num, by rw [hst.out, List.map_append, List.length_append]; exact hown', B2.out⟩
        case measure => simp [intOf]; omega
    · have hk7 : k = 7 := by omega
      subst hk7
      have HO := hid hown
      clear hown
      go_wp2_with fail
      go_ret
      exact ⟨_, rfl, HO.out, hB⟩

set_option maxHeartbeats 800000 in
theorem seatsfor_ok (lo p l : Int) (w : World) (h0 : 0 ≤ lo) (h1 : lo ≤ 1000000000) (hl : 0 ≤ l ∧ l ≤ 10) (hp : p ≤ 1000000000) :
    Calls Try.prog 77 #[.int .i64 lo, .int .i64 p, .int .i64 l] w fun e w' => e = .returned (.int .i64 (seatsOf lo p l)) ∧ w' = w := by
  obtain ⟨z, hz⟩ : ∃ z, seatsOf lo p l = z := ⟨_, rfl⟩
  rw [hz]
  unfold seatsOf at hz
  by_cases h2 : p < 1
  · have HZ := hid (show z = 0 by rw [← hz, if_pos h2])
    clear hz
    go_enter Try.func77, Try.ntmps77
    go_wp2_with fail
    go_ret
    exact ⟨by rw [HZ.out]; rfl, rfl⟩
  · rw [if_neg h2] at hz
    have p0 : ¬ p = 0 := by omega
    have p1 : 0 ≤ p := by omega
    have hd0 := Int.ediv_nonneg h0 p1
    have hd1 := Int.ediv_le_self p h0
    by_cases h3 : l < lo / p
    · have HZ := hid (show z = l by rw [← hz, if_pos h3])
      have dd : decide (l < lo / p) = true := by simpa using h3
      clear hz h3
      go_enter Try.func77, Try.ntmps77
      go_wp2_with fail
      go_ret
      exact ⟨by rw [HZ.out]; rfl, rfl⟩
    · have HZ := hid (show z = lo / p by rw [← hz, if_neg h3])
      have dd : decide (l < lo / p) = false := by simpa using h3
      clear hz h3
      go_enter Try.func77, Try.ntmps77
      go_wp2_with fail
      go_ret
      exact ⟨by rw [HZ.out]; rfl, rfl⟩
theorem own_intsP {w : World} {B : Nat} {v : Value} {l : List Int} (h : w.ownsRow B 3 1 v l.length (l.map (Value.int .i64))) : ∃ a cap, v = .slice a l.length cap ∧ Ints w a l := by
  have h' := h
  rcases h.2 with ⟨rfl, h0⟩ | ⟨g, cap, cur, rfl, _⟩
  · exact ⟨none, 0, by rw [h0], .inl (List.eq_nil_of_length_eq_zero h0)⟩
  · refine ⟨_, cap, rfl, .inr ⟨g, 0, rfl, fun i hi => ?_⟩⟩
    have := h'.cellAt i (by omega)
    rw [Nat.zero_add, this]; simp [List.getD, hi]

set_option maxHeartbeats 3200000 in
theorem sell_ok (h : SC w x s) (ok : s.Ok) (q : Nat) (hq : q < 5) (due : Int) (hd : due - s.epoch = (q : Int) + 1) :
    Calls Try.prog 52 #[.pointer (some ⟨x, 0, none⟩), .int .i64 due] w fun e w' => e = .returned (.tuple #[]) ∧ PTo w x w' (s.sell q) := by
  have e0 := ok.e0
  have e1 := ok.e1
  have hse := ok.seats
  have Hd := hid hd
  have hd5 : -5 ≤ due - s.epoch ∧ due - s.epoch ≤ 10 := by omega
  clear hd
  obtain ⟨s', hs'⟩ : ∃ s', s.sell q = s' := ⟨_, rfl⟩
  rw [hs']
  have HS := hid (show { s with price := s.salePrice }.mapTo (sellF s s.salePrice q) 7 = s' from hs')
  clear hs'
  go_enter Try.func52, Try.ntmps52
  go_wp2_with fail
  refine (stakes_ok h ok).mono ?_
  rintro e w1 ⟨vs, rfl, hown, b1⟩
  have T1 := PTo.ofBelow h b1
  have h1 := T1.sc
  have c1 : w1.cell? ⟨x, 1, none⟩ = some (.int .i64 s.seats) := h1.num (j := 1) (by omega)
  obtain ⟨aa, cap, hv, hI⟩ := own_intsP hown
  subst hv
  have hlen := s.stakesTo_len 7
  have hfit := s.stakesTo_fit ok 7 (by omega)
  have hpr := price_any aa cap (s.stakesTo 7) s.seats w1 hI (by rw [hlen]; unfold maxLen; omega)
  have hnb : ¬ Pm.bad (s.stakesTo 7) s.seats := by
    unfold Pm.bad
    intro hb
    rcases hb with hb | hb | hb | hb
    · omega
    · omega
    · rw [hlen] at hb; omega
    · exact hb hfit
  rw [hlen] at hpr ⊢
  have Hpr := hid hpr
  have T1h := hid T1
  clear hown hI b1 hpr T1
  go_wp2_with fail
  refine Hpr.out.mono ?_
  rintro e w2 ⟨⟨p, r, rfl, hP⟩, hw2⟩
  subst hw2
  have hpb : (p = s.salePrice ∧ r = 0 ∧ p ≤ 1000000000 ∧ 1 ≤ p) ∨ (0 = s.salePrice ∧ p = 0 ∧ r = 9) := by
    unfold PS.salePrice
    rcases hP with ⟨hb, _⟩ | ⟨_, hb, hp0, hr⟩ | ⟨_, hb, hp, hr⟩
    · exact absurd hb hnb
    · exact .inr ⟨by rw [if_pos hb], hp0, hr⟩
    · exact .inl ⟨by rw [if_neg (by omega)]; exact priceOf_eq hfit hp, hr, hp.2.1, hp.1⟩
  have c9 : w2.cell? ⟨x, 9, none⟩ = some (.int .i64 s.price) := h1.num (j := 9) (by omega)
  have f9 : w2.frozen? ⟨x, 9, none⟩ = false := h1.frozen _
  have T2 := hid (show ∀ p', p' = s.salePrice → PTo w x (w2.setCell ⟨x, 9, none⟩ (.int .i64 p')) { s with price := s.salePrice } from fun p' hp' => by rw [hp']; exact T1h.out.trans (h1.setPrice _))
  clear hP hnb hfit Hpr T1h
  rcases hpb with ⟨hp', rfl, p1, p0⟩ | ⟨hp', rfl, rfl⟩
  · have T3 := hid (T2.out p hp')
    rw [← hp'] at T3 HS
    have hleft := hid (fun k hk => PS.leftTo_bd ok p k hk)
    clear T2 hp'
    obtain ⟨z, hz⟩ : ∃ z : PS, z = { s with price := p } := ⟨_, rfl⟩
    rw [← hz] at T3 HS
    have za := hid (show z.acc = s.acc by rw [hz])
    have ze := hid (show z.epoch = s.epoch by rw [hz])
    have zs := hid (show z.seats = s.seats by rw [hz])
    clear hz
    go_upto_region 5 with fail
    generalize w2.setCell ⟨x, 9, none⟩ (.int .i64 p) = W at *
    have d1 : W.cell? ⟨x, 1, none⟩ = some (.int .i64 s.seats) := by rw [← zs.out]; exact T3.out.sc.num (j := 1) (by omega)
    clear c1 c9 f9 h1
    go_wp2_with fail
    go_loopw [7, 33] (fun lv i wr => ∃ k : Nat, k ≤ 7 ∧ i = .int .i64 k ∧ lv = .int .i64 (s.leftTo p k) ∧ PTo w x wr (z.mapTo (sellF s p q) k)) (fun _ i _ => 7 - (intOf i).toNat)
    case atStart => exact ⟨0, by omega, rfl, rfl, by rw [PS.mapTo_zero]; exact T3.out⟩
    case round =>
      clear T3 d1
      obtain ⟨k, hk, rfl, rfl, T⟩ := hrel
      have hT := T.sc
      have lb := hleft.out k hk
      by_cases hlt : k < 7
      · have i1 : (k : Int) < 7 := by omega
        have hat : (z.mapTo (sellF s p q) k).acc k = s.acc k := by rw [PS.mapTo_at, za.out]
        have c1 : wr.cell? ⟨x, 10 + k * 11 + 1, none⟩ = some (.int .i64 (s.acc k).locked) := by have := hT.at hlt (j := 1) (by omega); rwa [hat] at this
        have c3 : wr.cell? ⟨x, 10 + k * 11 + 3, none⟩ = some (.int .i64 (s.acc k).seats) := by have := hT.at hlt (j := 3) (by omega); rwa [hat] at this
        have f3 : wr.frozen? ⟨x, 10 + k * 11 + 3, none⟩ = false := hT.frozen _
        have k0 := (ok.acc k hlt).k0
        have k1 := (ok.acc k hlt).k1
        have hq0 := (ok.acc k hlt).q0 q hq
        have hq1 := (ok.acc k hlt).q1 q hq
        have sb := seatsOf_bd (p := p) k0 lb.1
        have LL := hid (show s.leftTo p (k + 1) = s.leftTo p k - seatsOf (s.acc k).locked p (s.leftTo p k) from rfl)
        have hst := hid (z.mapTo_step (sellF s p q) k)
        have hsf := hid (show sellF s p q k (s.acc k) = { (if (s.acc k).locked < p then (s.acc k).quit q else s.acc k) with seats := seatsOf (s.acc k).locked p (s.leftTo p k) } from rfl)
        generalize s.leftTo p k = lk at *
        have t1 := T.trans (hT.setSeats hlt (seatsOf (s.acc k).locked p lk))
        rw [hat] at t1
        have T1 := hid t1
        have hza := hid za.out
        go_wp2_with fail
        refine (seatsfor_ok (s.acc k).locked p lk wr k0 k1 (by omega) (by omega)).mono ?_
        rintro e w3 ⟨rfl, hw3⟩
        subst hw3
        generalize seatsOf (s.acc k).locked p lk = m at *
        have h2 := t1.sc
        clear T hT t1 hat
        go_upto_region 11 with fail
        generalize w3.setCell ⟨x, 10 + k * 11 + 3, none⟩ (.int .i64 m) = W3 at *
        obtain ⟨z3, hz3⟩ : ∃ z3, (z.mapTo (sellF s p q) k).setAcc k { s.acc k with seats := m } = z3 := ⟨_, rfl⟩
        rw [hz3] at T1 h2
        have hz3a : z3.acc k = { s.acc k with seats := m } := by rw [← hz3, PS.setAcc_same]
        have hz3e : z3.epoch = s.epoch := by rw [← hz3, ← ze.out]; rfl
        have d1 : W3.cell? ⟨x, 10 + k * 11 + 1, none⟩ = some (.int .i64 (s.acc k).locked) := by have := h2.at hlt (j := 1) (by omega); rwa [hz3a] at this
        have d3 : W3.cell? ⟨x, 10 + k * 11 + 3, none⟩ = some (.int .i64 m) := by have := h2.at hlt (j := 3) (by omega); rwa [hz3a] at this
        have d7 : W3.cell? ⟨x, 7, none⟩ = some (.int .i64 s.epoch) := by rw [← hz3e]; exact h2.num (j := 7) (by omega)
        clear c1 c3 f3
        by_cases hlo : (s.acc k).locked < p
        · rw [if_pos hlo] at hsf
          have hb1 : 0 ≤ (z3.acc k).locked ∧ (z3.acc k).locked ≤ 2000000000 := by rw [hz3a]; exact ⟨k0, by show (s.acc k).locked ≤ _; omega⟩
          have hb2 : 0 ≤ (z3.acc k).q q ∧ (z3.acc k).q q ≤ 2000000000 := by rw [hz3a]; exact ⟨hq0, by show (s.acc k).q q ≤ _; omega⟩
          have HZ := hid (show z3.setAcc k ((z3.acc k).quit q) = z.mapTo (sellF s p q) (k + 1) by
            rw [← hst.out, hza.out, hsf.out, ← hz3, PS.setAcc_setAcc, PS.setAcc_same]; rfl)
          clear hz3a hz3
          go_wp2_with fail
          refine (quit_ok h2 hlt hq (due - s.epoch) Hd.out hb1 hb2).mono ?_
          rintro e w4 ⟨rfl, t4⟩
          have H4 := hid (show PTo w x w4 (z.mapTo (sellF s p q) (k + 1)) by rw [← HZ.out]; exact T1.out.trans t4)
          clear t4 h2 d1 d3 d7
          go_wp2_with fail
          go_roundw
          case rel => exact ⟨k + 1, by omega, by go_num, by rw [LL.out], H4.out⟩
          case measure => simp [intOf]; omega
        · rw [if_neg hlo] at hsf
          have HZ := hid (show z3 = z.mapTo (sellF s p q) (k + 1) by rw [← hst.out, hza.out, hsf.out, ← hz3])
          clear hz3a hz3
          go_wp2_with fail
          go_roundw
          case rel => exact ⟨k + 1, by omega, by go_num, by rw [LL.out], by rw [← HZ.out]; exact T1.out⟩
          case measure => simp [intOf]; omega
      · have hk7 : k = 7 := by omega
        subst hk7
        go_wp2_with fail
        go_end0
        exact ⟨rfl, by rw [← HS.out]; exact T⟩
  · have T3 := hid (T2.out 0 hp')
    rw [← hp'] at T3 HS
    have hleft := hid (fun k hk => PS.leftTo_bd ok 0 k hk)
    clear T2 hp'
    obtain ⟨z, hz⟩ : ∃ z : PS, z = { s with price := 0 } := ⟨_, rfl⟩
    rw [← hz] at T3 HS
    have za := hid (show z.acc = s.acc by rw [hz])
    have ze := hid (show z.epoch = s.epoch by rw [hz])
    have zs := hid (show z.seats = s.seats by rw [hz])
    clear hz
    go_upto_region 5 with fail
    generalize w2.setCell ⟨x, 9, none⟩ (.int .i64 0) = W at *
    have d1 : W.cell? ⟨x, 1, none⟩ = some (.int .i64 s.seats) := by rw [← zs.out]; exact T3.out.sc.num (j := 1) (by omega)
    clear c1 c9 f9 h1
    go_wp2_with fail
    go_loopw [7, 33] (fun lv i wr => ∃ k : Nat, k ≤ 7 ∧ i = .int .i64 k ∧ lv = .int .i64 (s.leftTo 0 k) ∧ PTo w x wr (z.mapTo (sellF s 0 q) k)) (fun _ i _ => 7 - (intOf i).toNat)
    case atStart => exact ⟨0, by omega, rfl, rfl, by rw [PS.mapTo_zero]; exact T3.out⟩
    case round =>
      clear T3 d1
      obtain ⟨k, hk, rfl, rfl, T⟩ := hrel
      have hT := T.sc
      have lb := hleft.out k hk
      by_cases hlt : k < 7
      · have i1 : (k : Int) < 7 := by omega
        have hat : (z.mapTo (sellF s 0 q) k).acc k = s.acc k := by rw [PS.mapTo_at, za.out]
        have c1 : wr.cell? ⟨x, 10 + k * 11 + 1, none⟩ = some (.int .i64 (s.acc k).locked) := by have := hT.at hlt (j := 1) (by omega); rwa [hat] at this
        have c3 : wr.cell? ⟨x, 10 + k * 11 + 3, none⟩ = some (.int .i64 (s.acc k).seats) := by have := hT.at hlt (j := 3) (by omega); rwa [hat] at this
        have f3 : wr.frozen? ⟨x, 10 + k * 11 + 3, none⟩ = false := hT.frozen _
        have k0 := (ok.acc k hlt).k0
        have k1 := (ok.acc k hlt).k1
        have hq0 := (ok.acc k hlt).q0 q hq
        have hq1 := (ok.acc k hlt).q1 q hq
        have sb := seatsOf_bd (p := 0) k0 lb.1
        have LL := hid (show s.leftTo 0 (k + 1) = s.leftTo 0 k - seatsOf (s.acc k).locked 0 (s.leftTo 0 k) from rfl)
        have hst := hid (z.mapTo_step (sellF s 0 q) k)
        have hsf := hid (show sellF s 0 q k (s.acc k) = { (if (s.acc k).locked < 0 then (s.acc k).quit q else s.acc k) with seats := seatsOf (s.acc k).locked 0 (s.leftTo 0 k) } from rfl)
        generalize s.leftTo 0 k = lk at *
        have t1 := T.trans (hT.setSeats hlt (seatsOf (s.acc k).locked 0 lk))
        rw [hat] at t1
        have T1 := hid t1
        have hza := hid za.out
        go_wp2_with fail
        refine (seatsfor_ok (s.acc k).locked 0 lk wr k0 k1 (by omega) (by omega)).mono ?_
        rintro e w3 ⟨rfl, hw3⟩
        subst hw3
        generalize seatsOf (s.acc k).locked 0 lk = m at *
        have h2 := t1.sc
        clear T hT t1 hat
        go_upto_region 11 with fail
        generalize w3.setCell ⟨x, 10 + k * 11 + 3, none⟩ (.int .i64 m) = W3 at *
        obtain ⟨z3, hz3⟩ : ∃ z3, (z.mapTo (sellF s 0 q) k).setAcc k { s.acc k with seats := m } = z3 := ⟨_, rfl⟩
        rw [hz3] at T1 h2
        have hz3a : z3.acc k = { s.acc k with seats := m } := by rw [← hz3, PS.setAcc_same]
        have hz3e : z3.epoch = s.epoch := by rw [← hz3, ← ze.out]; rfl
        have d1 : W3.cell? ⟨x, 10 + k * 11 + 1, none⟩ = some (.int .i64 (s.acc k).locked) := by have := h2.at hlt (j := 1) (by omega); rwa [hz3a] at this
        have d3 : W3.cell? ⟨x, 10 + k * 11 + 3, none⟩ = some (.int .i64 m) := by have := h2.at hlt (j := 3) (by omega); rwa [hz3a] at this
        have d7 : W3.cell? ⟨x, 7, none⟩ = some (.int .i64 s.epoch) := by rw [← hz3e]; exact h2.num (j := 7) (by omega)
        clear c1 c3 f3
        by_cases hlo : (s.acc k).locked < 0
        · exact absurd hlo (by omega)
        · rw [if_neg hlo] at hsf
          have HZ := hid (show z3 = z.mapTo (sellF s 0 q) (k + 1) by rw [← hst.out, hza.out, hsf.out, ← hz3])
          clear hz3a hz3
          go_wp2_with fail
          go_roundw
          case rel => exact ⟨k + 1, by omega, by go_num, by rw [LL.out], by rw [← HZ.out]; exact T1.out⟩
          case measure => simp [intOf]; omega
      · have hk7 : k = 7 := by omega
        subst hk7
        go_wp2_with fail
        go_end0
        exact ⟨rfl, by rw [← HS.out]; exact T⟩
end
end Go.Proofs.Ytdfdjbhdgbbolaa
