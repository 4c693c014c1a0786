import Derived.Test.YtiokecadnmcpeabRefB
namespace Go.Proofs.Ytiokecadnmcpeab
set_option linter.unusedVariables false
set_option linter.unusedSimpArgs false
open Go.ChangeShapes Go.WideShapes Go.ChangeAt Go.RowKit

theorem Alike.leads {r q : RS} (h : Alike r q) (a : Int) (k : Nat) : q.leads a k ↔ r.leads a k := by unfold RS.leads RS.leadAt; rw [h.row]
theorem Alike.askedTo {r q : RS} (h : Alike r q) (a : Int) (k : Nat) : q.askedTo a k = r.askedTo a k := by
  induction k with
  | zero => rfl
  | succ k ih => simp only [RS.askedTo, ih, h.leads]
theorem Alike.madeTo {r q : RS} (h : Alike r q) (a : Int) (k : Nat) : q.madeTo a k = r.madeTo a k := by
  induction k with
  | zero => rfl
  | succ k ih => simp only [RS.madeTo, ih, h.leads, h.made]
theorem Alike.asked {r q : RS} (h : Alike r q) (a : Int) : q.asked a = r.asked a := by unfold RS.asked; rw [h.askedTo, h.length]
theorem Alike.mades {r q : RS} (h : Alike r q) (a : Int) : q.mades a = r.mades a := by unfold RS.mades; rw [h.madeTo, h.length]
theorem Alike.slow {r q : RS} (h : Alike r q) (a : Nat) : q.slow a = r.slow a := by unfold RS.slow; rw [h.has, h.cheat, h.mades, h.asked, h.need]
theorem Alike.othersTo {r q : RS} (h : Alike r q) (k : Nat) : q.othersTo k = r.othersTo k := by
  induction k with
  | zero => rfl
  | succ k ih => simp only [RS.othersTo, ih, h.slow, h.has, h.cheat]
theorem Alike.lazy {r q : RS} (h : Alike r q) (a : Nat) : q.lazy a = r.lazy a := by unfold RS.lazy; rw [h.othersTo, h.slow, h.N]
theorem Alike.paid {r q : RS} (h : Alike r q) (a : Nat) (rest : Int) : q.paid a rest = r.paid a rest := by unfold RS.paid RS.works; rw [h.has, h.cheat, h.lazy, h.mades, h.length]

/-- What is burnt, of the accounts below k. -/
def RS.burnTo (r : RS) : Nat → RS
  | 0 => r
  | k + 1 => if r.cheat.getD k false = true then (r.burnTo k).push ⟨2, k, 0, 0, 0, 0, allOf (r.burnTo k).book 2 k / 2⟩ else r.burnTo k
/-- The new money. -/
def RS.fresh (r : RS) : Int := if 1000000000 < supplyOf r.book + supplyOf r.book * r.rate / 1000 then 1000000000 - supplyOf r.book else supplyOf r.book * r.rate / 1000
def RS.minted (r : RS) : RS := r.push ⟨0, 0, 0, 4, 0, 0, r.fresh⟩
def RS.rest (r : RS) : Int := r.fresh - r.fresh * r.cut / 1000
/-- What is paid, to the accounts below k. -/
def RS.payTo (r : RS) (rest : Int) : Nat → RS
  | 0 => r
  | k + 1 => { (r.payTo rest k).push ⟨4, 0, 0, 2, k, 0, r.paid k rest⟩ with bids := if k < r.N then (r.payTo rest k).bids.set k (r.bids.getD k 0 + r.paid k rest) else (r.payTo rest k).bids }
def RS.money (r : RS) : RS := (r.burnTo (r.N + 1)).minted.payTo (r.burnTo (r.N + 1)).rest (r.N + 1)

theorem RS.burnTo_alike (r : RS) (k : Nat) : Alike r (r.burnTo k) := by
  induction k with
  | zero => exact Alike.refl r
  | succ k ih => simp only [RS.burnTo]; split
                 · exact ih.push _
                 · exact ih
theorem RS.burnTo_len (r : RS) (k : Nat) : (r.burnTo k).book.length ≤ r.book.length + k := by
  induction k with
  | zero => exact Nat.le_refl _
  | succ k ih => simp only [RS.burnTo]; split
                 · simp [RS.push]; omega
                 · omega
theorem RS.burnTo_bids (r : RS) (k : Nat) : (r.burnTo k).bids = r.bids := by
  induction k with
  | zero => rfl
  | succ k ih => simp only [RS.burnTo]; split
                 · exact ih
                 · exact ih
theorem RS.payTo_alike (r : RS) (rest : Int) (k : Nat) : Alike r (r.payTo rest k) := by
  induction k with
  | zero => exact Alike.refl r
  | succ k ih =>
    simp only [RS.payTo]; split
    · exact (ih.push _).bid _ _
    · exact ih.push _
theorem RS.payTo_len (r : RS) (rest : Int) (k : Nat) : (r.payTo rest k).book.length = r.book.length + k := by
  induction k with
  | zero => rfl
  | succ k ih => simp [RS.payTo, RS.push, ih]; omega
theorem RS.payTo_bid (r : RS) (rest : Int) (k : Nat) : ∀ j, k ≤ j → (r.payTo rest k).bids.getD j 0 = r.bids.getD j 0 := by
  induction k with
  | zero => intro j _; rfl
  | succ k ih =>
    intro j hj
    simp only [RS.payTo]
    split
    · rw [← ih j (by omega)]
      simp [List.getD, List.getElem?_set, show ¬ k = j by omega]
    · exact ih j (by omega)
theorem RS.paid_bd {r : RS} (c : Cfg r) (k : Nat) (rest : Int) (h0 : 0 ≤ rest) : 0 ≤ r.paid k rest ∧ r.paid k rest ≤ rest := by
  have hM := RS.mades_bd c k
  have hl := c.length
  unfold RS.paid
  split
  · refine ⟨Int.ediv_nonneg (Int.mul_nonneg h0 hM.1) (by omega), ?_⟩
    apply Int.ediv_le_of_le_mul (by omega)
    exact Int.mul_le_mul_of_nonneg_left hM.2.2 h0
  · exact ⟨Int.le_refl _, h0⟩
theorem RS.fresh_bd {r : RS} (c : Cfg r) (A : Amt r.book r.N) : 0 ≤ r.fresh ∧ r.fresh + supplyOf r.book ≤ 1000000000 := by
  have hs := A.supply
  have hr := c.rate
  have h1 : 0 ≤ supplyOf r.book * r.rate / 1000 := Int.ediv_nonneg (Int.mul_nonneg hs.1 hr.1) (by omega)
  unfold RS.fresh
  split <;> omega
theorem RS.rest_bd {r : RS} (c : Cfg r) (A : Amt r.book r.N) : 0 ≤ r.rest ∧ r.rest ≤ r.fresh := by
  have hf := r.fresh_bd c A
  have hc := c.cut
  have h1 : 0 ≤ r.fresh * r.cut / 1000 := Int.ediv_nonneg (Int.mul_nonneg hf.1 hc.1) (by omega)
  have h2 : r.fresh * r.cut / 1000 ≤ r.fresh := Int.ediv_le_of_le_mul (by omega) (Int.mul_le_mul_of_nonneg_left hc.2 hf.1)
  unfold RS.rest; omega

section
variable {w : World} {B y : Nat} {r : RS} {v : Nat → Value}

set_option maxHeartbeats 3200000 in
theorem rmoney (h : RC w B y r v) (c : Cfg r) (A : ∀ k, k ≤ r.N + 1 → Amt (r.burnTo k).book r.N) (hbd : ∀ a, 0 ≤ r.bids.getD a 0 ∧ r.bids.getD a 0 ≤ 1000000000) (hl : r.book.length * 56 + 15 * 56 ≤ 140737488355328) :
    Calls Try.prog 98 #[.pointer (some ⟨y, 0, none⟩)] w fun e w' => e = .returned (.tuple #[]) ∧ ∃ v', RTo w B y v w' r.money v' := by
  have hN1 := c.N
  have he := c.epoch
  obtain ⟨r', hr'⟩ : ∃ r', r.money = r' := ⟨_, rfl⟩
  rw [hr']
  unfold RS.money at hr'
  have HR := hid hr'
  clear hr'
  go_enter Try.func98, Try.ntmps98
  go_wp2_with fail
  go_loopw [2] (fun i wr => ∃ k : Nat, k ≤ r.N + 1 ∧ i = .int .i64 k ∧ ∃ vr, RTo w B y v wr (r.burnTo k) vr) (fun i _ => r.N + 1 - (intOf i).toNat)
  case atStart => exact ⟨0, Nat.zero_le _, rfl, v, RTo.refl h⟩
  case round =>
    obtain ⟨k, hk, rfl, vr, T⟩ := hrel
    have hr := T.rc
    have al := r.burnTo_alike k
    have len := r.burnTo_len k
    have hNr : wr.cell? ⟨y, 7, none⟩ = some (.int .i64 (r.N : Int)) := by rw [← al.N]; exact hr.cN
    have Ak := A k hk
    rw [← al.N] at Ak
    have hNe := al.N
    by_cases hlt : k < r.N + 1
    · have hC : wr.cell? ⟨y, 15, none⟩ = some (vr 5) := hr.cells 15 (by omega)
      have e1 := c.cheat
      obtain ⟨g2, cap2, hv2, hcm2⟩ := own_boolAt hr.cheat (k := k) (by rw [al.cheat]; omega)
      rw [al.cheat] at hcm2
      rw [hv2, al.cheat, e1] at hC
      have i1 : (k : Int) < ((r.N + 1 : Nat) : Int) := by omega
      have TT := hid T
      have st : r.burnTo (k + 1) = if r.cheat.getD k false = true then (r.burnTo k).push ⟨2, k, 0, 0, 0, 0, allOf (r.burnTo k).book 2 k / 2⟩ else r.burnTo k := rfl
      have hp := Ak.all 2 k (by omega) (by omega) (by omega) (by omega)
      clear T e1 hv2
      generalize r.cheat.getD k false = b at *
      cases b with
      | true =>
        rw [if_pos rfl] at st
        have ST := hid st
        clear st
        go_wp2_with fail
        refine (rall' hr Ak 2 k (by omega) (by omega) (by omega) (by omega)).mono ?_
        rintro e w1 ⟨rfl, b1⟩
        have h1 := hr.below b1
        clear hC hcm2 hNr
        go_wp2_with fail
        refine (rmove' h1 ⟨2, k, 0, 0, 0, 0, allOf (r.burnTo k).book 2 k / 2⟩ (by omega)).mono ?_
        rintro e w2 ⟨rfl, v2, t2⟩
        go_wp2_with fail
        go_roundw
        case rel => exact ⟨k + 1, by omega, by go_num, v2, by rw [ST.out]; exact (TT.out.below b1).trans t2⟩
        case measure => simp [intOf]; omega
      | false =>
        rw [if_neg (by simp)] at st
        have ST := hid st
        clear st
        go_wp2_with fail
        go_roundw
        case rel => exact ⟨k + 1, by omega, by go_num, vr, by rw [ST.out]; exact TT.out⟩
        case measure => simp [intOf]; omega
    · have hkn : k = r.N + 1 := by omega
      have HR2 := hid (show (r.burnTo k).minted.payTo (r.burnTo k).rest (r.N + 1) = r' by rw [hkn]; exact HR.out)
      clear HR hkn
      have TT := hid T
      clear T
      have cq := al.cfg c
      have hbq := hid (show ∀ a, 0 ≤ (r.burnTo k).bids.getD a 0 ∧ (r.burnTo k).bids.getD a 0 ≤ 1000000000 by rw [r.burnTo_bids]; exact hbd)
      have hlq : (r.burnTo k).book.length ≤ r.book.length + 7 := by omega
      have hRate : wr.cell? ⟨y, 2, none⟩ = some (.int .i64 (r.burnTo k).rate) := hr.cells 2 (by omega)
      have hbl := cq.bids
      clear A al len hk hbd h c
      generalize r.burnTo k = q at *
      have hsp := Ak.supply
      have hrt := cq.rate
      have hct := cq.cut
      have hsr := mul_bd hsp.1 hsp.2 hrt.1 hrt.2
      have hfb := q.fresh_bd cq Ak
      have hfr : q.fresh ≤ 1000000000 := by omega
      have hfc := mul_bd hfb.1 hfr hct.1 hct.2
      have hrb := q.rest_bd cq Ak
      have Hrest := hid (show q.fresh - q.fresh * q.cut / 1000 = q.rest from rfl)
      obtain ⟨f, hf⟩ : ∃ f, q.fresh = f := ⟨_, rfl⟩
      rw [hf] at hfb hfr hfc hrb Hrest
      have HF := hid hf
      unfold RS.fresh at hf
      go_wp2_with fail
      refine (rsupply' hr Ak).mono ?_
      rintro e w1 ⟨rfl, b1⟩
      have h1 := hr.below b1
      have hRate1 : w1.cell? ⟨y, 2, none⟩ = some (.int .i64 q.rate) := h1.cells 2 (by omega)
      clear hRate
      generalize supplyOf q.book = s at *
      by_cases hcap : 1000000000 < s + s * q.rate / 1000
      · rw [if_pos hcap] at hf
        have dd : decide (1000000000 < s + s * q.rate / 1000) = true := by simpa using hcap
        subst hf
        clear hcap
        go_wp2_with fail
        generalize 1000000000 - s = f at *
        refine (rmove' h1 ⟨0, 0, 0, 4, 0, 0, f⟩ (by omega)).mono ?_
        rintro e w2 ⟨rfl, v2, t2⟩
        have T2 := hid ((TT.out.below b1).trans t2)
        have h2 := t2.rc
        have hCut2 : w2.cell? ⟨y, 3, none⟩ = some (.int .i64 q.cut) := h2.cells 3 (by omega)
        have Hm := hid (show q.push ⟨0, 0, 0, 4, 0, 0, f⟩ = q.minted by unfold RS.minted; rw [HF.out])
        rw [Hm.out] at h2
        have HT2 := hid (show RTo w B y v w2 q.minted v2 by rw [← Hm.out]; exact T2.out)
        have alm := hid (show Alike q q.minted from (Alike.refl q).push _)
        have cm := hid (alm.out.cfg cq)
        have hbm := hid (show ∀ a, 0 ≤ q.minted.bids.getD a 0 ∧ q.minted.bids.getD a 0 ≤ 1000000000 from hbq.out)
        have hlm : q.minted.book.length ≤ r.book.length + 8 := by simp [RS.minted, RS.push]; omega
        have hNm : q.minted.N = r.N := hNe
        have hbl2 : q.minted.bids.length = r.N + 1 := by rw [← hNe]; exact hbl
        have hrest : q.rest ≤ 1000000000 := by omega
        clear t2 T2 hbq TT h1 hRate1 b1 hr hNr Ak hbl
        go_wp2_with fail
        rw [Hrest.out]
        generalize q.rest = rest at *
        generalize q.minted = z at *
        go_loopw [6] (fun i wr => ∃ k : Nat, k ≤ r.N + 1 ∧ i = .int .i64 k ∧ ∃ vx, RTo w B y v wr (z.payTo rest k) vx) (fun i _ => r.N + 1 - (intOf i).toNat)
        case atStart => exact ⟨0, Nat.zero_le _, rfl, v2, HT2.out⟩
        case round =>
          clear hCut2 h2 HT2
          obtain ⟨k, hk, rfl, vx, T⟩ := hrel
          have hx := T.rc
          have al := z.payTo_alike rest k
          have len := z.payTo_len rest k
          have hNx : wr.cell? ⟨y, 7, none⟩ = some (.int .i64 (r.N : Int)) := by rw [← hNm, ← al.N]; exact hx.cN
          by_cases hlt : k < r.N + 1
          · have pb := RS.paid_bd cm.out k rest hrb.1
            have hkN : k ≤ (z.payTo rest k).N := by rw [al.N, hNm]; omega
            have pe := al.paid k rest
            have cx := hid (al.cfg cm.out)
            have TT := hid T
            have bb := hbm.out k
            have be := z.payTo_bid rest k k (Nat.le_refl _)
            have bl := al.bids
            clear T
            go_wp2_with fail
            refine (rpaid hx cx.out k hkN rest hrb.1 hrest).mono ?_
            rintro e w3 ⟨rfl, b3⟩
            rw [pe]
            have h3 := hx.below b3
            clear hNx
            go_wp2_with fail
            refine (rmove' h3 ⟨4, 0, 0, 2, k, 0, z.paid k rest⟩ (by omega)).mono ?_
            rintro e w4 ⟨rfl, v4, t4⟩
            have h4 := t4.rc
            have hN4 : w4.cell? ⟨y, 7, none⟩ = some (.int .i64 (r.N : Int)) := by rw [← hNm, ← al.N]; exact h4.cN
            have T4 := hid ((TT.out.below b3).trans t4)
            by_cases hkn : k < r.N
            · have hB4 : w4.cell? ⟨y, 9, none⟩ = some (v4 1) := h4.cells 9 (by omega)
              obtain ⟨g, cap, hv, hcm⟩ := own_intAt h4.bids (k := k) (show k < (z.payTo rest k).bids.length by omega)
              have ho := h4.bids
              rw [hv] at ho
              have hfz := ho.frozenAt k
              have hset := h4.set_bids hv k (z.bids.getD k 0 + z.paid k rest)
              rw [hv, show ((z.payTo rest k).push ⟨4, 0, 0, 2, k, 0, z.paid k rest⟩).bids.length = r.N + 1 by show (z.payTo rest k).bids.length = _; omega] at hB4
              rw [show ((z.payTo rest k).push ⟨4, 0, 0, 2, k, 0, z.paid k rest⟩).bids.getD k 0 = z.bids.getD k 0 from be] at hcm
              have i1 : (k : Int) < ((r.N + 1 : Nat) : Int) := by omega
              have TF := hid (T4.out.drew.trans (show RTo w4.drew B y v4 (w4.drew.setCell ⟨g, k, none⟩ (.int .i64 (z.bids.getD k 0 + z.paid k rest))) _ v4 from (h4.below (Below.refl _ _).drew).set_bids hv k (z.bids.getD k 0 + z.paid k rest)))
              have ST := hid (show z.payTo rest (k + 1) = { (z.payTo rest k).push ⟨4, 0, 0, 2, k, 0, z.paid k rest⟩ with bids := (z.payTo rest k).bids.set k (z.bids.getD k 0 + z.paid k rest) } by simp only [RS.payTo]; rw [if_pos (by omega)])
              clear ho hv hset t4 pe be
              generalize z.bids.getD k 0 = bz at *
              generalize z.paid k rest = pz at *
              go_wp2_with fail
              go_region
              go_wp2_with fail
              go_roundw
              case rel => exact ⟨k + 1, by omega, by go_num, v4, by rw [ST.out]; exact TF.out⟩
              case measure => simp [intOf]; omega
            · have ST := hid (show z.payTo rest (k + 1) = (z.payTo rest k).push ⟨4, 0, 0, 2, k, 0, z.paid k rest⟩ by simp only [RS.payTo]; rw [if_neg (by omega)]; rfl)
              go_wp2_with fail
              go_roundw
              case rel => exact ⟨k + 1, by omega, by go_num, v4, by rw [ST.out]; exact T4.out⟩
              case measure => simp [intOf]; omega
          · have hkn : k = r.N + 1 := by omega
            have HR3 := hid (show z.payTo rest k = r' by rw [hkn]; exact HR2.out)
            have TT := hid T
            clear hkn HR2 T
            go_wp2_with fail
            go_end0
            exact ⟨rfl, vx, by rw [← HR3.out]; exact TT.out⟩
      · rw [if_neg hcap] at hf
        have dd : decide (1000000000 < s + s * q.rate / 1000) = false := by simpa using hcap
        subst hf
        clear hcap
        go_wp2_with fail
        generalize s * q.rate / 1000 = f at *
        refine (rmove' h1 ⟨0, 0, 0, 4, 0, 0, f⟩ (by omega)).mono ?_
        rintro e w2 ⟨rfl, v2, t2⟩
        have T2 := hid ((TT.out.below b1).trans t2)
        have h2 := t2.rc
        have hCut2 : w2.cell? ⟨y, 3, none⟩ = some (.int .i64 q.cut) := h2.cells 3 (by omega)
        have Hm := hid (show q.push ⟨0, 0, 0, 4, 0, 0, f⟩ = q.minted by unfold RS.minted; rw [HF.out])
        rw [Hm.out] at h2
        have HT2 := hid (show RTo w B y v w2 q.minted v2 by rw [← Hm.out]; exact T2.out)
        have alm := hid (show Alike q q.minted from (Alike.refl q).push _)
        have cm := hid (alm.out.cfg cq)
        have hbm := hid (show ∀ a, 0 ≤ q.minted.bids.getD a 0 ∧ q.minted.bids.getD a 0 ≤ 1000000000 from hbq.out)
        have hlm : q.minted.book.length ≤ r.book.length + 8 := by simp [RS.minted, RS.push]; omega
        have hNm : q.minted.N = r.N := hNe
        have hbl2 : q.minted.bids.length = r.N + 1 := by rw [← hNe]; exact hbl
        have hrest : q.rest ≤ 1000000000 := by omega
        clear t2 T2 hbq TT h1 hRate1 b1 hr hNr Ak hbl
        go_wp2_with fail
        rw [Hrest.out]
        generalize q.rest = rest at *
        generalize q.minted = z at *
        go_loopw [6] (fun i wr => ∃ k : Nat, k ≤ r.N + 1 ∧ i = .int .i64 k ∧ ∃ vx, RTo w B y v wr (z.payTo rest k) vx) (fun i _ => r.N + 1 - (intOf i).toNat)
        case atStart => exact ⟨0, Nat.zero_le _, rfl, v2, HT2.out⟩
        case round =>
          clear hCut2 h2 HT2
          obtain ⟨k, hk, rfl, vx, T⟩ := hrel
          have hx := T.rc
          have al := z.payTo_alike rest k
          have len := z.payTo_len rest k
          have hNx : wr.cell? ⟨y, 7, none⟩ = some (.int .i64 (r.N : Int)) := by rw [← hNm, ← al.N]; exact hx.cN
          by_cases hlt : k < r.N + 1
          · have pb := RS.paid_bd cm.out k rest hrb.1
            have hkN : k ≤ (z.payTo rest k).N := by rw [al.N, hNm]; omega
            have pe := al.paid k rest
            have cx := hid (al.cfg cm.out)
            have TT := hid T
            have bb := hbm.out k
            have be := z.payTo_bid rest k k (Nat.le_refl _)
            have bl := al.bids
            clear T
            go_wp2_with fail
            refine (rpaid hx cx.out k hkN rest hrb.1 hrest).mono ?_
            rintro e w3 ⟨rfl, b3⟩
            rw [pe]
            have h3 := hx.below b3
            clear hNx
            go_wp2_with fail
            refine (rmove' h3 ⟨4, 0, 0, 2, k, 0, z.paid k rest⟩ (by omega)).mono ?_
            rintro e w4 ⟨rfl, v4, t4⟩
            have h4 := t4.rc
            have hN4 : w4.cell? ⟨y, 7, none⟩ = some (.int .i64 (r.N : Int)) := by rw [← hNm, ← al.N]; exact h4.cN
            have T4 := hid ((TT.out.below b3).trans t4)
            by_cases hkn : k < r.N
            · have hB4 : w4.cell? ⟨y, 9, none⟩ = some (v4 1) := h4.cells 9 (by omega)
              obtain ⟨g, cap, hv, hcm⟩ := own_intAt h4.bids (k := k) (show k < (z.payTo rest k).bids.length by omega)
              have ho := h4.bids
              rw [hv] at ho
              have hfz := ho.frozenAt k
              have hset := h4.set_bids hv k (z.bids.getD k 0 + z.paid k rest)
              rw [hv, show ((z.payTo rest k).push ⟨4, 0, 0, 2, k, 0, z.paid k rest⟩).bids.length = r.N + 1 by show (z.payTo rest k).bids.length = _; omega] at hB4
              rw [show ((z.payTo rest k).push ⟨4, 0, 0, 2, k, 0, z.paid k rest⟩).bids.getD k 0 = z.bids.getD k 0 from be] at hcm
              have i1 : (k : Int) < ((r.N + 1 : Nat) : Int) := by omega
              have TF := hid (T4.out.drew.trans (show RTo w4.drew B y v4 (w4.drew.setCell ⟨g, k, none⟩ (.int .i64 (z.bids.getD k 0 + z.paid k rest))) _ v4 from (h4.below (Below.refl _ _).drew).set_bids hv k (z.bids.getD k 0 + z.paid k rest)))
              have ST := hid (show z.payTo rest (k + 1) = { (z.payTo rest k).push ⟨4, 0, 0, 2, k, 0, z.paid k rest⟩ with bids := (z.payTo rest k).bids.set k (z.bids.getD k 0 + z.paid k rest) } by simp only [RS.payTo]; rw [if_pos (by omega)])
              clear ho hv hset t4 pe be
              generalize z.bids.getD k 0 = bz at *
              generalize z.paid k rest = pz at *
              go_wp2_with fail
              go_region
              go_wp2_with fail
              go_roundw
              case rel => exact ⟨k + 1, by omega, by go_num, v4, by rw [ST.out]; exact TF.out⟩
              case measure => simp [intOf]; omega
            · have ST := hid (show z.payTo rest (k + 1) = (z.payTo rest k).push ⟨4, 0, 0, 2, k, 0, z.paid k rest⟩ by simp only [RS.payTo]; rw [if_neg (by omega)]; rfl)
              go_wp2_with fail
              go_roundw
              case rel => exact ⟨k + 1, by omega, by go_num, v4, by rw [ST.out]; exact T4.out⟩
              case measure => simp [intOf]; omega
          · have hkn : k = r.N + 1 := by omega
            have HR3 := hid (show z.payTo rest k = r' by rw [hkn]; exact HR2.out)
            have TT := hid T
            clear hkn HR2 T
            go_wp2_with fail
            go_end0
            exact ⟨rfl, vx, by rw [← HR3.out]; exact TT.out⟩
end
end Go.Proofs.Ytiokecadnmcpeab
