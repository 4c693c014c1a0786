import Derived.Test.YtiokecadnmcpeaaKSoldP
import Derived.Test.YtiokecadnmcpeaaKMint
import Derived.BigQuiet
namespace Go.Proofs.Ytiokecadnmcpeaa
set_option linter.unusedVariables false
set_option linter.unusedSimpArgs false
open Go.ChangeShapes Go.WideShapes Go.ChangeAt Go.RowKit

theorem sold_step {w w1 w2 : World} {o : Obj} {v : Value} {B e size n : Nat} {xs : List Value} (hB : Below B w w1) (hb : B ≤ w.heap.size) (hown : w1.ownsRow B e size v n xs) (hg : (w1.alloc o).grownBy w2 v.ownBlock) : Below B w w2 :=
  hB.trans ((((Keeps.refl (fun k => B ≤ k) w1).alloc o)).grown hg (fun k hk _ => (hown.lt k hk).1) |>.below (Nat.le_trans hb hB.size) (fun i hi => hi))
section
variable {w : World} {x : Nat} {s : PS}
set_option maxHeartbeats 3200000 in
set_option maxRecDepth 100000 in
theorem sold_ok (h : SC w x s) (I : s.Inv) (so : s.SoldOk) (d r c le ne : Int) (a : Option Addr) (cap : Nat) :
    Calls Try.prog 21 #[.pointer (some ⟨x, 0, none⟩), .agg #[.int .i64 s.seats, .int .i64 d, .int .i64 r, .int .i64 c, .int .i64 le, .int .i64 ne, .slice a s.N cap]] w fun e w' => e = .returned (.bool true) ∧ Below w.heap.size w w' := by
  obtain ⟨i0, hi, hz0, hz1, hz2⟩ := info_parts Try.info_int
  have ok := I.good.ok
  have hN := ok.N6
  have hse := ok.seats
  have hb := (Below.refl w.heap.size w).alloc (Nat.le_refl _) (.cells #[.int .i64 s.seats, .int .i64 d, .int .i64 r, .int .i64 c, .int .i64 le, .int .i64 ne, .slice a s.N cap] 25)
  have hg0 : (w.alloc (.cells #[.int .i64 s.seats, .int .i64 d, .int .i64 r, .int .i64 c, .int .i64 le, .int .i64 ne, .slice a s.N cap] 25)).heap[w.heap.size]? = some (.cells #[.int .i64 s.seats, .int .i64 d, .int .i64 r, .int .i64 c, .int .i64 le, .int .i64 ne, .slice a s.N cap] 25 (0, 0)) := heap_alloc_new w _
  have hS0 := hid (h.below hb)
  have HB := hid hb
  have G0 := hid hg0
  have HI := hid I
  have Hso := hid so
  have fs3 := field_st3
  clear hb hg0 h I so
  go_enter Try.func21, Try.ntmps21
  go_wp2_with fail
  refine (kseen_any hS0.out ok).mono ?_
  rintro e w1 ⟨v, rfl, ho, b1⟩
  obtain ⟨g, cp, hv⟩ := kown_form ho (by omega)
  subst hv
  have hS1 := hid (hS0.out.below b1)
  have G1 := hid ((b1.block _ (lt_of_block G0.out)).trans G0.out)
  have HB1 := hid (HB.out.trans (b1.mono HB.out.size))
  have Ho := hid ho
  clear ho b1 G0 HB hS0
  go_wp2_with fail
  go_loopw [7, 8, 9] (fun v vn i wr => ∃ k : Nat, k ≤ s.N + 1 ∧ i = .int .i64 k ∧ vn = .int .i64 (Pm.total (s.stakesTo k)) ∧ wr.ownsRow w1.heap.size 3 1 v k ((s.stakesTo k).map (Value.int .i64)) ∧ Below w1.heap.size w1 wr) (fun _ _ i _ => s.N + 1 - (intOf i).toNat)
  case atStart => exact ⟨0, Nat.zero_le _, rfl, rfl, World.ownsRow_nil _ _ _ _, Below.refl _ _⟩
  case round =>
    obtain ⟨k, hk, rfl, rfl, hown, hB⟩ := hrel
    have hsz := hB.size
    by_cases hlt : k < s.N + 1
    · have l1 : (k : Int) < ((s.N + 1 : Nat) : Int) := by omega
      have hor := (Keeps.ofBelow (F := fun _ => False) hB).owns Ho.out (fun _ _ hf => hf)
      have d1 : wr.cell? ⟨g, k * 6 + 1, none⟩ = some (.int .i64 (s.acc k).locked) := told_at hor hlt 1 (by omega)
      have hgw : g < w1.heap.size := (Ho.out.lt g rfl).2
      have HD := hid (fun W (hb : Below w1.heap.size w1 W) => show W.cell? ⟨g, k * 6 + 1, none⟩ = some (.int .i64 (s.acc k).locked) from told_at ((Keeps.ofBelow (F := fun _ => False) hb).owns Ho.out (fun _ _ hf => hf)) hlt 1 (by omega))
      have p1 := (ok.acc k (by omega)).k0
      have p2 := (ok.acc k (by omega)).k1
      have hf := Pm.total_bd (PS.stakesTo_fit ok k (by omega))
      rw [s.stakesTo_len] at hf
      have hkk : (1000000000 : Int) * (k : Int) ≤ 7000000000 := by omega
      have e1 := hid (show Pm.total (s.stakesTo (k + 1)) = Pm.total (s.stakesTo k) + (s.acc k).locked by rw [s.stakesTo_snoc, Pm.total_snoc])
      have e2 := hid (show (s.stakesTo (k + 1)).map (Value.int .i64) = (s.stakesTo k).map (Value.int .i64) ++ [.int .i64 (s.acc k).locked] by rw [s.stakesTo_snoc, List.map_append]; rfl)
      have Hown := hid hown
      have HBr := hid hB
      clear hown hB hor
      generalize (s.acc k).locked = q at *
      generalize Pm.total (s.stakesTo k) = T at *
      go_wp2_with (at_builtin; (refine wpList_append_lies _ rfl (.tmp 33) (.tmp 39) 23 rfl w1.heap.size 3 i0 (.int .i64 0) 1 8 Try.underlying23 hi hz0 hz1 hz2 rfl (by decide) _ k ((s.stakesTo k).map (Value.int .i64)) rfl (Hown.out.alloc _) ⟨wr.heap.size, 0, none⟩ 1 1 [.int .i64 q] rfl rfl (kone_lies _ _ _) (by intro u hu; simp at hu; subst hu; rfl) (by decide) (by unfold maxLen; omega) (by omega) (by simp; omega) (wr.heap.size + 1) (by simp) ?_); intro g1 cap1 w2 hown' hg hat hlt1; have hb2 := hid (sold_step HBr.out (Nat.le_refl _) Hown.out hg); have ho2 := hid (show w2.ownsRow w1.heap.size 3 1 (.slice (some ⟨g1, 0, none⟩) (k + 1) cap1) (k + 1) ((s.stakesTo (k + 1)).map (Value.int .i64)) by rw [e2.out]; exact hown'); have d2 := HD.out w2 hb2.out; clear hown' hg)
      go_roundw
      case rel => exact ⟨k + 1, by omega, by go_num, by rw [e1.out], ho2.out, hb2.out⟩
      case measure => simp [intOf]; omega
    · have hk2 : k = s.N + 1 := by omega
      subst hk2
      have l1 : ¬ ((s.N + 1 : Nat) : Int) < ((s.N + 1 : Nat) : Int) := by omega
      have hlen := s.stakesTo_len (s.N + 1)
      obtain ⟨aa, cap2, hv, hI⟩ := own_intsP (l := s.stakesTo (s.N + 1)) (by rw [hlen]; exact hown)
      rw [hlen] at hv
      subst hv
      have hS2 := hid (hS1.out.below hB)
      have G2 := hid ((hB.block _ (lt_of_block G1.out)).trans G1.out)
      have HB2 := hid (HB1.out.trans (hB.mono HB1.out.size))
      have Ho2 := hid ((Keeps.ofBelow (F := fun _ => False) hB).owns Ho.out (fun _ _ hf => hf))
      have HI2 := hid hI
      clear hown hB hI G1 HB1 Ho hS1
      go_wp2_with fail
      refine (state_any hS2.out ok).mono ?_
      rintro e w3 ⟨rfl, b3⟩
      have G3 := hid ((b3.block _ (lt_of_block G2.out)).trans G2.out)
      have HB3 := hid (HB2.out.trans (b3.mono HB2.out.size))
      have Ho3 := hid ((Keeps.ofBelow (F := fun _ => False) b3).owns Ho2.out (fun _ _ hf => hf))
      have HI3 := hid (HI2.out.below b3)
      have c0 : w3.cell? ⟨w.heap.size, 0, none⟩ = some (.int .i64 s.seats) := cell_of_row w3 w.heap.size 0 _ _ _ G3.out
      have c6 : w3.cell? ⟨w.heap.size, 6, none⟩ = some (.slice a s.N cap) := cell_of_row w3 w.heap.size 6 _ _ _ G3.out
      clear b3 G2 HB2 Ho2 HI2 hS2
      rcases Hso.out.sale with ⟨t1, t2, t3⟩ | ⟨t1, t2, t3⟩
      · have T3 := hid t3
        have t1' := t1
        clear t3
        rw [t2]
        clear t2
        generalize Pm.total (s.stakesTo (s.N + 1)) = T at *
        go_wp2_with fail
        go_loopw [6, 11] (fun vo i wr => ∃ k : Nat, k ≤ s.N + 1 ∧ i = .int .i64 k ∧ vo = .bool true ∧ Below w3.heap.size w3 wr) (fun _ i _ => s.N + 1 - (intOf i).toNat)
        case atStart => exact ⟨0, Nat.zero_le _, rfl, rfl, Below.refl _ _⟩
        case round =>
          obtain ⟨k, hk, rfl, rfl, hB⟩ := hrel
          by_cases hlt : k < s.N + 1
          · have m1 : (k : Int) < ((s.N + 1 : Nat) : Int) := by omega
            have hor := (Keeps.ofBelow (F := fun _ => False) hB).owns Ho3.out (fun _ _ hf => hf)
            have d4 : wr.cell? ⟨g, k * 6 + 4, none⟩ = some (.int .i64 (s.acc k).seats) := told_at hor hlt 4 (by omega)
            rw [T3.out k (by omega)] at d4
            have HBr := hid hB
            clear hor hB
            go_wp2_with fail
            go_roundw
            case rel => exact ⟨k + 1, by omega, by go_num, rfl, HBr.out⟩
            case measure => simp [intOf]; omega
          · have m1 : ¬ (k : Int) < ((s.N + 1 : Nat) : Int) := by omega
            have hbw := hid (HB3.out.trans (hB.mono HB3.out.size))
            clear hB
            go_wp2_with fail
            go_ret
            exact ⟨rfl, hbw.out⟩
      · have T3 := hid t3
        have hfit := PS.stakesTo_fit ok (s.N + 1) (by omega)
        have hpr := price_any aa cap2 (s.stakesTo (s.N + 1)) s.seats w3 HI3.out (by rw [hlen]; unfold maxLen; omega)
        rw [hlen] at hpr
        have Hpr := hid (hpr.mono (fun e w' hh => show e = .returned (.tuple #[.int .i64 s.price, .int .i64 0]) ∧ w' = w3 by
          obtain ⟨⟨p, r, h1, h2⟩, h3⟩ := hh
          refine ⟨?_, h3⟩
          rcases h2 with ⟨hb, _⟩ | ⟨_, hb, _⟩ | ⟨_, hb, hp, hr⟩
          · exfalso
            unfold Pm.bad at hb
            rw [hlen] at hb
            rcases hb with hb | hb | hb | hb
            · omega
            · omega
            · omega
            · exact hb hfit
          · omega
          · rw [h1, hr, Pm.price_unique hfit hp t2]))
        have t1' : ¬ Pm.total (s.stakesTo (s.N + 1)) < s.seats := by omega
        have hp1 := t2.1
        have hp2 : ¬ s.price < 1 := by omega
        have hp0 : ¬ s.price = 0 := by omega
        have HLb := hid (fun k hk => PS.leftTo_bd ok s.price k hk)
        have HBid := hid Hso.out.bid
        clear t3 t1 hpr hfit
        generalize Pm.total (s.stakesTo (s.N + 1)) = T at *
        go_wp2_with fail
        refine Hpr.out.mono ?_
        rintro e w4 ⟨rfl, rfl⟩
        go_wp2_with fail
        go_loopw [6, 14, 15] (fun vo vl i wr => ∃ k : Nat, k ≤ s.N + 1 ∧ i = .int .i64 k ∧ vo = .bool true ∧ vl = .int .i64 (s.leftTo s.price k) ∧ Below w4.heap.size w4 wr) (fun _ _ i _ => s.N + 1 - (intOf i).toNat)
        case atStart => exact ⟨0, Nat.zero_le _, rfl, rfl, rfl, Below.refl _ _⟩
        case round =>
          obtain ⟨k, hk, rfl, rfl, rfl, hB⟩ := hrel
          by_cases hlt : k < s.N + 1
          · have m1 : (k : Int) < ((s.N + 1 : Nat) : Int) := by omega
            have hor := (Keeps.ofBelow (F := fun _ => False) hB).owns Ho3.out (fun _ _ hf => hf)
            have d1 : wr.cell? ⟨g, k * 6 + 1, none⟩ = some (.int .i64 (s.acc k).locked) := told_at hor hlt 1 (by omega)
            have d2 : wr.cell? ⟨g, k * 6 + 2, none⟩ = some (.int .i64 (s.acc k).bid) := told_at hor hlt 2 (by omega)
            have d4 : wr.cell? ⟨g, k * 6 + 4, none⟩ = some (.int .i64 (s.acc k).seats) := told_at hor hlt 4 (by omega)
            have e6 : wr.cell? ⟨w.heap.size, 6, none⟩ = some (.slice a s.N cap) := (hB.cell (block_lt_of_cell c6)).trans c6
            have p1 := (ok.acc k (by omega)).k0
            have p2 := (ok.acc k (by omega)).k1
            have hseat := T3.out k (by omega)
            have hlb := HLb.out k (by omega)
            have hq0 := Int.ediv_nonneg p1 (show 0 ≤ s.price by omega)
            have hq1 : (s.acc k).locked / s.price ≤ 1000000000 := Int.le_trans (Int.ediv_le_self _ p1) p2
            have hE := hid (show s.leftTo s.price (k + 1) = s.leftTo s.price k - seatsOf (s.acc k).locked s.price (s.leftTo s.price k) from rfl)
            have HBr := hid hB
            have HBk := HBid.out k
            clear hor hB
            unfold seatsOf at hseat hE
            rw [if_neg (by omega)] at hseat hE
            generalize (s.acc k).seats = sk at *
            generalize hbk : (s.acc k).bid = bk at *
            generalize (s.acc k).locked = q at *
            generalize s.leftTo s.price k = L at *
            clear hbk
            by_cases hgt : L < q / s.price
            · rw [if_pos hgt] at hseat hE
              subst hseat
              by_cases hkN : k = s.N
              · subst hkN
                have hkb : ((s.N : Int) == (s.N : Int)) = true := by simp
                go_wp2_with fail
                go_quiet (fail)
                go_wp2_with fail
                have hb5 := hid (below_dn HBr.out nq)
                go_roundw
                case rel => exact ⟨s.N + 1, by omega, by go_num, rfl, by have hE2 := hE.out; first | (rw [hE2]; done) | (rw [hE2]; congr 1; omega) | (rw [hE2]; congr 1), hb5.out⟩
                case measure => simp [intOf] <;> omega
              · have hkb : ((k : Int) == (s.N : Int)) = false := by simp; omega
                have hbb := HBk (by omega)
                subst hbb
                go_wp2_with fail
                go_quiet (fail)
                go_wp2_with fail
                have hb5 := hid (below_dn HBr.out nq)
                go_roundw
                case rel => exact ⟨k + 1, by omega, by go_num, rfl, by have hE2 := hE.out; first | (rw [hE2]; done) | (rw [hE2]; congr 1; omega) | (rw [hE2]; congr 1), hb5.out⟩
                case measure => simp [intOf]; omega
            · rw [if_neg hgt] at hseat hE
              subst hseat
              by_cases hkN : k = s.N
              · subst hkN
                have hkb : ((s.N : Int) == (s.N : Int)) = true := by simp
                go_wp2_with fail
                go_quiet (fail)
                go_wp2_with fail
                have hb5 := hid (below_dn HBr.out nq)
                go_roundw
                case rel => exact ⟨s.N + 1, by omega, by go_num, rfl, by have hE2 := hE.out; first | (rw [hE2]; done) | (rw [hE2]; congr 1; omega) | (rw [hE2]; congr 1), hb5.out⟩
                case measure => simp [intOf] <;> omega
              · have hkb : ((k : Int) == (s.N : Int)) = false := by simp; omega
                have hbb := HBk (by omega)
                subst hbb
                go_wp2_with fail
                go_quiet (fail)
                go_wp2_with fail
                have hb5 := hid (below_dn HBr.out nq)
                go_roundw
                case rel => exact ⟨k + 1, by omega, by go_num, rfl, by have hE2 := hE.out; first | (rw [hE2]; done) | (rw [hE2]; congr 1; omega) | (rw [hE2]; congr 1), hb5.out⟩
                case measure => simp [intOf]; omega
          · have m1 : ¬ (k : Int) < ((s.N + 1 : Nat) : Int) := by omega
            have hbw := hid (HB3.out.trans (hB.mono HB3.out.size))
            clear hB
            go_wp2_with fail
            go_ret
            exact ⟨rfl, hbw.out⟩
end
end Go.Proofs.Ytiokecadnmcpeaa
