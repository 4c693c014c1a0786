import Derived.Test.YtiokecadnmcpeaaKBack
namespace Go.Proofs.Ytiokecadnmcpeaa
set_option linter.unusedVariables false
set_option linter.unusedSimpArgs false
open Go.ChangeShapes Go.WideShapes Go.ChangeAt Go.RowKit

theorem PS.QOk.sum {t : PS} (h : t.QOk) (D : Nat) (hD : t.delay = (D : Int)) (h5 : D ≤ 5) (a : Nat) (ha : a < 7) : sumTo (fun m => (t.acc a).q m) D = (t.acc a).queued := by
  have e := sumTo_far (f := fun m => (t.acc a).q m) D 5 h5 (fun k h1 h2 => h a ha k (by omega) h2)
  rw [← e]
  unfold Acc.queued
  simp only [sumTo]
  omega

section
variable {w : World} {x : Nat} {s : PS}
set_option maxHeartbeats 6400000 in
set_option maxRecDepth 100000 in
theorem kback_ok (h : SC w x s) (I : s.Inv) (qo : s.QOk) (he : s.epoch ≤ 4611686018427387904) (c0 r c le ne : Int) (a : Option Addr) (cap : Nat) (seed : Int) (hs1 : -9223372036854775808 ≤ seed) (hs2 : seed ≤ 9223372036854775807) :
    Calls Try.prog 19 #[.pointer (some ⟨x, 0, none⟩), .agg #[.int .i64 c0, .int .i64 s.delay, .int .i64 r, .int .i64 c, .int .i64 le, .int .i64 ne, .slice a s.N cap], .int .i64 seed] w fun e w' => e = .returned (.bool true) ∧ PTo w x w' (s.next seed) := by
  obtain ⟨i0, hi, hz0, hz1, hz2⟩ := info_parts Try.info_ints
  have ok := I.good.ok
  have hN := ok.N6
  have hd := ok.delay
  obtain ⟨D, hD⟩ : ∃ D : Nat, s.delay = (D : Int) := ⟨s.delay.toNat, by omega⟩
  have hD5 : 2 ≤ D ∧ D ≤ 5 := by omega
  have hb := (Below.refl w.heap.size w).alloc (Nat.le_refl _) (.cells #[.int .i64 c0, .int .i64 s.delay, .int .i64 r, .int .i64 c, .int .i64 le, .int .i64 ne, .slice a s.N cap] 25)
  have hg0 : (w.alloc (.cells #[.int .i64 c0, .int .i64 s.delay, .int .i64 r, .int .i64 c, .int .i64 le, .int .i64 ne, .slice a s.N cap] 25)).heap[w.heap.size]? = some (.cells #[.int .i64 c0, .int .i64 s.delay, .int .i64 r, .int .i64 c, .int .i64 le, .int .i64 ne, .slice a s.N cap] 25 (0, 0)) := heap_alloc_new w _
  have hz' : (w.alloc (.cells #[.int .i64 c0, .int .i64 s.delay, .int .i64 r, .int .i64 c, .int .i64 le, .int .i64 ne, .slice a s.N cap] 25)).heap.size = w.heap.size + 1 := by simp
  have T0 := hid (PTo.ofBelow h hb)
  have G0 := hid hg0
  have Hz := hid hz'
  have hxl := h.lt
  have HI := hid I
  have Hqo := hid qo
  have HD := hid hD
  have Hdue := hid (fun (W : World) (t : PS) (hS : SC W x t) (tok : t.Ok) (te : t.epoch ≤ 4611686018427387905) (td : t.delay = s.delay) (i : Nat) (hiN : i ≤ t.N) => show Calls Try.prog 43 #[.pointer (some ⟨x, 0, none⟩), .agg #[.int .i64 c0, .int .i64 s.delay, .int .i64 r, .int .i64 c, .int .i64 le, .int .i64 ne, .slice a s.N cap], .int .i64 i] W (fun e w' => ∃ g cp, e = .returned (.tuple #[.slice (some ⟨g, 0, none⟩) D cp, .bool true]) ∧ w'.ownsRow W.heap.size 3 1 (.slice (some ⟨g, 0, none⟩) D cp) D (t.dues i D) ∧ Below W.heap.size W w') from by rw [← td]; exact kdue_any hS tok te i hiN c0 r c le ne (.slice a s.N cap) rfl D (by rw [td]; exact hD))
  have Hnx := hid (fun W (hS : SC W x s) => next_ok hS (PS.Good.nextOk I.good I.low he) seed hs1 hs2)
  clear hb hg0 hz' h I qo hD
  go_enter Try.func19, Try.ntmps19
  go_wp2_with fail
  refine (kseen_any T0.out.sc ok).mono ?_
  rintro e w1 ⟨v, rfl, ho, b1⟩
  rw [Hz.out] at ho
  obtain ⟨ga, cpa, hv⟩ := kown_form ho (by omega)
  subst hv
  have T1 := hid (T0.out.below b1)
  have G1 := hid ((b1.block _ (lt_of_block G0.out)).trans G0.out)
  have Ho := hid ho
  have hsz1 : w.heap.size + 1 ≤ w1.heap.size := by have := b1.size; rw [Hz.out] at this; exact this
  clear ho b1 G0 T0 Hz
  go_wp2_with fail
  go_loopw [9, 10, 11] (fun vo v i wr => ∃ (k : Nat) (f : Nat → Nat × Nat), k ≤ s.N + 1 ∧ i = .int .i64 k ∧ vo = .bool true ∧ Ahead wr w1.heap.size v k D s f ∧ Below w1.heap.size w1 wr) (fun _ _ i _ => s.N + 1 - (intOf i).toNat)
  case atStart => exact ⟨0, fun _ => (0, 0), Nat.zero_le _, rfl, rfl, Ahead.nil _ _ _ _ _, Below.refl _ _⟩
  case round =>
    obtain ⟨k, f, hk, rfl, rfl, A, hB⟩ := hrel
    have hsz := hB.size
    by_cases hlt : k ≤ s.N
    · have l1 : (k : Int) ≤ (s.N : Int) := by omega
      have hgr := (hB.block _ (lt_of_block G1.out)).trans G1.out
      have f0 : wr.cell? ⟨w.heap.size, 0, none⟩ = some (.int .i64 c0) := cell_of_row wr w.heap.size 0 _ _ _ hgr
      have f1 : wr.cell? ⟨w.heap.size, 1, none⟩ = some (.int .i64 s.delay) := cell_of_row wr w.heap.size 1 _ _ _ hgr
      have f2 : wr.cell? ⟨w.heap.size, 2, none⟩ = some (.int .i64 r) := cell_of_row wr w.heap.size 2 _ _ _ hgr
      have f3 : wr.cell? ⟨w.heap.size, 3, none⟩ = some (.int .i64 c) := cell_of_row wr w.heap.size 3 _ _ _ hgr
      have f4 : wr.cell? ⟨w.heap.size, 4, none⟩ = some (.int .i64 le) := cell_of_row wr w.heap.size 4 _ _ _ hgr
      have f5 : wr.cell? ⟨w.heap.size, 5, none⟩ = some (.int .i64 ne) := cell_of_row wr w.heap.size 5 _ _ _ hgr
      have f6 : wr.cell? ⟨w.heap.size, 6, none⟩ = some (.slice a s.N cap) := cell_of_row wr w.heap.size 6 _ _ _ hgr
      have Tr := hid (T1.out.below hB)
      have HA := hid A
      have HBr := hid hB
      clear A hB hgr
      go_wp2_with fail
      refine (Hdue.out _ s Tr.out.sc ok (by omega) rfl k hlt).mono ?_
      rintro e w2 ⟨g, cp, rfl, hd2, b2⟩
      have A2 := hid (HA.out.below b2)
      have hgv := hid (show u10.ownBlock ≠ some g from fun e2 => by have h1 := (HA.out.row.lt g e2).2; have h2 := (hd2.lt g rfl).1; omega)
      have D2 := hid (kown_mono hd2 hsz)
      have HB2 := hid (HBr.out.trans (b2.mono hsz))
      have hsz2 := b2.size
      clear b2 hd2 HA HBr Tr
      go_wp2_with (at_builtin; (refine wpList_append_lies _ rfl (.tmp 45) (.tmp 47) 79 rfl w1.heap.size 23 i0 (.slice none 0 0) 1 24 Try.underlying79 hi hz0 hz1 hz2 rfl (by decide) _ k ((List.range k).map (fun i => Value.slice (some ⟨(f i).1, 0, none⟩) D (f i).2)) rfl (A2.out.row.alloc _) ⟨w2.heap.size, 0, none⟩ 1 1 [.slice (some ⟨g, 0, none⟩) D cp] rfl rfl (kone_lies _ _ _) (by intro u hu; simp at hu; subst hu; rfl) (by decide) (by unfold maxLen; omega) (by omega) (by simp; omega) (w2.heap.size + 1) (by simp) ?_); intro g1 cap1 w3 hown' hg hat hlt1; have P := A2.out.push D2.out hgv.out hg hat hown'; have A3 := hid P.1; have hb3 := hid (HB2.out.trans (P.2.below (B := w1.heap.size) (by omega) (fun q hq => (A2.out.row.lt q hq).1))); clear hown' hg P)
      go_roundw
      case rel => exact ⟨k + 1, _, by omega, by go_num, rfl, A3.out, hb3.out⟩
      case measure => simp [intOf]; omega
    · have hk2 : k = s.N + 1 := by omega
      subst hk2
      have l1 : ¬ ((s.N + 1 : Nat) : Int) ≤ (s.N : Int) := by omega
      obtain ⟨gh, cph, hv⟩ := kown_form A.row (by omega)
      subst hv
      have T2 := hid (T1.out.below hB)
      have G2 := hid ((hB.block _ (lt_of_block G1.out)).trans G1.out)
      have Ho2 := hid ((Keeps.ofBelow (F := fun _ => False) hB).owns Ho.out (fun _ _ hf => hf))
      have HA := hid A
      clear A hB G1 T1 Ho
      go_wp2_with fail
      refine (Hnx.out _ T2.out.sc).mono ?_
      rintro e w3 ⟨rfl, t3⟩
      have bo := back_next HI.out.good seed
      have tok := (PS.Good.next HI.out.good HI.out.low he seed).ok
      have hnum := s.next_num seed
      have tq := (Hqo.out.next HI.out.good seed)
      have T3 := hid (T2.out.trans t3)
      have A3 := hid (HA.out.keeps t3.keeps (fun q hq e2 => by have : q = x := e2; omega))
      have G3 := hid ((t3.keeps.block _ (lt_of_block G2.out) (by show ¬ w.heap.size = x; omega)).trans G2.out)
      have Ho3 := hid (t3.keeps.owns Ho2.out (fun q hq e2 => by have : q = x := e2; have := (Ho2.out.lt q hq).1; omega))
      have hsz3 := t3.keeps.size
      have tp := hid (fun i hi => (PS.Good.next HI.out.good HI.out.low he seed).pos i hi)
      have tsu := hid (fun i hi => tok.acc i hi)
      generalize ht : s.next seed = t at *
      have Ht := hid ht
      clear ht
      have tN := hnum.1
      have td := hnum.2.2.1
      have te : t.epoch ≤ 4611686018427387905 := by have := hnum.2.2.2.2.2.2.2; omega
      have Bo := hid bo
      have Tq := hid tq
      have Hsum := hid (fun i hi => tq.sum D (by rw [td]; exact HD.out) hD5.2 i hi)
      have Td := hid td
      have TN := hid tN
      clear hnum bo tq t3 HA G2 Ho2 T2 td
      go_wp2_with fail
      have hse := kseen_any T3.out.sc tok
      rw [tN] at hse
      refine hse.mono ?_
      rintro e w4 ⟨v, rfl, ho4, b4⟩
      obtain ⟨gb, cpb, hv⟩ := kown_form ho4 (by omega)
      subst hv
      have T4 := hid (T3.out.below b4)
      have A4 := hid (A3.out.below b4)
      have G4 := hid ((b4.block _ (lt_of_block G3.out)).trans G3.out)
      have Hoa := hid ((Keeps.ofBelow (F := fun _ => False) b4).owns Ho3.out (fun _ _ hf => hf))
      have Hob := hid ho4
      clear hse b4 ho4 T3 A3 G3 Ho3 tN
      go_wp2_with fail
      go_loopw [16] (fun i wr => ∃ k : Nat, k ≤ s.N + 1 ∧ i = .int .i64 k ∧ Below w4.heap.size w4 wr) (fun i _ => s.N + 1 - (intOf i).toNat)
      case atStart => exact ⟨0, Nat.zero_le _, rfl, Below.refl _ _⟩
      case round =>
        obtain ⟨k, hk, rfl, hB⟩ := hrel
        have hsz := hB.size
        by_cases hlt : k ≤ s.N
        · have m1 : (k : Int) ≤ (s.N : Int) := by omega
          have hgr := (hB.block _ (lt_of_block G4.out)).trans G4.out
          have f0 : wr.cell? ⟨w.heap.size, 0, none⟩ = some (.int .i64 c0) := cell_of_row wr w.heap.size 0 _ _ _ hgr
          have f1 : wr.cell? ⟨w.heap.size, 1, none⟩ = some (.int .i64 s.delay) := cell_of_row wr w.heap.size 1 _ _ _ hgr
          have f2 : wr.cell? ⟨w.heap.size, 2, none⟩ = some (.int .i64 r) := cell_of_row wr w.heap.size 2 _ _ _ hgr
          have f3 : wr.cell? ⟨w.heap.size, 3, none⟩ = some (.int .i64 c) := cell_of_row wr w.heap.size 3 _ _ _ hgr
          have f4 : wr.cell? ⟨w.heap.size, 4, none⟩ = some (.int .i64 le) := cell_of_row wr w.heap.size 4 _ _ _ hgr
          have f5 : wr.cell? ⟨w.heap.size, 5, none⟩ = some (.int .i64 ne) := cell_of_row wr w.heap.size 5 _ _ _ hgr
          have f6 : wr.cell? ⟨w.heap.size, 6, none⟩ = some (.slice a s.N cap) := cell_of_row wr w.heap.size 6 _ _ _ hgr
          have Tr := hid (T4.out.below hB)
          have Ar := hid (A4.out.below hB)
          have Hoar := hid ((Keeps.ofBelow (F := fun _ => False) hB).owns Hoa.out (fun _ _ hf => hf))
          have Hobr := hid ((Keeps.ofBelow (F := fun _ => False) hB).owns Hob.out (fun _ _ hf => hf))
          have HBr := hid hB
          clear hgr hB
          go_wp2_with fail
          refine (Hdue.out _ t Tr.out.sc tok te Td.out k (by have := TN.out; omega)).mono ?_
          rintro e w5 ⟨gd, cpd, rfl, hd5, b5⟩
          have A5 := hid (Ar.out.below b5)
          have Hoa5 := hid ((Keeps.ofBelow (F := fun _ => False) b5).owns Hoar.out (fun _ _ hf => hf))
          have Hob5 := hid ((Keeps.ofBelow (F := fun _ => False) b5).owns Hobr.out (fun _ _ hf => hf))
          have Hd5 := hid hd5
          have HB5 := hid (HBr.out.trans (b5.mono hsz))
          clear hd5 b5 Ar Hoar Hobr HBr Tr f0 f1 f2 f3 f4 f5 f6
          go_wp2_with fail
          go_loopw [19, 20] (fun va vj wq => ∃ j : Nat, j ≤ D ∧ vj = .int .i64 j ∧ va = .int .i64 (sumTo (fun m => (t.acc k).q m) j) ∧ Below w5.heap.size w5 wq) (fun _ vj _ => D - (intOf vj).toNat)
          case atStart => exact ⟨0, Nat.zero_le _, rfl, rfl, Below.refl _ _⟩
          case round =>
            obtain ⟨j, hj, rfl, rfl, hBq⟩ := hrel
            have sb := sumTo_bd (fun m => (t.acc k).q m) 1000000000 5 (fun m hm => ⟨(tp.out k (by omega)).q0 m hm, (tsu.out k (by omega)).q1 m hm⟩) j (by omega)
            have hkj : (1000000000 : Int) * (j : Int) ≤ 5000000000 := by omega
            by_cases hjl : j < D
            · have n1 : (j : Int) < (D : Int) := by omega
              have dj : wr.cell? ⟨gd, j, none⟩ = some (.int .i64 ((t.acc k).q j)) := (hBq.cell (block_lt_of_cell ((Hd5.out.cellAt j (by omega)).trans (t.dues_at k D j hjl)))).trans ((Hd5.out.cellAt j (by omega)).trans (t.dues_at k D j hjl))
              have Aq := A5.out.below hBq
              have ch : wr.cell? ⟨gh, k, none⟩ = some (.slice (some ⟨(f k).1, 0, none⟩) D (f k).2) := Aq.at (by omega)
              have E1 := hid (show sumTo (fun m => (t.acc k).q m) (j + 1) = sumTo (fun m => (t.acc k).q m) j + (t.acc k).q j from rfl)
              have q0 := (tp.out k (by omega)).q0 j (by omega)
              have q1 := (tsu.out k (by omega)).q1 j (by omega)
              have kN : (k : Int) < ((s.N + 1 : Nat) : Int) := by omega
              have HBq := hid hBq
              have HAq := hid Aq
              clear hBq Aq
              by_cases hj2 : j + 2 < D
              · have n2 : (j : Int) + 1 < (D : Int) := by omega
                have n3 : (j : Int) + 2 < (D : Int) := by omega
                have ca : wr.cell? ⟨(f k).1, j + 1, none⟩ = some (.int .i64 ((t.acc k).q j)) := by
                  rw [Bo.out.q k (by omega) j (by omega) (by have := HD.out; omega)]; exact HAq.out.cells k (by omega) (j + 1) (by omega)
                generalize (t.acc k).q j = qv at *
                generalize sumTo (fun m => (t.acc k).q m) j = Sv at *
                go_wp2_with fail
                go_quiet (fail)
                go_wp2_with fail
                have hb7 := hid (below_dn HBq.out nq)
                go_roundw
                case rel => exact ⟨j + 1, by omega, by go_num, by rw [E1.out], hb7.out⟩
                case measure => simp [intOf]; omega
              · have n3 : ¬ (j : Int) + 2 < (D : Int) := by omega
                have n3' : decide ((j : Int) + 2 < (D : Int)) = false := decide_eq_false n3
                generalize (t.acc k).q j = qv at *
                generalize sumTo (fun m => (t.acc k).q m) j = Sv at *
                by_cases hj1 : j + 1 < D
                · have n2 : (j : Int) + 1 < (D : Int) := by omega
                  go_wp2_with fail
                  go_quiet (fail)
                  go_wp2_with fail
                  have hb7 := hid (below_dn HBq.out nq)
                  go_roundw
                  case rel => exact ⟨j + 1, by omega, by go_num, by rw [E1.out], hb7.out⟩
                  case measure => simp [intOf]; omega
                · have n2 : ¬ (j : Int) + 1 < (D : Int) := by omega
                  have n2' : decide ((j : Int) + 1 < (D : Int)) = false := decide_eq_false n2
                  go_wp2_with fail
                  go_quiet (fail)
                  go_wp2_with fail
                  have hb7 := hid (below_dn HBq.out nq)
                  go_roundw
                  case rel => exact ⟨j + 1, by omega, by go_num, by rw [E1.out], hb7.out⟩
                  case measure => simp [intOf]; omega
            · have hjD : j = D := by omega
              have n1 : ¬ (j : Int) < (D : Int) := by omega
              have hsv : sumTo (fun m => (t.acc k).q m) j = (t.acc k).queued := by rw [hjD]; exact Hsum.out k (by omega)
              rw [hsv]
              have hob := (Keeps.ofBelow (F := fun _ => False) hBq).owns Hob5.out (fun _ _ hf => hf)
              have hoa := (Keeps.ofBelow (F := fun _ => False) hBq).owns Hoa5.out (fun _ _ hf => hf)
              have Aq := A5.out.below hBq
              have bq : wr.cell? ⟨gb, k * 6 + 3, none⟩ = some (.int .i64 (t.acc k).queued) := told_at hob (by omega) 3 (by omega)
              have bl : wr.cell? ⟨gb, k * 6, none⟩ = some (.int .i64 (t.acc k).liquid) := told_at hob (by omega) 0 (by omega)
              have al : wr.cell? ⟨ga, k * 6, none⟩ = some (.int .i64 (s.acc k).liquid) := told_at hoa (by omega) 0 (by omega)
              have ch : wr.cell? ⟨gh, k, none⟩ = some (.slice (some ⟨(f k).1, 0, none⟩) D (f k).2) := Aq.at (by omega)
              have ca : wr.cell? ⟨(f k).1, 0, none⟩ = some (.int .i64 ((s.acc k).q 0)) := Aq.cells k (by omega) 0 (by omega)
              have kN : (k : Int) < ((s.N + 1 : Nat) : Int) := by omega
              have HBw := hid (HB5.out.trans (hBq.mono HB5.out.size))
              have D0 : (0 : Int) < (D : Int) := by omega
              have la0 := (ok.acc k (by omega)).l0
              have la1 := (ok.acc k (by omega)).l1
              have qa0 := (ok.acc k (by omega)).q0 0 (by omega)
              have qa1 := (ok.acc k (by omega)).q1 0 (by omega)
              clear hob hoa Aq hBq hsv
              by_cases hkN : k < s.N
              · rw [Bo.out.liq k (by omega) (by omega)] at bl
                have m2 : (k : Int) < (s.N : Int) := by omega
                have m3 : ((k : Int) == (s.N : Int)) = false := by simp; omega
                generalize (t.acc k).queued = qd at *
                generalize (s.acc k).liquid = la at *
                generalize (s.acc k).q 0 = qz at *
                go_wp2_with fail
                go_quiet (fail)
                go_wp2_with fail
                have hb8 := hid (below_dn HBw.out nq)
                go_roundw
                case rel => exact ⟨k + 1, by omega, by go_num, hb8.out⟩
                case measure => simp [intOf]; omega
              · have hkN2 : k = s.N := by omega
                have hp := Bo.out.pool
                rw [← hkN2] at hp
                rw [hp] at bl
                have m2 : ¬ (k : Int) < (s.N : Int) := by omega
                have m2' : decide ((k : Int) < (s.N : Int)) = false := decide_eq_false m2
                have m3 : ((k : Int) == (s.N : Int)) = true := by simp; omega
                generalize (t.acc k).queued = qd at *
                generalize (s.acc k).liquid = la at *
                generalize (s.acc k).q 0 = qz at *
                clear hp hkN2
                go_wp2_with fail
                go_quiet (fail)
                go_wp2_with fail
                have hb8 := hid (below_dn HBw.out nq)
                go_roundw
                case rel => exact ⟨k + 1, by omega, by go_num, hb8.out⟩
                case measure => simp [intOf]; omega
        · have m1 : ¬ (k : Int) ≤ (s.N : Int) := by omega
          have Tf := hid (T4.out.below hB)
          clear hB
          go_wp2_with fail
          go_ret
          exact ⟨rfl, by rw [Ht.out]; exact Tf.out⟩
end
end Go.Proofs.Ytiokecadnmcpeaa
