import Derived.Test.YtiokecadnmcpeaaKMintP
import Derived.Test.YtiokecadnmcpeaaKWhole
import Derived.Test.YtiokecadnmcpeaaKLoop
namespace Go.Proofs.Ytiokecadnmcpeaa
set_option linter.unusedVariables false
set_option linter.unusedSimpArgs false
open Go.ChangeShapes Go.WideShapes Go.ChangeAt Go.RowKit

theorem PS.burnt_bd {s : PS} (h : s.Good) (k : Nat) (hk : k ≤ 7) : 0 ≤ s.burnt k ∧ s.burnt k ≤ s.supply := by
  have h1 := psum_le (fun a => if (s.acc a).cheated = true then (s.acc a).locked / 2 else 0) k (fun a ha => by
    have := (h.pos a (by omega)).k0
    split <;> omega)
  have h2 := psum_mono (fun a => if (s.acc a).cheated = true then (s.acc a).locked / 2 else 0) (fun a => (s.acc a).tot) k (fun a ha => by
    have hp := h.pos a (by omega)
    have := hp.k0
    have := hp.tot
    split <;> omega)
  have h3 := sumTo_mono (f := fun a => (s.acc a).tot) hk (fun a ha => (h.pos a ha).tot.1)
  have h4 := h.t0
  refine ⟨h1.1, ?_⟩
  unfold PS.supply PS.burnt
  omega

theorem field_st0 (a b c d e : Int) (w : World) : (Instr.field 55 (.agg #[.int .i64 a, .int .i64 b, .int .i64 c, .int .i64 d, .int .i64 e]) 0).run Try.prog w = .ok (.int .i64 a) w := by kernel_rfl
theorem field_st1 (a b c d e : Int) (w : World) : (Instr.field 55 (.agg #[.int .i64 a, .int .i64 b, .int .i64 c, .int .i64 d, .int .i64 e]) 1).run Try.prog w = .ok (.int .i64 b) w := by kernel_rfl
theorem field_st2 (a b c d e : Int) (w : World) : (Instr.field 55 (.agg #[.int .i64 a, .int .i64 b, .int .i64 c, .int .i64 d, .int .i64 e]) 2).run Try.prog w = .ok (.int .i64 c) w := by kernel_rfl
theorem field_st3 (a b c d e : Int) (w : World) : (Instr.field 55 (.agg #[.int .i64 a, .int .i64 b, .int .i64 c, .int .i64 d, .int .i64 e]) 3).run Try.prog w = .ok (.int .i64 d) w := by kernel_rfl
theorem field_st4 (a b c d e : Int) (w : World) : (Instr.field 55 (.agg #[.int .i64 a, .int .i64 b, .int .i64 c, .int .i64 d, .int .i64 e]) 4).run Try.prog w = .ok (.int .i64 e) w := by kernel_rfl

section
variable {w : World} {x : Nat} {s : PS}
set_option maxHeartbeats 3200000 in
set_option maxRecDepth 100000 in
theorem minted_ok (h : SC w x s) (I : s.Inv) (he : s.epoch ≤ 4611686018427387904) (n0 d le ne : Int) (a : Option Addr) (cap gs capS : Nat) (seed : Int) (hs1 : -9223372036854775808 ≤ seed) (hs2 : seed ≤ 9223372036854775807) (hsl : ∀ i, i < s.N + 1 → w.cell? ⟨gs, i, none⟩ = some (.bool (s.acc i).cheated)) (hgx : gs ≠ x) :
    Calls Try.prog 26 #[.pointer (some ⟨x, 0, none⟩), .agg #[.int .i64 n0, .int .i64 d, .int .i64 s.rate, .int .i64 s.cut, .int .i64 le, .int .i64 ne, .slice a s.N cap], .slice (some ⟨gs, 0, none⟩) (s.N + 1) capS, .int .i64 seed] w fun e w' => e = .returned (.bool true) ∧ PTo w x w' (s.next seed) := by
  have ok := I.good.ok
  have hN := ok.N6
  have hb := (Below.refl w.heap.size w).alloc (Nat.le_refl _) (.cells #[.int .i64 n0, .int .i64 d, .int .i64 s.rate, .int .i64 s.cut, .int .i64 le, .int .i64 ne, .slice a s.N cap] 25)
  have hg0 : (w.alloc (.cells #[.int .i64 n0, .int .i64 d, .int .i64 s.rate, .int .i64 s.cut, .int .i64 le, .int .i64 ne, .slice a s.N cap] 25)).heap[w.heap.size]? = some (.cells #[.int .i64 n0, .int .i64 d, .int .i64 s.rate, .int .i64 s.cut, .int .i64 le, .int .i64 ne, .slice a s.N cap] 25 (0, 0)) := heap_alloc_new w _
  have T0 := hid (PTo.ofBelow h hb)
  have G0 := hid hg0
  have Hsl := hid (fun i (hi : i < s.N + 1) => (hb.cell (block_lt_of_cell (hsl i hi))).trans (hsl i hi))
  have hxl := h.lt
  obtain ⟨n, f, hn, hn0, hn1, hf, hf0, hf1, hsup, htre⟩ := s.next_money I he seed
  have hm := pmul_bd hn0 hn1 ok.rate.1 ok.rate.2
  have hmc := pmul_bd hf0 hf1 ok.cut.1 ok.cut.2
  have hnb : s.burnt 7 = s.burnt (s.N + 1) := sumTo_far (s.N + 1) 7 (by omega) (fun k h1 h2 => by rw [I.good.far k (by omega)]; rfl)
  rw [hnb] at hn
  have Hnx := hid (fun W (hS : SC W x s) => next_ok hS (PS.Good.nextOk I.good I.low he) seed hs1 hs2)
  have Hbb := hid (fun k hk => PS.burnt_bd I.good k hk)
  have Hinv := hid (PS.Good.next I.good I.low he seed).ok
  have HI := hid I
  have Hn := hid hn
  have Hsup := hid hsup
  have Htre := hid htre
  have hs0 := I.good.sup0
  have hsu := I.good.sup
  have ht0 := ok.t0
  have ht1 := ok.t1
  clear hb hg0 hsl h hnb I hn hsup htre
  have fs1 := field_st1
  have fs2 := field_st2
  go_enter Try.func26, Try.ntmps26
  go_wp2_with fail
  refine (kseen_any T0.out.sc ok).mono ?_
  rintro e w1 ⟨v, rfl, ho, b1⟩
  obtain ⟨g, cp, hv⟩ := kown_form ho (by omega)
  subst hv
  have T1 := hid (T0.out.below b1)
  have G1 := hid ((b1.block _ (lt_of_block G0.out)).trans G0.out)
  have Hs1 := hid (fun i (hi : i < s.N + 1) => (b1.cell (block_lt_of_cell (Hsl.out i hi))).trans (Hsl.out i hi))
  have Ho := hid ho
  clear ho b1 G0 T0 Hsl
  go_wp2_with fail
  refine (state_any T1.out.sc ok).mono ?_
  rintro e w2 ⟨rfl, b2⟩
  have T2 := hid (T1.out.below b2)
  have G2 := hid ((b2.block _ (lt_of_block G1.out)).trans G1.out)
  have Hs2 := hid (fun i (hi : i < s.N + 1) => (b2.cell (block_lt_of_cell (Hs1.out i hi))).trans (Hs1.out i hi))
  have ho2 := hid ((Keeps.ofBelow (F := fun _ => False) b2).owns Ho.out (fun _ _ hf => hf))
  clear b2 G1 T1 Hs1 Ho
  go_wp2_with fail
  go_loopw [11, 12] (fun vn i wr => ∃ k : Nat, k ≤ s.N + 1 ∧ i = .int .i64 k ∧ vn = .int .i64 (s.supply - s.burnt k) ∧ Below w2.heap.size w2 wr) (fun _ i _ => s.N + 1 - (intOf i).toNat)
  case atStart => exact ⟨0, Nat.zero_le _, rfl, by simp [PS.burnt, sumTo], Below.refl _ _⟩
  case round =>
    obtain ⟨k, hk, rfl, rfl, hB⟩ := hrel
    by_cases hlt : k < s.N + 1
    · have l1 : (k : Int) < ((s.N + 1 : Nat) : Int) := by omega
      have hor := (Keeps.ofBelow (F := fun _ => False) hB).owns ho2.out (fun _ _ hf => hf)
      have d1 : wr.cell? ⟨g, k * 6 + 1, none⟩ = some (.int .i64 (s.acc k).locked) := told_at hor hlt 1 (by omega)
      have cs : wr.cell? ⟨gs, k, none⟩ = some (.bool (s.acc k).cheated) := (hB.cell (block_lt_of_cell (Hs2.out k hlt))).trans (Hs2.out k hlt)
      have e1 : s.burnt (k + 1) = s.burnt k + (if (s.acc k).cheated = true then (s.acc k).locked / 2 else 0) := rfl
      have b1 := Hbb.out k (by omega)
      have b2 := Hbb.out (k + 1) (by omega)
      have p1 := (HI.out.good.pos k (by omega)).k0
      have p2 := (ok.acc k (by omega)).k1
      rw [e1] at b2
      have E1 := hid e1
      have HBr := hid hB
      clear e1 hor hB
      cases hc : (s.acc k).cheated with
      | true =>
        rw [hc, if_pos rfl] at b2 E1
        rw [hc] at cs
        generalize (s.acc k).locked = q at *
        generalize s.burnt k = bk at *
        clear hc
        go_wp2_with fail
        go_roundw
        case rel => exact ⟨k + 1, by omega, by go_num, by rw [E1.out]; congr 1; omega, HBr.out⟩
        case measure => simp [intOf]; omega
      | false =>
        rw [hc, if_neg (by simp)] at b2 E1
        rw [hc] at cs
        clear hc
        go_wp2_with fail
        go_roundw
        case rel => exact ⟨k + 1, by omega, by go_num, by rw [E1.out]; congr 1; omega, HBr.out⟩
        case measure => simp [intOf]; omega
    · have hk2 : k = s.N + 1 := by omega
      subst hk2
      have l1 : ¬ ((s.N + 1 : Nat) : Int) < ((s.N + 1 : Nat) : Int) := by omega
      rw [← Hn.out]
      have T3 := hid (T2.out.below hB)
      have hg3 := (hB.block _ (lt_of_block G2.out)).trans G2.out
      have c2 : wr.cell? ⟨w.heap.size, 2, none⟩ = some (.int .i64 s.rate) := cell_of_row wr w.heap.size 2 _ _ _ hg3
      have c3 : wr.cell? ⟨w.heap.size, 3, none⟩ = some (.int .i64 s.cut) := cell_of_row wr w.heap.size 3 _ _ _ hg3
      clear hB Hs2 ho2 T2 G2
      by_cases hc : 1000000000 - n < n * s.rate / 1000
      · rw [if_pos hc] at hf
        have hc1 : 1000000000 < n + n * s.rate / 1000 := by omega
        have hq : n * s.rate / 1000 ≤ 100000000 := by omega
        have hq0 : 0 ≤ n * s.rate / 1000 := by omega
        have Hf := hid hf
        subst hf
        clear hc
        go_wp2_with fail
        refine (state_any T3.out.sc ok).mono ?_
        rintro e w4 ⟨rfl, b4⟩
        have T4 := hid (T3.out.below b4)
        have d3 := (b4.cell (block_lt_of_cell c3)).trans c3
        clear b4 T3
        go_wp2_with fail
        refine (Hnx.out _ T4.out.sc).mono ?_
        rintro e w5 ⟨rfl, t5⟩
        have T5 := hid (T4.out.trans t5)
        have d3' : w5.cell? ⟨w.heap.size, 3, none⟩ = some (.int .i64 s.cut) := t5.keeps.cell d3 (by show ¬ w.heap.size = x; omega)
        clear t5 T4
        go_wp2_with fail
        refine (state_any T5.out.sc Hinv.out).mono ?_
        rintro e w6 ⟨rfl, b6⟩
        have d6 := (b6.cell (block_lt_of_cell d3')).trans d3'
        have hsz6 : w.heap.size < w6.heap.size := block_lt_of_cell d6
        have hne6 : ¬ w.heap.size = w6.heap.size := by omega
        have b7 := (Below.refl w6.heap.size w6).alloc (Nat.le_refl _) (.cells #[.int .i64 (s.next seed).epoch, .int .i64 (s.next seed).supply, .int .i64 (s.next seed).treasury, .int .i64 (s.next seed).price, .int .i64 (s.next seed).allShares] 55)
        have T7 := hid ((T5.out.below b6).below b7)
        have htre := Htre.out
        rw [Hsup.out] at T7 ⊢
        have htr2 := Hinv.out.t1
        generalize (s.next seed).treasury = tr at *
        generalize (s.next seed).epoch = ep at *
        generalize (s.next seed).price = pr at *
        generalize (s.next seed).allShares = sh at *
        clear b6 b7
        go_wp2_with fail
        go_ret
        exact ⟨rfl, T7.out⟩
      · rw [if_neg hc] at hf
        have hc1 : ¬ 1000000000 < n + n * s.rate / 1000 := by omega
        have hq : n * s.rate / 1000 ≤ 100000000 := by omega
        have hq0 : 0 ≤ n * s.rate / 1000 := by omega
        subst hf
        clear hc
        go_wp2_with fail
        refine (state_any T3.out.sc ok).mono ?_
        rintro e w4 ⟨rfl, b4⟩
        have T4 := hid (T3.out.below b4)
        have d3 := (b4.cell (block_lt_of_cell c3)).trans c3
        clear b4 T3
        go_wp2_with fail
        refine (Hnx.out _ T4.out.sc).mono ?_
        rintro e w5 ⟨rfl, t5⟩
        have T5 := hid (T4.out.trans t5)
        have d3' : w5.cell? ⟨w.heap.size, 3, none⟩ = some (.int .i64 s.cut) := t5.keeps.cell d3 (by show ¬ w.heap.size = x; omega)
        clear t5 T4
        go_wp2_with fail
        refine (state_any T5.out.sc Hinv.out).mono ?_
        rintro e w6 ⟨rfl, b6⟩
        have d6 := (b6.cell (block_lt_of_cell d3')).trans d3'
        have hsz6 : w.heap.size < w6.heap.size := block_lt_of_cell d6
        have hne6 : ¬ w.heap.size = w6.heap.size := by omega
        have b7 := (Below.refl w6.heap.size w6).alloc (Nat.le_refl _) (.cells #[.int .i64 (s.next seed).epoch, .int .i64 (s.next seed).supply, .int .i64 (s.next seed).treasury, .int .i64 (s.next seed).price, .int .i64 (s.next seed).allShares] 55)
        have T7 := hid ((T5.out.below b6).below b7)
        have htre := Htre.out
        rw [Hsup.out] at T7 ⊢
        have htr2 := Hinv.out.t1
        generalize (s.next seed).treasury = tr at *
        generalize (s.next seed).epoch = ep at *
        generalize (s.next seed).price = pr at *
        generalize (s.next seed).allShares = sh at *
        clear b6 b7
        go_wp2_with fail
        go_ret
        exact ⟨rfl, T7.out⟩
end
end Go.Proofs.Ytiokecadnmcpeaa
