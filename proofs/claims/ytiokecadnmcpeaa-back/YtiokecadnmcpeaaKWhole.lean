import Derived.Test.YtiokecadnmcpeaaKSeen
import Derived.Test.YtiokecadnmcpeaaKSale
import Derived.Test.YtiokecadnmcpeaaKMade2
namespace Go.Proofs.Ytiokecadnmcpeaa
set_option linter.unusedVariables false
set_option linter.unusedSimpArgs false
open Go.ChangeShapes Go.WideShapes Go.ChangeAt Go.RowKit

/-- What the accounts that were seen tell, out of the row. -/
theorem told_at {W : World} {s : PS} {B g n cap : Nat} (h : W.ownsRow B 47 6 (.slice (some ⟨g, 0, none⟩) n cap) n (s.toldTo n)) {k : Nat} (hk : k < n) : ∀ j, j < 6 → W.cell? ⟨g, k * 6 + j, none⟩ = (s.acc k).told[j]? := fun j hj => by
  rw [h.cellAt _ (by omega), s.toldTo_at n k j hk hj]

section
variable {w : World} {x : Nat} {s : PS}
set_option maxHeartbeats 3200000 in
set_option maxRecDepth 100000 in
theorem whole_ok (h : SC w x s) (I : s.Inv) (hs : s.SeatsOk) (d r c le ne : Int) (a : Option Addr) (cap : Nat) :
    Calls Try.prog 31 #[.pointer (some ⟨x, 0, none⟩), .agg #[.int .i64 s.seats, .int .i64 d, .int .i64 r, .int .i64 c, .int .i64 le, .int .i64 ne, .slice a s.N cap]] w fun e w' => e = .returned (.bool true) ∧ Below w.heap.size w w' := by
  have ok := I.good.ok
  have hN := ok.N6
  have hb := (Below.refl w.heap.size w).alloc (Nat.le_refl _) (.cells #[.int .i64 s.seats, .int .i64 d, .int .i64 r, .int .i64 c, .int .i64 le, .int .i64 ne, .slice a s.N cap] 25)
  have g0 : (w.alloc (.cells #[.int .i64 s.seats, .int .i64 d, .int .i64 r, .int .i64 c, .int .i64 le, .int .i64 ne, .slice a s.N cap] 25)).cell? ⟨w.heap.size, 0, none⟩ = some (.int .i64 s.seats) := by rw [World.cell?_alloc_at _ _ _ _ rfl]; rfl
  have hS0 := hid (h.below hb)
  have HB := hid hb
  have G0 := hid g0
  have hz0 : (w.alloc (.cells #[.int .i64 s.seats, .int .i64 d, .int .i64 r, .int .i64 c, .int .i64 le, .int .i64 ne, .slice a s.N cap] 25)).heap.size = w.heap.size + 1 := by simp
  have HZ := hid hz0
  clear hb g0 hz0
  go_enter Try.func31, Try.ntmps31
  go_wp2_with fail
  refine (kseen_any hS0.out ok).mono ?_
  rintro e w1 ⟨v, rfl, ho, b1⟩
  obtain ⟨g, cp, hv⟩ := kown_form ho (by omega)
  subst hv
  have hS1 := hS0.out.below b1
  have G1 := hid ((b1.cell (block_lt_of_cell G0.out)).trans G0.out)
  have HB1 := hid (HB.out.trans (b1.mono HB.out.size))
  have Ho := hid ho
  clear ho b1 G0 HB hS0
  go_wp2_with fail
  refine (state_any hS1 ok).mono ?_
  rintro e w2 ⟨rfl, b2⟩
  have ho2 := (Keeps.ofBelow (F := fun _ => False) b2).owns Ho.out (fun _ _ hf => hf)
  have hb2 := HB1.out.trans (b2.mono HB1.out.size)
  have g2 := (b2.cell (block_lt_of_cell G1.out)).trans G1.out
  clear G1 HB1 Ho b2 hS1
  have ba := (Below.refl w2.heap.size w2).alloc (Nat.le_refl _) (.cells #[.int .i64 s.epoch, .int .i64 s.supply, .int .i64 s.treasury, .int .i64 s.price, .int .i64 s.allShares] 55)
  have t1 : (w2.alloc (.cells #[.int .i64 s.epoch, .int .i64 s.supply, .int .i64 s.treasury, .int .i64 s.price, .int .i64 s.allShares] 55)).cell? ⟨w2.heap.size, 1, none⟩ = some (.int .i64 s.supply) := by rw [World.cell?_alloc_at _ _ _ _ rfl]; rfl
  have t2 : (w2.alloc (.cells #[.int .i64 s.epoch, .int .i64 s.supply, .int .i64 s.treasury, .int .i64 s.price, .int .i64 s.allShares] 55)).cell? ⟨w2.heap.size, 2, none⟩ = some (.int .i64 s.treasury) := by rw [World.cell?_alloc_at _ _ _ _ rfl]; rfl
  have t4 : (w2.alloc (.cells #[.int .i64 s.epoch, .int .i64 s.supply, .int .i64 s.treasury, .int .i64 s.price, .int .i64 s.allShares] 55)).cell? ⟨w2.heap.size, 4, none⟩ = some (.int .i64 s.allShares) := by rw [World.cell?_alloc_at _ _ _ _ rfl]; rfl
  have g3 := (ba.cell (block_lt_of_cell g2)).trans g2
  have ho3 := ho2.alloc (.cells #[.int .i64 s.epoch, .int .i64 s.supply, .int .i64 s.treasury, .int .i64 s.price, .int .i64 s.allShares] 55)
  have hb3 : Below w.heap.size w _ := hb2.trans (ba.mono hb2.size)
  go_wp2_with fail
  generalize w2.alloc (.cells #[.int .i64 s.epoch, .int .i64 s.supply, .int .i64 s.treasury, .int .i64 s.price, .int .i64 s.allShares] 55) = W at *
  generalize w2.heap.size = gs at *
  have htp : ∀ k, k < 7 → 0 ≤ (s.acc k).tot := fun k hk => (I.good.pos k hk).tot.1
  have hsp : ∀ k, k < 7 → 0 ≤ (s.acc k).shares := fun k hk => (I.good.pos k hk).h0
  have hgp : ∀ k, k < 7 → 0 ≤ (s.acc k).seats := fun k hk => (I.good.pos k hk).s0
  have hfar : ∀ k, s.N + 1 ≤ k → k < 7 → s.acc k = Acc.zero := fun k h1 _ => I.good.far k (by omega)
  have hsup : s.supply = s.treasury + sumTo (fun a => (s.acc a).tot) (s.N + 1) := by
    unfold PS.supply
    rw [sumTo_far (s.N + 1) 7 (by omega) (fun k h1 h2 => by rw [hfar k h1 h2]; rfl)]
  have hshr : s.allShares = sumTo (fun a => (s.acc a).shares) (s.N + 1) := sumTo_far (s.N + 1) 7 (by omega) (fun k h1 h2 => by rw [hfar k h1 h2]; rfl)
  have hgiv : s.seatsTo 7 = s.seatsTo (s.N + 1) := sumTo_far (s.N + 1) 7 (by omega) (fun k h1 h2 => by rw [hfar k h1 h2]; rfl)
  have mt : ∀ k, k ≤ s.N + 1 → 0 ≤ sumTo (fun a => (s.acc a).tot) k ∧ s.treasury + sumTo (fun a => (s.acc a).tot) k ≤ 1000000000 := fun k hk => by
    have h1 := (psum_le (fun a => (s.acc a).tot) k (fun j hj => htp j (by omega))).1
    have h2 := sumTo_mono (f := fun a => (s.acc a).tot) hk (fun j hj => htp j (by omega))
    have h3 := I.good.sup
    rw [hsup] at h3
    exact ⟨h1, by omega⟩
  have ms : ∀ k, k ≤ s.N + 1 → 0 ≤ sumTo (fun a => (s.acc a).shares) k ∧ sumTo (fun a => (s.acc a).shares) k ≤ 1000000000 := fun k hk => by
    have h1 := (psum_le (fun a => (s.acc a).shares) k (fun j hj => hsp j (by omega))).1
    have h2 := sumTo_mono (f := fun a => (s.acc a).shares) hk (fun j hj => hsp j (by omega))
    have h3 := I.good.shr
    rw [hshr] at h3
    exact ⟨h1, by omega⟩
  have mg : ∀ k, k ≤ 7 → 0 ≤ s.seatsTo k ∧ s.seatsTo k ≤ 10 * k := fun k hk => by
    have := sumTo_bd (fun a => (s.acc a).seats) 10 k (fun j hj => ⟨hgp j (by omega), (I.good.pos j (by omega)).s1⟩) k (Nat.le_refl _)
    exact this
  have ht0 := I.good.t0
  have Hmt := hid mt
  have Hms := hid ms
  have Hmg := hid mg
  have HI := hid I
  have Hsup := hid hsup
  have Hshr := hid hshr
  have Hgiv := hid hgiv
  have Hs := hid hs
  have HW := hid hb3
  clear htp hsp hgp hfar hsup hshr hgiv mt ms mg I hs hb3 hb2 ba ho2 g2
  have hgl := block_lt_of_cell g3
  go_loopw [6, 8, 9, 10, 11] (fun vo vn vs vg i wr => ∃ k : Nat, k ≤ s.N + 1 ∧ i = .int .i64 k ∧ vo = .bool true ∧ vn = .int .i64 (s.treasury + sumTo (fun a => (s.acc a).tot) k) ∧ vs = .int .i64 (sumTo (fun a => (s.acc a).shares) k) ∧ vg = .int .i64 (s.seatsTo k) ∧ Below W.heap.size W wr) (fun _ _ _ _ i _ => s.N + 1 - (intOf i).toNat)
  case atStart => exact ⟨0, Nat.zero_le _, rfl, rfl, by simp [sumTo], rfl, rfl, Below.refl _ _⟩
  case round =>
    obtain ⟨k, hk, rfl, rfl, rfl, rfl, rfl, hB⟩ := hrel
    by_cases hlt : k < s.N + 1
    · have l1 : (k : Int) < ((s.N + 1 : Nat) : Int) := by omega
      have hor := (Keeps.ofBelow (F := fun _ => False) hB).owns ho3 (fun _ _ hf => hf)
      have tl := told_at hor hlt
      have d0 : wr.cell? ⟨g, k * 6, none⟩ = some (.int .i64 (s.acc k).liquid) := tl 0 (by omega)
      have d1 : wr.cell? ⟨g, k * 6 + 1, none⟩ = some (.int .i64 (s.acc k).locked) := tl 1 (by omega)
      have d2 : wr.cell? ⟨g, k * 6 + 2, none⟩ = some (.int .i64 (s.acc k).bid) := tl 2 (by omega)
      have d3 : wr.cell? ⟨g, k * 6 + 3, none⟩ = some (.int .i64 (s.acc k).queued) := tl 3 (by omega)
      have d4 : wr.cell? ⟨g, k * 6 + 4, none⟩ = some (.int .i64 (s.acc k).seats) := tl 4 (by omega)
      have d5 : wr.cell? ⟨g, k * 6 + 5, none⟩ = some (.int .i64 (s.acc k).shares) := tl 5 (by omega)
      have hp := HI.out.good.pos k (by omega)
      have p0 := hp.l0
      have p1 := hp.k0
      have p2 := hp.b0
      have p3 := hp.que.1
      have p4 := hp.s0
      have p5 := hp.h0
      have p6 := HI.out.low k (by omega)
      have p7 := hp.s1
      have m1 := Hmt.out k (by omega)
      have m2 := Hmt.out (k + 1) (by omega)
      have n1 := Hms.out k (by omega)
      have n2 := Hms.out (k + 1) (by omega)
      have o1 := Hmg.out k (by omega)
      have e1 : sumTo (fun a => (s.acc a).tot) (k + 1) = sumTo (fun a => (s.acc a).tot) k + ((s.acc k).liquid + (s.acc k).locked + (s.acc k).queued) := rfl
      have e2 : sumTo (fun a => (s.acc a).shares) (k + 1) = sumTo (fun a => (s.acc a).shares) k + (s.acc k).shares := rfl
      have e3 : s.seatsTo (k + 1) = s.seatsTo k + (s.acc k).seats := rfl
      rw [e1] at m2
      rw [e2] at n2
      have E1 := hid e1
      have E2 := hid e2
      have E3 := hid e3
      have HBr := hid hB
      have hgk : ¬ g = wr.heap.size := by have : g < wr.heap.size := block_lt_of_cell d0; omega
      clear e1 e2 e3 tl hor hp hB
      generalize (s.acc k).liquid = q0 at *
      generalize (s.acc k).locked = q1 at *
      generalize (s.acc k).bid = q2 at *
      generalize (s.acc k).queued = q3 at *
      generalize (s.acc k).seats = q4 at *
      generalize (s.acc k).shares = q5 at *
      generalize sumTo (fun a => (s.acc a).tot) k = T at *
      generalize sumTo (fun a => (s.acc a).shares) k = S at *
      generalize s.seatsTo k = G at *
      have hbn := hid (show Below W.heap.size W (wr.alloc (.cells #[.int .i64 q0, .int .i64 q1, .int .i64 q2, .int .i64 q3, .int .i64 q4, .int .i64 q5] 47)) from HBr.out.alloc HBr.out.size _)
      go_wp2_with fail
      refine ⟨⟨k + 1, by omega, by go_num, rfl, ?_, ?_, ?_, hbn.out⟩, by simp [intOf]; omega⟩
      · rw [E1.out]; congr 1; omega
      · rw [E2.out]
      · rw [E3.out]
    · have hk2 : k = s.N + 1 := by omega
      subst hk2
      have l1 : ¬ ((s.N + 1 : Nat) : Int) < ((s.N + 1 : Nat) : Int) := by omega
      have r1 : wr.cell? ⟨gs, 1, none⟩ = some (.int .i64 s.supply) := (hB.cell (block_lt_of_cell t1)).trans t1
      have r2 : wr.cell? ⟨gs, 2, none⟩ = some (.int .i64 s.treasury) := (hB.cell (block_lt_of_cell t2)).trans t2
      have r4 : wr.cell? ⟨gs, 4, none⟩ = some (.int .i64 s.allShares) := (hB.cell (block_lt_of_cell t4)).trans t4
      have r0 : wr.cell? ⟨w.heap.size, 0, none⟩ = some (.int .i64 s.seats) := (hB.cell (block_lt_of_cell g3)).trans g3
      have hbw := hid (HW.out.trans (hB.mono HW.out.size))
      have hs1 := HI.out.good.sup
      rw [← Hsup.out, ← Hshr.out]
      have hg1 := Hs.out
      unfold PS.SeatsOk at hg1
      rw [Hgiv.out] at hg1
      generalize s.seatsTo (s.N + 1) = G at *
      generalize s.supply = A1 at *
      generalize s.allShares = A2 at *
      clear hB
      by_cases hG : G = 0
      · subst hG
        go_wp2_with fail
        go_ret
        exact ⟨rfl, hbw.out⟩
      · have hG2 : G = s.seats := by omega
        subst hG2
        have hG3 : (s.seats == 0) = false := by simpa using hG
        go_wp2_with fail
        go_ret
        exact ⟨rfl, hbw.out⟩
end
end Go.Proofs.Ytiokecadnmcpeaa
