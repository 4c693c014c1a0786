import Derived.Test.YtiokecadnmcpeabKMade
namespace Go.Proofs.Ytiokecadnmcpeab
set_option linter.unusedVariables false
set_option linter.unusedSimpArgs false
open Go.ChangeShapes Go.WideShapes Go.ChangeAt Go.RowKit

/-- A new chain. -/
theorem knewPS_acc (s d r c le ne : Int) (l : List Int) (a : Nat) : (newPS l.length s d r c le ne l l.length).acc a = if a < l.length then { Acc.zero with liquid := l.getD a 0 } else Acc.zero := rfl
theorem knew_pool (s d r c le ne : Int) (l : List Int) : (newPS l.length s d r c le ne l l.length).PoolOk := by
  have hN : (newPS l.length s d r c le ne l l.length).N = l.length := rfl
  refine ⟨?_, fun e => ?_⟩
  · rw [hN, knewPS_acc, if_neg (by omega)]; rfl
  · exfalso
    have : (newPS l.length s d r c le ne l l.length).allShares = 0 := by
      unfold PS.allShares
      have z : ∀ a, ((newPS l.length s d r c le ne l l.length).acc a).shares = 0 := fun a => by rw [knewPS_acc]; split <;> rfl
      simp [sumTo, z]
    omega
theorem knew_good (s d r c le ne : Int) (l : List Int) (hn : NumFit s d r c le ne) (hs : StartFit l) : (newPS l.length s d r c le ne l l.length).Good := by
  obtain ⟨⟨h1, h6⟩, hA⟩ := hs
  obtain ⟨n1, n2, n3, n4, n5, n6⟩ := hn
  have hp : ∀ a, ((newPS l.length s d r c le ne l l.length).acc a).Pos := fun a => by
    rw [knewPS_acc]
    split
    · rename_i h
      exact ⟨(hA a h).1, Int.le_refl _, Int.le_refl _, by show (0 : Int) ≤ _; omega, Int.le_refl _, by show (0 : Int) ≤ 10; omega, Int.le_refl _, fun _ _ => Int.le_refl _⟩
    · exact Acc.zero_pos
  have ht : ∀ a, a < 7 → 0 ≤ ((newPS l.length s d r c le ne l l.length).acc a).tot ∧ ((newPS l.length s d r c le ne l l.length).acc a).tot ≤ 10000000 := fun a _ => by
    refine ⟨(hp a).tot.1, ?_⟩
    rw [knewPS_acc]
    split
    · rename_i h
      have := (hA a h).2
      show l.getD a 0 + 0 + (0 + 0 + 0 + 0 + 0) ≤ _
      omega
    · show (0 : Int) + 0 + (0 + 0 + 0 + 0 + 0) ≤ _
      omega
  have hsum := (sumTo_bd (fun a => ((newPS l.length s d r c le ne l l.length).acc a).tot) 10000000 7 ht 7 (Nat.le_refl _)).2
  have hshr : (newPS l.length s d r c le ne l l.length).allShares = 0 := by
    unfold PS.allShares
    have : ∀ a, ((newPS l.length s d r c le ne l l.length).acc a).shares = 0 := fun a => by rw [knewPS_acc]; split <;> rfl
    simp only [sumTo, this]; rfl
  exact { N1 := h1, N6 := h6, e0 := Int.le_refl _, e1 := by show (0 : Int) ≤ _; omega, seats := n1, delay := n2, rate := n3, cut := n4, length := n5, need := n6, rlen := by show (0 : Nat) ≤ 10; omega, pos := fun a _ => hp a, t0 := Int.le_refl _, sup := by show (0 : Int) + sumTo (fun a => ((newPS l.length s d r c le ne l l.length).acc a).tot) 7 ≤ _; omega, shr := by rw [hshr]; omega, far := fun a ha => by rw [knewPS_acc, if_neg (by have : (newPS l.length s d r c le ne l l.length).N = l.length := rfl; omega)] }


theorem knew_inv (s d r c le ne : Int) (l : List Int) (hn : NumFit s d r c le ne) (hs : StartFit l) : (newPS l.length s d r c le ne l l.length).Inv := by
  have hz : ∀ a, ((newPS l.length s d r c le ne l l.length).acc a).bid = 0 ∧ ((newPS l.length s d r c le ne l l.length).acc a).locked = 0 ∧ ((newPS l.length s d r c le ne l l.length).acc a).cheated = false := fun a => by
    rw [knewPS_acc]; split <;> exact ⟨rfl, rfl, rfl⟩
  exact ⟨knew_good s d r c le ne l hn hs, fun a _ => by rw [(hz a).1, (hz a).2.1]; exact Int.le_refl _, knew_pool s d r c le ne l, fun a hc => absurd hc (by rw [(hz a).2.2]; simp)⟩

set_option maxHeartbeats 3200000 in
set_option maxRecDepth 100000 in
theorem kmade_any2 (o : SetD) (w : World) (ok : SetOk w o) :
    Calls Try.prog 5 #[.agg #[.int .i64 o.seats, .int .i64 o.delay, .int .i64 o.rate, .int .i64 o.cut, .int .i64 o.length, .int .i64 o.need, .slice o.sa o.start.length o.scap]] w fun e w' => ∃ x s d r c le ne a cap l, e = .returned (.tuple #[.pointer (some ⟨x, 0, none⟩), .agg #[.int .i64 s, .int .i64 d, .int .i64 r, .int .i64 c, .int .i64 le, .int .i64 ne, .slice a l.length cap], .bool true]) ∧ NumFit s d r c le ne ∧ StartFit l ∧ SC w' x (newPS l.length s d r c le ne l l.length) ∧ w.heap.size ≤ x ∧ Below w.heap.size w w' ∧ (0 < o.start.length → l = startOf o.start) := by
  have hbel := ((Below.refl w.heap.size w).alloc (Nat.le_refl _) (.cells #[.int .i64 o.seats, .int .i64 o.delay, .int .i64 o.rate, .int .i64 o.cut, .int .i64 o.length, .int .i64 o.need, .slice o.sa o.start.length o.scap] 24)).alloc (by simp) (.cells #[.int .i64 0, .int .i64 0, .int .i64 0, .int .i64 0, .int .i64 0, .int .i64 0, .slice none 0 0] 27)
  have hsz : ((w.alloc (.cells #[.int .i64 o.seats, .int .i64 o.delay, .int .i64 o.rate, .int .i64 o.cut, .int .i64 o.length, .int .i64 o.need, .slice o.sa o.start.length o.scap] 24)).alloc (.cells #[.int .i64 0, .int .i64 0, .int .i64 0, .int .i64 0, .int .i64 0, .int .i64 0, .slice none 0 0] 27)).heap.size = w.heap.size + 2 := by simp
  have hr0 : ((w.alloc (.cells #[.int .i64 o.seats, .int .i64 o.delay, .int .i64 o.rate, .int .i64 o.cut, .int .i64 o.length, .int .i64 o.need, .slice o.sa o.start.length o.scap] 24)).alloc (.cells #[.int .i64 0, .int .i64 0, .int .i64 0, .int .i64 0, .int .i64 0, .int .i64 0, .slice none 0 0] 27)).heap[w.heap.size + 1]? = some (.cells #[.int .i64 0, .int .i64 0, .int .i64 0, .int .i64 0, .int .i64 0, .int .i64 0, .slice none 0 0] 27 (0, 0)) := by
    have := heap_alloc_new (w.alloc (.cells #[.int .i64 o.seats, .int .i64 o.delay, .int .i64 o.rate, .int .i64 o.cut, .int .i64 o.length, .int .i64 o.need, .slice o.sa o.start.length o.scap] 24)) (.cells #[.int .i64 0, .int .i64 0, .int .i64 0, .int .i64 0, .int .i64 0, .int .i64 0, .slice none 0 0] 27); rwa [World.size_alloc] at this
  have HC := hid (config_any2 o _ (ok.below hbel))
  have Hb := hid hbel
  have Hz := hid hsz
  have Hr := hid hr0
  clear hbel hsz hr0
  go_enter Try.func5, Try.ntmps5
  go_wp2_with fail
  refine HC.out.mono ?_
  rintro e w1 ⟨s, d, r, c, le, ne, a, cap, l, rfl, hn, hs, hl, b1, hst0⟩
  have HST := hid hst0
  clear hst0
  have Hn := hid hn
  have Hs := hid hs
  have hb1 := Hb.out.trans (b1.mono Hb.out.size)
  have hr1 := (b1.block _ (lt_of_block Hr.out)).trans Hr.out
  have hsz1 : w.heap.size + 2 ≤ w1.heap.size := by have := b1.size; rw [Hz.out] at this; exact this
  clear hn hs HC Hb Hz Hr b1
  go_wp2_with fail
  have ba := (Below.refl w1.heap.size w1).alloc (Nat.le_refl _) (.cells #[.int .i64 s, .int .i64 d, .int .i64 r, .int .i64 c, .int .i64 le, .int .i64 ne, .slice a l.length cap] 27)
  have hg0 : (w1.alloc (.cells #[.int .i64 s, .int .i64 d, .int .i64 r, .int .i64 c, .int .i64 le, .int .i64 ne, .slice a l.length cap] 27)).heap[w1.heap.size]? = some (.cells #[.int .i64 s, .int .i64 d, .int .i64 r, .int .i64 c, .int .i64 le, .int .i64 ne, .slice a l.length cap] 27 (0, 0)) := heap_alloc_new w1 _
  have hgr : (w1.alloc (.cells #[.int .i64 s, .int .i64 d, .int .i64 r, .int .i64 c, .int .i64 le, .int .i64 ne, .slice a l.length cap] 27)).heap[w.heap.size + 1]? = some (.cells #[.int .i64 0, .int .i64 0, .int .i64 0, .int .i64 0, .int .i64 0, .int .i64 0, .slice none 0 0] 27 (0, 0)) := (ba.block _ (lt_of_block hr1)).trans hr1
  have hl1 := hl.below ba
  have hbA : Below w.heap.size w (w1.alloc (.cells #[.int .i64 s, .int .i64 d, .int .i64 r, .int .i64 c, .int .i64 le, .int .i64 ne, .slice a l.length cap] 27)) := hb1.trans (ba.mono (by omega))
  have hszA : (w1.alloc (.cells #[.int .i64 s, .int .i64 d, .int .i64 r, .int .i64 c, .int .i64 le, .int .i64 ne, .slice a l.length cap] 27)).heap.size = w1.heap.size + 1 := by simp
  have hgne : w.heap.size + 1 ≠ w1.heap.size := by omega
  generalize w1.alloc (.cells #[.int .i64 s, .int .i64 d, .int .i64 r, .int .i64 c, .int .i64 le, .int .i64 ne, .slice a l.length cap] 27) = W at *
  generalize w1.heap.size = g at *
  refine (new_yes s d r c le ne a cap l _ hl1 Hn.out Hs.out).mono ?_
  rintro e w2 ⟨x, rfl, hSC, hx, b2⟩
  have hl2 := hid (hl1.below b2)
  have hg2 : w2.heap[g]? = _ := (b2.block _ (lt_of_block hg0)).trans hg0
  have hr2 : w2.heap[w.heap.size + 1]? = _ := (b2.block _ (lt_of_block hgr)).trans hgr
  have hb2 := hid (hbA.trans (b2.mono (by omega)))
  have hxw := hid (show w.heap.size ≤ x by omega)
  have HX := hid (show x ≠ w.heap.size + 1 by omega)
  have HSC := hid hSC
  have hlen := Hs.out.1
  have hinv := hid (knew_inv s d r c le ne l Hn.out Hs.out)
  have hacc := hid (fun k => knewPS_acc s d r c le ne l k)
  have c6 : w2.cell? ⟨g, 6, none⟩ = some (.slice a l.length cap) := cell_of_row w2 g 6 _ _ _ hg2
  have Hg2 := hid hg2
  have Hr2 := hid hr2
  clear hl hl1 ba hg0 hgr hbA b2 hSC hr1 hb1 hx hsz1 hszA hg2 hr2
  go_wp2_with fail
  go_loopw [8] (fun i wr => ∃ k : Nat, k ≤ l.length ∧ i = .int .i64 k ∧ Below w2.heap.size w2 wr) (fun i _ => l.length - (intOf i).toNat)
  case atStart => exact ⟨0, Nat.zero_le _, rfl, Below.refl _ _⟩
  case round =>
    obtain ⟨k, hk, rfl, hB⟩ := hrel
    have c6' : wr.cell? ⟨g, 6, none⟩ = some (.slice a l.length cap) := (hB.cell (block_lt_of_cell c6)).trans c6
    by_cases hlt : k < l.length
    · have l1 : (k : Int) < (l.length : Int) := by omega
      obtain ⟨b, off, ha, hc⟩ := (hl2.out.below hB).at hlt
      subst ha
      have hSr := HSC.out.below hB
      have hq : ((newPS l.length s d r c le ne l l.length).acc k).liquid = l.getD k 0 := by rw [hacc.out, if_pos hlt]
      have HB := hid hB
      clear hB
      go_wp2_with fail
      have hsee := see_yes hSr hinv.out.good.ok k (by show k ≤ l.length; omega)
      rw [hq] at hsee
      refine hsee.mono ?_
      rintro e w3 ⟨rfl, b3⟩
      have c6'' : w3.cell? ⟨g, 6, none⟩ = some (.slice (some ⟨b, off, none⟩) l.length cap) := (b3.cell (block_lt_of_cell c6')).trans c6'
      have hc3 : w3.cell? ⟨b, off + k, none⟩ = some (.int .i64 (l.getD k 0)) := (b3.cell (block_lt_of_cell hc)).trans hc
      have hb3 := hid (HB.out.trans (b3.mono HB.out.size))
      have hgl : ¬ g = w3.heap.size := by have : g < w3.heap.size := block_lt_of_cell c6''; omega
      have hbl : ¬ b = w3.heap.size := by have : b < w3.heap.size := block_lt_of_cell hc3; omega
      generalize l.getD k 0 = q at *
      generalize ((newPS l.length s d r c le ne l l.length).acc k).locked = q1 at *
      generalize ((newPS l.length s d r c le ne l l.length).acc k).bid = q2 at *
      generalize ((newPS l.length s d r c le ne l l.length).acc k).queued = q3 at *
      generalize ((newPS l.length s d r c le ne l l.length).acc k).seats = q4 at *
      generalize ((newPS l.length s d r c le ne l l.length).acc k).shares = q5 at *
      clear hsee hSr c6' hc b3 hq
      go_wp2_with fail
      have d0 : (w3.alloc (.cells #[.int .i64 q, .int .i64 q1, .int .i64 q2, .int .i64 q3, .int .i64 q4, .int .i64 q5] 51)).cell? ⟨w3.heap.size, 0, none⟩ = some (.int .i64 q) := by rw [World.cell?_alloc_at _ _ _ _ rfl]; rfl
      have d6 : (w3.alloc (.cells #[.int .i64 q, .int .i64 q1, .int .i64 q2, .int .i64 q3, .int .i64 q4, .int .i64 q5] 51)).cell? ⟨g, 6, none⟩ = some (.slice (some ⟨b, off, none⟩) l.length cap) := (World.cell?_alloc_past _ _ _ (block_lt_of_cell c6'')).trans c6''
      have dk : (w3.alloc (.cells #[.int .i64 q, .int .i64 q1, .int .i64 q2, .int .i64 q3, .int .i64 q4, .int .i64 q5] 51)).cell? ⟨b, off + k, none⟩ = some (.int .i64 q) := (World.cell?_alloc_past _ _ _ (block_lt_of_cell hc3)).trans hc3
      have hb4 := hid (show Below w2.heap.size w2 (w3.alloc (.cells #[.int .i64 q, .int .i64 q1, .int .i64 q2, .int .i64 q3, .int .i64 q4, .int .i64 q5] 51)) from hb3.out.alloc hb3.out.size _)
      generalize w3.alloc (.cells #[.int .i64 q, .int .i64 q1, .int .i64 q2, .int .i64 q3, .int .i64 q4, .int .i64 q5] 51) = W4 at *
      clear c6'' hc3
      go_quiet (fail)
      go_wp2_with fail
      have hb5 := hid (below_dn hb4.out nq)
      go_roundw
      case rel => exact ⟨k + 1, by omega, by go_num, hb5.out⟩
      case measure => simp [intOf]; omega
    · have l1 : ¬ (k : Int) < (l.length : Int) := by omega
      have hgr : wr.heap[g]? = some (.cells #[.int .i64 s, .int .i64 d, .int .i64 r, .int .i64 c, .int .i64 le, .int .i64 ne, .slice a l.length cap] 27 (0, 0)) := (hB.block _ (lt_of_block Hg2.out)).trans Hg2.out
      have hrr : wr.heap[w.heap.size + 1]? = some (.cells #[.int .i64 0, .int .i64 0, .int .i64 0, .int .i64 0, .int .i64 0, .int .i64 0, .slice none 0 0] 27 (0, 0)) := (hB.block _ (lt_of_block Hr2.out)).trans Hr2.out
      have b0 : wr.cell? ⟨g, 0, none⟩ = some (.int .i64 s) := cell_of_row wr g 0 _ _ _ hgr
      have b1 : wr.cell? ⟨g, 1, none⟩ = some (.int .i64 d) := cell_of_row wr g 1 _ _ _ hgr
      have b2 : wr.cell? ⟨g, 2, none⟩ = some (.int .i64 r) := cell_of_row wr g 2 _ _ _ hgr
      have b3 : wr.cell? ⟨g, 3, none⟩ = some (.int .i64 c) := cell_of_row wr g 3 _ _ _ hgr
      have b4 : wr.cell? ⟨g, 4, none⟩ = some (.int .i64 le) := cell_of_row wr g 4 _ _ _ hgr
      have b5 : wr.cell? ⟨g, 5, none⟩ = some (.int .i64 ne) := cell_of_row wr g 5 _ _ _ hgr
      have b6 : wr.cell? ⟨g, 6, none⟩ = some (.slice a l.length cap) := cell_of_row wr g 6 _ _ _ hgr
      have z0 : wr.cell? ⟨w.heap.size + 1, 0, none⟩ = some (.int .i64 0) := cell_of_row wr (w.heap.size + 1) 0 _ _ _ hrr
      have y0 : wr.frozen? ⟨w.heap.size + 1, 0, none⟩ = false := frozen_of_row wr (w.heap.size + 1) 0 _ _ hrr
      have z1 : wr.cell? ⟨w.heap.size + 1, 1, none⟩ = some (.int .i64 0) := cell_of_row wr (w.heap.size + 1) 1 _ _ _ hrr
      have y1 : wr.frozen? ⟨w.heap.size + 1, 1, none⟩ = false := frozen_of_row wr (w.heap.size + 1) 1 _ _ hrr
      have z2 : wr.cell? ⟨w.heap.size + 1, 2, none⟩ = some (.int .i64 0) := cell_of_row wr (w.heap.size + 1) 2 _ _ _ hrr
      have y2 : wr.frozen? ⟨w.heap.size + 1, 2, none⟩ = false := frozen_of_row wr (w.heap.size + 1) 2 _ _ hrr
      have z3 : wr.cell? ⟨w.heap.size + 1, 3, none⟩ = some (.int .i64 0) := cell_of_row wr (w.heap.size + 1) 3 _ _ _ hrr
      have y3 : wr.frozen? ⟨w.heap.size + 1, 3, none⟩ = false := frozen_of_row wr (w.heap.size + 1) 3 _ _ hrr
      have z4 : wr.cell? ⟨w.heap.size + 1, 4, none⟩ = some (.int .i64 0) := cell_of_row wr (w.heap.size + 1) 4 _ _ _ hrr
      have y4 : wr.frozen? ⟨w.heap.size + 1, 4, none⟩ = false := frozen_of_row wr (w.heap.size + 1) 4 _ _ hrr
      have z5 : wr.cell? ⟨w.heap.size + 1, 5, none⟩ = some (.int .i64 0) := cell_of_row wr (w.heap.size + 1) 5 _ _ _ hrr
      have y5 : wr.frozen? ⟨w.heap.size + 1, 5, none⟩ = false := frozen_of_row wr (w.heap.size + 1) 5 _ _ hrr
      have z6 : wr.cell? ⟨w.heap.size + 1, 6, none⟩ = some (.slice none 0 0) := cell_of_row wr (w.heap.size + 1) 6 _ _ _ hrr
      have y6 : wr.frozen? ⟨w.heap.size + 1, 6, none⟩ = false := frozen_of_row wr (w.heap.size + 1) 6 _ _ hrr
      have HS := hid (HSC.out.below hB)
      have hbw := hid (hb2.out.trans (hB.mono hb2.out.size))
      have hx1 : x ≠ w.heap.size + 1 := HX.out
      have HE := hid (seven_block (.int .i64 s) (.int .i64 d) (.int .i64 r) (.int .i64 c) (.int .i64 le) (.int .i64 ne) (.slice a l.length cap) hrr)
      have HK := hid (seven_keeps wr (w.heap.size + 1) (.int .i64 s) (.int .i64 d) (.int .i64 r) (.int .i64 c) (.int .i64 le) (.int .i64 ne) (.slice a l.length cap))
      clear hgr hrr hB c6'
      go_wp2_with fail
      go_region
      go_wp2_with fail
      change bodyPost _ _ _ _ _ (seven wr (w.heap.size + 1) _ _ _ _ _ _ _).drew
      have e1 := HE.out
      have e2 := HS.out.keeps HK.out hx1
      have e3 := hbw.out.trans (HK.out.below hbw.out.size (fun i hi => by omega))
      generalize seven wr (w.heap.size + 1) _ _ _ _ _ _ _ = Wf at *
      have e4 : Below w.heap.size w Wf.drew := e3.drew
      have e5 : SC Wf.drew x (newPS l.length s d r c le ne l l.length) := e2.heap rfl
      have s0 : Wf.drew.cell? ⟨w.heap.size + 1, 0, none⟩ = some (.int .i64 s) := cell_of_row Wf (w.heap.size + 1) 0 _ _ _ e1
      have s1 : Wf.drew.cell? ⟨w.heap.size + 1, 1, none⟩ = some (.int .i64 d) := cell_of_row Wf (w.heap.size + 1) 1 _ _ _ e1
      have s2 : Wf.drew.cell? ⟨w.heap.size + 1, 2, none⟩ = some (.int .i64 r) := cell_of_row Wf (w.heap.size + 1) 2 _ _ _ e1
      have s3 : Wf.drew.cell? ⟨w.heap.size + 1, 3, none⟩ = some (.int .i64 c) := cell_of_row Wf (w.heap.size + 1) 3 _ _ _ e1
      have s4 : Wf.drew.cell? ⟨w.heap.size + 1, 4, none⟩ = some (.int .i64 le) := cell_of_row Wf (w.heap.size + 1) 4 _ _ _ e1
      have s5 : Wf.drew.cell? ⟨w.heap.size + 1, 5, none⟩ = some (.int .i64 ne) := cell_of_row Wf (w.heap.size + 1) 5 _ _ _ e1
      have s6 : Wf.drew.cell? ⟨w.heap.size + 1, 6, none⟩ = some (.slice a l.length cap) := cell_of_row Wf (w.heap.size + 1) 6 _ _ _ e1
      generalize Wf.drew = Wg at *
      exact bodyPost_ret (v := .tuple #[.pointer (some ⟨x, 0, none⟩), .agg #[.int .i64 s, .int .i64 d, .int .i64 r, .int .i64 c, .int .i64 le, .int .i64 ne, .slice a l.length cap], .bool true]) (by simp [results, Try.results5, go_sem, s0, s1, s2, s3, s4, s5, s6]) rfl ⟨x, s, d, r, c, le, ne, a, cap, l, rfl, Hn.out, Hs.out, e5, hxw.out, e4, HST.out⟩
theorem kmade_any (o : SetD) (w : World) (ok : SetOk w o) :
    Calls Try.prog 5 #[.agg #[.int .i64 o.seats, .int .i64 o.delay, .int .i64 o.rate, .int .i64 o.cut, .int .i64 o.length, .int .i64 o.need, .slice o.sa o.start.length o.scap]] w fun e w' => ∃ x s d r c le ne a cap l, e = .returned (.tuple #[.pointer (some ⟨x, 0, none⟩), .agg #[.int .i64 s, .int .i64 d, .int .i64 r, .int .i64 c, .int .i64 le, .int .i64 ne, .slice a l.length cap], .bool true]) ∧ NumFit s d r c le ne ∧ StartFit l ∧ SC w' x (newPS l.length s d r c le ne l l.length) ∧ w.heap.size ≤ x ∧ Below w.heap.size w w' :=
  (kmade_any2 o w ok).mono (fun e w' ⟨x, s, d, r, c, le, ne, a, cap, l, h1, h2, h3, h4, h5, h6, _⟩ => ⟨x, s, d, r, c, le, ne, a, cap, l, h1, h2, h3, h4, h5, h6⟩)
end Go.Proofs.Ytiokecadnmcpeab
