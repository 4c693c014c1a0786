import Derived.Test.YtiokecadnmcpeaaKTurnP
import Derived.Test.YtiokecadnmcpeaaKWhole
import Derived.Test.YtiokecadnmcpeaaKLoop
import Derived.BigQuiet
namespace Go.Proofs.Ytiokecadnmcpeaa
set_option linter.unusedVariables false
set_option linter.unusedSimpArgs false
open Go.ChangeShapes Go.WideShapes Go.ChangeAt Go.RowKit

/-- What turns looks at, all the way. -/
structure TInv (w W : World) (x g cp gl : Nat) (s : PS) (f : Nat → Int) : Prop where
  sc : SC W x s
  c0 : W.cell? ⟨w.heap.size, 0, none⟩ = some (.int .i64 s.seats)
  c4 : W.cell? ⟨w.heap.size, 4, none⟩ = some (.int .i64 s.length)
  row : W.ownsRow (w.heap.size + 1) 47 6 (.slice (some ⟨g, 0, none⟩) (s.N + 1) cp) (s.N + 1) (s.toldTo (s.N + 1))
  ld : ∀ i, i < s.N + 1 → W.cell? ⟨gl, i, none⟩ = some (.int .i64 (f i))
  fr : ∀ i, W.frozen? ⟨gl, i, none⟩ = false
  nx : gl ≠ x
  ng : gl ≠ g
  nc : gl ≠ w.heap.size
  lo : w.heap.size ≤ gl
  lt : gl < W.heap.size
  bel : Below w.heap.size w W
section
variable {w W W' : World} {x g cp gl : Nat} {s : PS} {f f' : Nat → Int}
theorem TInv.below (h : TInv w W x g cp gl s f) (b : Below W.heap.size W W') : TInv w W' x g cp gl s f :=
  { h with
    sc := h.sc.below b
    c0 := (b.cell (block_lt_of_cell h.c0)).trans h.c0
    c4 := (b.cell (block_lt_of_cell h.c4)).trans h.c4
    row := (Keeps.ofBelow (F := fun _ => False) b).owns h.row (fun _ _ hf => hf)
    ld := fun i hi => (b.cell (block_lt_of_cell (h.ld i hi))).trans (h.ld i hi)
    fr := fun i => (b.frozen (p := ⟨gl, i, none⟩) h.lt).trans (h.fr i)
    lt := Nat.lt_of_lt_of_le h.lt b.size
    bel := h.bel.trans (b.mono h.bel.size) }
theorem TInv.congr (h : TInv w W x g cp gl s f) (e : ∀ i, i < s.N + 1 → f i = f' i) : TInv w W x g cp gl s f' := { h with ld := fun i hi => by rw [← e i hi]; exact h.ld i hi }
theorem TInv.set (h : TInv w W x g cp gl s f) (j : Nat) (v : Int) (hj : j < s.N + 1) : TInv w (W.setCell ⟨gl, j, none⟩ (.int .i64 v)) x g cp gl s (fun i => if i = j then v else f i) := by
  have kk : Keeps (fun q => q = gl) W (W.setCell ⟨gl, j, none⟩ (.int .i64 v)) := (Keeps.refl (fun q => q = gl) W).setCell ⟨gl, j, none⟩ _ (fun _ => rfl)
  exact { h with
    sc := h.sc.keeps kk (fun e => h.nx e.symm)
    c0 := kk.cell h.c0 (fun e => h.nc e.symm)
    c4 := kk.cell h.c4 (fun e => h.nc e.symm)
    row := kk.owns h.row (fun q hq e => by simp only [Value.ownBlock, Option.some.injEq] at hq; exact h.ng (e.symm.trans hq.symm))
    ld := fun i hi => by
      by_cases e : i = j
      · subst e; rw [if_pos rfl]; exact World.cell?_setCell_same _ _ _ (h.ld i hi)
      · rw [if_neg e, World.cell?_setCell_other _ _ _ _ (by intro e2; simp only [Addr.mk.injEq] at e2; exact e e2.2.1.symm)]; exact h.ld i hi
    fr := fun i => (World.frozen?_setCell _ _ _ _).trans (h.fr i)
    lt := by simpa using h.lt
    bel := h.bel.trans (kk.below h.bel.size (fun i hi => by have : i = gl := hi; subst this; exact h.lo)) }
end
theorem made_zero (n j : Nat) (hj : j < n) : (madeCells (Value.int .i64 0).cells (n * 1)).toList[j]? = some (.int .i64 0) := by
  simp [madeCells, Value.cells, hj, Nat.mod_one]

theorem tinv_new {w w1 w2 : World} {x g cp : Nat} {s : PS} {v1 v2 v3 v5 v6 : Value} (hS : SC w1 x s) (hg : w1.heap[w.heap.size]? = some (.cells #[.int .i64 s.seats, v1, v2, v3, .int .i64 s.length, v5, v6] 25 (0, 0))) (ho : w1.ownsRow (w.heap.size + 1) 47 6 (.slice (some ⟨g, 0, none⟩) (s.N + 1) cp) (s.N + 1) (s.toldTo (s.N + 1))) (hB : Below w.heap.size w w1) (hsz : w.heap.size + 1 ≤ w1.heap.size) (hgl : g < w1.heap.size)
    (hg2 : w1.grownBy w2 none) (ho2 : w2.ownsRow w1.heap.size 3 1 (.slice (some ⟨w1.heap.size, 0, none⟩) (s.N + 1) (s.N + 1)) (s.N + 1) (madeCells (Value.int .i64 0).cells ((s.N + 1) * 1)).toList) : TInv w w2 x g cp w1.heap.size s (fun _ => 0) := by
  have b : Below w1.heap.size w1 w2 := ⟨hg2.os, hg2.tape, hg2.output, hg2.size, fun i hi => hg2.block i hi (by simp)⟩
  have e0 := (b.block _ (lt_of_block hg)).trans hg
  have ld : ∀ i, i < s.N + 1 → w2.cell? ⟨w1.heap.size, i, none⟩ = some (.int .i64 0) := fun i hi => by rw [ho2.cellAt i (by omega)]; exact made_zero _ i hi
  have hx := hS.lt
  exact { sc := hS.below b, c0 := cell_of_row w2 w.heap.size 0 _ _ _ e0, c4 := cell_of_row w2 w.heap.size 4 _ _ _ e0, row := (Keeps.ofBelow (F := fun _ => False) b).owns ho (fun _ _ hf => hf), ld := ld, fr := fun i => ho2.frozenAt i, nx := by omega, ng := by omega, nc := by omega, lo := by omega, lt := block_lt_of_cell (ld 0 (by omega)), bel := hB.trans (b.mono hB.size) }

section
variable {w : World} {x : Nat} {s : PS}
set_option maxHeartbeats 3200000 in
set_option maxRecDepth 100000 in
theorem turns_ok (h : SC w x s) (I : s.Inv) (so : s.SeatsOk) (ro : s.RowOk) (d r c ne : Int) (a : Option Addr) (cap : Nat) :
    Calls Try.prog 25 #[.pointer (some ⟨x, 0, none⟩), .agg #[.int .i64 s.seats, .int .i64 d, .int .i64 r, .int .i64 c, .int .i64 s.length, .int .i64 ne, .slice a s.N cap]] w fun e w' => e = .returned (.bool true) ∧ Below w.heap.size w w' := by
  obtain ⟨i0, hi, hz0, hz1, hz2⟩ := info_parts Try.info_int
  have ok := I.good.ok
  have hN := ok.N6
  have hse := ok.seats
  have hle := ok.length
  have hb := (Below.refl w.heap.size w).alloc (Nat.le_refl _) (.cells #[.int .i64 s.seats, .int .i64 d, .int .i64 r, .int .i64 c, .int .i64 s.length, .int .i64 ne, .slice a s.N cap] 25)
  have hg0 : (w.alloc (.cells #[.int .i64 s.seats, .int .i64 d, .int .i64 r, .int .i64 c, .int .i64 s.length, .int .i64 ne, .slice a s.N cap] 25)).heap[w.heap.size]? = some (.cells #[.int .i64 s.seats, .int .i64 d, .int .i64 r, .int .i64 c, .int .i64 s.length, .int .i64 ne, .slice a s.N cap] 25 (0, 0)) := heap_alloc_new w _
  have hz1' : (w.alloc (.cells #[.int .i64 s.seats, .int .i64 d, .int .i64 r, .int .i64 c, .int .i64 s.length, .int .i64 ne, .slice a s.N cap] 25)).heap.size = w.heap.size + 1 := by simp
  have hS0 := hid (h.below hb)
  have HB := hid hb
  have G0 := hid hg0
  have Hz := hid hz1'
  have hxl := h.lt
  have HI := hid I
  have Hso := hid so
  have Hro := hid ro
  clear hb hg0 hz1' h I so ro
  go_enter Try.func25, Try.ntmps25
  go_wp2_with fail
  refine (kseen_any hS0.out ok).mono ?_
  rintro e w1 ⟨v, rfl, ho, b1⟩
  rw [Hz.out] at ho
  obtain ⟨g, cp, hv⟩ := kown_form ho (by omega)
  subst hv
  have hS1 := hid (hS0.out.below b1)
  have G1 := hid ((b1.block _ (lt_of_block G0.out)).trans G0.out)
  have HB1 := hid (HB.out.trans (b1.mono HB.out.size))
  have Ho := hid ho
  have hsz1 : w.heap.size + 1 ≤ w1.heap.size := by have := b1.size; rw [Hz.out] at this; exact this
  have hgl1 : g < w1.heap.size := (ho.lt g rfl).2
  clear ho b1 G0 HB hS0 Hz
  go_upto_region 5 with fail
  go_wp2_with (at_make; refine wpList_make_full _ rfl (.tmp 30) (.tmp 30) 23 rfl w1.heap.size 3 i0 (.int .i64 0) 1 Try.underlying23 hi hz0 hz1 .i64 .i64 _ _ (s.N + 1) rfl rfl (by omega) (by omega) (by rw [hz2]; omega) (by unfold maxLen; omega) (Nat.le_refl _) ?_; intro w2 ho2 hg2)
  have T0 : Hid (TInv w w2 x g cp w1.heap.size s (fun _ => 0)) := hid (tinv_new hS1.out G1.out Ho.out HB1.out hsz1 hgl1 hg2 ho2)
  clear ho2 hg2 hS1 G1 Ho HB1
  generalize w1.heap.size = gl at *
  by_cases hz : s.rlen = 0
  · have Hz0 := hid (fun j (hj : j < 7) => show (s.acc j).seats = 0 by
      have h1 := Hro.out.len
      rw [hz] at h1
      have h2 := (psum_le (fun a => (s.acc a).seats) 7 (fun a ha => (HI.out.good.pos a ha).s0)).2 j hj
      have h3 := (HI.out.good.pos j hj).s0
      have h4 : s.seatsTo 7 = sumTo (fun a => (s.acc a).seats) 7 := rfl
      omega)
    go_loopw [7, 9] (fun vs i wr => ∃ k : Nat, (k : Int) ≤ s.length ∧ i = .int .i64 k ∧ vs = .bool false ∧ TInv w wr x g cp gl s (fun _ => 0)) (fun _ i _ => s.length.toNat - (intOf i).toNat)
    case atStart => exact ⟨0, by omega, rfl, rfl, T0.out⟩
    case round =>
      obtain ⟨k, hk, rfl, rfl, T⟩ := hrel
      have q0 := T.c0
      have q4 := T.c4
      by_cases hlt : (k : Int) < s.length
      · have T1 := hid T
        clear T
        go_wp2_with fail
        refine (leader_none T1.out.sc ok.toCf k (by omega) (by omega) hz).mono ?_
        rintro e w3 ⟨rfl, b3⟩
        have T2 := hid (T1.out.below b3)
        clear b3 T1
        go_wp2_with fail
        go_roundw
        case rel => exact ⟨k + 1, by omega, by go_num, rfl, T2.out⟩
        case measure => simp [intOf]; omega
      · have hlt' : ¬ (k : Int) < s.length := hlt
        have T1 := hid T
        clear T
        go_wp2_with fail
        go_loopw [14] (fun i wr => ∃ k : Nat, k ≤ s.N + 1 ∧ i = .int .i64 k ∧ TInv w wr x g cp gl s (fun _ => 0)) (fun i _ => s.N + 1 - (intOf i).toNat)
        case atStart => exact ⟨0, Nat.zero_le _, rfl, T1.out⟩
        case round =>
          obtain ⟨j, hj, rfl, T⟩ := hrel
          by_cases hlj : j < s.N + 1
          · have m1 : (j : Int) < ((s.N + 1 : Nat) : Int) := by omega
            have d4 : wr.cell? ⟨g, j * 6 + 4, none⟩ = some (.int .i64 (s.acc j).seats) := told_at T.row hlj 4 (by omega)
            have dl : wr.cell? ⟨gl, j, none⟩ = some (.int .i64 0) := T.ld j hlj
            have q0 := T.c0
            have q4 := T.c4
            have T2 := hid T
            clear T
            have hsj := Hz0.out j (by omega)
            rw [hsj] at d4
            clear hsj
            go_wp2_with fail
            go_quiet (fail)
            go_wp2_with fail
            have T3 := hid (T2.out.below (below_dn (Below.refl _ _) nq))
            go_roundw
            case rel => exact ⟨j + 1, by omega, by go_num, T3.out⟩
            case measure => simp [intOf]; omega
          · have m1 : ¬ (j : Int) < ((s.N + 1 : Nat) : Int) := by omega
            have T2 := hid T
            have q4 := T.c4
            clear T
            go_wp2_with fail
            refine (leader_height T2.out.sc ok.toCf s.length (by omega)).mono ?_
            rintro e w5 ⟨rfl, b5⟩
            have T3 := hid (T2.out.below b5)
            clear b5 T2
            go_wp2_with fail
            refine (leader_height T3.out.sc ok.toCf (-1) (by omega)).mono ?_
            rintro e w6 ⟨rfl, b6⟩
            have T4 := hid (T3.out.below b6)
            clear b6 T3
            go_wp2_with fail
            go_ret
            exact ⟨rfl, T4.out.bel⟩
  · have hS : Hid ((s.rlen : Int) = s.seats) := hid (by
      have h1 := Hro.out.len
      have h2 := Hso.out
      unfold PS.SeatsOk at h2
      omega)
    have hr0 : 0 < s.rlen := by omega
    have hr10 : s.rlen ≤ 10 := by have := hS.out; omega
    have hcb : Hid (∀ (m j : Nat), j < 7 → m ≤ s.rlen → 0 ≤ cntP s.row m j ∧ cntP s.row m j ≤ (s.acc j).seats ∧ (s.acc j).seats ≤ 10) := hid (fun m j hj hm => ⟨cnt_nonneg _ _ _, by rw [← Hro.out.cnt j hj]; exact cnt_mono _ hm _, (HI.out.good.pos j hj).s1⟩)
    go_loopw [7, 9] (fun vs i wr => ∃ (k : Nat) (bb : Bool), (k : Int) ≤ s.length ∧ i = .int .i64 k ∧ vs = .bool bb ∧ (0 < k → bb = true) ∧ TInv w wr x g cp gl s (fun i => cntP s.row (min k s.rlen) i)) (fun _ i _ => s.length.toNat - (intOf i).toNat)
    case atStart => exact ⟨0, false, by omega, rfl, rfl, fun h => absurd h (by omega), T0.out.congr (fun i _ => by rw [Nat.zero_min]; rfl)⟩
    case round =>
      obtain ⟨k, bb, hk, rfl, rfl, hbb, T⟩ := hrel
      have q0 := T.c0
      have q4 := T.c4
      by_cases hlt : (k : Int) < s.length
      · have T1 := hid T
        clear T
        go_wp2_with fail
        obtain ⟨aa, haN, hrow⟩ := Hro.out.mem (k % s.rlen) (Nat.mod_lt _ hr0)
        have hld := leader_ok T1.out.sc ok.toCf k (by omega) hr0
        rw [hrow] at hld
        refine hld.mono ?_
        rintro e w3 ⟨rfl, b3⟩
        have T2 := hid (T1.out.below b3)
        have a1 : ¬ (aa : Int) < 0 := by omega
        have a2 : ¬ ((s.N + 1 : Nat) : Int) ≤ (aa : Int) := by omega
        have a3 : (aa : Int) < ((s.N + 1 : Nat) : Int) := by omega
        have p0 := T2.out.c0
        have p4 := T2.out.c4
        have Hrow := hid hrow
        clear b3 T1 hld hrow q0 q4
        by_cases hks : k < s.rlen
        · have hks' : (k : Int) < s.seats := by have := hS.out; omega
          have hl := T2.out.ld aa (by omega)
          have hfr := T2.out.fr aa
          have hbd := hcb.out (min k s.rlen) aa (by omega) (by omega)
          have T3 := hid ((T2.out.set aa (cntP s.row (min k s.rlen) aa + 1) (by omega)).congr (f' := fun i => cntP s.row (min (k + 1) s.rlen) i) (fun i hi => by
            have hr := Hrow.out
            rw [Nat.mod_eq_of_lt hks] at hr
            rw [Nat.min_eq_left (by omega), Nat.min_eq_left (by omega)]
            have e : cntP s.row (k + 1) i = cntP s.row k i + (if s.row k = i then 1 else 0) := rfl
            rw [e, hr]
            by_cases e2 : i = aa
            · subst e2; rw [if_pos rfl, if_pos rfl]
            · rw [if_neg e2, if_neg (by omega)]; omega))
          generalize cntP s.row (min k s.rlen) aa = q at *
          clear hbb
          go_wp2_with fail
          go_roundw
          case rel => exact ⟨k + 1, true, by omega, by go_num, rfl, fun _ => rfl, T3.out⟩
          case measure => simp [intOf]; omega
        · have hks' : ¬ (k : Int) < s.seats := by have := hS.out; omega
          have he : (k : Int) - s.seats = ((k - s.rlen : Nat) : Int) := by have := hS.out; omega
          have hrow2 : s.row ((k - s.rlen) % s.rlen) = (aa : Int) := by rw [← Nat.mod_eq_sub_mod (by omega)]; exact Hrow.out
          go_wp2_with fail
          first | rw [he] | skip
          have hld := leader_ok T2.out.sc ok.toCf (k - s.rlen) (by omega) hr0
          rw [hrow2] at hld
          refine hld.mono ?_
          rintro e w4 ⟨rfl, b4⟩
          have T3 := hid ((T2.out.below b4).congr (f' := fun i => cntP s.row (min (k + 1) s.rlen) i) (fun i hi => by rw [Nat.min_eq_right (by omega), Nat.min_eq_right (by omega)]))
          clear b4 T2 hld hrow2 he hbb
          go_wp2_with fail
          go_roundw
          case rel => exact ⟨k + 1, true, by omega, by go_num, rfl, fun _ => rfl, T3.out⟩
          case measure => simp [intOf]; omega
      · have hbt := hbb (by omega)
        subst hbt
        have hlt' : ¬ (k : Int) < s.length := hlt
        have T1 := hid T
        clear T hbb
        go_wp2_with fail
        go_loopw [14] (fun i wr => ∃ j : Nat, j ≤ s.N + 1 ∧ i = .int .i64 j ∧ TInv w wr x g cp gl s (fun i => cntP s.row (min k s.rlen) i)) (fun i _ => s.N + 1 - (intOf i).toNat)
        case atStart => exact ⟨0, Nat.zero_le _, rfl, T1.out⟩
        case round =>
          obtain ⟨j, hj, rfl, T⟩ := hrel
          by_cases hlj : j < s.N + 1
          · have m1 : (j : Int) < ((s.N + 1 : Nat) : Int) := by omega
            have d4 : wr.cell? ⟨g, j * 6 + 4, none⟩ = some (.int .i64 (s.acc j).seats) := told_at T.row hlj 4 (by omega)
            have dl : wr.cell? ⟨gl, j, none⟩ = some (.int .i64 (cntP s.row (min k s.rlen) j)) := T.ld j hlj
            have q0 := T.c0
            have q4 := T.c4
            have T2 := hid T
            clear T
            by_cases hLS : s.seats ≤ s.length
            · have he : cntP s.row (min k s.rlen) j = (s.acc j).seats := by rw [Nat.min_eq_right (by have := hS.out; omega)]; exact Hro.out.cnt j (by omega)
              rw [he] at dl
              generalize (s.acc j).seats = q at *
              clear he
              go_wp2_with fail
              go_quiet (fail)
              go_wp2_with fail
              have T3 := hid (T2.out.below (below_dn (Below.refl _ _) nq))
              go_roundw
              case rel => exact ⟨j + 1, by omega, by go_num, T3.out⟩
              case measure => simp [intOf]; omega
            · have hle2 : ¬ (s.acc j).seats < cntP s.row (min k s.rlen) j := by have := hcb.out (min k s.rlen) j (by omega) (by omega); omega
              generalize (s.acc j).seats = q at *
              generalize cntP s.row (min k s.rlen) j = q2 at *
              have hd1 : decide (s.seats ≤ s.length) = false := decide_eq_false hLS
              have hd2 : decide (q < q2) = false := decide_eq_false hle2
              go_wp2_with fail
              go_quiet (fail)
              go_wp2_with fail
              have T3 := hid (T2.out.below (below_dn (Below.refl _ _) nq))
              go_roundw
              case rel => exact ⟨j + 1, by omega, by go_num, T3.out⟩
              case measure => simp [intOf]; omega
          · have m1 : ¬ (j : Int) < ((s.N + 1 : Nat) : Int) := by omega
            have T2 := hid T
            have q4 := T.c4
            clear T
            go_wp2_with fail
            refine (leader_height T2.out.sc ok.toCf s.length (by omega)).mono ?_
            rintro e w5 ⟨rfl, b5⟩
            have T3 := hid (T2.out.below b5)
            clear b5 T2
            go_wp2_with fail
            refine (leader_height T3.out.sc ok.toCf (-1) (by omega)).mono ?_
            rintro e w6 ⟨rfl, b6⟩
            have T4 := hid (T3.out.below b6)
            clear b6 T3
            go_wp2_with fail
            go_ret
            exact ⟨rfl, T4.out.bel⟩
end
end Go.Proofs.Ytiokecadnmcpeaa
