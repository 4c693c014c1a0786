import Derived.Test.YtiokecadnmcpeabLM
namespace Go.Proofs.Ytiokecadnmcpeab
set_option linter.unusedVariables false
set_option linter.unusedSimpArgs false
open Go.ChangeShapes Go.WideShapes Go.ChangeAt Go.RowKit

theorem Try.info_pair : (Try.prog.info? 101).map (fun i => (i.zero, i.size, i.bytes)) = some (some (.agg #[.pointer none, .pointer none]), 2, 16) := by kernel_rfl

theorem two_lies (w : World) (u v : Value) (t : TypeId) : ∀ j x, [u, v][j]? = some x → (w.alloc (.cells #[u, v] t)).cell? ((⟨w.heap.size, 0, none⟩ : Addr).add j) = some x := by
  intro j x hj
  rw [add_plain, Nat.zero_add, World.cell?_alloc_at _ _ _ _ rfl]
  simpa using hj

set_option maxHeartbeats 6400000 in
set_option maxRecDepth 100000 in
theorem made_yes {B wb T : Nat} {ps : List Pr} {va : Value} (o : OpD) (w : World) (hI : WInv w B wb ps va T) (hT : 6 ≤ T) (hps : ps.length * 16 + 16 ≤ 140737488355328) (ok : OpOk w o) (hn : NumFit o.seats o.delay o.rate o.cut o.length o.need) (hsf : StartFit o.l) :
    Calls Try.prog 60 #[.pointer (some ⟨wb, 0, none⟩), .agg o.cells] w fun e w' => e = .returned (.bool true) ∧ ∃ ps' va', WInv w' B wb ps' va' T ∧ ps'.length = ps.length + 1 ∧ Below B w w' := by
  have Hn := hid (hn)
  have Hsf := hid (hsf)
  have HI := hid (hI)
  have hwbB := hI.lo
  have hwlt := lt_of_block hI.blk
  obtain ⟨i0, hi, hz0, hz1, hz2⟩ := info_parts Try.info_pair
  have M0 := Making.start w o
  have hl0 := ok.l.below M0.bel
  have hreach := ok.reach
  have HM0 := hid (M0)
  have Hl0 := hid (hl0)
  have Hl := hid (ok.l)
  have hra : (room o.l).length ≤ o.l.length + 8 := Nat.le_of_eq (room_length o.l)
  have hrb : o.l.length + 8 ≤ (room o.l).length := Nat.le_of_eq (room_length o.l).symm
  clear hn hsf hI M0 hl0 ok
  unfold OpD.cells
  go_enter Try.func60, Try.ntmps60
  go_wp2_with fail
  refine (roomy_any o.la o.lcap o.l ((w.alloc (.cells o.cells 85)).alloc (.cells #[.int .i64 o.seats, .int .i64 o.delay, .int .i64 o.rate, .int .i64 o.cut, .int .i64 o.length, .int .i64 o.need, .slice o.sa o.start.length o.scap] 27)) Hl0.out hreach).mono ?_
  rintro e w2 ⟨rv, rfl, hown, hb2⟩
  obtain ⟨g, capr, cur, hv, hg1, hcap, hints, hblk, hcur⟩ := own_row hown (by omega)
  rw [hv]
  have M2 := HM0.out.below hb2
  have mL := M2.L
  have m0 := M2.c0
  have m1 := M2.c1
  have m2 := M2.c2
  have m3 := M2.c3
  have m4 := M2.c4
  have m5 := M2.c5
  have m6 := M2.c6
  have mf := M2.f6
  have i1 : (o.l.length : Int) ≤ (capr : Int) := by omega
  have hg2 : w.heap.size + 2 ≤ g := by simpa using hg1
  have M3 := M2.set (.slice (some ⟨g, 0, none⟩) o.l.length capr)
  have K3 : Keeps (fun k => k = w.heap.size + 1) w2 (w2.setCell ⟨w.heap.size + 1, 6, none⟩ (.slice (some ⟨g, 0, none⟩) o.l.length capr)) := (Keeps.refl (fun k => k = w.heap.size + 1) w2).setCell ⟨w.heap.size + 1, 6, none⟩ _ (fun _ => rfl)
  have I3 := hints.keeps K3 (by omega)
  have blk3 := (K3.block g (lt_of_block hblk) (by omega)).trans hblk
  have HM3 := hid (M3)
  have HI3 := hid (I3)
  have Hblk3 := hid (blk3)
  clear hown hb2 hv hg1 HM0 Hl0 M2 hints hblk M3 K3 I3 blk3
  go_wp2_with fail
  refine (new_yes o.seats o.delay o.rate o.cut o.length o.need (some ⟨g, 0, none⟩) capr o.l _ (Ints.front HI3.out) Hn.out Hsf.out).mono ?_
  rintro e w4 ⟨x, rfl, S4, hx4, b4⟩
  have hgx : g < x := by have h1 := lt_of_block Hblk3.out; omega
  have HS4 := hid (S4)
  have hx5 := S4.lt
  have hwx : w.heap.size ≤ x := by omega
  clear S4 hx4
  have M4 := HM3.out.below b4
  have I4 := hid (HI3.out.below b4)
  have blk4 := hid ((b4.block g (lt_of_block Hblk3.out)).trans Hblk3.out)
  have L4 := hid (Hl.out.below M4.bel)
  have HM4 := hid (M4)
  clear mL m0 m1 m2 m3 m4 m5 m6 mf HM3 HI3 Hblk3 b4
  have mL := M4.L
  have m0 := M4.c0
  have m1 := M4.c1
  have m2 := M4.c2
  have m3 := M4.c3
  have m4 := M4.c4
  have m5 := M4.c5
  clear M4
  go_wp2_with fail
  refine (rnew_ok o.seats o.delay o.rate o.cut o.length o.need o.la o.lcap o.l _ L4.out hreach Hn.out Hsf.out).mono ?_
  rintro e w5 ⟨y, v, rfl, R5, b5⟩
  have HS5 := hid (HS4.out.below b5)
  have HR5 := hid (R5)
  clear R5 HS4
  have M5 := HM4.out.below b5
  have I5 := hid (I4.out.below b5)
  have blk5 := hid ((b5.block g (lt_of_block blk4.out)).trans blk4.out)
  have L5 := hid (L4.out.below b5)
  have HM5 := hid (M5)
  clear mL m0 m1 m2 m3 m4 m5 HM4 I4 blk4 L4 b5
  have mL := M5.L
  clear M5
  go_wp2_with fail
  refine (untouched_any _ _ _ _ o.l _ I5.out L5.out hreach).mono ?_
  rintro e w6 ⟨rfl, rfl⟩
  clear mL
  go_wp2_with fail
  go_loopw [12] (fun i wr => ∃ k : Nat, k ≤ (room o.l).length ∧ i = .int .i64 k ∧ (∃ cr : Array Value, wr.heap[g]? = some (.cells cr 3 (0, 0)) ∧ (room o.l).length ≤ cr.size) ∧ Keeps (fun j => j = g) w6 wr) (fun i _ => (room o.l).length - (intOf i).toNat)
  case atStart => exact ⟨0, Nat.zero_le _, rfl, ⟨cur, blk5.out, hcur⟩, Keeps.refl _ _⟩
  case round =>
    obtain ⟨k, hk, rfl, ⟨cr, hcr, hcs⟩, hK⟩ := hrel
    by_cases hlt : k < (room o.l).length
    · have e0 : ∃ u, wr.cell? ⟨g, k, none⟩ = some u := ⟨cr[k], by rw [cell_of_row wr g k cr _ _ hcr]; exact Array.getElem?_eq_getElem (by omega)⟩
      obtain ⟨u0, e0⟩ := e0
      have f0 : wr.frozen? ⟨g, k, none⟩ = false := frozen_of_row wr g k cr _ hcr
      have hn : Hid (∀ u, (∃ cr : Array Value, (wr.setCell ⟨g, k, none⟩ u).heap[g]? = some (.cells cr 3 (0, 0)) ∧ (room o.l).length ≤ cr.size) ∧ Keeps (fun j => j = g) w6 (wr.setCell ⟨g, k, none⟩ u)) :=
        fun u => ⟨⟨_, heap_setCell_same wr g k cr _ u hcr, by simpa using hcs⟩, hK.setCell ⟨g, k, none⟩ u (fun _ => rfl)⟩
      clear hcr hK
      go_wp2_with fail
      go_roundw
      case rel => exact ⟨k + 1, by omega, by go_num, (hn.out _).1, (hn.out _).2⟩
      case measure => simp [intOf]; omega
    · have hbel : Below w.heap.size w wr := HM5.out.bel.trans (hK.below (B := w.heap.size) HM5.out.bel.size (fun i hi => by rw [hi]; omega))
      have fR : ∀ b, RFoot y v b → w4.heap.size ≤ b := fun b hb => (HR5.out.lt hb).1
      have hp : PrOk wr B ⟨x, y, newRS o.seats o.delay o.rate o.cut o.length o.need o.l, v, newPS o.l.length o.seats o.delay o.rate o.cut o.length o.need o.l o.l.length⟩ :=
        ⟨HS5.out.keeps hK (by omega), (HR5.out.keeps hK (fun b hb e => by have := fR b hb; omega)).lower (by omega), Ag.new _ _ _ _ _ _ _ Hn.out Hsf.out, by show B ≤ x; omega, fun hf => by have h1 := fR x hf; omega⟩
      have hI2 := HI.out.below hbel
      have hnew : ∀ k, PFoot ⟨x, y, newRS o.seats o.delay o.rate o.cut o.length o.need o.l, v, newPS o.l.length o.seats o.delay o.rate o.cut o.length o.need o.l o.l.length⟩ k → w.heap.size ≤ k := by
        rintro k (rfl | hk)
        · exact hwx
        · have := fR k hk; omega
      have hold : ∀ k, k = wb ∨ va.ownBlock = some k ∨ (∃ i, i < ps.length ∧ PFoot (ps.getD i Pr.none) k) → k < w.heap.size := by
        rintro k (rfl | hv | ⟨i, hi, hk⟩)
        · exact hwlt
        · exact (HI.out.own.lt k hv).2
        · exact ((HI.out.ok i hi).lt hk).2
      have ow := hid (hI2.own)
      have hBr := hid (hbel)
      have HI2 := hid (hI2)
      have Hp := hid (hp)
      have Hnew := hid (hnew)
      have Hold := hid (hold)
      have cw : wr.cell? ⟨wb, 0, none⟩ = some va := cell_of_row wr wb 0 _ _ _ hI2.blk
      have hB0 : B ≤ wr.heap.size := by have := hbel.size; omega
      have hep6 := hid (show (newRS o.seats o.delay o.rate o.cut o.length o.need o.l).epoch ≤ (T : Int) by show (0 : Int) ≤ (T : Int); omega)
      have hl6 : (startBook o.l o.l.length).length ≤ T := by rw [startBook_length]; have := Hsf.out.1.2; omega
      clear hcr hK hbel hI2 hp hnew hold HS5 HR5 HM5 I5 blk5 L5
      go_wp2_with (first | (go_at_call 74; refine (num_any _ _).mono ?_; rintro e w' ⟨rfl, hw'⟩; have hw2 := hw'.symm; subst hw2) | (at_builtin; (refine wpList_append_lies _ rfl (.tmp 84) (.tmp 88) 80 rfl B 101 i0 (.agg #[.pointer none, .pointer none]) 2 16 Try.underlying80 hi hz0 hz1 hz2 rfl (by decide) va ps.length _ rfl (ow.out.alloc _) ⟨wr.heap.size, 0, none⟩ 1 1 [.pointer (some ⟨x, 0, none⟩), .pointer (some ⟨y, 0, none⟩)] rfl rfl (two_lies _ _ _ _) (by intro u hu; simp at hu; rcases hu with rfl | rfl <;> rfl) (by decide) (by unfold maxLen; omega) (by omega) (by simp; omega) (wr.heap.size + 1) (by simp) ?_); intro g7 cp7 w7 o7 hg7 ha7 hl7; (have P7 := HI2.out.push Hp.out Hnew.out Hold.out hl6 hep6.out o7 hg7 ha7; have c7 := P7.2.2.1; have f7 := P7.2.2.2; have W7 := hid (P7.1); have L7 := hid (P7.2.1); clear P7 o7 hg7 ha7 hl7)))
      go_ret
      exact ⟨rfl, _, _, W7.out, by simp, (hBr.out.mono (by omega)).trans L7.out⟩
end Go.Proofs.Ytiokecadnmcpeab
