import Derived.Test.YtiokecadnmcpeaaKMinted
namespace Go.Proofs.Ytiokecadnmcpeaa
set_option linter.unusedVariables false
set_option linter.unusedSimpArgs false
open Go.ChangeShapes Go.WideShapes Go.ChangeAt Go.RowKit

theorem minted_of {w W : World} {x gc k gs capS : Nat} {c : Rules} {s : PS} (h : KInv w x gc c W s k) (hk : k ≤ 4611686018427387904) (hs : Sl W gs x gc (c.N + 1) w.heap.size (fun i => (s.acc i).cheated)) (seed : Int) (hs1 : -9223372036854775808 ≤ seed) (hs2 : seed ≤ 9223372036854775807) :
    Calls Try.prog 26 #[.pointer (some ⟨x, 0, none⟩), .agg #[.int .i64 c.seats, .int .i64 c.delay, .int .i64 c.rate, .int .i64 c.cut, .int .i64 c.length, .int .i64 c.need, .slice c.a c.N c.cap], .slice (some ⟨gs, 0, none⟩) (c.N + 1) capS, .int .i64 seed] W fun e w' => e = .returned (.bool true) ∧ KInv w x gc c w' (s.next seed) (k + 1) := by
  have hh := minted_ok h.sc h.inv (by have := h.ep; omega) c.seats c.delay c.length c.need c.a c.cap gs capS seed hs1 hs2 (by rw [h.cf.N]; exact hs.cells) hs.nx
  rw [h.cf.rate, h.cf.cut, h.cf.N] at hh
  exact hh.mono (fun e w' ⟨h1, h2⟩ => ⟨h1, h.did (o := ⟨3, seed, 0, 0⟩) hk (.next rfl) h2⟩)
theorem state_of {w W : World} {x gc k : Nat} {c : Rules} {s : PS} (h : KInv w x gc c W s k) : Calls Try.prog 27 #[.pointer (some ⟨x, 0, none⟩)] W fun e w' => e = .returned (.agg #[.int .i64 s.epoch, .int .i64 s.supply, .int .i64 s.treasury, .int .i64 s.price, .int .i64 s.allShares]) ∧ Below W.heap.size W w' := state_any h.sc h.inv.good.ok
theorem play_of {w W : World} {x gc k : Nat} {c : Rules} {s : PS} (h : KInv w x gc c W s k) (hk : k ≤ 4611686018427387904) (o : StD) (ok : o.Ok) : Calls Try.prog 20 #[.pointer (some ⟨x, 0, none⟩), .agg #[.int .i64 o.kind, .int .i64 o.A, .int .i64 o.B, .int .i64 o.C]] W fun e w' => ∃ er s', e = .returned (.int .i64 er) ∧ s.Did o er s' ∧ PTo W x w' s' ∧ KInv w x gc c w' s' (k + 1) :=
  (play_ok h.sc h.inv (by have := h.ep; omega) o ok).mono (fun e w' ⟨er, s', h1, h2, h3⟩ => ⟨er, s', h1, h2, h3, h.did hk h2 h3⟩)

theorem KInv.grow {w W W' : World} {x gc k : Nat} {c : Rules} {s : PS} (h : KInv w x gc c W s k) (hg : W.grownBy W' none) : KInv w x gc c W' s k :=
  h.below ⟨hg.os, hg.tape, hg.output, hg.size, fun i hi => hg.block i hi (by simp)⟩
theorem Sl.grow {W W' : World} {gs x gc n lo : Nat} {f : Nat → Bool} (h : Sl W gs x gc n lo f) (hg : W.grownBy W' none) : Sl W' gs x gc n lo f :=
  h.blk hg.size (hg.block gs h.lt (by simp))

set_option maxHeartbeats 3200000 in
set_option maxRecDepth 100000 in
theorem minted_walk (o : SetD) (a : Option Addr) (cap : Nat) (s : List StD) (w : World) (ok : SetOk w o) (hs : Steps w a s) (hreach : s.length ≤ 4611686018427387903) :
    Calls Try.prog 11 #[.agg #[.int .i64 o.seats, .int .i64 o.delay, .int .i64 o.rate, .int .i64 o.cut, .int .i64 o.length, .int .i64 o.need, .slice o.sa o.start.length o.scap], .slice a s.length cap] w fun e w' => e = .returned (.bool true) ∧ Below w.heap.size w w' := by
  obtain ⟨i0, hi, hz0, hz1, hz2⟩ := info_parts Try.info_bool
  have hb0 := (Below.refl w.heap.size w).alloc (Nat.le_refl _) (.cells #[.int .i64 o.seats, .int .i64 o.delay, .int .i64 o.rate, .int .i64 o.cut, .int .i64 o.length, .int .i64 o.need, .slice o.sa o.start.length o.scap] 35)
  have HM := hid (kmade_any o _ (ok.below hb0))
  have HB0 := hid hb0
  have Hs := hid hs
  have fs1 := field_st1
  clear hb0 hs
  go_enter Try.func11, Try.ntmps11
  go_wp2_with fail
  refine HM.out.mono ?_
  rintro e w1 ⟨x, sn, sd, sr, sc, sl, sne, sa, scap, l, rfl, hn, hst, hS, hx, b1⟩
  have hl6 := hst.1
  have hK0 : Hid (KInv w x w1.heap.size ⟨sn, sd, sr, sc, sl, sne, l.length, sa, scap⟩ (w1.alloc (.cells #[.int .i64 sn, .int .i64 sd, .int .i64 sr, .int .i64 sc, .int .i64 sl, .int .i64 sne, .slice sa l.length scap] 25)) (newPS l.length sn sd sr sc sl sne l l.length) 0) := hid (kinv_new (w := w) (a := sa) (cap := scap) hn hst hS (by simp at hx; omega) (HB0.out.trans (b1.mono HB0.out.size)))
  have hche := hid (fun i => show ((newPS l.length sn sd sr sc sl sne l l.length).acc i).cheated = false by rw [knewPS_acc]; split <;> rfl)
  clear HM HB0 b1 hS hx hn hst
  have hcl : w1.heap.size < (w1.alloc (.cells #[.int .i64 sn, .int .i64 sd, .int .i64 sr, .int .i64 sc, .int .i64 sl, .int .i64 sne, .slice sa l.length scap] 25)).heap.size := by simp
  have f6 : (w1.alloc (.cells #[.int .i64 sn, .int .i64 sd, .int .i64 sr, .int .i64 sc, .int .i64 sl, .int .i64 sne, .slice sa l.length scap] 25)).cell? ⟨w1.heap.size, 6, none⟩ = some (.slice sa l.length scap) := hK0.out.cell 6
  go_upto_region 4 with fail
  generalize w1.alloc (.cells #[.int .i64 sn, .int .i64 sd, .int .i64 sr, .int .i64 sc, .int .i64 sl, .int .i64 sne, .slice sa l.length scap] 25) = V at *
  generalize w1.heap.size = gc at *
  have hVz := hK0.out.bel.size
  go_wp2_with (at_make; refine wpList_make_full _ rfl (.tmp 25) (.tmp 25) 52 rfl w.heap.size 4 i0 (.bool false) 1 Try.underlying52 hi hz0 hz1 .i64 .i64 _ _ (l.length + 1) rfl rfl (by omega) (by omega) (by rw [hz2]; omega) (by unfold maxLen; omega) hVz ?_; intro w2 ho2 hg2; have K2 := hid (hK0.out.grow hg2); have S2 := hid ((sl_new (gc := gc) hK0.out.sc.lt hcl hVz (by omega) ho2).congr (g := fun i => ((newPS l.length sn sd sr sc sl sne l l.length).acc i).cheated) (fun i => (hche.out i).symm)); clear ho2 hg2)
  go_loopw [7, 8, 9] (fun vo vs i wr => ∃ (k : Nat) (ps : PS) (gs : Nat), k ≤ s.length ∧ i = .int .i64 k ∧ vo = .bool true ∧ vs = .slice (some ⟨gs, 0, none⟩) (l.length + 1) (l.length + 1) ∧ KInv w x gc ⟨sn, sd, sr, sc, sl, sne, l.length, sa, scap⟩ wr ps k ∧ Sl wr gs x gc (l.length + 1) w.heap.size (fun i => (ps.acc i).cheated)) (fun _ _ i _ => s.length - (intOf i).toNat)
  case atStart => exact ⟨0, _, _, Nat.zero_le _, rfl, rfl, rfl, K2.out, S2.out⟩
  case round =>
    obtain ⟨k, ps, gs, hk, rfl, rfl, rfl, K, S⟩ := hrel
    have f0 : wr.cell? ⟨gc, 0, none⟩ = some (.int .i64 sn) := K.cell 0
    have f1 : wr.cell? ⟨gc, 1, none⟩ = some (.int .i64 sd) := K.cell 1
    have f2 : wr.cell? ⟨gc, 2, none⟩ = some (.int .i64 sr) := K.cell 2
    have f3 : wr.cell? ⟨gc, 3, none⟩ = some (.int .i64 sc) := K.cell 3
    have f4 : wr.cell? ⟨gc, 4, none⟩ = some (.int .i64 sl) := K.cell 4
    have f5 : wr.cell? ⟨gc, 5, none⟩ = some (.int .i64 sne) := K.cell 5
    have f6 : wr.cell? ⟨gc, 6, none⟩ = some (.slice sa l.length scap) := K.cell 6
    have HK := hid K
    have HS := hid S
    by_cases hlt : k < s.length
    · obtain ⟨b, off, ha, hok, hc⟩ := (Hs.out.below K.bel).at hlt
      subst ha
      have l1 : (k : Int) < (s.length : Int) := by omega
      have hk62 : k ≤ 4611686018427387904 := by omega
      generalize s.getD k StD.zero = st at *
      have c0 : wr.cell? ⟨b, off + k * 4, none⟩ = some (.int .i64 st.kind) := hc 0 (by omega)
      have c1 : wr.cell? ⟨b, off + k * 4 + 1, none⟩ = some (.int .i64 st.A) := hc 1 (by omega)
      have c2 : wr.cell? ⟨b, off + k * 4 + 2, none⟩ = some (.int .i64 st.B) := hc 2 (by omega)
      have c3 : wr.cell? ⟨b, off + k * 4 + 3, none⟩ = some (.int .i64 st.C) := hc 3 (by omega)
      have Hok := hid hok
      have ba := (Below.refl wr.heap.size wr).alloc (Nat.le_refl _) (.cells #[.int .i64 st.kind, .int .i64 st.A, .int .i64 st.B, .int .i64 st.C] 41)
      have KA := hid (K.below ba)
      have SA := hid (S.below ba)
      have hgl : gc < wr.heap.size := block_lt_of_cell f6
      have hne : ¬ gc = wr.heap.size := by omega
      have g0 : (wr.alloc (.cells #[.int .i64 st.kind, .int .i64 st.A, .int .i64 st.B, .int .i64 st.C] 41)).heap[wr.heap.size]? = some (.cells #[.int .i64 st.kind, .int .i64 st.A, .int .i64 st.B, .int .i64 st.C] 41 (0, 0)) := heap_alloc_new wr _
      have G0 := hid g0
      have hxs : Hid (wr.heap.size ≠ x) := hid (by have := K.sc.lt; omega)
      clear hc K S hok ba g0
      obtain ⟨kd, A, B, C⟩ := st
      simp only at *
      by_cases h3 : kd = 3
      · subst h3
        go_wp2_with fail
        refine (minted_of (capS := l.length + 1) KA.out hk62 SA.out A (wfk Hok.out.wA).1 (wfk Hok.out.wA).2).mono ?_
        rintro e w3 ⟨rfl, K3⟩
        have e6 : w3.cell? ⟨gc, 6, none⟩ = some (.slice sa l.length scap) := K3.cell 6
        have hV3 := K3.bel.size
        have HK3 := hid K3
        have hch := hid (fun i => ps.next_cheated KA.out.inv.good KA.out.inv.low (by have := KA.out.ep; omega) A i)
        clear K3
        go_wp2_with (at_make; refine wpList_make_full _ rfl (.tmp 52) (.tmp 52) 52 rfl w.heap.size 4 i0 (.bool false) 1 Try.underlying52 hi hz0 hz1 .i64 .i64 _ _ (l.length + 1) rfl rfl (by omega) (by omega) (by rw [hz2]; omega) (by unfold maxLen; omega) hV3 ?_; intro w4 ho4 hg4; have K4 := hid (HK3.out.grow hg4); have S4 := hid ((sl_new (gc := gc) HK3.out.sc.lt (block_lt_of_cell e6) hV3 (by omega) ho4).congr (g := fun i => ((ps.next A).acc i).cheated) (fun i => (hch.out i).symm)); clear ho4 hg4)
        go_roundw
        case rel => exact ⟨k + 1, _, _, by omega, by go_num, rfl, rfl, K4.out, S4.out⟩
        case measure => simp [intOf]; omega
      · have h3' : (kd == 3) = false := by simpa using h3
        go_wp2_with fail
        refine (state_of KA.out).mono ?_
        rintro e w3 ⟨rfl, b3⟩
        have K3 := hid (KA.out.below b3)
        have S3 := hid (SA.out.below b3)
        have g3 := (b3.block _ (lt_of_block G0.out)).trans G0.out
        have q0 : w3.cell? ⟨wr.heap.size, 0, none⟩ = some (.int .i64 kd) := cell_of_row w3 wr.heap.size 0 _ _ _ g3
        have q1 : w3.cell? ⟨wr.heap.size, 1, none⟩ = some (.int .i64 A) := cell_of_row w3 wr.heap.size 1 _ _ _ g3
        have q2 : w3.cell? ⟨wr.heap.size, 2, none⟩ = some (.int .i64 B) := cell_of_row w3 wr.heap.size 2 _ _ _ g3
        have q3 : w3.cell? ⟨wr.heap.size, 3, none⟩ = some (.int .i64 C) := cell_of_row w3 wr.heap.size 3 _ _ _ g3
        have G3 := hid g3
        clear b3 g3 KA SA G0 c0 c1 c2 c3 f0 f1 f2 f3 f4 f5 f6
        go_wp2_with fail
        refine (play_of K3.out hk62 ⟨kd, A, B, C⟩ Hok.out).mono ?_
        rintro e w4 ⟨er, ps', rfl, hd, t4, K4⟩
        have S4 := hid (S3.out.to t4)
        have g4 := (t4.keeps.block _ (lt_of_block G3.out) (fun e => hxs.out e)).trans G3.out
        have G4 := hid g4
        have HK4 := hid K4
        have Hd := hid hd
        have hsup := (hd.kept K3.out.inv h3).sup
        clear t4 K4 hd G3 q0 q1 q2 q3 S3 g4
        go_wp2_with fail
        have hst := state_of HK4.out
        rw [hsup] at hst
        refine hst.mono ?_
        rintro e w5 ⟨rfl, b5⟩
        have K5 := hid (HK4.out.below b5)
        have S5 := hid (S4.out.below b5)
        have g5 := (b5.block _ (lt_of_block G4.out)).trans G4.out
        have r0 : w5.cell? ⟨wr.heap.size, 0, none⟩ = some (.int .i64 kd) := cell_of_row w5 wr.heap.size 0 _ _ _ g5
        have r1 : w5.cell? ⟨wr.heap.size, 1, none⟩ = some (.int .i64 A) := cell_of_row w5 wr.heap.size 1 _ _ _ g5
        have e6 : w5.cell? ⟨gc, 6, none⟩ = some (.slice sa l.length scap) := K5.out.cell 6
        clear b5 g5 HK4 S4 G4 hst hsup
        rcases Hd.out.che h3 with ⟨h5, her, aa, hA, haN, hch⟩ | ⟨hno, hch⟩
        · simp only at h5 hA
          subst h5
          subst her
          subst hA
          have haN' : aa < l.length + 1 := by have := K3.out.cf.N; simp only at this; omega
          have a1 : ¬ ((aa : Nat) : Int) < 0 := by omega
          have a2 : ¬ (l.length : Int) < ((aa : Nat) : Int) := by omega
          have a3 : ((aa : Nat) : Int) < ((l.length + 1 : Nat) : Int) := by omega
          have cs := S5.out.cells aa haN'
          have fro := S5.out.fro aa
          generalize (ps.acc aa).cheated = bb at cs
          have K6 := hid (K5.out.setSl S5.out aa (.bool true))
          have S6 := hid ((S5.out.set aa haN').congr (g := fun i => (ps'.acc i).cheated) (fun i => (hch i).symm))
          clear hch
          go_wp2_with fail
          go_roundw
          case rel => exact ⟨k + 1, ps', gs, by omega, by go_num, rfl, rfl, K6.out, S6.out⟩
          case measure => simp [intOf]; omega
        · simp only at hno
          have S6 := hid (S5.out.congr (g := fun i => (ps'.acc i).cheated) (fun i => (hch i).symm))
          clear hch
          by_cases h5 : kd = 5
          · subst h5
            have her : ¬ er = 0 := fun e => hno ⟨rfl, e⟩
            have her' : (er == 0) = false := by simpa using her
            go_wp2_with fail
            go_roundw
            case rel => exact ⟨k + 1, ps', gs, by omega, by go_num, rfl, rfl, K5.out, S6.out⟩
            case measure => simp [intOf]; omega
          · have h5' : (kd == 5) = false := by simpa using h5
            go_wp2_with fail
            go_roundw
            case rel => exact ⟨k + 1, ps', gs, by omega, by go_num, rfl, rfl, K5.out, S6.out⟩
            case measure => simp [intOf]; omega
    · have l1 : ¬ (k : Int) < (s.length : Int) := by omega
      clear K S
      go_wp2_with fail
      refine (minted_of (capS := l.length + 1) HK.out (by omega) HS.out 0 (by omega) (by omega)).mono ?_
      rintro e w3 ⟨rfl, K3⟩
      have hb := hid K3.bel
      clear K3
      go_wp2_with fail
      go_ret
      exact ⟨rfl, hb.out⟩
end Go.Proofs.Ytiokecadnmcpeaa
