import Derived.Test.YtiokecadnmcpeaaKLoop
import Derived.Test.YtiokecadnmcpeaaKSold
namespace Go.Proofs.Ytiokecadnmcpeaa
set_option linter.unusedVariables false
set_option linter.unusedSimpArgs false
open Go.ChangeShapes Go.WideShapes Go.ChangeAt Go.RowKit

theorem sold_of {w W : World} {x gc k : Nat} {c : Rules} {s : PS} (h : KInv w x gc c W s k) (so : s.SoldOk) :
    Calls Try.prog 21 #[.pointer (some ⟨x, 0, none⟩), .agg #[.int .i64 c.seats, .int .i64 c.delay, .int .i64 c.rate, .int .i64 c.cut, .int .i64 c.length, .int .i64 c.need, .slice c.a c.N c.cap]] W fun e w' => e = .returned (.bool true) ∧ KInv w x gc c w' s k := by
  have hh := sold_ok h.sc h.inv so c.delay c.rate c.cut c.length c.need c.a c.cap
  rw [h.cf.seats, h.cf.N] at hh
  exact hh.mono (fun e w' ⟨h1, h2⟩ => ⟨h1, h.below h2⟩)
set_option maxHeartbeats 1600000 in
/-- A step that is a Next. -/
theorem play_next {w : World} {x : Nat} {s : PS} (h : SC w x s) (I : s.Inv) (he : s.epoch ≤ 4611686018427387904) (A B C : Int) (ok : (⟨3, A, B, C⟩ : StD).Ok) :
    Calls Try.prog 20 #[.pointer (some ⟨x, 0, none⟩), .agg #[.int .i64 3, .int .i64 A, .int .i64 B, .int .i64 C]] w fun e w' => e = .returned (.int .i64 0) ∧ PTo w x w' (s.next A) := by
  have hb := (Below.refl w.heap.size w).alloc (Nat.le_refl _) (.cells #[.int .i64 3, .int .i64 A, .int .i64 B, .int .i64 C] 41)
  have T0 := hid (PTo.ofBelow h hb)
  have HC := hid (next_ok T0.out.sc (PS.Good.nextOk I.good I.low he) A (wfk ok.wA).1 (wfk ok.wA).2)
  clear hb h
  go_enter Try.func20, Try.ntmps20
  go_wp2_with fail
  refine HC.out.mono ?_
  rintro e w1 ⟨rfl, t1⟩
  have T1 := hid (T0.out.trans t1)
  clear t1
  go_wp2_with fail
  go_ret
  exact ⟨rfl, T1.out⟩

theorem Steps.ne {w : World} {b off x : Nat} {s : List StD} (h : Steps w (some ⟨b, off, none⟩) s) (hx : w.heap.size ≤ x) {k : Nat} (hk : k < s.length) : b ≠ x := by
  obtain ⟨b2, off2, ha, _, hc⟩ := h.at hk
  simp only [Option.some.injEq, Addr.mk.injEq, and_true] at ha
  have : b2 < w.heap.size := block_lt_of_cell ((hc 0 (by omega)).trans (show _ = some (Value.int .i64 (s.getD k StD.zero).kind) from rfl))
  omega

set_option maxHeartbeats 3200000 in
set_option maxRecDepth 100000 in
theorem sold_walk (o : SetD) (a : Option Addr) (cap : Nat) (s : List StD) (w : World) (ok : SetOk w o) (hs : Steps w a s) (hreach : s.length ≤ 4611686018427387000) :
    Calls Try.prog 9 #[.agg #[.int .i64 o.seats, .int .i64 o.delay, .int .i64 o.rate, .int .i64 o.cut, .int .i64 o.length, .int .i64 o.need, .slice o.sa o.start.length o.scap], .slice a s.length cap] w fun e w' => e = .returned (.bool true) ∧ Below w.heap.size w w' := by
  have hb0 := (Below.refl w.heap.size w).alloc (Nat.le_refl _) (.cells #[.int .i64 o.seats, .int .i64 o.delay, .int .i64 o.rate, .int .i64 o.cut, .int .i64 o.length, .int .i64 o.need, .slice o.sa o.start.length o.scap] 35)
  have HM := hid (kmade_any o _ (ok.below hb0))
  have HB0 := hid hb0
  have Hs := hid hs
  clear hb0 hs
  go_enter Try.func9, Try.ntmps9
  go_wp2_with fail
  refine HM.out.mono ?_
  rintro e w1 ⟨x, sn, sd, sr, sc, sl, sne, sa, scap, l, rfl, hn, hst, hS, hx, b1⟩
  have K0 := hid (kinv_new (w := w) (a := sa) (cap := scap) hn hst hS (by simp at hx; omega) (HB0.out.trans (b1.mono HB0.out.size)))
  have hK0 : Hid (KInv w x w1.heap.size ⟨sn, sd, sr, sc, sl, sne, l.length, sa, scap⟩ (w1.alloc (.cells #[.int .i64 sn, .int .i64 sd, .int .i64 sr, .int .i64 sc, .int .i64 sl, .int .i64 sne, .slice sa l.length scap] 25)) (newPS l.length sn sd sr sc sl sne l l.length) 0) := K0
  clear HM HB0 b1 hS hx hn hst K0
  go_wp2_with fail
  generalize w1.alloc (.cells #[.int .i64 sn, .int .i64 sd, .int .i64 sr, .int .i64 sc, .int .i64 sl, .int .i64 sne, .slice sa l.length scap] 25) = V at *
  generalize w1.heap.size = gc at *
  go_loopw [7, 8] (fun vo i wr => ∃ (k : Nat) (ps : PS), k ≤ s.length ∧ i = .int .i64 k ∧ vo = .bool true ∧ KInv w x gc ⟨sn, sd, sr, sc, sl, sne, l.length, sa, scap⟩ wr ps k) (fun _ i _ => s.length - (intOf i).toNat)
  case atStart => exact ⟨0, _, Nat.zero_le _, rfl, rfl, hK0.out⟩
  case round =>
    obtain ⟨k, ps, hk, rfl, rfl, K⟩ := hrel
    have f0 : wr.cell? ⟨gc, 0, none⟩ = some (.int .i64 sn) := K.cell 0
    have f1 : wr.cell? ⟨gc, 1, none⟩ = some (.int .i64 sd) := K.cell 1
    have f2 : wr.cell? ⟨gc, 2, none⟩ = some (.int .i64 sr) := K.cell 2
    have f3 : wr.cell? ⟨gc, 3, none⟩ = some (.int .i64 sc) := K.cell 3
    have f4 : wr.cell? ⟨gc, 4, none⟩ = some (.int .i64 sl) := K.cell 4
    have f5 : wr.cell? ⟨gc, 5, none⟩ = some (.int .i64 sne) := K.cell 5
    have f6 : wr.cell? ⟨gc, 6, none⟩ = some (.slice sa l.length scap) := K.cell 6
    have HK := hid K
    by_cases hlt : k < s.length
    · obtain ⟨b, off, ha, hok, hc⟩ := (Hs.out.below K.bel).at hlt
      subst ha
      have l1 : (k : Int) < (s.length : Int) := by omega
      have hk62 : k ≤ 4611686018427387904 := by omega
      generalize s.getD k StD.zero = st at *
      have c0 : wr.cell? ⟨b, off + k * 4, none⟩ = some (.int .i64 st.kind) := hc 0 (by omega)
      have c1 : wr.cell? ⟨b, off + k * 4 + 1, none⟩ = some (.int .i64 st.A) := hc 1 (by omega)
      have c2 : wr.cell? ⟨b, off + k * 4 + 2, none⟩ = some (.int .i64 st.B) := hc 2 (by omega)
      have c3 : wr.cell? ⟨b, off + k * 4 + 3, none⟩ = some (.int .i64 st.C) := hc 3 (by omega)
      have Hok := hid hok
      have Hbx := hid (show b ≠ x from Hs.out.ne K.lx hlt)
      clear hc K hok
      obtain ⟨kd, A, B, C⟩ := st
      simp only at *
      by_cases h3 : kd = 3
      · subst h3
        go_wp2_with fail
        refine (play_next HK.out.sc HK.out.inv (by have := HK.out.ep; omega) A B C Hok.out).mono ?_
        rintro e w2 ⟨rfl, t2⟩
        have K3 := hid (HK.out.did (o := ⟨3, A, B, C⟩) hk62 (.next rfl) t2)
        have S3 := hid (PS.SoldOk.next HK.out.inv (by have := HK.out.ep; omega) A)
        have c0' : w2.cell? ⟨b, off + k * 4, none⟩ = some (.int .i64 3) := t2.keeps.cell c0 (fun e => Hbx.out e)
        have g0 : w2.cell? ⟨gc, 0, none⟩ = some (.int .i64 sn) := K3.out.cell 0
        have g1 : w2.cell? ⟨gc, 1, none⟩ = some (.int .i64 sd) := K3.out.cell 1
        have g2 : w2.cell? ⟨gc, 2, none⟩ = some (.int .i64 sr) := K3.out.cell 2
        have g3 : w2.cell? ⟨gc, 3, none⟩ = some (.int .i64 sc) := K3.out.cell 3
        have g4 : w2.cell? ⟨gc, 4, none⟩ = some (.int .i64 sl) := K3.out.cell 4
        have g5 : w2.cell? ⟨gc, 5, none⟩ = some (.int .i64 sne) := K3.out.cell 5
        have g6 : w2.cell? ⟨gc, 6, none⟩ = some (.slice sa l.length scap) := K3.out.cell 6
        clear t2 c0 c1 c2 c3 f0 f1 f2 f3 f4 f5 f6
        go_wp2_with fail
        refine (sold_of K3.out S3.out).mono ?_
        rintro e w3 ⟨rfl, K4⟩
        have K5 := hid K4
        clear K4
        go_wp2_with fail
        go_roundw
        case rel => exact ⟨k + 1, _, by omega, by go_num, rfl, K5.out⟩
        case measure => simp [intOf]; omega
      · have h3' : (kd == 3) = false := by simpa using h3
        go_wp2_with fail
        refine (play_ok HK.out.sc HK.out.inv (by have := HK.out.ep; omega) ⟨kd, A, B, C⟩ Hok.out).mono ?_
        rintro e w2 ⟨er, ps', rfl, hd, t2⟩
        have K3 := hid (HK.out.did hk62 hd t2)
        have c0' : w2.cell? ⟨b, off + k * 4, none⟩ = some (.int .i64 kd) := t2.keeps.cell c0 (fun e => Hbx.out e)
        clear hd t2 c0 c1 c2 c3 f0 f1 f2 f3 f4 f5 f6
        go_wp2_with fail
        go_roundw
        case rel => exact ⟨k + 1, ps', by omega, by go_num, rfl, K3.out⟩
        case measure => simp [intOf]; omega
    · have l1 : ¬ (k : Int) < (s.length : Int) := by omega
      have hkk : k = s.length := by omega
      subst hkk
      clear K f0 f1 f2 f3 f4 f5 f6
      go_wp2_with fail
      go_loopw [9] (fun i wr => ∃ (j : Nat) (ps : PS), j ≤ l.length ∧ i = .int .i64 j ∧ KInv w x gc ⟨sn, sd, sr, sc, sl, sne, l.length, sa, scap⟩ wr ps (s.length + j)) (fun i _ => l.length - (intOf i).toNat)
      case atStart => exact ⟨0, ps, Nat.zero_le _, rfl, HK.out⟩
      case round =>
        obtain ⟨j, pt, hj, rfl, K⟩ := hrel
        have g0 : wr.cell? ⟨gc, 0, none⟩ = some (.int .i64 sn) := K.cell 0
        have g1 : wr.cell? ⟨gc, 1, none⟩ = some (.int .i64 sd) := K.cell 1
        have g2 : wr.cell? ⟨gc, 2, none⟩ = some (.int .i64 sr) := K.cell 2
        have g3 : wr.cell? ⟨gc, 3, none⟩ = some (.int .i64 sc) := K.cell 3
        have g4 : wr.cell? ⟨gc, 4, none⟩ = some (.int .i64 sl) := K.cell 4
        have g5 : wr.cell? ⟨gc, 5, none⟩ = some (.int .i64 sne) := K.cell 5
        have g6 : wr.cell? ⟨gc, 6, none⟩ = some (.slice sa l.length scap) := K.cell 6
        have HKj := hid K
        have hN6 := K.inv.good.N6
        have hNl : pt.N = l.length := K.cf.N
        by_cases hlj : j < l.length
        · have m1 : (j : Int) < (l.length : Int) := by omega
          clear K
          go_wp2_with fail
          refine (see_yes HKj.out.sc HKj.out.inv.good.ok j (by omega)).mono ?_
          rintro e w2 ⟨rfl, b2⟩
          have b2' := b2.trans (((Below.refl w2.heap.size w2).alloc (Nat.le_refl _) (.cells #[.int .i64 (pt.acc j).liquid, .int .i64 (pt.acc j).locked, .int .i64 (pt.acc j).bid, .int .i64 (pt.acc j).queued, .int .i64 (pt.acc j).seats, .int .i64 (pt.acc j).shares] 47)).mono b2.size)
          have K2 := hid (HKj.out.below b2')
          have q1 := (HKj.out.inv.good.ok.acc j (by omega)).l0
          have q2 := (HKj.out.inv.good.ok.acc j (by omega)).l1
          have q3 := (HKj.out.inv.good.ok.acc j (by omega)).k0
          have q4 := (HKj.out.inv.good.ok.acc j (by omega)).k1
          obtain ⟨er, ps', hd, hc⟩ := bid_do (x := x) K2.out.inv ⟨2, j, (pt.acc j).liquid + (pt.acc j).locked, 0⟩ rfl
          have HC := hid (hc _ K2.out.sc)
          have HD := hid hd
          simp only at HC
          clear hc hd b2 b2'
          go_wp2_with fail
          refine HC.out.mono ?_
          rintro e w3 ⟨rfl, t3⟩
          have K3 := hid (K2.out.did (by omega) HD.out t3)
          clear t3
          go_wp2_with fail
          go_roundw
          case rel => exact ⟨j + 1, ps', by omega, by go_num, K3.out⟩
          case measure => simp [intOf]; omega
        · have m1 : ¬ (j : Int) < (l.length : Int) := by omega
          clear K
          go_wp2_with fail
          refine (next_ok HKj.out.sc (PS.Good.nextOk HKj.out.inv.good HKj.out.inv.low (by have := HKj.out.ep; omega)) 1 (by omega) (by omega)).mono ?_
          rintro e w2 ⟨rfl, t2⟩
          have K3 := hid (HKj.out.did (o := ⟨3, 1, 0, 0⟩) (by omega) (.next rfl) t2)
          have S3 := hid (PS.SoldOk.next HKj.out.inv (by have := HKj.out.ep; omega) 1)
          clear t2
          have h0 : w2.cell? ⟨gc, 0, none⟩ = some (.int .i64 sn) := K3.out.cell 0
          have h1 : w2.cell? ⟨gc, 1, none⟩ = some (.int .i64 sd) := K3.out.cell 1
          have h2 : w2.cell? ⟨gc, 2, none⟩ = some (.int .i64 sr) := K3.out.cell 2
          have h3 : w2.cell? ⟨gc, 3, none⟩ = some (.int .i64 sc) := K3.out.cell 3
          have h4 : w2.cell? ⟨gc, 4, none⟩ = some (.int .i64 sl) := K3.out.cell 4
          have h5 : w2.cell? ⟨gc, 5, none⟩ = some (.int .i64 sne) := K3.out.cell 5
          have h6 : w2.cell? ⟨gc, 6, none⟩ = some (.slice sa l.length scap) := K3.out.cell 6
          go_wp2_with fail
          refine (sold_of K3.out S3.out).mono ?_
          rintro e w3 ⟨rfl, K4⟩
          have hb := hid K4.bel
          clear K4
          go_wp2_with fail
          go_ret
          exact ⟨rfl, hb.out⟩
end Go.Proofs.Ytiokecadnmcpeaa
