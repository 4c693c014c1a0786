import Derived.Test.YtiokecadnmcpeaaKLoop
import Derived.Test.YtiokecadnmcpeaaKTurn
namespace Go.Proofs.Ytiokecadnmcpeaa
set_option linter.unusedVariables false
set_option linter.unusedSimpArgs false
open Go.ChangeShapes Go.WideShapes Go.ChangeAt Go.RowKit

theorem turns_of {w W : World} {x gc k : Nat} {c : Rules} {s : PS} (h : KInv w x gc c W s k) (ro : s.RowOk) :
    Calls Try.prog 25 #[.pointer (some ⟨x, 0, none⟩), .agg #[.int .i64 c.seats, .int .i64 c.delay, .int .i64 c.rate, .int .i64 c.cut, .int .i64 c.length, .int .i64 c.need, .slice c.a c.N c.cap]] W fun e w' => e = .returned (.bool true) ∧ KInv w x gc c w' s k := by
  have hh := turns_ok h.sc h.inv h.so ro c.delay c.rate c.cut c.need c.a c.cap
  rw [h.cf.seats, h.cf.N, h.cf.length] at hh
  exact hh.mono (fun e w' ⟨h1, h2⟩ => ⟨h1, h.below h2⟩)

theorem Steps.ne {w : World} {b off x : Nat} {s : List StD} (h : Steps w (some ⟨b, off, none⟩) s) (hx : w.heap.size ≤ x) {k : Nat} (hk : k < s.length) : b ≠ x := by
  obtain ⟨b2, off2, ha, _, hc⟩ := h.at hk
  simp only [Option.some.injEq, Addr.mk.injEq, and_true] at ha
  have : b2 < w.heap.size := block_lt_of_cell ((hc 0 (by omega)).trans (show _ = some (Value.int .i64 (s.getD k StD.zero).kind) from rfl))
  omega

set_option maxHeartbeats 3200000 in
set_option maxRecDepth 100000 in
theorem turns_walk (o : SetD) (a : Option Addr) (cap : Nat) (s : List StD) (w : World) (ok : SetOk w o) (hs : Steps w a s) (hreach : s.length ≤ 4611686018427387904) :
    Calls Try.prog 10 #[.agg #[.int .i64 o.seats, .int .i64 o.delay, .int .i64 o.rate, .int .i64 o.cut, .int .i64 o.length, .int .i64 o.need, .slice o.sa o.start.length o.scap], .slice a s.length cap] w fun e w' => e = .returned (.bool true) ∧ Below w.heap.size w w' := by
  have hb0 := (Below.refl w.heap.size w).alloc (Nat.le_refl _) (.cells #[.int .i64 o.seats, .int .i64 o.delay, .int .i64 o.rate, .int .i64 o.cut, .int .i64 o.length, .int .i64 o.need, .slice o.sa o.start.length o.scap] 35)
  have HM := hid (kmade_any o _ (ok.below hb0))
  have HB0 := hid hb0
  have Hs := hid hs
  clear hb0 hs
  go_enter Try.func10, Try.ntmps10
  go_wp2_with fail
  refine HM.out.mono ?_
  rintro e w1 ⟨x, sn, sd, sr, sc, sl, sne, sa, scap, l, rfl, hn, hst, hS, hx, b1⟩
  have K0 := hid (kinv_new (w := w) (a := sa) (cap := scap) hn hst hS (by simp at hx; omega) (HB0.out.trans (b1.mono HB0.out.size)))
  have hK0 : Hid (KInv w x w1.heap.size ⟨sn, sd, sr, sc, sl, sne, l.length, sa, scap⟩ (w1.alloc (.cells #[.int .i64 sn, .int .i64 sd, .int .i64 sr, .int .i64 sc, .int .i64 sl, .int .i64 sne, .slice sa l.length scap] 25)) (newPS l.length sn sd sr sc sl sne l l.length) 0) := K0
  have HR0 := hid (knew_row sn sd sr sc sl sne l)
  clear HM HB0 b1 hS hx hn hst K0
  go_wp2_with fail
  generalize w1.alloc (.cells #[.int .i64 sn, .int .i64 sd, .int .i64 sr, .int .i64 sc, .int .i64 sl, .int .i64 sne, .slice sa l.length scap] 25) = V at *
  generalize w1.heap.size = gc at *
  go_loopw [7, 8] (fun vo i wr => ∃ (k : Nat) (ps : PS), k ≤ s.length ∧ i = .int .i64 k ∧ vo = .bool true ∧ KInv w x gc ⟨sn, sd, sr, sc, sl, sne, l.length, sa, scap⟩ wr ps k ∧ ps.RowOk) (fun _ i _ => s.length - (intOf i).toNat)
  case atStart => exact ⟨0, _, Nat.zero_le _, rfl, rfl, hK0.out, HR0.out⟩
  case round =>
    obtain ⟨k, ps, hk, rfl, rfl, K, R⟩ := hrel
    have f0 : wr.cell? ⟨gc, 0, none⟩ = some (.int .i64 sn) := K.cell 0
    have f1 : wr.cell? ⟨gc, 1, none⟩ = some (.int .i64 sd) := K.cell 1
    have f2 : wr.cell? ⟨gc, 2, none⟩ = some (.int .i64 sr) := K.cell 2
    have f3 : wr.cell? ⟨gc, 3, none⟩ = some (.int .i64 sc) := K.cell 3
    have f4 : wr.cell? ⟨gc, 4, none⟩ = some (.int .i64 sl) := K.cell 4
    have f5 : wr.cell? ⟨gc, 5, none⟩ = some (.int .i64 sne) := K.cell 5
    have f6 : wr.cell? ⟨gc, 6, none⟩ = some (.slice sa l.length scap) := K.cell 6
    have HK := hid K
    by_cases hlt : k < s.length
    · obtain ⟨b, off, ha, hok, hc⟩ := (Hs.out.below K.bel).at hlt
      subst ha
      have l1 : (k : Int) < (s.length : Int) := by omega
      have hk62 : k ≤ 4611686018427387904 := by omega
      generalize s.getD k StD.zero = st at *
      have c0 : wr.cell? ⟨b, off + k * 4, none⟩ = some (.int .i64 st.kind) := hc 0 (by omega)
      have c1 : wr.cell? ⟨b, off + k * 4 + 1, none⟩ = some (.int .i64 st.A) := hc 1 (by omega)
      have c2 : wr.cell? ⟨b, off + k * 4 + 2, none⟩ = some (.int .i64 st.B) := hc 2 (by omega)
      have c3 : wr.cell? ⟨b, off + k * 4 + 3, none⟩ = some (.int .i64 st.C) := hc 3 (by omega)
      have Hok := hid hok
      have Hbx := hid (show b ≠ x from Hs.out.ne K.lx hlt)
      clear hc K hok
      have HR := hid R
      clear R
      go_wp2_with fail
      refine (play_ok HK.out.sc HK.out.inv (by have := HK.out.ep; omega) st Hok.out).mono ?_
      rintro e w2 ⟨er, ps', rfl, hd, t2⟩
      have K3 := hid (HK.out.did hk62 hd t2)
      have R3 := hid (HR.out.did hd HK.out.inv (by have := HK.out.ep; omega))
      have c0' : w2.cell? ⟨b, off + k * 4, none⟩ = some (.int .i64 st.kind) := t2.keeps.cell c0 (fun e => Hbx.out e)
      have g0 : w2.cell? ⟨gc, 0, none⟩ = some (.int .i64 sn) := K3.out.cell 0
      have g1 : w2.cell? ⟨gc, 1, none⟩ = some (.int .i64 sd) := K3.out.cell 1
      have g2 : w2.cell? ⟨gc, 2, none⟩ = some (.int .i64 sr) := K3.out.cell 2
      have g3 : w2.cell? ⟨gc, 3, none⟩ = some (.int .i64 sc) := K3.out.cell 3
      have g4 : w2.cell? ⟨gc, 4, none⟩ = some (.int .i64 sl) := K3.out.cell 4
      have g5 : w2.cell? ⟨gc, 5, none⟩ = some (.int .i64 sne) := K3.out.cell 5
      have g6 : w2.cell? ⟨gc, 6, none⟩ = some (.slice sa l.length scap) := K3.out.cell 6
      clear hd t2 c0 c1 c2 c3 f0 f1 f2 f3 f4 f5 f6
      by_cases h8 : st.kind = 8
      · go_wp2_with fail
        refine (turns_of K3.out R3.out).mono ?_
        rintro e w3 ⟨rfl, K4⟩
        have K5 := hid K4
        clear K4
        go_wp2_with fail
        go_roundw
        case rel => exact ⟨k + 1, ps', by omega, by go_num, rfl, K5.out, R3.out⟩
        case measure => simp [intOf]; omega
      · have h8' : (st.kind == 8) = false := by simpa using h8
        go_wp2_with fail
        go_roundw
        case rel => exact ⟨k + 1, ps', by omega, by go_num, rfl, K3.out, R3.out⟩
        case measure => simp [intOf]; omega
    · have l1 : ¬ (k : Int) < (s.length : Int) := by omega
      have HR := hid R
      clear K R
      go_wp2_with fail
      refine (turns_of HK.out HR.out).mono ?_
      rintro e w2 ⟨rfl, K2⟩
      have hb := hid K2.bel
      clear K2
      go_wp2_with fail
      go_ret
      exact ⟨rfl, hb.out⟩
end Go.Proofs.Ytiokecadnmcpeaa
