import Derived.Test.YtiokecadnmcpeaaKPooled
namespace Go.Proofs.Ytiokecadnmcpeaa
set_option linter.unusedVariables false
set_option linter.unusedSimpArgs false
open Go.ChangeShapes Go.WideShapes Go.ChangeAt Go.RowKit

set_option maxHeartbeats 3200000 in
set_option maxRecDepth 100000 in
theorem pooled_walk (o : SetD) (a : Option Addr) (cap : Nat) (s : List StD) (w : World) (ok : SetOk w o) (hs : Steps w a s) (hreach : s.length ≤ 4611686018427387903) :
    Calls Try.prog 13 #[.agg #[.int .i64 o.seats, .int .i64 o.delay, .int .i64 o.rate, .int .i64 o.cut, .int .i64 o.length, .int .i64 o.need, .slice o.sa o.start.length o.scap], .slice a s.length cap] w fun e w' => e = .returned (.bool true) ∧ Below w.heap.size w w' := by
  have hb0 := (Below.refl w.heap.size w).alloc (Nat.le_refl _) (.cells #[.int .i64 o.seats, .int .i64 o.delay, .int .i64 o.rate, .int .i64 o.cut, .int .i64 o.length, .int .i64 o.need, .slice o.sa o.start.length o.scap] 35)
  have HM := hid (kmade_any o _ (ok.below hb0))
  have HB0 := hid hb0
  have Hs := hid hs
  clear hb0 hs
  go_enter Try.func13, Try.ntmps13
  go_wp2_with fail
  refine HM.out.mono ?_
  rintro e w1 ⟨x, sn, sd, sr, sc, sl, sne, sa, scap, l, rfl, hn, hst, hS, hx, b1⟩
  have hK0 : Hid (KInv w x w1.heap.size ⟨sn, sd, sr, sc, sl, sne, l.length, sa, scap⟩ (w1.alloc (.cells #[.int .i64 sn, .int .i64 sd, .int .i64 sr, .int .i64 sc, .int .i64 sl, .int .i64 sne, .slice sa l.length scap] 25)) (newPS l.length sn sd sr sc sl sne l l.length) 0) := hid (kinv_new (w := w) (a := sa) (cap := scap) hn hst hS (by simp at hx; omega) (HB0.out.trans (b1.mono HB0.out.size)))
  have hche := hid (show (newPS l.length sn sd sr sc sl sne l l.length).Clean from fun i => by rw [knewPS_acc]; split <;> rfl)
  clear HM HB0 b1 hS hx hn hst
  go_wp2_with fail
  generalize w1.alloc (.cells #[.int .i64 sn, .int .i64 sd, .int .i64 sr, .int .i64 sc, .int .i64 sl, .int .i64 sne, .slice sa l.length scap] 25) = V at *
  generalize w1.heap.size = gc at *
  generalize newPS l.length sn sd sr sc sl sne l l.length = p0 at *
  refine (value_of hK0.out).mono ?_
  rintro e w2 ⟨rfl, b2⟩
  have ba := (Below.refl w2.heap.size w2).alloc (Nat.le_refl _) (.cells #[.int .i64 (p0.acc p0.N).tot, .int .i64 p0.allShares] 58)
  have K1 := hid ((hK0.out.below b2).below ba)
  have O1 := hid (show Old w (w2.alloc (.cells #[.int .i64 (p0.acc p0.N).tot, .int .i64 p0.allShares] 58)) w2.heap.size x gc p0 from ⟨heap_alloc_new w2 _, by have := (hK0.out.below b2).sc.lt; omega, by have := lt_of_block (hK0.out.below b2).cfg; omega, (hK0.out.below b2).bel.size⟩)
  clear hK0 b2 ba
  go_wp2_with fail
  generalize w2.alloc (.cells #[.int .i64 (p0.acc p0.N).tot, .int .i64 p0.allShares] 58) = V2 at *
  generalize w2.heap.size = gv at *
  go_loopw [7, 9] (fun vo i wr => ∃ (k : Nat) (ps : PS), k ≤ s.length ∧ i = .int .i64 k ∧ vo = .bool true ∧ KInv w x gc ⟨sn, sd, sr, sc, sl, sne, l.length, sa, scap⟩ wr ps k ∧ Old w wr gv x gc ps ∧ ps.Clean) (fun _ i _ => s.length - (intOf i).toNat)
  case atStart => exact ⟨0, p0, Nat.zero_le _, rfl, rfl, K1.out, O1.out, hche.out⟩
  case round =>
    obtain ⟨k, ps, hk, rfl, rfl, K, O, hcl⟩ := hrel
    have HK := hid K
    have HO := hid O
    have HC := hid hcl
    clear hche K1 O1
    by_cases hlt : k < s.length
    · obtain ⟨b, off, ha, hok, hc⟩ := (Hs.out.below K.bel).at hlt
      subst ha
      have l1 : (k : Int) < (s.length : Int) := by omega
      have hk62 : k ≤ 4611686018427387904 := by omega
      generalize s.getD k StD.zero = st at *
      have c0 : wr.cell? ⟨b, off + k * 4, none⟩ = some (.int .i64 st.kind) := hc 0 (by omega)
      have c1 : wr.cell? ⟨b, off + k * 4 + 1, none⟩ = some (.int .i64 st.A) := hc 1 (by omega)
      have c2 : wr.cell? ⟨b, off + k * 4 + 2, none⟩ = some (.int .i64 st.B) := hc 2 (by omega)
      have c3 : wr.cell? ⟨b, off + k * 4 + 3, none⟩ = some (.int .i64 st.C) := hc 3 (by omega)
      have Hok := hid hok
      have ba := (Below.refl wr.heap.size wr).alloc (Nat.le_refl _) (.cells #[.int .i64 st.kind, .int .i64 st.A, .int .i64 st.B, .int .i64 st.C] 41)
      have KA := hid (K.below ba)
      have OA := hid (O.below ba)
      clear hc K O hok ba hcl HK HO
      obtain ⟨kd, A, B, C⟩ := st
      simp only at *
      by_cases h5 : kd = 5
      · subst h5
        have KA' := hid (KA.out.more (Nat.le_succ k))
        go_wp2_with fail
        go_roundw
        case rel => exact ⟨k + 1, ps, by omega, by go_num, rfl, KA'.out, OA.out, HC.out⟩
        case measure => simp [intOf]; omega
      · have h5' : (kd == 5) = false := by simpa using h5
        have H5 := hid h5
        clear h5
        go_wp2_with fail
        refine (play_ok KA.out.sc KA.out.inv (by have := KA.out.ep; omega) ⟨kd, A, B, C⟩ Hok.out).mono ?_
        rintro e w3 ⟨er, ps', rfl, hd, t3⟩
        have K3 := hid (KA.out.did hk62 hd t3)
        have hW := hd.worth KA.out.inv (by have := KA.out.ep; omega) HC.out H5.out
        have hC3 := hid hW.2
        have hw : Worth (ps.acc ps.N).tot ps.allShares (ps'.acc ps'.N).tot ps'.allShares := by rw [(hd.num KA.out.inv).1]; exact hW.1
        have hO3 := (t3.keeps.block _ (lt_of_block OA.out.blk) (fun e => OA.out.nx e)).trans OA.out.blk
        have hnx := hid OA.out.nx
        have hng := hid OA.out.ng
        have hlo := hid OA.out.lo
        have hp := KA.out.inv.good.pool_bd
        have hp' := K3.out.inv.good.pool_bd
        have HO3 := hid hO3
        have Hw := hid hw
        have f0 : w3.cell? ⟨gc, 0, none⟩ = some (.int .i64 sn) := K3.out.cell 0
        have f1 : w3.cell? ⟨gc, 1, none⟩ = some (.int .i64 sd) := K3.out.cell 1
        have f2 : w3.cell? ⟨gc, 2, none⟩ = some (.int .i64 sr) := K3.out.cell 2
        have f3 : w3.cell? ⟨gc, 3, none⟩ = some (.int .i64 sc) := K3.out.cell 3
        have f4 : w3.cell? ⟨gc, 4, none⟩ = some (.int .i64 sl) := K3.out.cell 4
        have f5 : w3.cell? ⟨gc, 5, none⟩ = some (.int .i64 sne) := K3.out.cell 5
        have f6 : w3.cell? ⟨gc, 6, none⟩ = some (.slice sa l.length scap) := K3.out.cell 6
        clear c0 c1 c2 c3 KA OA hd t3 hW hw hO3
        go_wp2_with fail
        refine (value_of K3.out).mono ?_
        rintro e w4 ⟨rfl, b4⟩
        have ba := (Below.refl w4.heap.size w4).alloc (Nat.le_refl _) (.cells #[.int .i64 (ps'.acc ps'.N).tot, .int .i64 ps'.allShares] 58)
        have b5 := b4.trans (ba.mono b4.size)
        have hg5 : ¬ gv = w4.heap.size := by have := lt_of_block HO3.out; have := b4.size; omega
        have hg5' : ¬ w4.heap.size = gv := fun e => hg5 e.symm
        have o5 := (b5.block _ (lt_of_block HO3.out)).trans HO3.out
        have q5 : (w4.alloc (.cells #[.int .i64 (ps'.acc ps'.N).tot, .int .i64 ps'.allShares] 58)).heap[w4.heap.size]? = some (.cells #[.int .i64 (ps'.acc ps'.N).tot, .int .i64 ps'.allShares] 58 (0, 0)) := heap_alloc_new w4 _
        have KR := hid ((K3.out.below b5).put hnx.out hng.out hlo.out (.int .i64 (ps'.acc ps'.N).tot) (.int .i64 ps'.allShares))
        have OR := hid (show Old w (duo (w4.alloc (.cells #[.int .i64 (ps'.acc ps'.N).tot, .int .i64 ps'.allShares] 58)) gv (.int .i64 (ps'.acc ps'.N).tot) (.int .i64 ps'.allShares)) gv x gc ps' from ⟨duo_block _ _ o5, hnx.out, hng.out, hlo.out⟩)
        clear b4 ba b5 f0 f1 f2 f3 f4 f5 f6 K3 HO3
        go_upto_region 12 with fail
        generalize w4.alloc (.cells #[.int .i64 (ps'.acc ps'.N).tot, .int .i64 ps'.allShares] 58) = V5 at *
        generalize w4.heap.size = g5 at *
        generalize (ps'.acc ps'.N).tot = T' at *
        generalize ps'.allShares = S' at *
        generalize (ps.acc ps.N).tot = T at *
        generalize ps.allShares = S at *
        obtain ⟨⟨t0, t1⟩, s0, s1⟩ := hp
        obtain ⟨⟨t0', t1'⟩, s0', s1'⟩ := hp'
        have m1 := pmul_bd t0' t1' s0 s1
        have m2 := pmul_bd t0 t1 s0' s1'
        have d0 : V5.cell? ⟨gv, 0, none⟩ = some (.int .i64 T) := cell_of_row V5 gv 0 _ _ _ o5
        have d1 : V5.cell? ⟨gv, 1, none⟩ = some (.int .i64 S) := cell_of_row V5 gv 1 _ _ _ o5
        have df : ∀ j, V5.frozen? ⟨gv, j, none⟩ = false := fun j => frozen_of_row V5 gv j _ _ o5
        have e0 : V5.cell? ⟨g5, 0, none⟩ = some (.int .i64 T') := cell_of_row V5 g5 0 _ _ _ q5
        have e1 : V5.cell? ⟨g5, 1, none⟩ = some (.int .i64 S') := cell_of_row V5 g5 1 _ _ _ q5
        clear o5 q5
        by_cases z1 : S = 0
        · subst z1
          clear Hw m1 m2
          go_wp2_with fail
          go_roundw
          case rel => exact ⟨k + 1, ps', by omega, by go_num, rfl, KR.out, OR.out, hC3.out⟩
          case measure => simp [intOf]; omega
        · by_cases z2 : S' = 0
          · subst z2
            clear Hw m1 m2
            go_wp2_with fail
            go_roundw
            case rel => exact ⟨k + 1, ps', by omega, by go_num, rfl, KR.out, OR.out, hC3.out⟩
            case measure => simp [intOf]; omega
          · have hle : T * S' ≤ T' * S := by
              rcases Hw.out with h | h | h
              · exact absurd h z1
              · exact absurd h z2
              · exact h
            clear Hw
            go_wp2_with fail
            go_roundw
            case rel => exact ⟨k + 1, ps', by omega, by go_num, rfl, KR.out, OR.out, hC3.out⟩
            case measure => simp [intOf]; omega
    · have l1 : ¬ (k : Int) < (s.length : Int) := by omega
      have hb7 := (Below.refl wr.heap.size wr).alloc (Nat.le_refl _) (.cells #[.int .i64 7] 3)
      have B7 := hid (K.bel.trans (hb7.mono K.bel.size))
      have hok7 : SetOk (wr.alloc (.cells #[.int .i64 7] 3)) ⟨0, 0, 0, 0, 0, 0, [7], some ⟨wr.heap.size, 0, none⟩, 1⟩ :=
        ⟨.inr ⟨wr.heap.size, 0, rfl, fun i hi => by
          have : i = 0 := by simp at hi; omega
          subst this
          rw [World.cell?_alloc_at _ _ _ _ rfl]; rfl⟩, by simp, rfl, rfl, rfl, rfl, rfl, rfl, fun z hz => by simp at hz; subst hz; rfl⟩
      have HM7 := hid (kmade_any2 _ _ hok7)
      clear K O hcl HK HO HC hb7 hok7
      go_wp2_with fail
      refine HM7.out.mono ?_
      rintro e w3 ⟨y, n1, n2, n3, n4, n5, n6, ya, ycap, yl, rfl, hn, hst, hS, hy, b3, hyl⟩
      have h7 : yl = [7] := hyl (by show 0 < 1; omega)
      subst h7
      have ba := (Below.refl w3.heap.size w3).alloc (Nat.le_refl _) (.cells #[.int .i64 n1, .int .i64 n2, .int .i64 n3, .int .i64 n4, .int .i64 n5, .int .i64 n6, .slice ya 1 ycap] 25)
      have b8 := B7.out.trans ((b3.trans (ba.mono b3.size)).mono B7.out.size)
      have B8 := hid b8
      have HS8 := hid (hS.below ba)
      have Hn := hid hn
      have Hy := hid (show w.heap.size ≤ y by have := B7.out.size; omega)
      clear HM7 B7 hn hst hS hy b3 hyl ba b8
      go_wp2_with fail
      refine (dep_seven n1 n2 n3 n4 n5 n6 Hn.out HS8.out).mono ?_
      rintro e w4 ⟨rfl, t4⟩
      have B9 := hid (B8.out.trans (t4.keeps.below B8.out.size (fun i hi => by have : i = y := hi; subst this; exact Hy.out)))
      have HS9 := hid t4.sc
      clear t4 B8 HS8
      go_wp2_with fail
      refine (lea_seven n1 n2 n3 n4 n5 n6 Hn.out HS9.out).mono ?_
      rintro e w5 ⟨rfl, t5⟩
      have B10 := hid (B9.out.trans (t5.keeps.below B9.out.size (fun i hi => by have : i = y := hi; subst this; exact Hy.out)))
      clear t5 B9 HS9
      go_wp2_with fail
      go_ret
      exact ⟨rfl, B10.out⟩
end Go.Proofs.Ytiokecadnmcpeaa
