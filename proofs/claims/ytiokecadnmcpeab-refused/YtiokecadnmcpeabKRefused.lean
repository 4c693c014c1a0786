import Derived.Test.YtiokecadnmcpeabKSame
namespace Go.Proofs.Ytiokecadnmcpeab
set_option linter.unusedVariables false
set_option linter.unusedSimpArgs false
open Go.ChangeShapes Go.WideShapes Go.ChangeAt Go.RowKit

theorem kseen_of {w W : World} {x gc k : Nat} {c : Rules} {s : PS} (h : KInv w x gc c W s k) :
    Calls Try.prog 6 #[.pointer (some ⟨x, 0, none⟩), .int .i64 c.N] W fun e w' => ∃ g cp, e = .returned (.tuple #[.slice (some ⟨g, 0, none⟩) (c.N + 1) cp, .bool true]) ∧ w'.ownsRow W.heap.size 51 6 (.slice (some ⟨g, 0, none⟩) (c.N + 1) cp) (c.N + 1) (s.toldTo (c.N + 1)) ∧ KInv w x gc c w' s k ∧ Below W.heap.size W w' := by
  have hh := kseen_any h.sc h.inv.good.ok
  rw [h.cf.N] at hh
  refine hh.mono ?_
  rintro e w' ⟨v, rfl, ho, b⟩
  obtain ⟨g, cp, hv⟩ := kown_form ho (by omega)
  subst hv
  exact ⟨g, cp, rfl, ho, h.below b, b⟩
theorem kstate_of {w W : World} {x gc k : Nat} {c : Rules} {s : PS} (h : KInv w x gc c W s k) : Calls Try.prog 7 #[.pointer (some ⟨x, 0, none⟩)] W fun e w' => e = .returned (.agg #[.int .i64 s.epoch, .int .i64 s.supply, .int .i64 s.treasury, .int .i64 s.price, .int .i64 s.allShares]) ∧ Below W.heap.size W w' := state_any h.sc h.inv.good.ok
theorem PS.Did.refused {s s' : PS} {o : StD} {er : Int} (h : s.Did o er s') (he : er ≠ 0) : s' = s := by
  cases h using PS.Did.which with
  | no _ h => rfl
  | _ => exact absurd rfl he

set_option maxHeartbeats 3200000 in
set_option maxRecDepth 100000 in
theorem refused_walk (o : SetD) (a : Option Addr) (cap : Nat) (s : List StD) (w : World) (ok : SetOk w o) (hs : Steps w a s) (hreach : s.length ≤ 4611686018427387000) :
    Calls Try.prog 3 #[.agg #[.int .i64 o.seats, .int .i64 o.delay, .int .i64 o.rate, .int .i64 o.cut, .int .i64 o.length, .int .i64 o.need, .slice o.sa o.start.length o.scap], .slice a s.length cap] w fun e w' => e = .returned (.bool true) ∧ Below w.heap.size w w' := by
  have hb0 := (Below.refl w.heap.size w).alloc (Nat.le_refl _) (.cells #[.int .i64 o.seats, .int .i64 o.delay, .int .i64 o.rate, .int .i64 o.cut, .int .i64 o.length, .int .i64 o.need, .slice o.sa o.start.length o.scap] 24)
  have HM := hid (kmade_any o _ (ok.below hb0))
  have HB0 := hid hb0
  have Hs := hid hs
  clear hb0 hs
  go_enter Try.func3, Try.ntmps3
  go_wp2_with fail
  refine HM.out.mono ?_
  rintro e w1 ⟨x, sn, sd, sr, sc, sl, sne, sa, scap, l, rfl, hn, hst, hS, hx, b1⟩
  have hl6 := hst.1
  have hK0 : Hid (KInv w x w1.heap.size ⟨sn, sd, sr, sc, sl, sne, l.length, sa, scap⟩ (w1.alloc (.cells #[.int .i64 sn, .int .i64 sd, .int .i64 sr, .int .i64 sc, .int .i64 sl, .int .i64 sne, .slice sa l.length scap] 27)) (newPS l.length sn sd sr sc sl sne l l.length) 0) := hid (kinv_new (w := w) (a := sa) (cap := scap) hn hst hS (by simp at hx; omega) (HB0.out.trans (b1.mono HB0.out.size)))
  clear HM HB0 b1 hS hx hn hst
  go_wp2_with fail
  generalize w1.alloc (.cells #[.int .i64 sn, .int .i64 sd, .int .i64 sr, .int .i64 sc, .int .i64 sl, .int .i64 sne, .slice sa l.length scap] 27) = V at *
  generalize w1.heap.size = gc at *
  go_loopw [8] (fun i wr => ∃ (k : Nat) (ps : PS), k ≤ s.length ∧ i = .int .i64 k ∧ KInv w x gc ⟨sn, sd, sr, sc, sl, sne, l.length, sa, scap⟩ wr ps k) (fun i _ => s.length - (intOf i).toNat)
  case atStart => exact ⟨0, _, Nat.zero_le _, rfl, hK0.out⟩
  case round =>
    obtain ⟨k, ps, hk, rfl, K⟩ := hrel
    have f6 : wr.cell? ⟨gc, 6, none⟩ = some (.slice sa l.length scap) := K.cell 6
    have HK := hid K
    have hxl := K.sc.lt
    by_cases hlt : k < s.length
    · have l1 : (k : Int) < (s.length : Int) := by omega
      have hk62 : k ≤ 4611686018427387904 := by omega
      clear K
      go_wp2_with fail
      refine (kseen_of HK.out).mono ?_
      rintro e w2 ⟨ga, ca, rfl, ho2, K2, b2⟩
      have HK2 := hid K2
      have Ho2 := hid ho2
      have hsz2 := b2.size
      clear K2 ho2 b2 f6
      go_wp2_with fail
      refine (kstate_of HK2.out).mono ?_
      rintro e w3 ⟨rfl, b3⟩
      have b3' := b3.trans (((Below.refl w3.heap.size w3).alloc (Nat.le_refl _) (.cells #[.int .i64 ps.epoch, .int .i64 ps.supply, .int .i64 ps.treasury, .int .i64 ps.price, .int .i64 ps.allShares] 34)).mono b3.size)
      have HK3 := hid (HK2.out.below b3')
      have Ho3 := hid ((Keeps.ofBelow (F := fun _ => False) b3').owns Ho2.out (fun _ _ hf => hf))
      have gz : (w3.alloc (.cells #[.int .i64 ps.epoch, .int .i64 ps.supply, .int .i64 ps.treasury, .int .i64 ps.price, .int .i64 ps.allShares] 34)).heap[w3.heap.size]? = some (.cells #[.int .i64 ps.epoch, .int .i64 ps.supply, .int .i64 ps.treasury, .int .i64 ps.price, .int .i64 ps.allShares] 34 (0, 0)) := heap_alloc_new w3 _
      have hsz3 := b3.size
      obtain ⟨b, off, ha, hok, hc⟩ := (Hs.out.below HK3.out.bel).at hlt
      subst ha
      generalize s.getD k StD.zero = st at *
      have c0 : (w3.alloc (.cells #[.int .i64 ps.epoch, .int .i64 ps.supply, .int .i64 ps.treasury, .int .i64 ps.price, .int .i64 ps.allShares] 34)).cell? ⟨b, off + k * 4, none⟩ = some (.int .i64 st.kind) := hc 0 (by omega)
      have c1 : (w3.alloc (.cells #[.int .i64 ps.epoch, .int .i64 ps.supply, .int .i64 ps.treasury, .int .i64 ps.price, .int .i64 ps.allShares] 34)).cell? ⟨b, off + k * 4 + 1, none⟩ = some (.int .i64 st.A) := hc 1 (by omega)
      have c2 : (w3.alloc (.cells #[.int .i64 ps.epoch, .int .i64 ps.supply, .int .i64 ps.treasury, .int .i64 ps.price, .int .i64 ps.allShares] 34)).cell? ⟨b, off + k * 4 + 2, none⟩ = some (.int .i64 st.B) := hc 2 (by omega)
      have c3 : (w3.alloc (.cells #[.int .i64 ps.epoch, .int .i64 ps.supply, .int .i64 ps.treasury, .int .i64 ps.price, .int .i64 ps.allShares] 34)).cell? ⟨b, off + k * 4 + 3, none⟩ = some (.int .i64 st.C) := hc 3 (by omega)
      have Hok := hid hok
      have Gz := hid gz
      have hxz : Hid (w3.heap.size ≠ x) := hid (by omega)
      clear b3 b3' hc hok gz HK2 Ho2
      go_upto_region 9 with fail
      generalize w3.alloc (.cells #[.int .i64 ps.epoch, .int .i64 ps.supply, .int .i64 ps.treasury, .int .i64 ps.price, .int .i64 ps.allShares] 34) = V3 at *
      generalize w3.heap.size = gz at *
      go_wp2_with fail
      refine (play_ok HK3.out.sc HK3.out.inv (by have := HK3.out.ep; omega) st Hok.out).mono ?_
      rintro e w4 ⟨er, ps', rfl, hd, t4⟩
      have HK4 := hid (HK3.out.did hk62 hd t4)
      have Hd := hid hd
      have Ho4 := hid (t4.keeps.owns Ho3.out (fun q hq e2 => by have : q = x := e2; have := (Ho3.out.lt q hq).1; omega))
      have Gz4 := hid ((t4.keeps.block _ (lt_of_block Gz.out) (fun e2 => hxz.out e2)).trans Gz.out)
      have f6 : w4.cell? ⟨gc, 6, none⟩ = some (.slice sa l.length scap) := HK4.out.cell 6
      have h4 := HK4.out.bel.size
      clear hd t4 Ho3 Gz c0 c1 c2 c3 HK3
      go_wp2_with fail
      refine (kseen_of HK4.out).mono ?_
      rintro e w5 ⟨gb, cb, rfl, ho5, K5, b5⟩
      have HK5 := hid K5
      have Hob5 := hid ho5
      have Ho5 := hid ((Keeps.ofBelow (F := fun _ => False) b5).owns Ho4.out (fun _ _ hf => hf))
      have Gz5 := hid ((b5.block _ (lt_of_block Gz4.out)).trans Gz4.out)
      clear K5 ho5 b5 Ho4 Gz4 HK4 f6
      go_wp2_with fail
      refine (kstate_of HK5.out).mono ?_
      rintro e w6 ⟨rfl, b6⟩
      have b6' := b6.trans (((Below.refl w6.heap.size w6).alloc (Nat.le_refl _) (.cells #[.int .i64 ps'.epoch, .int .i64 ps'.supply, .int .i64 ps'.treasury, .int .i64 ps'.price, .int .i64 ps'.allShares] 34)).mono b6.size)
      have HK6 := hid (HK5.out.below b6')
      have Hob6 := hid ((Keeps.ofBelow (F := fun _ => False) b6').owns Hob5.out (fun _ _ hf => hf))
      have Ho6 := hid ((Keeps.ofBelow (F := fun _ => False) b6').owns Ho5.out (fun _ _ hf => hf))
      have gz6 := (b6'.block _ (lt_of_block Gz5.out)).trans Gz5.out
      have gy6 : (w6.alloc (.cells #[.int .i64 ps'.epoch, .int .i64 ps'.supply, .int .i64 ps'.treasury, .int .i64 ps'.price, .int .i64 ps'.allShares] 34)).heap[w6.heap.size]? = some (.cells #[.int .i64 ps'.epoch, .int .i64 ps'.supply, .int .i64 ps'.treasury, .int .i64 ps'.price, .int .i64 ps'.allShares] 34 (0, 0)) := heap_alloc_new w6 _
      clear b6 b6' Hob5 Ho5 Gz5 HK5
      go_upto_region 12 with fail
      generalize w6.alloc (.cells #[.int .i64 ps'.epoch, .int .i64 ps'.supply, .int .i64 ps'.treasury, .int .i64 ps'.price, .int .i64 ps'.allShares] 34) = V6 at *
      generalize w6.heap.size = gy at *
      by_cases her : er = 0
      · subst her
        go_wp2_with fail
        go_roundw
        case rel => exact ⟨k + 1, ps', by omega, by go_num, HK6.out⟩
        case measure => simp [intOf]; omega
      · have hps := Hd.out.refused her
        subst hps
        have her' : (er == 0) = false := by simpa using her
        have z0 : V6.cell? ⟨gz, 0, none⟩ = some (.int .i64 ps'.epoch) := cell_of_row V6 gz 0 _ _ _ gz6
        have z1 : V6.cell? ⟨gz, 1, none⟩ = some (.int .i64 ps'.supply) := cell_of_row V6 gz 1 _ _ _ gz6
        have z2 : V6.cell? ⟨gz, 2, none⟩ = some (.int .i64 ps'.treasury) := cell_of_row V6 gz 2 _ _ _ gz6
        have z3 : V6.cell? ⟨gz, 3, none⟩ = some (.int .i64 ps'.price) := cell_of_row V6 gz 3 _ _ _ gz6
        have z4 : V6.cell? ⟨gz, 4, none⟩ = some (.int .i64 ps'.allShares) := cell_of_row V6 gz 4 _ _ _ gz6
        have y0 : V6.cell? ⟨gy, 0, none⟩ = some (.int .i64 ps'.epoch) := cell_of_row V6 gy 0 _ _ _ gy6
        have y1 : V6.cell? ⟨gy, 1, none⟩ = some (.int .i64 ps'.supply) := cell_of_row V6 gy 1 _ _ _ gy6
        have y2 : V6.cell? ⟨gy, 2, none⟩ = some (.int .i64 ps'.treasury) := cell_of_row V6 gy 2 _ _ _ gy6
        have y3 : V6.cell? ⟨gy, 3, none⟩ = some (.int .i64 ps'.price) := cell_of_row V6 gy 3 _ _ _ gy6
        have y4 : V6.cell? ⟨gy, 4, none⟩ = some (.int .i64 ps'.allShares) := cell_of_row V6 gy 4 _ _ _ gy6
        have Hsm := hid (ksame_ok (w := V6) (s := ps') w.heap.size ga ca gb cb (l.length + 1) (by omega) (kownm Ho6.out HK.out.bel.size) (kownm Hob6.out h4))
        generalize ps'.epoch = e0 at *
        generalize ps'.supply = e1 at *
        generalize ps'.treasury = e2 at *
        generalize ps'.price = e3 at *
        generalize ps'.allShares = e4 at *
        go_wp2_with fail
        refine Hsm.out.mono ?_
        rintro e w7 ⟨rfl, b7⟩
        have K7 := hid (HK6.out.below b7)
        clear b7
        go_wp2_with fail
        go_roundw
        case rel => exact ⟨k + 1, ps', by omega, by go_num, K7.out⟩
        case measure => simp [intOf]; omega
    · have l1 : ¬ (k : Int) < (s.length : Int) := by omega
      have hN1 := K.inv.good.N1
      have hNl : ps.N = l.length := K.cf.N
      clear K
      go_wp2_with fail
      refine (send_amount HK.out.sc HK.out.inv.good.ok 0 0 0 (by omega) (by omega) (by omega) (by omega) (by omega)).mono ?_
      rintro e w2 ⟨rfl, b2⟩
      have HK2 := hid (HK.out.below b2)
      have g6 : w2.cell? ⟨gc, 6, none⟩ = some (.slice sa l.length scap) := HK2.out.cell 6
      clear b2 f6
      go_wp2_with fail
      refine (send_name HK2.out.sc HK2.out.inv.good.ok 0 (l.length : Int) 1 (by omega)).mono ?_
      rintro e w3 ⟨rfl, b3⟩
      have HK3 := hid (HK2.out.below b3)
      clear b3 HK2 g6
      go_wp2_with fail
      refine (next_ok HK3.out.sc (PS.Good.nextOk HK3.out.inv.good HK3.out.inv.low (by have := HK3.out.ep; omega)) 0 (by omega) (by omega)).mono ?_
      rintro e w4 ⟨rfl, t4⟩
      have K4 := hid (HK3.out.did (o := ⟨3, 0, 0, 0⟩) (by omega) (.next rfl) t4)
      clear t4
      go_wp2_with fail
      go_ret
      exact ⟨rfl, K4.out.bel⟩
end Go.Proofs.Ytiokecadnmcpeab
