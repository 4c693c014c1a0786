import Derived.Test.YtiokecadnmcpeabRoom
import Derived.Test.YtiokecadnmcpeabRefMoney
namespace Go.Proofs.Ytiokecadnmcpeab
set_option linter.unusedVariables false
set_option linter.unusedSimpArgs false
open Go.ChangeShapes Go.WideShapes Go.ChangeAt Go.RowKit

def rollOf (r : Int) : Int := (1103515245 * r + 12345) % 2147483648
theorem rollOf_bd (r : Int) : 0 ≤ rollOf r ∧ rollOf r < 2147483648 := by unfold rollOf; omega

def exAt (l : List Int) (i j k : Nat) : Int := if k = j then l.getD i 0 else if k = i then l.getD j 0 else l.getD k 0
def exch (l : List Int) (i j : Nat) : List Int := (List.range l.length).map (exAt l i j)
theorem exch_length (l : List Int) (i j : Nat) : (exch l i j).length = l.length := by simp [exch]
theorem exch_at (l : List Int) (i j k : Nat) (h : k < l.length) : (exch l i j).getD k 0 = exAt l i j k := by simp [exch, List.getD, h]

theorem own_mono {w : World} {B B' e size n : Nat} {v : Value} {xs : List Value} (h : w.ownsRow B e size v n xs) (hb : B' ≤ B) : w.ownsRow B' e size v n xs := by
  refine ⟨h.1, ?_⟩
  rcases h.2 with hn | ⟨g, cap, cur, rfl, hB, rest⟩
  · exact .inl hn
  · exact .inr ⟨g, cap, cur, rfl, Nat.le_trans hb hB, rest⟩

set_option maxHeartbeats 800000 in
theorem rroll (r : Int) (w : World) (h0 : 0 ≤ r) (h1 : r < 2147483648) :
    Calls Try.prog 107 #[.int .i64 r] w fun e w' => e = .returned (.int .i64 (rollOf r)) ∧ w' = w := by
  unfold rollOf
  go_enter Try.func107, Try.ntmps107
  go_wp2
  go_ret
  refine ⟨ret_int ?_, rfl⟩
  omega

set_option maxHeartbeats 3200000 in
set_option maxRecDepth 1000000 in
theorem rexch (a : Option Addr) (cap : Nat) (l : List Int) (i j : Nat) (w : World) (hl : Ints w a l) (hi : i < l.length) (hj : j < l.length) (h70 : l.length ≤ 70) :
    Calls Try.prog 108 #[.slice a l.length cap, .int .i64 i, .int .i64 j] w fun e w' =>
      ∃ v, e = .returned v ∧ w'.ownsRow w.heap.size 3 1 v (exch l i j).length ((exch l i j).map (Value.int .i64)) ∧ Below w.heap.size w w' := by
  obtain ⟨i0, hin, hz0, hz1, hz2⟩ := info_parts Try.info_int
  have hlr := exch_length l i j
  have hR := exch_at l i j
  generalize exch l i j = r at *
  have Hlr := hid hlr
  have HR := hid hR
  clear hlr hR
  go_enter Try.func108, Try.ntmps108
  go_wp2
  go_loopw [7, 8] (fun v i wr => ∃ k : Nat, k ≤ l.length ∧ i = .int .i64 k ∧ wr.ownsRow w.heap.size 3 1 v (r.take k).length ((r.take k).map (Value.int .i64)) ∧ Below w.heap.size w wr)
    (fun _ i _ => l.length - (intOf i).toNat)
  case atStart => exact ⟨0, Nat.zero_le _, rfl, World.ownsRow_nil _ _ _ _, Below.refl _ _⟩
  case round =>
    obtain ⟨k, hk, rfl, hown, hnx⟩ := hrel
    have hsz := hnx.size
    by_cases hlt : k < l.length
    · obtain ⟨b, off, ha, hc⟩ := (hl.below hnx).at hlt
      obtain ⟨b2, off2, ha2, hc2⟩ := (hl.below hnx).at hi
      obtain ⟨b3, off3, ha3, hc3⟩ := (hl.below hnx).at hj
      subst ha
      simp only [Option.some.injEq, Addr.mk.injEq, and_true] at ha2 ha3
      obtain ⟨rfl, rfl⟩ := ha2
      obtain ⟨rfl, rfl⟩ := ha3
      have HX := hid ((HR.out k hlt).symm)
      have hlen : (r.take k).length ≤ k := List.length_take_le _ _
      unfold exAt at HX
      generalize l.getD k 0 = x at *
      generalize l.getD i 0 = xi at *
      generalize l.getD j 0 = xj at *
      by_cases ej : k = j
      · by_cases ei : k = i
        · have HY := hid (show xi = r.getD k 0 by rw [← HX.out, if_pos ej])
          have t1 : ((k : Int) == (i : Int)) = true := by simp; omega
          have t2 : ((k : Int) == (j : Int)) = true := by simp; omega
          clear HX ej ei
          go_wp2_with (at_builtin; refine wpList_append_own _ rfl _ _ 22 rfl w.heap.size 3 i0 (.int .i64 0) 1 8 Try.underlying22 hin hz0 hz1 hz2 rfl (by decide) _ _ _ rfl (hown.alloc _) ⟨wr.heap.size, 0, none⟩ 1 1 [.int .i64 xi] rfl rfl ?c1 ?c2 ?c3 ?c4 ?c5 ?_)
          case c1 =>
            intro j u hj
            match j, hj with
            | 0, hj => simp at hj; subst hj; simp [Addr.add]
          case c2 => intro u hu; simp at hu; subst hu; rfl
          case c3 => unfold maxLen; omega
          case c4 => omega
          case c5 => simp; omega
          · intro v' w1 hown' hgrow _
            rw [← List.length_take, ← List.map_take] at hown'
            have R := row_step (by rw [Hlr.out]; omega) HY.out hsz hown hnx hown' hgrow
            clear hown' hgrow hown hc hc2 hc3
            go_wp2
            go_roundw
            case rel => exact ⟨k + 1, by omega, by go_num, R.1, R.2⟩
            case measure => simp [intOf]; omega
        · have HY := hid (show xi = r.getD k 0 by rw [← HX.out, if_pos ej])
          have t1 : ((k : Int) == (i : Int)) = false := by simp; omega
          have t2 : ((k : Int) == (j : Int)) = true := by simp; omega
          clear HX ej ei
          go_wp2_with (at_builtin; refine wpList_append_own _ rfl _ _ 22 rfl w.heap.size 3 i0 (.int .i64 0) 1 8 Try.underlying22 hin hz0 hz1 hz2 rfl (by decide) _ _ _ rfl (hown.alloc _) ⟨wr.heap.size, 0, none⟩ 1 1 [.int .i64 xi] rfl rfl ?c1 ?c2 ?c3 ?c4 ?c5 ?_)
          case c1 =>
            intro j u hj
            match j, hj with
            | 0, hj => simp at hj; subst hj; simp [Addr.add]
          case c2 => intro u hu; simp at hu; subst hu; rfl
          case c3 => unfold maxLen; omega
          case c4 => omega
          case c5 => simp; omega
          · intro v' w1 hown' hgrow _
            rw [← List.length_take, ← List.map_take] at hown'
            have R := row_step (by rw [Hlr.out]; omega) HY.out hsz hown hnx hown' hgrow
            clear hown' hgrow hown hc hc2 hc3
            go_wp2
            go_roundw
            case rel => exact ⟨k + 1, by omega, by go_num, R.1, R.2⟩
            case measure => simp [intOf]; omega
      · by_cases ei : k = i
        · have HY := hid (show xj = r.getD k 0 by rw [← HX.out, if_neg ej, if_pos ei])
          have t1 : ((k : Int) == (i : Int)) = true := by simp; omega
          have t2 : ((k : Int) == (j : Int)) = false := by simp; omega
          clear HX ej ei
          go_wp2_with (at_builtin; refine wpList_append_own _ rfl _ _ 22 rfl w.heap.size 3 i0 (.int .i64 0) 1 8 Try.underlying22 hin hz0 hz1 hz2 rfl (by decide) _ _ _ rfl (hown.alloc _) ⟨wr.heap.size, 0, none⟩ 1 1 [.int .i64 xj] rfl rfl ?c1 ?c2 ?c3 ?c4 ?c5 ?_)
          case c1 =>
            intro j u hj
            match j, hj with
            | 0, hj => simp at hj; subst hj; simp [Addr.add]
          case c2 => intro u hu; simp at hu; subst hu; rfl
          case c3 => unfold maxLen; omega
          case c4 => omega
          case c5 => simp; omega
          · intro v' w1 hown' hgrow _
            rw [← List.length_take, ← List.map_take] at hown'
            have R := row_step (by rw [Hlr.out]; omega) HY.out hsz hown hnx hown' hgrow
            clear hown' hgrow hown hc hc2 hc3
            go_wp2
            go_roundw
            case rel => exact ⟨k + 1, by omega, by go_num, R.1, R.2⟩
            case measure => simp [intOf]; omega
        · have HY := hid (show x = r.getD k 0 by rw [← HX.out, if_neg ej, if_neg ei])
          have t1 : ((k : Int) == (i : Int)) = false := by simp; omega
          have t2 : ((k : Int) == (j : Int)) = false := by simp; omega
          clear HX ej ei
          go_wp2_with (at_builtin; refine wpList_append_own _ rfl _ _ 22 rfl w.heap.size 3 i0 (.int .i64 0) 1 8 Try.underlying22 hin hz0 hz1 hz2 rfl (by decide) _ _ _ rfl (hown.alloc _) ⟨wr.heap.size, 0, none⟩ 1 1 [.int .i64 x] rfl rfl ?c1 ?c2 ?c3 ?c4 ?c5 ?_)
          case c1 =>
            intro j u hj
            match j, hj with
            | 0, hj => simp at hj; subst hj; simp [Addr.add]
          case c2 => intro u hu; simp at hu; subst hu; rfl
          case c3 => unfold maxLen; omega
          case c4 => omega
          case c5 => simp; omega
          · intro v' w1 hown' hgrow _
            rw [← List.length_take, ← List.map_take] at hown'
            have R := row_step (by rw [Hlr.out]; omega) HY.out hsz hown hnx hown' hgrow
            clear hown' hgrow hown hc hc2 hc3
            go_wp2
            go_roundw
            case rel => exact ⟨k + 1, by omega, by go_num, R.1, R.2⟩
            case measure => simp [intOf]; omega
    · go_wp2
      go_ret
      exact ⟨_, rfl, by rw [List.take_of_length_le (by rw [Hlr.out]; omega)] at hown; exact hown, hnx⟩

/-- The row of seats, of the accounts below k. -/
def rowOf (l : List Int) : Nat → List Int
  | 0 => []
  | k + 1 => rowOf l k ++ List.replicate (l.getD k 0).toNat (k : Int)
def shuf : Nat → Int → List Int → List Int
  | 0, _, l => l
  | 1, _, l => l
  | n + 2, r, l => shuf (n + 1) (rollOf r) (exch l (n + 1) (rollOf r / 65536 % (n + 2)).toNat)
def drawOf (has : List Int) (seed : Int) : List Int := shuf (rowOf has has.length).length (seed % 2147483648) (rowOf has has.length)

theorem rowOf_len (l : List Int) (h : ∀ a, 0 ≤ l.getD a 0 ∧ l.getD a 0 ≤ 10) (k : Nat) : (rowOf l k).length ≤ 10 * k := by
  induction k with
  | zero => simp [rowOf]
  | succ k ih => have := h k; simp only [rowOf, List.length_append, List.length_replicate]; omega
theorem shuf_length (n : Nat) : ∀ r l, (shuf n r l).length = l.length := by
  induction n with
  | zero => intro r l; rfl
  | succ n ih =>
    intro r l
    match n, ih with
    | 0, _ => rfl
    | n + 1, ih => simp only [shuf]; rw [ih, exch_length]

theorem snoc_step {B : Nat} {w wr w1 : World} {v v' : Value} {q : List Int} {x : Int} {o : Obj}
    (hB : B ≤ wr.heap.size) (hown : wr.ownsRow B 3 1 v q.length (q.map (Value.int .i64))) (hnx : Below B w wr)
    (hown' : w1.ownsRow B 3 1 v' (q.length + 1) (q.map (Value.int .i64) ++ [Value.int .i64 x])) (hg : (wr.alloc o).grownBy w1 v.ownBlock) :
    w1.ownsRow B 3 1 v' (q ++ [x]).length ((q ++ [x]).map (Value.int .i64)) ∧ Below B w w1 := by
  constructor
  · rw [List.map_append, List.length_append]; exact hown'
  · refine (hnx.alloc hB o).grown hg (by simp; omega) fun j hj => ?_
    exact (hown.lt j hj).1
theorem repl_snoc (l : List Int) (m : Nat) (x : Int) : l ++ List.replicate (m + 1) x = (l ++ List.replicate m x) ++ [x] := by rw [List.replicate_succ', List.append_assoc]
theorem own_ints_in {w : World} {B : Nat} {a : Option Addr} {cap : Nat} {l : List Int} (h : w.ownsRow B 3 1 (.slice a l.length cap) l.length (l.map (Value.int .i64))) : Ints w a l := by
  obtain ⟨a', c, e, hI, _⟩ := own_intsL h
  simp only [Value.slice.injEq] at e
  obtain ⟨rfl, _, _⟩ := e
  exact hI
theorem seed_mod (s : Int) : Int.tmod (Int.tmod s 2147483648 + 2147483648) 2147483648 = s % 2147483648 := by
  have h1 : Int.tmod s 2147483648 = s % 2147483648 ∨ Int.tmod s 2147483648 = s % 2147483648 - 2147483648 := by
    rcases Int.le_total 0 s with h | h
    · left; exact Int.tmod_eq_emod_of_nonneg h
    · have e : Int.tmod s 2147483648 = - Int.tmod (-s) 2147483648 := by rw [Int.neg_tmod, Int.neg_neg]
      rw [e, Int.tmod_eq_emod_of_nonneg (by omega)]
      omega
  have h2 : 0 ≤ Int.tmod s 2147483648 + 2147483648 := by omega
  rw [Int.tmod_eq_emod_of_nonneg h2]
  omega

set_option maxHeartbeats 3200000 in
set_option maxRecDepth 1000000 in
theorem rdrawn (a : Option Addr) (cap : Nat) (l : List Int) (seed : Int) (w : World) (hl : Ints w a l) (h7 : l.length ≤ 7) (hh : ∀ a, 0 ≤ l.getD a 0 ∧ l.getD a 0 ≤ 10) (hs1 : -9223372036854775808 ≤ seed) (hs2 : seed ≤ 9223372036854775807) :
    Calls Try.prog 102 #[.slice a l.length cap, .int .i64 seed] w fun e w' =>
      ∃ v, e = .returned v ∧ w'.ownsRow w.heap.size 3 1 v (drawOf l seed).length ((drawOf l seed).map (Value.int .i64)) ∧ Below w.heap.size w w' := by
  obtain ⟨i0, hin, hz0, hz1, hz2⟩ := info_parts Try.info_int
  obtain ⟨D, hD⟩ : ∃ D, drawOf l seed = D := ⟨_, rfl⟩
  rw [hD]
  unfold drawOf at hD
  have HD := hid hD
  clear hD
  go_enter Try.func102, Try.ntmps102
  go_wp2_with fail
  go_loopw [5, 6] (fun v i wr => ∃ k : Nat, k ≤ l.length ∧ i = .int .i64 k ∧ wr.ownsRow w.heap.size 3 1 v (rowOf l k).length ((rowOf l k).map (Value.int .i64)) ∧ Below w.heap.size w wr)
    (fun _ i _ => l.length - (intOf i).toNat)
  case atStart => exact ⟨0, Nat.zero_le _, rfl, World.ownsRow_nil _ _ _ _, Below.refl _ _⟩
  case round =>
    obtain ⟨k, hk, rfl, hown, hnx⟩ := hrel
    have hsz := hnx.size
    have hrl := rowOf_len l hh k
    by_cases hlt : k < l.length
    · have hx := hh k
      obtain ⟨n, hn⟩ : ∃ n : Nat, l.getD k 0 = n := ⟨(l.getD k 0).toNat, by omega⟩
      have hst := hid (show rowOf l (k + 1) = rowOf l k ++ List.replicate n (k : Int) by simp only [rowOf]; rw [hn, Int.toNat_natCast])
      go_wp2_with fail
      go_loopw [5, 7] (fun v i wr => ∃ m : Nat, m ≤ n ∧ i = .int .i64 m ∧ wr.ownsRow w.heap.size 3 1 v (rowOf l k ++ List.replicate m (k : Int)).length ((rowOf l k ++ List.replicate m (k : Int)).map (Value.int .i64)) ∧ Below w.heap.size w wr)
        (fun _ i _ => n - (intOf i).toNat)
      case atStart => exact ⟨0, Nat.zero_le _, rfl, by simpa using hown, hnx⟩
      case round =>
        clear hown hnx hsz
        obtain ⟨m, hm, rfl, hown, hnx⟩ := hrel
        have hsz := hnx.size
        obtain ⟨b, off, ha, hc⟩ := (hl.below hnx).at hlt
        subst ha
        rw [hn] at hc
        by_cases hmn : m < n
        · have hlen : (rowOf l k ++ List.replicate m (k : Int)).length ≤ 10 * k + m := by simp; omega
          have hq := hid (repl_snoc (rowOf l k) m k)
          generalize rowOf l k ++ List.replicate m (k : Int) = q at *
          go_wp2_with (at_builtin; refine wpList_append_own _ rfl _ _ 22 rfl w.heap.size 3 i0 (.int .i64 0) 1 8 Try.underlying22 hin hz0 hz1 hz2 rfl (by decide) _ _ _ rfl (hown.alloc _) ⟨wr.heap.size, 0, none⟩ 1 1 [.int .i64 k] rfl rfl ?c1 ?c2 ?c3 ?c4 ?c5 ?_)
          case c1 =>
            intro j u hj
            match j, hj with
            | 0, hj => simp at hj; subst hj; simp [Addr.add]
          case c2 => intro u hu; simp at hu; subst hu; rfl
          case c3 => unfold maxLen; omega
          case c4 => omega
          case c5 => simp; omega
          · intro v' w1 hown' hgrow _
            have R := snoc_step hsz hown hnx hown' hgrow
            rw [← hq.out] at R
            clear hown' hgrow hown hc
            go_wp2
            go_roundw
            case rel => exact ⟨m + 1, by omega, by go_num, R.1, R.2⟩
            case measure => simp [intOf]; omega
        · have hmn2 : m = n := by omega
          subst hmn2
          rw [← hst.out] at hown
          go_wp2_with fail
          go_roundw
          case rel => exact ⟨k + 1, by omega, by go_num, hown, hnx⟩
          case measure => simp [intOf]; omega
    · have hkn : k = l.length := by omega
      rw [hkn] at hown hrl
      have hrl : (rowOf l l.length).length ≤ 70 := by omega
      clear hkn
      generalize rowOf l l.length = row at *
      obtain ⟨ra, rcap, hv, _, _⟩ := own_intsL hown
      subst hv
      have hsm := hid (show (wrap64 (seed.tmod 2147483648 + 2147483648)).tmod 2147483648 = seed % 2147483648 by
        have h1 := seed_mod seed
        have h2 := Int.tmod_lt_of_pos seed (show (0 : Int) < 2147483648 by omega)
        have h3 := Int.lt_tmod_of_pos seed (show (0 : Int) < 2147483648 by omega)
        rw [show wrap64 (seed.tmod 2147483648 + 2147483648) = seed.tmod 2147483648 + 2147483648 by unfold wrap64; omega]
        exact h1)
      go_wp2_with fail
      go_loopw [5, 8, 9] (fun v rr nn wr => ∃ (m : Nat) (R : Int) (q : List Int) (ra : Option Addr) (rcap : Nat), v = .slice ra q.length rcap ∧ rr = .int .i64 R ∧ nn = .int .i64 m ∧ m ≤ q.length ∧ q.length ≤ 70 ∧ 0 ≤ R ∧ R < 2147483648 ∧ Hid (shuf m R q = D) ∧ wr.ownsRow w.heap.size 3 1 (.slice ra q.length rcap) q.length (q.map (Value.int .i64)) ∧ Below w.heap.size w wr)
        (fun _ _ nn _ => (intOf nn).toNat)
      case atStart => exact ⟨row.length, seed % 2147483648, row, ra, rcap, rfl, by rw [hsm.out], rfl, Nat.le_refl _, hrl, by omega, by omega, HD, hown, hnx⟩
      case round =>
        clear hown hnx hsz hsm HD hrl
        obtain ⟨m, R, q, ra, rcap, rfl, rfl, rfl, hm, hq70, hR0, hR1, HS, hown, hnx⟩ := hrel
        have hsz := hnx.size
        by_cases h1 : 1 < m
        · obtain ⟨n, hn⟩ : ∃ n, m = n + 2 := ⟨m - 2, by omega⟩
          have HS2 := hid (show shuf (n + 1) (rollOf R) (exch q (n + 1) (rollOf R / 65536 % (n + 2)).toNat) = D by rw [← HS.out, hn]; rfl)
          have hrb := rollOf_bd R
          have hj0 : 0 ≤ rollOf R / 65536 % (n + 2) := Int.emod_nonneg _ (by omega)
          have hj1 : rollOf R / 65536 % (n + 2) < n + 2 := Int.emod_lt_of_pos _ (by omega)
          obtain ⟨J, hJ⟩ : ∃ J : Nat, rollOf R / 65536 % ((n : Int) + 2) = J := ⟨(rollOf R / 65536 % (n + 2)).toNat, by omega⟩
          rw [hJ, Int.toNat_natCast] at HS2
          have hd0 : 0 ≤ rollOf R / 65536 := Int.ediv_nonneg hrb.1 (by omega)
          have ht : Int.tmod (rollOf R / 65536) (m : Int) = (J : Int) := by rw [Int.tmod_eq_emod_of_nonneg hd0, ← hJ, hn]; rfl
          have hJm : J < q.length := by omega
          have hI := hid (own_ints_in hown)
          have hnn : n + 1 < q.length := by omega
          have hmn : (m : Int) - 1 = ((n + 1 : Nat) : Int) := by omega
          clear hn hJ hj0 hj1
          go_wp2_with fail
          refine (rroll R wr hR0 hR1).mono ?_
          rintro e w' ⟨rfl, hw'⟩
          have hw2 := hw'.symm
          subst hw2
          clear hw'
          generalize rollOf R = R' at *
          go_wp2_with fail
          refine (show Calls Try.prog 108 #[.slice ra q.length rcap, .int .i64 ((n : Int) + 1), .int .i64 J] wr _ from rexch ra rcap q (n + 1) J wr hI.out hnn hJm hq70).mono ?_
          rintro e w2 ⟨v2, rfl, o2, b2⟩
          obtain ⟨a2, c2, hv2, _, _⟩ := own_intsL o2
          subst hv2
          have hb2 : Below w.heap.size w w2 := hnx.trans (b2.mono hsz)
          have o2' := own_mono o2 hsz
          have hel := exch_length q (n + 1) J
          generalize exch q (n + 1) J = q2 at *
          clear ht
          go_wp2_with fail
          go_roundw
          case rel => exact ⟨n + 1, R', q2, a2, c2, by rw [hel], rfl, by first | rfl | simp, by omega, by omega, hrb.1, hrb.2, HS2, o2', hb2⟩
          case measure => simp [intOf]; omega
        · have hS := hid (show q = D by
            rw [← HS.out]
            rcases (show m = 0 ∨ m = 1 by omega) with rfl | rfl <;> rfl)
          clear HS
          go_wp2_with fail
          go_ret
          exact ⟨_, rfl, by rw [← hS.out]; exact hown, hnx⟩
end Go.Proofs.Ytiokecadnmcpeab
