import Derived.Test.YtdfdjbhdgbbolaaPSell
import Derived.Deep.MidRow
namespace Go.Proofs.Ytdfdjbhdgbbolaa
set_option linter.unusedVariables false
set_option linter.unusedSimpArgs false
open Go.ChangeShapes Go.WideShapes Go.ChangeAt Go.RowKit

theorem Keeps.setCells {F : Nat → Prop} {a : World} (b : Nat) (hb : F b) : ∀ (vs : List Value) (o : Nat) (c : World), Keeps F a c → Keeps F a (c.setCells b o vs)
  | [], _, _, h => h
  | v :: r, o, c, h => Keeps.setCells b hb r (o + 1) _ (h.setCell ⟨b, o, none⟩ v (fun _ => hb))

/-- m seats of account a are written behind those that the row has. -/
def PS.add (s : PS) (a : Int) (m : Nat) : PS := { s with row := fun j => if s.rlen ≤ j ∧ j < s.rlen + m then a else s.row j, rlen := s.rlen + m }
def rollP (r : Int) : Int := (1103515245 * r + 12345) % 2147483648
theorem rollP_bd (r : Int) : 0 ≤ rollP r ∧ rollP r < 2147483648 := by unfold rollP; omega
def swapP (f : Nat → Int) (i j : Nat) : Nat → Int := fun k => if k = j then f i else if k = i then f j else f k
def shufP : Nat → Int → (Nat → Int) → (Nat → Int)
  | 0, _, f => f
  | 1, _, f => f
  | n + 2, r, f => shufP (n + 1) (rollP r) (swapP f (n + 1) (rollP r / 65536 % (n + 2)).toNat)
def PS.shuffle (s : PS) (seed : Int) : PS := { s with row := shufP s.rlen (seed % 2147483648) s.row }
def PS.clear (s : PS) : PS := { s with row := fun _ => 0, rlen := 0, blocks := fun _ => false }
/-- The seats of the accounts below k are in the row. -/
def PS.rowTo (s : PS) : Nat → PS
  | 0 => s.clear
  | k + 1 => ((s.rowTo k).setAcc k { s.acc k with cheated := false }).add k (s.acc k).seats.toNat
def PS.draw (s : PS) (seed : Int) : PS := (s.rowTo 7).shuffle seed

section
variable {w : World} {x : Nat} {s : PS}

theorem SC.setCells (h : SC w x s) (o : Nat) (vs : List Value) (ho : o + vs.length ≤ 118) {s' : PS} (hin : ∀ j (hj : j < vs.length), s'.cell (o + j) = vs[j]) (hout : ∀ i, i < 118 → (i < o ∨ o + vs.length ≤ i) → s'.cell i = s.cell i) : PTo w x (w.setCells x o vs) s' := by
  refine ⟨⟨fun i hi => ?_, fun i => (World.frozen?_setCells x vs o w _).trans (h.frozen i)⟩, Keeps.setCells (F := fun k => k = x) x rfl vs o w (Keeps.refl _ w)⟩
  by_cases hio : i < o ∨ o + vs.length ≤ i
  · rw [World.cell?_setCells_out x vs o w ⟨x, i, none⟩ (fun _ _ => hio), h.cells i hi, hout i hi hio]
  · have e := World.cell?_setCells_in x vs o w (fun j hj => by rw [h.cells (o + j) (by omega)]; rfl) (i - o) (by omega)
    have e2 := hin (i - o) (by omega)
    rw [show o + (i - o) = i by omega] at e e2
    rw [e, e2]

set_option maxHeartbeats 800000 in
theorem add_ok (h : SC w x s) (a : Int) (m : Nat) (hm : s.rlen + m ≤ 10) :
    Calls Try.prog 78 #[.pointer (some ⟨x, 87, none⟩), .int .i64 a, .int .i64 (m : Int)] w fun e w' => e = .returned (.tuple #[]) ∧ PTo w x w' (s.add a m) := by
  have T0 := hid (PTo.refl h)
  have hz := hid (show s.add a 0 = s by cases s; simp only [PS.add, Nat.add_zero, PS.mk.injEq, true_and, and_true]; funext j; rw [if_neg (by omega)])
  go_enter Try.func78, Try.ntmps78
  go_wp2_with fail
  go_loopw [6] (fun i wr => ∃ k : Nat, k ≤ m ∧ i = .int .i64 k ∧ PTo w x wr (s.add a k)) (fun i _ => m - (intOf i).toNat)
  case atStart => exact ⟨0, by omega, rfl, by rw [hz.out]; exact T0.out⟩
  case round =>
    clear T0 hz
    obtain ⟨k, hk, rfl, T⟩ := hrel
    have hT := T.sc
    have cl : wr.cell? ⟨x, 97, none⟩ = some (.int .i64 ((s.rlen + k : Nat) : Int)) := hT.rlenAt
    have fl : wr.frozen? ⟨x, 97, none⟩ = false := hT.frozen _
    by_cases hlt : k < m
    · have hl10 : s.rlen + k < 10 := by omega
      have cr := hT.rowAt (k := s.rlen + k) hl10
      have fr : wr.frozen? ⟨x, 87 + (s.rlen + k), none⟩ = false := hT.frozen _
      have t1 := hT.setRow hl10 a
      have t2 := T.trans (t1.trans (t1.sc.setLen (s.rlen + k + 1)))
      have hne := hid (show { ({ s.add a k with row := updQ (s.add a k).row (s.rlen + k) a } : PS) with rlen := s.rlen + k + 1 } = s.add a (k + 1) by
        simp only [PS.add, PS.mk.injEq, true_and, and_true]
        refine ⟨?_, by omega⟩
        funext j
        unfold updQ
        by_cases e : j = s.rlen + k
        · rw [if_pos e, if_pos (by omega)]
        · rw [if_neg e]
          show (if s.rlen ≤ j ∧ j < s.rlen + k then a else s.row j) = _
          by_cases e2 : s.rlen ≤ j ∧ j < s.rlen + k
          · rw [if_pos e2, if_pos (by omega)]
          · rw [if_neg e2, if_neg (by omega)])
      have H2 := hid (show PTo w x _ (s.add a (k + 1)) by rw [← hne.out]; exact t2)
      have c2 : (wr.setCell ⟨x, 87 + (s.rlen + k), none⟩ (.int .i64 a)).cell? ⟨x, 97, none⟩ = some (.int .i64 ((s.rlen + k : Nat) : Int)) := t1.sc.rlenAt
      have f2 : (wr.setCell ⟨x, 87 + (s.rlen + k), none⟩ (.int .i64 a)).frozen? ⟨x, 97, none⟩ = false := t1.sc.frozen _
      generalize (s.add a k).row (s.rlen + k) = old at *
      generalize hR : s.rlen + k = R at *
      have i1 : (k : Int) < (m : Int) := by omega
      have i2 : (R : Int) < 10 := by omega
      clear t1 t2 hne hT T
      go_wp2_with fail
      go_region
      go_wp2_with fail
      go_roundw
      case rel => exact ⟨k + 1, by omega, by go_num, H2.out.same rfl rfl rfl rfl⟩
      case measure => simp [intOf]; omega
    · have hkm : k = m := by omega
      subst hkm
      go_wp2_with fail
      go_end0
      exact ⟨rfl, T⟩

set_option maxHeartbeats 1600000 in
theorem shuffle_ok (h : SC w x s) (hr : s.rlen ≤ 10) (seed : Int) (hs1 : -9223372036854775808 ≤ seed) (hs2 : seed ≤ 9223372036854775807) :
    Calls Try.prog 79 #[.pointer (some ⟨x, 87, none⟩), .int .i64 seed] w fun e w' => e = .returned (.tuple #[]) ∧ PTo w x w' (s.shuffle seed) := by
  have cl := h.rlenAt
  obtain ⟨s', hs'⟩ : ∃ s', s.shuffle seed = s' := ⟨_, rfl⟩
  rw [hs']
  have HS := hid (show { s with row := shufP s.rlen (seed % 2147483648) s.row } = s' from hs')
  clear hs'
  have T0 := hid (PTo.refl h)
  have hb1 := Int.emod_nonneg seed (show (2147483648 : Int) ≠ 0 by omega)
  have hb2 := Int.emod_lt_of_pos seed (show (0 : Int) < 2147483648 by omega)
  have htm : (0 ≤ Int.tmod seed 2147483648 ∧ Int.tmod seed 2147483648 = seed % 2147483648) ∨ (Int.tmod seed 2147483648 < 0 ∧ -2147483648 < Int.tmod seed 2147483648 ∧ Int.tmod seed 2147483648 + 2147483648 = seed % 2147483648) := by
    rcases (show seed < 0 ∨ 0 ≤ seed by omega) with h0 | h0
    · have e := Int.tmod_eq_emod (a := seed) (b := 2147483648)
      rw [e]
      split <;> omega
    · exact .inl ⟨Int.tmod_nonneg _ h0, Int.tmod_eq_emod_of_nonneg h0⟩
  rcases htm with ⟨h0, h1⟩ | ⟨h0, h1, h2⟩
  · generalize seed % 2147483648 = r0 at *
    have hn0 : ¬ Int.tmod seed 2147483648 < 0 := by omega
    go_enter Try.func79, Try.ntmps79
    go_wp2_with fail
    clear hn0 h0 h1
    go_loopw [4, 5] (fun rv iv wr => ∃ (n : Nat) (r : Int) (f : Nat → Int), n ≤ s.rlen ∧ 0 ≤ r ∧ r < 2147483648 ∧ rv = .int .i64 r ∧ iv = .int .i64 ((n : Int) - 1) ∧ Hid (shufP n r f = shufP s.rlen r0 s.row) ∧ PTo w x wr { s with row := f }) (fun _ iv _ => (intOf iv + 1).toNat)
    case atStart => exact ⟨s.rlen, r0, s.row, Nat.le_refl _, hb1, hb2, rfl, rfl, rfl, T0.out⟩
    case round =>
      clear T0 cl
      obtain ⟨n, r, f, hn, hr0, hr1, rfl, rfl, hsh, T⟩ := hrel
      have hT := T.sc
      by_cases hlt : 2 ≤ n
      · obtain ⟨m, rfl⟩ : ∃ m, n = m + 2 := ⟨n - 2, by omega⟩
        rw [show ((m + 2 : Nat) : Int) - 1 = (m : Int) + 1 by omega]
        obtain ⟨r1, hr1e⟩ : ∃ r1, (1103515245 * r + 12345) % 2147483648 = r1 := ⟨_, rfl⟩
        have hrb : 0 ≤ r1 ∧ r1 < 2147483648 := by rw [← hr1e]; exact rollP_bd r
        obtain ⟨j, hj⟩ : ∃ j : Nat, r1 / 65536 % ((m : Int) + 1 + 1) = (j : Int) := ⟨(r1 / 65536 % ((m : Int) + 1 + 1)).toNat, by have := Int.emod_nonneg (r1 / 65536) (show (m : Int) + 1 + 1 ≠ 0 by omega); omega⟩
        have hjb : j < m + 2 := by have := Int.emod_lt_of_pos (r1 / 65536) (show (0 : Int) < (m : Int) + 1 + 1 by omega); omega
        have hs2 := hid (show shufP (m + 1) r1 (swapP f (m + 1) j) = shufP s.rlen r0 s.row by
          rw [← hsh.out]
          show shufP (m + 1) r1 (swapP f (m + 1) j) = shufP (m + 1) (rollP r) (swapP f (m + 1) (rollP r / 65536 % ((m : Int) + 2)).toNat)
          have e1 : rollP r = r1 := hr1e
          rw [e1, show (m : Int) + 2 = (m : Int) + 1 + 1 by omega, hj]; rfl)
        have ci := hT.rowAt (k := m + 1) (by omega)
        have cj := hT.rowAt (k := j) (by omega)
        have fi : wr.frozen? ⟨x, 87 + (m + 1), none⟩ = false := hT.frozen _
        have t1 := hT.setRow (k := m + 1) (by omega) (f j)
        have t2 := T.trans (t1.trans (t1.sc.setRow (k := j) (by omega) (f (m + 1))))
        have hsw := hid (show updQ (updQ f (m + 1) (f j)) j (f (m + 1)) = swapP f (m + 1) j by
          funext k
          unfold updQ swapP
          rfl)
        have H2 := hid (show PTo w x _ { s with row := swapP f (m + 1) j } by rw [← hsw.out]; exact t2)
        obtain ⟨u, cj1⟩ : ∃ u, (wr.setCell ⟨x, 87 + (m + 1), none⟩ (.int .i64 (f j))).cell? ⟨x, 87 + j, none⟩ = some (.int .i64 u) := ⟨_, t1.sc.rowAt (k := j) (by omega)⟩
        have fj1 : (wr.setCell ⟨x, 87 + (m + 1), none⟩ (.int .i64 (f j))).frozen? ⟨x, 87 + j, none⟩ = false := t1.sc.frozen _
        have i1 : (m : Int) + 1 < 10 := by omega
        have i2 : (j : Int) < 10 := by omega
        have i3 : (1 : Int) ≤ (m : Int) + 1 := by omega
        have i4 : ¬ (m : Int) + 1 + 1 = 0 := by omega
        have i5 : 0 ≤ r1 / 65536 := by omega
        simp only at ci cj
        generalize f (m + 1) = fi1 at *
        generalize f j = fj2 at *
        clear t1 t2 hT T hsh hsw
        go_wp2_with fail
        go_region
        go_wp2_with fail
        go_roundw
        case rel => exact ⟨m + 1, r1, _, by omega, hrb.1, hrb.2, by rw [hr1e], by go_num, hs2, H2.out.same rfl rfl rfl rfl⟩
        case measure => simp [intOf]; omega
      · have hfin := hid (show f = shufP s.rlen r0 s.row by
          rw [← hsh.out]
          rcases (show n = 0 ∨ n = 1 by omega) with rfl | rfl <;> rfl)
        have i0 : ¬ (1 : Int) ≤ (n : Int) - 1 := by omega
        go_wp2_with fail
        go_end0
        exact ⟨rfl, by rw [← HS.out, ← hfin.out]; exact T⟩
  · generalize seed % 2147483648 = r0 at *
    go_enter Try.func79, Try.ntmps79
    go_wp2_with fail
    clear h0 h1 h2
    go_loopw [4, 5] (fun rv iv wr => ∃ (n : Nat) (r : Int) (f : Nat → Int), n ≤ s.rlen ∧ 0 ≤ r ∧ r < 2147483648 ∧ rv = .int .i64 r ∧ iv = .int .i64 ((n : Int) - 1) ∧ Hid (shufP n r f = shufP s.rlen r0 s.row) ∧ PTo w x wr { s with row := f }) (fun _ iv _ => (intOf iv + 1).toNat)
    case atStart => exact ⟨s.rlen, r0, s.row, Nat.le_refl _, hb1, hb2, rfl, rfl, rfl, T0.out⟩
    case round =>
      clear T0 cl
      obtain ⟨n, r, f, hn, hr0, hr1, rfl, rfl, hsh, T⟩ := hrel
      have hT := T.sc
      by_cases hlt : 2 ≤ n
      · obtain ⟨m, rfl⟩ : ∃ m, n = m + 2 := ⟨n - 2, by omega⟩
        rw [show ((m + 2 : Nat) : Int) - 1 = (m : Int) + 1 by omega]
        obtain ⟨r1, hr1e⟩ : ∃ r1, (1103515245 * r + 12345) % 2147483648 = r1 := ⟨_, rfl⟩
        have hrb : 0 ≤ r1 ∧ r1 < 2147483648 := by rw [← hr1e]; exact rollP_bd r
        obtain ⟨j, hj⟩ : ∃ j : Nat, r1 / 65536 % ((m : Int) + 1 + 1) = (j : Int) := ⟨(r1 / 65536 % ((m : Int) + 1 + 1)).toNat, by have := Int.emod_nonneg (r1 / 65536) (show (m : Int) + 1 + 1 ≠ 0 by omega); omega⟩
        have hjb : j < m + 2 := by have := Int.emod_lt_of_pos (r1 / 65536) (show (0 : Int) < (m : Int) + 1 + 1 by omega); omega
        have hs2 := hid (show shufP (m + 1) r1 (swapP f (m + 1) j) = shufP s.rlen r0 s.row by
          rw [← hsh.out]
          show shufP (m + 1) r1 (swapP f (m + 1) j) = shufP (m + 1) (rollP r) (swapP f (m + 1) (rollP r / 65536 % ((m : Int) + 2)).toNat)
          have e1 : rollP r = r1 := hr1e
          rw [e1, show (m : Int) + 2 = (m : Int) + 1 + 1 by omega, hj]; rfl)
        have ci := hT.rowAt (k := m + 1) (by omega)
        have cj := hT.rowAt (k := j) (by omega)
        have fi : wr.frozen? ⟨x, 87 + (m + 1), none⟩ = false := hT.frozen _
        have t1 := hT.setRow (k := m + 1) (by omega) (f j)
        have t2 := T.trans (t1.trans (t1.sc.setRow (k := j) (by omega) (f (m + 1))))
        have hsw := hid (show updQ (updQ f (m + 1) (f j)) j (f (m + 1)) = swapP f (m + 1) j by
          funext k
          unfold updQ swapP
          rfl)
        have H2 := hid (show PTo w x _ { s with row := swapP f (m + 1) j } by rw [← hsw.out]; exact t2)
        obtain ⟨u, cj1⟩ : ∃ u, (wr.setCell ⟨x, 87 + (m + 1), none⟩ (.int .i64 (f j))).cell? ⟨x, 87 + j, none⟩ = some (.int .i64 u) := ⟨_, t1.sc.rowAt (k := j) (by omega)⟩
        have fj1 : (wr.setCell ⟨x, 87 + (m + 1), none⟩ (.int .i64 (f j))).frozen? ⟨x, 87 + j, none⟩ = false := t1.sc.frozen _
        have i1 : (m : Int) + 1 < 10 := by omega
        have i2 : (j : Int) < 10 := by omega
        have i3 : (1 : Int) ≤ (m : Int) + 1 := by omega
        have i4 : ¬ (m : Int) + 1 + 1 = 0 := by omega
        have i5 : 0 ≤ r1 / 65536 := by omega
        simp only at ci cj
        generalize f (m + 1) = fi1 at *
        generalize f j = fj2 at *
        clear t1 t2 hT T hsh hsw
        go_wp2_with fail
        go_region
        go_wp2_with fail
        go_roundw
        case rel => exact ⟨m + 1, r1, _, by omega, hrb.1, hrb.2, by rw [hr1e], by go_num, hs2, H2.out.same rfl rfl rfl rfl⟩
        case measure => simp [intOf]; omega
      · have hfin := hid (show f = shufP s.rlen r0 s.row by
          rw [← hsh.out]
          rcases (show n = 0 ∨ n = 1 by omega) with rfl | rfl <;> rfl)
        have i0 : ¬ (1 : Int) ≤ (n : Int) - 1 := by omega
        go_wp2_with fail
        go_end0
        exact ⟨rfl, by rw [← HS.out, ← hfin.out]; exact T⟩
end
end Go.Proofs.Ytdfdjbhdgbbolaa
namespace Go.Proofs.Ytdfdjbhdgbbolaa
set_option linter.unusedVariables false
set_option linter.unusedSimpArgs false
open Go.ChangeShapes Go.WideShapes Go.ChangeAt Go.RowKit

def PS.noTurns (s : PS) : PS := { s with row := fun _ => 0, rlen := 0 }
def PS.noBlocks (s : PS) : PS := { s with blocks := fun _ => false }
theorem PS.clear_eq (s : PS) : s.noTurns.noBlocks = s.clear := rfl

theorem SC.there {w : World} {x : Nat} {s : PS} (h : SC w x s) (o n : Nat) (hn : o + n ≤ 118) : w.there x o n := fun j hj => ⟨by rw [h.cells (o + j) (by omega)]; rfl, h.frozen _⟩
theorem get_rep {n : Nat} {v : Value} {j : Nat} (hj : j < (List.replicate n v).length) : (List.replicate n v)[j] = v := by simp

theorem SC.noTurns {w : World} {x : Nat} {s : PS} (h : SC w x s) : PTo w x (w.setCells x 87 (List.replicate 11 (.int .i64 0))) s.noTurns := by
  refine h.setCells 87 _ (by simp) (fun j hj => ?_) (fun i hi hio => ?_)
  · rw [get_rep hj]
    simp at hj
    rcases (show j < 10 ∨ j = 10 by omega) with h1 | rfl
    · rw [PS.cell_row _ h1]; rfl
    · exact PS.cell_rlen _
  · simp at hio
    rcases PS.cell_kind hi with h1 | ⟨b, k, hb, hk, rfl⟩ | ⟨k, hk, rfl⟩ | rfl | ⟨k, hk, rfl⟩
    · rw [PS.cell_num _ h1, PS.cell_num _ h1]; rfl
    · rw [PS.cell_acc _ hb hk, PS.cell_acc _ hb hk]; rfl
    · omega
    · omega
    · rw [PS.cell_blk _ hk, PS.cell_blk _ hk]; rfl
theorem SC.noBlocks {w : World} {x : Nat} {s : PS} (h : SC w x s) : PTo w x (w.setCells x 98 (List.replicate 20 (.bool false))) s.noBlocks := by
  refine h.setCells 98 _ (by simp) (fun j hj => ?_) (fun i hi hio => ?_)
  · rw [get_rep hj]
    simp at hj
    rw [PS.cell_blk _ hj]; rfl
  · simp at hio
    rcases PS.cell_kind hi with h1 | ⟨b, k, hb, hk, rfl⟩ | ⟨k, hk, rfl⟩ | rfl | ⟨k, hk, rfl⟩
    · rw [PS.cell_num _ h1, PS.cell_num _ h1]; rfl
    · rw [PS.cell_acc _ hb hk, PS.cell_acc _ hb hk]; rfl
    · rw [PS.cell_row _ hk, PS.cell_row _ hk]; rfl
    · rw [PS.cell_rlen, PS.cell_rlen]; rfl
    · omega

theorem wpList_noTurns {ops : Array Oper} {rest : List Oper} {op : Oper} {a : Act} {w : World} {Q : Exit → Act → World → Prop} {x : Nat} {s : PS} (h : SC w x s) (hgd : op.guard = none) (p y : Operand) (ho : op.op = .store 86 p y)
    (hx : a.eval p = .pointer (some ⟨x, 87, none⟩)) (hy : a.eval y = .agg #[.int .i64 0, .int .i64 0, .int .i64 0, .int .i64 0, .int .i64 0, .int .i64 0, .int .i64 0, .int .i64 0, .int .i64 0, .int .i64 0, .int .i64 0])
    (H : ∀ W, PTo w x W s.noTurns → wpList Try.prog ops Q rest (a.put op.dst undef) W) : wpList Try.prog ops Q (op :: rest) a w :=
  wpList_store_mid hgd 86 p y ho x 87 #[.int .i64 0, .int .i64 0, .int .i64 0, .int .i64 0, .int .i64 0, .int .i64 0, .int .i64 0, .int .i64 0, .int .i64 0, .int .i64 0, .int .i64 0] hx hy (h.there 87 11 (by omega)) (by kernel_rfl) (by kernel_rfl) (H _ h.noTurns)
theorem wpList_noBlocks {ops : Array Oper} {rest : List Oper} {op : Oper} {a : Act} {w : World} {Q : Exit → Act → World → Prop} {x : Nat} {s : PS} (h : SC w x s) (hgd : op.guard = none) (p y : Operand) (ho : op.op = .store 87 p y)
    (hx : a.eval p = .pointer (some ⟨x, 98, none⟩)) (hy : a.eval y = .agg #[.bool false, .bool false, .bool false, .bool false, .bool false, .bool false, .bool false, .bool false, .bool false, .bool false, .bool false, .bool false, .bool false, .bool false, .bool false, .bool false, .bool false, .bool false, .bool false, .bool false])
    (H : ∀ W, PTo w x W s.noBlocks → wpList Try.prog ops Q rest (a.put op.dst undef) W) : wpList Try.prog ops Q (op :: rest) a w :=
  wpList_store_mid hgd 87 p y ho x 98 #[.bool false, .bool false, .bool false, .bool false, .bool false, .bool false, .bool false, .bool false, .bool false, .bool false, .bool false, .bool false, .bool false, .bool false, .bool false, .bool false, .bool false, .bool false, .bool false, .bool false] hx hy (h.there 98 20 (by omega)) (by kernel_rfl) (by kernel_rfl) (H _ h.noBlocks)

theorem PS.rowTo_kept (s : PS) (k : Nat) : (s.rowTo k).N = s.N ∧ (s.rowTo k).seats = s.seats ∧ (s.rowTo k).delay = s.delay ∧ (s.rowTo k).rate = s.rate ∧ (s.rowTo k).cut = s.cut ∧ (s.rowTo k).length = s.length ∧ (s.rowTo k).need = s.need ∧ (s.rowTo k).epoch = s.epoch ∧ (s.rowTo k).treasury = s.treasury ∧ (s.rowTo k).price = s.price ∧ (∀ a, k ≤ a → (s.rowTo k).acc a = s.acc a) ∧ (∀ a, a < k → (s.rowTo k).acc a = { s.acc a with cheated := false }) := by
  induction k with
  | zero => exact ⟨rfl, rfl, rfl, rfl, rfl, rfl, rfl, rfl, rfl, rfl, fun _ _ => rfl, fun _ h => absurd h (by omega)⟩
  | succ k ih =>
    obtain ⟨h0, h1, h2, h3, h4, h5, h6, h7, h8, h9, h10, h11⟩ := ih
    refine ⟨h0, h1, h2, h3, h4, h5, h6, h7, h8, h9, fun a ha => ?_, fun a ha => ?_⟩
    · show ((s.rowTo k).setAcc k _).acc a = _
      rw [PS.setAcc_other _ _ (by omega)]; exact h10 a (by omega)
    · show ((s.rowTo k).setAcc k _).acc a = _
      by_cases e : a = k
      · subst e; rw [PS.setAcc_same]
      · rw [PS.setAcc_other _ _ e]; exact h11 a (by omega)
/-- The seats of the accounts below k. -/
def PS.seatsTo (s : PS) (k : Nat) : Int := sumTo (fun a => (s.acc a).seats) k
theorem PS.rowTo_len (s : PS) (ok : ∀ a, a < 7 → 0 ≤ (s.acc a).seats) (k : Nat) (hk : k ≤ 7) : ((s.rowTo k).rlen : Int) = s.seatsTo k := by
  induction k with
  | zero => rfl
  | succ k ih =>
    have := ih (by omega)
    have h0 := ok k (by omega)
    show (((s.rowTo k).rlen + (s.acc k).seats.toNat : Nat) : Int) = sumTo (fun a => (s.acc a).seats) k + (s.acc k).seats
    have e : s.seatsTo k = sumTo (fun a => (s.acc a).seats) k := rfl
    omega

section
variable {w : World} {x : Nat} {s : PS}

set_option maxHeartbeats 1600000 in
set_option maxRecDepth 100000 in
theorem draw_ok (h : SC w x s) (hse : ∀ a, a < 7 → 0 ≤ (s.acc a).seats ∧ (s.acc a).seats ≤ 10) (hsum : ∀ k, k ≤ 7 → s.seatsTo k ≤ 10) (seed : Int) (hs1 : -9223372036854775808 ≤ seed) (hs2 : seed ≤ 9223372036854775807) :
    Calls Try.prog 53 #[.pointer (some ⟨x, 0, none⟩), .int .i64 seed] w fun e w' => e = .returned (.tuple #[]) ∧ PTo w x w' (s.draw seed) := by
  have hrl := hid (s.rowTo_len (fun a ha => (hse a ha).1))
  have Hse := hid hse
  have Hsum := hid hsum
  clear hse hsum
  obtain ⟨s', hs'⟩ : ∃ s', s.draw seed = s' := ⟨_, rfl⟩
  rw [hs']
  have HS := hid (show (s.rowTo 7).shuffle seed = s' from hs')
  clear hs'
  go_enter Try.func53, Try.ntmps53
  go_upto_region 1 with (refine wpList_noTurns h rfl _ _ rfl rfl rfl ?_; rintro W1 T1)
  have h1 := T1.sc
  go_upto_region 2 with (refine wpList_noBlocks h1 rfl _ _ rfl rfl rfl ?_; rintro W2 T2)
  have T0 := hid (show PTo w x W2 (s.rowTo 0) from T1.trans T2)
  clear T1 T2 h1
  go_wp2_with fail
  go_loopw [14] (fun i wr => ∃ k : Nat, k ≤ 7 ∧ i = .int .i64 k ∧ PTo w x wr (s.rowTo k)) (fun i _ => 7 - (intOf i).toNat)
  case atStart => exact ⟨0, by omega, rfl, T0.out⟩
  case round =>
    clear T0
    obtain ⟨k, hk, rfl, T⟩ := hrel
    have hT := T.sc
    by_cases hlt : k < 7
    · have i1 : (k : Int) < 7 := by omega
      have hat := (s.rowTo_kept k).2.2.2.2.2.2.2.2.2.2.1 k (Nat.le_refl _)
      obtain ⟨m, hm⟩ : ∃ m : Nat, (s.acc k).seats = (m : Int) := ⟨(s.acc k).seats.toNat, by have := (Hse.out k hlt).1; omega⟩
      have c10 : wr.cell? ⟨x, 10 + k * 11 + 10, none⟩ = some (.bool ((s.rowTo k).acc k).cheated) := hT.at hlt (j := 10) (by omega)
      have f10 : wr.frozen? ⟨x, 10 + k * 11 + 10, none⟩ = false := hT.frozen _
      have t1 := hT.setCheat hlt false
      rw [hat] at t1
      have T1 := hid (T.trans t1)
      have h2 := t1.sc
      have hst := hid (show s.rowTo (k + 1) = ((s.rowTo k).setAcc k { s.acc k with cheated := false }).add k m by
        show ((s.rowTo k).setAcc k { s.acc k with cheated := false }).add k (s.acc k).seats.toNat = _
        rw [hm]; rfl)
      have hml : (s.rowTo k).rlen + m ≤ 10 := by
        have e1 := hrl.out k hk
        have e2 := Hsum.out (k + 1) (by omega)
        have e3 : s.seatsTo (k + 1) = s.seatsTo k + (s.acc k).seats := rfl
        omega
      clear t1 T hT
      go_upto_region 7 with fail
      generalize wr.setCell ⟨x, 10 + k * 11 + 10, none⟩ (.bool false) = W3 at *
      have c3 : W3.cell? ⟨x, 10 + k * 11 + 3, none⟩ = some (.int .i64 (m : Int)) := by have := h2.at hlt (j := 3) (by omega); rw [PS.setAcc_same] at this; rw [this]; show some (Value.int .i64 (s.acc k).seats) = _; rw [hm]
      have hkp := hid (show ∀ w4, SC w4 x (((s.rowTo k).setAcc k { s.acc k with cheated := false }).add k m) → w4.cell? ⟨x, 10 + k * 11 + 3, none⟩ = some (.int .i64 (m : Int)) by
        intro w4 h4
        have e5 := h4.at hlt (j := 3) (by omega)
        have e6 := h2.at hlt (j := 3) (by omega)
        rw [c3] at e6
        rw [e5, e6]; rfl)
      clear c10 f10 hat hm
      go_wp2_with fail
      go_region_held3 (fun w' => w'.cell? ⟨x, 10 + k * 11 + 3, none⟩ = some (.int .i64 (m : Int))) (go_keep) ((go_at_call 78; refine (add_ok (h2.below (Below.refl _ _).drew) k m hml).mono ?_; rintro e w4 ⟨rfl, t4⟩; (have d3 := hkp.out w4 t4.sc)))
      go_wp2_with fail
      go_roundw
      case rel => exact ⟨k + 1, by omega, by go_num, by rw [hst.out]; exact T1.out.drew.trans t4⟩
      case measure => simp [intOf]; omega
    · have hk7 : k = 7 := by omega
      subst hk7
      have hl10 : (s.rowTo 7).rlen ≤ 10 := by
        have e1 := hrl.out 7 (by omega)
        have e2 := Hsum.out 7 (by omega)
        omega
      go_wp2_with fail
      refine (shuffle_ok hT hl10 seed hs1 hs2).mono ?_
      rintro e w5 ⟨rfl, t5⟩
      have T5 := hid (show PTo w x w5 s' by rw [← HS.out]; exact T.trans t5)
      clear t5 T hT
      go_wp2_with fail
      go_end0
      exact ⟨rfl, T5.out⟩
end
end Go.Proofs.Ytdfdjbhdgbbolaa
namespace Go.Proofs.Ytdfdjbhdgbbolaa
set_option linter.unusedVariables false
set_option linter.unusedSimpArgs false
open Go.ChangeShapes Go.WideShapes Go.ChangeAt Go.RowKit

def PS.p1 (s : PS) : PS := s.burn s.stand
def PS.p2 (s : PS) : PS := s.p1.pay s.stand
def PS.p3 (s : PS) : PS := s.p2.dismiss s.stand (s.delay - 1).toNat
def PS.p4 (s : PS) : PS := s.p3.begin
def PS.p5 (s : PS) : PS := s.p4.lockPool
def PS.p6 (s : PS) : PS := s.p5.lower (s.delay - 2).toNat
def PS.p7 (s : PS) : PS := s.p6.sell (s.delay - 2).toNat
/-- What Next makes of a chain of the program's. -/
def PS.next (s : PS) (seed : Int) : PS := s.p7.draw seed
/-- The bounds that Next needs on its way. -/
structure PNextOk (s : PS) : Prop where
  ok : s.Ok
  ok1 : s.p1.Ok
  sup0 : 0 ≤ s.p1.supply
  sup1 : s.p1.supply ≤ 1000000000
  ok2 : s.p2.Ok
  ok3 : s.p3.Ok
  ok4 : s.p4.Ok
  ok5 : s.p5.Ok
  ok6 : s.p6.Ok
  se7 : ∀ a, a < 7 → 0 ≤ (s.p7.acc a).seats ∧ (s.p7.acc a).seats ≤ 10
  sum7 : ∀ k, k ≤ 7 → s.p7.seatsTo k ≤ 10

section
variable {w : World} {x : Nat} {s : PS}

set_option maxHeartbeats 3200000 in
set_option maxRecDepth 100000 in
theorem next_ok (h : SC w x s) (A : PNextOk s) (seed : Int) (hs1 : -9223372036854775808 ≤ seed) (hs2 : seed ≤ 9223372036854775807) :
    Calls Try.prog 20 #[.pointer (some ⟨x, 0, none⟩), .int .i64 seed] w fun e w' => e = .returned (.int .i64 0) ∧ PTo w x w' (s.next seed) := by
  have e0 := A.ok.e0
  have e1 := A.ok.e1
  have hde := A.ok.delay
  obtain ⟨q, hq⟩ : ∃ q : Nat, s.delay = (q : Int) + 2 := ⟨(s.delay - 2).toNat, by omega⟩
  have hq1 := hid (show (s.delay - 1).toNat = q + 1 by omega)
  have hq2 := hid (show (s.delay - 2).toNat = q by omega)
  have hq5 : q + 1 < 5 := by omega
  have c7 : w.cell? ⟨x, 7, none⟩ = some (.int .i64 s.epoch) := h.num (j := 7) (by omega)
  have c2 : w.cell? ⟨x, 2, none⟩ = some (.int .i64 s.delay) := h.num (j := 2) (by omega)
  have hE3 := hid (show s.p3.epoch = s.epoch from rfl)
  have hE2 := hid (show s.p2.epoch = s.epoch from rfl)
  have hE5 := hid (show s.p5.epoch = s.epoch + 1 from rfl)
  have hE6 := hid (show s.p6.epoch = s.epoch + 1 from rfl)
  have d2 := hid (show (s.epoch + s.delay) - s.p2.epoch = ((q + 1 : Nat) : Int) + 1 by rw [hE2.out]; omega)
  have d5 := hid (show (s.epoch + s.delay) - s.p5.epoch = ((q : Nat) : Int) + 1 by rw [hE5.out]; omega)
  have d6 := hid (show (s.epoch + s.delay) - s.p6.epoch = ((q : Nat) : Int) + 1 by rw [hE6.out]; omega)
  obtain ⟨M, hM⟩ : ∃ M, M = arrI 7 s.stand := ⟨_, rfl⟩
  have HM := hid hM
  have hsz : M.size = 7 := by rw [hM, arrI_size]
  have hon : M.all (·.oneCell') = true := by rw [hM]; exact arrI_one 7 _
  have hxl := h.lt
  clear hM hq
  go_enter Try.func20, Try.ntmps20
  go_wp2_with fail
  go_quiet (fail)
  go_wp2_with fail
  have T0 := (PTo.refl h).dn nq
  refine (judge_any T0.sc A.ok.toCf).mono ?_
  rintro e w1 ⟨rfl, b1⟩
  rw [← HM.out]
  have T1 := T0.below b1
  have G0 := heap_alloc_new w1 (.cells #[.int .i64 0, .int .i64 0, .int .i64 0, .int .i64 0, .int .i64 0, .int .i64 0, .int .i64 0] 95)
  clear b1 T0 c7 c2
  have hgx : w1.heap.size ≠ x := by have := T1.keeps.size; omega
  go_upto_region 3 with (refine wpList_store_row rfl 95 _ _ rfl w1.heap.size M rfl rfl 95 #[.int .i64 0, .int .i64 0, .int .i64 0, .int .i64 0, .int .i64 0, .int .i64 0, .int .i64 0] G0 (by rw [info_st, hsz]) (by rw [hsz]; rfl) hon ?_)
  have G2 : ((w1.alloc (.cells #[.int .i64 0, .int .i64 0, .int .i64 0, .int .i64 0, .int .i64 0, .int .i64 0, .int .i64 0] 95)).setRow w1.heap.size M).heap[w1.heap.size]? = some (.cells M 95 (0, 0)) := setRow_heap _ _ _ M _ _ G0
  have B2 := below_setRow ((Below.refl w1.heap.size w1).alloc (Nat.le_refl _) (.cells #[.int .i64 0, .int .i64 0, .int .i64 0, .int .i64 0, .int .i64 0, .int .i64 0, .int .i64 0] 95)) (Nat.le_refl w1.heap.size) M
  have T2 := T1.below B2
  generalize (w1.alloc (.cells #[.int .i64 0, .int .i64 0, .int .i64 0, .int .i64 0, .int .i64 0, .int .i64 0, .int .i64 0] 95)).setRow w1.heap.size M = W2 at *
  generalize w1.heap.size = g at *
  clear G0 B2 T1
  go_wp2_with (refine wpList_load_row rfl 95 _ rfl g rfl 95 M (0, 0) _ G2 Try.underlying95 rfl (by rw [info_st, hsz]) ?_)
  have hb := burn_ok T2.sc A.ok s.stand
  rw [← HM.out] at hb
  refine hb.mono ?_
  clear hb
  rintro e w3 ⟨rfl, t3⟩
  have T3 := T2.trans t3
  have G3 := (t3.keeps.block g (lt_of_block G2) hgx).trans G2
  clear t3 T2 G2
  go_wp2_with (refine wpList_load_row rfl 95 _ rfl g rfl 95 M (0, 0) _ G3 Try.underlying95 rfl (by rw [info_st, hsz]) ?_)
  have hb := pay_ok T3.sc A.ok1 s.stand A.sup0 A.sup1
  rw [← HM.out] at hb
  refine hb.mono ?_
  clear hb
  rintro e w4 ⟨rfl, t4⟩
  have T4 := T3.trans t4
  have G4 := (t4.keeps.block g (lt_of_block G3) hgx).trans G3
  clear t4 T3 G3
  go_wp2_with (refine wpList_load_row rfl 95 _ rfl g rfl 95 M (0, 0) _ G4 Try.underlying95 rfl (by rw [info_st, hsz]) ?_)
  have hb := dismiss_ok T4.sc A.ok2 s.stand (q + 1) hq5 (s.epoch + s.delay) d2.out
  rw [← HM.out] at hb
  refine hb.mono ?_
  clear hb
  rintro e w5 ⟨rfl, t5⟩
  have T5 : PTo w x w5 s.p3 := by unfold PS.p3; rw [hq1.out]; exact T4.trans t5
  clear t5 T4 G4
  go_wp2_with fail
  refine (begin_ok T5.sc A.ok3).mono ?_
  rintro e w6 ⟨rfl, t6⟩
  have T6 : PTo w x w6 s.p4 := T5.trans t6
  clear t6 T5
  go_wp2_with fail
  refine (lockpool_ok T6.sc A.ok4).mono ?_
  rintro e w7 ⟨rfl, t7⟩
  have T7 : PTo w x w7 s.p5 := T6.trans t7
  clear t7 T6
  go_wp2_with fail
  refine (lower_ok T7.sc A.ok5 q (by omega) (s.epoch + s.delay) d5.out).mono ?_
  rintro e w8 ⟨rfl, t8⟩
  have T8 : PTo w x w8 s.p6 := by unfold PS.p6; rw [hq2.out]; exact T7.trans t8
  clear t8 T7
  go_wp2_with fail
  refine (sell_ok T8.sc A.ok6 q (by omega) (s.epoch + s.delay) d6.out).mono ?_
  rintro e w9 ⟨rfl, t9⟩
  have T9 : PTo w x w9 s.p7 := by unfold PS.p7; rw [hq2.out]; exact T8.trans t9
  clear t9 T8
  go_wp2_with fail
  refine (draw_ok T9.sc A.se7 A.sum7 seed hs1 hs2).mono ?_
  rintro e wA ⟨rfl, tA⟩
  have TA := hid (show PTo w x wA (s.next seed) from T9.trans tA)
  clear tA T9
  go_wp2_with fail
  go_ret
  exact ⟨rfl, TA.out⟩
end
end Go.Proofs.Ytdfdjbhdgbbolaa
