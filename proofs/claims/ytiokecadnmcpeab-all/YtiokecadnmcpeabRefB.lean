import Derived.Test.YtiokecadnmcpeabRefA
import Derived.Deep.RegionHeld3
namespace Go.Proofs.Ytiokecadnmcpeab
set_option linter.unusedVariables false
set_option linter.unusedSimpArgs false
open Go.ChangeShapes Go.WideShapes Go.ChangeAt Go.RowKit
section
variable {w : World} {B y : Nat} {r : RS} {v : Nat → Value}

set_option maxHeartbeats 1600000 in
theorem rbid_name (h : RC w B y r v) (c : Cfg r) (a n : Int) (ha : ¬ (0 ≤ a ∧ a ≤ (r.N : Int) - 1)) :
    Calls Try.prog 83 #[.pointer (some ⟨y, 0, none⟩), .int .i64 a, .int .i64 n] w fun e w' => e = .returned (.int .i64 2) ∧ Below w.heap.size w w' := by
  have hN := h.cN
  have hN1 := c.N
  have Ha : Hid (¬ (0 ≤ a ∧ a ≤ (r.N : Int) - 1)) := ha
  clear ha
  go_enter Try.func83, Try.ntmps83
  go_wp2_with fail
  refine (rwithin_no _ _ _ _ Ha.out).mono ?_
  rintro e w1 ⟨rfl, rfl⟩
  go_wp2_with fail
  go_ret
  exact ⟨rfl, Below.refl _ _⟩

set_option maxHeartbeats 1600000 in
theorem rbid_amount (h : RC w B y r v) (c : Cfg r) (a n : Int) (ha1 : 0 ≤ a) (ha2 : a ≤ (r.N : Int) - 1) (hn : ¬ (0 ≤ n ∧ n ≤ 1000000000)) :
    Calls Try.prog 83 #[.pointer (some ⟨y, 0, none⟩), .int .i64 a, .int .i64 n] w fun e w' => e = .returned (.int .i64 3) ∧ Below w.heap.size w w' := by
  have hN := h.cN
  have hN1 := c.N
  have Ha : Hid (¬ (0 ≤ n ∧ n ≤ 1000000000)) := hn
  clear hn
  go_enter Try.func83, Try.ntmps83
  go_wp2_with fail
  refine (rwithin_yes _ _ _ _ ha1 ha2).mono ?_
  rintro e w1 ⟨rfl, rfl⟩
  go_wp2_with fail
  refine (rwithin_no _ _ _ _ Ha.out).mono ?_
  rintro e w1 ⟨rfl, rfl⟩
  go_wp2_with fail
  go_ret
  exact ⟨rfl, Below.refl _ _⟩

set_option maxHeartbeats 1600000 in
theorem rbid_funds (h : RC w B y r v) (c : Cfg r) (A : Amt r.book r.N) (a n : Int) (ha1 : 0 ≤ a) (ha2 : a ≤ (r.N : Int) - 1) (hn1 : 0 ≤ n) (hn2 : n ≤ 1000000000) (hf : allOf r.book 2 a + allOf r.book 1 a < n) :
    Calls Try.prog 83 #[.pointer (some ⟨y, 0, none⟩), .int .i64 a, .int .i64 n] w fun e w' => e = .returned (.int .i64 4) ∧ Below w.heap.size w w' := by
  have hN := h.cN
  have hN1 := c.N
  have b1 := A.all 1 a (by omega) (by omega) (by omega) (by omega)
  have b2 := A.all 2 a (by omega) (by omega) (by omega) (by omega)
  go_enter Try.func83, Try.ntmps83
  go_wp2_with fail
  refine (rwithin_yes _ _ _ _ ha1 ha2).mono ?_
  rintro e w1 ⟨rfl, rfl⟩
  go_wp2_with fail
  refine (rwithin_yes _ _ _ _ hn1 hn2).mono ?_
  rintro e w1 ⟨rfl, rfl⟩
  go_wp2_with fail
  refine (rall' h A _ _ (by omega) (by omega) (by omega) (by omega)).mono ?_
  rintro e w2 ⟨rfl, b2⟩
  have h2 := h.below b2
  go_wp2_with fail
  refine (rall' h2 A _ _ (by omega) (by omega) (by omega) (by omega)).mono ?_
  rintro e w3 ⟨rfl, b3⟩
  go_wp2_with fail
  go_ret
  exact ⟨rfl, b2.trans (b3.mono b2.size)⟩

/-- What a Bid makes of a chain. -/
def RS.bid (r : RS) (a : Nat) (n : Int) : RS :=
  { (if allOf r.book 2 a < n then r.push ⟨1, a, 0, 2, a, 0, n - allOf r.book 2 a⟩ else r) with bids := r.bids.set a n }

set_option maxHeartbeats 1600000 in
theorem rbid_ok (h : RC w B y r v) (c : Cfg r) (A : Amt r.book r.N) (a : Nat) (n : Int) (ha2 : a < r.N) (hn1 : 0 ≤ n) (hn2 : n ≤ 1000000000) (hf : ¬ allOf r.book 2 a + allOf r.book 1 a < n) (hl : r.book.length * 56 + 56 ≤ 140737488355328) :
    Calls Try.prog 83 #[.pointer (some ⟨y, 0, none⟩), .int .i64 a, .int .i64 n] w fun e w' => e = .returned (.int .i64 0) ∧ ∃ v', RTo w B y v w' (r.bid a n) v' := by
  have hN := h.cN
  have hN1 := c.N
  have hbl := c.bids
  have ha1 : (0 : Int) ≤ (a : Int) := by omega
  have ha2' : (a : Int) ≤ (r.N : Int) - 1 := by omega
  have b1 := A.all 1 a (by omega) (by omega) (by omega) (by omega)
  have b2 := A.all 2 a (by omega) (by omega) (by omega) (by omega)
  have i1 : (a : Int) < ((r.N + 1 : Nat) : Int) := by omega
  obtain ⟨r', hr'⟩ : ∃ r', r.bid a n = r' := ⟨_, rfl⟩
  rw [hr']
  unfold RS.bid at hr'
  by_cases hm : allOf r.book 2 a < n
  · rw [if_pos hm] at hr'
    have HR := hid hr'
    clear hr'
    go_enter Try.func83, Try.ntmps83
    go_wp2_with fail
    refine (rwithin_yes _ _ _ _ ha1 ha2').mono ?_
    rintro e w1 ⟨rfl, rfl⟩
    go_wp2_with fail
    refine (rwithin_yes _ _ _ _ hn1 hn2).mono ?_
    rintro e w1 ⟨rfl, rfl⟩
    go_wp2_with fail
    refine (rall' h A _ _ (by omega) (by omega) (by omega) (by omega)).mono ?_
    rintro e w2 ⟨rfl, b2⟩
    have h2 := h.below b2
    go_wp2_with fail
    refine (rall' h2 A _ _ (by omega) (by omega) (by omega) (by omega)).mono ?_
    rintro e w3 ⟨rfl, b3⟩
    have h3 := h2.below b3
    go_wp2_with fail
    refine (rmove' h3 ⟨1, a, 0, 2, a, 0, n - allOf r.book 2 a⟩ hl).mono ?_
    rintro e w4 ⟨rfl, v4, t4⟩
    have h4 := t4.rc
    have hB : w4.cell? ⟨y, 9, none⟩ = some (v4 1) := h4.cells 9 (by omega)
    obtain ⟨g, cap, hv, hcm⟩ := own_intAt h4.bids (k := a) (show a < r.bids.length by omega)
    have ho := h4.bids
    rw [hv] at ho
    have hfz := ho.frozenAt a
    have hv' := hv
    rw [hv, show (r.push ⟨1, a, 0, 2, a, 0, n - allOf r.book 2 a⟩).bids.length = r.N + 1 from hbl] at hB
    have T := hid (((RTo.ofBelow h (b2.trans (b3.mono b2.size))).trans t4).trans (h4.set_bids hv a n))
    clear ho hv hv' t4
    go_wp2_with fail
    go_ret
    exact ⟨rfl, v4, by rw [← HR.out]; exact T.out⟩
  · rw [if_neg hm] at hr'
    have HR := hid hr'
    clear hr'
    go_enter Try.func83, Try.ntmps83
    go_wp2_with fail
    refine (rwithin_yes _ _ _ _ ha1 ha2').mono ?_
    rintro e w1 ⟨rfl, rfl⟩
    go_wp2_with fail
    refine (rwithin_yes _ _ _ _ hn1 hn2).mono ?_
    rintro e w1 ⟨rfl, rfl⟩
    go_wp2_with fail
    refine (rall' h A _ _ (by omega) (by omega) (by omega) (by omega)).mono ?_
    rintro e w2 ⟨rfl, b2⟩
    have h2 := h.below b2
    go_wp2_with fail
    refine (rall' h2 A _ _ (by omega) (by omega) (by omega) (by omega)).mono ?_
    rintro e w3 ⟨rfl, b3⟩
    have h4 := h2.below b3
    have hB : w3.cell? ⟨y, 9, none⟩ = some (v 1) := h4.cells 9 (by omega)
    obtain ⟨g, cap, hv, hcm⟩ := own_intAt h4.bids (k := a) (show a < r.bids.length by omega)
    have ho := h4.bids
    rw [hv] at ho
    have hfz := ho.frozenAt a
    have T := hid ((RTo.ofBelow h (b2.trans (b3.mono b2.size))).trans (h4.set_bids hv a n))
    rw [hv, hbl] at hB
    clear ho hv
    go_wp2_with fail
    go_ret
    exact ⟨rfl, v, by rw [← HR.out]; exact T.out⟩
end
end Go.Proofs.Ytiokecadnmcpeab
namespace Go.Proofs.Ytiokecadnmcpeab
set_option linter.unusedVariables false
set_option linter.unusedSimpArgs false
open Go.ChangeShapes Go.WideShapes Go.ChangeAt Go.RowKit
theorem wrapEq (x : Int) : IntKind.i64.wrap x = wrap64 x := by rw [IntKind.wrap_i64]; unfold wrap64; omega

section
variable {w : World} {B y : Nat} {r : RS} {v : Nat → Value}

theorem rmove2 (h : RC w B y r v) (m : Mv) (hl : r.book.length * 56 + 56 ≤ 140737488355328) :
    Calls Try.prog 91 #[.pointer (some ⟨y, 0, none⟩), .agg #[.int .i64 m.fk, .int .i64 m.fa, .int .i64 m.fe], .agg #[.int .i64 m.tk, .int .i64 m.ta, .int .i64 m.te], .int .i64 m.n] w fun e w' =>
      e = .returned (.tuple #[]) ∧ ∃ vb, RTo w B y v w' (r.push m) (upd v 0 vb) :=
  (rmove h m hl h.size).mono (fun e w' ⟨he, vb, h1, h2, h3⟩ => ⟨he, vb, h1, h2, h3⟩)

set_option maxHeartbeats 1600000 in
theorem rout2 (h : RC w B y r v) (he : 0 ≤ r.epoch ∧ r.epoch ≤ 4611686018427387904) (hd : 2 ≤ r.delay ∧ r.delay ≤ 5) (a n : Int) (hl : r.book.length * 56 + 56 ≤ 140737488355328) :
    Calls Try.prog 99 #[.pointer (some ⟨y, 0, none⟩), .int .i64 a, .int .i64 n] w fun e w' => e = .returned (.tuple #[]) ∧ ∃ vb, RTo w B y v w' (r.push ⟨2, a, 0, 3, a, r.epoch + r.delay, n⟩) (upd v 0 vb) := by
  have hE : w.cell? ⟨y, 11, none⟩ = some (.int .i64 r.epoch) := h.cells 11 (by omega)
  have hD : w.cell? ⟨y, 1, none⟩ = some (.int .i64 r.delay) := h.cells 1 (by omega)
  have hw := hid (show IntKind.i64.wrap (r.epoch + r.delay) = r.epoch + r.delay by rw [wrapEq]; unfold wrap64; omega)
  go_enter Try.func99, Try.ntmps99
  go_wp2_with fail
  go_region_held3 (fun w' => w'.cell? ⟨y, 11, none⟩ = some (.int .i64 r.epoch) ∧ w'.cell? ⟨y, 1, none⟩ = some (.int .i64 r.delay)) (go_keep) ((go_at_call 91; refine (rmove2 (h.below (Below.refl _ _).drew) ⟨2, a, 0, 3, a, IntKind.i64.wrap (r.epoch + r.delay), n⟩ hl).mono ?_; rintro e w1 ⟨rfl, v1, t1⟩; (have e1 : w1.cell? ⟨y, 11, none⟩ = some (.int .i64 r.epoch) := t1.rc.cells 11 (by omega)); (have e2 : w1.cell? ⟨y, 1, none⟩ = some (.int .i64 r.delay) := t1.rc.cells 1 (by omega))))
  all_goals
    go_wp2_with fail
    go_end0
    rw [hw.out] at t1
    exact ⟨rfl, v1, (RTo.ofBelow h (Below.refl _ _).drew).trans t1⟩

theorem rout (h : RC w B y r v) (he : 0 ≤ r.epoch ∧ r.epoch ≤ 4611686018427387904) (hd : 2 ≤ r.delay ∧ r.delay ≤ 5) (a n : Int) (hl : r.book.length * 56 + 56 ≤ 140737488355328) :
    Calls Try.prog 99 #[.pointer (some ⟨y, 0, none⟩), .int .i64 a, .int .i64 n] w fun e w' => e = .returned (.tuple #[]) ∧ ∃ v', RTo w B y v w' (r.push ⟨2, a, 0, 3, a, r.epoch + r.delay, n⟩) v' :=
  (rout2 h he hd a n hl).mono (fun e w' ⟨he, vb, t⟩ => ⟨he, _, t⟩)
end
end Go.Proofs.Ytiokecadnmcpeab
namespace Go.Proofs.Ytiokecadnmcpeab
set_option linter.unusedVariables false
set_option linter.unusedSimpArgs false
open Go.ChangeShapes Go.WideShapes Go.ChangeAt Go.RowKit

/-- What is due comes back, of the accounts below k. -/
def RS.homeTo (r : RS) : Nat → RS
  | 0 => r
  | k + 1 => (r.homeTo k).push ⟨3, k, r.epoch + 1, 1, k, 0, atOf (r.homeTo k).book 3 k (r.epoch + 1)⟩
def RS.home (r : RS) : RS := (r.homeTo (r.N + 1)).push ⟨1, r.N, 0, 2, r.N, 0, allOf (r.homeTo (r.N + 1)).book 1 r.N⟩

/-- Two chains of the document's differ by their books alone. -/
structure Alike (r r' : RS) : Prop where
  seats : r'.seats = r.seats
  delay : r'.delay = r.delay
  rate : r'.rate = r.rate
  cut : r'.cut = r.cut
  length : r'.length = r.length
  need : r'.need = r.need
  N : r'.N = r.N
  epoch : r'.epoch = r.epoch
  bids : r'.bids.length = r.bids.length
  has : r'.has = r.has
  row : r'.row = r.row
  made : r'.made = r.made
  cheat : r'.cheat = r.cheat

theorem Alike.refl (r : RS) : Alike r r := ⟨rfl, rfl, rfl, rfl, rfl, rfl, rfl, rfl, rfl, rfl, rfl, rfl, rfl⟩
theorem Alike.push {r r' : RS} (h : Alike r r') (m : Mv) : Alike r (r'.push m) := ⟨h.seats, h.delay, h.rate, h.cut, h.length, h.need, h.N, h.epoch, h.bids, h.has, h.row, h.made, h.cheat⟩
theorem Alike.bid {r r' : RS} (h : Alike r r') (k : Nat) (n : Int) : Alike r { r' with bids := r'.bids.set k n } := ⟨h.seats, h.delay, h.rate, h.cut, h.length, h.need, h.N, h.epoch, by simp [h.bids], h.has, h.row, h.made, h.cheat⟩
theorem Alike.cfg {r r' : RS} (h : Alike r r') (c : Cfg r) : Cfg r' where
  seats := by rw [h.seats]; exact c.seats
  delay := by rw [h.delay]; exact c.delay
  rate := by rw [h.rate]; exact c.rate
  cut := by rw [h.cut]; exact c.cut
  length := by rw [h.length]; exact c.length
  need := by rw [h.need]; exact c.need
  N := by rw [h.N]; exact c.N
  bids := by rw [h.bids, h.N]; exact c.bids
  has := by rw [h.has, h.N]; exact c.has
  cheat := by rw [h.cheat, h.N]; exact c.cheat
  made := by rw [h.made, h.length]; exact c.made
  row := by rw [h.row]; exact c.row
  has0 := by rw [h.has]; exact c.has0
  epoch := by rw [h.epoch]; exact c.epoch
theorem Alike.trans {r r1 r2 : RS} (h : Alike r r1) (k : Alike r1 r2) : Alike r r2 :=
  ⟨k.seats.trans h.seats, k.delay.trans h.delay, k.rate.trans h.rate, k.cut.trans h.cut, k.length.trans h.length, k.need.trans h.need, k.N.trans h.N, k.epoch.trans h.epoch, k.bids.trans h.bids, k.has.trans h.has, k.row.trans h.row, k.made.trans h.made, k.cheat.trans h.cheat⟩

theorem RS.homeTo_alike (r : RS) (k : Nat) : Alike r (r.homeTo k) := by
  induction k with
  | zero => exact Alike.refl r
  | succ k ih => exact ih.push _
theorem RS.homeTo_len (r : RS) (k : Nat) : (r.homeTo k).book.length = r.book.length + k := by
  induction k with
  | zero => rfl
  | succ k ih => simp [RS.homeTo, RS.push, ih]; omega

section
variable {w : World} {B y : Nat} {r : RS} {v : Nat → Value}

set_option maxHeartbeats 3200000 in
theorem rhome (h : RC w B y r v) (c : Cfg r) (A : ∀ k, k ≤ r.N + 1 → Amt (r.homeTo k).book r.N) (hl : r.book.length * 56 + 8 * 56 ≤ 140737488355328) :
    Calls Try.prog 100 #[.pointer (some ⟨y, 0, none⟩)] w fun e w' => e = .returned (.tuple #[]) ∧ ∃ v', RTo w B y v w' r.home v' := by
  have hN1 := c.N
  have he := c.epoch
  obtain ⟨r', hr'⟩ : ∃ r', r.home = r' := ⟨_, rfl⟩
  rw [hr']
  unfold RS.home at hr'
  have HR := hid hr'
  clear hr'
  go_enter Try.func100, Try.ntmps100
  go_wp2_with fail
  go_loopw [2] (fun i wr => ∃ k : Nat, k ≤ r.N + 1 ∧ i = .int .i64 k ∧ ∃ vr, RTo w B y v wr (r.homeTo k) vr) (fun i _ => r.N + 1 - (intOf i).toNat)
  case atStart => exact ⟨0, Nat.zero_le _, rfl, v, RTo.refl h⟩
  case round =>
    obtain ⟨k, hk, rfl, vr, T⟩ := hrel
    have hr := T.rc
    have al := r.homeTo_alike k
    have len := r.homeTo_len k
    have hNr : wr.cell? ⟨y, 7, none⟩ = some (.int .i64 (r.N : Int)) := by rw [← al.N]; exact hr.cN
    by_cases hlt : k < r.N + 1
    · have hEr : wr.cell? ⟨y, 11, none⟩ = some (.int .i64 r.epoch) := by rw [← al.epoch]; exact hr.cells 11 (by omega)
      have Ak := A k hk
      rw [← al.N] at Ak
      have TT := hid T
      clear T
      go_wp2_with fail
      generalize hW : wr.alloc (Obj.cells #[Value.int IntKind.i64 3, Value.int IntKind.i64 k, Value.int IntKind.i64 (r.epoch + 1)] 131) = W
      have hbW : Below wr.heap.size wr W := by rw [← hW]; exact (Below.refl _ _).alloc (Nat.le_refl _) _
      have hW0 := hr.below hbW
      have q0 : W.cell? ⟨wr.heap.size, 0, none⟩ = some (.int .i64 3) := by rw [← hW, World.cell?_alloc_at _ _ _ _ rfl]; rfl
      have q1 : W.cell? ⟨wr.heap.size, 1, none⟩ = some (.int .i64 k) := by rw [← hW, World.cell?_alloc_at _ _ _ _ rfl]; rfl
      have q2 : W.cell? ⟨wr.heap.size, 2, none⟩ = some (.int .i64 (r.epoch + 1)) := by rw [← hW, World.cell?_alloc_at _ _ _ _ rfl]; rfl
      have hft : ∀ b, RFoot y vr b → b < wr.heap.size := fun b hb => (hr.lt hb).2
      clear hW
      go_region_held3 (fun w' => w'.cell? ⟨wr.heap.size, 0, none⟩ = some (.int .i64 3) ∧ w'.cell? ⟨wr.heap.size, 1, none⟩ = some (.int .i64 (k : Int)) ∧ w'.cell? ⟨wr.heap.size, 2, none⟩ = some (.int .i64 (r.epoch + 1))) (go_keep)
        ((first
          | (go_at_call 96; refine (rat' (hW0.below (Below.refl _ _).drew) Ak k (r.epoch + 1) (by have := al.N; omega)).mono ?_; rintro e w1 ⟨rfl, b1⟩; (have c0 : w1.cell? ⟨wr.heap.size, 0, none⟩ = some (.int .i64 3) := (b1.cell (block_lt_of_cell q0)).trans q0); (have c1 : w1.cell? ⟨wr.heap.size, 1, none⟩ = some (.int .i64 (k : Int)) := (b1.cell (block_lt_of_cell q1)).trans q1); (have c2 : w1.cell? ⟨wr.heap.size, 2, none⟩ = some (.int .i64 (r.epoch + 1)) := (b1.cell (block_lt_of_cell q2)).trans q2))
          | (go_at_call 91; refine (rmove' ((hW0.below (Below.refl _ _).drew).below b1) ⟨3, k, r.epoch + 1, 1, k, 0, atOf (r.homeTo k).book 3 k (r.epoch + 1)⟩ (by omega)).mono ?_; rintro e w2 ⟨rfl, v2, t2⟩; (have d0 : w2.cell? ⟨wr.heap.size, 0, none⟩ = some (.int .i64 3) := t2.keeps.cell c0 (fun hf => by have h9 := hft _ hf; exact absurd h9 (Nat.lt_irrefl _))); (have d1 : w2.cell? ⟨wr.heap.size, 1, none⟩ = some (.int .i64 (k : Int)) := t2.keeps.cell c1 (fun hf => by have h9 := hft _ hf; exact absurd h9 (Nat.lt_irrefl _))); (have d2 : w2.cell? ⟨wr.heap.size, 2, none⟩ = some (.int .i64 (r.epoch + 1)) := t2.keeps.cell c2 (fun hf => by have h9 := hft _ hf; exact absurd h9 (Nat.lt_irrefl _))))))
      all_goals
        go_wp2_with fail
        go_roundw
        case rel => exact ⟨k + 1, by omega, by go_num, v2, ((TT.out.below hbW).drew.below b1).trans t2⟩
        case measure => simp [intOf]; omega
    · have hkn : k = r.N + 1 := by omega
      have hNe := al.N
      have Ak := A k hk
      rw [← al.N] at Ak
      have HR2 := hid (show (r.homeTo k).push ⟨1, r.N, 0, 2, r.N, 0, allOf (r.homeTo k).book 1 r.N⟩ = r' by rw [hkn]; exact HR.out)
      clear HR hkn
      have TT := hid T
      clear T
      go_wp2_with fail
      go_region_held3 (fun w' => w'.cell? ⟨y, 7, none⟩ = some (.int .i64 (r.N : Int))) (go_keep)
        ((first
          | (go_at_call 93; refine (rall' (hr.below (Below.refl _ _).drew) Ak 1 r.N (by omega) (by omega) (by omega) (by omega)).mono ?_; rintro e w1 ⟨rfl, b1⟩; (have c0 : w1.cell? ⟨y, 7, none⟩ = some (.int .i64 (r.N : Int)) := (b1.cell (block_lt_of_cell hNr)).trans hNr))
          | (go_at_call 91; refine (rmove' ((hr.below (Below.refl _ _).drew).below b1) ⟨1, r.N, 0, 2, r.N, 0, allOf (r.homeTo k).book 1 r.N⟩ (by omega)).mono ?_; rintro e w2 ⟨rfl, v2, t2⟩; (have d0 : w2.cell? ⟨y, 7, none⟩ = some (.int .i64 (r.N : Int)) := by rw [← hNe]; exact t2.rc.cN))))
      all_goals
        go_wp2_with fail
        go_end0
        exact ⟨rfl, v2, by rw [← HR2.out]; exact (TT.out.drew.below b1).trans t2⟩
end
end Go.Proofs.Ytiokecadnmcpeab
