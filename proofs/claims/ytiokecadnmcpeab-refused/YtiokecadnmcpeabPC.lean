import Derived.Test.YtiokecadnmcpeabPrice
import Derived.Test.YtiokecadnmcpeabKeeps
import Derived.WalkLawsBesides
import Derived.Deep.RegionHeld
namespace Go.Proofs.Ytiokecadnmcpeab
set_option linter.unusedVariables false
set_option linter.unusedSimpArgs false
open Go.ChangeShapes Go.WideShapes Go.ChangeAt Go.RowKit

/-- An account of the program's, as data. -/
structure Acc where
  liquid : Int
  locked : Int
  bid : Int
  seats : Int
  shares : Int
  q : Nat → Int
  cheated : Bool
def Acc.cell (c : Acc) : Nat → Value
  | 0 => .int .i64 c.liquid
  | 1 => .int .i64 c.locked
  | 2 => .int .i64 c.bid
  | 3 => .int .i64 c.seats
  | 4 => .int .i64 c.shares
  | 5 => .int .i64 (c.q 0)
  | 6 => .int .i64 (c.q 1)
  | 7 => .int .i64 (c.q 2)
  | 8 => .int .i64 (c.q 3)
  | 9 => .int .i64 (c.q 4)
  | _ => .bool c.cheated
def Acc.queued (c : Acc) : Int := c.q 0 + c.q 1 + c.q 2 + c.q 3 + c.q 4
def Acc.tot (c : Acc) : Int := c.liquid + c.locked + c.queued
structure Acc.Ok (c : Acc) : Prop where
  l0 : 0 ≤ c.liquid
  l1 : c.liquid ≤ 1000000000
  k0 : 0 ≤ c.locked
  k1 : c.locked ≤ 1000000000
  b0 : 0 ≤ c.bid
  b1 : c.bid ≤ 1000000000
  s0 : 0 ≤ c.seats
  s1 : c.seats ≤ 10
  h0 : 0 ≤ c.shares
  h1 : c.shares ≤ 1000000000
  q0 : ∀ k, k < 5 → 0 ≤ c.q k
  q1 : ∀ k, k < 5 → c.q k ≤ 1000000000
theorem Acc.Ok.queued {c : Acc} (h : c.Ok) : 0 ≤ c.queued ∧ c.queued ≤ 5000000000 := by
  have a0 := h.q0 0 (by omega)
  have a1 := h.q0 1 (by omega)
  have a2 := h.q0 2 (by omega)
  have a3 := h.q0 3 (by omega)
  have a4 := h.q0 4 (by omega)
  have b0 := h.q1 0 (by omega)
  have b1 := h.q1 1 (by omega)
  have b2 := h.q1 2 (by omega)
  have b3 := h.q1 3 (by omega)
  have b4 := h.q1 4 (by omega)
  unfold Acc.queued; omega
theorem Acc.Ok.tot {c : Acc} (h : c.Ok) : 0 ≤ c.tot ∧ c.tot ≤ 7000000000 := by
  have := h.queued
  have := h.l0
  have := h.l1
  have := h.k0
  have := h.k1
  unfold Acc.tot; omega

/-- A chain of the program's, as data. -/
structure PS where
  N : Nat
  seats : Int
  delay : Int
  rate : Int
  cut : Int
  length : Int
  need : Int
  epoch : Int
  treasury : Int
  price : Int
  acc : Nat → Acc
  row : Nat → Int
  rlen : Nat
  blocks : Nat → Bool
def PS.num (s : PS) : Nat → Value
  | 0 => .int .i64 s.N
  | 1 => .int .i64 s.seats
  | 2 => .int .i64 s.delay
  | 3 => .int .i64 s.rate
  | 4 => .int .i64 s.cut
  | 5 => .int .i64 s.length
  | 6 => .int .i64 s.need
  | 7 => .int .i64 s.epoch
  | 8 => .int .i64 s.treasury
  | _ => .int .i64 s.price
/-- Its cells: 10 numbers, 7 accounts of 11 cells, the row of 10 and its length, 20 blocks. -/
def PS.cell (s : PS) (i : Nat) : Value :=
  if i < 10 then s.num i
  else if i < 87 then (s.acc ((i - 10) / 11)).cell ((i - 10) % 11)
  else if i < 97 then .int .i64 (s.row (i - 87))
  else if i < 98 then .int .i64 s.rlen
  else .bool (s.blocks (i - 98))
theorem PS.cell_num (s : PS) {i : Nat} (h : i < 10) : s.cell i = s.num i := by unfold PS.cell; rw [if_pos h]
theorem PS.cell_acc (s : PS) {a j : Nat} (ha : a < 7) (hj : j < 11) : s.cell (10 + a * 11 + j) = (s.acc a).cell j := by
  unfold PS.cell
  rw [if_neg (by omega), if_pos (by omega), show (10 + a * 11 + j - 10) / 11 = a by omega, show (10 + a * 11 + j - 10) % 11 = j by omega]
theorem PS.cell_row (s : PS) {k : Nat} (h : k < 10) : s.cell (87 + k) = .int .i64 (s.row k) := by
  unfold PS.cell
  rw [if_neg (by omega), if_neg (by omega), if_pos (by omega), show 87 + k - 87 = k by omega]
theorem PS.cell_rlen (s : PS) : s.cell 97 = .int .i64 s.rlen := by
  unfold PS.cell
  rw [if_neg (by omega), if_neg (by omega), if_neg (by omega), if_pos (by omega)]
theorem PS.cell_blk (s : PS) {k : Nat} (h : k < 20) : s.cell (98 + k) = .bool (s.blocks k) := by
  unfold PS.cell
  rw [if_neg (by omega), if_neg (by omega), if_neg (by omega), if_neg (by omega), show 98 + k - 98 = k by omega]
/-- A cell is one of these. -/
theorem PS.cell_kind {i : Nat} (h : i < 118) : i < 10 ∨ (∃ a j, a < 7 ∧ j < 11 ∧ i = 10 + a * 11 + j) ∨ (∃ k, k < 10 ∧ i = 87 + k) ∨ i = 97 ∨ (∃ k, k < 20 ∧ i = 98 + k) := by
  by_cases h1 : i < 10
  · exact .inl h1
  · by_cases h2 : i < 87
    · exact .inr (.inl ⟨(i - 10) / 11, (i - 10) % 11, by omega, by omega, by omega⟩)
    · by_cases h3 : i < 97
      · exact .inr (.inr (.inl ⟨i - 87, by omega, by omega⟩))
      · by_cases h4 : i = 97
        · exact .inr (.inr (.inr (.inl h4)))
        · exact .inr (.inr (.inr (.inr ⟨i - 98, by omega, by omega⟩)))

/-- A chain of the program's, as it lies in memory. -/
structure SC (w : World) (x : Nat) (s : PS) : Prop where
  cells : ∀ i, i < 118 → w.cell? ⟨x, i, none⟩ = some (s.cell i)
  frozen : ∀ i, w.frozen? ⟨x, i, none⟩ = false

section
variable {w w' : World} {x : Nat} {s : PS}

theorem SC.lt (h : SC w x s) : x < w.heap.size := block_lt_of_cell (h.cells 0 (by omega))
theorem SC.keeps (h : SC w x s) {F : Nat → Prop} (k : Keeps F w w') (hF : ¬ F x) : SC w' x s :=
  ⟨fun i hi => (World.cell?_of_block (k.block x h.lt hF)).trans (h.cells i hi), fun i => (World.frozen?_of_block (k.block x h.lt hF)).trans (h.frozen i)⟩
theorem SC.below (h : SC w x s) (k : Below w.heap.size w w') : SC w' x s := h.keeps (F := fun _ => False) (Keeps.ofBelow k) (fun hf => hf)
theorem SC.dn (h : SC w x s) (n : Nat) : SC (w.drewN n) x s := h.keeps (F := fun _ => False) ((Keeps.refl _ _).dn n) (fun hf => hf)
theorem SC.heap (h : SC w x s) (e : w'.heap = w.heap) : SC w' x s :=
  ⟨fun i hi => (World.cell?_of_block (by rw [e])).trans (h.cells i hi), fun i => (World.frozen?_of_block (by rw [e])).trans (h.frozen i)⟩
theorem SC.at (h : SC w x s) {a j : Nat} (ha : a < 7) (hj : j < 11) : w.cell? ⟨x, 10 + a * 11 + j, none⟩ = some ((s.acc a).cell j) := by
  rw [h.cells _ (by omega), s.cell_acc ha hj]
theorem SC.num (h : SC w x s) {j : Nat} (hj : j < 10) : w.cell? ⟨x, j, none⟩ = some (s.num j) := by
  rw [h.cells _ (by omega), s.cell_num hj]
theorem SC.que (h : SC w x s) {a k : Nat} (ha : a < 7) (hk : k < 5) : w.cell? ⟨x, 10 + a * 11 + 5 + k, none⟩ = some (.int .i64 ((s.acc a).q k)) := by
  have := h.at ha (j := 5 + k) (by omega)
  rw [show 10 + a * 11 + (5 + k) = 10 + a * 11 + 5 + k by omega] at this
  rw [this]
  rcases (show k = 0 ∨ k = 1 ∨ k = 2 ∨ k = 3 ∨ k = 4 by omega) with rfl | rfl | rfl | rfl | rfl <;> rfl
theorem SC.rowAt (h : SC w x s) {k : Nat} (hk : k < 10) : w.cell? ⟨x, 87 + k, none⟩ = some (.int .i64 (s.row k)) := by
  rw [h.cells _ (by omega), s.cell_row hk]
theorem SC.rlenAt (h : SC w x s) : w.cell? ⟨x, 97, none⟩ = some (.int .i64 (s.rlen : Int)) := by
  rw [h.cells _ (by omega), s.cell_rlen]
theorem SC.blk (h : SC w x s) {k : Nat} (hk : k < 20) : w.cell? ⟨x, 98 + k, none⟩ = some (.bool (s.blocks k)) := by
  rw [h.cells _ (by omega), s.cell_blk hk]

/-- From w on, a chain has become s'. -/
structure PTo (w : World) (x : Nat) (w' : World) (s' : PS) : Prop where
  sc : SC w' x s'
  keeps : Keeps (fun k => k = x) w w'
theorem PTo.trans {w w1 w2 : World} {x : Nat} {s1 s2 : PS} (a : PTo w x w1 s1) (b : PTo w1 x w2 s2) : PTo w x w2 s2 := ⟨b.sc, a.keeps.trans b.keeps (fun _ _ h => h)⟩
theorem PTo.refl (h : SC w x s) : PTo w x w s := ⟨h, Keeps.refl _ _⟩
theorem PTo.below {w w1 w2 : World} {x : Nat} {s1 : PS} (a : PTo w x w1 s1) (b : Below w1.heap.size w1 w2) : PTo w x w2 s1 := a.trans ⟨a.sc.below b, Keeps.ofBelow b⟩
theorem PTo.ofBelow (h : SC w x s) (b : Below w.heap.size w w') : PTo w x w' s := (PTo.refl h).below b
theorem PTo.dn {w w1 : World} {x : Nat} {s1 : PS} (a : PTo w x w1 s1) (n : Nat) : PTo w x (w1.drewN n) s1 := ⟨a.sc.dn n, a.keeps.dn n⟩
theorem PTo.drew {w w1 : World} {x : Nat} {s1 : PS} (a : PTo w x w1 s1) : PTo w x w1.drew s1 := a.below (Below.refl _ _).drew

theorem SC.set (h : SC w x s) {j : Nat} (hj : j < 118) (v : Value) {s' : PS} (hs : ∀ i, i < 118 → s'.cell i = if i = j then v else s.cell i) : PTo w x (w.setCell ⟨x, j, none⟩ v) s' := by
  refine ⟨⟨fun i hi => ?_, fun i => (World.frozen?_setCell _ _ _ _).trans (h.frozen i)⟩, (Keeps.refl _ w).setCell _ _ (fun _ => rfl)⟩
  rw [hs i hi]
  by_cases e : i = j
  · rw [if_pos e, e]; exact World.cell?_setCell_same _ _ _ (h.cells j hj)
  · rw [if_neg e, ← h.cells i hi]
    exact World.cell?_setCell_other _ _ _ _ (by intro e2; simp only [Addr.mk.injEq] at e2; omega)

/-- Account a is c now. -/
def PS.setAcc (s : PS) (a : Nat) (c : Acc) : PS := { s with acc := fun b => if b = a then c else s.acc b }
theorem PS.setAcc_same (s : PS) (a : Nat) (c : Acc) : (s.setAcc a c).acc a = c := by simp [PS.setAcc]
theorem PS.setAcc_other (s : PS) {a b : Nat} (c : Acc) (h : b ≠ a) : (s.setAcc a c).acc b = s.acc b := by simp [PS.setAcc, h]
theorem PS.setAcc_setAcc (s : PS) (a : Nat) (c c' : Acc) : (s.setAcc a c).setAcc a c' = s.setAcc a c' := by
  simp only [PS.setAcc, PS.mk.injEq, true_and, and_true]
  funext b
  by_cases e : b = a <;> simp [e]
theorem PS.setAcc_self (s : PS) (a : Nat) : s.setAcc a (s.acc a) = s := by
  cases s
  simp only [PS.setAcc, PS.mk.injEq, true_and, and_true]
  funext b
  by_cases e : b = a <;> simp [e]

theorem SC.setAcc (h : SC w x s) {a j : Nat} (ha : a < 7) (hj : j < 11) (v : Value) (c : Acc) (hc : ∀ k, k < 11 → c.cell k = if k = j then v else (s.acc a).cell k) :
    PTo w x (w.setCell ⟨x, 10 + a * 11 + j, none⟩ v) (s.setAcc a c) := by
  refine h.set (by omega) v (fun i hi => ?_)
  rcases PS.cell_kind hi with h1 | ⟨b, k, hb, hk, rfl⟩ | ⟨k, hk, rfl⟩ | rfl | ⟨k, hk, rfl⟩
  · rw [if_neg (by omega), PS.cell_num _ h1, PS.cell_num _ h1]; rfl
  · rw [PS.cell_acc _ hb hk, PS.cell_acc _ hb hk]
    by_cases e : b = a
    · subst e
      rw [PS.setAcc_same, hc k hk]
      by_cases e2 : k = j
      · rw [if_pos e2, if_pos (by omega)]
      · rw [if_neg e2, if_neg (by omega)]
    · rw [PS.setAcc_other _ _ e, if_neg (by omega)]
  · rw [if_neg (by omega), PS.cell_row _ hk, PS.cell_row _ hk]; rfl
  · rw [if_neg (by omega), PS.cell_rlen, PS.cell_rlen]; rfl
  · rw [if_neg (by omega), PS.cell_blk _ hk, PS.cell_blk _ hk]; rfl

theorem eleven {k : Nat} (h : k < 11) : k = 0 ∨ k = 1 ∨ k = 2 ∨ k = 3 ∨ k = 4 ∨ k = 5 ∨ k = 6 ∨ k = 7 ∨ k = 8 ∨ k = 9 ∨ k = 10 := by omega
theorem SC.setLiq (h : SC w x s) {a : Nat} (ha : a < 7) (n : Int) : PTo w x (w.setCell ⟨x, 10 + a * 11, none⟩ (.int .i64 n)) (s.setAcc a { s.acc a with liquid := n }) :=
  h.setAcc ha (j := 0) (by omega) _ _ (fun k hk => by rcases eleven hk with rfl | rfl | rfl | rfl | rfl | rfl | rfl | rfl | rfl | rfl | rfl <;> rfl)
theorem SC.setLock (h : SC w x s) {a : Nat} (ha : a < 7) (n : Int) : PTo w x (w.setCell ⟨x, 10 + a * 11 + 1, none⟩ (.int .i64 n)) (s.setAcc a { s.acc a with locked := n }) :=
  h.setAcc ha (j := 1) (by omega) _ _ (fun k hk => by rcases eleven hk with rfl | rfl | rfl | rfl | rfl | rfl | rfl | rfl | rfl | rfl | rfl <;> rfl)
theorem SC.setBid (h : SC w x s) {a : Nat} (ha : a < 7) (n : Int) : PTo w x (w.setCell ⟨x, 10 + a * 11 + 2, none⟩ (.int .i64 n)) (s.setAcc a { s.acc a with bid := n }) :=
  h.setAcc ha (j := 2) (by omega) _ _ (fun k hk => by rcases eleven hk with rfl | rfl | rfl | rfl | rfl | rfl | rfl | rfl | rfl | rfl | rfl <;> rfl)
theorem SC.setSeats (h : SC w x s) {a : Nat} (ha : a < 7) (n : Int) : PTo w x (w.setCell ⟨x, 10 + a * 11 + 3, none⟩ (.int .i64 n)) (s.setAcc a { s.acc a with seats := n }) :=
  h.setAcc ha (j := 3) (by omega) _ _ (fun k hk => by rcases eleven hk with rfl | rfl | rfl | rfl | rfl | rfl | rfl | rfl | rfl | rfl | rfl <;> rfl)
theorem SC.setShares (h : SC w x s) {a : Nat} (ha : a < 7) (n : Int) : PTo w x (w.setCell ⟨x, 10 + a * 11 + 4, none⟩ (.int .i64 n)) (s.setAcc a { s.acc a with shares := n }) :=
  h.setAcc ha (j := 4) (by omega) _ _ (fun k hk => by rcases eleven hk with rfl | rfl | rfl | rfl | rfl | rfl | rfl | rfl | rfl | rfl | rfl <;> rfl)
theorem SC.setCheat (h : SC w x s) {a : Nat} (ha : a < 7) (b : Bool) : PTo w x (w.setCell ⟨x, 10 + a * 11 + 10, none⟩ (.bool b)) (s.setAcc a { s.acc a with cheated := b }) :=
  h.setAcc ha (j := 10) (by omega) _ _ (fun k hk => by rcases eleven hk with rfl | rfl | rfl | rfl | rfl | rfl | rfl | rfl | rfl | rfl | rfl <;> rfl)
def updQ (q : Nat → Int) (k : Nat) (n : Int) : Nat → Int := fun j => if j = k then n else q j
theorem SC.setQue (h : SC w x s) {a k : Nat} (ha : a < 7) (hk : k < 5) (n : Int) : PTo w x (w.setCell ⟨x, 10 + a * 11 + 5 + k, none⟩ (.int .i64 n)) (s.setAcc a { s.acc a with q := updQ (s.acc a).q k n }) := by
  have := h.setAcc ha (j := 5 + k) (by omega) (.int .i64 n) { s.acc a with q := updQ (s.acc a).q k n } (fun i hi => by
    rcases (show k = 0 ∨ k = 1 ∨ k = 2 ∨ k = 3 ∨ k = 4 by omega) with rfl | rfl | rfl | rfl | rfl <;> rcases eleven hi with rfl | rfl | rfl | rfl | rfl | rfl | rfl | rfl | rfl | rfl | rfl <;> rfl)
  rw [show 10 + a * 11 + (5 + k) = 10 + a * 11 + 5 + k by omega] at this
  exact this
theorem SC.setNum (h : SC w x s) {j : Nat} (hj : j < 10) (v : Value) {s' : PS} (hn : ∀ k, k < 10 → s'.num k = if k = j then v else s.num k) (ha : s'.acc = s.acc) (hr : s'.row = s.row) (hl : s'.rlen = s.rlen) (hb : s'.blocks = s.blocks) :
    PTo w x (w.setCell ⟨x, j, none⟩ v) s' := by
  refine h.set (by omega) v (fun i hi => ?_)
  rcases PS.cell_kind hi with h1 | ⟨b, k, hb2, hk, rfl⟩ | ⟨k, hk, rfl⟩ | rfl | ⟨k, hk, rfl⟩
  · rw [PS.cell_num _ h1, PS.cell_num _ h1, hn i h1]
  · rw [if_neg (by omega), PS.cell_acc _ hb2 hk, PS.cell_acc _ hb2 hk, ha]
  · rw [if_neg (by omega), PS.cell_row _ hk, PS.cell_row _ hk, hr]
  · rw [if_neg (by omega), PS.cell_rlen, PS.cell_rlen, hl]
  · rw [if_neg (by omega), PS.cell_blk _ hk, PS.cell_blk _ hk, hb]
theorem ten {k : Nat} (h : k < 10) : k = 0 ∨ k = 1 ∨ k = 2 ∨ k = 3 ∨ k = 4 ∨ k = 5 ∨ k = 6 ∨ k = 7 ∨ k = 8 ∨ k = 9 := by omega
theorem SC.setEpoch (h : SC w x s) (n : Int) : PTo w x (w.setCell ⟨x, 7, none⟩ (.int .i64 n)) { s with epoch := n } :=
  h.setNum (j := 7) (by omega) _ (fun k hk => by rcases ten hk with rfl | rfl | rfl | rfl | rfl | rfl | rfl | rfl | rfl | rfl <;> rfl) rfl rfl rfl rfl
theorem SC.setTreasury (h : SC w x s) (n : Int) : PTo w x (w.setCell ⟨x, 8, none⟩ (.int .i64 n)) { s with treasury := n } :=
  h.setNum (j := 8) (by omega) _ (fun k hk => by rcases ten hk with rfl | rfl | rfl | rfl | rfl | rfl | rfl | rfl | rfl | rfl <;> rfl) rfl rfl rfl rfl
theorem SC.setPrice (h : SC w x s) (n : Int) : PTo w x (w.setCell ⟨x, 9, none⟩ (.int .i64 n)) { s with price := n } :=
  h.setNum (j := 9) (by omega) _ (fun k hk => by rcases ten hk with rfl | rfl | rfl | rfl | rfl | rfl | rfl | rfl | rfl | rfl <;> rfl) rfl rfl rfl rfl
theorem SC.setRow (h : SC w x s) {k : Nat} (hk : k < 10) (n : Int) : PTo w x (w.setCell ⟨x, 87 + k, none⟩ (.int .i64 n)) { s with row := updQ s.row k n } := by
  refine h.set (by omega) _ (fun i hi => ?_)
  rcases PS.cell_kind hi with h1 | ⟨b, j, hb2, hj, rfl⟩ | ⟨j, hj, rfl⟩ | rfl | ⟨j, hj, rfl⟩
  · rw [if_neg (by omega), PS.cell_num _ h1, PS.cell_num _ h1]; rfl
  · rw [if_neg (by omega), PS.cell_acc _ hb2 hj, PS.cell_acc _ hb2 hj]
  · rw [PS.cell_row _ hj, PS.cell_row _ hj]
    by_cases e : j = k
    · rw [if_pos (by omega)]; simp [updQ, e]
    · rw [if_neg (by omega)]; simp [updQ, e]
  · rw [if_neg (by omega), PS.cell_rlen, PS.cell_rlen]
  · rw [if_neg (by omega), PS.cell_blk _ hj, PS.cell_blk _ hj]
theorem SC.setLen (h : SC w x s) (n : Nat) : PTo w x (w.setCell ⟨x, 97, none⟩ (.int .i64 (n : Int))) { s with rlen := n } := by
  refine h.set (by omega) _ (fun i hi => ?_)
  rcases PS.cell_kind hi with h1 | ⟨b, j, hb2, hj, rfl⟩ | ⟨j, hj, rfl⟩ | rfl | ⟨j, hj, rfl⟩
  · rw [if_neg (by omega), PS.cell_num _ h1, PS.cell_num _ h1]; rfl
  · rw [if_neg (by omega), PS.cell_acc _ hb2 hj, PS.cell_acc _ hb2 hj]
  · rw [if_neg (by omega), PS.cell_row _ hj, PS.cell_row _ hj]
  · rw [if_pos rfl, PS.cell_rlen]
  · rw [if_neg (by omega), PS.cell_blk _ hj, PS.cell_blk _ hj]
theorem SC.setBlk (h : SC w x s) {k : Nat} (hk : k < 20) (b : Bool) : PTo w x (w.setCell ⟨x, 98 + k, none⟩ (.bool b)) { s with blocks := fun j => if j = k then b else s.blocks j } := by
  refine h.set (by omega) _ (fun i hi => ?_)
  rcases PS.cell_kind hi with h1 | ⟨c, j, hb2, hj, rfl⟩ | ⟨j, hj, rfl⟩ | rfl | ⟨j, hj, rfl⟩
  · rw [if_neg (by omega), PS.cell_num _ h1, PS.cell_num _ h1]; rfl
  · rw [if_neg (by omega), PS.cell_acc _ hb2 hj, PS.cell_acc _ hb2 hj]
  · rw [if_neg (by omega), PS.cell_row _ hj, PS.cell_row _ hj]
  · rw [if_neg (by omega), PS.cell_rlen, PS.cell_rlen]
  · rw [PS.cell_blk _ hj, PS.cell_blk _ hj]
    by_cases e : j = k
    · rw [if_pos (by omega)]; simp [e]
    · rw [if_neg (by omega)]; simp [e]
end
end Go.Proofs.Ytiokecadnmcpeab
