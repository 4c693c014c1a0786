import Derived.Test.YtiokecadnmcpeabKSale
import Derived.Test.YtiokecadnmcpeabKMade2
namespace Go.Proofs.Ytiokecadnmcpeab
set_option linter.unusedVariables false
set_option linter.unusedSimpArgs false
open Go.ChangeShapes Go.WideShapes Go.ChangeAt Go.RowKit

/-- The numbers that a chain was made with. -/
structure Rules where
  seats : Int
  delay : Int
  rate : Int
  cut : Int
  length : Int
  need : Int
  N : Nat
  a : Option Addr
  cap : Nat
def Rules.cells (c : Rules) : Array Value := #[.int .i64 c.seats, .int .i64 c.delay, .int .i64 c.rate, .int .i64 c.cut, .int .i64 c.length, .int .i64 c.need, .slice c.a c.N c.cap]
/-- A chain of those rules. -/
structure PS.Of (s : PS) (c : Rules) : Prop where
  seats : s.seats = c.seats
  delay : s.delay = c.delay
  rate : s.rate = c.rate
  cut : s.cut = c.cut
  length : s.length = c.length
  need : s.need = c.need
  N : s.N = c.N
/-- What holds all the way, behind k steps. -/
structure KInv (w : World) (x gc : Nat) (c : Rules) (W : World) (s : PS) (k : Nat) : Prop where
  sc : SC W x s
  inv : s.Inv
  so : s.SeatsOk
  cf : s.Of c
  ep : s.epoch ≤ k
  cfg : W.heap[gc]? = some (.cells c.cells 27 (0, 0))
  ne : gc ≠ x
  lx : w.heap.size ≤ x
  lg : w.heap.size ≤ gc
  bel : Below w.heap.size w W
section
variable {w W W' : World} {x gc k : Nat} {c : Rules} {s s' : PS} {o : StD} {er : Int}
theorem KInv.below (h : KInv w x gc c W s k) (b : Below W.heap.size W W') : KInv w x gc c W' s k :=
  { h with sc := h.sc.below b, cfg := (b.block _ (lt_of_block h.cfg)).trans h.cfg, bel := h.bel.trans (b.mono h.bel.size) }
theorem KInv.more (h : KInv w x gc c W s k) {j : Nat} (hj : k ≤ j) : KInv w x gc c W s j := { h with ep := by have := h.ep; omega }
theorem KInv.did (h : KInv w x gc c W s k) (hk : k ≤ 4611686018427387904) (d : s.Did o er s') (t : PTo W x W' s') : KInv w x gc c W' s' (k + 1) := by
  have he : s.epoch ≤ 4611686018427387904 := by have := h.ep; omega
  obtain ⟨n0, n1, n2, n3, n4, n5, n6, n7⟩ := d.num h.inv
  exact { h with
    sc := t.sc
    inv := d.inv h.inv he
    so := h.so.did d h.inv he
    cf := ⟨n1.trans h.cf.seats, n2.trans h.cf.delay, n3.trans h.cf.rate, n4.trans h.cf.cut, n5.trans h.cf.length, n6.trans h.cf.need, n0.trans h.cf.N⟩
    ep := by have := h.ep; push_cast; omega
    cfg := (t.keeps.block _ (lt_of_block h.cfg) (fun e => h.ne e)).trans h.cfg
    bel := h.bel.trans (t.keeps.below h.bel.size (fun i hi => by have : i = x := hi; subst this; exact h.lx)) }
theorem KInv.cell (h : KInv w x gc c W s k) (j : Nat) : W.cell? ⟨gc, j, none⟩ = c.cells[j]? := by
  exact cell_of_row W gc j _ _ _ h.cfg
end
theorem knew_seats (s d r c le ne : Int) (l : List Int) : (newPS l.length s d r c le ne l l.length).SeatsOk := by
  left
  exact sumTo_zero 7 (fun a ha => by rw [knewPS_acc]; split <;> rfl)
/-- The beginning. -/
theorem kinv_new {w W : World} {x : Nat} {s d r c le ne : Int} {l : List Int} {a : Option Addr} {cap : Nat} (hn : NumFit s d r c le ne) (hs : StartFit l) (hS : SC W x (newPS l.length s d r c le ne l l.length)) (hx : w.heap.size ≤ x) (hb : Below w.heap.size w W) :
    KInv w x W.heap.size ⟨s, d, r, c, le, ne, l.length, a, cap⟩ (W.alloc (.cells #[.int .i64 s, .int .i64 d, .int .i64 r, .int .i64 c, .int .i64 le, .int .i64 ne, .slice a l.length cap] 27)) (newPS l.length s d r c le ne l l.length) 0 where
  sc := hS.below ((Below.refl _ _).alloc (Nat.le_refl _) _)
  inv := knew_inv s d r c le ne l hn hs
  so := knew_seats s d r c le ne l
  cf := ⟨rfl, rfl, rfl, rfl, rfl, rfl, rfl⟩
  ep := Int.le_refl _
  cfg := heap_alloc_new W _
  ne := by have := hS.lt; omega
  lx := hx
  lg := hb.size
  bel := hb.alloc hb.size _
end Go.Proofs.Ytiokecadnmcpeab
