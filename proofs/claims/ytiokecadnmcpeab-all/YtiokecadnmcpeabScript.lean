import Derived.Test.YtiokecadnmcpeabRoom
namespace Go.Proofs.Ytiokecadnmcpeab
open Go.ChangeShapes Go.WideShapes Go.ChangeAt Go.RowKit

/-- A step of a script, as data. -/
structure OpD where
  kind : Int
  who : Int
  A : Int
  B : Int
  C : Int
  seats : Int
  delay : Int
  rate : Int
  cut : Int
  length : Int
  need : Int
  start : List Int
  sa : Option Addr
  scap : Nat
  l : List Int
  la : Option Addr
  lcap : Nat

def OpD.zero : OpD := ⟨0, 0, 0, 0, 0, 0, 0, 0, 0, 0, 0, [], none, 0, [], none, 0⟩

def OpD.cells (o : OpD) : Array Value :=
  #[.int .i64 o.kind, .int .i64 o.who, .int .i64 o.A, .int .i64 o.B, .int .i64 o.C, .int .i64 o.seats, .int .i64 o.delay, .int .i64 o.rate, .int .i64 o.cut, .int .i64 o.length, .int .i64 o.need, .slice o.sa o.start.length o.scap, .slice o.la o.l.length o.lcap]

/-- What holds of a step's numbers and lists. -/
structure OpOk (w : World) (o : OpD) : Prop where
  l : Ints w o.la o.l
  reach : o.l.length * 8 ≤ 140737488351232
  wkind : (Lit.int .i64 o.kind).wf = true
  wwho : (Lit.int .i64 o.who).wf = true
  wA : (Lit.int .i64 o.A).wf = true
  wB : (Lit.int .i64 o.B).wf = true
  wC : (Lit.int .i64 o.C).wf = true
  wseats : (Lit.int .i64 o.seats).wf = true
  wdelay : (Lit.int .i64 o.delay).wf = true
  wrate : (Lit.int .i64 o.rate).wf = true
  wcut : (Lit.int .i64 o.cut).wf = true
  wlength : (Lit.int .i64 o.length).wf = true
  wneed : (Lit.int .i64 o.need).wf = true
  wl : ∀ x, x ∈ o.l → (Lit.int .i64 x).wf = true

/-- A script, as it lies in memory. -/
def Script (w : World) (a : Option Addr) (s : List OpD) : Prop :=
  s = [] ∨ ∃ b off, a = some ⟨b, off, none⟩ ∧ ∀ i, i < s.length → OpOk w (s.getD i OpD.zero) ∧ ∀ j, j < 13 → w.cell? ⟨b, off + i * 13 + j, none⟩ = (s.getD i OpD.zero).cells[j]?

theorem OpOk.below {w w' : World} {o : OpD} (h : OpOk w o) (hb : Below w.heap.size w w') : OpOk w' o :=
  { h with l := h.l.below hb }

theorem Script.below {w w' : World} {a : Option Addr} {s : List OpD} (h : Script w a s) (hb : Below w.heap.size w w') : Script w' a s := by
  rcases h with h | ⟨b, off, ha, hc⟩
  · exact .inl h
  · refine .inr ⟨b, off, ha, fun i hi => ⟨(hc i hi).1.below hb, fun j hj => ?_⟩⟩
    have := (hc i hi).2 j hj
    rw [← this]
    have e : ∃ v, (s.getD i OpD.zero).cells[j]? = some v := ⟨_, Array.getElem?_eq_getElem (by simpa [OpD.cells] using hj)⟩
    obtain ⟨v, hv⟩ := e
    rw [hv] at this
    exact hb.cell (block_lt_of_cell this)

theorem Script.at {w : World} {a : Option Addr} {s : List OpD} (h : Script w a s) {k : Nat} (hk : k < s.length) :
    ∃ b off, a = some ⟨b, off, none⟩ ∧ OpOk w (s.getD k OpD.zero) ∧ ∀ j, j < 13 → w.cell? ⟨b, off + k * 13 + j, none⟩ = (s.getD k OpD.zero).cells[j]? := by
  rcases h with rfl | ⟨b, off, ha, hc⟩
  · simp at hk
  · exact ⟨b, off, ha, hc k hk⟩
end Go.Proofs.Ytiokecadnmcpeab
