import Derived.Test.YtiokecadnmcpeabIntw
namespace Go.Proofs.Ytiokecadnmcpeab
set_option linter.unusedVariables false
set_option linter.unusedSimpArgs false
open Go.ChangeShapes Go.WideShapes Go.ChangeAt Go.RowKit

/-- A step of a script of seatskeep's, as data. -/
structure StD where
  kind : Int
  A : Int
  B : Int
  C : Int
def StD.zero : StD := ⟨0, 0, 0, 0⟩
def StD.cells (o : StD) : Array Value := #[.int .i64 o.kind, .int .i64 o.A, .int .i64 o.B, .int .i64 o.C]
structure StD.Ok (o : StD) : Prop where
  wkind : (Lit.int .i64 o.kind).wf = true
  wA : (Lit.int .i64 o.A).wf = true
  wB : (Lit.int .i64 o.B).wf = true
  wC : (Lit.int .i64 o.C).wf = true
/-- A script, as it lies in memory. -/
def Steps (w : World) (a : Option Addr) (s : List StD) : Prop :=
  s = [] ∨ ∃ b off, a = some ⟨b, off, none⟩ ∧ ∀ i, i < s.length → (s.getD i StD.zero).Ok ∧ ∀ j, j < 4 → w.cell? ⟨b, off + i * 4 + j, none⟩ = (s.getD i StD.zero).cells[j]?
theorem Steps.keeps {w w' : World} {a : Option Addr} {s : List StD} (h : Steps w a s) (hb : ∀ p v, p.block < w.heap.size → w.cell? p = some v → w'.cell? p = some v) : Steps w' a s := by
  rcases h with h | ⟨b, off, ha, hc⟩
  · exact .inl h
  · refine .inr ⟨b, off, ha, fun i hi => ⟨(hc i hi).1, fun j hj => ?_⟩⟩
    have := (hc i hi).2 j hj
    have e : ∃ v, (s.getD i StD.zero).cells[j]? = some v := ⟨_, Array.getElem?_eq_getElem (by simpa [StD.cells] using hj)⟩
    obtain ⟨v, hv⟩ := e
    rw [hv] at this ⊢
    exact hb _ _ (block_lt_of_cell this) this
theorem Steps.below {w w' : World} {a : Option Addr} {s : List StD} (h : Steps w a s) (hb : Below w.heap.size w w') : Steps w' a s :=
  h.keeps fun p v hp hv => (hb.cell hp).trans hv
theorem Steps.at {w : World} {a : Option Addr} {s : List StD} (h : Steps w a s) {k : Nat} (hk : k < s.length) :
    ∃ b off, a = some ⟨b, off, none⟩ ∧ (s.getD k StD.zero).Ok ∧ ∀ j, j < 4 → w.cell? ⟨b, off + k * 4 + j, none⟩ = (s.getD k StD.zero).cells[j]? := by
  rcases h with rfl | ⟨b, off, ha, hc⟩
  · simp at hk
  · exact ⟨b, off, ha, hc k hk⟩

/-- A setup of seatskeep's, as data. -/
structure SetD where
  seats : Int
  delay : Int
  rate : Int
  cut : Int
  length : Int
  need : Int
  start : List Int
  sa : Option Addr
  scap : Nat
def SetD.cells (o : SetD) : Array Value := #[.int .i64 o.seats, .int .i64 o.delay, .int .i64 o.rate, .int .i64 o.cut, .int .i64 o.length, .int .i64 o.need, .slice o.sa o.start.length o.scap]
structure SetOk (w : World) (o : SetD) : Prop where
  l : Ints w o.sa o.start
  reach : o.start.length * 8 ≤ 140737488351232
  wseats : (Lit.int .i64 o.seats).wf = true
  wdelay : (Lit.int .i64 o.delay).wf = true
  wrate : (Lit.int .i64 o.rate).wf = true
  wcut : (Lit.int .i64 o.cut).wf = true
  wlength : (Lit.int .i64 o.length).wf = true
  wneed : (Lit.int .i64 o.need).wf = true
  wl : ∀ x, x ∈ o.start → (Lit.int .i64 x).wf = true
theorem SetOk.below {w w' : World} {o : SetD} (h : SetOk w o) (hb : Below w.heap.size w w') : SetOk w' o := { h with l := h.l.below hb }

theorem Try.bytes_step : Try.prog.bytesOf 39 = 32 := by kernel_rfl
theorem Try.cells_step : Try.prog.cellsOf 39 = 4 := by kernel_rfl
theorem Try.cells_setup : Try.prog.cellsOf 24 = 7 := by kernel_rfl

section
variable {H : Type} {enc : TypeId × Value → H} {W : World}
theorem len4 {α : Type} : ∀ (l : List α), l.length = 4 → ∃ a b c d, l = [a, b, c, d]
  | [a, b, c, d], _ => ⟨a, b, c, d, rfl⟩

theorem read_setup {fuel : Nat} {cs : List Value} {x : DataW H × List MemPlace} (h : DataW.trod enc Try.prog W 0 (fun _ => true) true fuel 24 cs = some x)
    (hw : ∀ n ∈ x.1.weights Try.prog 24, n ≤ reachBytes) :
    ∃ o : SetD, cs = o.cells.toList ∧ SetOk W o := by
  obtain ⟨xs, n, rfl, rfl, hl, hxl, hf⟩ := DataW.trod_struct Try.underlying24 h
  rw [Try.cells_setup] at hl
  obtain ⟨e0, e1, e2, e3, e4, e5, e6, rfl⟩ := len7 cs hl
  obtain ⟨y0, y1, y2, y3, y4, y5, y6, rfl⟩ := len7 xs hxl
  have f0 := hf 0 ⟨ "Seats", 3, 0, false, "", "", 0⟩ rfl
  have f1 := hf 1 ⟨ "Delay", 3, 1, false, "", "", 8⟩ rfl
  have f2 := hf 2 ⟨ "Rate", 3, 2, false, "", "", 16⟩ rfl
  have f3 := hf 3 ⟨ "Cut", 3, 3, false, "", "", 24⟩ rfl
  have f4 := hf 4 ⟨ "Length", 3, 4, false, "", "", 32⟩ rfl
  have f5 := hf 5 ⟨ "Need", 3, 5, false, "", "", 40⟩ rfl
  have f6 := hf 6 ⟨ "Start", 22, 6, false, "", "", 48⟩ rfl
  simp only [Try.cells_int, Try.cells_ints, List.drop_zero, List.drop_succ_cons, List.take_succ_cons, List.take_zero, List.getElem?_cons_zero, List.getElem?_cons_succ] at f0 f1 f2 f3 f4 f5 f6
  obtain ⟨c0, h0, _, w0⟩ := DataW.trod_int Try.underlying3 f0
  obtain ⟨c1, h1, _, w1⟩ := DataW.trod_int Try.underlying3 f1
  obtain ⟨c2, h2, _, w2⟩ := DataW.trod_int Try.underlying3 f2
  obtain ⟨c3, h3, _, w3⟩ := DataW.trod_int Try.underlying3 f3
  obtain ⟨c4, h4, _, w4⟩ := DataW.trod_int Try.underlying3 f4
  obtain ⟨c5, h5, _, w5⟩ := DataW.trod_int Try.underlying3 f5
  obtain ⟨a, l, cap, h6, hi, hr, hwl⟩ := read_ints f6 (fun n hn => hw n (by
    rw [DataW.weights, Try.underlying24]
    exact DataW.weights_mem_each (j := 6) rfl rfl n hn))
  replace h0 := (List.cons.inj h0).1
  replace h1 := (List.cons.inj h1).1
  replace h2 := (List.cons.inj h2).1
  replace h3 := (List.cons.inj h3).1
  replace h4 := (List.cons.inj h4).1
  replace h5 := (List.cons.inj h5).1
  replace h6 := (List.cons.inj h6).1
  refine ⟨⟨c0, c1, c2, c3, c4, c5, l, a, cap⟩, ?_, ⟨hi, hr, w0, w1, w2, w3, w4, w5, hwl⟩⟩
  simp only [SetD.cells]
  rw [h0, h1, h2, h3, h4, h5, h6]

theorem read_step {fuel : Nat} {cs : List Value} {x : DataW H × List MemPlace} (h : DataW.trod enc Try.prog W 0 (fun _ => true) true fuel 39 cs = some x) : ∃ o : StD, cs = o.cells.toList ∧ o.Ok := by
  obtain ⟨xs, n, rfl, rfl, hl, hxl, hf⟩ := DataW.trod_struct Try.underlying39 h
  rw [Try.cells_step] at hl
  obtain ⟨e0, e1, e2, e3, rfl⟩ := len4 cs hl
  obtain ⟨y0, y1, y2, y3, rfl⟩ := len4 xs hxl
  have f0 := hf 0 ⟨ "Kind", 3, 0, false, "", "", 0⟩ rfl
  have f1 := hf 1 ⟨ "A", 3, 1, false, "", "", 8⟩ rfl
  have f2 := hf 2 ⟨ "B", 3, 2, false, "", "", 16⟩ rfl
  have f3 := hf 3 ⟨ "C", 3, 3, false, "", "", 24⟩ rfl
  simp only [Try.cells_int, List.drop_zero, List.drop_succ_cons, List.take_succ_cons, List.take_zero, List.getElem?_cons_zero, List.getElem?_cons_succ] at f0 f1 f2 f3
  obtain ⟨c0, h0, _, w0⟩ := DataW.trod_int Try.underlying3 f0
  obtain ⟨c1, h1, _, w1⟩ := DataW.trod_int Try.underlying3 f1
  obtain ⟨c2, h2, _, w2⟩ := DataW.trod_int Try.underlying3 f2
  obtain ⟨c3, h3, _, w3⟩ := DataW.trod_int Try.underlying3 f3
  replace h0 := (List.cons.inj h0).1
  replace h1 := (List.cons.inj h1).1
  replace h2 := (List.cons.inj h2).1
  replace h3 := (List.cons.inj h3).1
  refine ⟨⟨c0, c1, c2, c3⟩, ?_, ⟨w0, w1, w2, w3⟩⟩
  simp only [StD.cells]
  rw [h0, h1, h2, h3]

theorem read_steps {fuel : Nat} {cs : List Value} {x : DataW H × List MemPlace} (h : DataW.trod enc Try.prog W 0 (fun _ => true) true fuel 25 cs = some x)
    (hw : ∀ n ∈ x.1.weights Try.prog 25, n ≤ reachBytes) :
    ∃ (a : Option Addr) (s : List StD) (cap : Nat), cs = [.slice a s.length cap] ∧ Steps W a s ∧ s.length * 32 ≤ 140737488351232 := by
  rcases Deep.open_slice Try.underlying25 h with ⟨rfl, _⟩ | ⟨a, len, cap, m, n, D, Pl, rfl, hb, hl, hm, hmm, hxx, hx⟩
  · exact ⟨none, [], 0, rfl, .inl rfl, by simp⟩
  · simp only [if_true] at hmm
    rw [hmm] at hx hxx
    subst hxx
    rw [Try.cells_step] at hx
    have hwt : ∀ n, n ∈ (((List.range len).map D).length + ((List.range (cap - len)).map fun j => D (len + j)).length) * Try.prog.bytesOf 39 :: (DataW.weightsAll Try.prog 39 ((List.range len).map D) ++ DataW.weightsAll Try.prog 39 ((List.range (cap - len)).map fun j => D (len + j))) → n ≤ reachBytes := fun n hn => hw n (by rw [DataW.weights, Try.underlying25]; exact hn)
    have hex : ∀ i, i < len → ∃ o : StD, o.Ok ∧ W.cells? 0 (a.add (i * 4)) 4 = some o.cells.toList := by
      intro i hi
      obtain ⟨cs', h1, h2⟩ := hx i (by omega)
      obtain ⟨o, rfl, ho⟩ := read_step h2
      exact ⟨o, ho, h1⟩
    obtain ⟨f, hf⟩ := @Deep.choose_lt _ ⟨StD.zero⟩ _ _ hex
    have hlen : ((List.range len).map f).length = len := by simp
    have hget : ∀ i, i < len → ((List.range len).map f).getD i StD.zero = f i := by
      intro i hi
      simp [List.getD, hi]
    refine ⟨some a, (List.range len).map f, cap, by rw [hlen], ?_, ?_⟩
    · by_cases h0 : len = 0
      · left; rw [h0]; rfl
      · right
        obtain ⟨b, off, spot⟩ := a
        have hspot : spot = none := by
          have h1 := (World.cells?_some (hf 0 (by omega)).2).2.2 0 (by omega)
          have h2 := World.cell?_spot (h1.trans (by rfl : _ = some (Value.int .i64 (f 0).kind)))
          simpa [Addr.add] using h2
        subst hspot
        refine ⟨b, off, rfl, fun i hi => ?_⟩
        rw [hlen] at hi
        rw [hget i hi]
        refine ⟨(hf i hi).1, fun j hj => ?_⟩
        have h1 := (World.cells?_some (hf i hi).2).2.2 j hj
        rw [Deep.add_add, add_plain, ← Nat.add_assoc] at h1
        rw [h1, Array.getElem?_toList]
    · have := hwt _ (List.mem_cons_self ..)
      rw [Try.bytes_step] at this
      simp only [List.length_map, List.length_range, reachBytes] at this
      rw [hlen]
      omega
end
end Go.Proofs.Ytiokecadnmcpeab
