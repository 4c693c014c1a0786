import Derived.Test.YtiokecadnmcpeabScript
import Derived.ShutString
import Derived.ChangeOld
import Derived.SizedLaws
import Derived.Deep.Slices
namespace Go.Proofs.Ytiokecadnmcpeab
open Go.ChangeShapes Go.WideShapes Go.ChangeAt Go.RowKit

theorem Try.bytes_op : Try.prog.bytesOf 85 = 136 := by kernel_rfl
theorem Try.cells_config : Try.prog.cellsOf 27 = 7 := by kernel_rfl
theorem Try.cells_op : Try.prog.cellsOf 85 = 13 := by kernel_rfl

section
variable {H : Type} {enc : TypeId × Value → H} {W : World}

theorem len13 {α : Type} : ∀ (l : List α), l.length = 13 → ∃ a b c d e f g h i j k m n, l = [a, b, c, d, e, f, g, h, i, j, k, m, n]
  | [a, b, c, d, e, f, g, h, i, j, k, m, n], _ => ⟨a, b, c, d, e, f, g, h, i, j, k, m, n, rfl⟩

theorem read_config {fuel : Nat} {cs : List Value} {x : DataW H × List MemPlace} (h : DataW.trod enc Try.prog W 0 (fun _ => true) true fuel 27 cs = some x)
    (hw : ∀ n ∈ x.1.weights Try.prog 27, n ≤ reachBytes) :
    ∃ (c0 c1 c2 c3 c4 c5 : Int) (a : Option Addr) (l : List Int) (cap : Nat), cs = [.int .i64 c0, .int .i64 c1, .int .i64 c2, .int .i64 c3, .int .i64 c4, .int .i64 c5, .slice a l.length cap] ∧
      (Lit.int .i64 c0).wf = true ∧ (Lit.int .i64 c1).wf = true ∧ (Lit.int .i64 c2).wf = true ∧ (Lit.int .i64 c3).wf = true ∧ (Lit.int .i64 c4).wf = true ∧ (Lit.int .i64 c5).wf = true := by
  obtain ⟨xs, n, rfl, rfl, hl, hxl, hf⟩ := DataW.trod_struct Try.underlying27 h
  rw [Try.cells_config] at hl
  obtain ⟨e0, e1, e2, e3, e4, e5, e6, rfl⟩ := len7 cs hl
  obtain ⟨y0, y1, y2, y3, y4, y5, y6, rfl⟩ := len7 xs hxl
  have f0 := hf 0 ⟨ "Seats", 3, 0, false, "", "", 0⟩ rfl
  have f1 := hf 1 ⟨ "Delay", 3, 1, false, "", "", 8⟩ rfl
  have f2 := hf 2 ⟨ "Rate", 3, 2, false, "", "", 16⟩ rfl
  have f3 := hf 3 ⟨ "Cut", 3, 3, false, "", "", 24⟩ rfl
  have f4 := hf 4 ⟨ "Length", 3, 4, false, "", "", 32⟩ rfl
  have f5 := hf 5 ⟨ "Need", 3, 5, false, "", "", 40⟩ rfl
  have f6 := hf 6 ⟨ "Start", 22, 6, false, "", "", 48⟩ rfl
  simp only [Try.cells_int, Try.cells_ints, List.drop_zero, List.drop_succ_cons, List.take_succ_cons, List.take_zero, List.getElem?_cons_zero, List.getElem?_cons_succ] at f0 f1 f2 f3 f4 f5 f6
  obtain ⟨c0, h0, _, w0⟩ := DataW.trod_int Try.underlying3 f0
  obtain ⟨c1, h1, _, w1⟩ := DataW.trod_int Try.underlying3 f1
  obtain ⟨c2, h2, _, w2⟩ := DataW.trod_int Try.underlying3 f2
  obtain ⟨c3, h3, _, w3⟩ := DataW.trod_int Try.underlying3 f3
  obtain ⟨c4, h4, _, w4⟩ := DataW.trod_int Try.underlying3 f4
  obtain ⟨c5, h5, _, w5⟩ := DataW.trod_int Try.underlying3 f5
  obtain ⟨a, l, cap, h6, _⟩ := read_ints f6 (fun n hn => hw n (by
    rw [DataW.weights, Try.underlying27]
    exact DataW.weights_mem_each (j := 6) rfl rfl n hn))
  replace h0 := (List.cons.inj h0).1
  replace h1 := (List.cons.inj h1).1
  replace h2 := (List.cons.inj h2).1
  replace h3 := (List.cons.inj h3).1
  replace h4 := (List.cons.inj h4).1
  replace h5 := (List.cons.inj h5).1
  replace h6 := (List.cons.inj h6).1
  exact ⟨c0, c1, c2, c3, c4, c5, a, l, cap, by rw [h0, h1, h2, h3, h4, h5, h6], w0, w1, w2, w3, w4, w5⟩

theorem read_op {fuel : Nat} {cs : List Value} {x : DataW H × List MemPlace} (h : DataW.trod enc Try.prog W 0 (fun _ => true) true fuel 85 cs = some x)
    (hw : ∀ n ∈ x.1.weights Try.prog 85, n ≤ reachBytes) : ∃ o : OpD, cs = o.cells.toList ∧ OpOk W o := by
  obtain ⟨xs, n, rfl, rfl, hl, hxl, hf⟩ := DataW.trod_struct Try.underlying85 h
  rw [Try.cells_op] at hl
  obtain ⟨e0, e1, e2, e3, e4, e5, e6, e7, e8, e9, e10, e11, e12, rfl⟩ := len13 cs hl
  obtain ⟨y0, y1, y2, y3, y4, y5, y6, rfl⟩ := len7 xs hxl
  have f0 := hf 0 ⟨ "Kind", 3, 0, false, "", "", 0⟩ rfl
  have f1 := hf 1 ⟨ "W", 3, 1, false, "", "", 8⟩ rfl
  have f2 := hf 2 ⟨ "A", 3, 2, false, "", "", 16⟩ rfl
  have f3 := hf 3 ⟨ "B", 3, 3, false, "", "", 24⟩ rfl
  have f4 := hf 4 ⟨ "C", 3, 4, false, "", "", 32⟩ rfl
  have f5 := hf 5 ⟨ "Config", 27, 5, false, "", "", 40⟩ rfl
  have f6 := hf 6 ⟨ "L", 22, 12, false, "", "", 112⟩ rfl
  simp only [Try.cells_int, Try.cells_ints, Try.cells_config, List.drop_zero, List.drop_succ_cons, List.take_succ_cons, List.take_zero, List.getElem?_cons_zero, List.getElem?_cons_succ] at f0 f1 f2 f3 f4 f5 f6
  obtain ⟨c0, h0, _, w0⟩ := DataW.trod_int Try.underlying3 f0
  obtain ⟨c1, h1, _, w1⟩ := DataW.trod_int Try.underlying3 f1
  obtain ⟨c2, h2, _, w2⟩ := DataW.trod_int Try.underlying3 f2
  obtain ⟨c3, h3, _, w3⟩ := DataW.trod_int Try.underlying3 f3
  obtain ⟨c4, h4, _, w4⟩ := DataW.trod_int Try.underlying3 f4
  obtain ⟨s0, s1, s2, s3, s4, s5, sa, sl, sc, h5, v0, v1, v2, v3, v4, v5⟩ := read_config f5 (fun n hn => hw n (by
    rw [DataW.weights, Try.underlying85]
    exact DataW.weights_mem_each (j := 5) rfl rfl n hn))
  obtain ⟨a, l, cap, h6, hi, hr, hwl⟩ := read_ints f6 (fun n hn => hw n (by
    rw [DataW.weights, Try.underlying85]
    exact DataW.weights_mem_each (j := 6) rfl rfl n hn))
  replace h0 := (List.cons.inj h0).1
  replace h1 := (List.cons.inj h1).1
  replace h2 := (List.cons.inj h2).1
  replace h3 := (List.cons.inj h3).1
  replace h4 := (List.cons.inj h4).1
  replace h6 := (List.cons.inj h6).1
  obtain ⟨g0, h5⟩ := List.cons.inj h5
  obtain ⟨g1, h5⟩ := List.cons.inj h5
  obtain ⟨g2, h5⟩ := List.cons.inj h5
  obtain ⟨g3, h5⟩ := List.cons.inj h5
  obtain ⟨g4, h5⟩ := List.cons.inj h5
  obtain ⟨g5, h5⟩ := List.cons.inj h5
  replace g6 := (List.cons.inj h5).1
  refine ⟨⟨c0, c1, c2, c3, c4, s0, s1, s2, s3, s4, s5, sl, sa, sc, l, a, cap⟩, ?_, ⟨hi, hr, w0, w1, w2, w3, w4, v0, v1, v2, v3, v4, v5, hwl⟩⟩
  simp only [OpD.cells]
  rw [h0, h1, h2, h3, h4, g0, g1, g2, g3, g4, g5, g6, h6]

theorem read_script {fuel : Nat} {cs : List Value} {x : DataW H × List MemPlace} (h : DataW.trod enc Try.prog W 0 (fun _ => true) true fuel 44 cs = some x)
    (hw : ∀ n ∈ x.1.weights Try.prog 44, n ≤ reachBytes) :
    ∃ (a : Option Addr) (s : List OpD) (cap : Nat), cs = [.slice a s.length cap] ∧ Script W a s ∧ s.length * 136 ≤ 140737488351232 := by
  rcases Deep.open_slice Try.underlying44 h with ⟨rfl, _⟩ | ⟨a, len, cap, m, n, D, Pl, rfl, hb, hl, hm, hmm, hxx, hx⟩
  · exact ⟨none, [], 0, rfl, .inl rfl, by simp⟩
  · simp only [if_true] at hmm
    rw [hmm] at hx hxx
    subst hxx
    rw [Try.cells_op] at hx
    have hwt : ∀ n, n ∈ (((List.range len).map D).length + ((List.range (cap - len)).map fun j => D (len + j)).length) * Try.prog.bytesOf 85 :: (DataW.weightsAll Try.prog 85 ((List.range len).map D) ++ DataW.weightsAll Try.prog 85 ((List.range (cap - len)).map fun j => D (len + j))) → n ≤ reachBytes := fun n hn => hw n (by rw [DataW.weights, Try.underlying44]; exact hn)
    have hex : ∀ i, i < len → ∃ o : OpD, OpOk W o ∧ W.cells? 0 (a.add (i * 13)) 13 = some o.cells.toList := by
      intro i hi
      obtain ⟨cs', h1, h2⟩ := hx i (by omega)
      obtain ⟨o, rfl, ho⟩ := read_op h2 (fun n hn => hwt n (by
        refine List.mem_cons_of_mem _ (List.mem_append_left _ (weights_all_mem (List.mem_map.2 ⟨i, List.mem_range.2 hi, rfl⟩) n hn)))
      )
      exact ⟨o, ho, h1⟩
    obtain ⟨f, hf⟩ := @Deep.choose_lt _ ⟨OpD.zero⟩ _ _ hex
    have hlen : ((List.range len).map f).length = len := by simp
    have hget : ∀ i, i < len → ((List.range len).map f).getD i OpD.zero = f i := by
      intro i hi
      simp [List.getD, hi]
    refine ⟨some a, (List.range len).map f, cap, by rw [hlen], ?_, ?_⟩
    · by_cases h0 : len = 0
      · left; rw [h0]; rfl
      · right
        obtain ⟨b, off, spot⟩ := a
        have hspot : spot = none := by
          have h1 := (World.cells?_some (hf 0 (by omega)).2).2.2 0 (by omega)
          have h2 := World.cell?_spot (h1.trans (by rfl : _ = some (Value.int .i64 (f 0).kind)))
          simpa [Addr.add] using h2
        subst hspot
        refine ⟨b, off, rfl, fun i hi => ?_⟩
        rw [hlen] at hi
        rw [hget i hi]
        refine ⟨(hf i hi).1, fun j hj => ?_⟩
        have h1 := (World.cells?_some (hf i hi).2).2.2 j hj
        rw [Deep.add_add, add_plain, ← Nat.add_assoc] at h1
        rw [h1, Array.getElem?_toList]
    · have := hwt _ (List.mem_cons_self ..)
      rw [Try.bytes_op] at this
      simp only [List.length_map, List.length_range, reachBytes] at this
      rw [hlen]
      omega
end
end Go.Proofs.Ytiokecadnmcpeab
