import Derived.Test.YtiokecadnmcpeabIntw
namespace Go.Proofs.Ytiokecadnmcpeab
open Go.ChangeShapes Go.WideShapes Go.ChangeAt Go.RowKit

/-- The list with its marks behind it. -/
def marks : List Int := [123456789, 123456789, 123456789, 123456789, 123456789, 123456789, 123456789, 123456789]
def room (l : List Int) : List Int := l ++ marks
theorem room_length (l : List Int) : (room l).length = l.length + 8 := by simp [room, marks]
theorem marks_at : ∀ i, i < 8 → marks.getD i 0 = 123456789 := by decide
theorem room_in (l : List Int) (k : Nat) (h : k < l.length) : (room l).getD k 0 = l.getD k 0 := by
  simp [room, List.getD, List.getElem?_append_left h]
theorem room_out (l : List Int) (k : Nat) (h : ¬ k < l.length) (h2 : k < l.length + 8) : (room l).getD k 0 = 123456789 := by
  have := marks_at (k - l.length) (by omega)
  simp only [List.getD] at this
  simp only [room, List.getD, List.getElem?_append_right (Nat.le_of_not_lt h)]
  exact this


/-- What an append to a row of the call's own leaves. -/
theorem row_step {B : Nat} {w wr w1 : World} {v v' : Value} {l : List Int} {k : Nat} (hk : k < l.length) {x : Int} (hx : x = l.getD k 0)
    (hB : B ≤ wr.heap.size) (hown : wr.ownsRow B 3 1 v (l.take k).length ((l.take k).map (Value.int .i64))) (hnx : Below B w wr) {o : Obj}
    (hown' : w1.ownsRow B 3 1 v' ((l.take k).length + 1) ((l.take k).map (Value.int .i64) ++ [Value.int .i64 x])) (hg : (wr.alloc o).grownBy w1 v.ownBlock) :
    w1.ownsRow B 3 1 v' (l.take (k + 1)).length ((l.take (k + 1)).map (Value.int .i64)) ∧ Below B w w1 := by
  constructor
  · have e1 : (l.take (k + 1)).length = (l.take k).length + 1 := by simp only [List.length_take]; omega
    have e2 : (l.take (k + 1)).map (Value.int .i64) = (l.take k).map (Value.int .i64) ++ [Value.int .i64 x] := by
      rw [Pm.take_snoc l k hk, List.map_append, hx]; rfl
    rw [e1, e2]; exact hown'
  · refine (hnx.alloc hB o).grown hg (by simp; omega) fun j hj => ?_
    exact (hown.lt j hj).1

set_option maxHeartbeats 800000 in
set_option maxRecDepth 1000000 in
theorem roomy_any (a : Option Addr) (cap : Nat) (l : List Int) (w : World) (hl : Ints w a l) (hreach : l.length * 8 ≤ 140737488351232) :
    Calls Try.prog 71 #[.slice a l.length cap] w fun e w' =>
      ∃ v, e = .returned v ∧ w'.ownsRow w.heap.size 3 1 v (room l).length ((room l).map (Value.int .i64)) ∧ Below w.heap.size w w' := by
  obtain ⟨i0, hi, hz0, hz1, hz2⟩ := info_parts Try.info_int
  have hlr := room_length l
  have hR := room_in l
  have hO := room_out l
  generalize room l = r at *
  have Hlr : Hid (r.length = l.length + 8) := hlr
  have HR : Hid (∀ k, k < l.length → r.getD k 0 = l.getD k 0) := hR
  have HO : Hid (∀ k, ¬ k < l.length → k < l.length + 8 → r.getD k 0 = 123456789) := hO
  clear hlr hR hO
  go_enter Try.func71, Try.ntmps71
  go_wp2
  go_loopw [3, 4] (fun v i wr => ∃ k : Nat, k ≤ l.length + 8 ∧ i = .int .i64 k ∧ wr.ownsRow w.heap.size 3 1 v (r.take k).length ((r.take k).map (Value.int .i64)) ∧ Below w.heap.size w wr)
    (fun _ i _ => l.length + 8 - (intOf i).toNat)
  case atStart => exact ⟨0, Nat.zero_le _, rfl, World.ownsRow_nil _ _ _ _, Below.refl _ _⟩
  case round =>
    obtain ⟨k, hk, rfl, hown, hnx⟩ := hrel
    have hsz := hnx.size
    by_cases hlt : k < l.length
    · obtain ⟨b, off, ha, hc⟩ := (hl.below hnx).at hlt
      subst ha
      have HX : Hid (l.getD k 0 = r.getD k 0) := (HR.out k hlt).symm
      have hlen : (r.take k).length ≤ k := List.length_take_le _ _
      generalize l.getD k 0 = x at *
      go_wp2_with (at_builtin; refine wpList_append_own _ rfl _ _ 22 rfl w.heap.size 3 i0 (.int .i64 0) 1 8 Try.underlying22 hi hz0 hz1 hz2 rfl (by decide) _ _ _ rfl (hown.alloc _) ⟨wr.heap.size, 0, none⟩ 1 1 [.int .i64 x] rfl rfl ?c1 ?c2 ?c3 ?c4 ?c5 ?_)
      case c1 =>
        intro j u hj
        match j, hj with
        | 0, hj => simp at hj; subst hj; simp [Addr.add]
      case c2 => intro u hu; simp at hu; subst hu; rfl
      case c3 => unfold maxLen; omega
      case c4 => omega
      case c5 => simp; omega
      · intro v' w1 hown' hgrow _
        rw [← List.length_take, ← List.map_take] at hown'
        have R := row_step (by rw [Hlr.out]; omega) HX.out hsz hown hnx hown' hgrow
        clear hown' hgrow hown hc
        go_wp2
        go_roundw
        case rel => exact ⟨k + 1, by omega, by go_num, R.1, R.2⟩
        case measure => simp [intOf]; omega
    · by_cases hlt2 : k < l.length + 8
      · have HX : Hid (123456789 = r.getD k 0) := (HO.out k hlt hlt2).symm
        have hlen : (r.take k).length ≤ k := List.length_take_le _ _
        go_wp2_with (at_builtin; refine wpList_append_own _ rfl _ _ 22 rfl w.heap.size 3 i0 (.int .i64 0) 1 8 Try.underlying22 hi hz0 hz1 hz2 rfl (by decide) _ _ _ rfl (hown.alloc _) ⟨wr.heap.size, 0, none⟩ 1 1 [.int .i64 123456789] rfl rfl ?d1 ?d2 ?d3 ?d4 ?d5 ?_)
        case d1 =>
          intro j u hj
          match j, hj with
          | 0, hj => simp at hj; subst hj; simp [Addr.add]
        case d2 => intro u hu; simp at hu; subst hu; rfl
        case d3 => unfold maxLen; omega
        case d4 => omega
        case d5 => simp; omega
        · intro v' w1 hown' hgrow _
          rw [← List.length_take, ← List.map_take] at hown'
          have R := row_step (by rw [Hlr.out]; omega) HX.out hsz hown hnx hown' hgrow
          clear hown' hgrow hown
          go_wp2
          go_roundw
          case rel => exact ⟨k + 1, by omega, by go_num, R.1, R.2⟩
          case measure => simp [intOf]; omega
      · rw [List.take_of_length_le (by have := Hlr.out; omega)] at hown
        go_wp2
        go_ret
        exact ⟨_, rfl, hown, hnx⟩

set_option maxHeartbeats 400000 in
theorem untouched_any (ar : Option Addr) (capr : Nat) (a : Option Addr) (cap : Nat) (l : List Int) (w : World) (hr : Ints w ar (room l)) (hl : Ints w a l) (hreach : l.length * 8 ≤ 140737488351232) :
    Calls Try.prog 73 #[.slice ar (room l).length capr, .slice a l.length cap] w fun e w' => e = .returned (.bool true) ∧ w' = w := by
  have hlr := room_length l
  have hR := room_in l
  have hO := room_out l
  generalize room l = r at *
  have HR : Hid (∀ k, k < l.length → r.getD k 0 = l.getD k 0) := hR
  have HO : Hid (∀ k, ¬ k < l.length → k < l.length + 8 → r.getD k 0 = 123456789) := hO
  clear hR hO
  go_enter Try.func73, Try.ntmps73
  go_wp2
  go_loop [5] (fun i => ∃ k : Nat, k ≤ l.length + 8 ∧ i = .int .i64 k) (fun i => l.length + 8 - (intOf i).toNat)
  case atStart => exact ⟨0, Nat.zero_le _, rfl⟩
  case round =>
    obtain ⟨k, hk, rfl⟩ := hrel
    by_cases hlt : k < l.length + 8
    · obtain ⟨br, offr, har, hcr⟩ := hr.at (k := k) (by omega)
      subst har
      by_cases hin : k < l.length
      · obtain ⟨b, off, ha, hc⟩ := hl.at hin
        subst ha
        rw [HR.out k hin] at hcr
        generalize l.getD k 0 = x at *
        go_wp2
        go_round
        case rel => exact ⟨k + 1, by omega, by go_num⟩
        case measure => simp [intOf]; omega
      · rw [HO.out k hin hlt] at hcr
        go_wp2
        go_round
        case rel => exact ⟨k + 1, by omega, by go_num⟩
        case measure => simp [intOf]; omega
    · go_wp2
      go_ret
      exact ⟨rfl, rfl⟩
end Go.Proofs.Ytiokecadnmcpeab
