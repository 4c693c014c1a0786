import Derived.Test.YtiokecadnmcpeabPSend
import Derived.Laws.CopyOwn
import Derived.Laws.Tables
import Derived.Laws.Rows
namespace Go.Proofs.Ytiokecadnmcpeab
set_option linter.unusedVariables false
set_option linter.unusedSimpArgs false
open Go.ChangeShapes Go.WideShapes Go.ChangeAt Go.RowKit

theorem pmul_bd {a b A C : Int} (h1 : 0 ≤ a) (h2 : a ≤ A) (h3 : 0 ≤ b) (h4 : b ≤ C) : 0 ≤ a * b ∧ a * b ≤ A * C :=
  ⟨Int.mul_nonneg h1 h3, Int.mul_le_mul h2 h4 h3 (by omega)⟩

/-- Is the height a turn of account a? -/
def PS.leads (s : PS) (a : Int) (k : Nat) : Bool := decide ((k : Int) < s.length) && (decide (0 < s.rlen) && decide (s.row (k % s.rlen) = a))
def PS.askedTo (s : PS) (a : Int) : Nat → Int
  | 0 => 0
  | k + 1 => s.askedTo a k + if s.leads a k = true then 1 else 0
def PS.madeTo (s : PS) (a : Int) : Nat → Int
  | 0 => 0
  | k + 1 => s.madeTo a k + if (s.blocks k && s.leads a k) = true then 1 else 0
def PS.asked (s : PS) (a : Int) : Int := s.askedTo a 20
def PS.made (s : PS) (a : Int) : Int := s.madeTo a 20
theorem PS.askedTo_bd (s : PS) (a : Int) (k : Nat) : 0 ≤ s.askedTo a k ∧ s.askedTo a k ≤ k := by
  induction k with
  | zero => simp [PS.askedTo]
  | succ k ih => simp only [PS.askedTo]; split <;> omega
theorem PS.madeTo_bd (s : PS) (a : Int) (k : Nat) : 0 ≤ s.madeTo a k ∧ s.madeTo a k ≤ k := by
  induction k with
  | zero => simp [PS.madeTo]
  | succ k ih => simp only [PS.madeTo]; split <;> omega
theorem PS.asked_bd (s : PS) (a : Int) : 0 ≤ s.asked a ∧ s.asked a ≤ 20 := s.askedTo_bd a 20
theorem PS.made_bd (s : PS) (a : Int) : 0 ≤ s.made a ∧ s.made a ≤ 20 := s.madeTo_bd a 20
/-- How an account stands, by itself: 0 no seat, 1 diligent, 2 lazy, 3 slashed. -/
def PS.stand0 (s : PS) (a : Nat) : Int :=
  if (s.acc a).seats < 1 then 0 else if (s.acc a).cheated = true then 3 else if s.made a * 1000 < s.need * s.asked a then 2 else 1
def PS.anyTo (s : PS) : Nat → Bool
  | 0 => false
  | k + 1 => s.anyTo k || decide (s.stand0 k = 1)
/-- How it stands among the others. -/
def PS.stand (s : PS) (a : Nat) : Int := if s.anyTo 7 = true then s.stand0 a else if s.stand0 a = 2 then 1 else s.stand0 a

/-- An array's value, by a function. -/
def arrB (n : Nat) (b : Nat → Bool) : Array Value := ((List.range n).map (fun j => Value.bool (b j))).toArray
def arrI (n : Nat) (f : Nat → Int) : Array Value := ((List.range n).map (fun j => Value.int .i64 (f j))).toArray
theorem idx20 (b : Nat → Bool) (k : Nat) (hk : k < 20) (w : World) : (Instr.index 63 (.agg (arrB 20 b)) (.int .i64 k)).run Try.prog w = .ok (.bool (b k)) w := by
  rcases (show k = 0 ∨ k = 1 ∨ k = 2 ∨ k = 3 ∨ k = 4 ∨ k = 5 ∨ k = 6 ∨ k = 7 ∨ k = 8 ∨ k = 9 ∨ k = 10 ∨ k = 11 ∨ k = 12 ∨ k = 13 ∨ k = 14 ∨ k = 15 ∨ k = 16 ∨ k = 17 ∨ k = 18 ∨ k = 19 by omega) with rfl | rfl | rfl | rfl | rfl | rfl | rfl | rfl | rfl | rfl | rfl | rfl | rfl | rfl | rfl | rfl | rfl | rfl | rfl | rfl <;> kernel_rfl
theorem idx7 (j : Nat → Int) (k : Nat) (hk : k < 7) (w : World) : (Instr.index 74 (.agg (arrI 7 j)) (.int .i64 k)).run Try.prog w = .ok (.int .i64 (j k)) w := by
  rcases (show k = 0 ∨ k = 1 ∨ k = 2 ∨ k = 3 ∨ k = 4 ∨ k = 5 ∨ k = 6 by omega) with rfl | rfl | rfl | rfl | rfl | rfl | rfl <;> kernel_rfl

/-- An array within a block is loaded whole. -/
theorem run_loadVar_at {P : Program} (w : World) (g off : Nat) (ty : TypeId) (n : Nat) (f : Nat → Value) (d : TypeDesc) (hc : ∀ j, j < n → w.cell? ⟨g, off + j, none⟩ = some (f j))
    (hu : P.underlying ty = some d) (hd : (match d with | .struct _ | .array _ _ => true | _ => false) = true) (hi : (P.info? ty).map (·.size) = some n) :
    (loadVar ty ⟨g, off, none⟩).run P w = .ok (.agg ((List.range n).map f).toArray) w := by
  have hl : (loadCells ⟨g, off, none⟩ n).run P w = .ok ((List.range n).map f).toArray w :=
    run_loadCells (P := P) w ⟨g, off, none⟩ n f (fun j hj => by
      have hadd : (⟨g, off, none⟩ : Addr).add j = ⟨g, off + j, none⟩ := by unfold Addr.add; split <;> simp_all
      rw [hadd]; exact hc j hj)
  cases hq : P.info? ty with
  | none => simp [hq] at hi
  | some i =>
    have hs : i.size = n := by simpa [hq] using hi
    have hagg : (isAgg ty).run P w = .ok true w := by
      unfold isAgg
      rw [Sem.run_bind, run_underlying hu w]
      cases d <;> simp_all
    simp [loadVar, Sem.run_bind, hagg, sizeOf, typeInfo, hq, hs, hl]
theorem wp_load_at {P : Program} {o : Oper} {a : Act} {w : World} {K : Act → World → Prop} {Q : Exit → Act → World → Prop} (ty : TypeId) (x : Operand) (ho : o.op = .load ty x)
    (g off : Nat) (hx : a.eval x = .pointer (some ⟨g, off, none⟩)) (n : Nat) (f : Nat → Value) (d : TypeDesc) (hc : ∀ j, j < n → w.cell? ⟨g, off + j, none⟩ = some (f j))
    (hu : P.underlying ty = some d) (hd : (match d with | .struct _ | .array _ _ => true | _ => false) = true) (hi : (P.info? ty).map (·.size) = some n) (A : Array Value) (hA : A = ((List.range n).map f).toArray)
    (h : K (a.put o.dst (.agg A)) w) : o.wp P a w K Q := by
  subst hA
  unfold Oper.wp execOp
  simp only [ho, hx, Instr.loadAt, Instr.sureAddr, Sem.run_bind, Sem.run_pure, Result.andThen_ok, run_loadVar_at w g off ty n f d hc hu hd hi]
  exact h
theorem wpList_load_at {P : Program} {ops : Array Oper} {rest : List Oper} {o : Oper} {a : Act} {w : World} {Q : Exit → Act → World → Prop} (hgd : o.guard = none) (ty : TypeId) (x : Operand) (ho : o.op = .load ty x)
    (g off : Nat) (hx : a.eval x = .pointer (some ⟨g, off, none⟩)) (n : Nat) (f : Nat → Value) (d : TypeDesc) (hc : ∀ j, j < n → w.cell? ⟨g, off + j, none⟩ = some (f j))
    (hu : P.underlying ty = some d) (hd : (match d with | .struct _ | .array _ _ => true | _ => false) = true) (hi : (P.info? ty).map (·.size) = some n) (A : Array Value) (hA : A = ((List.range n).map f).toArray)
    (h : wpList P ops Q rest (a.put o.dst (.agg A)) w) : wpList P ops Q (o :: rest) a w :=
  wpList_plain hgd fun _ hK => wp_load_at ty x ho g off hx n f d hc hu hd hi A hA (hK _ _ h)

section
variable {w : World} {x : Nat} {s : PS}

set_option maxHeartbeats 800000 in
theorem leads_any (h : SC w x s) (ok : s.Cf) (a : Int) (k : Nat) (hk : k < 20) :
    Calls Try.prog 67 #[.pointer (some ⟨x, 0, none⟩), .int .i64 a, .int .i64 k] w fun e w' => e = .returned (.bool (s.leads a k)) ∧ Below w.heap.size w w' := by
  obtain ⟨b, hb⟩ : ∃ b, s.leads a k = b := ⟨_, rfl⟩
  rw [hb]
  unfold PS.leads at hb
  by_cases h1 : (k : Int) < s.length
  · by_cases h2 : 0 < s.rlen
    · have Hb := hid (show b = decide (s.row (k % s.rlen) = a) by rw [← hb]; simp [h1, h2])
      clear hb
      go_enter Try.func67, Try.ntmps67
      go_wp2_with fail
      refine (leader_ok h ok k (by omega) h2).mono ?_
      rintro e w1 ⟨rfl, b1⟩
      generalize s.row (k % s.rlen) = z at *
      go_wp2_with fail
      go_ret
      exact ⟨by rw [Hb.out]; rfl, b1⟩
    · have Hb := hid (show b = false by rw [← hb]; simp [h2])
      clear hb
      go_enter Try.func67, Try.ntmps67
      go_wp2_with fail
      refine (leader_none h ok k (by omega) (by omega) (by omega)).mono ?_
      rintro e w1 ⟨rfl, b1⟩
      go_wp2_with fail
      go_ret
      exact ⟨by rw [Hb.out]; rfl, b1⟩
  · have Hb := hid (show b = false by rw [← hb]; simp [h1])
    clear hb
    go_enter Try.func67, Try.ntmps67
    go_wp2_with fail
    refine (leader_height h ok k (by omega)).mono ?_
    rintro e w1 ⟨rfl, b1⟩
    go_wp2_with fail
    go_ret
    exact ⟨by rw [Hb.out]; rfl, b1⟩

set_option maxHeartbeats 800000 in
theorem asked_any (h : SC w x s) (ok : s.Cf) (a : Int) :
    Calls Try.prog 66 #[.pointer (some ⟨x, 0, none⟩), .int .i64 a] w fun e w' => e = .returned (.int .i64 (s.asked a)) ∧ Below w.heap.size w w' := by
  unfold PS.asked
  go_enter Try.func66, Try.ntmps66
  go_wp2_with fail
  go_loopw [5, 7] (fun n i wr => ∃ k : Nat, k ≤ 20 ∧ i = .int .i64 k ∧ n = .int .i64 (s.askedTo a k) ∧ Below w.heap.size w wr) (fun _ i _ => 20 - (intOf i).toNat)
  case atStart => exact ⟨0, by omega, rfl, rfl, Below.refl _ _⟩
  case round =>
    obtain ⟨k, hk, rfl, rfl, hB⟩ := hrel
    have bd := s.askedTo_bd a k
    by_cases hlt : k < 20
    · have st : s.askedTo a (k + 1) = s.askedTo a k + if s.leads a k = true then 1 else 0 := rfl
      generalize s.askedTo a k = n at *
      go_wp2_with fail
      refine (leads_any (h.below hB) ok a k hlt).mono ?_
      rintro e w1 ⟨rfl, b1⟩
      have HB := hid (hB.trans (b1.mono hB.size))
      generalize s.leads a k = b at *
      cases b with
      | true =>
        have ST := hid (show s.askedTo a (k + 1) = n + 1 by rw [st]; simp)
        clear st
        go_wp2_with fail
        go_roundw
        case rel => exact ⟨k + 1, by omega, by go_num, by rw [ST.out], HB.out⟩
        case measure => simp [intOf]; omega
      | false =>
        have ST := hid (show s.askedTo a (k + 1) = n by rw [st]; simp)
        clear st
        go_wp2_with fail
        go_roundw
        case rel => exact ⟨k + 1, by omega, by go_num, by rw [ST.out], HB.out⟩
        case measure => simp [intOf]; omega
    · have hk7 : k = 20 := by omega
      subst hk7
      go_wp2_with fail
      go_ret
      exact ⟨rfl, hB⟩

set_option maxHeartbeats 1600000 in
theorem made_any (h : SC w x s) (ok : s.Cf) (a : Int) :
    Calls Try.prog 49 #[.pointer (some ⟨x, 0, none⟩), .int .i64 a] w fun e w' => e = .returned (.int .i64 (s.made a)) ∧ Below w.heap.size w w' := by
  unfold PS.made
  have hb20 := hid (show ∀ j, j < 20 → w.cell? ⟨x, 98 + j, none⟩ = some (.bool (s.blocks j)) from fun j hj => h.blk hj)
  have hidx := hid (idx20 s.blocks)
  obtain ⟨A, hA⟩ : ∃ A, A = arrB 20 s.blocks := ⟨_, rfl⟩
  rw [← hA] at hidx
  have HA := hid (show A = ((List.range 20).map (fun j => Value.bool (s.blocks j))).toArray from hA)
  clear hA
  go_enter Try.func49, Try.ntmps49
  go_wp2_with (refine wpList_load_at rfl 63 _ rfl x 98 rfl 20 (fun j => Value.bool (s.blocks j)) _ hb20.out Try.underlying63 rfl (by kernel_rfl) A HA.out ?_)
  go_loopw [5, 12] (fun n i wr => ∃ k : Nat, k ≤ 20 ∧ i = .int .i64 k ∧ n = .int .i64 (s.madeTo a k) ∧ Below w.heap.size w wr) (fun _ i _ => 20 - (intOf i).toNat)
  case atStart => exact ⟨0, by omega, rfl, rfl, Below.refl _ _⟩
  case round =>
    obtain ⟨k, hk, rfl, rfl, hB⟩ := hrel
    have bd := s.madeTo_bd a k
    by_cases hlt : k < 20
    · have st : s.madeTo a (k + 1) = s.madeTo a k + if (s.blocks k && s.leads a k) = true then 1 else 0 := rfl
      generalize s.madeTo a k = n at *
      have hi := hidx.out k hlt
      have HB0 := hid hB
      clear hidx
      obtain ⟨b, hb⟩ : ∃ b, s.blocks k = b := ⟨_, rfl⟩
      rw [hb] at hi st
      clear hb
      cases b with
      | true =>
        go_wp2_with fail
        refine (leads_any (h.below hB) ok a k hlt).mono ?_
        rintro e w1 ⟨rfl, b1⟩
        have HB := hid (hB.trans (b1.mono hB.size))
        generalize s.leads a k = b at *
        cases b with
        | true =>
          have ST := hid (show s.madeTo a (k + 1) = n + 1 by rw [st]; simp)
          clear st
          go_wp2_with fail
          go_roundw
          case rel => exact ⟨k + 1, by omega, by go_num, by rw [ST.out], HB.out⟩
          case measure => simp [intOf]; omega
        | false =>
          have ST := hid (show s.madeTo a (k + 1) = n by rw [st]; simp)
          clear st
          go_wp2_with fail
          go_roundw
          case rel => exact ⟨k + 1, by omega, by go_num, by rw [ST.out], HB.out⟩
          case measure => simp [intOf]; omega
      | false =>
        have ST := hid (show s.madeTo a (k + 1) = n by rw [st]; simp)
        clear st
        go_wp2_with fail
        go_roundw
        case rel => exact ⟨k + 1, by omega, by go_num, by rw [ST.out], HB0.out⟩
        case measure => simp [intOf]; omega
    · have hk7 : k = 20 := by omega
      subst hk7
      go_wp2_with fail
      go_ret
      exact ⟨rfl, hB⟩

set_option maxHeartbeats 800000 in
theorem standing_any (h : SC w x s) (ok : s.Cf) (a : Nat) (ha : a < 7) :
    Calls Try.prog 46 #[.pointer (some ⟨x, 0, none⟩), .int .i64 a] w fun e w' => e = .returned (.int .i64 (s.stand0 a)) ∧ Below w.heap.size w w' := by
  have hS : w.cell? ⟨x, 10 + a * 11 + 3, none⟩ = some (.int .i64 (s.acc a).seats) := h.at ha (j := 3) (by omega)
  have hC : w.cell? ⟨x, 10 + a * 11 + 10, none⟩ = some (.bool (s.acc a).cheated) := h.at ha (j := 10) (by omega)
  have g5 : (a : Int) < 7 := by omega
  have hA := s.asked_bd a
  have hM := s.made_bd a
  have hna := pmul_bd ok.need.1 ok.need.2 hA.1 hA.2
  obtain ⟨z, hz⟩ : ∃ z, s.stand0 a = z := ⟨_, rfl⟩
  rw [hz]
  unfold PS.stand0 at hz
  by_cases h1 : (s.acc a).seats < 1
  · have HZ := hid (show z = 0 by rw [← hz, if_pos h1])
    clear hz
    go_enter Try.func46, Try.ntmps46
    go_wp2_with fail
    go_ret
    exact ⟨by rw [HZ.out]; rfl, Below.refl _ _⟩
  · rw [if_neg h1] at hz
    obtain ⟨b, hb⟩ : ∃ b, (s.acc a).cheated = b := ⟨_, rfl⟩
    rw [hb] at hz hC
    clear hb
    cases b with
    | true =>
      have HZ := hid (show z = 3 by rw [← hz, if_pos rfl])
      clear hz
      go_enter Try.func46, Try.ntmps46
      go_wp2_with fail
      go_ret
      exact ⟨by rw [HZ.out]; rfl, Below.refl _ _⟩
    | false =>
      rw [if_neg (by simp)] at hz
      have Hz := hid hz
      clear hz
      go_enter Try.func46, Try.ntmps46
      go_wp2_with fail
      refine (made_any h ok a).mono ?_
      rintro e w1 ⟨rfl, b1⟩
      have h1' := h.below b1
      clear hS hC
      go_wp2_with fail
      refine (asked_any h1' ok a).mono ?_
      rintro e w2 ⟨rfl, b2⟩
      have HB := hid (b1.trans (b2.mono b1.size))
      have h2' := h1'.below b2
      have hN : w2.cell? ⟨x, 6, none⟩ = some (.int .i64 s.need) := h2'.num (j := 6) (by omega)
      generalize s.made a = m at *
      generalize s.asked a = q at *
      by_cases d2 : m * 1000 < s.need * q
      · have f2 : decide (m * 1000 < s.need * q) = true := by simpa using d2
        have HZ := hid (show z = 2 by rw [← Hz.out, if_pos d2])
        clear d2 Hz
        go_wp2_with fail
        go_ret
        exact ⟨by rw [HZ.out]; rfl, HB.out⟩
      · have f2 : decide (m * 1000 < s.need * q) = false := by simpa using d2
        have HZ := hid (show z = 1 by rw [← Hz.out, if_neg d2])
        clear d2 Hz
        go_wp2_with fail
        go_ret
        exact ⟨by rw [HZ.out]; rfl, HB.out⟩
end
end Go.Proofs.Ytiokecadnmcpeab
namespace Go.Proofs.Ytiokecadnmcpeab
set_option linter.unusedVariables false
set_option linter.unusedSimpArgs false
open Go.ChangeShapes Go.WideShapes Go.ChangeAt Go.RowKit

theorem arrI_size (n : Nat) (f : Nat → Int) : (arrI n f).size = n := by simp [arrI]
theorem arrI_at (n : Nat) (f : Nat → Int) (k : Nat) (h : k < n) : (arrI n f)[k]? = some (.int .i64 (f k)) := by
  simp [arrI, h]
theorem arrI_one (n : Nat) (f : Nat → Int) : (arrI n f).all (·.oneCell') = true := by
  rw [Array.all_eq_true_iff_forall_mem]
  intro x hx
  simp only [arrI, List.mem_toArray, List.mem_map] at hx
  obtain ⟨a, _, rfl⟩ := hx
  rfl
theorem arrI_set (n : Nat) (f g : Nat → Int) (k : Nat) (v : Int) (h : k < n) (hg : ∀ i, i < n → g i = if i = k then v else f i) : (arrI n f).setIfInBounds k (.int .i64 v) = arrI n g := by
  apply Array.ext_getElem?
  intro i
  rw [Array.getElem?_setIfInBounds]
  by_cases hi : i < n
  · rw [arrI_at n g i hi, hg i hi]
    by_cases e : k = i
    · rw [if_pos e, if_pos (by rw [arrI_size]; omega), if_pos e.symm]
    · rw [if_neg e, if_neg (fun e2 => e e2.symm), arrI_at n f i hi]
  · have e1 : (arrI n g)[i]? = none := Array.getElem?_eq_none (by rw [arrI_size]; omega)
    have e2 : (arrI n f)[i]? = none := Array.getElem?_eq_none (by rw [arrI_size]; omega)
    rw [if_neg (by omega), e1, e2]
theorem arrI_congr (n : Nat) (f g : Nat → Int) (h : ∀ i, i < n → f i = g i) : arrI n f = arrI n g := by
  unfold arrI
  congr 1
  apply List.map_congr_left
  intro i hi
  rw [h i (by simpa using hi)]
theorem info_st : (Try.prog.info? 74).map (·.size) = some 7 := by kernel_rfl

section
variable {w : World} {x : Nat} {s : PS}

set_option maxHeartbeats 1600000 in
theorem forgiven_any (j : Nat → Int) (w : World) :
    Calls Try.prog 47 #[.agg (arrI 7 j)] w fun e w' => e = .returned (.agg (arrI 7 (fun a => if j a = 2 then 1 else j a))) ∧ Below w.heap.size w w' := by
  obtain ⟨R, hR⟩ : ∃ R, arrI 7 (fun a => if j a = 2 then 1 else j a) = R := ⟨_, rfl⟩
  rw [hR]
  have HR := hid hR
  clear hR
  obtain ⟨A, hA⟩ : ∃ A, A = arrI 7 j := ⟨_, rfl⟩
  rw [← hA]
  have HA := hid hA
  have hsz : A.size = 7 := by rw [hA, arrI_size]
  clear hA
  have H1 := hid (show ((w.alloc (.cells A 74)).alloc (.cells #[.int .i64 0, .int .i64 0, .int .i64 0, .int .i64 0, .int .i64 0, .int .i64 0, .int .i64 0] 74)).heap[w.heap.size]? = some (.cells A 74 (0, 0)) from (Below.heap_alloc _ _ _ (by simp)).trans (heap_alloc_new w _))
  have H2 := hid (show ((w.alloc (.cells A 74)).alloc (.cells #[.int .i64 0, .int .i64 0, .int .i64 0, .int .i64 0, .int .i64 0, .int .i64 0, .int .i64 0] 74)).heap[w.heap.size + 1]? = some (.cells #[.int .i64 0, .int .i64 0, .int .i64 0, .int .i64 0, .int .i64 0, .int .i64 0, .int .i64 0] 74 (0, 0)) by have := heap_alloc_new (w.alloc (.cells A 74)) (.cells #[.int .i64 0, .int .i64 0, .int .i64 0, .int .i64 0, .int .i64 0, .int .i64 0, .int .i64 0] 74); simpa using this)
  have H3 := hid (((Below.refl w.heap.size w).alloc (Nat.le_refl _) (.cells A 74)).alloc (by simp) (.cells #[.int .i64 0, .int .i64 0, .int .i64 0, .int .i64 0, .int .i64 0, .int .i64 0, .int .i64 0] 74))
  go_enter Try.func47, Try.ntmps47
  go_wp2_with fail
  go_loopw [4] (fun i wr => ∃ k : Nat, k ≤ 7 ∧ i = .int .i64 k ∧ wr.heap[w.heap.size]? = some (.cells (arrI 7 (fun a => if a < k ∧ j a = 2 then 1 else j a)) 74 (0, 0)) ∧ wr.heap[w.heap.size + 1]? = some (.cells #[.int .i64 0, .int .i64 0, .int .i64 0, .int .i64 0, .int .i64 0, .int .i64 0, .int .i64 0] 74 (0, 0)) ∧ Below w.heap.size w wr) (fun i _ => 7 - (intOf i).toNat)
  case atStart => exact ⟨0, by omega, rfl, by rw [H1.out, HA.out]; simp, H2.out, H3.out⟩
  case round =>
    clear H1 H2 H3 HA hsz
    obtain ⟨k, hk, rfl, G1, G2, hB⟩ := hrel
    by_cases hlt : k < 7
    · have hc : wr.cell? ⟨w.heap.size, k, none⟩ = some (.int .i64 (j k)) := by rw [cell_of_row wr _ k _ _ _ G1, arrI_at 7 _ k hlt]; simp
      have hf : wr.frozen? ⟨w.heap.size, k, none⟩ = false := frozen_of_row wr _ k _ _ G1
      have i1 : (k : Int) < 7 := by omega
      have N2 := hid (show (wr.setCell ⟨w.heap.size, k, none⟩ (.int .i64 1)).heap[w.heap.size]? = some (.cells ((arrI 7 (fun a => if a < k ∧ j a = 2 then 1 else j a)).setIfInBounds k (.int .i64 1)) 74 (0, 0)) from heap_setCell_same wr w.heap.size k _ _ (.int .i64 1) G1)
      have N3 := hid (show (wr.setCell ⟨w.heap.size, k, none⟩ (.int .i64 1)).heap[w.heap.size + 1]? = some (.cells #[.int .i64 0, .int .i64 0, .int .i64 0, .int .i64 0, .int .i64 0, .int .i64 0, .int .i64 0] 74 (0, 0)) from (Below.heap_setCell wr ⟨w.heap.size, k, none⟩ (.int .i64 1) _ (by show w.heap.size + 1 ≠ w.heap.size; omega)).trans G2)
      have N4 := hid (hB.setCell (p := ⟨w.heap.size, k, none⟩) (Nat.le_refl _) (.int .i64 1))
      have HG1 := hid G1
      have HG2 := hid G2
      have HB := hid hB
      clear G1 G2 hB
      by_cases h2 : j k = 2
      · have HH2 := hid h2
        rw [h2] at hc
        clear h2
        go_wp2_with fail
        go_roundw
        case rel => exact ⟨k + 1, by omega, by go_num, by rw [N2.out, arrI_set 7 _ (fun a => if a < k + 1 ∧ j a = 2 then 1 else j a) k 1 hlt (fun i hi => by
            by_cases e : i = k
            · subst e; simp [HH2.out]
            · simp only [if_neg e, show (i < k + 1 ↔ i < k) by omega])], N3.out, N4.out⟩
        case measure => simp [intOf]; omega
      · have HH2 := hid h2
        have h2' : (j k == 2) = false := by simpa using h2
        go_wp2_with fail
        go_roundw
        case rel => exact ⟨k + 1, by omega, by go_num, by rw [HG1.out, arrI_congr 7 _ (fun a => if a < k + 1 ∧ j a = 2 then 1 else j a) (fun i hi => by
            by_cases e : i = k
            · subst e; simp [HH2.out]
            · simp only [show (i < k + 1 ↔ i < k) by omega])], HG2.out, HB.out⟩
        case measure => simp [intOf]; omega
    · have hk7 : k = 7 := by omega
      subst hk7
      have e7 : arrI 7 (fun a => if a < 7 ∧ j a = 2 then 1 else j a) = arrI 7 (fun a => if j a = 2 then 1 else j a) := arrI_congr 7 _ _ (fun i hi => by simp [hi])
      rw [e7, HR.out] at G1
      have hs2 : R.size = 7 := by rw [← HR.out, arrI_size]
      have ho2 : R.all (·.oneCell') = true := by rw [← HR.out]; exact arrI_one 7 _
      clear e7
      go_wp2_with (first | (refine wpList_load_row rfl 74 _ rfl w.heap.size rfl 74 R (0, 0) _ G1 Try.underlying74 rfl (by rw [info_st, hs2]) ?_) | (refine wpList_store_row rfl 74 _ _ rfl (w.heap.size + 1) R rfl rfl 74 #[.int .i64 0, .int .i64 0, .int .i64 0, .int .i64 0, .int .i64 0, .int .i64 0, .int .i64 0] G2 (by rw [info_st, hs2]) (by rw [hs2]; rfl) ho2 ?_))
      have G3 : (wr.setRow (w.heap.size + 1) R).heap[w.heap.size + 1]? = some (.cells R 74 (0, 0)) := setRow_heap wr _ _ R _ _ G2
      have B3 := below_setRow hB (show w.heap.size ≤ w.heap.size + 1 by omega) R
      exact bodyPost_ret (results_cell_row rfl _ _ (w.heap.size + 1) 74 R (0, 0) _ rfl G3 Try.underlying74 rfl (by rw [info_st, hs2])) rfl ⟨rfl, B3⟩

set_option maxHeartbeats 1600000 in
theorem judge_any (h : SC w x s) (ok : s.Cf) :
    Calls Try.prog 25 #[.pointer (some ⟨x, 0, none⟩)] w fun e w' => e = .returned (.agg (arrI 7 s.stand)) ∧ Below w.heap.size w w' := by
  have hx := h.lt
  obtain ⟨A2, hA2⟩ : ∃ A2, A2 = arrI 7 s.stand := ⟨_, rfl⟩
  rw [← hA2]
  have HA2 := hid hA2
  clear hA2
  have H1 := hid (show ((w.alloc (.cells #[.int .i64 0, .int .i64 0, .int .i64 0, .int .i64 0, .int .i64 0, .int .i64 0, .int .i64 0] 74)).alloc (.cells #[.int .i64 0, .int .i64 0, .int .i64 0, .int .i64 0, .int .i64 0, .int .i64 0, .int .i64 0] 74)).heap[w.heap.size]? = some (.cells #[.int .i64 0, .int .i64 0, .int .i64 0, .int .i64 0, .int .i64 0, .int .i64 0, .int .i64 0] 74 (0, 0)) from (Below.heap_alloc _ _ _ (by simp)).trans (heap_alloc_new w _))
  have H2 := hid (show ((w.alloc (.cells #[.int .i64 0, .int .i64 0, .int .i64 0, .int .i64 0, .int .i64 0, .int .i64 0, .int .i64 0] 74)).alloc (.cells #[.int .i64 0, .int .i64 0, .int .i64 0, .int .i64 0, .int .i64 0, .int .i64 0, .int .i64 0] 74)).heap[w.heap.size + 1]? = some (.cells #[.int .i64 0, .int .i64 0, .int .i64 0, .int .i64 0, .int .i64 0, .int .i64 0, .int .i64 0] 74 (0, 0)) by have := heap_alloc_new (w.alloc (.cells #[.int .i64 0, .int .i64 0, .int .i64 0, .int .i64 0, .int .i64 0, .int .i64 0, .int .i64 0] 74)) (.cells #[.int .i64 0, .int .i64 0, .int .i64 0, .int .i64 0, .int .i64 0, .int .i64 0, .int .i64 0] 74); simpa using this)
  have H3 := hid (((Below.refl w.heap.size w).alloc (Nat.le_refl _) (.cells #[.int .i64 0, .int .i64 0, .int .i64 0, .int .i64 0, .int .i64 0, .int .i64 0, .int .i64 0] 74)).alloc (by simp) (.cells #[.int .i64 0, .int .i64 0, .int .i64 0, .int .i64 0, .int .i64 0, .int .i64 0, .int .i64 0] 74))
  go_enter Try.func25, Try.ntmps25
  go_wp2_with fail
  go_loopw [4, 7] (fun b i wr => ∃ k : Nat, k ≤ 7 ∧ i = .int .i64 k ∧ b = .bool (s.anyTo k) ∧ wr.heap[w.heap.size]? = some (.cells #[.int .i64 0, .int .i64 0, .int .i64 0, .int .i64 0, .int .i64 0, .int .i64 0, .int .i64 0] 74 (0, 0)) ∧ wr.heap[w.heap.size + 1]? = some (.cells (arrI 7 (fun a => if a < k then s.stand0 a else 0)) 74 (0, 0)) ∧ Below w.heap.size w wr) (fun _ i _ => 7 - (intOf i).toNat)
  case atStart => exact ⟨0, by omega, rfl, rfl, H1.out, by rw [H2.out]; rfl, H3.out⟩
  case round =>
    clear H1 H2 H3
    obtain ⟨k, hk, rfl, rfl, G1, G2, hB⟩ := hrel
    by_cases hlt : k < 7
    · have hs := h.below hB
      have i1 : (k : Int) < 7 := by omega
      have HG1 := hid G1
      have HG2 := hid G2
      have HB := hid hB
      have st := hid (show s.anyTo (k + 1) = (s.anyTo k || decide (s.stand0 k = 1)) from rfl)
      clear G1 G2 hB
      generalize s.anyTo k = b at *
      go_wp2_with fail
      refine (standing_any hs ok k hlt).mono ?_
      rintro e w1 ⟨rfl, b1⟩
      have g1 := (b1.block _ (lt_of_block HG1.out)).trans HG1.out
      have g2 := (b1.block _ (lt_of_block HG2.out)).trans HG2.out
      have B1 := HB.out.trans (b1.mono HB.out.size)
      have hc : w1.cell? ⟨w.heap.size + 1, k, none⟩ = some (.int .i64 0) := by rw [cell_of_row w1 _ k _ _ _ g2, arrI_at 7 _ k hlt]; simp
      have hf : w1.frozen? ⟨w.heap.size + 1, k, none⟩ = false := frozen_of_row w1 _ k _ _ g2
      have N2 := hid (show (w1.setCell ⟨w.heap.size + 1, k, none⟩ (.int .i64 (s.stand0 k))).heap[w.heap.size + 1]? = some (.cells (arrI 7 (fun a => if a < k + 1 then s.stand0 a else 0)) 74 (0, 0)) by
        rw [heap_setCell_same w1 (w.heap.size + 1) k _ _ (.int .i64 (s.stand0 k)) g2]
        rw [arrI_set 7 _ (fun a => if a < k + 1 then s.stand0 a else 0) k (s.stand0 k) hlt (fun i hi => by
            by_cases e : i = k
            · subst e; simp
            · simp only [if_neg e, show (i < k + 1 ↔ i < k) by omega])])
      have N1 := hid (show (w1.setCell ⟨w.heap.size + 1, k, none⟩ (.int .i64 (s.stand0 k))).heap[w.heap.size]? = some (.cells #[.int .i64 0, .int .i64 0, .int .i64 0, .int .i64 0, .int .i64 0, .int .i64 0, .int .i64 0] 74 (0, 0)) from (Below.heap_setCell w1 ⟨w.heap.size + 1, k, none⟩ _ _ (by show w.heap.size ≠ w.heap.size + 1; omega)).trans g1)
      have N4 := hid (B1.setCell (p := ⟨w.heap.size + 1, k, none⟩) (by show w.heap.size ≤ w.heap.size + 1; omega) (.int .i64 (s.stand0 k)))
      clear HG1 HG2 HB g1 g2 B1 b1 hs
      generalize s.stand0 k = z at *
      cases b with
      | true =>
        go_wp2_with fail
        go_roundw
        case rel => exact ⟨k + 1, by omega, by go_num, by rw [st.out]; rfl, N1.out, N2.out, N4.out⟩
        case measure => simp [intOf]; omega
      | false =>
        go_wp2_with fail
        go_roundw
        case rel => exact ⟨k + 1, by omega, by go_num, by rw [st.out]; rfl, N1.out, N2.out, N4.out⟩
        case measure => simp [intOf]; omega
    · have hk7 : k = 7 := by omega
      subst hk7
      have e7 : arrI 7 (fun a => if a < 7 then s.stand0 a else 0) = arrI 7 s.stand0 := arrI_congr 7 _ _ (fun i hi => by simp [hi])
      rw [e7] at G2
      obtain ⟨A, hA⟩ : ∃ A, A = arrI 7 s.stand0 := ⟨_, rfl⟩
      have HA := hid hA
      rw [← hA] at G2
      have hs2 : A.size = 7 := by rw [hA, arrI_size]
      have ho2 : A.all (·.oneCell') = true := by rw [hA]; exact arrI_one 7 _
      clear hA e7
      have hA2 := HA2.out
      have hs3 : A2.size = 7 := by rw [hA2, arrI_size]
      have ho3 : A2.all (·.oneCell') = true := by rw [hA2]; exact arrI_one 7 _
      obtain ⟨b, hb⟩ : ∃ b, s.anyTo 7 = b := ⟨_, rfl⟩
      rw [hb]
      cases b with
      | true =>
        have HAA := hid (show A2 = A by rw [hA2, HA.out]; exact arrI_congr 7 _ _ (fun i _ => by unfold PS.stand; rw [if_pos hb]))
        clear hA2 hb
        go_wp2_with (first | (refine wpList_load_row rfl 74 _ rfl (w.heap.size + 1) rfl 74 A (0, 0) _ G2 Try.underlying74 rfl (by rw [info_st, hs2]) ?_) | (refine wpList_store_row rfl 74 _ _ rfl w.heap.size A rfl rfl 74 #[.int .i64 0, .int .i64 0, .int .i64 0, .int .i64 0, .int .i64 0, .int .i64 0, .int .i64 0] G1 (by rw [info_st, hs2]) (by rw [hs2]; rfl) ho2 ?_))
        have G3 : (wr.setRow w.heap.size A).heap[w.heap.size]? = some (.cells A 74 (0, 0)) := setRow_heap wr _ _ A _ _ G1
        have B3 := below_setRow hB (Nat.le_refl w.heap.size) A
        exact bodyPost_ret (results_cell_row rfl _ _ w.heap.size 74 A (0, 0) _ rfl G3 Try.underlying74 rfl (by rw [info_st, hs2])) rfl ⟨by rw [HAA.out], B3⟩
      | false =>
        have HAA := hid (show arrI 7 (fun a => if s.stand0 a = 2 then 1 else s.stand0 a) = A2 by rw [hA2]; exact arrI_congr 7 _ _ (fun i _ => by simp only [PS.stand, hb, Bool.false_eq_true, if_false]))
        clear hA2 hb
        go_wp2_with (refine wpList_load_row rfl 74 _ rfl (w.heap.size + 1) rfl 74 A (0, 0) _ G2 Try.underlying74 rfl (by rw [info_st, hs2]) ?_)
        have hfg := forgiven_any s.stand0 wr
        rw [← HA.out, HAA.out] at hfg
        refine hfg.mono ?_
        rintro e w1 ⟨rfl, b1⟩
        have g1 := (b1.block _ (lt_of_block G1)).trans G1
        have B1 := hB.trans (b1.mono hB.size)
        clear G1 G2 hB b1 hfg
        go_wp2_with (refine wpList_store_row rfl 74 _ _ rfl w.heap.size A2 rfl rfl 74 #[.int .i64 0, .int .i64 0, .int .i64 0, .int .i64 0, .int .i64 0, .int .i64 0, .int .i64 0] g1 (by rw [info_st, hs3]) (by rw [hs3]; rfl) ho3 ?_)
        have G3 : (w1.setRow w.heap.size A2).heap[w.heap.size]? = some (.cells A2 74 (0, 0)) := setRow_heap w1 _ _ A2 _ _ g1
        have B3 := below_setRow B1 (Nat.le_refl w.heap.size) A2
        exact bodyPost_ret (results_cell_row rfl _ _ w.heap.size 74 A2 (0, 0) _ rfl G3 Try.underlying74 rfl (by rw [info_st, hs3])) rfl ⟨rfl, B3⟩
end
end Go.Proofs.Ytiokecadnmcpeab
namespace Go.Proofs.Ytiokecadnmcpeab
set_option linter.unusedVariables false
set_option linter.unusedSimpArgs false
open Go.ChangeShapes Go.WideShapes Go.ChangeAt Go.RowKit

theorem PTo.same {w w1 w2 : World} {x : Nat} {s1 : PS} (t : PTo w x w1 s1) (e1 : w2.heap = w1.heap) (e2 : w2.os = w1.os) (e3 : w2.tape = w1.tape) (e4 : w2.output = w1.output) : PTo w x w2 s1 :=
  ⟨t.sc.heap e1, ⟨e2.trans t.keeps.os, e3.trans t.keeps.tape, e4.trans t.keeps.output, by rw [e1]; exact t.keeps.size, fun k h1 h2 => by rw [e1]; exact t.keeps.block k h1 h2⟩⟩

/-- n of what is locked is queued, k + 1 epochs from now. -/
def Acc.unlock (c : Acc) (n : Int) (k : Nat) : Acc := { c with locked := c.locked - n, q := updQ c.q k (c.q k + n) }
def Acc.quit (c : Acc) (k : Nat) : Acc := { c.unlock c.locked k with bid := 0 }
def shiftQ (q : Nat → Int) (k : Nat) : Nat → Int := fun j => if j < k then q (j + 1) else q j
/-- What is due comes back. -/
def Acc.back (c : Acc) : Acc := { c with liquid := c.liquid + c.q 0, q := updQ (shiftQ c.q 4) 4 0 }

section
variable {w : World} {x : Nat} {s : PS}

set_option maxHeartbeats 800000 in
theorem await_ok (h : SC w x s) {a k : Nat} (ha : a < 7) (hk : k < 5) (e n : Int) (he : e = (k : Int) + 1) (hn : 0 ≤ n ∧ n ≤ 2000000000) (hb2 : 0 ≤ (s.acc a).q k ∧ (s.acc a).q k ≤ 2000000000) :
    Calls Try.prog 45 #[.pointer (some ⟨x, 10 + a * 11, none⟩), .int .i64 n, .int .i64 e] w fun e w' => e = .returned (.tuple #[]) ∧ PTo w x w' (s.setAcc a { s.acc a with q := updQ (s.acc a).q k ((s.acc a).q k + n) }) := by
  subst he
  have h1 : (1 : Int) ≤ (k : Int) + 1 := by omega
  have h2 : (k : Int) + 1 ≤ 5 := by omega
  have i1 : (k : Int) < 5 := by omega
  have cq := h.que ha hk
  have fq : w.frozen? ⟨x, 10 + a * 11 + 5 + k, none⟩ = false := h.frozen _
  have H2 := hid (h.setQue ha hk ((s.acc a).q k + n))
  generalize s.setAcc a { s.acc a with q := updQ (s.acc a).q k ((s.acc a).q k + n) } = s' at *
  generalize (s.acc a).q k = qk at *
  go_enter Try.func45, Try.ntmps45
  go_wp2_with fail
  refine (within_yes _ _ _ _ h1 h2).mono ?_
  rintro e w1 ⟨rfl, rfl⟩
  go_wp2_with fail
  go_region
  go_wp2_with fail
  go_end0
  exact ⟨rfl, H2.out.same rfl rfl rfl rfl⟩

set_option maxHeartbeats 800000 in
theorem unlock_ok (h : SC w x s) {a k : Nat} (ha : a < 7) (hk : k < 5) (e n : Int) (he : e = (k : Int) + 1) (hn : 0 ≤ n ∧ n ≤ 2000000000) (hb1 : 0 ≤ (s.acc a).locked ∧ (s.acc a).locked ≤ 2000000000) (hb2 : 0 ≤ (s.acc a).q k ∧ (s.acc a).q k ≤ 2000000000) :
    Calls Try.prog 53 #[.pointer (some ⟨x, 10 + a * 11, none⟩), .int .i64 n, .int .i64 e] w fun e w' => e = .returned (.tuple #[]) ∧ PTo w x w' (s.setAcc a ((s.acc a).unlock n k)) := by
  have He := hid he
  clear he
  have c1 : w.cell? ⟨x, 10 + a * 11 + 1, none⟩ = some (.int .i64 (s.acc a).locked) := h.at ha (j := 1) (by omega)
  have f1 : w.frozen? ⟨x, 10 + a * 11 + 1, none⟩ = false := h.frozen _
  have t1 := hid (h.setLock ha ((s.acc a).locked - n))
  have hq : 0 ≤ ((s.setAcc a { s.acc a with locked := (s.acc a).locked - n }).acc a).q k ∧ ((s.setAcc a { s.acc a with locked := (s.acc a).locked - n }).acc a).q k ≤ 2000000000 := by rw [PS.setAcc_same]; exact hb2
  have hs2 : (s.setAcc a { s.acc a with locked := (s.acc a).locked - n }).setAcc a { (s.setAcc a { s.acc a with locked := (s.acc a).locked - n }).acc a with q := updQ ((s.setAcc a { s.acc a with locked := (s.acc a).locked - n }).acc a).q k (((s.setAcc a { s.acc a with locked := (s.acc a).locked - n }).acc a).q k + n) } = s.setAcc a ((s.acc a).unlock n k) := by
    rw [PS.setAcc_same, PS.setAcc_setAcc]; rfl
  have Hs2 := hid hs2
  clear hs2
  go_enter Try.func53, Try.ntmps53
  go_wp2_with fail
  refine (await_ok t1.out.sc ha hk e n He.out hn hq).mono ?_
  rintro e w1 ⟨rfl, t2⟩
  rw [Hs2.out] at t2
  go_wp2_with fail
  go_end0
  exact ⟨rfl, t1.out.trans t2⟩

set_option maxHeartbeats 800000 in
theorem quit_ok (h : SC w x s) {a k : Nat} (ha : a < 7) (hk : k < 5) (e : Int) (he : e = (k : Int) + 1) (hb1 : 0 ≤ (s.acc a).locked ∧ (s.acc a).locked ≤ 2000000000) (hb2 : 0 ≤ (s.acc a).q k ∧ (s.acc a).q k ≤ 2000000000) :
    Calls Try.prog 51 #[.pointer (some ⟨x, 10 + a * 11, none⟩), .int .i64 e] w fun e w' => e = .returned (.tuple #[]) ∧ PTo w x w' (s.setAcc a ((s.acc a).quit k)) := by
  have He := hid he
  clear he
  have c1 : w.cell? ⟨x, 10 + a * 11 + 1, none⟩ = some (.int .i64 (s.acc a).locked) := h.at ha (j := 1) (by omega)
  go_enter Try.func51, Try.ntmps51
  go_wp2_with fail
  refine (unlock_ok h ha hk e _ He.out hb1 hb1 hb2).mono ?_
  rintro e w1 ⟨rfl, t1⟩
  have c2 : w1.cell? ⟨x, 10 + a * 11 + 2, none⟩ = some (.int .i64 ((s.setAcc a ((s.acc a).unlock (s.acc a).locked k)).acc a).bid) := t1.sc.at ha (j := 2) (by omega)
  have f2 : w1.frozen? ⟨x, 10 + a * 11 + 2, none⟩ = false := t1.sc.frozen _
  have t2 := t1.trans (t1.sc.setBid ha 0)
  rw [PS.setAcc_same, PS.setAcc_setAcc] at t2
  have H2 := hid (show PTo w x _ (s.setAcc a ((s.acc a).quit k)) from t2)
  clear t1 t2 c1
  go_wp2_with fail
  go_end0
  exact ⟨rfl, H2.out⟩

set_option maxHeartbeats 1600000 in
theorem back_ok (h : SC w x s) {a : Nat} (ha : a < 7) (hb1 : 0 ≤ (s.acc a).liquid ∧ (s.acc a).liquid ≤ 2000000000) (hb2 : 0 ≤ (s.acc a).q 0 ∧ (s.acc a).q 0 ≤ 2000000000) :
    Calls Try.prog 52 #[.pointer (some ⟨x, 10 + a * 11, none⟩)] w fun e w' => e = .returned (.tuple #[]) ∧ PTo w x w' (s.setAcc a (s.acc a).back) := by
  have c0 : w.cell? ⟨x, 10 + a * 11, none⟩ = some (.int .i64 (s.acc a).liquid) := h.at ha (j := 0) (by omega)
  have f0 : w.frozen? ⟨x, 10 + a * 11, none⟩ = false := h.frozen _
  have cq : w.cell? ⟨x, 10 + a * 11 + 5, none⟩ = some (.int .i64 ((s.acc a).q 0)) := h.at ha (j := 5) (by omega)
  have t1 := hid (show PTo w x _ (s.setAcc a { s.acc a with liquid := (s.acc a).liquid + (s.acc a).q 0, q := shiftQ (s.acc a).q 0 }) from h.setLiq ha ((s.acc a).liquid + (s.acc a).q 0))
  have hst := hid (show ∀ (wr : World) (k : Nat), k < 4 → PTo w x wr (s.setAcc a { s.acc a with liquid := (s.acc a).liquid + (s.acc a).q 0, q := shiftQ (s.acc a).q k }) →
      wr.cell? ⟨x, 10 + a * 11 + 5 + (k + 1), none⟩ = some (.int .i64 ((s.acc a).q (k + 1))) ∧ (∃ u, wr.cell? ⟨x, 10 + a * 11 + 5 + k, none⟩ = some (.int .i64 u)) ∧ wr.frozen? ⟨x, 10 + a * 11 + 5 + k, none⟩ = false ∧ PTo w x (wr.setCell ⟨x, 10 + a * 11 + 5 + k, none⟩ (.int .i64 ((s.acc a).q (k + 1)))) (s.setAcc a { s.acc a with liquid := (s.acc a).liquid + (s.acc a).q 0, q := shiftQ (s.acc a).q (k + 1) }) by
    intro wr k hk t
    have e1 := t.sc.que ha (k := k + 1) (by omega)
    have e2 := t.sc.que ha (k := k) (by omega)
    rw [PS.setAcc_same] at e1 e2
    have e3 : shiftQ (s.acc a).q k (k + 1) = (s.acc a).q (k + 1) := by unfold shiftQ; rw [if_neg (by omega)]
    simp only [e3] at e1
    refine ⟨e1, ⟨_, e2⟩, t.sc.frozen _, ?_⟩
    have t2 := t.trans (t.sc.setQue ha (k := k) (by omega) ((s.acc a).q (k + 1)))
    rw [PS.setAcc_same, PS.setAcc_setAcc] at t2
    have e4 : updQ (shiftQ (s.acc a).q k) k ((s.acc a).q (k + 1)) = shiftQ (s.acc a).q (k + 1) := by
      funext j
      unfold updQ shiftQ
      by_cases e : j = k
      · subst e; simp
      · by_cases e5 : j < k
        · simp [e, e5, show j < k + 1 by omega]
        · simp [e, e5, show ¬ j < k + 1 by omega]
    simp only [e4] at t2
    exact t2)
  have hfin := hid (show ∀ (wr : World), PTo w x wr (s.setAcc a { s.acc a with liquid := (s.acc a).liquid + (s.acc a).q 0, q := shiftQ (s.acc a).q 4 }) →
      (∃ u, wr.cell? ⟨x, 10 + a * 11 + 5 + 4, none⟩ = some (.int .i64 u)) ∧ wr.frozen? ⟨x, 10 + a * 11 + 5 + 4, none⟩ = false ∧ PTo w x (wr.setCell ⟨x, 10 + a * 11 + 5 + 4, none⟩ (.int .i64 0)) (s.setAcc a (s.acc a).back) by
    intro wr t
    have e2 := t.sc.que ha (k := 4) (by omega)
    refine ⟨⟨_, e2⟩, t.sc.frozen _, ?_⟩
    have t2 := t.trans (t.sc.setQue ha (k := 4) (by omega) 0)
    rw [PS.setAcc_same, PS.setAcc_setAcc] at t2
    exact t2)
  generalize s.setAcc a (s.acc a).back = sb at *
  go_enter Try.func52, Try.ntmps52
  go_wp2_with fail
  go_region
  go_wp2_with fail
  go_loopw [3] (fun i wr => ∃ k : Nat, k ≤ 4 ∧ i = .int .i64 k ∧ PTo w x wr (s.setAcc a { s.acc a with liquid := (s.acc a).liquid + (s.acc a).q 0, q := shiftQ (s.acc a).q k })) (fun i _ => 4 - (intOf i).toNat)
  case atStart => exact ⟨0, by omega, rfl, t1.out.same rfl rfl rfl rfl⟩
  case round =>
    clear t1 c0 f0 cq
    obtain ⟨k, hk, rfl, T⟩ := hrel
    by_cases hlt : k < 4
    · obtain ⟨e1, ⟨u, e2⟩, e3, e4⟩ := hst.out wr k hlt T
      have E4 := hid e4
      have i1 : (k : Int) < 5 := by omega
      have i2 : (k : Int) + 1 < 5 := by omega
      clear hst hfin T e4
      generalize (s.acc a).q (k + 1) = q1 at *
      go_wp2_with fail
      go_region
      go_wp2_with fail
      go_roundw
      case rel => exact ⟨k + 1, by omega, by go_num, E4.out.same rfl rfl rfl rfl⟩
      case measure => simp [intOf]; omega
    · have hk4 : k = 4 := by omega
      subst hk4
      obtain ⟨⟨u, e2⟩, e3, e4⟩ := hfin.out wr T
      have E4 := hid e4
      clear hst hfin T e4
      go_wp2_with fail
      go_end0
      exact ⟨rfl, E4.out⟩
end
end Go.Proofs.Ytiokecadnmcpeab
