import Derived.Test.YtiokecadnmcpeabKMade
namespace Go.Proofs.Ytiokecadnmcpeab
set_option linter.unusedVariables false
set_option linter.unusedSimpArgs false
open Go.ChangeShapes Go.WideShapes Go.ChangeAt Go.RowKit

/-- What See tells of an account. -/
def Acc.told (c : Acc) : List Value := [.int .i64 c.liquid, .int .i64 c.locked, .int .i64 c.bid, .int .i64 c.queued, .int .i64 c.seats, .int .i64 c.shares]
def PS.toldTo (s : PS) (k : Nat) : List Value := (List.range k).flatMap (fun a => (s.acc a).told)
theorem PS.toldTo_succ (s : PS) (k : Nat) : s.toldTo (k + 1) = s.toldTo k ++ (s.acc k).told := by simp [PS.toldTo, List.range_succ]
theorem PS.toldTo_length (s : PS) (k : Nat) : (s.toldTo k).length = k * 6 := by
  induction k with
  | zero => rfl
  | succ k ih => rw [s.toldTo_succ, List.length_append, ih]; simp [Acc.told]; omega
theorem PS.toldTo_at (s : PS) (n a j : Nat) (ha : a < n) (hj : j < 6) : (s.toldTo n)[a * 6 + j]? = (s.acc a).told[j]? := by
  induction n with
  | zero => omega
  | succ n ih =>
    have hl := s.toldTo_length n
    rw [s.toldTo_succ]
    by_cases e : a < n
    · rw [List.getElem?_append_left (by omega)]; exact ih e
    · have : a = n := by omega
      subst this
      rw [List.getElem?_append_right (by omega), hl]
      congr 1; omega
theorem Acc.told_one (c : Acc) : ∀ u ∈ c.told, u.oneCell' = true := by
  intro u hu
  simp only [Acc.told, List.mem_cons, List.not_mem_nil, or_false] at hu
  rcases hu with rfl | rfl | rfl | rfl | rfl | rfl <;> rfl
theorem told_lies (w : World) (c : Acc) (t : TypeId) : ∀ j u, c.told[j]? = some u → (w.alloc (.cells #[.int .i64 c.liquid, .int .i64 c.locked, .int .i64 c.bid, .int .i64 c.queued, .int .i64 c.seats, .int .i64 c.shares] t)).cell? ((⟨w.heap.size, 0, none⟩ : Addr).add j) = some u := by
  intro j u hj
  rw [add_plain, Nat.zero_add, World.cell?_alloc_at _ _ _ _ rfl]
  simpa [Acc.told] using hj
theorem told_lies2 (w : World) (c : Acc) (t : TypeId) (o : Obj) : ∀ j u, c.told[j]? = some u → ((w.alloc o).alloc (.cells #[.int .i64 c.liquid, .int .i64 c.locked, .int .i64 c.bid, .int .i64 c.queued, .int .i64 c.seats, .int .i64 c.shares] t)).cell? ((⟨w.heap.size + 1, 0, none⟩ : Addr).add j) = some u := by
  intro j u hj
  have := told_lies (w.alloc o) c t j u hj
  rwa [World.size_alloc] at this
theorem seen_step {w w1 w2 : World} {o o' : Obj} {v : Value} {e size n : Nat} {xs : List Value} (hB : Below w.heap.size w w1) (hown : w1.ownsRow w.heap.size e size v n xs) (hg : ((w1.alloc o).alloc o').grownBy w2 v.ownBlock) : Below w.heap.size w w2 :=
  hB.trans ((((Keeps.refl (fun k => w.heap.size ≤ k) w1).alloc o).alloc o').grown hg (fun k hk _ => (hown.lt k hk).1) |>.below hB.size (fun i hi => hi))
theorem Try.info_account : (Try.prog.info? 51).map (fun i => (i.zero, i.size, i.bytes)) = some (some (.agg #[.int .i64 0, .int .i64 0, .int .i64 0, .int .i64 0, .int .i64 0, .int .i64 0]), 6, 48) := by kernel_rfl

section
variable {w : World} {x : Nat} {s : PS}
set_option maxHeartbeats 1600000 in
set_option maxRecDepth 100000 in
theorem kseen_any (h : SC w x s) (ok : s.Ok) :
    Calls Try.prog 6 #[.pointer (some ⟨x, 0, none⟩), .int .i64 s.N] w fun e w' => ∃ v, e = .returned (.tuple #[v, .bool true]) ∧ w'.ownsRow w.heap.size 51 6 v (s.N + 1) (s.toldTo (s.N + 1)) ∧ Below w.heap.size w w' := by
  obtain ⟨i0, hi, hz0, hz1, hz2⟩ := info_parts Try.info_account
  have hN := ok.N6
  have hx := h.lt
  go_enter Try.func6, Try.ntmps6
  go_wp2_with fail
  go_loopw [6, 7] (fun v i wr => ∃ k : Nat, k ≤ s.N + 1 ∧ i = .int .i64 k ∧ wr.ownsRow w.heap.size 51 6 v k (s.toldTo k) ∧ Below w.heap.size w wr) (fun _ i _ => s.N + 1 - (intOf i).toNat)
  case atStart => exact ⟨0, Nat.zero_le _, rfl, World.ownsRow_nil _ _ _ _, Below.refl _ _⟩
  case round =>
    obtain ⟨k, hk, rfl, hown, hB⟩ := hrel
    have hsz := hB.size
    by_cases hlt : k ≤ s.N
    · have l1 : (k : Int) ≤ (s.N : Int) := by omega
      have hS := h.below hB
      have Hown := hid hown
      have HB := hid hB
      clear hown hB
      go_wp2_with fail
      refine (see_yes hS ok k hlt).mono ?_
      rintro e w1 ⟨rfl, b1⟩
      have ho1 := (Keeps.ofBelow (F := fun _ => False) b1).owns Hown.out (fun _ _ hf => hf)
      have hb1 := HB.out.trans (b1.mono hsz)
      have hsz1 := b1.size
      have tl := s.toldTo_succ k
      have HT := hid tl
      clear Hown HB b1 tl hS
      have hone := Acc.told_one (s.acc k)
      have Hone := hid hone
      clear hone
      go_wp2_with (at_builtin; (refine wpList_append_lies _ rfl (.tmp 23) (.tmp 25) 30 rfl w.heap.size 51 i0 (.agg #[.int .i64 0, .int .i64 0, .int .i64 0, .int .i64 0, .int .i64 0, .int .i64 0]) 6 48 Try.underlying30 hi hz0 hz1 hz2 rfl (by decide) _ k (s.toldTo k) rfl ((ho1.alloc _).alloc _) ⟨w1.heap.size + 1, 0, none⟩ 1 1 (s.acc k).told rfl rfl (told_lies2 _ _ _ _) Hone.out (by decide) (by unfold maxLen; omega) (by omega) (by simp; omega) (w1.heap.size + 2) (by simp) ?_); intro g1 cap1 w2 hown' hg hat hlt1; have hb2 := hid (seen_step hb1 ho1 hg); have ho2 := hid (show w2.ownsRow w.heap.size 51 6 (.slice (some ⟨g1, 0, none⟩) (k + 1) cap1) (k + 1) (s.toldTo (k + 1)) by rw [HT.out]; exact hown'); clear hown' hg ho1 hb1)
      go_roundw
      case rel => exact ⟨k + 1, by omega, by go_num, ho2.out, hb2.out⟩
      case measure => simp [intOf]; omega
    · have hk2 : k = s.N + 1 := by omega
      have l1 : ¬ (k : Int) ≤ (s.N : Int) := by omega
      have ho2 := hid (show wr.ownsRow w.heap.size 51 6 u6 (s.N + 1) (s.toldTo (s.N + 1)) by rw [← hk2]; exact hown)
      clear hown hk2
      go_wp2
      go_ret2
      exact ⟨_, rfl, ho2.out, hB⟩
end
end Go.Proofs.Ytiokecadnmcpeab
