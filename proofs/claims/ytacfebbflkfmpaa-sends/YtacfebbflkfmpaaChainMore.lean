import Derived.Test.YtacfebbflkfmpaaChainCalls
namespace Go.Proofs.Ytacfebbflkfmpaa
open Go.ChangeShapes Go.WideShapes Go.ChangeAt Go.RowKit
section
variable {w : World} {x people : Nat} {epoch treasury price : Int} {acc : Nat → Acc}

theorem SC.heap {w' : World} (h : SC w x people epoch treasury price acc) (e : w'.heap = w.heap) : SC w' x people epoch treasury price acc := by
  have hc : ∀ j, w'.cell? ⟨x, j, none⟩ = w.cell? ⟨x, j, none⟩ := fun j => World.cell?_of_block (by rw [e])
  have hf : ∀ j, w'.frozen? ⟨x, j, none⟩ = w.frozen? ⟨x, j, none⟩ := fun j => World.frozen?_of_block (by rw [e])
  exact ⟨(hc _).trans h.c0, (hc _).trans h.c1, (hc _).trans h.c2, (hc _).trans h.c3, fun a ha j hj => (hc _).trans (h.rows a ha j hj), fun j => (hf j).trans (h.frozen j), h.ok⟩

set_option maxHeartbeats 1600000 in
theorem state_any (h : SC w x people epoch treasury price acc) (ht0 : 0 ≤ treasury) (ht1 : treasury ≤ 1000000000) :
    Calls Try.prog 37 #[.pointer (some ⟨x, 0, none⟩)] w fun e w' => e = .returned (.agg #[.int .i64 epoch, .int .i64 (treasury + sumTo (fun a => (acc a).tot) 7), .int .i64 treasury, .int .i64 price, .int .i64 (sumTo (fun a => (acc a).shares) 7)]) ∧ Below w.heap.size w w' := by
  have hx := h.lt
  have hne : w.heap.size ≠ x := by omega
  generalize hW : w.alloc (.cells #[.int .i64 0, .int .i64 0, .int .i64 0, .int .i64 0, .int .i64 0] 75) = W
  have hWb : Below w.heap.size w W := by rw [← hW]; exact (Below.refl _ _).alloc (Nat.le_refl _) _
  have hres : W.heap[w.heap.size]? = some (.cells #[.int .i64 0, .int .i64 0, .int .i64 0, .int .i64 0, .int .i64 0] 75 (0, 0)) := by rw [← hW]; exact heap_alloc_new w _
  have Hres : Hid (W.heap[w.heap.size]? = some (.cells #[.int .i64 0, .int .i64 0, .int .i64 0, .int .i64 0, .int .i64 0] 75 (0, 0))) := hres
  have hs : SC W x people epoch treasury price acc := h.below hWb
  have d1 := hs.c1
  have d2 := hs.c2
  have d3 := hs.c3
  have r0 : W.cell? ⟨w.heap.size, 0, none⟩ = some (.int .i64 0) := cell_of_row W _ 0 _ _ _ hres
  have r1 : W.cell? ⟨w.heap.size, 1, none⟩ = some (.int .i64 0) := cell_of_row W _ 1 _ _ _ hres
  have r2 : W.cell? ⟨w.heap.size, 2, none⟩ = some (.int .i64 0) := cell_of_row W _ 2 _ _ _ hres
  have r3 : W.cell? ⟨w.heap.size, 3, none⟩ = some (.int .i64 0) := cell_of_row W _ 3 _ _ _ hres
  have r4 : W.cell? ⟨w.heap.size, 4, none⟩ = some (.int .i64 0) := cell_of_row W _ 4 _ _ _ hres
  have rf : ∀ j, W.frozen? ⟨w.heap.size, j, none⟩ = false := fun j => frozen_of_row W _ j _ _ hres
  have HW : Hid (w.alloc (.cells #[.int .i64 0, .int .i64 0, .int .i64 0, .int .i64 0, .int .i64 0] 75) = W) := hW
  clear hW hres
  generalize hT : sumTo (fun a => (acc a).tot) 7 = T at *
  have HT : Hid (sumTo (fun a => (acc a).tot) 7 = T) := hT
  clear hT
  generalize hU : sumTo (fun a => (acc a).shares) 7 = U at *
  have HU : Hid (sumTo (fun a => (acc a).shares) 7 = U) := hU
  clear hU
  go_enter Try.func37, Try.ntmps37
  go_wp2_with fail
  rw [HW.out]
  go_region_held (fun w' => w'.cell? ⟨x, 1, none⟩ = some (.int .i64 epoch) ∧ w'.cell? ⟨x, 2, none⟩ = some (.int .i64 treasury) ∧ w'.cell? ⟨x, 3, none⟩ = some (.int .i64 price)) (go_keep) ((first | (go_at_call 51; refine (supply_any (by exact hs.heap rfl) ht0 ht1).mono ?_; rintro e w' ⟨rfl, n1, rfl⟩; rw [HT.out]) | (go_at_call 52; refine (allshares_any (by exact hs.heap rfl)).mono ?_; rintro e w' ⟨rfl, n2, rfl⟩; rw [HU.out])))
  all_goals
    go_wp2
    have hfb := five_block (W := W.drewN (1 + n1 + n2)) (.int .i64 epoch) (.int .i64 (treasury + T)) (.int .i64 treasury) (.int .i64 price) (.int .i64 U) Hres.out
    have hfl := five_below (.int .i64 epoch) (.int .i64 (treasury + T)) (.int .i64 treasury) (.int .i64 price) (.int .i64 U) (below_dn hWb (1 + n1 + n2))
    change bodyPost _ _ _ _ _ (five (W.drewN (1 + n1 + n2)) w.heap.size (.int .i64 epoch) (.int .i64 (treasury + T)) (.int .i64 treasury) (.int .i64 price) (.int .i64 U))
    generalize five (W.drewN (1 + n1 + n2)) w.heap.size (.int .i64 epoch) (.int .i64 (treasury + T)) (.int .i64 treasury) (.int .i64 price) (.int .i64 U) = Wf at *
    have s0 : Wf.cell? ⟨w.heap.size, 0, none⟩ = some (.int .i64 epoch) := cell_of_row Wf _ 0 _ _ _ hfb
    have s1 : Wf.cell? ⟨w.heap.size, 1, none⟩ = some (.int .i64 (treasury + T)) := cell_of_row Wf _ 1 _ _ _ hfb
    have s2 : Wf.cell? ⟨w.heap.size, 2, none⟩ = some (.int .i64 treasury) := cell_of_row Wf _ 2 _ _ _ hfb
    have s3 : Wf.cell? ⟨w.heap.size, 3, none⟩ = some (.int .i64 price) := cell_of_row Wf _ 3 _ _ _ hfb
    have s4 : Wf.cell? ⟨w.heap.size, 4, none⟩ = some (.int .i64 U) := cell_of_row Wf _ 4 _ _ _ hfb
    exact bodyPost_ret (v := .agg #[.int .i64 epoch, .int .i64 (treasury + T), .int .i64 treasury, .int .i64 price, .int .i64 U]) (by simp [results, Try.results37, go_sem, s0, s1, s2, s3, s4]) rfl ⟨rfl, hfl⟩

set_option maxHeartbeats 800000 in
theorem duein_zero (b off : Nat) (k : Int) (w : World) (hk : ¬ (1 ≤ k ∧ k ≤ 5)) :
    Calls Try.prog 68 #[.pointer (some ⟨b, off, none⟩), .int .i64 k] w fun e w' => e = .returned (.int .i64 0) ∧ w' = w := by
  have Hk : Hid (¬ (1 ≤ k ∧ k ≤ 5)) := hk
  clear hk
  go_enter Try.func68, Try.ntmps68
  go_wp2_with fail
  refine (within_no _ _ _ _ Hk.out).mono ?_
  rintro e w1 ⟨rfl, rfl⟩
  go_wp2
  go_ret
  exact ⟨rfl, rfl⟩

set_option maxHeartbeats 800000 in
theorem duein_some (b off : Nat) (k : Nat) (q : Int) (w : World) (hk : k < 5) (hc : w.cell? ⟨b, off + 5 + k, none⟩ = some (.int .i64 q)) :
    Calls Try.prog 68 #[.pointer (some ⟨b, off, none⟩), .int .i64 ((k : Int) + 1)] w fun e w' => e = .returned (.int .i64 q) ∧ w' = w := by
  have h1 : (1 : Int) ≤ (k : Int) + 1 := by omega
  have h2 : (k : Int) + 1 ≤ 5 := by omega
  go_enter Try.func68, Try.ntmps68
  go_wp2_with fail
  refine (within_yes _ _ _ _ h1 h2).mono ?_
  rintro e w1 ⟨rfl, rfl⟩
  go_wp2
  go_ret
  exact ⟨rfl, rfl⟩

set_option maxHeartbeats 800000 in
theorem due_no (h : SC w x people epoch treasury price acc) (a ep : Int) (hn : ¬ (0 ≤ a ∧ a ≤ (people : Int))) :
    Calls Try.prog 49 #[.pointer (some ⟨x, 0, none⟩), .int .i64 a, .int .i64 ep] w fun e w' => e = .returned (.tuple #[.int .i64 0, .int .i64 2]) ∧ Below w.heap.size w w' := by
  have Hn : Hid (¬ (0 ≤ a ∧ a ≤ (people : Int))) := hn
  clear hn
  go_enter Try.func49, Try.ntmps49
  go_wp2_with fail
  refine (isacc_no h _ Hn.out).mono ?_
  rintro e w1 ⟨rfl, rfl⟩
  go_wp2_with fail
  go_ret2
  exact ⟨rfl, Below.refl _ _⟩

set_option maxHeartbeats 800000 in
theorem due_past (h : SC w x people epoch treasury price acc) (a ep : Int) (h1 : 0 ≤ a) (h2 : a ≤ (people : Int)) (he : ep ≤ epoch) :
    Calls Try.prog 49 #[.pointer (some ⟨x, 0, none⟩), .int .i64 a, .int .i64 ep] w fun e w' => e = .returned (.tuple #[.int .i64 0, .int .i64 0]) ∧ Below w.heap.size w w' := by
  have c1 := h.c1
  go_enter Try.func49, Try.ntmps49
  go_wp2_with fail
  refine (isacc_yes h _ h1 h2).mono ?_
  rintro e w1 ⟨rfl, rfl⟩
  go_wp2_with fail
  go_ret2
  exact ⟨rfl, Below.refl _ _⟩

set_option maxHeartbeats 800000 in
theorem due_far (h : SC w x people epoch treasury price acc) (a : Nat) (ep : Int) (hep : ep ≤ 9223372036854775807) (hp6 : people ≤ 6) (h2 : a ≤ people) (he0 : 0 ≤ epoch) (he : epoch + 5 < ep) :
    Calls Try.prog 49 #[.pointer (some ⟨x, 0, none⟩), .int .i64 a, .int .i64 ep] w fun e w' => e = .returned (.tuple #[.int .i64 0, .int .i64 0]) ∧ Below w.heap.size w w' := by
  have c1 := h.c1
  have g1 : (0 : Int) ≤ (a : Int) := by omega
  have g2 : (a : Int) ≤ (people : Int) := by omega
  have g3 : (a : Int) < 7 := by omega
  have hz : Hid (¬ (1 ≤ ep - epoch ∧ ep - epoch ≤ 5)) := by unfold Hid; omega
  go_enter Try.func49, Try.ntmps49
  go_wp2_with fail
  refine (isacc_yes h _ g1 g2).mono ?_
  rintro e w1 ⟨rfl, rfl⟩
  go_wp2_with fail
  go_quiet ((go_at_call 68; exact Calls.quiet_of_same (duein_zero _ _ _ _ hz.out)))
  go_wp2_with fail
  go_ret2
  exact ⟨rfl, below_dn (Below.refl _ _) _⟩

set_option maxHeartbeats 800000 in
theorem due_near (h : SC w x people 0 treasury price acc) (a k : Nat) (hp6 : people ≤ 6) (h2 : a ≤ people) (hk : k < 5) (q : Int) (hq : w.cell? ⟨x, 4 + a * 10 + 5 + k, none⟩ = some (.int .i64 q)) :
    Calls Try.prog 49 #[.pointer (some ⟨x, 0, none⟩), .int .i64 a, .int .i64 ((k : Int) + 1)] w fun e w' => e = .returned (.tuple #[.int .i64 q, .int .i64 0]) ∧ Below w.heap.size w w' := by
  have c1 := h.c1
  have g1 : (0 : Int) ≤ (a : Int) := by omega
  have g2 : (a : Int) ≤ (people : Int) := by omega
  have g3 : (a : Int) < 7 := by omega
  have Hq : Hid (w.cell? ⟨x, 4 + a * 10 + 5 + k, none⟩ = some (.int .i64 q)) := hq
  clear hq
  go_enter Try.func49, Try.ntmps49
  go_wp2_with fail
  refine (isacc_yes h _ g1 g2).mono ?_
  rintro e w1 ⟨rfl, rfl⟩
  go_wp2_with fail
  go_quiet ((go_at_call 68; exact Calls.quiet_of_same (duein_some _ _ k q _ hk (by exact Hq.out))))
  go_wp2_with fail
  go_ret2
  exact ⟨rfl, below_dn (Below.refl _ _) _⟩

def updL (acc : Nat → Acc) (a : Nat) (v : Int) : Nat → Acc := fun i => if i = a then { acc a with liquid := v } else acc i

theorem SC.setL (h : SC w x people epoch treasury price acc) (a : Nat) (ha : a < 7) (v : Int) (hv0 : 0 ≤ v) (hv1 : v ≤ 1000000000) :
    SC (w.setCell ⟨x, 4 + a * 10, none⟩ (.int .i64 v)) x people epoch treasury price (updL acc a v) := by
  have ho : ∀ j, j ≠ 4 + a * 10 → (w.setCell ⟨x, 4 + a * 10, none⟩ (.int .i64 v)).cell? ⟨x, j, none⟩ = w.cell? ⟨x, j, none⟩ := fun j hj => World.cell?_setCell_other _ _ _ _ (by intro e; simp only [Addr.mk.injEq] at e; omega)
  refine ⟨(ho _ (by omega)).trans h.c0, (ho _ (by omega)).trans h.c1, (ho _ (by omega)).trans h.c2, (ho _ (by omega)).trans h.c3, fun i hi j hj => ?_, fun j => ?_, fun i hi => ?_⟩
  · by_cases e : i = a
    · subst e
      simp only [updL, if_pos]
      by_cases e2 : j = 0
      · subst e2
        exact World.cell?_setCell_same _ _ _ (h.rows i hi 0 (by omega))
      · rw [ho _ (by omega), h.rows i hi j hj]
        rcases (show j = 1 ∨ j = 2 ∨ j = 3 ∨ j = 4 ∨ j = 5 ∨ j = 6 ∨ j = 7 ∨ j = 8 ∨ j = 9 by omega) with rfl | rfl | rfl | rfl | rfl | rfl | rfl | rfl | rfl <;> rfl
    · simp only [updL, if_neg e]
      rw [ho _ (by omega), h.rows i hi j hj]
  · rw [World.frozen?_setCell]; exact h.frozen j
  · by_cases e : i = a
    · subst e
      simp only [updL, if_pos]
      exact { h.ok i hi with l0 := hv0, l1 := hv1 }
    · simp only [updL, if_neg e]; exact h.ok i hi

set_option maxHeartbeats 800000 in
theorem send_name (h : SC w x people epoch treasury price acc) (hp : 1 ≤ people) (hp6 : people ≤ 6) (a b n : Int) (hab : ¬ (0 ≤ a ∧ a ≤ (people : Int) - 1) ∨ ¬ (0 ≤ b ∧ b ≤ (people : Int) - 1)) :
    Calls Try.prog 32 #[.pointer (some ⟨x, 0, none⟩), .int .i64 a, .int .i64 b, .int .i64 n] w fun e w' => e = .returned (.int .i64 2) ∧ Below w.heap.size w w' := by
  by_cases ha : 0 ≤ a ∧ a ≤ (people : Int) - 1
  · have Hb : Hid (¬ (0 ≤ b ∧ b ≤ (people : Int) - 1)) := hab.resolve_left (fun hn => hn ha)
    clear hab
    obtain ⟨ha1, ha2⟩ := ha
    go_enter Try.func32, Try.ntmps32
    go_wp2_with fail
    refine (isper_yes h hp hp6 _ ha1 ha2).mono ?_
    rintro e w1 ⟨rfl, rfl⟩
    go_wp2_with fail
    refine (isper_no h hp hp6 _ Hb.out).mono ?_
    rintro e w1 ⟨rfl, rfl⟩
    go_wp2_with fail
    go_ret
    exact ⟨rfl, Below.refl _ _⟩
  · have Ha : Hid (¬ (0 ≤ a ∧ a ≤ (people : Int) - 1)) := ha
    clear ha hab
    go_enter Try.func32, Try.ntmps32
    go_wp2_with fail
    refine (isper_no h hp hp6 _ Ha.out).mono ?_
    rintro e w1 ⟨rfl, rfl⟩
    go_wp2_with fail
    go_ret
    exact ⟨rfl, Below.refl _ _⟩

set_option maxHeartbeats 800000 in
theorem send_amount (h : SC w x people epoch treasury price acc) (hp : 1 ≤ people) (hp6 : people ≤ 6) (a b n : Int) (ha1 : 0 ≤ a) (ha2 : a ≤ (people : Int) - 1) (hb1 : 0 ≤ b) (hb2 : b ≤ (people : Int) - 1) (hn : ¬ (1 ≤ n ∧ n ≤ 1000000000)) :
    Calls Try.prog 32 #[.pointer (some ⟨x, 0, none⟩), .int .i64 a, .int .i64 b, .int .i64 n] w fun e w' => e = .returned (.int .i64 3) ∧ Below w.heap.size w w' := by
  have Hn : Hid (¬ (1 ≤ n ∧ n ≤ 1000000000)) := hn
  clear hn
  go_enter Try.func32, Try.ntmps32
  go_wp2_with fail
  refine (isper_yes h hp hp6 _ ha1 ha2).mono ?_
  rintro e w1 ⟨rfl, rfl⟩
  go_wp2_with fail
  refine (isper_yes h hp hp6 _ hb1 hb2).mono ?_
  rintro e w1 ⟨rfl, rfl⟩
  go_wp2_with fail
  refine (within_no _ _ _ _ Hn.out).mono ?_
  rintro e w1 ⟨rfl, rfl⟩
  go_wp2_with fail
  go_ret
  exact ⟨rfl, Below.refl _ _⟩

set_option maxHeartbeats 800000 in
theorem send_funds (h : SC w x people epoch treasury price acc) (hp : 1 ≤ people) (hp6 : people ≤ 6) (a b : Nat) (n : Int) (ha2 : a < people) (hb2 : b < people) (hn1 : 1 ≤ n) (hn2 : n ≤ 1000000000) (hf : (acc a).liquid < n) :
    Calls Try.prog 32 #[.pointer (some ⟨x, 0, none⟩), .int .i64 a, .int .i64 b, .int .i64 n] w fun e w' => e = .returned (.int .i64 4) ∧ Below w.heap.size w w' := by
  have e0 : w.cell? ⟨x, 4 + a * 10, none⟩ = some (.int .i64 (acc a).liquid) := h.rows a (by omega) 0 (by omega)
  have g1 : (0 : Int) ≤ (a : Int) := by omega
  have g2 : (a : Int) ≤ (people : Int) - 1 := by omega
  have g3 : (0 : Int) ≤ (b : Int) := by omega
  have g4 : (b : Int) ≤ (people : Int) - 1 := by omega
  have g5 : (a : Int) < 7 := by omega
  go_enter Try.func32, Try.ntmps32
  go_wp2_with fail
  refine (isper_yes h hp hp6 _ g1 g2).mono ?_
  rintro e w1 ⟨rfl, rfl⟩
  go_wp2_with fail
  refine (isper_yes h hp hp6 _ g3 g4).mono ?_
  rintro e w1 ⟨rfl, rfl⟩
  go_wp2_with fail
  refine (within_yes _ _ _ _ hn1 hn2).mono ?_
  rintro e w1 ⟨rfl, rfl⟩
  go_wp2_with fail
  go_ret
  exact ⟨rfl, Below.refl _ _⟩

set_option maxHeartbeats 1600000 in
theorem send_ok (h : SC w x people epoch treasury price acc) (hp : 1 ≤ people) (hp6 : people ≤ 6) (a b : Nat) (n : Int) (ha2 : a < people) (hb2 : b < people) (hn1 : 1 ≤ n) (hn2 : n ≤ 1000000000) (hf : ¬ (acc a).liquid < n) (hmax : (updL acc a ((acc a).liquid - n) b).liquid + n ≤ 1000000000) :
    Calls Try.prog 32 #[.pointer (some ⟨x, 0, none⟩), .int .i64 a, .int .i64 b, .int .i64 n] w fun e w' => e = .returned (.int .i64 0) ∧
      SC w' x people epoch treasury price (updL (updL acc a ((acc a).liquid - n)) b ((updL acc a ((acc a).liquid - n) b).liquid + n)) ∧ Keeps (fun k => k = x) w w' := by
  have e0 : w.cell? ⟨x, 4 + a * 10, none⟩ = some (.int .i64 (acc a).liquid) := h.rows a (by omega) 0 (by omega)
  have f0 : w.frozen? ⟨x, 4 + a * 10, none⟩ = false := h.frozen _
  have l0 := (h.ok a (by omega)).l0
  have l1 := (h.ok a (by omega)).l1
  have h1 : SC (w.setCell ⟨x, 4 + a * 10, none⟩ (.int .i64 ((acc a).liquid - n))) x people epoch treasury price (updL acc a ((acc a).liquid - n)) := h.setL a (by omega) _ (by omega) (by omega)
  have e1 : (w.setCell ⟨x, 4 + a * 10, none⟩ (.int .i64 ((acc a).liquid - n))).cell? ⟨x, 4 + b * 10, none⟩ = some (.int .i64 (updL acc a ((acc a).liquid - n) b).liquid) := h1.rows b (by omega) 0 (by omega)
  have f1 : (w.setCell ⟨x, 4 + a * 10, none⟩ (.int .i64 ((acc a).liquid - n))).frozen? ⟨x, 4 + b * 10, none⟩ = false := h1.frozen _
  have m0 := (h1.ok b (by omega)).l0
  have h2 : SC ((w.setCell ⟨x, 4 + a * 10, none⟩ (.int .i64 ((acc a).liquid - n))).setCell ⟨x, 4 + b * 10, none⟩ (.int .i64 ((updL acc a ((acc a).liquid - n) b).liquid + n))) x people epoch treasury price (updL (updL acc a ((acc a).liquid - n)) b ((updL acc a ((acc a).liquid - n) b).liquid + n)) := h1.setL b (by omega) _ (by omega) (by omega)
  have k2 : Keeps (fun k => k = x) w ((w.setCell ⟨x, 4 + a * 10, none⟩ (.int .i64 ((acc a).liquid - n))).setCell ⟨x, 4 + b * 10, none⟩ (.int .i64 ((updL acc a ((acc a).liquid - n) b).liquid + n))) := ((Keeps.refl (fun k => k = x) w).setCell ⟨x, 4 + a * 10, none⟩ _ (fun _ => rfl)).setCell ⟨x, 4 + b * 10, none⟩ _ (fun _ => rfl)
  generalize updL (updL acc a ((acc a).liquid - n)) b ((updL acc a ((acc a).liquid - n) b).liquid + n) = acc2 at *
  generalize (updL acc a ((acc a).liquid - n) b).liquid = lb at *
  have g1 : (0 : Int) ≤ (a : Int) := by omega
  have g2 : (a : Int) ≤ (people : Int) - 1 := by omega
  have g3 : (0 : Int) ≤ (b : Int) := by omega
  have g4 : (b : Int) ≤ (people : Int) - 1 := by omega
  have g5 : (a : Int) < 7 := by omega
  have g6 : (b : Int) < 7 := by omega
  have H2 : Hid _ := h2
  have K2 : Hid _ := k2
  clear h1 h2 k2
  go_enter Try.func32, Try.ntmps32
  go_wp2_with fail
  refine (isper_yes h hp hp6 _ g1 g2).mono ?_
  rintro e w1 ⟨rfl, rfl⟩
  go_wp2_with fail
  refine (isper_yes h hp hp6 _ g3 g4).mono ?_
  rintro e w1 ⟨rfl, rfl⟩
  go_wp2_with fail
  refine (within_yes _ _ _ _ hn1 hn2).mono ?_
  rintro e w1 ⟨rfl, rfl⟩
  go_wp2_with fail
  go_region
  go_wp2_with fail
  go_region
  go_wp2_with fail
  go_ret
  exact ⟨rfl, H2.out.heap rfl, ⟨K2.out.os, K2.out.tape, K2.out.output, K2.out.size, K2.out.block⟩⟩
end
end Go.Proofs.Ytacfebbflkfmpaa
