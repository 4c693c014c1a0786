import Derived.Test.YtiokecadnmcpeaaKSale
import Derived.Test.YtiokecadnmcpeaaKMade2
namespace Go.Proofs.Ytiokecadnmcpeaa
set_option linter.unusedVariables false
set_option linter.unusedSimpArgs false

/-- How often a stands among the first n of a row. -/
def cntP (f : Nat → Int) (n : Nat) (a : Int) : Int := sumTo (fun j => if f j = a then 1 else 0) n
theorem sumTo_upd (g : Nat → Int) (i : Nat) (v : Int) (n : Nat) (hi : i < n) : sumTo (fun k => if k = i then v else g k) n = sumTo g n - g i + v := by
  induction n with
  | zero => omega
  | succ n ih =>
    simp only [sumTo]
    by_cases e : n = i
    · subst e
      rw [if_pos rfl]
      have : sumTo (fun k => if k = n then v else g k) n = sumTo g n := sumTo_congr n (fun k hk => by rw [if_neg (by omega)])
      omega
    · rw [if_neg e, ih (by omega)]; omega
theorem cnt_swap (f : Nat → Int) (i j n : Nat) (hi : i < n) (hj : j < n) (a : Int) : cntP (swapP f i j) n a = cntP f n a := by
  unfold cntP
  have e : sumTo (fun k => if swapP f i j k = a then (1 : Int) else 0) n = sumTo (fun k => if k = j then (if f i = a then 1 else 0) else (if k = i then (if f j = a then 1 else 0) else (if f k = a then (1 : Int) else 0))) n := sumTo_congr n (fun k hk => by
    unfold swapP
    by_cases e1 : k = j
    · simp [e1]
    · by_cases e2 : k = i
      · have e3 : ¬ i = j := by omega
        simp [e2, e3]
      · simp [e1, e2])
  rw [e, sumTo_upd (fun k => if k = i then (if f j = a then 1 else 0) else (if f k = a then (1 : Int) else 0)) j _ n hj, sumTo_upd (fun k => if f k = a then (1 : Int) else 0) i _ n hi]
  by_cases e3 : j = i
  · subst e3; simp
  · simp only [if_neg e3]; omega
theorem mem_swap (f : Nat → Int) (i j n : Nat) (hi : i < n) (hj : j < n) (P : Int → Prop) (h : ∀ k, k < n → P (f k)) : ∀ k, k < n → P (swapP f i j k) := fun k hk => by
  unfold swapP
  split
  · exact h i hi
  · split
    · exact h j hj
    · exact h k hk
theorem shuf_facts (n : Nat) : ∀ (r : Int) (f : Nat → Int) (m : Nat), n ≤ m → (∀ a, cntP (shufP n r f) m a = cntP f m a) ∧ ∀ P : Int → Prop, (∀ k, k < m → P (f k)) → ∀ k, k < m → P (shufP n r f k) := by
  induction n with
  | zero => intro r f m _; exact ⟨fun a => rfl, fun P h => h⟩
  | succ n ih =>
    cases n with
    | zero => intro r f m _; exact ⟨fun a => rfl, fun P h => h⟩
    | succ n =>
      intro r f m hm
      have hr := rollP_bd r
      have hj : (rollP r / 65536 % (n + 2)).toNat < m := by
        have h1 := Int.emod_nonneg (rollP r / 65536) (show ((n : Int) + 2) ≠ 0 by omega)
        have h2 := Int.emod_lt_of_pos (rollP r / 65536) (show (0 : Int) < (n : Int) + 2 by omega)
        omega
      obtain ⟨i1, i2⟩ := ih (rollP r) (swapP f (n + 1) (rollP r / 65536 % (n + 2)).toNat) m (by omega)
      refine ⟨fun a => ?_, fun P h => ?_⟩
      · show cntP (shufP (n + 1) (rollP r) (swapP f (n + 1) (rollP r / 65536 % (n + 2)).toNat)) m a = _
        rw [i1 a, cnt_swap f _ _ m (by omega) hj a]
      · exact i2 P (mem_swap f _ _ m (by omega) hj P h)
theorem cnt_tail (f : Nat → Int) (n m : Nat) (b a : Int) (h : ∀ j, n ≤ j → j < n + m → f j = b) : cntP f (n + m) a = cntP f n a + (if b = a then (m : Int) else 0) := by
  induction m with
  | zero => simp
  | succ m ih =>
    have i1 := ih (fun j h1 h2 => h j h1 (by omega))
    have e : cntP f (n + (m + 1)) a = cntP f (n + m) a + (if f (n + m) = a then 1 else 0) := rfl
    rw [e, i1, h (n + m) (by omega) (by omega)]
    split
    · push_cast; omega
    · omega
theorem cnt_congr (f g : Nat → Int) (n : Nat) (a : Int) (h : ∀ j, j < n → f j = g j) : cntP f n a = cntP g n a := sumTo_congr n (fun j hj => by rw [h j hj])
theorem cnt_mono (f : Nat → Int) {n m : Nat} (h : n ≤ m) (a : Int) : cntP f n a ≤ cntP f m a := sumTo_mono h (fun k hk => by split <;> omega)
theorem cnt_nonneg (f : Nat → Int) (n : Nat) (a : Int) : 0 ≤ cntP f n a := (psum_le _ n (fun k hk => by split <;> omega)).1
theorem rowTo_facts (s : PS) (ok : ∀ a, a < 7 → 0 ≤ (s.acc a).seats) (k : Nat) (hk : k ≤ 7) : (∀ a : Nat, cntP (s.rowTo k).row (s.rowTo k).rlen a = if a < k then (s.acc a).seats else 0) ∧ ∀ j, j < (s.rowTo k).rlen → ∃ a : Nat, a < k ∧ (s.rowTo k).row j = a ∧ 1 ≤ (s.acc a).seats := by
  induction k with
  | zero => exact ⟨fun a => rfl, fun j hj => absurd hj (Nat.not_lt_zero j)⟩
  | succ k ih =>
    obtain ⟨i1, i2⟩ := ih (by omega)
    have h0 := ok k (by omega)
    have er : (s.rowTo (k + 1)).row = fun j => if (s.rowTo k).rlen ≤ j ∧ j < (s.rowTo k).rlen + (s.acc k).seats.toNat then (k : Int) else (s.rowTo k).row j := rfl
    have el : (s.rowTo (k + 1)).rlen = (s.rowTo k).rlen + (s.acc k).seats.toNat := rfl
    rw [er, el]
    generalize (s.rowTo k).rlen = n at *
    generalize (s.rowTo k).row = f at *
    obtain ⟨m, hm⟩ : ∃ m : Nat, (s.acc k).seats = m := ⟨(s.acc k).seats.toNat, by omega⟩
    rw [hm]
    simp only [Int.toNat_natCast]
    refine ⟨fun a => ?_, fun j hj => ?_⟩
    · rw [cnt_tail _ n m k a (fun j h1 h2 => by rw [if_pos ⟨h1, h2⟩]), cnt_congr _ f n a (fun j hj => by rw [if_neg (by omega)]), i1 a]
      by_cases e : a = k
      · subst e; rw [if_neg (by omega), if_pos rfl, if_pos (by omega)]; omega
      · by_cases e2 : a < k
        · rw [if_pos e2, if_neg (by omega), if_pos (by omega)]; omega
        · rw [if_neg e2, if_neg (by omega), if_neg (by omega)]; rfl
    · by_cases e : n ≤ j ∧ j < n + m
      · exact ⟨k, by omega, by rw [if_pos e], by omega⟩
      · obtain ⟨a, a1, a2, a3⟩ := i2 j (by omega)
        exact ⟨a, by omega, by rw [if_neg e]; exact a2, a3⟩

/-- The turns are the seats, in some order. -/
structure PS.RowOk (s : PS) : Prop where
  len : (s.rlen : Int) = s.seatsTo 7
  cnt : ∀ a : Nat, a < 7 → cntP s.row s.rlen a = (s.acc a).seats
  mem : ∀ j, j < s.rlen → ∃ a : Nat, a ≤ s.N ∧ s.row j = a
theorem PS.RowOk.draw {s : PS} (h : s.Good) (seed : Int) : (s.draw seed).RowOk := by
  have ok : ∀ a, a < 7 → 0 ≤ (s.acc a).seats := fun a ha => (h.pos a ha).s0
  obtain ⟨r1, r2⟩ := rowTo_facts s ok 7 (Nat.le_refl _)
  have r3 := s.rowTo_len ok 7 (Nat.le_refl _)
  obtain ⟨s1, s2⟩ := shuf_facts (s.rowTo 7).rlen (seed % 2147483648) (s.rowTo 7).row (s.rowTo 7).rlen (Nat.le_refl _)
  obtain ⟨k0, k1, k2, k3, k4, k5, k6, k7, k8, k9, k10, k11⟩ := s.draw_kept seed
  have hs : ∀ a, a < 7 → ((s.draw seed).acc a).seats = (s.acc a).seats := fun a ha => by rw [k11 a ha]
  have er : (s.draw seed).row = shufP (s.rowTo 7).rlen (seed % 2147483648) (s.rowTo 7).row := rfl
  have el : (s.draw seed).rlen = (s.rowTo 7).rlen := rfl
  refine ⟨?_, fun a ha => ?_, fun j hj => ?_⟩
  · rw [el, r3]
    exact (sumTo_congr 7 hs).symm
  · rw [er, el, s1 a, r1 a, if_pos ha, hs a ha]
  · rw [er, k0]
    rw [el] at hj
    obtain ⟨a, a1, a2, a3⟩ := s2 (fun v => ∃ a : Nat, a < 7 ∧ v = a ∧ 1 ≤ (s.acc a).seats) (fun k hk => r2 k hk) j hj
    refine ⟨a, ?_, a2⟩
    apply Classical.byContradiction
    intro hn
    rw [h.far a (by omega)] at a3
    have : Acc.zero.seats = 0 := rfl
    omega
theorem PS.RowOk.next {s : PS} (h : s.Good) (hl : s.Low) (he : s.epoch ≤ 4611686018427387904) (seed : Int) : (s.next seed).RowOk := PS.RowOk.draw (PS.Good.p7 h hl he) seed
theorem PS.RowOk.did {s s' : PS} {o : StD} {er : Int} (k : s.RowOk) (h : s.Did o er s') (I : s.Inv) (he : s.epoch ≤ 4611686018427387904) : s'.RowOk := by
  by_cases hk : o.kind = 3
  · cases h using PS.Did.which with
    | no _ h => exact k
    | next h => exact PS.RowOk.next I.good I.low he o.A
    | idle h1 => exact absurd hk h1
    | _ => omega
  · have kk := h.kept I hk
    refine ⟨?_, fun a ha => ?_, fun j hj => ?_⟩
    · have e : s'.seatsTo 7 = s.seatsTo 7 := sumTo_congr 7 (fun a _ => kk.has a)
      rw [kk.rlen, e]; exact k.len
    · rw [kk.row, kk.rlen, kk.has a]; exact k.cnt a ha
    · rw [kk.row, kk.N]; rw [kk.rlen] at hj; exact k.mem j hj
theorem knew_row (s d r c le ne : Int) (l : List Int) : (newPS l.length s d r c le ne l l.length).RowOk := by
  have z : ∀ a, ((newPS l.length s d r c le ne l l.length).acc a).seats = 0 := fun a => by rw [knewPS_acc]; split <;> rfl
  refine ⟨?_, fun a ha => ?_, fun j hj => absurd hj (Nat.not_lt_zero j)⟩
  · have := sumTo_zero (f := fun a => ((newPS l.length s d r c le ne l l.length).acc a).seats) 7 (fun a _ => z a)
    exact this.symm
  · rw [z a]; rfl
end Go.Proofs.Ytiokecadnmcpeaa
