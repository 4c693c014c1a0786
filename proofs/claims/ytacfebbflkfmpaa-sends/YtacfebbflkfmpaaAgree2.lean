import Derived.Test.YtacfebbflkfmpaaAgree
namespace Go.Proofs.Ytacfebbflkfmpaa
set_option linter.unusedVariables false
set_option linter.unusedSimpArgs false
open Go.ChangeShapes Go.WideShapes Go.ChangeAt Go.RowKit

theorem toIn_liq (fk fa fe te n : Int) (b i : Nat) : Mv.toIn ⟨fk, fa, fe, 1, (b : Int), te, n⟩ 1 (i : Int) = if b = i then n else 0 := by
  unfold Mv.toIn
  by_cases h : b = i
  · rw [if_pos h]; exact if_pos ⟨rfl, .inr (by rw [h])⟩
  · rw [if_neg h]; exact if_neg (fun hh => by have := hh.2; simp only at this; omega)
theorem toIn_tot (fk fa fe b te n : Int) : Mv.toIn ⟨fk, fa, fe, 1, b, te, n⟩ 1 (-1) = n := if_pos ⟨rfl, .inl (by omega)⟩
theorem fromIn_zero (fa fe tk ta te n a : Int) : Mv.fromIn ⟨0, fa, fe, tk, ta, te, n⟩ 1 a = 0 := if_neg (fun h => by have := h.1; simp only at this; omega)
theorem fromIn_liq (fe tk ta te n : Int) (b i : Nat) : Mv.fromIn ⟨1, (b : Int), fe, tk, ta, te, n⟩ 1 (i : Int) = if b = i then n else 0 := by
  unfold Mv.fromIn
  by_cases h : b = i
  · rw [if_pos h]; exact if_pos ⟨rfl, .inr (by rw [h])⟩
  · rw [if_neg h]; exact if_neg (fun hh => by have := hh.2; simp only at this; omega)
theorem fromIn_tot (fa fe tk ta te n : Int) : Mv.fromIn ⟨1, fa, fe, tk, ta, te, n⟩ 1 (-1) = n := if_pos ⟨rfl, .inl (by omega)⟩

/-! A new chain. -/
theorem startBook_mv (l : List Int) (n : Nat) : ∀ m, m ∈ startBook l n → m.tk = 1 ∧ (m.fk = 0 ∨ m.fk = 1) := by
  intro m hm
  simp only [startBook, List.mem_map] at hm
  obtain ⟨i, _, rfl⟩ := hm
  exact ⟨rfl, .inl rfl⟩

theorem startBook_at (l : List Int) (n a : Nat) : allOf (startBook l n) 1 (a : Int) = if a < n then l.getD a 0 else 0 := by
  induction n with
  | zero => simp [startBook, allOf]
  | succ n ih =>
    rw [startBook_succ, allOf_snoc, ih, toIn_liq, fromIn_zero]
    by_cases e : a = n
    · subst e
      rw [if_neg (by omega), if_pos rfl, if_pos (by omega)]
      omega
    · rw [if_neg (c := n = a) (fun h => e h.symm)]
      by_cases h : a < n
      · rw [if_pos h, if_pos (by omega)]; omega
      · rw [if_neg h, if_neg (by omega)]; omega

theorem startBook_tot (l : List Int) (n : Nat) : allOf (startBook l n) 1 (-1) = sumTo (fun a => l.getD a 0) n := by
  induction n with
  | zero => simp [startBook, allOf, sumTo]
  | succ n ih =>
    rw [startBook_succ, allOf_snoc, ih, toIn_tot, fromIn_zero]
    simp only [sumTo]
    omega

theorem sumTo_ext (f : Nat → Int) (n m : Nat) (h : n ≤ m) : sumTo (fun a => if a < n then f a else 0) m = sumTo f n := by
  induction m with
  | zero => obtain rfl : n = 0 := by omega
            rfl
  | succ m ih =>
    by_cases e : n = m + 1
    · subst e
      exact sumTo_congr _ fun k hk => by rw [if_pos hk]
    · simp only [sumTo]
      rw [ih (by omega), if_neg (by omega)]
      omega

theorem agree_new (s d r c : Int) (le : Nat) (ne : Int) (l : List Int) (hs : StartFit l) :
    Agree ⟨s, d, r, c, le, ne, l.length, startBook l l.length, List.replicate (l.length + 1) 0, List.replicate (l.length + 1) 0, 0, 0, [], List.replicate le false, List.replicate (l.length + 1) false⟩ (accOf l l.length) := by
  obtain ⟨⟨h1, h6⟩, hA⟩ := hs
  refine ⟨h1, h6, rfl, rfl, rfl, rfl, startBook_mv _ _, fun a ha => ?_, ?_, ?_, fun a ha => ?_⟩
  · show accOf l l.length a = { Acc.zero with liquid := allOf (startBook l l.length) 1 (a : Int) }
    rw [startBook_at]
    unfold accOf
    by_cases h : a < l.length
    · rw [if_pos h, if_pos h]
    · rw [if_neg h, if_neg h]; rfl
  · show allOf (startBook l l.length) 1 (-1) = sumTo (fun a => allOf (startBook l l.length) 1 (a : Int)) 7
    rw [startBook_tot, sumTo_congr (g := fun a => if a < l.length then l.getD a 0 else 0) 7 fun k _ => startBook_at l l.length k, sumTo_ext _ _ _ (by omega)]
  · show allOf (startBook l l.length) 1 (-1) ≤ 60000000
    rw [startBook_tot]
    have := (sumTo_bd (fun a => l.getD a 0) 10000000 l.length hA l.length (Nat.le_refl _)).2
    omega
  · show 0 ≤ allOf (startBook l l.length) 1 (a : Int)
    rw [startBook_at]
    by_cases h : a < l.length
    · rw [if_pos h]; exact (hA a h).1
    · rw [if_neg h]; omega

/-! A Send. -/
def sendMv (a b : Nat) (n : Int) : Mv := ⟨1, a, 0, 1, b, 0, n⟩

theorem send_at (bk : List Mv) (a b i : Nat) (n : Int) : allOf (bk ++ [sendMv a b n]) 1 (i : Int) = allOf bk 1 (i : Int) + (if b = i then n else 0) - (if a = i then n else 0) := by
  rw [allOf_snoc]
  unfold sendMv
  rw [toIn_liq, fromIn_liq]
theorem send_tot (bk : List Mv) (a b : Nat) (n : Int) : allOf (bk ++ [sendMv a b n]) 1 (-1) = allOf bk 1 (-1) := by
  rw [allOf_snoc]
  unfold sendMv
  rw [toIn_tot, fromIn_tot]
  omega

theorem sumTo_one (a : Nat) (n : Int) (m : Nat) : sumTo (fun i => if a = i then n else 0) m = if a < m then n else 0 := by
  induction m with
  | zero => rfl
  | succ m ih =>
    simp only [sumTo, ih]
    by_cases h : a < m
    · rw [if_pos h, if_neg (by omega), if_pos (by omega)]; omega
    · by_cases e : a = m
      · rw [if_neg h, if_pos e, if_pos (by omega)]; omega
      · rw [if_neg h, if_neg e, if_neg (by omega)]; omega
theorem sumTo_add (f g : Nat → Int) (m : Nat) : sumTo (fun i => f i + g i) m = sumTo f m + sumTo g m := by
  induction m with
  | zero => rfl
  | succ m ih => simp only [sumTo, ih]; omega
theorem sumTo_sub (f g : Nat → Int) (m : Nat) : sumTo (fun i => f i - g i) m = sumTo f m - sumTo g m := by
  induction m with
  | zero => rfl
  | succ m ih => simp only [sumTo, ih]; omega

theorem agree_send {r : RS} {acc : Nat → Acc} (ag : Agree r acc) (a b : Nat) (n : Int) (ha : a < r.N) (hb : b < r.N) (hn : 1 ≤ n) (hf : ¬ (acc a).liquid < n) :
    Agree { r with book := r.book ++ [sendMv a b n] } (updL (updL acc a ((acc a).liquid - n)) b ((updL acc a ((acc a).liquid - n) b).liquid + n)) ∧ (updL acc a ((acc a).liquid - n) b).liquid + n ≤ 1000000000 := by
  have h6 := ag.n6
  have la : (acc a).liquid = allOf r.book 1 (a : Int) := by rw [ag.liq a (by omega)]
  have lb : (acc b).liquid = allOf r.book 1 (b : Int) := by rw [ag.liq b (by omega)]
  have pa := ag.pos a (by omega)
  have pb := ag.pos b (by omega)
  have ma := ag.le a (by omega)
  have mb := ag.le b (by omega)
  have hlb : (updL acc a ((acc a).liquid - n) b).liquid = allOf r.book 1 (b : Int) - if a = b then n else 0 := by
    unfold updL
    by_cases e : b = a
    · rw [if_pos e, if_pos e.symm, e]; simp only; omega
    · rw [if_neg e, if_neg (fun h => e h.symm)]; omega
  refine ⟨⟨ag.n1, ag.n6, ag.ep, ag.pr, ag.bl, ag.hl, ?_, ?_, ?_, ?_, ?_⟩, ?_⟩
  · intro m hm
    rcases List.mem_append.1 hm with h | h
    · exact ag.mv m h
    · rw [List.mem_singleton.1 h]; exact ⟨rfl, .inr rfl⟩
  · intro i hi
    show updL (updL acc a ((acc a).liquid - n)) b ((updL acc a ((acc a).liquid - n) b).liquid + n) i = { Acc.zero with liquid := allOf (r.book ++ [sendMv a b n]) 1 (i : Int) }
    rw [send_at, hlb]
    by_cases e : i = b
    · subst e
      have e1 : updL (updL acc a ((acc a).liquid - n)) i (allOf r.book 1 (i : Int) - (if a = i then n else 0) + n) i = { updL acc a ((acc a).liquid - n) i with liquid := allOf r.book 1 (i : Int) - (if a = i then n else 0) + n } := by simp [updL]
      rw [e1]
      have e2 : updL acc a ((acc a).liquid - n) i = { Acc.zero with liquid := (updL acc a ((acc a).liquid - n) i).liquid } := by
        unfold updL
        by_cases e3 : i = a
        · subst e3; rw [if_pos rfl, ag.liq i hi]
        · rw [if_neg e3, ag.liq i hi]
      rw [e2]
      simp only [if_true]
      congr 1
      omega
    · have e1 : updL (updL acc a ((acc a).liquid - n)) b (allOf r.book 1 (b : Int) - (if a = b then n else 0) + n) i = updL acc a ((acc a).liquid - n) i := by simp [updL, e]
      rw [e1, if_neg (fun h => e h.symm)]
      unfold updL
      by_cases e3 : i = a
      · subst e3; rw [if_pos rfl, if_pos rfl, ag.liq i hi, Int.add_zero]
      · rw [if_neg e3, if_neg (fun h => e3 h.symm), ag.liq i hi, Int.add_zero, Int.sub_zero]
  · show allOf (r.book ++ [sendMv a b n]) 1 (-1) = sumTo (fun i => allOf (r.book ++ [sendMv a b n]) 1 (i : Int)) 7
    rw [send_tot, sumTo_congr (g := fun i => allOf r.book 1 (i : Int) + (if b = i then n else 0) - (if a = i then n else 0)) 7 fun k _ => send_at r.book a b k n]
    rw [sumTo_sub (fun i => allOf r.book 1 (i : Int) + (if b = i then n else 0)), sumTo_add, sumTo_one, sumTo_one, if_pos (by omega), if_pos (by omega), ← ag.tot]
    omega
  · show allOf (r.book ++ [sendMv a b n]) 1 (-1) ≤ 60000000
    rw [send_tot]; exact ag.max
  · intro i hi
    show 0 ≤ allOf (r.book ++ [sendMv a b n]) 1 (i : Int)
    rw [send_at]
    have pi := ag.pos i hi
    by_cases e : a = i
    · subst e
      rw [if_pos (c := a = a) rfl]
      by_cases e2 : b = a
      · rw [if_pos e2]; omega
      · rw [if_neg e2]; omega
    · rw [if_neg e]
      by_cases e2 : b = i
      · rw [if_pos e2]; omega
      · rw [if_neg e2]; omega
  · rw [hlb]
    by_cases e : a = b
    · rw [if_pos e]; omega
    · rw [if_neg e]; omega

section
variable {x y B : Nat} {r : RS} {acc : Nat → Acc} {v : Nat → Value}

theorem send_both (ag : Agree r acc) (a b n : Int) (hl : r.book.length * 56 + 56 ≤ 140737488355328) :
    (∃ er : Int, (∀ W, SC W x r.N 0 0 0 acc → Calls Try.prog 32 #[.pointer (some ⟨x, 0, none⟩), .int .i64 a, .int .i64 b, .int .i64 n] W fun e W' => e = .returned (.int .i64 er) ∧ Below W.heap.size W W') ∧
      (∀ W, RC W B y r v → Calls Try.prog 61 #[.pointer (some ⟨y, 0, none⟩), .int .i64 a, .int .i64 b, .int .i64 n] W fun e W' => e = .returned (.int .i64 er) ∧ Below W.heap.size W W')) ∨
    (∃ (acc' : Nat → Acc) (m : Mv), Agree { r with book := r.book ++ [m] } acc' ∧
      (∀ W, SC W x r.N 0 0 0 acc → Calls Try.prog 32 #[.pointer (some ⟨x, 0, none⟩), .int .i64 a, .int .i64 b, .int .i64 n] W fun e W' => e = .returned (.int .i64 0) ∧ SC W' x r.N 0 0 0 acc' ∧ Keeps (fun k => k = x) W W') ∧
      (∀ W, B ≤ W.heap.size → RC W B y r v → Calls Try.prog 61 #[.pointer (some ⟨y, 0, none⟩), .int .i64 a, .int .i64 b, .int .i64 n] W fun e W' => e = .returned (.int .i64 0) ∧ ∃ v', RC W' B y { r with book := r.book ++ [m] } v' ∧ Keeps (RFoot y v) W W' ∧ ∀ k, RFoot y v' k → RFoot y v k ∨ W.heap.size ≤ k)) := by
  have h1 := ag.n1
  have h6 := ag.n6
  by_cases hab : ¬ (0 ≤ a ∧ a ≤ (r.N : Int) - 1) ∨ ¬ (0 ≤ b ∧ b ≤ (r.N : Int) - 1)
  · exact .inl ⟨2, fun W hS => send_name hS h1 h6 a b n hab, fun W hR => rsend_name hR a b n h1 h6 hab⟩
  · have ha : 0 ≤ a ∧ a ≤ (r.N : Int) - 1 := by omega
    have hb : 0 ≤ b ∧ b ≤ (r.N : Int) - 1 := by omega
    by_cases hn : 1 ≤ n ∧ n ≤ 1000000000
    · obtain ⟨i, rfl⟩ := Int.eq_ofNat_of_zero_le ha.1
      obtain ⟨j, rfl⟩ := Int.eq_ofNat_of_zero_le hb.1
      have la : (acc i).liquid = allOf r.book 1 (i : Int) := by rw [ag.liq i (by omega)]
      have hw : wrap64 (allOf r.book 1 (i : Int)) = (acc i).liquid := by rw [la]; exact w64_id (ag.pos i (by omega)) (ag.le i (by omega))
      by_cases hf : (acc i).liquid < n
      · exact .inl ⟨4, fun W hS => send_funds hS h1 h6 i j n (by omega) (by omega) hn.1 hn.2 hf, fun W hR => rsend_funds hR _ _ n h1 h6 ha.1 ha.2 hb.1 hb.2 hn.1 hn.2 (by rw [hw]; exact hf)⟩
      · obtain ⟨ag', hmax⟩ := agree_send ag i j n (by omega) (by omega) hn.1 hf
        exact .inr ⟨_, sendMv i j n, ag', fun W hS => send_ok hS h1 h6 i j n (by omega) (by omega) hn.1 hn.2 hf hmax,
          fun W hB hR => rsend_ok hR _ _ n h1 h6 ha.1 ha.2 hb.1 hb.2 hn.1 hn.2 (by rw [hw]; exact hf) hl hB⟩
    · exact .inl ⟨3, fun W hS => send_amount hS h1 h6 a b n ha.1 ha.2 hb.1 hb.2 hn, fun W hR => rsend_amount hR a b n h1 h6 ha.1 ha.2 hb.1 hb.2 hn⟩
end
end Go.Proofs.Ytacfebbflkfmpaa
