import Derived.Test.YtiokecadnmcpeabAgB
import Derived.Test.YtiokecadnmcpeabPDue
namespace Go.Proofs.Ytiokecadnmcpeab
set_option linter.unusedVariables false
set_option linter.unusedSimpArgs false
open Go.ChangeShapes Go.WideShapes Go.ChangeAt Go.RowKit

theorem wfb {n : Int} (h : (Lit.int .i64 n).wf = true) : -9223372036854775808 ≤ n ∧ n ≤ 9223372036854775807 := by
  simp only [Lit.wf, IntKind.min, IntKind.max, IntKind.signed, IntKind.bits, Bool.and_eq_true, decide_eq_true_eq, if_true] at h
  omega

/-- Two calls of which nothing changes give the same. -/
def SameAsk (fx fy : Nat) (args : List Value) (x y B : Nat) (s : PS) (r : RS) (v : Nat → Value) : Prop := ∃ e : Value,
  (∀ W, SC W x s → Calls Try.prog fx (.pointer (some ⟨x, 0, none⟩) :: args).toArray W fun e' W' => e' = .returned e ∧ Below W.heap.size W W') ∧
  (∀ W, RC W B y r v → Calls Try.prog fy (.pointer (some ⟨y, 0, none⟩) :: args).toArray W fun e' W' => e' = .returned e ∧ Below W.heap.size W W')
/-- Two calls give the same, and the chains agree behind them. -/
def SameDo (fx fy : Nat) (args : List Value) (x y B d : Nat) (s : PS) (r : RS) (v : Nat → Value) : Prop := ∃ (er : Int) (s' : PS) (r' : RS), Ag s' r' ∧ r'.book.length ≤ r.book.length + d ∧ r'.epoch ≤ r.epoch + d ∧
  (∀ W, SC W x s → Calls Try.prog fx (.pointer (some ⟨x, 0, none⟩) :: args).toArray W fun e' W' => e' = .returned (.int .i64 er) ∧ PTo W x W' s') ∧
  (∀ W, RC W B y r v → Calls Try.prog fy (.pointer (some ⟨y, 0, none⟩) :: args).toArray W fun e' W' => e' = .returned (.int .i64 er) ∧ ∃ v', RTo W B y v W' r' v')

section
variable {x y B : Nat} {s : PS} {r : RS} {v : Nat → Value}

theorem see_both (ag : Ag s r) (a : Int) : ∃ c0 c1 c2 c3 c4 c5 er : Int,
    (∀ W, SC W x s → Calls Try.prog 15 #[.pointer (some ⟨x, 0, none⟩), .int .i64 a] W fun e W' => e = .returned (.tuple #[.agg #[.int .i64 c0, .int .i64 c1, .int .i64 c2, .int .i64 c3, .int .i64 c4, .int .i64 c5], .int .i64 er]) ∧ Below W.heap.size W W') ∧
    (∀ W, RC W B y r v → Calls Try.prog 76 #[.pointer (some ⟨y, 0, none⟩), .int .i64 a] W fun e W' => e = .returned (.tuple #[.agg #[.int .i64 c0, .int .i64 c1, .int .i64 c2, .int .i64 c3, .int .i64 c4, .int .i64 c5], .int .i64 er]) ∧ Below W.heap.size W W') := by
  by_cases ha : 0 ≤ a ∧ a ≤ (r.N : Int)
  · obtain ⟨n, rfl⟩ := Int.eq_ofNat_of_zero_le ha.1
    have hN := ag.N
    have hn : n ≤ s.N := by omega
    have A := ag.amt
    have hN6 := ag.good.N6
    refine ⟨(s.acc n).liquid, (s.acc n).locked, (s.acc n).bid, (s.acc n).queued, (s.acc n).seats, (s.acc n).shares, 0, fun W hS => see_yes hS ag.good.ok n hn, fun W hR => ?_⟩
    have hh := rsee_yes hR n (by omega) (by omega) (by rw [ag.bl, hN]) (by rw [ag.hl, hN])
    rw [w64_id (A.all 1 n (by omega) (by omega) (by omega) (by omega)), w64_id (A.all 2 n (by omega) (by omega) (by omega) (by omega)), w64_id (A.all 3 n (by omega) (by omega) (by omega) (by omega)), w64_id (A.all 5 n (by omega) (by omega) (by omega) (by omega)),
      ag.bk.all 1 n (by omega) (by omega) hn, ag.bk.all 2 n (by omega) (by omega) hn, ag.bk.all 3 n (by omega) (by omega) hn, ag.bk.all 5 n (by omega) (by omega) hn, ag.bid n hn, ag.has n hn] at hh
    exact hh
  · exact ⟨0, 0, 0, 0, 0, 0, 2, fun W hS => see_no hS a (by rw [ag.N]; exact ha), fun W hR => rsee_no hR a ha⟩

theorem state_both (ag : Ag s r) : ∃ c0 c1 c2 c3 c4 : Int,
    (∀ W, SC W x s → Calls Try.prog 7 #[.pointer (some ⟨x, 0, none⟩)] W fun e W' => e = .returned (.agg #[.int .i64 c0, .int .i64 c1, .int .i64 c2, .int .i64 c3, .int .i64 c4]) ∧ Below W.heap.size W W') ∧
    (∀ W, RC W B y r v → Calls Try.prog 77 #[.pointer (some ⟨y, 0, none⟩)] W fun e W' => e = .returned (.agg #[.int .i64 c0, .int .i64 c1, .int .i64 c2, .int .i64 c3, .int .i64 c4]) ∧ Below W.heap.size W W') := by
  refine ⟨s.epoch, s.supply, s.treasury, s.price, s.allShares, fun W hS => state_any hS ag.good.ok, fun W hR => ?_⟩
  have hh := rstate hR
  have A := ag.amt
  have hs := ag.bk.supply ag.good
  unfold supplyOf at hs
  have hb : 0 ≤ s.supply ∧ s.supply ≤ 1000000000 := ⟨ag.good.sup0, ag.good.sup⟩
  have ht : allOf r.book 4 (-1) = s.treasury := by
    rw [ag.bk.sum 4 (by omega) (by omega)]
    have : ∀ n, sumTo (s.amt 4) (n + 1) = s.treasury := fun n => by
      induction n with
      | zero => simp [sumTo, PS.amt]
      | succ n ih => simp only [sumTo] at *; rw [ih]; simp [PS.amt]
    exact this s.N
  have hsh : allOf r.book 5 (-1) = s.allShares := by
    rw [ag.bk.sum 5 (by omega) (by omega)]
    have hN6 := ag.good.N6
    have e : ∀ d, sumTo (fun a => (s.acc a).shares) (s.N + 1 + d) = sumTo (s.amt 5) (s.N + 1) := fun d => by
      induction d with
      | zero => exact sumTo_congr _ (fun k _ => rfl)
      | succ d ih =>
        rw [show s.N + 1 + (d + 1) = (s.N + 1 + d) + 1 by omega]
        simp only [sumTo] at *
        rw [ih, ag.good.far (s.N + 1 + d) (by omega)]
        simp [Acc.zero]
    have e7 := e (7 - (s.N + 1))
    rw [show s.N + 1 + (7 - (s.N + 1)) = 7 by omega] at e7
    exact e7.symm
  rw [hs, w64_id hb, w64_id (A.all 4 (-1) (by omega) (by omega) (by omega) (by omega)), w64_id (A.all 5 (-1) (by omega) (by omega) (by omega) (by omega)), ht, hsh, ← ag.epoch, ← ag.price] at hh
  exact hh

theorem due_both (ag : Ag s r) (a ep : Int) (hep : (Lit.int .i64 ep).wf = true) : ∃ n er : Int,
    (∀ W, SC W x s → Calls Try.prog 78 #[.pointer (some ⟨x, 0, none⟩), .int .i64 a, .int .i64 ep] W fun e W' => e = .returned (.tuple #[.int .i64 n, .int .i64 er]) ∧ Below W.heap.size W W') ∧
    (∀ W, RC W B y r v → Calls Try.prog 79 #[.pointer (some ⟨y, 0, none⟩), .int .i64 a, .int .i64 ep] W fun e W' => e = .returned (.tuple #[.int .i64 n, .int .i64 er]) ∧ Below W.heap.size W W') := by
  by_cases ha : 0 ≤ a ∧ a ≤ (r.N : Int)
  · obtain ⟨n, rfl⟩ := Int.eq_ofNat_of_zero_le ha.1
    have hN := ag.N
    have hn : n ≤ s.N := by omega
    have A := ag.amt
    refine ⟨s.dueOf n ep, 0, fun W hS => ?_, fun W hR => ?_⟩
    · by_cases h1 : ep ≤ s.epoch
      · have : s.dueOf n ep = 0 := by unfold PS.dueOf; rw [if_neg (by omega)]
        rw [this]
        exact due_past hS n ep ha.1 (by omega) h1
      · by_cases h2 : s.epoch + 5 < ep
        · have : s.dueOf n ep = 0 := by unfold PS.dueOf; rw [if_neg (by omega)]
          rw [this]
          exact due_far hS n ep (wfb hep).2 ag.good.ok hn h2
        · obtain ⟨k, hk⟩ : ∃ k : Nat, ep = s.epoch + ((k : Int) + 1) := ⟨(ep - s.epoch - 1).toNat, by omega⟩
          have : s.dueOf n ep = (s.acc n).q k := by unfold PS.dueOf; rw [if_pos (by omega), show (ep - s.epoch - 1).toNat = k by omega]
          rw [this, hk]
          exact due_near hS ag.good.ok n k hn (by omega)
    · have hh := rdue_yes hR n ep ha.1 ha.2
      rw [w64_id (A.due n ep (by omega)), ag.bk.due n ep hn] at hh
      exact hh
  · exact ⟨0, 2, fun W hS => due_no hS a ep (by rw [ag.N]; exact ha), fun W hR => rdue_no hR a ep ha⟩

theorem leader_both (ag : Ag s r) (he : r.epoch ≤ 4611686018427387904) (a : Int) : ∃ n er : Int,
    (∀ W, SC W x s → Calls Try.prog 80 #[.pointer (some ⟨x, 0, none⟩), .int .i64 a] W fun e W' => e = .returned (.tuple #[.int .i64 n, .int .i64 er]) ∧ Below W.heap.size W W') ∧
    (∀ W, RC W B y r v → Calls Try.prog 81 #[.pointer (some ⟨y, 0, none⟩), .int .i64 a] W fun e W' => e = .returned (.tuple #[.int .i64 n, .int .i64 er]) ∧ Below W.heap.size W W') := by
  have cf := ag.cfg he
  by_cases ha : 0 ≤ a ∧ a ≤ r.length - 1
  · obtain ⟨n, rfl⟩ := Int.eq_ofNat_of_zero_le ha.1
    have hL := ag.length
    by_cases hz : s.rlen = 0
    · exact ⟨0, 11, fun W hS => leader_none hS ag.good.toCf n ha.1 (by omega) hz, fun W hR => rleader_none hR cf n ha.1 ha.2 (by rw [ag.rlen]; exact hz)⟩
    · have hp : 0 < s.rlen := by omega
      refine ⟨s.row (n % s.rlen), 0, fun W hS => leader_ok hS ag.good.toCf n (by omega) hp, fun W hR => ?_⟩
      have hh := rleader_ok hR cf n ha.2 (by rw [ag.rlen]; exact hp)
      unfold RS.leadAt at hh
      rw [ag.rlen, ag.row _ (Nat.mod_lt _ hp)] at hh
      exact hh
  · exact ⟨0, 10, fun W hS => leader_height hS ag.good.toCf a (by rw [ag.length]; exact ha), fun W hR => rleader_height hR cf a ha⟩

theorem PTo.ofBelow' {W W' : World} (h : SC W x s) (b : Below W.heap.size W W') : PTo W x W' s := PTo.ofBelow h b

theorem send_both (ag : Ag s r) (a b n : Int) (hl : r.book.length * 56 + 56 ≤ 140737488355328) : SameDo 10 82 [.int .i64 a, .int .i64 b, .int .i64 n] x y B 1 s r v := by
  have hN := ag.N
  have N1 := ag.good.N1
  have N6 := ag.good.N6
  have ok := ag.good.ok
  have same : r.book.length ≤ r.book.length + 1 ∧ r.epoch ≤ r.epoch + ((1 : Nat) : Int) := ⟨by omega, by omega⟩
  by_cases hab : ¬ (0 ≤ a ∧ a ≤ (r.N : Int) - 1) ∨ ¬ (0 ≤ b ∧ b ≤ (r.N : Int) - 1)
  · exact ⟨2, s, r, ag, same.1, same.2, fun W hS => (send_name hS ok a b n (by rw [hN]; exact hab)).mono (fun e W' ⟨h1, h2⟩ => ⟨h1, PTo.ofBelow hS h2⟩), fun W hR => (rsend_name hR a b n (by omega) (by omega) hab).mono (fun e W' ⟨h1, h2⟩ => ⟨h1, v, RTo.ofBelow hR h2⟩)⟩
  · have ha : 0 ≤ a ∧ a ≤ (r.N : Int) - 1 := by omega
    have hb : 0 ≤ b ∧ b ≤ (r.N : Int) - 1 := by omega
    by_cases hn : 1 ≤ n ∧ n ≤ 1000000000
    · obtain ⟨i, rfl⟩ := Int.eq_ofNat_of_zero_le ha.1
      obtain ⟨j, rfl⟩ := Int.eq_ofNat_of_zero_le hb.1
      have hw : wrap64 (allOf r.book 1 (i : Int)) = (s.acc i).liquid := by rw [w64_id (ag.amt.all 1 i (by omega) (by omega) (by omega) (by omega))]; exact ag.liq i (by omega)
      by_cases hf : (s.acc i).liquid < n
      · exact ⟨4, s, r, ag, same.1, same.2, fun W hS => (send_funds hS ok i j n (by omega) (by omega) hn.1 hn.2 hf).mono (fun e W' ⟨h1, h2⟩ => ⟨h1, PTo.ofBelow hS h2⟩), fun W hR => (rsend_funds hR _ _ n (by omega) (by omega) ha.1 ha.2 hb.1 hb.2 hn.1 hn.2 (by rw [hw]; exact hf)).mono (fun e W' ⟨h1, h2⟩ => ⟨h1, v, RTo.ofBelow hR h2⟩)⟩
      · refine ⟨0, _, _, ag.send i j n (by omega) (by omega) hn.1 hf, by simp, same.2, fun W hS => send_ok hS ok i j n (by omega) (by omega) hn.1 hn.2 hf, fun W hR => ?_⟩
        refine (rsend_ok hR _ _ n (by omega) (by omega) ha.1 ha.2 hb.1 hb.2 hn.1 hn.2 (by rw [hw]; exact hf) hl hR.size).mono ?_
        rintro e W' ⟨h1, v', h2, h3, h4⟩
        exact ⟨h1, v', h2, h3, h4⟩
    · exact ⟨3, s, r, ag, same.1, same.2, fun W hS => (send_amount hS ok a b n ha.1 (by omega) hb.1 (by omega) hn).mono (fun e W' ⟨h1, h2⟩ => ⟨h1, PTo.ofBelow hS h2⟩), fun W hR => (rsend_amount hR a b n (by omega) (by omega) ha.1 ha.2 hb.1 hb.2 hn).mono (fun e W' ⟨h1, h2⟩ => ⟨h1, v, RTo.ofBelow hR h2⟩)⟩

theorem bid_both (ag : Ag s r) (he : r.epoch ≤ 4611686018427387904) (a n : Int) (hl : r.book.length * 56 + 56 ≤ 140737488355328) : SameDo 18 83 [.int .i64 a, .int .i64 n] x y B 1 s r v := by
  have hN := ag.N
  have N1 := ag.good.N1
  have N6 := ag.good.N6
  have ok := ag.good.ok
  have cf := ag.cfg he
  have A := ag.amt
  have same : r.book.length ≤ r.book.length + 1 ∧ r.epoch ≤ r.epoch + ((1 : Nat) : Int) := ⟨by omega, by omega⟩
  by_cases ha : 0 ≤ a ∧ a ≤ (r.N : Int) - 1
  · by_cases hn : 0 ≤ n ∧ n ≤ 1000000000
    · obtain ⟨i, rfl⟩ := Int.eq_ofNat_of_zero_le ha.1
      have h1 := ag.liq i (by omega)
      have h2 := ag.lock i (by omega)
      by_cases hf : (s.acc i).liquid < n - (s.acc i).locked
      · exact ⟨4, s, r, ag, same.1, same.2, fun W hS => (bid_funds hS ok i n (by omega) hn.1 hn.2 hf).mono (fun e W' ⟨h1, h2⟩ => ⟨h1, PTo.ofBelow hS h2⟩), fun W hR => (rbid_funds hR cf A i n ha.1 ha.2 hn.1 hn.2 (by rw [h1, h2]; omega)).mono (fun e W' ⟨h1, h2⟩ => ⟨h1, v, RTo.ofBelow hR h2⟩)⟩
      · refine ⟨0, _, _, ag.bids i n (by omega) hn.1 hn.2 (by omega), ?_, ?_, fun W hS => bid_ok hS ok i n (by omega) hn.1 hn.2 (by omega), fun W hR => rbid_ok hR cf A i n (by omega) hn.1 hn.2 (by rw [h1, h2]; omega) hl⟩
        · show (if allOf r.book 2 i < n then r.push ⟨1, i, 0, 2, i, 0, n - allOf r.book 2 i⟩ else r).book.length ≤ _
          split
          · simp [RS.push]
          · omega
        · show (if allOf r.book 2 i < n then r.push ⟨1, i, 0, 2, i, 0, n - allOf r.book 2 i⟩ else r).epoch ≤ _
          split
          · exact same.2
          · exact same.2
    · exact ⟨3, s, r, ag, same.1, same.2, fun W hS => (bid_amount hS ok a n ha.1 (by omega) hn).mono (fun e W' ⟨h1, h2⟩ => ⟨h1, PTo.ofBelow hS h2⟩), fun W hR => (rbid_amount hR cf a n ha.1 ha.2 hn).mono (fun e W' ⟨h1, h2⟩ => ⟨h1, v, RTo.ofBelow hR h2⟩)⟩
  · exact ⟨2, s, r, ag, same.1, same.2, fun W hS => (bid_name hS ok a n (by rw [hN]; exact ha)).mono (fun e W' ⟨h1, h2⟩ => ⟨h1, PTo.ofBelow hS h2⟩), fun W hR => (rbid_name hR cf a n ha).mono (fun e W' ⟨h1, h2⟩ => ⟨h1, v, RTo.ofBelow hR h2⟩)⟩

theorem next_both (ag : Ag s r) (he : r.epoch ≤ 4611686018427387904) (seed : Int) (hw : (Lit.int .i64 seed).wf = true) (hl : r.book.length * 56 + 50 * 56 ≤ 140737488355328) : SameDo 11 84 [.int .i64 seed] x y B 50 s r v := by
  have cf := ag.cfg he
  have hes : s.epoch ≤ 4611686018427387904 := by rw [ag.epoch]; exact he
  have hN := cf.N
  refine ⟨0, s.next seed, r.next seed, ag.next he seed, ?_, ?_, fun W hS => next_ok hS (PS.Good.nextOk ag.good ag.low hes) seed (wfb hw).1 (wfb hw).2, fun W hR => rnext hR cf (ag.nextOk he) seed (wfb hw).1 (wfb hw).2 hl⟩
  · show r.st5.sale.book.length ≤ _
    have h1 := r.st5.sale_len
    have h2 := r.st5_len
    have h3 := r.st5_alike.N
    rw [h3] at h1
    generalize r.st5.sale.book.length = L1 at *
    generalize r.st5.book.length = L2 at *
    omega
  · show r.epoch + 1 ≤ r.epoch + ((50 : Nat) : Int)
    omega
end
end Go.Proofs.Ytiokecadnmcpeab
