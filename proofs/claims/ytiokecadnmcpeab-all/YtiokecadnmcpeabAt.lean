import Derived.Test.YtiokecadnmcpeabAll
namespace Go.Proofs.Ytiokecadnmcpeab
open Go.ChangeShapes Go.WideShapes Go.ChangeAt Go.RowKit

set_option maxHeartbeats 4000000 in
theorem at_any (y : Nat) (ga : Option Addr) (cap : Nat) (b : List Mv) (kd a e : Int) (w : World) (hy : w.cell? ⟨y, 8, none⟩ = some (.slice ga b.length cap)) (hm : Moves w ga b) (hl : b.length * 56 ≤ 140737488355328) :
    Calls Try.prog 96 #[.pointer (some ⟨y, 0, none⟩), .agg #[.int .i64 kd, .int .i64 a, .int .i64 e]] w fun r w' => r = .returned (.int .i64 (wrap64 (atOf b kd a e))) ∧ Below w.heap.size w w' := by
  have hyb := block_lt_of_cell hy
  have hsh : Try.prog.stoodInHeld 131 = false := by kernel_rfl
  have hge : Try.prog.eqGuardType Try.prog.depth 131 = false := by kernel_rfl
  go_enter Try.func96, Try.ntmps96
  go_wp2
  go_loopw [5, 6] (fun s i wr => ∃ k : Nat, k ≤ b.length ∧ i = .int .i64 k ∧ s = .int .i64 (wrap64 (atOf (b.take k) kd a e)) ∧ Below (w.heap.size + 1) (w.alloc (.cells #[.int .i64 kd, .int .i64 a, .int .i64 e] 131)) wr) (fun _ i _ => b.length - (intOf i).toNat)
  case atStart => exact ⟨0, Nat.zero_le _, rfl, by simp [atOf, wrap64], Below.refl _ _⟩
  case round =>
    obtain ⟨k, hk, rfl, rfl, hb⟩ := hrel
    have hb1 : Below w.heap.size w wr := ((Below.refl _ _).alloc (Nat.le_refl _) _).trans (hb.mono (by omega))
    have hyr : wr.cell? ⟨y, 8, none⟩ = some (.slice ga b.length cap) := (hb1.cell hyb).trans hy
    by_cases hlt : k < b.length
    · obtain ⟨g, hga, hc⟩ := (hm.below hb1).at hlt
      subst hga
      have HS := atOf_step b k hlt kd a e
      generalize b.getD k Mv.zero = m at *
      have c0 : wr.cell? ⟨g, k * 7, none⟩ = some (.int .i64 m.fk) := hc 0 (by omega)
      have c1 : wr.cell? ⟨g, k * 7 + 1, none⟩ = some (.int .i64 m.fa) := hc 1 (by omega)
      have c2 : wr.cell? ⟨g, k * 7 + 2, none⟩ = some (.int .i64 m.fe) := hc 2 (by omega)
      have c3 : wr.cell? ⟨g, k * 7 + 3, none⟩ = some (.int .i64 m.tk) := hc 3 (by omega)
      have c4 : wr.cell? ⟨g, k * 7 + 3 + 1, none⟩ = some (.int .i64 m.ta) := hc 4 (by omega)
      have c5 : wr.cell? ⟨g, k * 7 + 3 + 2, none⟩ = some (.int .i64 m.te) := hc 5 (by omega)
      have c6 : wr.cell? ⟨g, k * 7 + 6, none⟩ = some (.int .i64 m.n) := hc 6 (by omega)
      have p0 : wr.cell? ⟨w.heap.size, 0, none⟩ = some (.int .i64 kd) := (hb.cell (p := ⟨w.heap.size, 0, none⟩) (by simp)).trans (by rw [World.cell?_alloc_at _ _ _ _ rfl]; rfl)
      have p1 : wr.cell? ⟨w.heap.size, 1, none⟩ = some (.int .i64 a) := (hb.cell (p := ⟨w.heap.size, 1, none⟩) (by simp)).trans (by rw [World.cell?_alloc_at _ _ _ _ rfl]; rfl)
      have p2 : wr.cell? ⟨w.heap.size, 2, none⟩ = some (.int .i64 e) := (hb.cell (p := ⟨w.heap.size, 2, none⟩) (by simp)).trans (by rw [World.cell?_alloc_at _ _ _ _ rfl]; rfl)
      clear hc
      obtain ⟨fk, fa, fe, tk, ta, te, n⟩ := m
      simp only at c0 c1 c2 c3 c4 c5 c6
      generalize hS : atOf (b.take k) kd a e = S at *
      have HS' : Hid (atOf (b.take (k + 1)) kd a e = S + Mv.toAt ⟨fk, fa, fe, tk, ta, te, n⟩ kd a e - Mv.fromAt ⟨fk, fa, fe, tk, ta, te, n⟩ kd a e) := HS
      clear HS hS
      rcases (show (¬ tk = kd) ∨ (tk = kd ∧ ¬ ta = a) ∨ (tk = kd ∧ ta = a ∧ ¬ te = e) ∨ (tk = kd ∧ ta = a ∧ te = e) by omega) with ht | ht | ht | ht
      · have t0 : (tk == kd) = false := by simp [ht]
        rcases (show (¬ fk = kd) ∨ (fk = kd ∧ ¬ fa = a) ∨ (fk = kd ∧ fa = a ∧ ¬ fe = e) ∨ (fk = kd ∧ fa = a ∧ fe = e) by omega) with hf | hf | hf | hf
        · have f0 : (fk == kd) = false := by simp [hf]
          have HR : Hid (wrap64 (atOf (b.take (k + 1)) kd a e) = wrap64 S) := by
            unfold Hid; rw [HS'.out]; simp only [Mv.toAt, Mv.fromAt]
            rw [if_neg (by omega), if_neg (by omega)]; unfold wrap64; omega
          clear HS' ht hf
          go_wp2
          go_quiet (fail)
          go_wp2
          go_quiet (fail)
          go_wp2
          go_roundw
          case rel => exact ⟨k + 1, by omega, by go_num, by rw [HR.out], below_dn hb _⟩
          case measure => simp [intOf]; omega
        · have f0 : (fk == kd) = true := by simp [hf]
          have f1 : (fa == a) = false := by simp [hf]
          have HR : Hid (wrap64 (atOf (b.take (k + 1)) kd a e) = wrap64 S) := by
            unfold Hid; rw [HS'.out]; simp only [Mv.toAt, Mv.fromAt]
            rw [if_neg (by omega), if_neg (by omega)]; unfold wrap64; omega
          clear HS' ht hf
          go_wp2
          go_quiet (fail)
          go_wp2
          go_quiet (fail)
          go_wp2
          go_roundw
          case rel => exact ⟨k + 1, by omega, by go_num, by rw [HR.out], below_dn hb _⟩
          case measure => simp [intOf]; omega
        · have f0 : (fk == kd) = true := by simp [hf]
          have f1 : (fa == a) = true := by simp [hf]
          have f2 : (fe == e) = false := by simp [hf]
          have HR : Hid (wrap64 (atOf (b.take (k + 1)) kd a e) = wrap64 S) := by
            unfold Hid; rw [HS'.out]; simp only [Mv.toAt, Mv.fromAt]
            rw [if_neg (by omega), if_neg (by omega)]; unfold wrap64; omega
          clear HS' ht hf
          go_wp2
          go_quiet (fail)
          go_wp2
          go_quiet (fail)
          go_wp2
          go_roundw
          case rel => exact ⟨k + 1, by omega, by go_num, by rw [HR.out], below_dn hb _⟩
          case measure => simp [intOf]; omega
        · have f0 : (fk == kd) = true := by simp [hf]
          have f1 : (fa == a) = true := by simp [hf]
          have f2 : (fe == e) = true := by simp [hf]
          have HR : Hid (wrap64 (atOf (b.take (k + 1)) kd a e) = wrap64 (wrap64 S - n)) := by
            unfold Hid; rw [HS'.out]; simp only [Mv.toAt, Mv.fromAt]
            rw [if_neg (by omega), if_pos (by omega)]; unfold wrap64; omega
          clear HS' ht hf
          go_wp2
          go_quiet (fail)
          go_wp2
          go_quiet (fail)
          go_wp2
          go_roundw
          case rel => exact ⟨k + 1, by omega, by go_num, by rw [HR.out], below_dn hb _⟩
          case measure => simp [intOf]; omega
      · have t0 : (tk == kd) = true := by simp [ht]
        have t1 : (ta == a) = false := by simp [ht]
        rcases (show (¬ fk = kd) ∨ (fk = kd ∧ ¬ fa = a) ∨ (fk = kd ∧ fa = a ∧ ¬ fe = e) ∨ (fk = kd ∧ fa = a ∧ fe = e) by omega) with hf | hf | hf | hf
        · have f0 : (fk == kd) = false := by simp [hf]
          have HR : Hid (wrap64 (atOf (b.take (k + 1)) kd a e) = wrap64 S) := by
            unfold Hid; rw [HS'.out]; simp only [Mv.toAt, Mv.fromAt]
            rw [if_neg (by omega), if_neg (by omega)]; unfold wrap64; omega
          clear HS' ht hf
          go_wp2
          go_quiet (fail)
          go_wp2
          go_quiet (fail)
          go_wp2
          go_roundw
          case rel => exact ⟨k + 1, by omega, by go_num, by rw [HR.out], below_dn hb _⟩
          case measure => simp [intOf]; omega
        · have f0 : (fk == kd) = true := by simp [hf]
          have f1 : (fa == a) = false := by simp [hf]
          have HR : Hid (wrap64 (atOf (b.take (k + 1)) kd a e) = wrap64 S) := by
            unfold Hid; rw [HS'.out]; simp only [Mv.toAt, Mv.fromAt]
            rw [if_neg (by omega), if_neg (by omega)]; unfold wrap64; omega
          clear HS' ht hf
          go_wp2
          go_quiet (fail)
          go_wp2
          go_quiet (fail)
          go_wp2
          go_roundw
          case rel => exact ⟨k + 1, by omega, by go_num, by rw [HR.out], below_dn hb _⟩
          case measure => simp [intOf]; omega
        · have f0 : (fk == kd) = true := by simp [hf]
          have f1 : (fa == a) = true := by simp [hf]
          have f2 : (fe == e) = false := by simp [hf]
          have HR : Hid (wrap64 (atOf (b.take (k + 1)) kd a e) = wrap64 S) := by
            unfold Hid; rw [HS'.out]; simp only [Mv.toAt, Mv.fromAt]
            rw [if_neg (by omega), if_neg (by omega)]; unfold wrap64; omega
          clear HS' ht hf
          go_wp2
          go_quiet (fail)
          go_wp2
          go_quiet (fail)
          go_wp2
          go_roundw
          case rel => exact ⟨k + 1, by omega, by go_num, by rw [HR.out], below_dn hb _⟩
          case measure => simp [intOf]; omega
        · have f0 : (fk == kd) = true := by simp [hf]
          have f1 : (fa == a) = true := by simp [hf]
          have f2 : (fe == e) = true := by simp [hf]
          have HR : Hid (wrap64 (atOf (b.take (k + 1)) kd a e) = wrap64 (wrap64 S - n)) := by
            unfold Hid; rw [HS'.out]; simp only [Mv.toAt, Mv.fromAt]
            rw [if_neg (by omega), if_pos (by omega)]; unfold wrap64; omega
          clear HS' ht hf
          go_wp2
          go_quiet (fail)
          go_wp2
          go_quiet (fail)
          go_wp2
          go_roundw
          case rel => exact ⟨k + 1, by omega, by go_num, by rw [HR.out], below_dn hb _⟩
          case measure => simp [intOf]; omega
      · have t0 : (tk == kd) = true := by simp [ht]
        have t1 : (ta == a) = true := by simp [ht]
        have t2 : (te == e) = false := by simp [ht]
        rcases (show (¬ fk = kd) ∨ (fk = kd ∧ ¬ fa = a) ∨ (fk = kd ∧ fa = a ∧ ¬ fe = e) ∨ (fk = kd ∧ fa = a ∧ fe = e) by omega) with hf | hf | hf | hf
        · have f0 : (fk == kd) = false := by simp [hf]
          have HR : Hid (wrap64 (atOf (b.take (k + 1)) kd a e) = wrap64 S) := by
            unfold Hid; rw [HS'.out]; simp only [Mv.toAt, Mv.fromAt]
            rw [if_neg (by omega), if_neg (by omega)]; unfold wrap64; omega
          clear HS' ht hf
          go_wp2
          go_quiet (fail)
          go_wp2
          go_quiet (fail)
          go_wp2
          go_roundw
          case rel => exact ⟨k + 1, by omega, by go_num, by rw [HR.out], below_dn hb _⟩
          case measure => simp [intOf]; omega
        · have f0 : (fk == kd) = true := by simp [hf]
          have f1 : (fa == a) = false := by simp [hf]
          have HR : Hid (wrap64 (atOf (b.take (k + 1)) kd a e) = wrap64 S) := by
            unfold Hid; rw [HS'.out]; simp only [Mv.toAt, Mv.fromAt]
            rw [if_neg (by omega), if_neg (by omega)]; unfold wrap64; omega
          clear HS' ht hf
          go_wp2
          go_quiet (fail)
          go_wp2
          go_quiet (fail)
          go_wp2
          go_roundw
          case rel => exact ⟨k + 1, by omega, by go_num, by rw [HR.out], below_dn hb _⟩
          case measure => simp [intOf]; omega
        · have f0 : (fk == kd) = true := by simp [hf]
          have f1 : (fa == a) = true := by simp [hf]
          have f2 : (fe == e) = false := by simp [hf]
          have HR : Hid (wrap64 (atOf (b.take (k + 1)) kd a e) = wrap64 S) := by
            unfold Hid; rw [HS'.out]; simp only [Mv.toAt, Mv.fromAt]
            rw [if_neg (by omega), if_neg (by omega)]; unfold wrap64; omega
          clear HS' ht hf
          go_wp2
          go_quiet (fail)
          go_wp2
          go_quiet (fail)
          go_wp2
          go_roundw
          case rel => exact ⟨k + 1, by omega, by go_num, by rw [HR.out], below_dn hb _⟩
          case measure => simp [intOf]; omega
        · have f0 : (fk == kd) = true := by simp [hf]
          have f1 : (fa == a) = true := by simp [hf]
          have f2 : (fe == e) = true := by simp [hf]
          have HR : Hid (wrap64 (atOf (b.take (k + 1)) kd a e) = wrap64 (wrap64 S - n)) := by
            unfold Hid; rw [HS'.out]; simp only [Mv.toAt, Mv.fromAt]
            rw [if_neg (by omega), if_pos (by omega)]; unfold wrap64; omega
          clear HS' ht hf
          go_wp2
          go_quiet (fail)
          go_wp2
          go_quiet (fail)
          go_wp2
          go_roundw
          case rel => exact ⟨k + 1, by omega, by go_num, by rw [HR.out], below_dn hb _⟩
          case measure => simp [intOf]; omega
      · have t0 : (tk == kd) = true := by simp [ht]
        have t1 : (ta == a) = true := by simp [ht]
        have t2 : (te == e) = true := by simp [ht]
        rcases (show (¬ fk = kd) ∨ (fk = kd ∧ ¬ fa = a) ∨ (fk = kd ∧ fa = a ∧ ¬ fe = e) ∨ (fk = kd ∧ fa = a ∧ fe = e) by omega) with hf | hf | hf | hf
        · have f0 : (fk == kd) = false := by simp [hf]
          have HR : Hid (wrap64 (atOf (b.take (k + 1)) kd a e) = wrap64 (wrap64 S + n)) := by
            unfold Hid; rw [HS'.out]; simp only [Mv.toAt, Mv.fromAt]
            rw [if_pos (by omega), if_neg (by omega)]; unfold wrap64; omega
          clear HS' ht hf
          go_wp2
          go_quiet (fail)
          go_wp2
          go_quiet (fail)
          go_wp2
          go_roundw
          case rel => exact ⟨k + 1, by omega, by go_num, by rw [HR.out], below_dn hb _⟩
          case measure => simp [intOf]; omega
        · have f0 : (fk == kd) = true := by simp [hf]
          have f1 : (fa == a) = false := by simp [hf]
          have HR : Hid (wrap64 (atOf (b.take (k + 1)) kd a e) = wrap64 (wrap64 S + n)) := by
            unfold Hid; rw [HS'.out]; simp only [Mv.toAt, Mv.fromAt]
            rw [if_pos (by omega), if_neg (by omega)]; unfold wrap64; omega
          clear HS' ht hf
          go_wp2
          go_quiet (fail)
          go_wp2
          go_quiet (fail)
          go_wp2
          go_roundw
          case rel => exact ⟨k + 1, by omega, by go_num, by rw [HR.out], below_dn hb _⟩
          case measure => simp [intOf]; omega
        · have f0 : (fk == kd) = true := by simp [hf]
          have f1 : (fa == a) = true := by simp [hf]
          have f2 : (fe == e) = false := by simp [hf]
          have HR : Hid (wrap64 (atOf (b.take (k + 1)) kd a e) = wrap64 (wrap64 S + n)) := by
            unfold Hid; rw [HS'.out]; simp only [Mv.toAt, Mv.fromAt]
            rw [if_pos (by omega), if_neg (by omega)]; unfold wrap64; omega
          clear HS' ht hf
          go_wp2
          go_quiet (fail)
          go_wp2
          go_quiet (fail)
          go_wp2
          go_roundw
          case rel => exact ⟨k + 1, by omega, by go_num, by rw [HR.out], below_dn hb _⟩
          case measure => simp [intOf]; omega
        · have f0 : (fk == kd) = true := by simp [hf]
          have f1 : (fa == a) = true := by simp [hf]
          have f2 : (fe == e) = true := by simp [hf]
          have HR : Hid (wrap64 (atOf (b.take (k + 1)) kd a e) = wrap64 (wrap64 (wrap64 S + n) - n)) := by
            unfold Hid; rw [HS'.out]; simp only [Mv.toAt, Mv.fromAt]
            rw [if_pos (by omega), if_pos (by omega)]; unfold wrap64; omega
          clear HS' ht hf
          go_wp2
          go_quiet (fail)
          go_wp2
          go_quiet (fail)
          go_wp2
          go_roundw
          case rel => exact ⟨k + 1, by omega, by go_num, by rw [HR.out], below_dn hb _⟩
          case measure => simp [intOf]; omega
    · go_wp2
      go_ret
      exact ⟨ret_int (by rw [List.take_of_length_le (by omega)]), hb1⟩
end Go.Proofs.Ytiokecadnmcpeab
