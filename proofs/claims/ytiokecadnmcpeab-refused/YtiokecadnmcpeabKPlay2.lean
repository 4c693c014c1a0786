import Derived.Test.YtiokecadnmcpeabKPool
namespace Go.Proofs.Ytiokecadnmcpeab
set_option linter.unusedVariables false
set_option linter.unusedSimpArgs false
open Go.ChangeShapes Go.WideShapes Go.ChangeAt Go.RowKit
section
variable {w : World} {x : Nat} {s : PS}
set_option maxHeartbeats 1600000 in
theorem play_ok (h : SC w x s) (I : s.Inv) (he : s.epoch ≤ 4611686018427387904) (o : StD) (ok : o.Ok) :
    Calls Try.prog 8 #[.pointer (some ⟨x, 0, none⟩), .agg #[.int .i64 o.kind, .int .i64 o.A, .int .i64 o.B, .int .i64 o.C]] w fun e w' => ∃ er s', e = .returned (.int .i64 er) ∧ s.Did o er s' ∧ PTo w x w' s' := by
  obtain ⟨kd, A, B, C⟩ := o
  simp only at *
  have hb := (Below.refl w.heap.size w).alloc (Nat.le_refl _) (.cells #[.int .i64 kd, .int .i64 A, .int .i64 B, .int .i64 C] 39)
  have T0 := hid (PTo.ofBelow h hb)
  have Ok := hid ok
  clear hb h
  by_cases k1 : kd = 1
  · subst k1
    obtain ⟨er, s', hd, hc⟩ := send_do (x := x) I ⟨1, A, B, C⟩ rfl
    have HC := hid (hc _ T0.out.sc)
    have HD := hid hd
    clear hc hd
    go_enter Try.func8, Try.ntmps8
    go_wp2_with fail
    refine HC.out.mono ?_
    rintro e w1 ⟨rfl, t1⟩
    have T1 := hid (T0.out.trans t1)
    clear t1
    go_wp2_with fail
    go_ret
    exact ⟨er, s', rfl, HD.out, T1.out⟩
  by_cases k2 : kd = 2
  · subst k2
    obtain ⟨er, s', hd, hc⟩ := bid_do (x := x) I ⟨2, A, B, C⟩ rfl
    have HC := hid (hc _ T0.out.sc)
    have HD := hid hd
    clear hc hd
    go_enter Try.func8, Try.ntmps8
    go_wp2_with fail
    refine HC.out.mono ?_
    rintro e w1 ⟨rfl, t1⟩
    have T1 := hid (T0.out.trans t1)
    clear t1
    go_wp2_with fail
    go_ret
    exact ⟨er, s', rfl, HD.out, T1.out⟩
  by_cases k3 : kd = 3
  · subst k3
    obtain ⟨er, s', hd, hc⟩ := next_do (x := x) I he ⟨3, A, B, C⟩ ok rfl
    have HC := hid (hc _ T0.out.sc)
    have HD := hid hd
    clear hc hd
    go_enter Try.func8, Try.ntmps8
    go_wp2_with fail
    refine HC.out.mono ?_
    rintro e w1 ⟨rfl, t1⟩
    have T1 := hid (T0.out.trans t1)
    clear t1
    go_wp2_with fail
    go_ret
    exact ⟨er, s', rfl, HD.out, T1.out⟩
  by_cases k4 : kd = 4
  · subst k4
    obtain ⟨er, s', hd, hc⟩ := make_do (x := x) I ⟨4, A, B, C⟩ rfl
    have HC := hid (hc _ T0.out.sc)
    have HD := hid hd
    clear hc hd
    go_enter Try.func8, Try.ntmps8
    go_wp2_with fail
    refine HC.out.mono ?_
    rintro e w1 ⟨rfl, t1⟩
    have T1 := hid (T0.out.trans t1)
    clear t1
    go_wp2_with fail
    go_ret
    exact ⟨er, s', rfl, HD.out, T1.out⟩
  by_cases k5 : kd = 5
  · subst k5
    obtain ⟨er, s', hd, hc⟩ := slash_do (x := x) I ⟨5, A, B, C⟩ rfl
    have HC := hid (hc _ T0.out.sc)
    have HD := hid hd
    clear hc hd
    go_enter Try.func8, Try.ntmps8
    go_wp2_with fail
    refine HC.out.mono ?_
    rintro e w1 ⟨rfl, t1⟩
    have T1 := hid (T0.out.trans t1)
    clear t1
    go_wp2_with fail
    go_ret
    exact ⟨er, s', rfl, HD.out, T1.out⟩
  by_cases k6 : kd = 6
  · subst k6
    obtain ⟨er, s', hd, v, hc⟩ := deposit_do (x := x) I ⟨6, A, B, C⟩ ok rfl
    have HC := hid (hc _ T0.out.sc)
    have HD := hid hd
    clear hc hd
    go_enter Try.func8, Try.ntmps8
    go_wp2_with fail
    refine HC.out.mono ?_
    rintro e w1 ⟨rfl, t1⟩
    have T1 := hid (T0.out.trans t1)
    clear t1
    go_wp2_with fail
    go_ret
    exact ⟨er, s', rfl, HD.out, T1.out⟩
  by_cases k7 : kd = 7
  · subst k7
    obtain ⟨er, s', hd, v, hc⟩ := leave_do (x := x) I ⟨7, A, B, C⟩ ok rfl
    have HC := hid (hc _ T0.out.sc)
    have HD := hid hd
    clear hc hd
    go_enter Try.func8, Try.ntmps8
    go_wp2_with fail
    refine HC.out.mono ?_
    rintro e w1 ⟨rfl, t1⟩
    have T1 := hid (T0.out.trans t1)
    clear t1
    go_wp2_with fail
    go_ret
    exact ⟨er, s', rfl, HD.out, T1.out⟩
  · go_enter Try.func8, Try.ntmps8
    go_wp2_with fail
    go_ret
    exact ⟨0, s, rfl, .idle k3 k5, T0.out⟩
end
end Go.Proofs.Ytiokecadnmcpeab
