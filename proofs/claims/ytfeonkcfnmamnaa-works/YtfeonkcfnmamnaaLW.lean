import Derived.Test.YtfeonkcfnmamnaaLStepD
import Derived.Test.YtfeonkcfnmamnaaLStepM
import Derived.Test.YtfeonkcfnmamnaaLPG
import Derived.Test.YtfeonkcfnmamnaaPMake
import Derived.Test.YtfeonkcfnmamnaaRefD
import Derived.Test.YtfeonkcfnmamnaaAgC
namespace Go.Proofs.Ytfeonkcfnmamnaa
set_option linter.unusedVariables false
set_option linter.unusedSimpArgs false
open Go.ChangeShapes Go.WideShapes Go.ChangeAt Go.RowKit

/-- Make and Slash give the same on both chains. -/
structure BothW : Prop where
  make : ∀ (a : Int), (Lit.int .i64 a).wf = true → ∀ (x y B : Nat) (s : PS) (r : RS) (v : Nat → Value), Ag s r → r.epoch ≤ 4611686018427387904 → r.book.length * 56 + 56 ≤ 140737488355328 → SameDo 40 93 [.int .i64 a] x y B 1 s r v
  slash : ∀ (a : Int), (Lit.int .i64 a).wf = true → ∀ (x y B : Nat) (s : PS) (r : RS) (v : Nat → Value), Ag s r → r.epoch ≤ 4611686018427387904 → r.book.length * 56 + 56 ≤ 140737488355328 → SameDo 41 94 [.int .i64 a] x y B 1 s r v
/-- Deposit and Leave give the same on both chains. -/
structure BothP : Prop where
  deposit : ∀ (a n : Int), (Lit.int .i64 a).wf = true → (Lit.int .i64 n).wf = true → ∀ (x y B : Nat) (s : PS) (r : RS) (v : Nat → Value), Ag s r → r.epoch ≤ 4611686018427387904 → r.book.length * 56 + 112 ≤ 140737488355328 → SameDo2 42 95 [.int .i64 a, .int .i64 n] x y B 2 s r v
  leave : ∀ (a n : Int), (Lit.int .i64 a).wf = true → (Lit.int .i64 n).wf = true → ∀ (x y B : Nat) (s : PS) (r : RS) (v : Nat → Value), Ag s r → r.epoch ≤ 4611686018427387904 → r.book.length * 56 + 112 ≤ 140737488355328 → SameDo2 43 96 [.int .i64 a, .int .i64 n] x y B 2 s r v

theorem step_all (w : World) (B wb T : Nat) (ps : List Pr) (va : Value) (o : OpD) (hI : WInv w B wb ps va T) (hT : 6 ≤ T) (hps : ps.length * 16 + 16 ≤ 140737488355328) (hTl : T * 56 + 2800 ≤ 140737488355328) (hne : 1 ≤ ps.length) (ok : OpOk w o)
    (hk : 1 ≤ o.kind ∧ o.kind ≤ 13) (hw : o.kind = 10 ∨ o.kind = 11 → BothW) (hpo : o.kind = 12 ∨ o.kind = 13 → BothP) :
    Calls Try.prog 34 #[.pointer (some ⟨wb, 0, none⟩), .agg o.cells] w fun e w' => e = .returned (.bool true) ∧ ∃ ps' va', WInv w' B wb ps' va' (T + 50) ∧ 1 ≤ ps'.length ∧ ps'.length ≤ ps.length + 1 ∧ Below B w w' := by
  have hB : B ≤ w.heap.size := Nat.le_trans hI.lo (Nat.le_of_lt (lt_of_block hI.blk))
  have asks : ∀ {e : Ending} {w' : World}, e = .returned (.bool true) ∧ Below w.heap.size w w' → e = .returned (.bool true) ∧ ∃ ps' va', WInv w' B wb ps' va' (T + 50) ∧ 1 ≤ ps'.length ∧ ps'.length ≤ ps.length + 1 ∧ Below B w w' := fun ⟨he, b⟩ => ⟨he, ps, va, (hI.below b).more (by omega), hne, by omega, b.mono hB⟩
  have does : ∀ {d : Nat} {e : Ending} {w' : World}, d ≤ 50 → (e = .returned (.bool true) ∧ ∃ ps', WInv w' B wb ps' va (T + d) ∧ ps'.length = ps.length ∧ Below B w w') → e = .returned (.bool true) ∧ ∃ ps' va', WInv w' B wb ps' va' (T + 50) ∧ 1 ≤ ps'.length ∧ ps'.length ≤ ps.length + 1 ∧ Below B w w' := fun hd ⟨he, ps', h1, h2, h3⟩ => ⟨he, ps', va, h1.more (by omega), by omega, by omega, h3⟩
  rcases (show o.kind = 1 ∨ o.kind = 2 ∨ o.kind = 3 ∨ o.kind = 4 ∨ o.kind = 5 ∨ o.kind = 6 ∨ o.kind = 7 ∨ o.kind = 8 ∨ o.kind = 9 ∨ o.kind = 10 ∨ o.kind = 11 ∨ o.kind = 12 ∨ o.kind = 13 by omega) with h | h | h | h | h | h | h | h | h | h | h | h | h
  · exact (step_price o wb w ok h).mono (fun e w' hh => asks hh)
  · refine (step_new o hI hT hps ok h (.inl hne)).mono ?_
    rintro e w' ⟨rfl, ps', va', h1, h2, h3, h4⟩
    exact ⟨rfl, ps', va', h1.more (by omega), h2, h3, h4⟩
  · exact (step_ask3 o hI (by omega) hne ok h (by omega)).mono (fun e w' hh => asks hh)
  · exact (step_ask4 o hI (by omega) hne ok h (by omega)).mono (fun e w' hh => asks hh)
  · exact (step_ask5 o hI (by omega) hne ok h (by omega)).mono (fun e w' hh => asks hh)
  · exact (step_send o hI (by omega) hne ok h (by omega) (by omega)).mono (fun e w' hh => does (by omega) hh)
  · exact (step_bid o hI (by omega) hne ok h (by omega) (by omega)).mono (fun e w' hh => does (by omega) hh)
  · exact (step_next o hI (by omega) hne ok h (by omega) (by omega)).mono (fun e w' hh => does (by omega) hh)
  · exact (step_ask9 o hI (by omega) hne ok h (by omega)).mono (fun e w' hh => asks hh)
  · exact (step_make o hI (by omega) hne ok h ((hw (.inl h)).make o.A ok.wA) (by omega) (by omega)).mono (fun e w' hh => does (by omega) hh)
  · exact (step_slash o hI (by omega) hne ok h ((hw (.inr h)).slash o.A ok.wA) (by omega) (by omega)).mono (fun e w' hh => does (by omega) hh)
  · exact (step_deposit o hI (by omega) hne ok h ((hpo (.inl h)).deposit o.A o.B ok.wA ok.wB) (by omega) (by omega)).mono (fun e w' hh => does (by omega) hh)
  · exact (step_leave o hI (by omega) hne ok h ((hpo (.inr h)).leave o.A o.B ok.wA ok.wB) (by omega) (by omega)).mono (fun e w' hh => does (by omega) hh)
end Go.Proofs.Ytfeonkcfnmamnaa
namespace Go.Proofs.Ytfeonkcfnmamnaa
set_option linter.unusedVariables false
set_option linter.unusedSimpArgs false
open Go.ChangeShapes Go.WideShapes Go.ChangeAt Go.RowKit
section
variable {x y B : Nat} {s : PS} {r : RS} {v : Nat → Value}

theorem make_both (ag : Ag s r) (he : r.epoch ≤ 4611686018427387904) (a : Int) : SameDo 40 93 [.int .i64 a] x y B 1 s r v := by
  have cf := ag.cfg he
  have pf := ag.good.toCf
  have hL := ag.length
  have hl := pf.length
  have same : r.book.length ≤ r.book.length + 1 ∧ r.epoch ≤ r.epoch + ((1 : Nat) : Int) := ⟨by omega, by omega⟩
  by_cases ha : 0 ≤ a ∧ a ≤ r.length - 1
  · obtain ⟨n, rfl⟩ := Int.eq_ofNat_of_zero_le ha.1
    by_cases hz : s.rlen = 0
    · exact ⟨11, s, r, ag, same.1, same.2, fun W hS => (make_none hS pf n ha.1 (by omega) hz).mono (fun e W' ⟨h1, h2⟩ => ⟨h1, PTo.ofBelow hS h2⟩), fun W hR => (rmake_none hR cf n ha.1 ha.2 (by rw [ag.rlen]; exact hz)).mono (fun e W' ⟨h1, h2⟩ => ⟨h1, v, RTo.ofBelow hR h2⟩)⟩
    · have hp : 0 < s.rlen := by omega
      have hp' : 0 < r.row.length := by rw [ag.rlen]; exact hp
      have hm := ag.made n (by omega)
      by_cases hb : s.blocks n = true
      · exact ⟨12, s, r, ag, same.1, same.2, fun W hS => (make_again hS pf n (by omega) hp hb).mono (fun e W' ⟨h1, h2⟩ => ⟨h1, PTo.ofBelow hS h2⟩), fun W hR => (rmake_again hR cf n ha.2 hp' (by rw [hm, hb])).mono (fun e W' ⟨h1, h2⟩ => ⟨h1, v, RTo.ofBelow hR h2⟩)⟩
      · have hb' : s.blocks n = false := by simpa using hb
        exact ⟨0, _, _, ag.make n (by omega), same.1, same.2, fun W hS => make_ok hS pf n (by omega) hp hb', fun W hR => rmake_ok hR cf n ha.2 hp' (by rw [hm, hb'])⟩
  · exact ⟨10, s, r, ag, same.1, same.2, fun W hS => (make_height hS pf a (by rw [hL]; exact ha)).mono (fun e W' ⟨h1, h2⟩ => ⟨h1, PTo.ofBelow hS h2⟩), fun W hR => (rmake_height hR cf a ha).mono (fun e W' ⟨h1, h2⟩ => ⟨h1, v, RTo.ofBelow hR h2⟩)⟩

theorem slash_both (ag : Ag s r) (he : r.epoch ≤ 4611686018427387904) (a : Int) : SameDo 41 94 [.int .i64 a] x y B 1 s r v := by
  have cf := ag.cfg he
  have pf := ag.good.toCf
  have hN := ag.N
  have N6 := ag.good.N6
  have same : r.book.length ≤ r.book.length + 1 ∧ r.epoch ≤ r.epoch + ((1 : Nat) : Int) := ⟨by omega, by omega⟩
  by_cases ha : 0 ≤ a ∧ a ≤ (r.N : Int)
  · obtain ⟨n, rfl⟩ := Int.eq_ofNat_of_zero_le ha.1
    have hn : n ≤ s.N := by omega
    have hh := ag.has n hn
    have h0 := (ag.good.pos n (by omega)).s0
    by_cases hz : (s.acc n).seats < 1
    · exact ⟨11, s, r, ag, same.1, same.2, fun W hS => (slash_none hS pf n hn hz).mono (fun e W' ⟨h1, h2⟩ => ⟨h1, PTo.ofBelow hS h2⟩), fun W hR => (rslash_none hR cf n (by omega) (by rw [hh]; omega)).mono (fun e W' ⟨h1, h2⟩ => ⟨h1, v, RTo.ofBelow hR h2⟩)⟩
    · exact ⟨0, _, _, ag.slash n hn (by omega), same.1, same.2, fun W hS => slash_ok hS pf n hn hz, fun W hR => rslash_ok hR cf n (by omega) (by rw [hh]; omega)⟩
  · exact ⟨2, s, r, ag, same.1, same.2, fun W hS => (slash_name hS a (by rw [hN]; exact ha)).mono (fun e W' ⟨h1, h2⟩ => ⟨h1, PTo.ofBelow hS h2⟩), fun W hR => (rslash_name hR cf a ha).mono (fun e W' ⟨h1, h2⟩ => ⟨h1, v, RTo.ofBelow hR h2⟩)⟩
end
theorem bothW : BothW := ⟨fun a _ x y B s r v ag he _ => make_both ag he a, fun a _ x y B s r v ag he _ => slash_both ag he a⟩
end Go.Proofs.Ytfeonkcfnmamnaa
namespace Go.Proofs.Ytfeonkcfnmamnaa
set_option linter.unusedVariables false
set_option linter.unusedSimpArgs false
open Go.ChangeShapes Go.WideShapes Go.ChangeAt Go.RowKit

/-- The kinds of Works. -/
def kindsWorks (j : Nat) : Int := [2, 3, 4, 5, 6, 7, 8, 9, 10, 11].getD j 0
theorem kindsWorks_at (o : OpD) (h : ∃ j, j < 10 ∧ kindsWorks j = o.kind) : o.kind = 2 ∨ o.kind = 3 ∨ o.kind = 4 ∨ o.kind = 5 ∨ o.kind = 6 ∨ o.kind = 7 ∨ o.kind = 8 ∨ o.kind = 9 ∨ o.kind = 10 ∨ o.kind = 11 := by
  obtain ⟨j, hj, he⟩ := h
  rcases (show j = 0 ∨ j = 1 ∨ j = 2 ∨ j = 3 ∨ j = 4 ∨ j = 5 ∨ j = 6 ∨ j = 7 ∨ j = 8 ∨ j = 9 by omega) with rfl | rfl | rfl | rfl | rfl | rfl | rfl | rfl | rfl | rfl <;> simp [kindsWorks] at he <;> omega
set_option maxHeartbeats 800000 in
theorem works_walk (bw : BothW) (a : Option Addr) (cap : Nat) (s : List OpD) (w : World) (hs : Script w a s) (hreach : s.length ≤ 1000000000) :
    Calls Try.prog 7 #[.slice a s.length cap] w fun e w' => e = .returned (.bool true) ∧ Below w.heap.size w w' := by
  have hb := (Below.refl w.heap.size w).alloc (Nat.le_refl _) (.cells #[.int .i64 2, .int .i64 3, .int .i64 4, .int .i64 5, .int .i64 6, .int .i64 7, .int .i64 8, .int .i64 9, .int .i64 10, .int .i64 11] 3)
  have hk : ∀ j, j < 10 → (w.alloc (.cells #[.int .i64 2, .int .i64 3, .int .i64 4, .int .i64 5, .int .i64 6, .int .i64 7, .int .i64 8, .int .i64 9, .int .i64 10, .int .i64 11] 3)).cell? ⟨w.heap.size, j, none⟩ = some (.int .i64 (kindsWorks j)) := by
    intro j hj
    rw [World.cell?_alloc_at _ _ _ _ rfl]
    rcases (show j = 0 ∨ j = 1 ∨ j = 2 ∨ j = 3 ∨ j = 4 ∨ j = 5 ∨ j = 6 ∨ j = 7 ∨ j = 8 ∨ j = 9 by omega) with rfl | rfl | rfl | rfl | rfl | rfl | rfl | rfl | rfl | rfl <;> rfl
  have hp := plays_gen kindsWorks 10 (by omega) (fun w B wb T ps va o hI hT hps hTl hne ok hin => by
    have hkd := kindsWorks_at o hin
    exact step_all w B wb T ps va o hI hT hps hTl hne ok (by omega) (fun h => bw) (fun h => by omega)) a cap s w.heap.size _ (hs.below hb) hreach hk
  have Hp := hid hp
  have Hb := hid hb
  clear hp hk hb
  go_enter Try.func7, Try.ntmps7
  go_wp2_with fail
  refine Calls.mono Hp.out ?_
  rintro e w1 ⟨rfl, b1⟩
  have hend := hid (Hb.out.trans (b1.mono Hb.out.size))
  clear b1 Hp
  go_wp2_with fail
  go_ret
  exact ⟨rfl, hend.out⟩

end Go.Proofs.Ytfeonkcfnmamnaa
