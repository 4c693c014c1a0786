import Derived.Test.YtiokecadnmcpeabLStepD
import Derived.Test.YtiokecadnmcpeabLStepM
import Derived.Test.YtiokecadnmcpeabLPG
import Derived.Test.YtiokecadnmcpeabPMake
import Derived.Test.YtiokecadnmcpeabRefD
import Derived.Test.YtiokecadnmcpeabAgC
namespace Go.Proofs.Ytiokecadnmcpeab
set_option linter.unusedVariables false
set_option linter.unusedSimpArgs false
open Go.ChangeShapes Go.WideShapes Go.ChangeAt Go.RowKit

/-- Make and Slash give the same on both chains. -/
structure BothW : Prop where
  make : ∀ (a : Int), (Lit.int .i64 a).wf = true → ∀ (x y B : Nat) (s : PS) (r : RS) (v : Nat → Value), Ag s r → r.epoch ≤ 4611686018427387904 → r.book.length * 56 + 56 ≤ 140737488355328 → SameDo 19 85 [.int .i64 a] x y B 1 s r v
  slash : ∀ (a : Int), (Lit.int .i64 a).wf = true → ∀ (x y B : Nat) (s : PS) (r : RS) (v : Nat → Value), Ag s r → r.epoch ≤ 4611686018427387904 → r.book.length * 56 + 56 ≤ 140737488355328 → SameDo 20 86 [.int .i64 a] x y B 1 s r v
/-- Deposit and Leave give the same on both chains. -/
structure BothP : Prop where
  deposit : ∀ (a n : Int), (Lit.int .i64 a).wf = true → (Lit.int .i64 n).wf = true → ∀ (x y B : Nat) (s : PS) (r : RS) (v : Nat → Value), Ag s r → r.epoch ≤ 4611686018427387904 → r.book.length * 56 + 112 ≤ 140737488355328 → SameDo2 21 87 [.int .i64 a, .int .i64 n] x y B 2 s r v
  leave : ∀ (a n : Int), (Lit.int .i64 a).wf = true → (Lit.int .i64 n).wf = true → ∀ (x y B : Nat) (s : PS) (r : RS) (v : Nat → Value), Ag s r → r.epoch ≤ 4611686018427387904 → r.book.length * 56 + 112 ≤ 140737488355328 → SameDo2 22 88 [.int .i64 a, .int .i64 n] x y B 2 s r v

theorem step_all (w : World) (B wb T : Nat) (ps : List Pr) (va : Value) (o : OpD) (hI : WInv w B wb ps va T) (hT : 6 ≤ T) (hps : ps.length * 16 + 16 ≤ 140737488355328) (hTl : T * 56 + 2800 ≤ 140737488355328) (hne : 1 ≤ ps.length) (ok : OpOk w o)
    (hk : 1 ≤ o.kind ∧ o.kind ≤ 13) (hw : o.kind = 10 ∨ o.kind = 11 → BothW) (hpo : o.kind = 12 ∨ o.kind = 13 → BothP) :
    Calls Try.prog 34 #[.pointer (some ⟨wb, 0, none⟩), .agg o.cells] w fun e w' => e = .returned (.bool true) ∧ ∃ ps' va', WInv w' B wb ps' va' (T + 50) ∧ 1 ≤ ps'.length ∧ ps'.length ≤ ps.length + 1 ∧ Below B w w' := by
  have hB : B ≤ w.heap.size := Nat.le_trans hI.lo (Nat.le_of_lt (lt_of_block hI.blk))
  have asks : ∀ {e : Ending} {w' : World}, e = .returned (.bool true) ∧ Below w.heap.size w w' → e = .returned (.bool true) ∧ ∃ ps' va', WInv w' B wb ps' va' (T + 50) ∧ 1 ≤ ps'.length ∧ ps'.length ≤ ps.length + 1 ∧ Below B w w' := fun ⟨he, b⟩ => ⟨he, ps, va, (hI.below b).more (by omega), hne, by omega, b.mono hB⟩
  have does : ∀ {d : Nat} {e : Ending} {w' : World}, d ≤ 50 → (e = .returned (.bool true) ∧ ∃ ps', WInv w' B wb ps' va (T + d) ∧ ps'.length = ps.length ∧ Below B w w') → e = .returned (.bool true) ∧ ∃ ps' va', WInv w' B wb ps' va' (T + 50) ∧ 1 ≤ ps'.length ∧ ps'.length ≤ ps.length + 1 ∧ Below B w w' := fun hd ⟨he, ps', h1, h2, h3⟩ => ⟨he, ps', va, h1.more (by omega), by omega, by omega, h3⟩
  rcases (show o.kind = 1 ∨ o.kind = 2 ∨ o.kind = 3 ∨ o.kind = 4 ∨ o.kind = 5 ∨ o.kind = 6 ∨ o.kind = 7 ∨ o.kind = 8 ∨ o.kind = 9 ∨ o.kind = 10 ∨ o.kind = 11 ∨ o.kind = 12 ∨ o.kind = 13 by omega) with h | h | h | h | h | h | h | h | h | h | h | h | h
  · exact (step_price o wb w ok h).mono (fun e w' hh => asks hh)
  · refine (step_new o hI hT hps ok h (.inl hne)).mono ?_
    rintro e w' ⟨rfl, ps', va', h1, h2, h3, h4⟩
    exact ⟨rfl, ps', va', h1.more (by omega), h2, h3, h4⟩
  · exact (step_ask3 o hI (by omega) hne ok h (by omega)).mono (fun e w' hh => asks hh)
  · exact (step_ask4 o hI (by omega) hne ok h (by omega)).mono (fun e w' hh => asks hh)
  · exact (step_ask5 o hI (by omega) hne ok h (by omega)).mono (fun e w' hh => asks hh)
  · exact (step_send o hI (by omega) hne ok h (by omega) (by omega)).mono (fun e w' hh => does (by omega) hh)
  · exact (step_bid o hI (by omega) hne ok h (by omega) (by omega)).mono (fun e w' hh => does (by omega) hh)
  · exact (step_next o hI (by omega) hne ok h (by omega) (by omega)).mono (fun e w' hh => does (by omega) hh)
  · exact (step_ask9 o hI (by omega) hne ok h (by omega)).mono (fun e w' hh => asks hh)
  · exact (step_make o hI (by omega) hne ok h ((hw (.inl h)).make o.A ok.wA) (by omega) (by omega)).mono (fun e w' hh => does (by omega) hh)
  · exact (step_slash o hI (by omega) hne ok h ((hw (.inr h)).slash o.A ok.wA) (by omega) (by omega)).mono (fun e w' hh => does (by omega) hh)
  · exact (step_deposit o hI (by omega) hne ok h ((hpo (.inl h)).deposit o.A o.B ok.wA ok.wB) (by omega) (by omega)).mono (fun e w' hh => does (by omega) hh)
  · exact (step_leave o hI (by omega) hne ok h ((hpo (.inr h)).leave o.A o.B ok.wA ok.wB) (by omega) (by omega)).mono (fun e w' hh => does (by omega) hh)
end Go.Proofs.Ytiokecadnmcpeab
namespace Go.Proofs.Ytiokecadnmcpeab
set_option linter.unusedVariables false
set_option linter.unusedSimpArgs false
open Go.ChangeShapes Go.WideShapes Go.ChangeAt Go.RowKit
section
variable {x y B : Nat} {s : PS} {r : RS} {v : Nat → Value}

theorem make_both (ag : Ag s r) (he : r.epoch ≤ 4611686018427387904) (a : Int) : SameDo 19 85 [.int .i64 a] x y B 1 s r v := by
  have cf := ag.cfg he
  have pf := ag.good.toCf
  have hL := ag.length
  have hl := pf.length
  have same : r.book.length ≤ r.book.length + 1 ∧ r.epoch ≤ r.epoch + ((1 : Nat) : Int) := ⟨by omega, by omega⟩
  by_cases ha : 0 ≤ a ∧ a ≤ r.length - 1
  · obtain ⟨n, rfl⟩ := Int.eq_ofNat_of_zero_le ha.1
    by_cases hz : s.rlen = 0
    · exact ⟨11, s, r, ag, same.1, same.2, fun W hS => (make_none hS pf n ha.1 (by omega) hz).mono (fun e W' ⟨h1, h2⟩ => ⟨h1, PTo.ofBelow hS h2⟩), fun W hR => (rmake_none hR cf n ha.1 ha.2 (by rw [ag.rlen]; exact hz)).mono (fun e W' ⟨h1, h2⟩ => ⟨h1, v, RTo.ofBelow hR h2⟩)⟩
    · have hp : 0 < s.rlen := by omega
      have hp' : 0 < r.row.length := by rw [ag.rlen]; exact hp
      have hm := ag.made n (by omega)
      by_cases hb : s.blocks n = true
      · exact ⟨12, s, r, ag, same.1, same.2, fun W hS => (make_again hS pf n (by omega) hp hb).mono (fun e W' ⟨h1, h2⟩ => ⟨h1, PTo.ofBelow hS h2⟩), fun W hR => (rmake_again hR cf n ha.2 hp' (by rw [hm, hb])).mono (fun e W' ⟨h1, h2⟩ => ⟨h1, v, RTo.ofBelow hR h2⟩)⟩
      · have hb' : s.blocks n = false := by simpa using hb
        exact ⟨0, _, _, ag.make n (by omega), same.1, same.2, fun W hS => make_ok hS pf n (by omega) hp hb', fun W hR => rmake_ok hR cf n ha.2 hp' (by rw [hm, hb'])⟩
  · exact ⟨10, s, r, ag, same.1, same.2, fun W hS => (make_height hS pf a (by rw [hL]; exact ha)).mono (fun e W' ⟨h1, h2⟩ => ⟨h1, PTo.ofBelow hS h2⟩), fun W hR => (rmake_height hR cf a ha).mono (fun e W' ⟨h1, h2⟩ => ⟨h1, v, RTo.ofBelow hR h2⟩)⟩

theorem slash_both (ag : Ag s r) (he : r.epoch ≤ 4611686018427387904) (a : Int) : SameDo 20 86 [.int .i64 a] x y B 1 s r v := by
  have cf := ag.cfg he
  have pf := ag.good.toCf
  have hN := ag.N
  have N6 := ag.good.N6
  have same : r.book.length ≤ r.book.length + 1 ∧ r.epoch ≤ r.epoch + ((1 : Nat) : Int) := ⟨by omega, by omega⟩
  by_cases ha : 0 ≤ a ∧ a ≤ (r.N : Int)
  · obtain ⟨n, rfl⟩ := Int.eq_ofNat_of_zero_le ha.1
    have hn : n ≤ s.N := by omega
    have hh := ag.has n hn
    have h0 := (ag.good.pos n (by omega)).s0
    by_cases hz : (s.acc n).seats < 1
    · exact ⟨11, s, r, ag, same.1, same.2, fun W hS => (slash_none hS pf n hn hz).mono (fun e W' ⟨h1, h2⟩ => ⟨h1, PTo.ofBelow hS h2⟩), fun W hR => (rslash_none hR cf n (by omega) (by rw [hh]; omega)).mono (fun e W' ⟨h1, h2⟩ => ⟨h1, v, RTo.ofBelow hR h2⟩)⟩
    · exact ⟨0, _, _, ag.slash n hn (by omega), same.1, same.2, fun W hS => slash_ok hS pf n hn hz, fun W hR => rslash_ok hR cf n (by omega) (by rw [hh]; omega)⟩
  · exact ⟨2, s, r, ag, same.1, same.2, fun W hS => (slash_name hS a (by rw [hN]; exact ha)).mono (fun e W' ⟨h1, h2⟩ => ⟨h1, PTo.ofBelow hS h2⟩), fun W hR => (rslash_name hR cf a ha).mono (fun e W' ⟨h1, h2⟩ => ⟨h1, v, RTo.ofBelow hR h2⟩)⟩
end
theorem bothW : BothW := ⟨fun a _ x y B s r v ag he _ => make_both ag he a, fun a _ x y B s r v ag he _ => slash_both ag he a⟩
end Go.Proofs.Ytiokecadnmcpeab
namespace Go.Proofs.Ytiokecadnmcpeab
set_option linter.unusedVariables false
set_option linter.unusedSimpArgs false
open Go.ChangeShapes Go.WideShapes Go.ChangeAt Go.RowKit
section
variable {x y B : Nat} {s : PS} {r : RS} {v : Nat → Value}

theorem Ag.more (ag : Ag s r) (n : Int) : r.depMore n = s.depMore n := by
  have h0 : 0 ≤ s.allShares := (psum_le (fun a => (s.acc a).shares) 7 (fun k hk => (ag.good.pos k hk).h0)).1
  unfold RS.depMore PS.depMore
  rw [ag.shr, ag.purse]
  by_cases e : s.allShares = 0
  · rw [if_neg (by omega), if_pos e]
  · rw [if_pos (by omega), if_neg e]
theorem Ag.worths (ag : Ag s r) (n : Int) : r.worth n = s.worth n := by
  unfold RS.worth PS.worth
  rw [ag.shr, ag.purse]

theorem deposit_both (D : DepDo) (ag : Ag s r) (he : r.epoch ≤ 4611686018427387904) (hl : r.book.length * 56 + 112 ≤ 140737488355328) (a n : Int) : SameDo2 21 87 [.int .i64 a, .int .i64 n] x y B 2 s r v := by
  have cf := ag.cfg he
  have g := ag.good
  have p := ag.pool
  have A := ag.amt
  have hN := ag.N
  have N6 := g.N6
  have same : r.book.length ≤ r.book.length + 2 ∧ r.epoch ≤ r.epoch + ((2 : Nat) : Int) := ⟨by omega, by omega⟩
  by_cases ha : 0 ≤ a ∧ a ≤ (s.N : Int) - 1
  · by_cases hn : 1 ≤ n ∧ n ≤ 1000000000
    · obtain ⟨i, rfl⟩ := Int.eq_ofNat_of_zero_le ha.1
      have hiN : i < s.N := by omega
      have h1 := ag.liq i (by omega)
      have hpp : 0 < allOf r.book 5 (-1) → 0 < r.purse := fun h => by rw [ag.shr] at h; rw [ag.purse]; exact p.purse h
      have hmore := ag.more n
      have hb := RS.depMore_bd A n hn.1 hn.2
      by_cases hf : (s.acc i).liquid < n
      · exact ⟨0, 4, s, r, ag, same.1, same.2, fun W hS => (D.funds hS g p i n hiN hn.1 hn.2 hf).mono (fun e W' ⟨h1, h2⟩ => ⟨h1, PTo.ofBelow hS h2⟩), fun W hR => (rdep_funds hR cf A i n ha.1 (by omega) hn.1 hn.2 (by rw [h1]; exact hf)).mono (fun e W' ⟨h1, h2⟩ => ⟨h1, v, RTo.ofBelow hR h2⟩)⟩
      · have hf' : ¬ allOf r.book 1 i < n := by rw [h1]; exact hf
        by_cases hm : s.depMore n < 1
        · exact ⟨0, 5, s, r, ag, same.1, same.2, fun W hS => (D.small hS g p i n hiN hn.1 hn.2 (by omega) hm).mono (fun e W' ⟨h1, h2⟩ => ⟨h1, PTo.ofBelow hS h2⟩), fun W hR => (rdep_small hR cf A i n (by omega) hn.1 hn.2 hf' hpp (by omega)).mono (fun e W' ⟨h1, h2⟩ => ⟨h1, v, RTo.ofBelow hR h2⟩)⟩
        · by_cases hx : 1000000000 < s.allShares + s.depMore n
          · exact ⟨0, 6, s, r, ag, same.1, same.2, fun W hS => (D.full hS g p i n hiN hn.1 hn.2 (by omega) (by omega) hx).mono (fun e W' ⟨h1, h2⟩ => ⟨h1, PTo.ofBelow hS h2⟩), fun W hR => (rdep_full hR cf A i n (by omega) hn.1 hn.2 hf' hpp (by omega) (by rw [ag.shr, hmore]; exact hx)).mono (fun e W' ⟨h1, h2⟩ => ⟨h1, v, RTo.ofBelow hR h2⟩)⟩
          · have hag := ag.deposit hiN n hn.1 (by omega) hb.1 (by rw [hmore]; omega)
            rw [hmore] at hag
            refine ⟨s.depMore n, 0, _, _, hag, ?_, ?_, fun W hS => D.ok hS g p i n hiN hn.1 hn.2 (by omega) (by omega) (by omega), fun W hR => ?_⟩
            · simp [RS.deposit, RS.push]
            · exact same.2
            · have hh := rdep_ok hR cf A i n (by omega) hn.1 hn.2 hf' hpp (by omega) (by rw [ag.shr, hmore]; exact hx) hl
              rw [hmore] at hh
              exact hh
    · exact ⟨0, 3, s, r, ag, same.1, same.2, fun W hS => (D.amount hS g p _ _ ha.1 ha.2 hn).mono (fun e W' ⟨h1, h2⟩ => ⟨h1, PTo.ofBelow hS h2⟩), fun W hR => (rdep_amount hR cf a n ha.1 (by omega) hn).mono (fun e W' ⟨h1, h2⟩ => ⟨h1, v, RTo.ofBelow hR h2⟩)⟩
  · exact ⟨0, 2, s, r, ag, same.1, same.2, fun W hS => (D.name hS g p _ _ ha).mono (fun e W' ⟨h1, h2⟩ => ⟨h1, PTo.ofBelow hS h2⟩), fun W hR => (rdep_name hR cf a n (by omega)).mono (fun e W' ⟨h1, h2⟩ => ⟨h1, v, RTo.ofBelow hR h2⟩)⟩

theorem leave_both (D : LeaDo) (ag : Ag s r) (he : r.epoch ≤ 4611686018427387904) (hl : r.book.length * 56 + 112 ≤ 140737488355328) (a n : Int) : SameDo2 22 88 [.int .i64 a, .int .i64 n] x y B 2 s r v := by
  have cf := ag.cfg he
  have g := ag.good
  have p := ag.pool
  have A := ag.amt
  have hN := ag.N
  have N6 := g.N6
  have he0 : 0 ≤ r.epoch := by rw [← ag.epoch]; exact g.e0
  have same : r.book.length ≤ r.book.length + 2 ∧ r.epoch ≤ r.epoch + ((2 : Nat) : Int) := ⟨by omega, by omega⟩
  by_cases ha : 0 ≤ a ∧ a ≤ (s.N : Int) - 1
  · by_cases hn : 1 ≤ n ∧ n ≤ 1000000000
    · obtain ⟨i, rfl⟩ := Int.eq_ofNat_of_zero_le ha.1
      have hiN : i < s.N := by omega
      have h1 := ag.bk.all 5 i (by omega) (by omega) (by omega)
      have h1' : allOf r.book 5 i = (s.acc i).shares := h1
      have h2' : allOf r.book 2 r.N = (s.acc s.N).locked := by rw [← hN]; exact ag.lock s.N (Nat.le_refl _)
      have hw := ag.worths n
      have hb := RS.worth_bd A n hn.1 hn.2
      by_cases hf : (s.acc i).shares < n
      · exact ⟨0, 4, s, r, ag, same.1, same.2, fun W hS => (D.funds hS g p i n hiN hn.1 hn.2 hf).mono (fun e W' ⟨h1, h2⟩ => ⟨h1, PTo.ofBelow hS h2⟩), fun W hR => (rlea_funds hR cf A i n ha.1 (by omega) hn.1 hn.2 (by rw [h1']; exact hf)).mono (fun e W' ⟨h1, h2⟩ => ⟨h1, v, RTo.ofBelow hR h2⟩)⟩
      · have hf' : ¬ allOf r.book 5 i < n := by rw [h1']; exact hf
        have hle : (s.acc i).shares ≤ s.allShares := (psum_le (fun a => (s.acc a).shares) 7 (fun k hk => (g.pos k hk).h0)).2 i (by omega)
        have hS5 : 0 < allOf r.book 5 (-1) := by rw [ag.shr]; omega
        by_cases hm : s.worth n < 1
        · exact ⟨0, 5, s, r, ag, same.1, same.2, fun W hS => (D.small hS g p i n hiN hn.1 hn.2 (by omega) hm).mono (fun e W' ⟨h1, h2⟩ => ⟨h1, PTo.ofBelow hS h2⟩), fun W hR => (rlea_small hR cf A i n (by omega) hn.1 hn.2 hf' hS5 (by omega)).mono (fun e W' ⟨h1, h2⟩ => ⟨h1, v, RTo.ofBelow hR h2⟩)⟩
        · by_cases hx : (s.acc s.N).locked < s.worth n
          · exact ⟨0, 7, s, r, ag, same.1, same.2, fun W hS => (D.busy hS g p i n hiN hn.1 hn.2 (by omega) (by omega) hx).mono (fun e W' ⟨h1, h2⟩ => ⟨h1, PTo.ofBelow hS h2⟩), fun W hR => (rlea_full hR cf A i n (by omega) hn.1 hn.2 hf' hS5 (by omega) (by rw [h2', hw]; exact hx)).mono (fun e W' ⟨h1, h2⟩ => ⟨h1, v, RTo.ofBelow hR h2⟩)⟩
          · have hag := ag.leave hiN n hn.1 (by omega) hb.1 (by rw [hw]; omega)
            rw [hw] at hag
            refine ⟨s.worth n, 0, _, _, hag, ?_, ?_, fun W hS => D.ok hS g p i n hiN hn.1 hn.2 (by omega) (by omega) (by omega), fun W hR => ?_⟩
            · simp [RS.leave, RS.push]
            · exact same.2
            · have hh := rlea_ok hR cf A i n (by omega) hn.1 hn.2 hf' hS5 (by omega) (by rw [h2', hw]; exact hx) ⟨he0, he⟩ hl
              rw [hw] at hh
              exact hh
    · exact ⟨0, 3, s, r, ag, same.1, same.2, fun W hS => (D.amount hS g p _ _ ha.1 ha.2 hn).mono (fun e W' ⟨h1, h2⟩ => ⟨h1, PTo.ofBelow hS h2⟩), fun W hR => (rlea_amount hR cf a n ha.1 (by omega) hn).mono (fun e W' ⟨h1, h2⟩ => ⟨h1, v, RTo.ofBelow hR h2⟩)⟩
  · exact ⟨0, 2, s, r, ag, same.1, same.2, fun W hS => (D.name hS g p _ _ ha).mono (fun e W' ⟨h1, h2⟩ => ⟨h1, PTo.ofBelow hS h2⟩), fun W hR => (rlea_name hR cf a n (by omega)).mono (fun e W' ⟨h1, h2⟩ => ⟨h1, v, RTo.ofBelow hR h2⟩)⟩
end
theorem bothP_by (D : DepDo) (L : LeaDo) : BothP := ⟨fun a n _ _ x y B s r v ag he hl => deposit_both D ag he hl a n, fun a n _ _ x y B s r v ag he hl => leave_both L ag he hl a n⟩
end Go.Proofs.Ytiokecadnmcpeab
