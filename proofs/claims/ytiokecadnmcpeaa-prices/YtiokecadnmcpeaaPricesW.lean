import Derived.Test.YtiokecadnmcpeaaScript
import Derived.Test.YtiokecadnmcpeaaPriceLaw
namespace Go.Proofs.Ytiokecadnmcpeaa
open Go.ChangeShapes Go.WideShapes Go.ChangeAt Go.RowKit

set_option maxHeartbeats 800000 in
theorem prices_walk (a : Option Addr) (cap : Nat) (s : List OpD) (w : World) (hs : Script w a s) (hreach : s.length * 136 ≤ 140737488351232) :
    Calls Try.prog 3 #[.slice a s.length cap] w fun e w' => e = .returned (.bool true) ∧ Below w.heap.size w w' := by
  go_enter Try.func3, Try.ntmps3
  go_wp2
  go_loopw [3] (fun i wr => ∃ k : Nat, k ≤ s.length ∧ i = .int .i64 k ∧ Below w.heap.size w wr) (fun i _ => s.length - (intOf i).toNat)
  case atStart => exact ⟨0, Nat.zero_le _, rfl, Below.refl _ _⟩
  case round =>
    obtain ⟨k, hk, rfl, hb⟩ := hrel
    by_cases hlt : k < s.length
    · obtain ⟨b, off, ha, hok, hc⟩ := (hs.below hb).at hlt
      subst ha
      generalize s.getD k OpD.zero = o at *
      have c0 : wr.cell? ⟨b, off + k * 13, none⟩ = some (.int .i64 o.kind) := hc 0 (by omega)
      have c1 : wr.cell? ⟨b, off + k * 13 + 1, none⟩ = some (.int .i64 o.who) := hc 1 (by omega)
      have c2 : wr.cell? ⟨b, off + k * 13 + 2, none⟩ = some (.int .i64 o.A) := hc 2 (by omega)
      have c3 : wr.cell? ⟨b, off + k * 13 + 3, none⟩ = some (.int .i64 o.B) := hc 3 (by omega)
      have c4 : wr.cell? ⟨b, off + k * 13 + 4, none⟩ = some (.int .i64 o.C) := hc 4 (by omega)
      have c5 : wr.cell? ⟨b, off + k * 13 + 5, none⟩ = some (.int .i64 o.seats) := hc 5 (by omega)
      have c6 : wr.cell? ⟨b, off + k * 13 + 6, none⟩ = some (.int .i64 o.delay) := hc 6 (by omega)
      have c7 : wr.cell? ⟨b, off + k * 13 + 7, none⟩ = some (.int .i64 o.rate) := hc 7 (by omega)
      have c8 : wr.cell? ⟨b, off + k * 13 + 8, none⟩ = some (.int .i64 o.cut) := hc 8 (by omega)
      have c9 : wr.cell? ⟨b, off + k * 13 + 9, none⟩ = some (.int .i64 o.length) := hc 9 (by omega)
      have c10 : wr.cell? ⟨b, off + k * 13 + 10, none⟩ = some (.int .i64 o.need) := hc 10 (by omega)
      have c11 : wr.cell? ⟨b, off + k * 13 + 11, none⟩ = some (.slice o.sa o.start.length o.scap) := hc 11 (by omega)
      have c12 : wr.cell? ⟨b, off + k * 13 + 12, none⟩ = some (.slice o.la o.l.length o.lcap) := hc 12 (by omega)
      clear hc
      by_cases hkind : o.kind = 1
      · have hkd : (o.kind == 1) = true := by simpa using hkind
        clear hkind
        go_wp2_with fail
        refine (priced_law _ _ _ _ _ _ _ _ _ _ _ _ _ _ _ _ hok.l hok.reach).mono ?_
        rintro e w1 ⟨rfl, hb1⟩
        have hb2 : Below w.heap.size w w1 := hb.trans (hb1.mono hb.size)
        clear c0 c1 c2 c3 c4 c5 c6 c7 c8 c9 c10 c11 c12 hb1 hok hb
        go_wp2_with fail
        go_roundw
        case rel => exact ⟨k + 1, by omega, by go_num, hb2⟩
        case measure => simp [intOf]; omega
      · have hkd : (o.kind == 1) = false := by simpa using hkind
        clear hkind
        go_wp2_with fail
        go_roundw
        case rel => exact ⟨k + 1, by omega, by go_num, hb⟩
        case measure => simp [intOf]; omega
    · go_wp2
      go_ret
      exact ⟨rfl, hb⟩
end Go.Proofs.Ytiokecadnmcpeaa
