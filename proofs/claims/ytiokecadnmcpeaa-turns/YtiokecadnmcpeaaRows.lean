/-
  No cell of these rows narrows 'for every input' (looked for: loops, veiled, ifaces, maps, wideKeys, modest, calm, conditions, laid).
  DERIVED. THE GIVEN ROWS OF THIS SEAT. 12 by the template 'for every input the law returns true; each argument reads behind the call as it read before'; 0 by the template 'total and deterministic' (their statements: YtiokecadnmcpeaaTotals.lean).
  GIVEN WITH THE SEED: the statements are not yours to turn. If you find one false, say at which input.
  Laid BY PROGRAM, IN A SANDBOX (cutbox-rows.mjs): the forced cells as the released guide's own fill.sh prints them over the translation 01fdf33b4769c948… (all of the seat's roots in one cut). By AI agents, Wed Nov 11 2026. No macro, syntax, notation, axiom, sorry.
-/
import Derived.Test.YtiokecadnmcpeaaChecked
import GoSem.Claim
import GoSem.ClaimJoined
import GoSem.ClaimMapViews
import Derived.JoinedTies
import Derived.KernelRfl
namespace Go.Proofs.Ytiokecadnmcpeaa
/- THE CELL 'sum', in the pinned program and in every row, IS THE sha256 OF THE DUMP (.gsa) THAT YtiokecadnmcpeaaProg.lean LOADS. Nothing in Lean hashes anything: it is a label: what it is worth is what the hold of that sum in a sandbox is worth. -/
noncomputable def Try.pinned : Pinned := { name := "ytiokecadnmcpeaa", sum := "01fdf33b4769c948666698729b77dbe8c12b67f21414c80505184f3c00bdacde", checked := Try.checked }
namespace Rows
def none {H : Type} : Left H := { results := [], args := [] }

/-- 'seatslaw.Prices': WHATEVER THE INPUT: true; the input reads as it did. -/
def pricesSpec : ChangeSpec := { name := "prices", fn := fun _ => fun
  | [d] => { results := [.lit (.bool true)], args := [d] }
  | _ => none }
def pricesRow : OpenClaim := { program := "ytiokecadnmcpeaa", sum := "01fdf33b4769c948666698729b77dbe8c12b67f21414c80505184f3c00bdacde", func := "seats/seatslaw.Prices", spec := "prices", apart := false }
def PricesSaid : Prop := pricesRow.holds Try.pinned (OpenSpec.ofChange pricesSpec)

/-- ITS FALSE NEIGHBOUR: 'it returns false'. Refute it at one input. -/
def pricesWrong : ChangeSpec := { name := "prices", fn := fun _ => fun
  | [d] => { results := [.lit (.bool false)], args := [d] }
  | _ => none }
def PricesWrongFalsely : Prop := pricesRow.holds Try.pinned (OpenSpec.ofChange pricesWrong)

/-- 'seatskeep.Priced': WHATEVER THE INPUT: true; the input reads as it did. -/
def pricedSpec : ChangeSpec := { name := "priced", fn := fun _ => fun
  | [d1, d2] => { results := [.lit (.bool true)], args := [d1, d2] }
  | _ => none }
def pricedRow : OpenClaim := { program := "ytiokecadnmcpeaa", sum := "01fdf33b4769c948666698729b77dbe8c12b67f21414c80505184f3c00bdacde", func := "seats/seatskeep.Priced", spec := "priced", apart := false }
def PricedSaid : Prop := pricedRow.holds Try.pinned (OpenSpec.ofChange pricedSpec)

/-- ITS FALSE NEIGHBOUR: 'it returns false'. Refute it at one input. -/
def pricedWrong : ChangeSpec := { name := "priced", fn := fun _ => fun
  | [d1, d2] => { results := [.lit (.bool false)], args := [d1, d2] }
  | _ => none }
def PricedWrongFalsely : Prop := pricedRow.holds Try.pinned (OpenSpec.ofChange pricedWrong)

/-- 'seatslaw.Sends': WHATEVER THE INPUT: true; the input reads as it did. -/
def sendsSpec : ChangeSpec := { name := "sends", fn := fun _ => fun
  | [d] => { results := [.lit (.bool true)], args := [d] }
  | _ => none }
def sendsRow : OpenClaim := { program := "ytiokecadnmcpeaa", sum := "01fdf33b4769c948666698729b77dbe8c12b67f21414c80505184f3c00bdacde", func := "seats/seatslaw.Sends", spec := "sends", apart := false }
def SendsSaid : Prop := sendsRow.holds Try.pinned (OpenSpec.ofChange sendsSpec)

/-- ITS FALSE NEIGHBOUR: 'it returns false'. Refute it at one input. -/
def sendsWrong : ChangeSpec := { name := "sends", fn := fun _ => fun
  | [d] => { results := [.lit (.bool false)], args := [d] }
  | _ => none }
def SendsWrongFalsely : Prop := sendsRow.holds Try.pinned (OpenSpec.ofChange sendsWrong)

/-- 'seatslaw.Epochs': WHATEVER THE INPUT: true; the input reads as it did. -/
def epochsSpec : ChangeSpec := { name := "epochs", fn := fun _ => fun
  | [d] => { results := [.lit (.bool true)], args := [d] }
  | _ => none }
def epochsRow : OpenClaim := { program := "ytiokecadnmcpeaa", sum := "01fdf33b4769c948666698729b77dbe8c12b67f21414c80505184f3c00bdacde", func := "seats/seatslaw.Epochs", spec := "epochs", apart := false }
def EpochsSaid : Prop := epochsRow.holds Try.pinned (OpenSpec.ofChange epochsSpec)

/-- ITS FALSE NEIGHBOUR: 'it returns false'. Refute it at one input. -/
def epochsWrong : ChangeSpec := { name := "epochs", fn := fun _ => fun
  | [d] => { results := [.lit (.bool false)], args := [d] }
  | _ => none }
def EpochsWrongFalsely : Prop := epochsRow.holds Try.pinned (OpenSpec.ofChange epochsWrong)

/-- 'seatslaw.Works': WHATEVER THE INPUT: true; the input reads as it did. -/
def worksSpec : ChangeSpec := { name := "works", fn := fun _ => fun
  | [d] => { results := [.lit (.bool true)], args := [d] }
  | _ => none }
def worksRow : OpenClaim := { program := "ytiokecadnmcpeaa", sum := "01fdf33b4769c948666698729b77dbe8c12b67f21414c80505184f3c00bdacde", func := "seats/seatslaw.Works", spec := "works", apart := false }
def WorksSaid : Prop := worksRow.holds Try.pinned (OpenSpec.ofChange worksSpec)

/-- ITS FALSE NEIGHBOUR: 'it returns false'. Refute it at one input. -/
def worksWrong : ChangeSpec := { name := "works", fn := fun _ => fun
  | [d] => { results := [.lit (.bool false)], args := [d] }
  | _ => none }
def WorksWrongFalsely : Prop := worksRow.holds Try.pinned (OpenSpec.ofChange worksWrong)

/-- 'seatskeep.Back': WHATEVER THE INPUT: true; the input reads as it did. -/
def backSpec : ChangeSpec := { name := "back", fn := fun _ => fun
  | [d1, d2] => { results := [.lit (.bool true)], args := [d1, d2] }
  | _ => none }
def backRow : OpenClaim := { program := "ytiokecadnmcpeaa", sum := "01fdf33b4769c948666698729b77dbe8c12b67f21414c80505184f3c00bdacde", func := "seats/seatskeep.Back", spec := "back", apart := false }
def BackSaid : Prop := backRow.holds Try.pinned (OpenSpec.ofChange backSpec)

/-- ITS FALSE NEIGHBOUR: 'it returns false'. Refute it at one input. -/
def backWrong : ChangeSpec := { name := "back", fn := fun _ => fun
  | [d1, d2] => { results := [.lit (.bool false)], args := [d1, d2] }
  | _ => none }
def BackWrongFalsely : Prop := backRow.holds Try.pinned (OpenSpec.ofChange backWrong)

/-- 'seatskeep.Sold': WHATEVER THE INPUT: true; the input reads as it did. -/
def soldSpec : ChangeSpec := { name := "sold", fn := fun _ => fun
  | [d1, d2] => { results := [.lit (.bool true)], args := [d1, d2] }
  | _ => none }
def soldRow : OpenClaim := { program := "ytiokecadnmcpeaa", sum := "01fdf33b4769c948666698729b77dbe8c12b67f21414c80505184f3c00bdacde", func := "seats/seatskeep.Sold", spec := "sold", apart := false }
def SoldSaid : Prop := soldRow.holds Try.pinned (OpenSpec.ofChange soldSpec)

/-- ITS FALSE NEIGHBOUR: 'it returns false'. Refute it at one input. -/
def soldWrong : ChangeSpec := { name := "sold", fn := fun _ => fun
  | [d1, d2] => { results := [.lit (.bool false)], args := [d1, d2] }
  | _ => none }
def SoldWrongFalsely : Prop := soldRow.holds Try.pinned (OpenSpec.ofChange soldWrong)

/-- 'seatskeep.Turns': WHATEVER THE INPUT: true; the input reads as it did. -/
def turnsSpec : ChangeSpec := { name := "turns", fn := fun _ => fun
  | [d1, d2] => { results := [.lit (.bool true)], args := [d1, d2] }
  | _ => none }
def turnsRow : OpenClaim := { program := "ytiokecadnmcpeaa", sum := "01fdf33b4769c948666698729b77dbe8c12b67f21414c80505184f3c00bdacde", func := "seats/seatskeep.Turns", spec := "turns", apart := false }
def TurnsSaid : Prop := turnsRow.holds Try.pinned (OpenSpec.ofChange turnsSpec)

/-- ITS FALSE NEIGHBOUR: 'it returns false'. Refute it at one input. -/
def turnsWrong : ChangeSpec := { name := "turns", fn := fun _ => fun
  | [d1, d2] => { results := [.lit (.bool false)], args := [d1, d2] }
  | _ => none }
def TurnsWrongFalsely : Prop := turnsRow.holds Try.pinned (OpenSpec.ofChange turnsWrong)

/-- 'seatskeep.Minted': WHATEVER THE INPUT: true; the input reads as it did. -/
def mintedSpec : ChangeSpec := { name := "minted", fn := fun _ => fun
  | [d1, d2] => { results := [.lit (.bool true)], args := [d1, d2] }
  | _ => none }
def mintedRow : OpenClaim := { program := "ytiokecadnmcpeaa", sum := "01fdf33b4769c948666698729b77dbe8c12b67f21414c80505184f3c00bdacde", func := "seats/seatskeep.Minted", spec := "minted", apart := false }
def MintedSaid : Prop := mintedRow.holds Try.pinned (OpenSpec.ofChange mintedSpec)

/-- ITS FALSE NEIGHBOUR: 'it returns false'. Refute it at one input. -/
def mintedWrong : ChangeSpec := { name := "minted", fn := fun _ => fun
  | [d1, d2] => { results := [.lit (.bool false)], args := [d1, d2] }
  | _ => none }
def MintedWrongFalsely : Prop := mintedRow.holds Try.pinned (OpenSpec.ofChange mintedWrong)

/-- 'seatslaw.Pools': WHATEVER THE INPUT: true; the input reads as it did. -/
def poolsSpec : ChangeSpec := { name := "pools", fn := fun _ => fun
  | [d] => { results := [.lit (.bool true)], args := [d] }
  | _ => none }
def poolsRow : OpenClaim := { program := "ytiokecadnmcpeaa", sum := "01fdf33b4769c948666698729b77dbe8c12b67f21414c80505184f3c00bdacde", func := "seats/seatslaw.Pools", spec := "pools", apart := false }
def PoolsSaid : Prop := poolsRow.holds Try.pinned (OpenSpec.ofChange poolsSpec)

/-- ITS FALSE NEIGHBOUR: 'it returns false'. Refute it at one input. -/
def poolsWrong : ChangeSpec := { name := "pools", fn := fun _ => fun
  | [d] => { results := [.lit (.bool false)], args := [d] }
  | _ => none }
def PoolsWrongFalsely : Prop := poolsRow.holds Try.pinned (OpenSpec.ofChange poolsWrong)

/-- 'seatskeep.Pooled': WHATEVER THE INPUT: true; the input reads as it did. -/
def pooledSpec : ChangeSpec := { name := "pooled", fn := fun _ => fun
  | [d1, d2] => { results := [.lit (.bool true)], args := [d1, d2] }
  | _ => none }
def pooledRow : OpenClaim := { program := "ytiokecadnmcpeaa", sum := "01fdf33b4769c948666698729b77dbe8c12b67f21414c80505184f3c00bdacde", func := "seats/seatskeep.Pooled", spec := "pooled", apart := false }
def PooledSaid : Prop := pooledRow.holds Try.pinned (OpenSpec.ofChange pooledSpec)

/-- ITS FALSE NEIGHBOUR: 'it returns false'. Refute it at one input. -/
def pooledWrong : ChangeSpec := { name := "pooled", fn := fun _ => fun
  | [d1, d2] => { results := [.lit (.bool false)], args := [d1, d2] }
  | _ => none }
def PooledWrongFalsely : Prop := pooledRow.holds Try.pinned (OpenSpec.ofChange pooledWrong)

/-- 'seatskeep.Conserved': WHATEVER THE INPUT: true; the input reads as it did. -/
def conservedSpec : ChangeSpec := { name := "conserved", fn := fun _ => fun
  | [d1, d2] => { results := [.lit (.bool true)], args := [d1, d2] }
  | _ => none }
def conservedRow : OpenClaim := { program := "ytiokecadnmcpeaa", sum := "01fdf33b4769c948666698729b77dbe8c12b67f21414c80505184f3c00bdacde", func := "seats/seatskeep.Conserved", spec := "conserved", apart := false }
def ConservedSaid : Prop := conservedRow.holds Try.pinned (OpenSpec.ofChange conservedSpec)

/-- ITS FALSE NEIGHBOUR: 'it returns false'. Refute it at one input. -/
def conservedWrong : ChangeSpec := { name := "conserved", fn := fun _ => fun
  | [d1, d2] => { results := [.lit (.bool false)], args := [d1, d2] }
  | _ => none }
def ConservedWrongFalsely : Prop := conservedRow.holds Try.pinned (OpenSpec.ofChange conservedWrong)

/- THE SECOND FORM. 'bulk': how many values and letters a reading holds, each counted each time it is reached (what is shared counts as often as it is met; a slice's spare places count too). A statement '..UptoSaid' is the law's where the arguments, and the package variables that the reading takes, are together of bulk at most 1048576: NARROWER than '..Said'. Prove '..Said' where nothing that the law and all that it calls make is longer than what came in: it says more and counts as full. Else prove '..UptoSaid'. A law counts once. -/
mutual
def uptoBulk {H : Type} : DataW H → Nat
  | .lit (.string bytes) => bytes.length + 1
  | .lit _ => 1
  | .nil => 1
  | .ptr d => uptoBulk d + 1
  | .slice elems spare => uptoBulkAll elems + uptoBulkAll spare + 1
  | .agg parts => uptoBulkAll parts + 1
  | .iface _ d => uptoBulk d + 1
  | .map entries => uptoBulkEntries entries + 1
  | .held _ => 1
def uptoBulkAll {H : Type} : List (DataW H) → Nat
  | [] => 0
  | d :: r => uptoBulk d + uptoBulkAll r
def uptoBulkEntries {H : Type} : List (Lit × DataW H) → Nat
  | [] => 0
  | x :: r => uptoBulkEntry x + uptoBulkEntries r
def uptoBulkEntry {H : Type} : Lit × DataW H → Nat
  | (.string bytes, d) => bytes.length + uptoBulk d + 1
  | (_, d) => uptoBulk d + 1
 end
def uptoSmall : (H : Type) → List (DataW H) → Bool := fun _ ds => decide (uptoBulkAll ds ≤ 1048576)
def OpenSpec.upto (s : _root_.Go.ChangeSpec) : _root_.Go.OpenSpec := { _root_.Go.OpenSpec.ofChange s with cond := some uptoSmall }

/-- 'seatslaw.Prices', WHERE WHAT IT READS IS OF BULK AT MOST 1048576: true; the input reads as it did. -/
def pricesUptoRow : OpenClaim := { program := "ytiokecadnmcpeaa", sum := "01fdf33b4769c948666698729b77dbe8c12b67f21414c80505184f3c00bdacde", func := "seats/seatslaw.Prices", spec := "prices", apart := false, narrowed := true }
def PricesUptoSaid : Prop := pricesUptoRow.holds Try.pinned (OpenSpec.upto pricesSpec)

/-- 'seatskeep.Priced', WHERE WHAT IT READS IS OF BULK AT MOST 1048576: true; the input reads as it did. -/
def pricedUptoRow : OpenClaim := { program := "ytiokecadnmcpeaa", sum := "01fdf33b4769c948666698729b77dbe8c12b67f21414c80505184f3c00bdacde", func := "seats/seatskeep.Priced", spec := "priced", apart := false, narrowed := true }
def PricedUptoSaid : Prop := pricedUptoRow.holds Try.pinned (OpenSpec.upto pricedSpec)

/-- 'seatslaw.Sends', WHERE WHAT IT READS IS OF BULK AT MOST 1048576: true; the input reads as it did. -/
def sendsUptoRow : OpenClaim := { program := "ytiokecadnmcpeaa", sum := "01fdf33b4769c948666698729b77dbe8c12b67f21414c80505184f3c00bdacde", func := "seats/seatslaw.Sends", spec := "sends", apart := false, narrowed := true }
def SendsUptoSaid : Prop := sendsUptoRow.holds Try.pinned (OpenSpec.upto sendsSpec)

/-- 'seatslaw.Epochs', WHERE WHAT IT READS IS OF BULK AT MOST 1048576: true; the input reads as it did. -/
def epochsUptoRow : OpenClaim := { program := "ytiokecadnmcpeaa", sum := "01fdf33b4769c948666698729b77dbe8c12b67f21414c80505184f3c00bdacde", func := "seats/seatslaw.Epochs", spec := "epochs", apart := false, narrowed := true }
def EpochsUptoSaid : Prop := epochsUptoRow.holds Try.pinned (OpenSpec.upto epochsSpec)

/-- 'seatslaw.Works', WHERE WHAT IT READS IS OF BULK AT MOST 1048576: true; the input reads as it did. -/
def worksUptoRow : OpenClaim := { program := "ytiokecadnmcpeaa", sum := "01fdf33b4769c948666698729b77dbe8c12b67f21414c80505184f3c00bdacde", func := "seats/seatslaw.Works", spec := "works", apart := false, narrowed := true }
def WorksUptoSaid : Prop := worksUptoRow.holds Try.pinned (OpenSpec.upto worksSpec)

/-- 'seatskeep.Back', WHERE WHAT IT READS IS OF BULK AT MOST 1048576: true; the input reads as it did. -/
def backUptoRow : OpenClaim := { program := "ytiokecadnmcpeaa", sum := "01fdf33b4769c948666698729b77dbe8c12b67f21414c80505184f3c00bdacde", func := "seats/seatskeep.Back", spec := "back", apart := false, narrowed := true }
def BackUptoSaid : Prop := backUptoRow.holds Try.pinned (OpenSpec.upto backSpec)

/-- 'seatskeep.Sold', WHERE WHAT IT READS IS OF BULK AT MOST 1048576: true; the input reads as it did. -/
def soldUptoRow : OpenClaim := { program := "ytiokecadnmcpeaa", sum := "01fdf33b4769c948666698729b77dbe8c12b67f21414c80505184f3c00bdacde", func := "seats/seatskeep.Sold", spec := "sold", apart := false, narrowed := true }
def SoldUptoSaid : Prop := soldUptoRow.holds Try.pinned (OpenSpec.upto soldSpec)

/-- 'seatskeep.Turns', WHERE WHAT IT READS IS OF BULK AT MOST 1048576: true; the input reads as it did. -/
def turnsUptoRow : OpenClaim := { program := "ytiokecadnmcpeaa", sum := "01fdf33b4769c948666698729b77dbe8c12b67f21414c80505184f3c00bdacde", func := "seats/seatskeep.Turns", spec := "turns", apart := false, narrowed := true }
def TurnsUptoSaid : Prop := turnsUptoRow.holds Try.pinned (OpenSpec.upto turnsSpec)

/-- 'seatskeep.Minted', WHERE WHAT IT READS IS OF BULK AT MOST 1048576: true; the input reads as it did. -/
def mintedUptoRow : OpenClaim := { program := "ytiokecadnmcpeaa", sum := "01fdf33b4769c948666698729b77dbe8c12b67f21414c80505184f3c00bdacde", func := "seats/seatskeep.Minted", spec := "minted", apart := false, narrowed := true }
def MintedUptoSaid : Prop := mintedUptoRow.holds Try.pinned (OpenSpec.upto mintedSpec)

/-- 'seatslaw.Pools', WHERE WHAT IT READS IS OF BULK AT MOST 1048576: true; the input reads as it did. -/
def poolsUptoRow : OpenClaim := { program := "ytiokecadnmcpeaa", sum := "01fdf33b4769c948666698729b77dbe8c12b67f21414c80505184f3c00bdacde", func := "seats/seatslaw.Pools", spec := "pools", apart := false, narrowed := true }
def PoolsUptoSaid : Prop := poolsUptoRow.holds Try.pinned (OpenSpec.upto poolsSpec)

/-- 'seatskeep.Pooled', WHERE WHAT IT READS IS OF BULK AT MOST 1048576: true; the input reads as it did. -/
def pooledUptoRow : OpenClaim := { program := "ytiokecadnmcpeaa", sum := "01fdf33b4769c948666698729b77dbe8c12b67f21414c80505184f3c00bdacde", func := "seats/seatskeep.Pooled", spec := "pooled", apart := false, narrowed := true }
def PooledUptoSaid : Prop := pooledUptoRow.holds Try.pinned (OpenSpec.upto pooledSpec)

/-- 'seatskeep.Conserved', WHERE WHAT IT READS IS OF BULK AT MOST 1048576: true; the input reads as it did. -/
def conservedUptoRow : OpenClaim := { program := "ytiokecadnmcpeaa", sum := "01fdf33b4769c948666698729b77dbe8c12b67f21414c80505184f3c00bdacde", func := "seats/seatskeep.Conserved", spec := "conserved", apart := false, narrowed := true }
def ConservedUptoSaid : Prop := conservedUptoRow.holds Try.pinned (OpenSpec.upto conservedSpec)

end Rows
end Go.Proofs.Ytiokecadnmcpeaa
