/-
  No cell of these rows narrows 'for every input' (looked for: loops, veiled, ifaces, maps, wideKeys, modest, calm, conditions, laid).
  DERIVED. THE GIVEN ROWS OF THIS SEAT. 8 by the template 'for every input the law returns true; each argument reads behind the call as it read before'; 0 by the template 'total and deterministic' (their statements: YtmepdkdeanbbaaaGreatTotals.lean).
  GIVEN WITH THE SEED: the statements are not yours to turn. If you find one false, say at which input.
  Laid BY PROGRAM, IN A SANDBOX (cutbox-rows.mjs): the forced cells as the released guide's own fill.sh prints them over the translation 631ee34982858257… (all of the seat's roots in one cut). By AI agents, Wed Nov 11 2026. No macro, syntax, notation, axiom, sorry.
-/
import Derived.Test.YtmepdkdeanbbaaaGreatChecked
import GoSem.Claim
import GoSem.ClaimJoined
import GoSem.ClaimMapViews
import Derived.JoinedTies
import Derived.KernelRfl
namespace Go.Proofs.YtmepdkdeanbbaaaGreat
/- THE CELL 'sum', in the pinned program and in every row, IS THE sha256 OF THE DUMP (.gsa) THAT YtmepdkdeanbbaaaGreatProg.lean LOADS. Nothing in Lean hashes anything: it is a label: what it is worth is what the hold of that sum in a sandbox is worth. -/
noncomputable def Tryz.pinned : Pinned := { name := "ytmepdkdeanbbaaagreat", sum := "631ee3498285825725a5f70b1ac05a47accc52317bb367c4bc382ab08bd339ad", checked := Tryz.checked }
namespace Rows
def none {H : Type} : Left H := { results := [], args := [] }

/-- 'tesseractlaw11.LatticePlays': WHATEVER THE INPUT: true; the input reads as it did. -/
def latticePlaysSpec : ChangeSpec := { name := "latticePlays", fn := fun _ => fun
  | [d1, d2] => { results := [.lit (.bool true)], args := [d1, d2] }
  | _ => none }
def latticePlaysRow : OpenClaim := { program := "ytmepdkdeanbbaaagreat", sum := "631ee3498285825725a5f70b1ac05a47accc52317bb367c4bc382ab08bd339ad", func := "tesseract/tesseractlaw11.LatticePlays", spec := "latticePlays", inPlace := ["maps.clone"], unfollowed := true, recurses := true, plainKeys := false, apart := false }
def LatticePlaysSaid : Prop := latticePlaysRow.holds Tryz.pinned (OpenSpec.ofChange latticePlaysSpec)

/-- ITS FALSE NEIGHBOUR: 'it returns false'. Refute it at one input. -/
def latticePlaysWrong : ChangeSpec := { name := "latticePlays", fn := fun _ => fun
  | [d1, d2] => { results := [.lit (.bool false)], args := [d1, d2] }
  | _ => none }
def LatticePlaysWrongFalsely : Prop := latticePlaysRow.holds Tryz.pinned (OpenSpec.ofChange latticePlaysWrong)

/-- 'tesseractlaw11.LatticeCells': WHATEVER THE INPUT: true; the input reads as it did. -/
def latticeCellsSpec : ChangeSpec := { name := "latticeCells", fn := fun _ => fun
  | [d1, d2] => { results := [.lit (.bool true)], args := [d1, d2] }
  | _ => none }
def latticeCellsRow : OpenClaim := { program := "ytmepdkdeanbbaaagreat", sum := "631ee3498285825725a5f70b1ac05a47accc52317bb367c4bc382ab08bd339ad", func := "tesseract/tesseractlaw11.LatticeCells", spec := "latticeCells", inPlace := ["maps.clone"], unfollowed := true, recurses := true, plainKeys := false, apart := false }
def LatticeCellsSaid : Prop := latticeCellsRow.holds Tryz.pinned (OpenSpec.ofChange latticeCellsSpec)

/-- ITS FALSE NEIGHBOUR: 'it returns false'. Refute it at one input. -/
def latticeCellsWrong : ChangeSpec := { name := "latticeCells", fn := fun _ => fun
  | [d1, d2] => { results := [.lit (.bool false)], args := [d1, d2] }
  | _ => none }
def LatticeCellsWrongFalsely : Prop := latticeCellsRow.holds Tryz.pinned (OpenSpec.ofChange latticeCellsWrong)

/-- 'tesseractlaw11.LatticeBatches': WHATEVER THE INPUT: true; the input reads as it did. -/
def latticeBatchesSpec : ChangeSpec := { name := "latticeBatches", fn := fun _ => fun
  | [d1, d2] => { results := [.lit (.bool true)], args := [d1, d2] }
  | _ => none }
def latticeBatchesRow : OpenClaim := { program := "ytmepdkdeanbbaaagreat", sum := "631ee3498285825725a5f70b1ac05a47accc52317bb367c4bc382ab08bd339ad", func := "tesseract/tesseractlaw11.LatticeBatches", spec := "latticeBatches", inPlace := ["maps.clone"], unfollowed := true, recurses := true, plainKeys := false, apart := false }
def LatticeBatchesSaid : Prop := latticeBatchesRow.holds Tryz.pinned (OpenSpec.ofChange latticeBatchesSpec)

/-- ITS FALSE NEIGHBOUR: 'it returns false'. Refute it at one input. -/
def latticeBatchesWrong : ChangeSpec := { name := "latticeBatches", fn := fun _ => fun
  | [d1, d2] => { results := [.lit (.bool false)], args := [d1, d2] }
  | _ => none }
def LatticeBatchesWrongFalsely : Prop := latticeBatchesRow.holds Tryz.pinned (OpenSpec.ofChange latticeBatchesWrong)

/-- 'tesseractlaw11.LatticeReads': WHATEVER THE INPUT: true; the input reads as it did. -/
def latticeReadsSpec : ChangeSpec := { name := "latticeReads", fn := fun _ => fun
  | [d1, d2] => { results := [.lit (.bool true)], args := [d1, d2] }
  | _ => none }
def latticeReadsRow : OpenClaim := { program := "ytmepdkdeanbbaaagreat", sum := "631ee3498285825725a5f70b1ac05a47accc52317bb367c4bc382ab08bd339ad", func := "tesseract/tesseractlaw11.LatticeReads", spec := "latticeReads", inPlace := ["maps.clone"], unfollowed := true, recurses := true, plainKeys := false, apart := false }
def LatticeReadsSaid : Prop := latticeReadsRow.holds Tryz.pinned (OpenSpec.ofChange latticeReadsSpec)

/-- ITS FALSE NEIGHBOUR: 'it returns false'. Refute it at one input. -/
def latticeReadsWrong : ChangeSpec := { name := "latticeReads", fn := fun _ => fun
  | [d1, d2] => { results := [.lit (.bool false)], args := [d1, d2] }
  | _ => none }
def LatticeReadsWrongFalsely : Prop := latticeReadsRow.holds Tryz.pinned (OpenSpec.ofChange latticeReadsWrong)

/-- 'tesseractlaw11.LatticeRound': WHATEVER THE INPUT: true; the input reads as it did. -/
def latticeRoundSpec : ChangeSpec := { name := "latticeRound", fn := fun _ => fun
  | [d1, d2, d3] => { results := [.lit (.bool true)], args := [d1, d2, d3] }
  | _ => none }
def latticeRoundRow : OpenClaim := { program := "ytmepdkdeanbbaaagreat", sum := "631ee3498285825725a5f70b1ac05a47accc52317bb367c4bc382ab08bd339ad", func := "tesseract/tesseractlaw11.LatticeRound", spec := "latticeRound", inPlace := ["maps.clone"], unfollowed := true, recurses := true, plainKeys := false, apart := false }
def LatticeRoundSaid : Prop := latticeRoundRow.holds Tryz.pinned (OpenSpec.ofChange latticeRoundSpec)

/-- ITS FALSE NEIGHBOUR: 'it returns false'. Refute it at one input. -/
def latticeRoundWrong : ChangeSpec := { name := "latticeRound", fn := fun _ => fun
  | [d1, d2, d3] => { results := [.lit (.bool false)], args := [d1, d2, d3] }
  | _ => none }
def LatticeRoundWrongFalsely : Prop := latticeRoundRow.holds Tryz.pinned (OpenSpec.ofChange latticeRoundWrong)

/-- 'tesseractlaw11.LatticeStays': WHATEVER THE INPUT: true; the input reads as it did. -/
def latticeStaysSpec : ChangeSpec := { name := "latticeStays", fn := fun _ => fun
  | [d1, d2] => { results := [.lit (.bool true)], args := [d1, d2] }
  | _ => none }
def latticeStaysRow : OpenClaim := { program := "ytmepdkdeanbbaaagreat", sum := "631ee3498285825725a5f70b1ac05a47accc52317bb367c4bc382ab08bd339ad", func := "tesseract/tesseractlaw11.LatticeStays", spec := "latticeStays", inPlace := ["maps.clone"], unfollowed := true, recurses := true, plainKeys := false, apart := false }
def LatticeStaysSaid : Prop := latticeStaysRow.holds Tryz.pinned (OpenSpec.ofChange latticeStaysSpec)

/-- ITS FALSE NEIGHBOUR: 'it returns false'. Refute it at one input. -/
def latticeStaysWrong : ChangeSpec := { name := "latticeStays", fn := fun _ => fun
  | [d1, d2] => { results := [.lit (.bool false)], args := [d1, d2] }
  | _ => none }
def LatticeStaysWrongFalsely : Prop := latticeStaysRow.holds Tryz.pinned (OpenSpec.ofChange latticeStaysWrong)

/-- 'tesseractlaw11.LatticeOwns': WHATEVER THE INPUT: true; the input reads as it did. -/
def latticeOwnsSpec : ChangeSpec := { name := "latticeOwns", fn := fun _ => fun
  | [d1, d2, d3] => { results := [.lit (.bool true)], args := [d1, d2, d3] }
  | _ => none }
def latticeOwnsRow : OpenClaim := { program := "ytmepdkdeanbbaaagreat", sum := "631ee3498285825725a5f70b1ac05a47accc52317bb367c4bc382ab08bd339ad", func := "tesseract/tesseractlaw11.LatticeOwns", spec := "latticeOwns", inPlace := ["maps.clone"], unfollowed := true, recurses := true, plainKeys := false, apart := false }
def LatticeOwnsSaid : Prop := latticeOwnsRow.holds Tryz.pinned (OpenSpec.ofChange latticeOwnsSpec)

/-- ITS FALSE NEIGHBOUR: 'it returns false'. Refute it at one input. -/
def latticeOwnsWrong : ChangeSpec := { name := "latticeOwns", fn := fun _ => fun
  | [d1, d2, d3] => { results := [.lit (.bool false)], args := [d1, d2, d3] }
  | _ => none }
def LatticeOwnsWrongFalsely : Prop := latticeOwnsRow.holds Tryz.pinned (OpenSpec.ofChange latticeOwnsWrong)

/-- 'tesseractlaw11.LatticeRows': WHATEVER THE INPUT: true; the input reads as it did. -/
def latticeRowsSpec : ChangeSpec := { name := "latticeRows", fn := fun _ => fun
  | [d1, d2] => { results := [.lit (.bool true)], args := [d1, d2] }
  | _ => none }
def latticeRowsRow : OpenClaim := { program := "ytmepdkdeanbbaaagreat", sum := "631ee3498285825725a5f70b1ac05a47accc52317bb367c4bc382ab08bd339ad", func := "tesseract/tesseractlaw11.LatticeRows", spec := "latticeRows", inPlace := ["maps.clone"], unfollowed := true, recurses := true, plainKeys := false, apart := false }
def LatticeRowsSaid : Prop := latticeRowsRow.holds Tryz.pinned (OpenSpec.ofChange latticeRowsSpec)

/-- ITS FALSE NEIGHBOUR: 'it returns false'. Refute it at one input. -/
def latticeRowsWrong : ChangeSpec := { name := "latticeRows", fn := fun _ => fun
  | [d1, d2] => { results := [.lit (.bool false)], args := [d1, d2] }
  | _ => none }
def LatticeRowsWrongFalsely : Prop := latticeRowsRow.holds Tryz.pinned (OpenSpec.ofChange latticeRowsWrong)

/- THE SECOND FORM. 'bulk': how many values and letters a reading holds, each counted each time it is reached (what is shared counts as often as it is met; a slice's spare places count too). A statement '..UptoSaid' is the law's where the arguments, and the package variables that the reading takes, are together of bulk at most 1048576: NARROWER than '..Said'. Prove '..Said' where nothing that the law and all that it calls make is longer than what came in: it says more and counts as full. Else prove '..UptoSaid'. A law counts once. -/
mutual
def uptoBulk {H : Type} : DataW H → Nat
  | .lit (.string bytes) => bytes.length + 1
  | .lit _ => 1
  | .nil => 1
  | .ptr d => uptoBulk d + 1
  | .slice elems spare => uptoBulkAll elems + uptoBulkAll spare + 1
  | .agg parts => uptoBulkAll parts + 1
  | .iface _ d => uptoBulk d + 1
  | .map entries => uptoBulkEntries entries + 1
  | .held _ => 1
def uptoBulkAll {H : Type} : List (DataW H) → Nat
  | [] => 0
  | d :: r => uptoBulk d + uptoBulkAll r
def uptoBulkEntries {H : Type} : List (Lit × DataW H) → Nat
  | [] => 0
  | x :: r => uptoBulkEntry x + uptoBulkEntries r
def uptoBulkEntry {H : Type} : Lit × DataW H → Nat
  | (.string bytes, d) => bytes.length + uptoBulk d + 1
  | (_, d) => uptoBulk d + 1
 end
def uptoSmall : (H : Type) → List (DataW H) → Bool := fun _ ds => decide (uptoBulkAll ds ≤ 1048576)
def OpenSpec.upto (s : _root_.Go.ChangeSpec) : _root_.Go.OpenSpec := { _root_.Go.OpenSpec.ofChange s with cond := some uptoSmall }

/-- 'tesseractlaw11.LatticePlays', WHERE WHAT IT READS IS OF BULK AT MOST 1048576: true; the input reads as it did. -/
def latticePlaysUptoRow : OpenClaim := { program := "ytmepdkdeanbbaaagreat", sum := "631ee3498285825725a5f70b1ac05a47accc52317bb367c4bc382ab08bd339ad", func := "tesseract/tesseractlaw11.LatticePlays", spec := "latticePlays", inPlace := ["maps.clone"], unfollowed := true, recurses := true, plainKeys := false, apart := false, narrowed := true }
def LatticePlaysUptoSaid : Prop := latticePlaysUptoRow.holds Tryz.pinned (OpenSpec.upto latticePlaysSpec)

/-- 'tesseractlaw11.LatticeCells', WHERE WHAT IT READS IS OF BULK AT MOST 1048576: true; the input reads as it did. -/
def latticeCellsUptoRow : OpenClaim := { program := "ytmepdkdeanbbaaagreat", sum := "631ee3498285825725a5f70b1ac05a47accc52317bb367c4bc382ab08bd339ad", func := "tesseract/tesseractlaw11.LatticeCells", spec := "latticeCells", inPlace := ["maps.clone"], unfollowed := true, recurses := true, plainKeys := false, apart := false, narrowed := true }
def LatticeCellsUptoSaid : Prop := latticeCellsUptoRow.holds Tryz.pinned (OpenSpec.upto latticeCellsSpec)

/-- 'tesseractlaw11.LatticeBatches', WHERE WHAT IT READS IS OF BULK AT MOST 1048576: true; the input reads as it did. -/
def latticeBatchesUptoRow : OpenClaim := { program := "ytmepdkdeanbbaaagreat", sum := "631ee3498285825725a5f70b1ac05a47accc52317bb367c4bc382ab08bd339ad", func := "tesseract/tesseractlaw11.LatticeBatches", spec := "latticeBatches", inPlace := ["maps.clone"], unfollowed := true, recurses := true, plainKeys := false, apart := false, narrowed := true }
def LatticeBatchesUptoSaid : Prop := latticeBatchesUptoRow.holds Tryz.pinned (OpenSpec.upto latticeBatchesSpec)

/-- 'tesseractlaw11.LatticeReads', WHERE WHAT IT READS IS OF BULK AT MOST 1048576: true; the input reads as it did. -/
def latticeReadsUptoRow : OpenClaim := { program := "ytmepdkdeanbbaaagreat", sum := "631ee3498285825725a5f70b1ac05a47accc52317bb367c4bc382ab08bd339ad", func := "tesseract/tesseractlaw11.LatticeReads", spec := "latticeReads", inPlace := ["maps.clone"], unfollowed := true, recurses := true, plainKeys := false, apart := false, narrowed := true }
def LatticeReadsUptoSaid : Prop := latticeReadsUptoRow.holds Tryz.pinned (OpenSpec.upto latticeReadsSpec)

/-- 'tesseractlaw11.LatticeRound', WHERE WHAT IT READS IS OF BULK AT MOST 1048576: true; the input reads as it did. -/
def latticeRoundUptoRow : OpenClaim := { program := "ytmepdkdeanbbaaagreat", sum := "631ee3498285825725a5f70b1ac05a47accc52317bb367c4bc382ab08bd339ad", func := "tesseract/tesseractlaw11.LatticeRound", spec := "latticeRound", inPlace := ["maps.clone"], unfollowed := true, recurses := true, plainKeys := false, apart := false, narrowed := true }
def LatticeRoundUptoSaid : Prop := latticeRoundUptoRow.holds Tryz.pinned (OpenSpec.upto latticeRoundSpec)

/-- 'tesseractlaw11.LatticeStays', WHERE WHAT IT READS IS OF BULK AT MOST 1048576: true; the input reads as it did. -/
def latticeStaysUptoRow : OpenClaim := { program := "ytmepdkdeanbbaaagreat", sum := "631ee3498285825725a5f70b1ac05a47accc52317bb367c4bc382ab08bd339ad", func := "tesseract/tesseractlaw11.LatticeStays", spec := "latticeStays", inPlace := ["maps.clone"], unfollowed := true, recurses := true, plainKeys := false, apart := false, narrowed := true }
def LatticeStaysUptoSaid : Prop := latticeStaysUptoRow.holds Tryz.pinned (OpenSpec.upto latticeStaysSpec)

/-- 'tesseractlaw11.LatticeOwns', WHERE WHAT IT READS IS OF BULK AT MOST 1048576: true; the input reads as it did. -/
def latticeOwnsUptoRow : OpenClaim := { program := "ytmepdkdeanbbaaagreat", sum := "631ee3498285825725a5f70b1ac05a47accc52317bb367c4bc382ab08bd339ad", func := "tesseract/tesseractlaw11.LatticeOwns", spec := "latticeOwns", inPlace := ["maps.clone"], unfollowed := true, recurses := true, plainKeys := false, apart := false, narrowed := true }
def LatticeOwnsUptoSaid : Prop := latticeOwnsUptoRow.holds Tryz.pinned (OpenSpec.upto latticeOwnsSpec)

/-- 'tesseractlaw11.LatticeRows', WHERE WHAT IT READS IS OF BULK AT MOST 1048576: true; the input reads as it did. -/
def latticeRowsUptoRow : OpenClaim := { program := "ytmepdkdeanbbaaagreat", sum := "631ee3498285825725a5f70b1ac05a47accc52317bb367c4bc382ab08bd339ad", func := "tesseract/tesseractlaw11.LatticeRows", spec := "latticeRows", inPlace := ["maps.clone"], unfollowed := true, recurses := true, plainKeys := false, apart := false, narrowed := true }
def LatticeRowsUptoSaid : Prop := latticeRowsUptoRow.holds Tryz.pinned (OpenSpec.upto latticeRowsSpec)

end Rows
end Go.Proofs.YtmepdkdeanbbaaaGreat
