/-
  No cell of these rows narrows 'for every input' (looked for: loops, veiled, ifaces, maps, wideKeys, modest, calm, conditions, laid).
  DERIVED. THE GIVEN ROWS OF THIS SEAT. 8 by the template 'for every input the law returns true; each argument reads behind the call as it read before'; 0 by the template 'total and deterministic' (their statements: YtinmmaoedmepbaaTotals.lean).
  GIVEN WITH THE SEED: the statements are not yours to turn. If you find one false, say at which input.
  Laid BY PROGRAM, IN A SANDBOX (cutbox-rows.mjs): the forced cells as the released guide's own fill.sh prints them over the translation b971d31b610b153a… (all of the seat's roots in one cut). By AI agents, Wed Nov 11 2026. No macro, syntax, notation, axiom, sorry.
-/
import Derived.Test.YtinmmaoedmepbaaChecked
import GoSem.Claim
import GoSem.ClaimJoined
import GoSem.ClaimMapViews
import Derived.JoinedTies
import Derived.KernelRfl
namespace Go.Proofs.Ytinmmaoedmepbaa
/- THE CELL 'sum', in the pinned program and in every row, IS THE sha256 OF THE DUMP (.gsa) THAT YtinmmaoedmepbaaProg.lean LOADS. Nothing in Lean hashes anything: it is a label: what it is worth is what the hold of that sum in a sandbox is worth. -/
noncomputable def Try.pinned : Pinned := { name := "ytinmmaoedmepbaa", sum := "b971d31b610b153a3f27a84261f33798209f0ff083b87a6058c69f24fa0c9188", checked := Try.checked }
namespace Rows
def none {H : Type} : Left H := { results := [], args := [] }

/-- 'registrarlaw03.NameMay': WHATEVER THE INPUT: true; the input reads as it did. -/
def nameMaySpec : ChangeSpec := { name := "nameMay", fn := fun _ => fun
  | [d] => { results := [.lit (.bool true)], args := [d] }
  | _ => none }
def nameMayRow : OpenClaim := { program := "ytinmmaoedmepbaa", sum := "b971d31b610b153a3f27a84261f33798209f0ff083b87a6058c69f24fa0c9188", func := "registrar/registrarlaw03.NameMay", spec := "nameMay", inPlace := ["internal/abi.NoEscape"], apart := false }
def NameMaySaid : Prop := nameMayRow.holds Try.pinned (OpenSpec.ofChange nameMaySpec)

/-- ITS FALSE NEIGHBOUR: 'it returns false'. Refute it at one input. -/
def nameMayWrong : ChangeSpec := { name := "nameMay", fn := fun _ => fun
  | [d] => { results := [.lit (.bool false)], args := [d] }
  | _ => none }
def NameMayWrongFalsely : Prop := nameMayRow.holds Try.pinned (OpenSpec.ofChange nameMayWrong)

/-- 'registrarlaw03.NameTags': WHATEVER THE INPUT: true; the input reads as it did. -/
def nameTagsSpec : ChangeSpec := { name := "nameTags", fn := fun _ => fun
  | [d1, d2, d3] => { results := [.lit (.bool true)], args := [d1, d2, d3] }
  | _ => none }
def nameTagsRow : OpenClaim := { program := "ytinmmaoedmepbaa", sum := "b971d31b610b153a3f27a84261f33798209f0ff083b87a6058c69f24fa0c9188", func := "registrar/registrarlaw03.NameTags", spec := "nameTags", inPlace := ["internal/abi.NoEscape", "internal/bytealg.IndexByteString", "internal/bytealg.IndexString"], named := ["internal/bytealg.MaxLen"], apart := false }
def NameTagsSaid : Prop := nameTagsRow.holds Try.pinned (OpenSpec.ofChange nameTagsSpec)

/-- ITS FALSE NEIGHBOUR: 'it returns false'. Refute it at one input. -/
def nameTagsWrong : ChangeSpec := { name := "nameTags", fn := fun _ => fun
  | [d1, d2, d3] => { results := [.lit (.bool false)], args := [d1, d2, d3] }
  | _ => none }
def NameTagsWrongFalsely : Prop := nameTagsRow.holds Try.pinned (OpenSpec.ofChange nameTagsWrong)

/-- 'registrarlaw03.NameFolds': WHATEVER THE INPUT: true; the input reads as it did. -/
def nameFoldsSpec : ChangeSpec := { name := "nameFolds", fn := fun _ => fun
  | [d1, d2] => { results := [.lit (.bool true)], args := [d1, d2] }
  | _ => none }
def nameFoldsRow : OpenClaim := { program := "ytinmmaoedmepbaa", sum := "b971d31b610b153a3f27a84261f33798209f0ff083b87a6058c69f24fa0c9188", func := "registrar/registrarlaw03.NameFolds", spec := "nameFolds", inPlace := ["internal/abi.NoEscape", "internal/bytealg.IndexByteString", "internal/bytealg.IndexString"], named := ["internal/bytealg.MaxLen"], apart := false }
def NameFoldsSaid : Prop := nameFoldsRow.holds Try.pinned (OpenSpec.ofChange nameFoldsSpec)

/-- ITS FALSE NEIGHBOUR: 'it returns false'. Refute it at one input. -/
def nameFoldsWrong : ChangeSpec := { name := "nameFolds", fn := fun _ => fun
  | [d1, d2] => { results := [.lit (.bool false)], args := [d1, d2] }
  | _ => none }
def NameFoldsWrongFalsely : Prop := nameFoldsRow.holds Try.pinned (OpenSpec.ofChange nameFoldsWrong)

/-- 'registrarlaw03.NameJoins': WHATEVER THE INPUT: true; the input reads as it did. -/
def nameJoinsSpec : ChangeSpec := { name := "nameJoins", fn := fun _ => fun
  | [d1, d2] => { results := [.lit (.bool true)], args := [d1, d2] }
  | _ => none }
def nameJoinsRow : OpenClaim := { program := "ytinmmaoedmepbaa", sum := "b971d31b610b153a3f27a84261f33798209f0ff083b87a6058c69f24fa0c9188", func := "registrar/registrarlaw03.NameJoins", spec := "nameJoins", inPlace := ["internal/abi.NoEscape"], apart := false }
def NameJoinsSaid : Prop := nameJoinsRow.holds Try.pinned (OpenSpec.ofChange nameJoinsSpec)

/-- ITS FALSE NEIGHBOUR: 'it returns false'. Refute it at one input. -/
def nameJoinsWrong : ChangeSpec := { name := "nameJoins", fn := fun _ => fun
  | [d1, d2] => { results := [.lit (.bool false)], args := [d1, d2] }
  | _ => none }
def NameJoinsWrongFalsely : Prop := nameJoinsRow.holds Try.pinned (OpenSpec.ofChange nameJoinsWrong)

/-- 'registrarlaw03.NameCuts': WHATEVER THE INPUT: true; the input reads as it did. -/
def nameCutsSpec : ChangeSpec := { name := "nameCuts", fn := fun _ => fun
  | [d1, d2] => { results := [.lit (.bool true)], args := [d1, d2] }
  | _ => none }
def nameCutsRow : OpenClaim := { program := "ytinmmaoedmepbaa", sum := "b971d31b610b153a3f27a84261f33798209f0ff083b87a6058c69f24fa0c9188", func := "registrar/registrarlaw03.NameCuts", spec := "nameCuts", inPlace := ["internal/abi.NoEscape"], apart := false }
def NameCutsSaid : Prop := nameCutsRow.holds Try.pinned (OpenSpec.ofChange nameCutsSpec)

/-- ITS FALSE NEIGHBOUR: 'it returns false'. Refute it at one input. -/
def nameCutsWrong : ChangeSpec := { name := "nameCuts", fn := fun _ => fun
  | [d1, d2] => { results := [.lit (.bool false)], args := [d1, d2] }
  | _ => none }
def NameCutsWrongFalsely : Prop := nameCutsRow.holds Try.pinned (OpenSpec.ofChange nameCutsWrong)

/-- 'registrarlaw03.NameFirst': WHATEVER THE INPUT: true; the input reads as it did. -/
def nameFirstSpec : ChangeSpec := { name := "nameFirst", fn := fun _ => fun
  | [d] => { results := [.lit (.bool true)], args := [d] }
  | _ => none }
def nameFirstRow : OpenClaim := { program := "ytinmmaoedmepbaa", sum := "b971d31b610b153a3f27a84261f33798209f0ff083b87a6058c69f24fa0c9188", func := "registrar/registrarlaw03.NameFirst", spec := "nameFirst", inPlace := ["internal/abi.NoEscape", "internal/bytealg.IndexByteString", "internal/bytealg.IndexString"], named := ["internal/bytealg.MaxLen"], apart := false }
def NameFirstSaid : Prop := nameFirstRow.holds Try.pinned (OpenSpec.ofChange nameFirstSpec)

/-- ITS FALSE NEIGHBOUR: 'it returns false'. Refute it at one input. -/
def nameFirstWrong : ChangeSpec := { name := "nameFirst", fn := fun _ => fun
  | [d] => { results := [.lit (.bool false)], args := [d] }
  | _ => none }
def NameFirstWrongFalsely : Prop := nameFirstRow.holds Try.pinned (OpenSpec.ofChange nameFirstWrong)

/-- 'registrarlaw03.NameOne': WHATEVER THE INPUT: true; the input reads as it did. -/
def nameOneSpec : ChangeSpec := { name := "nameOne", fn := fun _ => fun
  | [d1, d2] => { results := [.lit (.bool true)], args := [d1, d2] }
  | _ => none }
def nameOneRow : OpenClaim := { program := "ytinmmaoedmepbaa", sum := "b971d31b610b153a3f27a84261f33798209f0ff083b87a6058c69f24fa0c9188", func := "registrar/registrarlaw03.NameOne", spec := "nameOne", inPlace := ["internal/abi.NoEscape"], apart := false }
def NameOneSaid : Prop := nameOneRow.holds Try.pinned (OpenSpec.ofChange nameOneSpec)

/-- ITS FALSE NEIGHBOUR: 'it returns false'. Refute it at one input. -/
def nameOneWrong : ChangeSpec := { name := "nameOne", fn := fun _ => fun
  | [d1, d2] => { results := [.lit (.bool false)], args := [d1, d2] }
  | _ => none }
def NameOneWrongFalsely : Prop := nameOneRow.holds Try.pinned (OpenSpec.ofChange nameOneWrong)

/-- 'registrarlaw03.NameTagged': WHATEVER THE INPUT: true; the input reads as it did. -/
def nameTaggedSpec : ChangeSpec := { name := "nameTagged", fn := fun _ => fun
  | [d1, d2, d3] => { results := [.lit (.bool true)], args := [d1, d2, d3] }
  | _ => none }
def nameTaggedRow : OpenClaim := { program := "ytinmmaoedmepbaa", sum := "b971d31b610b153a3f27a84261f33798209f0ff083b87a6058c69f24fa0c9188", func := "registrar/registrarlaw03.NameTagged", spec := "nameTagged", inPlace := ["internal/abi.NoEscape", "internal/bytealg.IndexByteString", "internal/bytealg.IndexString"], named := ["internal/bytealg.MaxLen"], apart := false }
def NameTaggedSaid : Prop := nameTaggedRow.holds Try.pinned (OpenSpec.ofChange nameTaggedSpec)

/-- ITS FALSE NEIGHBOUR: 'it returns false'. Refute it at one input. -/
def nameTaggedWrong : ChangeSpec := { name := "nameTagged", fn := fun _ => fun
  | [d1, d2, d3] => { results := [.lit (.bool false)], args := [d1, d2, d3] }
  | _ => none }
def NameTaggedWrongFalsely : Prop := nameTaggedRow.holds Try.pinned (OpenSpec.ofChange nameTaggedWrong)

/- THE SECOND FORM. 'bulk': how many values and letters a reading holds, each counted each time it is reached (what is shared counts as often as it is met; a slice's spare places count too). A statement '..UptoSaid' is the law's where the arguments, and the package variables that the reading takes, are together of bulk at most 1048576: NARROWER than '..Said'. Prove '..Said' where nothing that the law and all that it calls make is longer than what came in: it says more and counts as full. Else prove '..UptoSaid'. A law counts once. -/
mutual
def uptoBulk {H : Type} : DataW H → Nat
  | .lit (.string bytes) => bytes.length + 1
  | .lit _ => 1
  | .nil => 1
  | .ptr d => uptoBulk d + 1
  | .slice elems spare => uptoBulkAll elems + uptoBulkAll spare + 1
  | .agg parts => uptoBulkAll parts + 1
  | .iface _ d => uptoBulk d + 1
  | .map entries => uptoBulkEntries entries + 1
  | .held _ => 1
def uptoBulkAll {H : Type} : List (DataW H) → Nat
  | [] => 0
  | d :: r => uptoBulk d + uptoBulkAll r
def uptoBulkEntries {H : Type} : List (Lit × DataW H) → Nat
  | [] => 0
  | x :: r => uptoBulkEntry x + uptoBulkEntries r
def uptoBulkEntry {H : Type} : Lit × DataW H → Nat
  | (.string bytes, d) => bytes.length + uptoBulk d + 1
  | (_, d) => uptoBulk d + 1
 end
def uptoSmall : (H : Type) → List (DataW H) → Bool := fun _ ds => decide (uptoBulkAll ds ≤ 1048576)
def OpenSpec.upto (s : _root_.Go.ChangeSpec) : _root_.Go.OpenSpec := { _root_.Go.OpenSpec.ofChange s with cond := some uptoSmall }

/-- 'registrarlaw03.NameMay', WHERE WHAT IT READS IS OF BULK AT MOST 1048576: true; the input reads as it did. -/
def nameMayUptoRow : OpenClaim := { program := "ytinmmaoedmepbaa", sum := "b971d31b610b153a3f27a84261f33798209f0ff083b87a6058c69f24fa0c9188", func := "registrar/registrarlaw03.NameMay", spec := "nameMay", inPlace := ["internal/abi.NoEscape"], apart := false, narrowed := true }
def NameMayUptoSaid : Prop := nameMayUptoRow.holds Try.pinned (OpenSpec.upto nameMaySpec)

/-- 'registrarlaw03.NameTags', WHERE WHAT IT READS IS OF BULK AT MOST 1048576: true; the input reads as it did. -/
def nameTagsUptoRow : OpenClaim := { program := "ytinmmaoedmepbaa", sum := "b971d31b610b153a3f27a84261f33798209f0ff083b87a6058c69f24fa0c9188", func := "registrar/registrarlaw03.NameTags", spec := "nameTags", inPlace := ["internal/abi.NoEscape", "internal/bytealg.IndexByteString", "internal/bytealg.IndexString"], named := ["internal/bytealg.MaxLen"], apart := false, narrowed := true }
def NameTagsUptoSaid : Prop := nameTagsUptoRow.holds Try.pinned (OpenSpec.upto nameTagsSpec)

/-- 'registrarlaw03.NameFolds', WHERE WHAT IT READS IS OF BULK AT MOST 1048576: true; the input reads as it did. -/
def nameFoldsUptoRow : OpenClaim := { program := "ytinmmaoedmepbaa", sum := "b971d31b610b153a3f27a84261f33798209f0ff083b87a6058c69f24fa0c9188", func := "registrar/registrarlaw03.NameFolds", spec := "nameFolds", inPlace := ["internal/abi.NoEscape", "internal/bytealg.IndexByteString", "internal/bytealg.IndexString"], named := ["internal/bytealg.MaxLen"], apart := false, narrowed := true }
def NameFoldsUptoSaid : Prop := nameFoldsUptoRow.holds Try.pinned (OpenSpec.upto nameFoldsSpec)

/-- 'registrarlaw03.NameJoins', WHERE WHAT IT READS IS OF BULK AT MOST 1048576: true; the input reads as it did. -/
def nameJoinsUptoRow : OpenClaim := { program := "ytinmmaoedmepbaa", sum := "b971d31b610b153a3f27a84261f33798209f0ff083b87a6058c69f24fa0c9188", func := "registrar/registrarlaw03.NameJoins", spec := "nameJoins", inPlace := ["internal/abi.NoEscape"], apart := false, narrowed := true }
def NameJoinsUptoSaid : Prop := nameJoinsUptoRow.holds Try.pinned (OpenSpec.upto nameJoinsSpec)

/-- 'registrarlaw03.NameCuts', WHERE WHAT IT READS IS OF BULK AT MOST 1048576: true; the input reads as it did. -/
def nameCutsUptoRow : OpenClaim := { program := "ytinmmaoedmepbaa", sum := "b971d31b610b153a3f27a84261f33798209f0ff083b87a6058c69f24fa0c9188", func := "registrar/registrarlaw03.NameCuts", spec := "nameCuts", inPlace := ["internal/abi.NoEscape"], apart := false, narrowed := true }
def NameCutsUptoSaid : Prop := nameCutsUptoRow.holds Try.pinned (OpenSpec.upto nameCutsSpec)

/-- 'registrarlaw03.NameFirst', WHERE WHAT IT READS IS OF BULK AT MOST 1048576: true; the input reads as it did. -/
def nameFirstUptoRow : OpenClaim := { program := "ytinmmaoedmepbaa", sum := "b971d31b610b153a3f27a84261f33798209f0ff083b87a6058c69f24fa0c9188", func := "registrar/registrarlaw03.NameFirst", spec := "nameFirst", inPlace := ["internal/abi.NoEscape", "internal/bytealg.IndexByteString", "internal/bytealg.IndexString"], named := ["internal/bytealg.MaxLen"], apart := false, narrowed := true }
def NameFirstUptoSaid : Prop := nameFirstUptoRow.holds Try.pinned (OpenSpec.upto nameFirstSpec)

/-- 'registrarlaw03.NameOne', WHERE WHAT IT READS IS OF BULK AT MOST 1048576: true; the input reads as it did. -/
def nameOneUptoRow : OpenClaim := { program := "ytinmmaoedmepbaa", sum := "b971d31b610b153a3f27a84261f33798209f0ff083b87a6058c69f24fa0c9188", func := "registrar/registrarlaw03.NameOne", spec := "nameOne", inPlace := ["internal/abi.NoEscape"], apart := false, narrowed := true }
def NameOneUptoSaid : Prop := nameOneUptoRow.holds Try.pinned (OpenSpec.upto nameOneSpec)

/-- 'registrarlaw03.NameTagged', WHERE WHAT IT READS IS OF BULK AT MOST 1048576: true; the input reads as it did. -/
def nameTaggedUptoRow : OpenClaim := { program := "ytinmmaoedmepbaa", sum := "b971d31b610b153a3f27a84261f33798209f0ff083b87a6058c69f24fa0c9188", func := "registrar/registrarlaw03.NameTagged", spec := "nameTagged", inPlace := ["internal/abi.NoEscape", "internal/bytealg.IndexByteString", "internal/bytealg.IndexString"], named := ["internal/bytealg.MaxLen"], apart := false, narrowed := true }
def NameTaggedUptoSaid : Prop := nameTaggedUptoRow.holds Try.pinned (OpenSpec.upto nameTaggedSpec)

end Rows
end Go.Proofs.Ytinmmaoedmepbaa
