/-
  No cell of these rows narrows 'for every input' (looked for: loops, veiled, ifaces, maps, wideKeys, modest, calm, conditions, laid).
  DERIVED. THE GIVEN ROWS OF THIS SEAT. 6 by the template 'for every input the law returns true; each argument reads behind the call as it read before'; 0 by the template 'total and deterministic' (their statements: YtjglpmakjampjaaTotals.lean).
  GIVEN WITH THE SEED: the statements are not yours to turn. If you find one false, say at which input.
  Laid BY PROGRAM, IN A SANDBOX (cutbox-rows.mjs): the forced cells as the released guide's own fill.sh prints them over the translation c4b6aa41c533d2b9… (all of the seat's roots in one cut). By AI agents, Wed Nov 11 2026. No macro, syntax, notation, axiom, sorry.
-/
import Derived.Test.YtjglpmakjampjaaChecked
import GoSem.Claim
import GoSem.ClaimJoined
import GoSem.ClaimMapViews
import Derived.JoinedTies
import Derived.KernelRfl
namespace Go.Proofs.Ytjglpmakjampjaa
/- THE CELL 'sum', in the pinned program and in every row, IS THE sha256 OF THE DUMP (.gsa) THAT YtjglpmakjampjaaProg.lean LOADS. Nothing in Lean hashes anything: it is a label: what it is worth is what the hold of that sum in a sandbox is worth. -/
noncomputable def Try.pinned : Pinned := { name := "ytjglpmakjampjaa", sum := "c4b6aa41c533d2b9c1c1d8d51d079ca2053e29d6041c0efb70c9af11388721e1", checked := Try.checked }
namespace Rows
def none {H : Type} : Left H := { results := [], args := [] }

/-- 'registrarlaw05.EvcodePuts': WHATEVER THE INPUT: true; the input reads as it did. -/
def evcodePutsSpec : ChangeSpec := { name := "evcodePuts", fn := fun _ => fun
  | [d1, d2] => { results := [.lit (.bool true)], args := [d1, d2] }
  | _ => none }
def evcodePutsRow : OpenClaim := { program := "ytjglpmakjampjaa", sum := "c4b6aa41c533d2b9c1c1d8d51d079ca2053e29d6041c0efb70c9af11388721e1", func := "registrar/registrarlaw05.EvcodePuts", spec := "evcodePuts", inPlace := ["internal/bytealg.IndexByteString", "internal/bytealg.IndexString"], unfollowed := true, recurses := true, named := ["internal/bytealg.MaxLen"], apart := false }
def EvcodePutsSaid : Prop := evcodePutsRow.holds Try.pinned (OpenSpec.ofChange evcodePutsSpec)

/-- ITS FALSE NEIGHBOUR: 'it returns false'. Refute it at one input. -/
def evcodePutsWrong : ChangeSpec := { name := "evcodePuts", fn := fun _ => fun
  | [d1, d2] => { results := [.lit (.bool false)], args := [d1, d2] }
  | _ => none }
def EvcodePutsWrongFalsely : Prop := evcodePutsRow.holds Try.pinned (OpenSpec.ofChange evcodePutsWrong)

/-- 'registrarlaw05.EvcodeTakes': WHATEVER THE INPUT: true; the input reads as it did. -/
def evcodeTakesSpec : ChangeSpec := { name := "evcodeTakes", fn := fun _ => fun
  | [d] => { results := [.lit (.bool true)], args := [d] }
  | _ => none }
def evcodeTakesRow : OpenClaim := { program := "ytjglpmakjampjaa", sum := "c4b6aa41c533d2b9c1c1d8d51d079ca2053e29d6041c0efb70c9af11388721e1", func := "registrar/registrarlaw05.EvcodeTakes", spec := "evcodeTakes", inPlace := ["internal/bytealg.IndexByteString", "internal/bytealg.IndexString"], unfollowed := true, recurses := true, named := ["internal/bytealg.MaxLen"], apart := false }
def EvcodeTakesSaid : Prop := evcodeTakesRow.holds Try.pinned (OpenSpec.ofChange evcodeTakesSpec)

/-- ITS FALSE NEIGHBOUR: 'it returns false'. Refute it at one input. -/
def evcodeTakesWrong : ChangeSpec := { name := "evcodeTakes", fn := fun _ => fun
  | [d] => { results := [.lit (.bool false)], args := [d] }
  | _ => none }
def EvcodeTakesWrongFalsely : Prop := evcodeTakesRow.holds Try.pinned (OpenSpec.ofChange evcodeTakesWrong)

/-- 'registrarlaw05.EvcodeBack': WHATEVER THE INPUT: true; the input reads as it did. -/
def evcodeBackSpec : ChangeSpec := { name := "evcodeBack", fn := fun _ => fun
  | [d1, d2] => { results := [.lit (.bool true)], args := [d1, d2] }
  | _ => none }
def evcodeBackRow : OpenClaim := { program := "ytjglpmakjampjaa", sum := "c4b6aa41c533d2b9c1c1d8d51d079ca2053e29d6041c0efb70c9af11388721e1", func := "registrar/registrarlaw05.EvcodeBack", spec := "evcodeBack", inPlace := ["internal/bytealg.IndexByteString", "internal/bytealg.IndexString"], unfollowed := true, recurses := true, named := ["internal/bytealg.MaxLen"], apart := false }
def EvcodeBackSaid : Prop := evcodeBackRow.holds Try.pinned (OpenSpec.ofChange evcodeBackSpec)

/-- ITS FALSE NEIGHBOUR: 'it returns false'. Refute it at one input. -/
def evcodeBackWrong : ChangeSpec := { name := "evcodeBack", fn := fun _ => fun
  | [d1, d2] => { results := [.lit (.bool false)], args := [d1, d2] }
  | _ => none }
def EvcodeBackWrongFalsely : Prop := evcodeBackRow.holds Try.pinned (OpenSpec.ofChange evcodeBackWrong)

/-- 'registrarlaw05.EvcodeApart': WHATEVER THE INPUT: true; the input reads as it did. -/
def evcodeApartSpec : ChangeSpec := { name := "evcodeApart", fn := fun _ => fun
  | [d1, d2] => { results := [.lit (.bool true)], args := [d1, d2] }
  | _ => none }
def evcodeApartRow : OpenClaim := { program := "ytjglpmakjampjaa", sum := "c4b6aa41c533d2b9c1c1d8d51d079ca2053e29d6041c0efb70c9af11388721e1", func := "registrar/registrarlaw05.EvcodeApart", spec := "evcodeApart", inPlace := ["internal/bytealg.IndexByteString", "internal/bytealg.IndexString"], unfollowed := true, recurses := true, named := ["internal/bytealg.MaxLen"], apart := false }
def EvcodeApartSaid : Prop := evcodeApartRow.holds Try.pinned (OpenSpec.ofChange evcodeApartSpec)

/-- ITS FALSE NEIGHBOUR: 'it returns false'. Refute it at one input. -/
def evcodeApartWrong : ChangeSpec := { name := "evcodeApart", fn := fun _ => fun
  | [d1, d2] => { results := [.lit (.bool false)], args := [d1, d2] }
  | _ => none }
def EvcodeApartWrongFalsely : Prop := evcodeApartRow.holds Try.pinned (OpenSpec.ofChange evcodeApartWrong)

/-- 'registrarlaw05.EvcodeMore': WHATEVER THE INPUT: true; the input reads as it did. -/
def evcodeMoreSpec : ChangeSpec := { name := "evcodeMore", fn := fun _ => fun
  | [d1, d2] => { results := [.lit (.bool true)], args := [d1, d2] }
  | _ => none }
def evcodeMoreRow : OpenClaim := { program := "ytjglpmakjampjaa", sum := "c4b6aa41c533d2b9c1c1d8d51d079ca2053e29d6041c0efb70c9af11388721e1", func := "registrar/registrarlaw05.EvcodeMore", spec := "evcodeMore", inPlace := ["internal/bytealg.IndexByteString", "internal/bytealg.IndexString"], unfollowed := true, recurses := true, named := ["internal/bytealg.MaxLen"], apart := false }
def EvcodeMoreSaid : Prop := evcodeMoreRow.holds Try.pinned (OpenSpec.ofChange evcodeMoreSpec)

/-- ITS FALSE NEIGHBOUR: 'it returns false'. Refute it at one input. -/
def evcodeMoreWrong : ChangeSpec := { name := "evcodeMore", fn := fun _ => fun
  | [d1, d2] => { results := [.lit (.bool false)], args := [d1, d2] }
  | _ => none }
def EvcodeMoreWrongFalsely : Prop := evcodeMoreRow.holds Try.pinned (OpenSpec.ofChange evcodeMoreWrong)

/-- 'registrarlaw05.EvcodeSizes': WHATEVER THE INPUT: true; the input reads as it did. -/
def evcodeSizesSpec : ChangeSpec := { name := "evcodeSizes", fn := fun _ => fun
  | [d] => { results := [.lit (.bool true)], args := [d] }
  | _ => none }
def evcodeSizesRow : OpenClaim := { program := "ytjglpmakjampjaa", sum := "c4b6aa41c533d2b9c1c1d8d51d079ca2053e29d6041c0efb70c9af11388721e1", func := "registrar/registrarlaw05.EvcodeSizes", spec := "evcodeSizes", inPlace := ["internal/bytealg.IndexByteString", "internal/bytealg.IndexString"], unfollowed := true, recurses := true, named := ["internal/bytealg.MaxLen"], apart := false }
def EvcodeSizesSaid : Prop := evcodeSizesRow.holds Try.pinned (OpenSpec.ofChange evcodeSizesSpec)

/-- ITS FALSE NEIGHBOUR: 'it returns false'. Refute it at one input. -/
def evcodeSizesWrong : ChangeSpec := { name := "evcodeSizes", fn := fun _ => fun
  | [d] => { results := [.lit (.bool false)], args := [d] }
  | _ => none }
def EvcodeSizesWrongFalsely : Prop := evcodeSizesRow.holds Try.pinned (OpenSpec.ofChange evcodeSizesWrong)

/- THE SECOND FORM. 'bulk': how many values and letters a reading holds, each counted each time it is reached (what is shared counts as often as it is met; a slice's spare places count too). A statement '..UptoSaid' is the law's where the arguments, and the package variables that the reading takes, are together of bulk at most 1048576: NARROWER than '..Said'. Prove '..Said' where nothing that the law and all that it calls make is longer than what came in: it says more and counts as full. Else prove '..UptoSaid'. A law counts once. -/
mutual
def uptoBulk {H : Type} : DataW H → Nat
  | .lit (.string bytes) => bytes.length + 1
  | .lit _ => 1
  | .nil => 1
  | .ptr d => uptoBulk d + 1
  | .slice elems spare => uptoBulkAll elems + uptoBulkAll spare + 1
  | .agg parts => uptoBulkAll parts + 1
  | .iface _ d => uptoBulk d + 1
  | .map entries => uptoBulkEntries entries + 1
  | .held _ => 1
def uptoBulkAll {H : Type} : List (DataW H) → Nat
  | [] => 0
  | d :: r => uptoBulk d + uptoBulkAll r
def uptoBulkEntries {H : Type} : List (Lit × DataW H) → Nat
  | [] => 0
  | x :: r => uptoBulkEntry x + uptoBulkEntries r
def uptoBulkEntry {H : Type} : Lit × DataW H → Nat
  | (.string bytes, d) => bytes.length + uptoBulk d + 1
  | (_, d) => uptoBulk d + 1
 end
def uptoSmall : (H : Type) → List (DataW H) → Bool := fun _ ds => decide (uptoBulkAll ds ≤ 1048576)
def OpenSpec.upto (s : _root_.Go.ChangeSpec) : _root_.Go.OpenSpec := { _root_.Go.OpenSpec.ofChange s with cond := some uptoSmall }

/-- 'registrarlaw05.EvcodePuts', WHERE WHAT IT READS IS OF BULK AT MOST 1048576: true; the input reads as it did. -/
def evcodePutsUptoRow : OpenClaim := { program := "ytjglpmakjampjaa", sum := "c4b6aa41c533d2b9c1c1d8d51d079ca2053e29d6041c0efb70c9af11388721e1", func := "registrar/registrarlaw05.EvcodePuts", spec := "evcodePuts", inPlace := ["internal/bytealg.IndexByteString", "internal/bytealg.IndexString"], unfollowed := true, recurses := true, named := ["internal/bytealg.MaxLen"], apart := false, narrowed := true }
def EvcodePutsUptoSaid : Prop := evcodePutsUptoRow.holds Try.pinned (OpenSpec.upto evcodePutsSpec)

/-- 'registrarlaw05.EvcodeTakes', WHERE WHAT IT READS IS OF BULK AT MOST 1048576: true; the input reads as it did. -/
def evcodeTakesUptoRow : OpenClaim := { program := "ytjglpmakjampjaa", sum := "c4b6aa41c533d2b9c1c1d8d51d079ca2053e29d6041c0efb70c9af11388721e1", func := "registrar/registrarlaw05.EvcodeTakes", spec := "evcodeTakes", inPlace := ["internal/bytealg.IndexByteString", "internal/bytealg.IndexString"], unfollowed := true, recurses := true, named := ["internal/bytealg.MaxLen"], apart := false, narrowed := true }
def EvcodeTakesUptoSaid : Prop := evcodeTakesUptoRow.holds Try.pinned (OpenSpec.upto evcodeTakesSpec)

/-- 'registrarlaw05.EvcodeBack', WHERE WHAT IT READS IS OF BULK AT MOST 1048576: true; the input reads as it did. -/
def evcodeBackUptoRow : OpenClaim := { program := "ytjglpmakjampjaa", sum := "c4b6aa41c533d2b9c1c1d8d51d079ca2053e29d6041c0efb70c9af11388721e1", func := "registrar/registrarlaw05.EvcodeBack", spec := "evcodeBack", inPlace := ["internal/bytealg.IndexByteString", "internal/bytealg.IndexString"], unfollowed := true, recurses := true, named := ["internal/bytealg.MaxLen"], apart := false, narrowed := true }
def EvcodeBackUptoSaid : Prop := evcodeBackUptoRow.holds Try.pinned (OpenSpec.upto evcodeBackSpec)

/-- 'registrarlaw05.EvcodeApart', WHERE WHAT IT READS IS OF BULK AT MOST 1048576: true; the input reads as it did. -/
def evcodeApartUptoRow : OpenClaim := { program := "ytjglpmakjampjaa", sum := "c4b6aa41c533d2b9c1c1d8d51d079ca2053e29d6041c0efb70c9af11388721e1", func := "registrar/registrarlaw05.EvcodeApart", spec := "evcodeApart", inPlace := ["internal/bytealg.IndexByteString", "internal/bytealg.IndexString"], unfollowed := true, recurses := true, named := ["internal/bytealg.MaxLen"], apart := false, narrowed := true }
def EvcodeApartUptoSaid : Prop := evcodeApartUptoRow.holds Try.pinned (OpenSpec.upto evcodeApartSpec)

/-- 'registrarlaw05.EvcodeMore', WHERE WHAT IT READS IS OF BULK AT MOST 1048576: true; the input reads as it did. -/
def evcodeMoreUptoRow : OpenClaim := { program := "ytjglpmakjampjaa", sum := "c4b6aa41c533d2b9c1c1d8d51d079ca2053e29d6041c0efb70c9af11388721e1", func := "registrar/registrarlaw05.EvcodeMore", spec := "evcodeMore", inPlace := ["internal/bytealg.IndexByteString", "internal/bytealg.IndexString"], unfollowed := true, recurses := true, named := ["internal/bytealg.MaxLen"], apart := false, narrowed := true }
def EvcodeMoreUptoSaid : Prop := evcodeMoreUptoRow.holds Try.pinned (OpenSpec.upto evcodeMoreSpec)

/-- 'registrarlaw05.EvcodeSizes', WHERE WHAT IT READS IS OF BULK AT MOST 1048576: true; the input reads as it did. -/
def evcodeSizesUptoRow : OpenClaim := { program := "ytjglpmakjampjaa", sum := "c4b6aa41c533d2b9c1c1d8d51d079ca2053e29d6041c0efb70c9af11388721e1", func := "registrar/registrarlaw05.EvcodeSizes", spec := "evcodeSizes", inPlace := ["internal/bytealg.IndexByteString", "internal/bytealg.IndexString"], unfollowed := true, recurses := true, named := ["internal/bytealg.MaxLen"], apart := false, narrowed := true }
def EvcodeSizesUptoSaid : Prop := evcodeSizesUptoRow.holds Try.pinned (OpenSpec.upto evcodeSizesSpec)

end Rows
end Go.Proofs.Ytjglpmakjampjaa
