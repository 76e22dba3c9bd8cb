/-
  No cell of these rows narrows 'for every input' (looked for: loops, veiled, ifaces, maps, wideKeys, modest, calm, conditions, laid).
  DERIVED. THE GIVEN ROWS OF THIS SEAT. 6 by the template 'for every input the law returns true; each argument reads behind the call as it read before'; 0 by the template 'total and deterministic' (their statements: YtjgddlnfjmdnnaaTotals.lean).
  GIVEN WITH THE SEED: the statements are not yours to turn. If you find one false, say at which input.
  Laid BY PROGRAM, IN A SANDBOX (cutbox-rows.mjs): the forced cells as the released guide's own fill.sh prints them over the translation 3d826bb368805f1c… (all of the seat's roots in one cut). By AI agents, Wed Nov 11 2026. No macro, syntax, notation, axiom, sorry.
-/
import Derived.Test.YtjgddlnfjmdnnaaChecked
import GoSem.Claim
import GoSem.ClaimJoined
import GoSem.ClaimMapViews
import Derived.JoinedTies
import Derived.KernelRfl
namespace Go.Proofs.Ytjgddlnfjmdnnaa
/- THE CELL 'sum', in the pinned program and in every row, IS THE sha256 OF THE DUMP (.gsa) THAT YtjgddlnfjmdnnaaProg.lean LOADS. Nothing in Lean hashes anything: it is a label: what it is worth is what the hold of that sum in a sandbox is worth. -/
noncomputable def Try.pinned : Pinned := { name := "ytjgddlnfjmdnnaa", sum := "3d826bb368805f1c8e1c1858bbda792595e10fa161c04ae3bc8eff231a0b39ab", checked := Try.checked }
namespace Rows
def none {H : Type} : Left H := { results := [], args := [] }

/-- 'registrarlaw07.QcodePuts': WHATEVER THE INPUT: true; the input reads as it did. -/
def qcodePutsSpec : ChangeSpec := { name := "qcodePuts", fn := fun _ => fun
  | [d1, d2, d3] => { results := [.lit (.bool true)], args := [d1, d2, d3] }
  | _ => none }
def qcodePutsRow : OpenClaim := { program := "ytjgddlnfjmdnnaa", sum := "3d826bb368805f1c8e1c1858bbda792595e10fa161c04ae3bc8eff231a0b39ab", func := "registrar/registrarlaw07.QcodePuts", spec := "qcodePuts", inPlace := ["internal/bytealg.IndexByteString", "internal/bytealg.IndexString"], unfollowed := true, recurses := true, named := ["internal/bytealg.MaxLen"], apart := false }
def QcodePutsSaid : Prop := qcodePutsRow.holds Try.pinned (OpenSpec.ofChange qcodePutsSpec)

/-- ITS FALSE NEIGHBOUR: 'it returns false'. Refute it at one input. -/
def qcodePutsWrong : ChangeSpec := { name := "qcodePuts", fn := fun _ => fun
  | [d1, d2, d3] => { results := [.lit (.bool false)], args := [d1, d2, d3] }
  | _ => none }
def QcodePutsWrongFalsely : Prop := qcodePutsRow.holds Try.pinned (OpenSpec.ofChange qcodePutsWrong)

/-- 'registrarlaw07.QcodeTakes': WHATEVER THE INPUT: true; the input reads as it did. -/
def qcodeTakesSpec : ChangeSpec := { name := "qcodeTakes", fn := fun _ => fun
  | [d] => { results := [.lit (.bool true)], args := [d] }
  | _ => none }
def qcodeTakesRow : OpenClaim := { program := "ytjgddlnfjmdnnaa", sum := "3d826bb368805f1c8e1c1858bbda792595e10fa161c04ae3bc8eff231a0b39ab", func := "registrar/registrarlaw07.QcodeTakes", spec := "qcodeTakes", inPlace := ["internal/bytealg.IndexByteString", "internal/bytealg.IndexString"], unfollowed := true, recurses := true, named := ["internal/bytealg.MaxLen"], apart := false }
def QcodeTakesSaid : Prop := qcodeTakesRow.holds Try.pinned (OpenSpec.ofChange qcodeTakesSpec)

/-- ITS FALSE NEIGHBOUR: 'it returns false'. Refute it at one input. -/
def qcodeTakesWrong : ChangeSpec := { name := "qcodeTakes", fn := fun _ => fun
  | [d] => { results := [.lit (.bool false)], args := [d] }
  | _ => none }
def QcodeTakesWrongFalsely : Prop := qcodeTakesRow.holds Try.pinned (OpenSpec.ofChange qcodeTakesWrong)

/-- 'registrarlaw07.QcodeBack': WHATEVER THE INPUT: true; the input reads as it did. -/
def qcodeBackSpec : ChangeSpec := { name := "qcodeBack", fn := fun _ => fun
  | [d1, d2] => { results := [.lit (.bool true)], args := [d1, d2] }
  | _ => none }
def qcodeBackRow : OpenClaim := { program := "ytjgddlnfjmdnnaa", sum := "3d826bb368805f1c8e1c1858bbda792595e10fa161c04ae3bc8eff231a0b39ab", func := "registrar/registrarlaw07.QcodeBack", spec := "qcodeBack", inPlace := ["internal/bytealg.IndexByteString", "internal/bytealg.IndexString"], unfollowed := true, recurses := true, named := ["internal/bytealg.MaxLen"], apart := false }
def QcodeBackSaid : Prop := qcodeBackRow.holds Try.pinned (OpenSpec.ofChange qcodeBackSpec)

/-- ITS FALSE NEIGHBOUR: 'it returns false'. Refute it at one input. -/
def qcodeBackWrong : ChangeSpec := { name := "qcodeBack", fn := fun _ => fun
  | [d1, d2] => { results := [.lit (.bool false)], args := [d1, d2] }
  | _ => none }
def QcodeBackWrongFalsely : Prop := qcodeBackRow.holds Try.pinned (OpenSpec.ofChange qcodeBackWrong)

/-- 'registrarlaw07.QcodeApart': WHATEVER THE INPUT: true; the input reads as it did. -/
def qcodeApartSpec : ChangeSpec := { name := "qcodeApart", fn := fun _ => fun
  | [d1, d2, d3] => { results := [.lit (.bool true)], args := [d1, d2, d3] }
  | _ => none }
def qcodeApartRow : OpenClaim := { program := "ytjgddlnfjmdnnaa", sum := "3d826bb368805f1c8e1c1858bbda792595e10fa161c04ae3bc8eff231a0b39ab", func := "registrar/registrarlaw07.QcodeApart", spec := "qcodeApart", inPlace := ["internal/bytealg.IndexByteString", "internal/bytealg.IndexString"], unfollowed := true, recurses := true, named := ["internal/bytealg.MaxLen"], apart := false }
def QcodeApartSaid : Prop := qcodeApartRow.holds Try.pinned (OpenSpec.ofChange qcodeApartSpec)

/-- ITS FALSE NEIGHBOUR: 'it returns false'. Refute it at one input. -/
def qcodeApartWrong : ChangeSpec := { name := "qcodeApart", fn := fun _ => fun
  | [d1, d2, d3] => { results := [.lit (.bool false)], args := [d1, d2, d3] }
  | _ => none }
def QcodeApartWrongFalsely : Prop := qcodeApartRow.holds Try.pinned (OpenSpec.ofChange qcodeApartWrong)

/-- 'registrarlaw07.QcodeRefuses': WHATEVER THE INPUT: true; the input reads as it did. -/
def qcodeRefusesSpec : ChangeSpec := { name := "qcodeRefuses", fn := fun _ => fun
  | [d] => { results := [.lit (.bool true)], args := [d] }
  | _ => none }
def qcodeRefusesRow : OpenClaim := { program := "ytjgddlnfjmdnnaa", sum := "3d826bb368805f1c8e1c1858bbda792595e10fa161c04ae3bc8eff231a0b39ab", func := "registrar/registrarlaw07.QcodeRefuses", spec := "qcodeRefuses", inPlace := ["internal/bytealg.IndexByteString", "internal/bytealg.IndexString"], unfollowed := true, recurses := true, named := ["internal/bytealg.MaxLen"], apart := false }
def QcodeRefusesSaid : Prop := qcodeRefusesRow.holds Try.pinned (OpenSpec.ofChange qcodeRefusesSpec)

/-- ITS FALSE NEIGHBOUR: 'it returns false'. Refute it at one input. -/
def qcodeRefusesWrong : ChangeSpec := { name := "qcodeRefuses", fn := fun _ => fun
  | [d] => { results := [.lit (.bool false)], args := [d] }
  | _ => none }
def QcodeRefusesWrongFalsely : Prop := qcodeRefusesRow.holds Try.pinned (OpenSpec.ofChange qcodeRefusesWrong)

/-- 'registrarlaw07.QcodeMore': WHATEVER THE INPUT: true; the input reads as it did. -/
def qcodeMoreSpec : ChangeSpec := { name := "qcodeMore", fn := fun _ => fun
  | [d1, d2, d3] => { results := [.lit (.bool true)], args := [d1, d2, d3] }
  | _ => none }
def qcodeMoreRow : OpenClaim := { program := "ytjgddlnfjmdnnaa", sum := "3d826bb368805f1c8e1c1858bbda792595e10fa161c04ae3bc8eff231a0b39ab", func := "registrar/registrarlaw07.QcodeMore", spec := "qcodeMore", inPlace := ["internal/bytealg.IndexByteString", "internal/bytealg.IndexString"], unfollowed := true, recurses := true, named := ["internal/bytealg.MaxLen"], apart := false }
def QcodeMoreSaid : Prop := qcodeMoreRow.holds Try.pinned (OpenSpec.ofChange qcodeMoreSpec)

/-- ITS FALSE NEIGHBOUR: 'it returns false'. Refute it at one input. -/
def qcodeMoreWrong : ChangeSpec := { name := "qcodeMore", fn := fun _ => fun
  | [d1, d2, d3] => { results := [.lit (.bool false)], args := [d1, d2, d3] }
  | _ => none }
def QcodeMoreWrongFalsely : Prop := qcodeMoreRow.holds Try.pinned (OpenSpec.ofChange qcodeMoreWrong)

/- THE SECOND FORM. 'bulk': how many values and letters a reading holds, each counted each time it is reached (what is shared counts as often as it is met; a slice's spare places count too). A statement '..UptoSaid' is the law's where the arguments, and the package variables that the reading takes, are together of bulk at most 1048576: NARROWER than '..Said'. Prove '..Said' where nothing that the law and all that it calls make is longer than what came in: it says more and counts as full. Else prove '..UptoSaid'. A law counts once. -/
mutual
def uptoBulk {H : Type} : DataW H → Nat
  | .lit (.string bytes) => bytes.length + 1
  | .lit _ => 1
  | .nil => 1
  | .ptr d => uptoBulk d + 1
  | .slice elems spare => uptoBulkAll elems + uptoBulkAll spare + 1
  | .agg parts => uptoBulkAll parts + 1
  | .iface _ d => uptoBulk d + 1
  | .map entries => uptoBulkEntries entries + 1
  | .held _ => 1
def uptoBulkAll {H : Type} : List (DataW H) → Nat
  | [] => 0
  | d :: r => uptoBulk d + uptoBulkAll r
def uptoBulkEntries {H : Type} : List (Lit × DataW H) → Nat
  | [] => 0
  | x :: r => uptoBulkEntry x + uptoBulkEntries r
def uptoBulkEntry {H : Type} : Lit × DataW H → Nat
  | (.string bytes, d) => bytes.length + uptoBulk d + 1
  | (_, d) => uptoBulk d + 1
 end
def uptoSmall : (H : Type) → List (DataW H) → Bool := fun _ ds => decide (uptoBulkAll ds ≤ 1048576)
def OpenSpec.upto (s : _root_.Go.ChangeSpec) : _root_.Go.OpenSpec := { _root_.Go.OpenSpec.ofChange s with cond := some uptoSmall }

/-- 'registrarlaw07.QcodePuts', WHERE WHAT IT READS IS OF BULK AT MOST 1048576: true; the input reads as it did. -/
def qcodePutsUptoRow : OpenClaim := { program := "ytjgddlnfjmdnnaa", sum := "3d826bb368805f1c8e1c1858bbda792595e10fa161c04ae3bc8eff231a0b39ab", func := "registrar/registrarlaw07.QcodePuts", spec := "qcodePuts", inPlace := ["internal/bytealg.IndexByteString", "internal/bytealg.IndexString"], unfollowed := true, recurses := true, named := ["internal/bytealg.MaxLen"], apart := false, narrowed := true }
def QcodePutsUptoSaid : Prop := qcodePutsUptoRow.holds Try.pinned (OpenSpec.upto qcodePutsSpec)

/-- 'registrarlaw07.QcodeTakes', WHERE WHAT IT READS IS OF BULK AT MOST 1048576: true; the input reads as it did. -/
def qcodeTakesUptoRow : OpenClaim := { program := "ytjgddlnfjmdnnaa", sum := "3d826bb368805f1c8e1c1858bbda792595e10fa161c04ae3bc8eff231a0b39ab", func := "registrar/registrarlaw07.QcodeTakes", spec := "qcodeTakes", inPlace := ["internal/bytealg.IndexByteString", "internal/bytealg.IndexString"], unfollowed := true, recurses := true, named := ["internal/bytealg.MaxLen"], apart := false, narrowed := true }
def QcodeTakesUptoSaid : Prop := qcodeTakesUptoRow.holds Try.pinned (OpenSpec.upto qcodeTakesSpec)

/-- 'registrarlaw07.QcodeBack', WHERE WHAT IT READS IS OF BULK AT MOST 1048576: true; the input reads as it did. -/
def qcodeBackUptoRow : OpenClaim := { program := "ytjgddlnfjmdnnaa", sum := "3d826bb368805f1c8e1c1858bbda792595e10fa161c04ae3bc8eff231a0b39ab", func := "registrar/registrarlaw07.QcodeBack", spec := "qcodeBack", inPlace := ["internal/bytealg.IndexByteString", "internal/bytealg.IndexString"], unfollowed := true, recurses := true, named := ["internal/bytealg.MaxLen"], apart := false, narrowed := true }
def QcodeBackUptoSaid : Prop := qcodeBackUptoRow.holds Try.pinned (OpenSpec.upto qcodeBackSpec)

/-- 'registrarlaw07.QcodeApart', WHERE WHAT IT READS IS OF BULK AT MOST 1048576: true; the input reads as it did. -/
def qcodeApartUptoRow : OpenClaim := { program := "ytjgddlnfjmdnnaa", sum := "3d826bb368805f1c8e1c1858bbda792595e10fa161c04ae3bc8eff231a0b39ab", func := "registrar/registrarlaw07.QcodeApart", spec := "qcodeApart", inPlace := ["internal/bytealg.IndexByteString", "internal/bytealg.IndexString"], unfollowed := true, recurses := true, named := ["internal/bytealg.MaxLen"], apart := false, narrowed := true }
def QcodeApartUptoSaid : Prop := qcodeApartUptoRow.holds Try.pinned (OpenSpec.upto qcodeApartSpec)

/-- 'registrarlaw07.QcodeRefuses', WHERE WHAT IT READS IS OF BULK AT MOST 1048576: true; the input reads as it did. -/
def qcodeRefusesUptoRow : OpenClaim := { program := "ytjgddlnfjmdnnaa", sum := "3d826bb368805f1c8e1c1858bbda792595e10fa161c04ae3bc8eff231a0b39ab", func := "registrar/registrarlaw07.QcodeRefuses", spec := "qcodeRefuses", inPlace := ["internal/bytealg.IndexByteString", "internal/bytealg.IndexString"], unfollowed := true, recurses := true, named := ["internal/bytealg.MaxLen"], apart := false, narrowed := true }
def QcodeRefusesUptoSaid : Prop := qcodeRefusesUptoRow.holds Try.pinned (OpenSpec.upto qcodeRefusesSpec)

/-- 'registrarlaw07.QcodeMore', WHERE WHAT IT READS IS OF BULK AT MOST 1048576: true; the input reads as it did. -/
def qcodeMoreUptoRow : OpenClaim := { program := "ytjgddlnfjmdnnaa", sum := "3d826bb368805f1c8e1c1858bbda792595e10fa161c04ae3bc8eff231a0b39ab", func := "registrar/registrarlaw07.QcodeMore", spec := "qcodeMore", inPlace := ["internal/bytealg.IndexByteString", "internal/bytealg.IndexString"], unfollowed := true, recurses := true, named := ["internal/bytealg.MaxLen"], apart := false, narrowed := true }
def QcodeMoreUptoSaid : Prop := qcodeMoreUptoRow.holds Try.pinned (OpenSpec.upto qcodeMoreSpec)

end Rows
end Go.Proofs.Ytjgddlnfjmdnnaa
