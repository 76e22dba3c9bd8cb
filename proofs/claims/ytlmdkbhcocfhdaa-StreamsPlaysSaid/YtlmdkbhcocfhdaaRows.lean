/-
  No cell of these rows narrows 'for every input' (looked for: loops, veiled, ifaces, maps, wideKeys, modest, calm, conditions, laid).
  DERIVED. THE GIVEN ROWS OF THIS SEAT. 6 by the template 'for every input the law returns true; each argument reads behind the call as it read before'; 0 by the template 'total and deterministic' (their statements: YtlmdkbhcocfhdaaTotals.lean).
  GIVEN WITH THE SEED: the statements are not yours to turn. If you find one false, say at which input.
  Laid BY PROGRAM, IN A SANDBOX (cutbox-rows.mjs): the forced cells as the released guide's own fill.sh prints them over the translation f574d26b8aff1bb6… (all of the seat's roots in one cut). By AI agents, Wed Nov 11 2026. No macro, syntax, notation, axiom, sorry.
-/
import Derived.Test.YtlmdkbhcocfhdaaChecked
import GoSem.Claim
import GoSem.ClaimJoined
import GoSem.ClaimMapViews
import Derived.JoinedTies
import Derived.KernelRfl
namespace Go.Proofs.Ytlmdkbhcocfhdaa
/- THE CELL 'sum', in the pinned program and in every row, IS THE sha256 OF THE DUMP (.gsa) THAT YtlmdkbhcocfhdaaProg.lean LOADS. Nothing in Lean hashes anything: it is a label: what it is worth is what the hold of that sum in a sandbox is worth. -/
noncomputable def Try.pinned : Pinned := { name := "ytlmdkbhcocfhdaa", sum := "f574d26b8aff1bb685de8f9c1fbff116322cbc96a9386c7b17630faa158eabd6", checked := Try.checked }
namespace Rows
def none {H : Type} : Left H := { results := [], args := [] }

/-- 'registrarlaw12.StreamsPlays': WHATEVER THE INPUT: true; the input reads as it did. -/
def streamsPlaysSpec : ChangeSpec := { name := "streamsPlays", fn := fun _ => fun
  | [d1, d2, d3] => { results := [.lit (.bool true)], args := [d1, d2, d3] }
  | _ => none }
def streamsPlaysRow : OpenClaim := { program := "ytlmdkbhcocfhdaa", sum := "f574d26b8aff1bb685de8f9c1fbff116322cbc96a9386c7b17630faa158eabd6", func := "registrar/registrarlaw12.StreamsPlays", spec := "streamsPlays", unfollowed := true, recurses := true, apart := false }
def StreamsPlaysSaid : Prop := streamsPlaysRow.holds Try.pinned (OpenSpec.ofChange streamsPlaysSpec)

/-- ITS FALSE NEIGHBOUR: 'it returns false'. Refute it at one input. -/
def streamsPlaysWrong : ChangeSpec := { name := "streamsPlays", fn := fun _ => fun
  | [d1, d2, d3] => { results := [.lit (.bool false)], args := [d1, d2, d3] }
  | _ => none }
def StreamsPlaysWrongFalsely : Prop := streamsPlaysRow.holds Try.pinned (OpenSpec.ofChange streamsPlaysWrong)

/-- 'registrarlaw12.StreamsWhole': WHATEVER THE INPUT: true; the input reads as it did. -/
def streamsWholeSpec : ChangeSpec := { name := "streamsWhole", fn := fun _ => fun
  | [d] => { results := [.lit (.bool true)], args := [d] }
  | _ => none }
def streamsWholeRow : OpenClaim := { program := "ytlmdkbhcocfhdaa", sum := "f574d26b8aff1bb685de8f9c1fbff116322cbc96a9386c7b17630faa158eabd6", func := "registrar/registrarlaw12.StreamsWhole", spec := "streamsWhole", unfollowed := true, recurses := true, apart := false }
def StreamsWholeSaid : Prop := streamsWholeRow.holds Try.pinned (OpenSpec.ofChange streamsWholeSpec)

/-- ITS FALSE NEIGHBOUR: 'it returns false'. Refute it at one input. -/
def streamsWholeWrong : ChangeSpec := { name := "streamsWhole", fn := fun _ => fun
  | [d] => { results := [.lit (.bool false)], args := [d] }
  | _ => none }
def StreamsWholeWrongFalsely : Prop := streamsWholeRow.holds Try.pinned (OpenSpec.ofChange streamsWholeWrong)

/-- 'registrarlaw12.StreamsUpto': WHATEVER THE INPUT: true; the input reads as it did. -/
def streamsUptoSpec : ChangeSpec := { name := "streamsUpto", fn := fun _ => fun
  | [d1, d2, d3] => { results := [.lit (.bool true)], args := [d1, d2, d3] }
  | _ => none }
def streamsUptoRow : OpenClaim := { program := "ytlmdkbhcocfhdaa", sum := "f574d26b8aff1bb685de8f9c1fbff116322cbc96a9386c7b17630faa158eabd6", func := "registrar/registrarlaw12.StreamsUpto", spec := "streamsUpto", apart := false }
def StreamsUptoSaid : Prop := streamsUptoRow.holds Try.pinned (OpenSpec.ofChange streamsUptoSpec)

/-- ITS FALSE NEIGHBOUR: 'it returns false'. Refute it at one input. -/
def streamsUptoWrong : ChangeSpec := { name := "streamsUpto", fn := fun _ => fun
  | [d1, d2, d3] => { results := [.lit (.bool false)], args := [d1, d2, d3] }
  | _ => none }
def StreamsUptoWrongFalsely : Prop := streamsUptoRow.holds Try.pinned (OpenSpec.ofChange streamsUptoWrong)

/-- 'registrarlaw12.StreamsRefuse': WHATEVER THE INPUT: true; the input reads as it did. -/
def streamsRefuseSpec : ChangeSpec := { name := "streamsRefuse", fn := fun _ => fun
  | [d1, d2, d3] => { results := [.lit (.bool true)], args := [d1, d2, d3] }
  | _ => none }
def streamsRefuseRow : OpenClaim := { program := "ytlmdkbhcocfhdaa", sum := "f574d26b8aff1bb685de8f9c1fbff116322cbc96a9386c7b17630faa158eabd6", func := "registrar/registrarlaw12.StreamsRefuse", spec := "streamsRefuse", unfollowed := true, recurses := true, apart := false }
def StreamsRefuseSaid : Prop := streamsRefuseRow.holds Try.pinned (OpenSpec.ofChange streamsRefuseSpec)

/-- ITS FALSE NEIGHBOUR: 'it returns false'. Refute it at one input. -/
def streamsRefuseWrong : ChangeSpec := { name := "streamsRefuse", fn := fun _ => fun
  | [d1, d2, d3] => { results := [.lit (.bool false)], args := [d1, d2, d3] }
  | _ => none }
def StreamsRefuseWrongFalsely : Prop := streamsRefuseRow.holds Try.pinned (OpenSpec.ofChange streamsRefuseWrong)

/-- 'registrarlaw12.StreamsOrder': WHATEVER THE INPUT: true; the input reads as it did. -/
def streamsOrderSpec : ChangeSpec := { name := "streamsOrder", fn := fun _ => fun
  | [d] => { results := [.lit (.bool true)], args := [d] }
  | _ => none }
def streamsOrderRow : OpenClaim := { program := "ytlmdkbhcocfhdaa", sum := "f574d26b8aff1bb685de8f9c1fbff116322cbc96a9386c7b17630faa158eabd6", func := "registrar/registrarlaw12.StreamsOrder", spec := "streamsOrder", unfollowed := true, recurses := true, apart := false }
def StreamsOrderSaid : Prop := streamsOrderRow.holds Try.pinned (OpenSpec.ofChange streamsOrderSpec)

/-- ITS FALSE NEIGHBOUR: 'it returns false'. Refute it at one input. -/
def streamsOrderWrong : ChangeSpec := { name := "streamsOrder", fn := fun _ => fun
  | [d] => { results := [.lit (.bool false)], args := [d] }
  | _ => none }
def StreamsOrderWrongFalsely : Prop := streamsOrderRow.holds Try.pinned (OpenSpec.ofChange streamsOrderWrong)

/-- 'registrarlaw12.StreamsCopies': WHATEVER THE INPUT: true; the input reads as it did. -/
def streamsCopiesSpec : ChangeSpec := { name := "streamsCopies", fn := fun _ => fun
  | [d1, d2, d3] => { results := [.lit (.bool true)], args := [d1, d2, d3] }
  | _ => none }
def streamsCopiesRow : OpenClaim := { program := "ytlmdkbhcocfhdaa", sum := "f574d26b8aff1bb685de8f9c1fbff116322cbc96a9386c7b17630faa158eabd6", func := "registrar/registrarlaw12.StreamsCopies", spec := "streamsCopies", apart := false }
def StreamsCopiesSaid : Prop := streamsCopiesRow.holds Try.pinned (OpenSpec.ofChange streamsCopiesSpec)

/-- ITS FALSE NEIGHBOUR: 'it returns false'. Refute it at one input. -/
def streamsCopiesWrong : ChangeSpec := { name := "streamsCopies", fn := fun _ => fun
  | [d1, d2, d3] => { results := [.lit (.bool false)], args := [d1, d2, d3] }
  | _ => none }
def StreamsCopiesWrongFalsely : Prop := streamsCopiesRow.holds Try.pinned (OpenSpec.ofChange streamsCopiesWrong)

/- THE SECOND FORM. 'bulk': how many values and letters a reading holds, each counted each time it is reached (what is shared counts as often as it is met; a slice's spare places count too). A statement '..UptoSaid' is the law's where the arguments, and the package variables that the reading takes, are together of bulk at most 1048576: NARROWER than '..Said'. Prove '..Said' where nothing that the law and all that it calls make is longer than what came in: it says more and counts as full. Else prove '..UptoSaid'. A law counts once. -/
mutual
def uptoBulk {H : Type} : DataW H → Nat
  | .lit (.string bytes) => bytes.length + 1
  | .lit _ => 1
  | .nil => 1
  | .ptr d => uptoBulk d + 1
  | .slice elems spare => uptoBulkAll elems + uptoBulkAll spare + 1
  | .agg parts => uptoBulkAll parts + 1
  | .iface _ d => uptoBulk d + 1
  | .map entries => uptoBulkEntries entries + 1
  | .held _ => 1
def uptoBulkAll {H : Type} : List (DataW H) → Nat
  | [] => 0
  | d :: r => uptoBulk d + uptoBulkAll r
def uptoBulkEntries {H : Type} : List (Lit × DataW H) → Nat
  | [] => 0
  | x :: r => uptoBulkEntry x + uptoBulkEntries r
def uptoBulkEntry {H : Type} : Lit × DataW H → Nat
  | (.string bytes, d) => bytes.length + uptoBulk d + 1
  | (_, d) => uptoBulk d + 1
 end
def uptoSmall : (H : Type) → List (DataW H) → Bool := fun _ ds => decide (uptoBulkAll ds ≤ 1048576)
def OpenSpec.upto (s : _root_.Go.ChangeSpec) : _root_.Go.OpenSpec := { _root_.Go.OpenSpec.ofChange s with cond := some uptoSmall }

/-- 'registrarlaw12.StreamsPlays', WHERE WHAT IT READS IS OF BULK AT MOST 1048576: true; the input reads as it did. -/
def streamsPlaysUptoRow : OpenClaim := { program := "ytlmdkbhcocfhdaa", sum := "f574d26b8aff1bb685de8f9c1fbff116322cbc96a9386c7b17630faa158eabd6", func := "registrar/registrarlaw12.StreamsPlays", spec := "streamsPlays", unfollowed := true, recurses := true, apart := false, narrowed := true }
def StreamsPlaysUptoSaid : Prop := streamsPlaysUptoRow.holds Try.pinned (OpenSpec.upto streamsPlaysSpec)

/-- 'registrarlaw12.StreamsWhole', WHERE WHAT IT READS IS OF BULK AT MOST 1048576: true; the input reads as it did. -/
def streamsWholeUptoRow : OpenClaim := { program := "ytlmdkbhcocfhdaa", sum := "f574d26b8aff1bb685de8f9c1fbff116322cbc96a9386c7b17630faa158eabd6", func := "registrar/registrarlaw12.StreamsWhole", spec := "streamsWhole", unfollowed := true, recurses := true, apart := false, narrowed := true }
def StreamsWholeUptoSaid : Prop := streamsWholeUptoRow.holds Try.pinned (OpenSpec.upto streamsWholeSpec)

/-- 'registrarlaw12.StreamsUpto', WHERE WHAT IT READS IS OF BULK AT MOST 1048576: true; the input reads as it did. -/
def streamsUptoUptoRow : OpenClaim := { program := "ytlmdkbhcocfhdaa", sum := "f574d26b8aff1bb685de8f9c1fbff116322cbc96a9386c7b17630faa158eabd6", func := "registrar/registrarlaw12.StreamsUpto", spec := "streamsUpto", apart := false, narrowed := true }
def StreamsUptoUptoSaid : Prop := streamsUptoUptoRow.holds Try.pinned (OpenSpec.upto streamsUptoSpec)

/-- 'registrarlaw12.StreamsRefuse', WHERE WHAT IT READS IS OF BULK AT MOST 1048576: true; the input reads as it did. -/
def streamsRefuseUptoRow : OpenClaim := { program := "ytlmdkbhcocfhdaa", sum := "f574d26b8aff1bb685de8f9c1fbff116322cbc96a9386c7b17630faa158eabd6", func := "registrar/registrarlaw12.StreamsRefuse", spec := "streamsRefuse", unfollowed := true, recurses := true, apart := false, narrowed := true }
def StreamsRefuseUptoSaid : Prop := streamsRefuseUptoRow.holds Try.pinned (OpenSpec.upto streamsRefuseSpec)

/-- 'registrarlaw12.StreamsOrder', WHERE WHAT IT READS IS OF BULK AT MOST 1048576: true; the input reads as it did. -/
def streamsOrderUptoRow : OpenClaim := { program := "ytlmdkbhcocfhdaa", sum := "f574d26b8aff1bb685de8f9c1fbff116322cbc96a9386c7b17630faa158eabd6", func := "registrar/registrarlaw12.StreamsOrder", spec := "streamsOrder", unfollowed := true, recurses := true, apart := false, narrowed := true }
def StreamsOrderUptoSaid : Prop := streamsOrderUptoRow.holds Try.pinned (OpenSpec.upto streamsOrderSpec)

/-- 'registrarlaw12.StreamsCopies', WHERE WHAT IT READS IS OF BULK AT MOST 1048576: true; the input reads as it did. -/
def streamsCopiesUptoRow : OpenClaim := { program := "ytlmdkbhcocfhdaa", sum := "f574d26b8aff1bb685de8f9c1fbff116322cbc96a9386c7b17630faa158eabd6", func := "registrar/registrarlaw12.StreamsCopies", spec := "streamsCopies", apart := false, narrowed := true }
def StreamsCopiesUptoSaid : Prop := streamsCopiesUptoRow.holds Try.pinned (OpenSpec.upto streamsCopiesSpec)

end Rows
end Go.Proofs.Ytlmdkbhcocfhdaa
