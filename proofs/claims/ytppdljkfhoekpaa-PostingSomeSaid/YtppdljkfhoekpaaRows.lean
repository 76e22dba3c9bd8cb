/-
  No cell of these rows narrows 'for every input' (looked for: loops, veiled, ifaces, maps, wideKeys, modest, calm, conditions, laid).
  DERIVED. THE GIVEN ROWS OF THIS SEAT. 6 by the template 'for every input the law returns true; each argument reads behind the call as it read before'; 0 by the template 'total and deterministic' (their statements: YtppdljkfhoekpaaTotals.lean).
  GIVEN WITH THE SEED: the statements are not yours to turn. If you find one false, say at which input.
  Laid BY PROGRAM, IN A SANDBOX (cutbox-rows.mjs): the forced cells as the released guide's own fill.sh prints them over the translation cd996bfbd31863bd… (all of the seat's roots in one cut). By AI agents, Wed Nov 11 2026. No macro, syntax, notation, axiom, sorry.
-/
import Derived.Test.YtppdljkfhoekpaaChecked
import GoSem.Claim
import GoSem.ClaimJoined
import GoSem.ClaimMapViews
import Derived.JoinedTies
import Derived.KernelRfl
namespace Go.Proofs.Ytppdljkfhoekpaa
/- THE CELL 'sum', in the pinned program and in every row, IS THE sha256 OF THE DUMP (.gsa) THAT YtppdljkfhoekpaaProg.lean LOADS. Nothing in Lean hashes anything: it is a label: what it is worth is what the hold of that sum in a sandbox is worth. -/
noncomputable def Try.pinned : Pinned := { name := "ytppdljkfhoekpaa", sum := "cd996bfbd31863bdf464ff9a33ee892e405b6c145971372c5131b9fe13ac54d0", checked := Try.checked }
namespace Rows
def none {H : Type} : Left H := { results := [], args := [] }

/-- 'registrarlaw13.PostingTwo': WHATEVER THE INPUT: true; the input reads as it did. -/
def postingTwoSpec : ChangeSpec := { name := "postingTwo", fn := fun _ => fun
  | [d1, d2] => { results := [.lit (.bool true)], args := [d1, d2] }
  | _ => none }
def postingTwoRow : OpenClaim := { program := "ytppdljkfhoekpaa", sum := "cd996bfbd31863bdf464ff9a33ee892e405b6c145971372c5131b9fe13ac54d0", func := "registrar/registrarlaw13.PostingTwo", spec := "postingTwo", unfollowed := true, recurses := true, apart := false }
def PostingTwoSaid : Prop := postingTwoRow.holds Try.pinned (OpenSpec.ofChange postingTwoSpec)

/-- ITS FALSE NEIGHBOUR: 'it returns false'. Refute it at one input. -/
def postingTwoWrong : ChangeSpec := { name := "postingTwo", fn := fun _ => fun
  | [d1, d2] => { results := [.lit (.bool false)], args := [d1, d2] }
  | _ => none }
def PostingTwoWrongFalsely : Prop := postingTwoRow.holds Try.pinned (OpenSpec.ofChange postingTwoWrong)

/-- 'registrarlaw13.PostingFinds': WHATEVER THE INPUT: true; the input reads as it did. -/
def postingFindsSpec : ChangeSpec := { name := "postingFinds", fn := fun _ => fun
  | [d1, d2, d3] => { results := [.lit (.bool true)], args := [d1, d2, d3] }
  | _ => none }
def postingFindsRow : OpenClaim := { program := "ytppdljkfhoekpaa", sum := "cd996bfbd31863bdf464ff9a33ee892e405b6c145971372c5131b9fe13ac54d0", func := "registrar/registrarlaw13.PostingFinds", spec := "postingFinds", unfollowed := true, recurses := true, apart := false }
def PostingFindsSaid : Prop := postingFindsRow.holds Try.pinned (OpenSpec.ofChange postingFindsSpec)

/-- ITS FALSE NEIGHBOUR: 'it returns false'. Refute it at one input. -/
def postingFindsWrong : ChangeSpec := { name := "postingFinds", fn := fun _ => fun
  | [d1, d2, d3] => { results := [.lit (.bool false)], args := [d1, d2, d3] }
  | _ => none }
def PostingFindsWrongFalsely : Prop := postingFindsRow.holds Try.pinned (OpenSpec.ofChange postingFindsWrong)

/-- 'registrarlaw13.PostingMatch': WHATEVER THE INPUT: true; the input reads as it did. -/
def postingMatchSpec : ChangeSpec := { name := "postingMatch", fn := fun _ => fun
  | [d1, d2, d3] => { results := [.lit (.bool true)], args := [d1, d2, d3] }
  | _ => none }
def postingMatchRow : OpenClaim := { program := "ytppdljkfhoekpaa", sum := "cd996bfbd31863bdf464ff9a33ee892e405b6c145971372c5131b9fe13ac54d0", func := "registrar/registrarlaw13.PostingMatch", spec := "postingMatch", unfollowed := true, recurses := true, apart := false }
def PostingMatchSaid : Prop := postingMatchRow.holds Try.pinned (OpenSpec.ofChange postingMatchSpec)

/-- ITS FALSE NEIGHBOUR: 'it returns false'. Refute it at one input. -/
def postingMatchWrong : ChangeSpec := { name := "postingMatch", fn := fun _ => fun
  | [d1, d2, d3] => { results := [.lit (.bool false)], args := [d1, d2, d3] }
  | _ => none }
def PostingMatchWrongFalsely : Prop := postingMatchRow.holds Try.pinned (OpenSpec.ofChange postingMatchWrong)

/-- 'registrarlaw13.PostingThree': WHATEVER THE INPUT: true; the input reads as it did. -/
def postingThreeSpec : ChangeSpec := { name := "postingThree", fn := fun _ => fun
  | [d1, d2, d3] => { results := [.lit (.bool true)], args := [d1, d2, d3] }
  | _ => none }
def postingThreeRow : OpenClaim := { program := "ytppdljkfhoekpaa", sum := "cd996bfbd31863bdf464ff9a33ee892e405b6c145971372c5131b9fe13ac54d0", func := "registrar/registrarlaw13.PostingThree", spec := "postingThree", unfollowed := true, recurses := true, apart := false }
def PostingThreeSaid : Prop := postingThreeRow.holds Try.pinned (OpenSpec.ofChange postingThreeSpec)

/-- ITS FALSE NEIGHBOUR: 'it returns false'. Refute it at one input. -/
def postingThreeWrong : ChangeSpec := { name := "postingThree", fn := fun _ => fun
  | [d1, d2, d3] => { results := [.lit (.bool false)], args := [d1, d2, d3] }
  | _ => none }
def PostingThreeWrongFalsely : Prop := postingThreeRow.holds Try.pinned (OpenSpec.ofChange postingThreeWrong)

/-- 'registrarlaw13.PostingSome': WHATEVER THE INPUT: true; the input reads as it did. -/
def postingSomeSpec : ChangeSpec := { name := "postingSome", fn := fun _ => fun
  | [d1, d2, d3] => { results := [.lit (.bool true)], args := [d1, d2, d3] }
  | _ => none }
def postingSomeRow : OpenClaim := { program := "ytppdljkfhoekpaa", sum := "cd996bfbd31863bdf464ff9a33ee892e405b6c145971372c5131b9fe13ac54d0", func := "registrar/registrarlaw13.PostingSome", spec := "postingSome", unfollowed := true, recurses := true, apart := false }
def PostingSomeSaid : Prop := postingSomeRow.holds Try.pinned (OpenSpec.ofChange postingSomeSpec)

/-- ITS FALSE NEIGHBOUR: 'it returns false'. Refute it at one input. -/
def postingSomeWrong : ChangeSpec := { name := "postingSome", fn := fun _ => fun
  | [d1, d2, d3] => { results := [.lit (.bool false)], args := [d1, d2, d3] }
  | _ => none }
def PostingSomeWrongFalsely : Prop := postingSomeRow.holds Try.pinned (OpenSpec.ofChange postingSomeWrong)

/-- 'registrarlaw13.PostingLists': WHATEVER THE INPUT: true; the input reads as it did. -/
def postingListsSpec : ChangeSpec := { name := "postingLists", fn := fun _ => fun
  | [d1, d2] => { results := [.lit (.bool true)], args := [d1, d2] }
  | _ => none }
def postingListsRow : OpenClaim := { program := "ytppdljkfhoekpaa", sum := "cd996bfbd31863bdf464ff9a33ee892e405b6c145971372c5131b9fe13ac54d0", func := "registrar/registrarlaw13.PostingLists", spec := "postingLists", unfollowed := true, recurses := true, apart := false }
def PostingListsSaid : Prop := postingListsRow.holds Try.pinned (OpenSpec.ofChange postingListsSpec)

/-- ITS FALSE NEIGHBOUR: 'it returns false'. Refute it at one input. -/
def postingListsWrong : ChangeSpec := { name := "postingLists", fn := fun _ => fun
  | [d1, d2] => { results := [.lit (.bool false)], args := [d1, d2] }
  | _ => none }
def PostingListsWrongFalsely : Prop := postingListsRow.holds Try.pinned (OpenSpec.ofChange postingListsWrong)

/- THE SECOND FORM. 'bulk': how many values and letters a reading holds, each counted each time it is reached (what is shared counts as often as it is met; a slice's spare places count too). A statement '..UptoSaid' is the law's where the arguments, and the package variables that the reading takes, are together of bulk at most 1048576: NARROWER than '..Said'. Prove '..Said' where nothing that the law and all that it calls make is longer than what came in: it says more and counts as full. Else prove '..UptoSaid'. A law counts once. -/
mutual
def uptoBulk {H : Type} : DataW H → Nat
  | .lit (.string bytes) => bytes.length + 1
  | .lit _ => 1
  | .nil => 1
  | .ptr d => uptoBulk d + 1
  | .slice elems spare => uptoBulkAll elems + uptoBulkAll spare + 1
  | .agg parts => uptoBulkAll parts + 1
  | .iface _ d => uptoBulk d + 1
  | .map entries => uptoBulkEntries entries + 1
  | .held _ => 1
def uptoBulkAll {H : Type} : List (DataW H) → Nat
  | [] => 0
  | d :: r => uptoBulk d + uptoBulkAll r
def uptoBulkEntries {H : Type} : List (Lit × DataW H) → Nat
  | [] => 0
  | x :: r => uptoBulkEntry x + uptoBulkEntries r
def uptoBulkEntry {H : Type} : Lit × DataW H → Nat
  | (.string bytes, d) => bytes.length + uptoBulk d + 1
  | (_, d) => uptoBulk d + 1
 end
def uptoSmall : (H : Type) → List (DataW H) → Bool := fun _ ds => decide (uptoBulkAll ds ≤ 1048576)
def OpenSpec.upto (s : _root_.Go.ChangeSpec) : _root_.Go.OpenSpec := { _root_.Go.OpenSpec.ofChange s with cond := some uptoSmall }

/-- 'registrarlaw13.PostingTwo', WHERE WHAT IT READS IS OF BULK AT MOST 1048576: true; the input reads as it did. -/
def postingTwoUptoRow : OpenClaim := { program := "ytppdljkfhoekpaa", sum := "cd996bfbd31863bdf464ff9a33ee892e405b6c145971372c5131b9fe13ac54d0", func := "registrar/registrarlaw13.PostingTwo", spec := "postingTwo", unfollowed := true, recurses := true, apart := false, narrowed := true }
def PostingTwoUptoSaid : Prop := postingTwoUptoRow.holds Try.pinned (OpenSpec.upto postingTwoSpec)

/-- 'registrarlaw13.PostingFinds', WHERE WHAT IT READS IS OF BULK AT MOST 1048576: true; the input reads as it did. -/
def postingFindsUptoRow : OpenClaim := { program := "ytppdljkfhoekpaa", sum := "cd996bfbd31863bdf464ff9a33ee892e405b6c145971372c5131b9fe13ac54d0", func := "registrar/registrarlaw13.PostingFinds", spec := "postingFinds", unfollowed := true, recurses := true, apart := false, narrowed := true }
def PostingFindsUptoSaid : Prop := postingFindsUptoRow.holds Try.pinned (OpenSpec.upto postingFindsSpec)

/-- 'registrarlaw13.PostingMatch', WHERE WHAT IT READS IS OF BULK AT MOST 1048576: true; the input reads as it did. -/
def postingMatchUptoRow : OpenClaim := { program := "ytppdljkfhoekpaa", sum := "cd996bfbd31863bdf464ff9a33ee892e405b6c145971372c5131b9fe13ac54d0", func := "registrar/registrarlaw13.PostingMatch", spec := "postingMatch", unfollowed := true, recurses := true, apart := false, narrowed := true }
def PostingMatchUptoSaid : Prop := postingMatchUptoRow.holds Try.pinned (OpenSpec.upto postingMatchSpec)

/-- 'registrarlaw13.PostingThree', WHERE WHAT IT READS IS OF BULK AT MOST 1048576: true; the input reads as it did. -/
def postingThreeUptoRow : OpenClaim := { program := "ytppdljkfhoekpaa", sum := "cd996bfbd31863bdf464ff9a33ee892e405b6c145971372c5131b9fe13ac54d0", func := "registrar/registrarlaw13.PostingThree", spec := "postingThree", unfollowed := true, recurses := true, apart := false, narrowed := true }
def PostingThreeUptoSaid : Prop := postingThreeUptoRow.holds Try.pinned (OpenSpec.upto postingThreeSpec)

/-- 'registrarlaw13.PostingSome', WHERE WHAT IT READS IS OF BULK AT MOST 1048576: true; the input reads as it did. -/
def postingSomeUptoRow : OpenClaim := { program := "ytppdljkfhoekpaa", sum := "cd996bfbd31863bdf464ff9a33ee892e405b6c145971372c5131b9fe13ac54d0", func := "registrar/registrarlaw13.PostingSome", spec := "postingSome", unfollowed := true, recurses := true, apart := false, narrowed := true }
def PostingSomeUptoSaid : Prop := postingSomeUptoRow.holds Try.pinned (OpenSpec.upto postingSomeSpec)

/-- 'registrarlaw13.PostingLists', WHERE WHAT IT READS IS OF BULK AT MOST 1048576: true; the input reads as it did. -/
def postingListsUptoRow : OpenClaim := { program := "ytppdljkfhoekpaa", sum := "cd996bfbd31863bdf464ff9a33ee892e405b6c145971372c5131b9fe13ac54d0", func := "registrar/registrarlaw13.PostingLists", spec := "postingLists", unfollowed := true, recurses := true, apart := false, narrowed := true }
def PostingListsUptoSaid : Prop := postingListsUptoRow.holds Try.pinned (OpenSpec.upto postingListsSpec)

end Rows
end Go.Proofs.Ytppdljkfhoekpaa
