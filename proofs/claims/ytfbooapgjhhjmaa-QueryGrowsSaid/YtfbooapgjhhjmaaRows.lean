/-
  No cell of these rows narrows 'for every input' (looked for: loops, veiled, ifaces, maps, wideKeys, modest, calm, conditions, laid).
  DERIVED. THE GIVEN ROWS OF THIS SEAT. 7 by the template 'for every input the law returns true; each argument reads behind the call as it read before'; 0 by the template 'total and deterministic' (their statements: YtfbooapgjhhjmaaTotals.lean).
  GIVEN WITH THE SEED: the statements are not yours to turn. If you find one false, say at which input.
  Laid BY PROGRAM, IN A SANDBOX (cutbox-rows.mjs): the forced cells as the released guide's own fill.sh prints them over the translation 4cda9f5d0ef8343c… (all of the seat's roots in one cut). By AI agents, Wed Nov 11 2026. No macro, syntax, notation, axiom, sorry.
-/
import Derived.Test.YtfbooapgjhhjmaaChecked
import GoSem.Claim
import GoSem.ClaimJoined
import GoSem.ClaimMapViews
import Derived.JoinedTies
import Derived.KernelRfl
namespace Go.Proofs.Ytfbooapgjhhjmaa
/- THE CELL 'sum', in the pinned program and in every row, IS THE sha256 OF THE DUMP (.gsa) THAT YtfbooapgjhhjmaaProg.lean LOADS. Nothing in Lean hashes anything: it is a label: what it is worth is what the hold of that sum in a sandbox is worth. -/
noncomputable def Try.pinned : Pinned := { name := "ytfbooapgjhhjmaa", sum := "4cda9f5d0ef8343cf915e5cc5c3c800b351b7c3c6f2ada219fa2d06bca93325a", checked := Try.checked }
namespace Rows
def none {H : Type} : Left H := { results := [], args := [] }

/-- 'registrarlaw06.QueryMay': WHATEVER THE INPUT: true; the input reads as it did. -/
def queryMaySpec : ChangeSpec := { name := "queryMay", fn := fun _ => fun
  | [d1, d2] => { results := [.lit (.bool true)], args := [d1, d2] }
  | _ => none }
def queryMayRow : OpenClaim := { program := "ytfbooapgjhhjmaa", sum := "4cda9f5d0ef8343cf915e5cc5c3c800b351b7c3c6f2ada219fa2d06bca93325a", func := "registrar/registrarlaw06.QueryMay", spec := "queryMay", inPlace := ["internal/bytealg.IndexByteString", "internal/bytealg.IndexString"], unfollowed := true, recurses := true, named := ["internal/bytealg.MaxLen"], apart := false }
def QueryMaySaid : Prop := queryMayRow.holds Try.pinned (OpenSpec.ofChange queryMaySpec)

/-- ITS FALSE NEIGHBOUR: 'it returns false'. Refute it at one input. -/
def queryMayWrong : ChangeSpec := { name := "queryMay", fn := fun _ => fun
  | [d1, d2] => { results := [.lit (.bool false)], args := [d1, d2] }
  | _ => none }
def QueryMayWrongFalsely : Prop := queryMayRow.holds Try.pinned (OpenSpec.ofChange queryMayWrong)

/-- 'registrarlaw06.QueryMatches': WHATEVER THE INPUT: true; the input reads as it did. -/
def queryMatchesSpec : ChangeSpec := { name := "queryMatches", fn := fun _ => fun
  | [d1, d2] => { results := [.lit (.bool true)], args := [d1, d2] }
  | _ => none }
def queryMatchesRow : OpenClaim := { program := "ytfbooapgjhhjmaa", sum := "4cda9f5d0ef8343cf915e5cc5c3c800b351b7c3c6f2ada219fa2d06bca93325a", func := "registrar/registrarlaw06.QueryMatches", spec := "queryMatches", unfollowed := true, recurses := true, apart := false }
def QueryMatchesSaid : Prop := queryMatchesRow.holds Try.pinned (OpenSpec.ofChange queryMatchesSpec)

/-- ITS FALSE NEIGHBOUR: 'it returns false'. Refute it at one input. -/
def queryMatchesWrong : ChangeSpec := { name := "queryMatches", fn := fun _ => fun
  | [d1, d2] => { results := [.lit (.bool false)], args := [d1, d2] }
  | _ => none }
def QueryMatchesWrongFalsely : Prop := queryMatchesRow.holds Try.pinned (OpenSpec.ofChange queryMatchesWrong)

/-- 'registrarlaw06.QueryGrows': WHATEVER THE INPUT: true; the input reads as it did. -/
def queryGrowsSpec : ChangeSpec := { name := "queryGrows", fn := fun _ => fun
  | [d1, d2, d3] => { results := [.lit (.bool true)], args := [d1, d2, d3] }
  | _ => none }
def queryGrowsRow : OpenClaim := { program := "ytfbooapgjhhjmaa", sum := "4cda9f5d0ef8343cf915e5cc5c3c800b351b7c3c6f2ada219fa2d06bca93325a", func := "registrar/registrarlaw06.QueryGrows", spec := "queryGrows", unfollowed := true, recurses := true, apart := false }
def QueryGrowsSaid : Prop := queryGrowsRow.holds Try.pinned (OpenSpec.ofChange queryGrowsSpec)

/-- ITS FALSE NEIGHBOUR: 'it returns false'. Refute it at one input. -/
def queryGrowsWrong : ChangeSpec := { name := "queryGrows", fn := fun _ => fun
  | [d1, d2, d3] => { results := [.lit (.bool false)], args := [d1, d2, d3] }
  | _ => none }
def QueryGrowsWrongFalsely : Prop := queryGrowsRow.holds Try.pinned (OpenSpec.ofChange queryGrowsWrong)

/-- 'registrarlaw06.QueryAll': WHATEVER THE INPUT: true; the input reads as it did. -/
def queryAllSpec : ChangeSpec := { name := "queryAll", fn := fun _ => fun
  | [d1, d2, d3] => { results := [.lit (.bool true)], args := [d1, d2, d3] }
  | _ => none }
def queryAllRow : OpenClaim := { program := "ytfbooapgjhhjmaa", sum := "4cda9f5d0ef8343cf915e5cc5c3c800b351b7c3c6f2ada219fa2d06bca93325a", func := "registrar/registrarlaw06.QueryAll", spec := "queryAll", unfollowed := true, recurses := true, apart := false }
def QueryAllSaid : Prop := queryAllRow.holds Try.pinned (OpenSpec.ofChange queryAllSpec)

/-- ITS FALSE NEIGHBOUR: 'it returns false'. Refute it at one input. -/
def queryAllWrong : ChangeSpec := { name := "queryAll", fn := fun _ => fun
  | [d1, d2, d3] => { results := [.lit (.bool false)], args := [d1, d2, d3] }
  | _ => none }
def QueryAllWrongFalsely : Prop := queryAllRow.holds Try.pinned (OpenSpec.ofChange queryAllWrong)

/-- 'registrarlaw06.QueryFits': WHATEVER THE INPUT: true; the input reads as it did. -/
def queryFitsSpec : ChangeSpec := { name := "queryFits", fn := fun _ => fun
  | [d1, d2] => { results := [.lit (.bool true)], args := [d1, d2] }
  | _ => none }
def queryFitsRow : OpenClaim := { program := "ytfbooapgjhhjmaa", sum := "4cda9f5d0ef8343cf915e5cc5c3c800b351b7c3c6f2ada219fa2d06bca93325a", func := "registrar/registrarlaw06.QueryFits", spec := "queryFits", inPlace := ["internal/bytealg.IndexByteString", "internal/bytealg.IndexString"], unfollowed := true, recurses := true, named := ["internal/bytealg.MaxLen"], apart := false }
def QueryFitsSaid : Prop := queryFitsRow.holds Try.pinned (OpenSpec.ofChange queryFitsSpec)

/-- ITS FALSE NEIGHBOUR: 'it returns false'. Refute it at one input. -/
def queryFitsWrong : ChangeSpec := { name := "queryFits", fn := fun _ => fun
  | [d1, d2] => { results := [.lit (.bool false)], args := [d1, d2] }
  | _ => none }
def QueryFitsWrongFalsely : Prop := queryFitsRow.holds Try.pinned (OpenSpec.ofChange queryFitsWrong)

/-- 'registrarlaw06.QueryParts': WHATEVER THE INPUT: true; the input reads as it did. -/
def queryPartsSpec : ChangeSpec := { name := "queryParts", fn := fun _ => fun
  | [d1, d2] => { results := [.lit (.bool true)], args := [d1, d2] }
  | _ => none }
def queryPartsRow : OpenClaim := { program := "ytfbooapgjhhjmaa", sum := "4cda9f5d0ef8343cf915e5cc5c3c800b351b7c3c6f2ada219fa2d06bca93325a", func := "registrar/registrarlaw06.QueryParts", spec := "queryParts", unfollowed := true, recurses := true, apart := false }
def QueryPartsSaid : Prop := queryPartsRow.holds Try.pinned (OpenSpec.ofChange queryPartsSpec)

/-- ITS FALSE NEIGHBOUR: 'it returns false'. Refute it at one input. -/
def queryPartsWrong : ChangeSpec := { name := "queryParts", fn := fun _ => fun
  | [d1, d2] => { results := [.lit (.bool false)], args := [d1, d2] }
  | _ => none }
def QueryPartsWrongFalsely : Prop := queryPartsRow.holds Try.pinned (OpenSpec.ofChange queryPartsWrong)

/-- 'registrarlaw06.QueryBlind': WHATEVER THE INPUT: true; the input reads as it did. -/
def queryBlindSpec : ChangeSpec := { name := "queryBlind", fn := fun _ => fun
  | [d1, d2, d3] => { results := [.lit (.bool true)], args := [d1, d2, d3] }
  | _ => none }
def queryBlindRow : OpenClaim := { program := "ytfbooapgjhhjmaa", sum := "4cda9f5d0ef8343cf915e5cc5c3c800b351b7c3c6f2ada219fa2d06bca93325a", func := "registrar/registrarlaw06.QueryBlind", spec := "queryBlind", unfollowed := true, recurses := true, apart := false }
def QueryBlindSaid : Prop := queryBlindRow.holds Try.pinned (OpenSpec.ofChange queryBlindSpec)

/-- ITS FALSE NEIGHBOUR: 'it returns false'. Refute it at one input. -/
def queryBlindWrong : ChangeSpec := { name := "queryBlind", fn := fun _ => fun
  | [d1, d2, d3] => { results := [.lit (.bool false)], args := [d1, d2, d3] }
  | _ => none }
def QueryBlindWrongFalsely : Prop := queryBlindRow.holds Try.pinned (OpenSpec.ofChange queryBlindWrong)

/- THE SECOND FORM. 'bulk': how many values and letters a reading holds, each counted each time it is reached (what is shared counts as often as it is met; a slice's spare places count too). A statement '..UptoSaid' is the law's where the arguments, and the package variables that the reading takes, are together of bulk at most 1048576: NARROWER than '..Said'. Prove '..Said' where nothing that the law and all that it calls make is longer than what came in: it says more and counts as full. Else prove '..UptoSaid'. A law counts once. -/
mutual
def uptoBulk {H : Type} : DataW H → Nat
  | .lit (.string bytes) => bytes.length + 1
  | .lit _ => 1
  | .nil => 1
  | .ptr d => uptoBulk d + 1
  | .slice elems spare => uptoBulkAll elems + uptoBulkAll spare + 1
  | .agg parts => uptoBulkAll parts + 1
  | .iface _ d => uptoBulk d + 1
  | .map entries => uptoBulkEntries entries + 1
  | .held _ => 1
def uptoBulkAll {H : Type} : List (DataW H) → Nat
  | [] => 0
  | d :: r => uptoBulk d + uptoBulkAll r
def uptoBulkEntries {H : Type} : List (Lit × DataW H) → Nat
  | [] => 0
  | x :: r => uptoBulkEntry x + uptoBulkEntries r
def uptoBulkEntry {H : Type} : Lit × DataW H → Nat
  | (.string bytes, d) => bytes.length + uptoBulk d + 1
  | (_, d) => uptoBulk d + 1
 end
def uptoSmall : (H : Type) → List (DataW H) → Bool := fun _ ds => decide (uptoBulkAll ds ≤ 1048576)
def OpenSpec.upto (s : _root_.Go.ChangeSpec) : _root_.Go.OpenSpec := { _root_.Go.OpenSpec.ofChange s with cond := some uptoSmall }

/-- 'registrarlaw06.QueryMay', WHERE WHAT IT READS IS OF BULK AT MOST 1048576: true; the input reads as it did. -/
def queryMayUptoRow : OpenClaim := { program := "ytfbooapgjhhjmaa", sum := "4cda9f5d0ef8343cf915e5cc5c3c800b351b7c3c6f2ada219fa2d06bca93325a", func := "registrar/registrarlaw06.QueryMay", spec := "queryMay", inPlace := ["internal/bytealg.IndexByteString", "internal/bytealg.IndexString"], unfollowed := true, recurses := true, named := ["internal/bytealg.MaxLen"], apart := false, narrowed := true }
def QueryMayUptoSaid : Prop := queryMayUptoRow.holds Try.pinned (OpenSpec.upto queryMaySpec)

/-- 'registrarlaw06.QueryMatches', WHERE WHAT IT READS IS OF BULK AT MOST 1048576: true; the input reads as it did. -/
def queryMatchesUptoRow : OpenClaim := { program := "ytfbooapgjhhjmaa", sum := "4cda9f5d0ef8343cf915e5cc5c3c800b351b7c3c6f2ada219fa2d06bca93325a", func := "registrar/registrarlaw06.QueryMatches", spec := "queryMatches", unfollowed := true, recurses := true, apart := false, narrowed := true }
def QueryMatchesUptoSaid : Prop := queryMatchesUptoRow.holds Try.pinned (OpenSpec.upto queryMatchesSpec)

/-- 'registrarlaw06.QueryGrows', WHERE WHAT IT READS IS OF BULK AT MOST 1048576: true; the input reads as it did. -/
def queryGrowsUptoRow : OpenClaim := { program := "ytfbooapgjhhjmaa", sum := "4cda9f5d0ef8343cf915e5cc5c3c800b351b7c3c6f2ada219fa2d06bca93325a", func := "registrar/registrarlaw06.QueryGrows", spec := "queryGrows", unfollowed := true, recurses := true, apart := false, narrowed := true }
def QueryGrowsUptoSaid : Prop := queryGrowsUptoRow.holds Try.pinned (OpenSpec.upto queryGrowsSpec)

/-- 'registrarlaw06.QueryAll', WHERE WHAT IT READS IS OF BULK AT MOST 1048576: true; the input reads as it did. -/
def queryAllUptoRow : OpenClaim := { program := "ytfbooapgjhhjmaa", sum := "4cda9f5d0ef8343cf915e5cc5c3c800b351b7c3c6f2ada219fa2d06bca93325a", func := "registrar/registrarlaw06.QueryAll", spec := "queryAll", unfollowed := true, recurses := true, apart := false, narrowed := true }
def QueryAllUptoSaid : Prop := queryAllUptoRow.holds Try.pinned (OpenSpec.upto queryAllSpec)

/-- 'registrarlaw06.QueryFits', WHERE WHAT IT READS IS OF BULK AT MOST 1048576: true; the input reads as it did. -/
def queryFitsUptoRow : OpenClaim := { program := "ytfbooapgjhhjmaa", sum := "4cda9f5d0ef8343cf915e5cc5c3c800b351b7c3c6f2ada219fa2d06bca93325a", func := "registrar/registrarlaw06.QueryFits", spec := "queryFits", inPlace := ["internal/bytealg.IndexByteString", "internal/bytealg.IndexString"], unfollowed := true, recurses := true, named := ["internal/bytealg.MaxLen"], apart := false, narrowed := true }
def QueryFitsUptoSaid : Prop := queryFitsUptoRow.holds Try.pinned (OpenSpec.upto queryFitsSpec)

/-- 'registrarlaw06.QueryParts', WHERE WHAT IT READS IS OF BULK AT MOST 1048576: true; the input reads as it did. -/
def queryPartsUptoRow : OpenClaim := { program := "ytfbooapgjhhjmaa", sum := "4cda9f5d0ef8343cf915e5cc5c3c800b351b7c3c6f2ada219fa2d06bca93325a", func := "registrar/registrarlaw06.QueryParts", spec := "queryParts", unfollowed := true, recurses := true, apart := false, narrowed := true }
def QueryPartsUptoSaid : Prop := queryPartsUptoRow.holds Try.pinned (OpenSpec.upto queryPartsSpec)

/-- 'registrarlaw06.QueryBlind', WHERE WHAT IT READS IS OF BULK AT MOST 1048576: true; the input reads as it did. -/
def queryBlindUptoRow : OpenClaim := { program := "ytfbooapgjhhjmaa", sum := "4cda9f5d0ef8343cf915e5cc5c3c800b351b7c3c6f2ada219fa2d06bca93325a", func := "registrar/registrarlaw06.QueryBlind", spec := "queryBlind", unfollowed := true, recurses := true, apart := false, narrowed := true }
def QueryBlindUptoSaid : Prop := queryBlindUptoRow.holds Try.pinned (OpenSpec.upto queryBlindSpec)

end Rows
end Go.Proofs.Ytfbooapgjhhjmaa
