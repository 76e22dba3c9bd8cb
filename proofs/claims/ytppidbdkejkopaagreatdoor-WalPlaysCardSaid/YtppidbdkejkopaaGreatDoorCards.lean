/-
  DERIVED. GIVEN WITH THE SEED: THE CARDS: each row of YtppidbdkejkopaaGreatDoorRows.lean that lists a variable, with what it lists TIED to the program's text (the seventh form; the later family's looks); each row that meets fmt, with fmt's text TOLD by the authors' own Lean function (tested against real Go, not proved from fmt's source: count such statements apart). THE CARD IS WHAT COUNTS. Prove the row's statement (the work); the ties are given (YtppidbdkejkopaaGreatDoorTie.lean); close each card by the builder's one call (the guide's Derived/Test/ToyasCard.lean, 'card_holds'). Laid BY PROGRAM, IN A SANDBOX (cutbox-door.mjs). By AI agents, Wed Nov 11 2026. No macro, syntax, notation, axiom, sorry.
-/
import Derived.Test.YtppidbdkejkopaaGreatDoorRows
import GoSem.ClaimSeven
namespace Go.Proofs.YtppidbdkejkopaaGreatDoor
namespace Rows

/-- THE TIED CARD OF 'registrarlaw11.WalPlays'. -/
def walPlaysCard : Claim7 := { stood := { row := walPlaysRow, standIns := [], harness := (true, "4e9b2328496fe5b17768a058f2fadc7ac9d31ed9f6e8fa9f34153f046b3e5f9d"), looks := false }, kinds := [], alts := [], laidByText := true, laidKinds := [.data, .data, .data], laidTests := true, laidLooks := .later }
def WalPlaysCardSaid : Prop := Claim7.holds Tryz.pinned (.plain (OpenSpec.ofChange walPlaysSpec)) walPlaysCard

/-- THE TIED CARD OF 'registrarlaw11.WalCrash'. -/
def walCrashCard : Claim7 := { stood := { row := walCrashRow, standIns := [], harness := (true, "4e9b2328496fe5b17768a058f2fadc7ac9d31ed9f6e8fa9f34153f046b3e5f9d"), looks := false }, kinds := [], alts := [], laidByText := true, laidKinds := [.data, .data, .data], laidTests := true, laidLooks := .later }
def WalCrashCardSaid : Prop := Claim7.holds Tryz.pinned (.plain (OpenSpec.ofChange walCrashSpec)) walCrashCard

/-- THE TIED CARD OF 'registrarlaw11.WalAny'. -/
def walAnyCard : Claim7 := { stood := { row := walAnyRow, standIns := [], harness := (true, "4e9b2328496fe5b17768a058f2fadc7ac9d31ed9f6e8fa9f34153f046b3e5f9d"), looks := false }, kinds := [], alts := [], laidByText := true, laidKinds := [.data, .data, .data], laidTests := true, laidLooks := .later }
def WalAnyCardSaid : Prop := Claim7.holds Tryz.pinned (.plain (OpenSpec.ofChange walAnySpec)) walAnyCard

/-- THE TIED CARD OF 'registrarlaw11.WalBack'. -/
def walBackCard : Claim7 := { stood := { row := walBackRow, standIns := [], harness := (true, "4e9b2328496fe5b17768a058f2fadc7ac9d31ed9f6e8fa9f34153f046b3e5f9d"), looks := false }, kinds := [], alts := [], laidByText := true, laidKinds := [.data, .data, .data], laidTests := true, laidLooks := .later }
def WalBackCardSaid : Prop := Claim7.holds Tryz.pinned (.plain (OpenSpec.ofChange walBackSpec)) walBackCard

/-- THE TIED CARD OF 'registrarlaw11.WalSpace'. -/
def walSpaceCard : Claim7 := { stood := { row := walSpaceRow, standIns := [], harness := (true, "4e9b2328496fe5b17768a058f2fadc7ac9d31ed9f6e8fa9f34153f046b3e5f9d"), looks := false }, kinds := [], alts := [], laidByText := true, laidKinds := [.data, .data, .data], laidTests := true, laidLooks := .later }
def WalSpaceCardSaid : Prop := Claim7.holds Tryz.pinned (.plain (OpenSpec.ofChange walSpaceSpec)) walSpaceCard

/-- THE TIED CARD OF 'registrarlaw11.WalPrefix'. -/
def walPrefixCard : Claim7 := { stood := { row := walPrefixRow, standIns := [], harness := (true, "4e9b2328496fe5b17768a058f2fadc7ac9d31ed9f6e8fa9f34153f046b3e5f9d"), looks := false }, kinds := [], alts := [], laidByText := true, laidKinds := [.data, .data, .data], laidTests := true, laidLooks := .later }
def WalPrefixCardSaid : Prop := Claim7.holds Tryz.pinned (.plain (OpenSpec.ofChange walPrefixSpec)) walPrefixCard

/-- THE SECOND FORM's CARD OF 'registrarlaw11.WalPlays'. -/
def walPlaysUptoCard : Claim7 := { stood := { row := walPlaysUptoRow, standIns := [], harness := (true, "4e9b2328496fe5b17768a058f2fadc7ac9d31ed9f6e8fa9f34153f046b3e5f9d"), looks := false }, kinds := [], alts := [], laidByText := true, laidKinds := [.data, .data, .data], laidTests := true, laidLooks := .later }
def WalPlaysUptoCardSaid : Prop := Claim7.holds Tryz.pinned (.plain (OpenSpec.upto walPlaysSpec)) walPlaysUptoCard

/-- THE SECOND FORM's CARD OF 'registrarlaw11.WalCrash'. -/
def walCrashUptoCard : Claim7 := { stood := { row := walCrashUptoRow, standIns := [], harness := (true, "4e9b2328496fe5b17768a058f2fadc7ac9d31ed9f6e8fa9f34153f046b3e5f9d"), looks := false }, kinds := [], alts := [], laidByText := true, laidKinds := [.data, .data, .data], laidTests := true, laidLooks := .later }
def WalCrashUptoCardSaid : Prop := Claim7.holds Tryz.pinned (.plain (OpenSpec.upto walCrashSpec)) walCrashUptoCard

/-- THE SECOND FORM's CARD OF 'registrarlaw11.WalAny'. -/
def walAnyUptoCard : Claim7 := { stood := { row := walAnyUptoRow, standIns := [], harness := (true, "4e9b2328496fe5b17768a058f2fadc7ac9d31ed9f6e8fa9f34153f046b3e5f9d"), looks := false }, kinds := [], alts := [], laidByText := true, laidKinds := [.data, .data, .data], laidTests := true, laidLooks := .later }
def WalAnyUptoCardSaid : Prop := Claim7.holds Tryz.pinned (.plain (OpenSpec.upto walAnySpec)) walAnyUptoCard

/-- THE SECOND FORM's CARD OF 'registrarlaw11.WalBack'. -/
def walBackUptoCard : Claim7 := { stood := { row := walBackUptoRow, standIns := [], harness := (true, "4e9b2328496fe5b17768a058f2fadc7ac9d31ed9f6e8fa9f34153f046b3e5f9d"), looks := false }, kinds := [], alts := [], laidByText := true, laidKinds := [.data, .data, .data], laidTests := true, laidLooks := .later }
def WalBackUptoCardSaid : Prop := Claim7.holds Tryz.pinned (.plain (OpenSpec.upto walBackSpec)) walBackUptoCard

/-- THE SECOND FORM's CARD OF 'registrarlaw11.WalSpace'. -/
def walSpaceUptoCard : Claim7 := { stood := { row := walSpaceUptoRow, standIns := [], harness := (true, "4e9b2328496fe5b17768a058f2fadc7ac9d31ed9f6e8fa9f34153f046b3e5f9d"), looks := false }, kinds := [], alts := [], laidByText := true, laidKinds := [.data, .data, .data], laidTests := true, laidLooks := .later }
def WalSpaceUptoCardSaid : Prop := Claim7.holds Tryz.pinned (.plain (OpenSpec.upto walSpaceSpec)) walSpaceUptoCard

/-- THE SECOND FORM's CARD OF 'registrarlaw11.WalPrefix'. -/
def walPrefixUptoCard : Claim7 := { stood := { row := walPrefixUptoRow, standIns := [], harness := (true, "4e9b2328496fe5b17768a058f2fadc7ac9d31ed9f6e8fa9f34153f046b3e5f9d"), looks := false }, kinds := [], alts := [], laidByText := true, laidKinds := [.data, .data, .data], laidTests := true, laidLooks := .later }
def WalPrefixUptoCardSaid : Prop := Claim7.holds Tryz.pinned (.plain (OpenSpec.upto walPrefixSpec)) walPrefixUptoCard
end Rows
end Go.Proofs.YtppidbdkejkopaaGreatDoor
