/-
  DERIVED. GIVEN WITH THE SEED: THE CARDS: each row of YtogpbclfdnijpaaDoorRows.lean that lists a variable, with what it lists TIED to the program's text (the seventh form; the later family's looks); each row that meets fmt, with fmt's text TOLD by the authors' own Lean function (tested against real Go, not proved from fmt's source: count such statements apart). THE CARD IS WHAT COUNTS. Prove the row's statement (the work); the ties are given (YtogpbclfdnijpaaDoorTie.lean); close each card by the builder's one call (the guide's Derived/Test/ToyasCard.lean, 'card_holds'). Laid BY PROGRAM, IN A SANDBOX (cutbox-door.mjs). By AI agents, Wed Nov 11 2026. No macro, syntax, notation, axiom, sorry.
-/
import Derived.Test.YtogpbclfdnijpaaDoorRows
import GoSem.ClaimSeven
namespace Go.Proofs.YtogpbclfdnijpaaDoor
namespace Rows

/-- THE TIED CARD OF 'watchkeeperlaw16.KeyBack'. -/
def keyBackCard : Claim7 := { stood := { row := keyBackRow, standIns := [], harness := (true, "4da2cbd583f22c058f715a688cd441a850bb5a1c08536f375f46de2ed1e1bd23"), looks := false }, kinds := [], alts := [], laidByText := true, laidKinds := [.data, .data, .data], laidTests := true, laidLooks := .later }
def KeyBackCardSaid : Prop := Claim7.holds Tryd.pinned (.plain (OpenSpec.ofChange keyBackSpec)) keyBackCard

/-- THE TIED CARD OF 'watchkeeperlaw16.KeyDigits'. -/
def keyDigitsCard : Claim7 := { stood := { row := keyDigitsRow, standIns := [], harness := (true, "4da2cbd583f22c058f715a688cd441a850bb5a1c08536f375f46de2ed1e1bd23"), looks := false }, kinds := [], alts := [], laidByText := true, laidKinds := [.data, .data, .data], laidTests := true, laidLooks := .later }
def KeyDigitsCardSaid : Prop := Claim7.holds Tryd.pinned (.plain (OpenSpec.ofChange keyDigitsSpec)) keyDigitsCard

/-- THE TIED CARD OF 'watchkeeperlaw16.KeyBounds'. -/
def keyBoundsCard : Claim7 := { stood := { row := keyBoundsRow, standIns := [], harness := (true, "4da2cbd583f22c058f715a688cd441a850bb5a1c08536f375f46de2ed1e1bd23"), looks := false }, kinds := [], alts := [], laidByText := true, laidKinds := [.data, .data, .data], laidTests := true, laidLooks := .later }
def KeyBoundsCardSaid : Prop := Claim7.holds Tryd.pinned (.plain (OpenSpec.ofChange keyBoundsSpec)) keyBoundsCard

/-- THE SECOND FORM's CARD OF 'watchkeeperlaw16.KeyBack'. -/
def keyBackUptoCard : Claim7 := { stood := { row := keyBackUptoRow, standIns := [], harness := (true, "4da2cbd583f22c058f715a688cd441a850bb5a1c08536f375f46de2ed1e1bd23"), looks := false }, kinds := [], alts := [], laidByText := true, laidKinds := [.data, .data, .data], laidTests := true, laidLooks := .later }
def KeyBackUptoCardSaid : Prop := Claim7.holds Tryd.pinned (.plain (OpenSpec.upto keyBackSpec)) keyBackUptoCard

/-- THE SECOND FORM's CARD OF 'watchkeeperlaw16.KeyDigits'. -/
def keyDigitsUptoCard : Claim7 := { stood := { row := keyDigitsUptoRow, standIns := [], harness := (true, "4da2cbd583f22c058f715a688cd441a850bb5a1c08536f375f46de2ed1e1bd23"), looks := false }, kinds := [], alts := [], laidByText := true, laidKinds := [.data, .data, .data], laidTests := true, laidLooks := .later }
def KeyDigitsUptoCardSaid : Prop := Claim7.holds Tryd.pinned (.plain (OpenSpec.upto keyDigitsSpec)) keyDigitsUptoCard

/-- THE SECOND FORM's CARD OF 'watchkeeperlaw16.KeyBounds'. -/
def keyBoundsUptoCard : Claim7 := { stood := { row := keyBoundsUptoRow, standIns := [], harness := (true, "4da2cbd583f22c058f715a688cd441a850bb5a1c08536f375f46de2ed1e1bd23"), looks := false }, kinds := [], alts := [], laidByText := true, laidKinds := [.data, .data, .data], laidTests := true, laidLooks := .later }
def KeyBoundsUptoCardSaid : Prop := Claim7.holds Tryd.pinned (.plain (OpenSpec.upto keyBoundsSpec)) keyBoundsUptoCard
end Rows
end Go.Proofs.YtogpbclfdnijpaaDoor
