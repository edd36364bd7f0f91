/-
  DERIVED. GIVEN WITH THE SEED: THE CARDS: each row of YtpccfjoklinaiaaDoorRows.lean that lists a variable, with what it lists TIED to the program's text (the seventh form; the later family's looks); each row that meets fmt, with fmt's text TOLD by the authors' own Lean function (tested against real Go, not proved from fmt's source: count such statements apart). THE CARD IS WHAT COUNTS. Prove the row's statement (the work); the ties are given (YtpccfjoklinaiaaDoorTie.lean); close each card by the builder's one call (the guide's Derived/Test/ToyasCard.lean, 'card_holds'). Laid BY PROGRAM, IN A SANDBOX (cutbox-door.mjs). By AI agents, Wed Nov 11 2026. No macro, syntax, notation, axiom, sorry.
-/
import Derived.Test.YtpccfjoklinaiaaDoorRows
import GoSem.ClaimSeven
namespace Go.Proofs.YtpccfjoklinaiaaDoor
namespace Rows

/-- THE TIED CARD OF 'pleacherlaw.StoreShreds'. -/
def storeShredsCard : Claim7 := { stood := { row := storeShredsRow, standIns := [], harness := (true, "23cde77878852a4ec174d26bab69aba680be4e38e560f80dc10fc3fcd2cd4242"), looks := false }, kinds := [], alts := [], laidByText := true, laidKinds := [.data, .pinned], laidTests := true, laidLooks := .later }
def StoreShredsCardSaid : Prop := Claim7.holds Tryd.pinned (.plain (OpenSpec.ofChange storeShredsSpec)) storeShredsCard

/-- THE TIED CARD OF 'pleacherlaw.StoreChecks'. -/
def storeChecksCard : Claim7 := { stood := { row := storeChecksRow, standIns := [], harness := (true, "23cde77878852a4ec174d26bab69aba680be4e38e560f80dc10fc3fcd2cd4242"), looks := false }, kinds := [], alts := [], laidByText := true, laidKinds := [.data, .pinned], laidTests := true, laidLooks := .later }
def StoreChecksCardSaid : Prop := Claim7.holds Tryd.pinned (.plain (OpenSpec.ofChange storeChecksSpec)) storeChecksCard

/-- THE TIED CARD OF 'pleacherlaw.StoreTexts'. -/
def storeTextsCard : Claim7 := { stood := { row := storeTextsRow, standIns := [], harness := (true, "23cde77878852a4ec174d26bab69aba680be4e38e560f80dc10fc3fcd2cd4242"), looks := false }, kinds := [], alts := [], laidByText := true, laidKinds := [.data, .pinned], laidTests := true, laidLooks := .later }
def StoreTextsCardSaid : Prop := Claim7.holds Tryd.pinned (.plain (OpenSpec.ofChange storeTextsSpec)) storeTextsCard

/-- THE TIED CARD OF 'pleacherlaw.StoreCopies'. -/
def storeCopiesCard : Claim7 := { stood := { row := storeCopiesRow, standIns := [], harness := (true, "23cde77878852a4ec174d26bab69aba680be4e38e560f80dc10fc3fcd2cd4242"), looks := false }, kinds := [], alts := [], laidByText := true, laidKinds := [.data, .pinned], laidTests := true, laidLooks := .later }
def StoreCopiesCardSaid : Prop := Claim7.holds Tryd.pinned (.plain (OpenSpec.ofChange storeCopiesSpec)) storeCopiesCard

/-- THE TIED CARD OF 'pleacherlaw.StoreEvents'. -/
def storeEventsCard : Claim7 := { stood := { row := storeEventsRow, standIns := [], harness := (true, "23cde77878852a4ec174d26bab69aba680be4e38e560f80dc10fc3fcd2cd4242"), looks := false }, kinds := [], alts := [], laidByText := true, laidKinds := [.data, .pinned], laidTests := true, laidLooks := .later }
def StoreEventsCardSaid : Prop := Claim7.holds Tryd.pinned (.plain (OpenSpec.ofChange storeEventsSpec)) storeEventsCard

/-- THE SECOND FORM's CARD OF 'pleacherlaw.StoreShreds'. -/
def storeShredsUptoCard : Claim7 := { stood := { row := storeShredsUptoRow, standIns := [], harness := (true, "23cde77878852a4ec174d26bab69aba680be4e38e560f80dc10fc3fcd2cd4242"), looks := false }, kinds := [], alts := [], laidByText := true, laidKinds := [.data, .pinned], laidTests := true, laidLooks := .later }
def StoreShredsUptoCardSaid : Prop := Claim7.holds Tryd.pinned (.plain (OpenSpec.upto storeShredsSpec)) storeShredsUptoCard

/-- THE SECOND FORM's CARD OF 'pleacherlaw.StoreChecks'. -/
def storeChecksUptoCard : Claim7 := { stood := { row := storeChecksUptoRow, standIns := [], harness := (true, "23cde77878852a4ec174d26bab69aba680be4e38e560f80dc10fc3fcd2cd4242"), looks := false }, kinds := [], alts := [], laidByText := true, laidKinds := [.data, .pinned], laidTests := true, laidLooks := .later }
def StoreChecksUptoCardSaid : Prop := Claim7.holds Tryd.pinned (.plain (OpenSpec.upto storeChecksSpec)) storeChecksUptoCard

/-- THE SECOND FORM's CARD OF 'pleacherlaw.StoreTexts'. -/
def storeTextsUptoCard : Claim7 := { stood := { row := storeTextsUptoRow, standIns := [], harness := (true, "23cde77878852a4ec174d26bab69aba680be4e38e560f80dc10fc3fcd2cd4242"), looks := false }, kinds := [], alts := [], laidByText := true, laidKinds := [.data, .pinned], laidTests := true, laidLooks := .later }
def StoreTextsUptoCardSaid : Prop := Claim7.holds Tryd.pinned (.plain (OpenSpec.upto storeTextsSpec)) storeTextsUptoCard

/-- THE SECOND FORM's CARD OF 'pleacherlaw.StoreCopies'. -/
def storeCopiesUptoCard : Claim7 := { stood := { row := storeCopiesUptoRow, standIns := [], harness := (true, "23cde77878852a4ec174d26bab69aba680be4e38e560f80dc10fc3fcd2cd4242"), looks := false }, kinds := [], alts := [], laidByText := true, laidKinds := [.data, .pinned], laidTests := true, laidLooks := .later }
def StoreCopiesUptoCardSaid : Prop := Claim7.holds Tryd.pinned (.plain (OpenSpec.upto storeCopiesSpec)) storeCopiesUptoCard

/-- THE SECOND FORM's CARD OF 'pleacherlaw.StoreEvents'. -/
def storeEventsUptoCard : Claim7 := { stood := { row := storeEventsUptoRow, standIns := [], harness := (true, "23cde77878852a4ec174d26bab69aba680be4e38e560f80dc10fc3fcd2cd4242"), looks := false }, kinds := [], alts := [], laidByText := true, laidKinds := [.data, .pinned], laidTests := true, laidLooks := .later }
def StoreEventsUptoCardSaid : Prop := Claim7.holds Tryd.pinned (.plain (OpenSpec.upto storeEventsSpec)) storeEventsUptoCard
end Rows
end Go.Proofs.YtpccfjoklinaiaaDoor
