/-
  DERIVED. GIVEN WITH THE SEED: THE CARDS: each row of YtjhmkffihindlaaDoorRows.lean that lists a variable, with what it lists TIED to the program's text (the seventh form; the later family's looks); each row that meets fmt, with fmt's text TOLD by the authors' own Lean function (tested against real Go, not proved from fmt's source: count such statements apart). THE CARD IS WHAT COUNTS. Prove the row's statement (the work); the ties are given (YtjhmkffihindlaaDoorTie.lean); close each card by the builder's one call (the guide's Derived/Test/ToyasCard.lean, 'card_holds'). Laid BY PROGRAM, IN A SANDBOX (cutbox-door.mjs). By AI agents, Wed Nov 11 2026. No macro, syntax, notation, axiom, sorry.
-/
import Derived.Test.YtjhmkffihindlaaDoorRows
import GoSem.ClaimSeven
namespace Go.Proofs.YtjhmkffihindlaaDoor
namespace Rows

/-- THE TIED CARD OF 'pleacherlaw.XmlTexts'. -/
def xmlTextsCard : Claim7 := { stood := { row := xmlTextsRow, standIns := [], harness := (true, "241faad5ce6ae26e77b2609fb358d17d01977afc5abb05a9b89d8c661f61012a"), looks := false }, kinds := [], alts := [], laidByText := true, laidKinds := [.data, .pinned], laidTests := true, laidLooks := .later }
def XmlTextsCardSaid : Prop := Claim7.holds Tryd.pinned (.plain (OpenSpec.ofChange xmlTextsSpec)) xmlTextsCard

/-- THE TIED CARD OF 'pleacherlaw.XmlChecks'. -/
def xmlChecksCard : Claim7 := { stood := { row := xmlChecksRow, standIns := [], harness := (true, "241faad5ce6ae26e77b2609fb358d17d01977afc5abb05a9b89d8c661f61012a"), looks := false }, kinds := [], alts := [], laidByText := true, laidKinds := [.data, .pinned], laidTests := true, laidLooks := .later }
def XmlChecksCardSaid : Prop := Claim7.holds Tryd.pinned (.plain (OpenSpec.ofChange xmlChecksSpec)) xmlChecksCard

/-- THE TIED CARD OF 'pleacherlaw.XmlEscapes'. -/
def xmlEscapesCard : Claim7 := { stood := { row := xmlEscapesRow, standIns := [], harness := (true, "241faad5ce6ae26e77b2609fb358d17d01977afc5abb05a9b89d8c661f61012a"), looks := false }, kinds := [], alts := [], laidByText := true, laidKinds := [.data], laidTests := true, laidLooks := .later }
def XmlEscapesCardSaid : Prop := Claim7.holds Tryd.pinned (.plain (OpenSpec.ofChange xmlEscapesSpec)) xmlEscapesCard

/-- THE TIED CARD OF 'pleacherlaw.XmlShows'. -/
def xmlShowsCard : Claim7 := { stood := { row := xmlShowsRow, standIns := [], harness := (true, "241faad5ce6ae26e77b2609fb358d17d01977afc5abb05a9b89d8c661f61012a"), looks := false }, kinds := [], alts := [], laidByText := true, laidKinds := [.data, .data, .pinned], laidTests := true, laidLooks := .later }
def XmlShowsCardSaid : Prop := Claim7.holds Tryd.pinned (.plain (OpenSpec.ofChange xmlShowsSpec)) xmlShowsCard

/-- THE TIED CARD OF 'pleacherlaw.XmlParses'. -/
def xmlParsesCard : Claim7 := { stood := { row := xmlParsesRow, standIns := [], harness := (true, "241faad5ce6ae26e77b2609fb358d17d01977afc5abb05a9b89d8c661f61012a"), looks := false }, kinds := [], alts := [], laidByText := true, laidKinds := [.data, .data, .pinned], laidTests := true, laidLooks := .later }
def XmlParsesCardSaid : Prop := Claim7.holds Tryd.pinned (.plain (OpenSpec.ofChange xmlParsesSpec)) xmlParsesCard

/-- THE SECOND FORM's CARD OF 'pleacherlaw.XmlTexts'. -/
def xmlTextsUptoCard : Claim7 := { stood := { row := xmlTextsUptoRow, standIns := [], harness := (true, "241faad5ce6ae26e77b2609fb358d17d01977afc5abb05a9b89d8c661f61012a"), looks := false }, kinds := [], alts := [], laidByText := true, laidKinds := [.data, .pinned], laidTests := true, laidLooks := .later }
def XmlTextsUptoCardSaid : Prop := Claim7.holds Tryd.pinned (.plain (OpenSpec.upto xmlTextsSpec)) xmlTextsUptoCard

/-- THE SECOND FORM's CARD OF 'pleacherlaw.XmlChecks'. -/
def xmlChecksUptoCard : Claim7 := { stood := { row := xmlChecksUptoRow, standIns := [], harness := (true, "241faad5ce6ae26e77b2609fb358d17d01977afc5abb05a9b89d8c661f61012a"), looks := false }, kinds := [], alts := [], laidByText := true, laidKinds := [.data, .pinned], laidTests := true, laidLooks := .later }
def XmlChecksUptoCardSaid : Prop := Claim7.holds Tryd.pinned (.plain (OpenSpec.upto xmlChecksSpec)) xmlChecksUptoCard

/-- THE SECOND FORM's CARD OF 'pleacherlaw.XmlEscapes'. -/
def xmlEscapesUptoCard : Claim7 := { stood := { row := xmlEscapesUptoRow, standIns := [], harness := (true, "241faad5ce6ae26e77b2609fb358d17d01977afc5abb05a9b89d8c661f61012a"), looks := false }, kinds := [], alts := [], laidByText := true, laidKinds := [.data], laidTests := true, laidLooks := .later }
def XmlEscapesUptoCardSaid : Prop := Claim7.holds Tryd.pinned (.plain (OpenSpec.upto xmlEscapesSpec)) xmlEscapesUptoCard

/-- THE SECOND FORM's CARD OF 'pleacherlaw.XmlShows'. -/
def xmlShowsUptoCard : Claim7 := { stood := { row := xmlShowsUptoRow, standIns := [], harness := (true, "241faad5ce6ae26e77b2609fb358d17d01977afc5abb05a9b89d8c661f61012a"), looks := false }, kinds := [], alts := [], laidByText := true, laidKinds := [.data, .data, .pinned], laidTests := true, laidLooks := .later }
def XmlShowsUptoCardSaid : Prop := Claim7.holds Tryd.pinned (.plain (OpenSpec.upto xmlShowsSpec)) xmlShowsUptoCard

/-- THE SECOND FORM's CARD OF 'pleacherlaw.XmlParses'. -/
def xmlParsesUptoCard : Claim7 := { stood := { row := xmlParsesUptoRow, standIns := [], harness := (true, "241faad5ce6ae26e77b2609fb358d17d01977afc5abb05a9b89d8c661f61012a"), looks := false }, kinds := [], alts := [], laidByText := true, laidKinds := [.data, .data, .pinned], laidTests := true, laidLooks := .later }
def XmlParsesUptoCardSaid : Prop := Claim7.holds Tryd.pinned (.plain (OpenSpec.upto xmlParsesSpec)) xmlParsesUptoCard
end Rows
end Go.Proofs.YtjhmkffihindlaaDoor
