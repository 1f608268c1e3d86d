/-
  DERIVED. GIVEN WITH THE SEED: THE CARDS: each row of YtlonjggfnleolaaGreatDoorRows.lean that lists a variable, with what it lists TIED to the program's text (the seventh form; the later family's looks); each row that meets fmt, with fmt's text TOLD by the authors' own Lean function (tested against real Go, not proved from fmt's source: count such statements apart). THE CARD IS WHAT COUNTS. Prove the row's statement (the work); the ties are given (YtlonjggfnleolaaGreatDoorTie.lean); close each card by the builder's one call (the guide's Derived/Test/ToyasCard.lean, 'card_holds'). Laid BY PROGRAM, IN A SANDBOX (cutbox-door.mjs). By AI agents, Wed Nov 11 2026. No macro, syntax, notation, axiom, sorry.
-/
import Derived.Test.YtlonjggfnleolaaGreatDoorRows
import GoSem.ClaimSeven
namespace Go.Proofs.YtlonjggfnleolaaGreatDoor
namespace Rows

/-- THE TIED CARD OF 'junctionlaw.Writes'. -/
def writesCard : Claim7 := { stood := { row := writesRow, standIns := [], harness := (true, "57fbab4d3b243a620b1d4e43db9fe6a0659da492c0425751ef40cbe333d1cb59"), looks := false }, kinds := [], alts := [], laidByText := true, laidKinds := [.data, .data, .data], laidTests := true, laidLooks := .later }
def WritesCardSaid : Prop := Claim7.holds Tryz.pinned (.plain (OpenSpec.ofChange writesSpec)) writesCard

/-- THE TIED CARD OF 'junctionlaw.Reads'. -/
def readsCard : Claim7 := { stood := { row := readsRow, standIns := [], harness := (true, "57fbab4d3b243a620b1d4e43db9fe6a0659da492c0425751ef40cbe333d1cb59"), looks := false }, kinds := [], alts := [], laidByText := true, laidKinds := [.data, .data, .data], laidTests := true, laidLooks := .later }
def ReadsCardSaid : Prop := Claim7.holds Tryz.pinned (.plain (OpenSpec.ofChange readsSpec)) readsCard

/-- THE TIED CARD OF 'junctionlaw.Nexts'. -/
def nextsCard : Claim7 := { stood := { row := nextsRow, standIns := [], harness := (true, "57fbab4d3b243a620b1d4e43db9fe6a0659da492c0425751ef40cbe333d1cb59"), looks := false }, kinds := [], alts := [], laidByText := true, laidKinds := [.data, .data, .data], laidTests := true, laidLooks := .later }
def NextsCardSaid : Prop := Claim7.holds Tryz.pinned (.plain (OpenSpec.ofChange nextsSpec)) nextsCard

/-- THE TIED CARD OF 'junctionkeep.Round'. -/
def roundCard : Claim7 := { stood := { row := roundRow, standIns := [], harness := (true, "57fbab4d3b243a620b1d4e43db9fe6a0659da492c0425751ef40cbe333d1cb59"), looks := false }, kinds := [], alts := [], laidByText := true, laidKinds := [.data, .data, .data], laidTests := true, laidLooks := .later }
def RoundCardSaid : Prop := Claim7.holds Tryz.pinned (.plain (OpenSpec.ofChange roundSpec)) roundCard

/-- THE TIED CARD OF 'junctionkeep.Pieced'. -/
def piecedCard : Claim7 := { stood := { row := piecedRow, standIns := [], harness := (true, "57fbab4d3b243a620b1d4e43db9fe6a0659da492c0425751ef40cbe333d1cb59"), looks := false }, kinds := [], alts := [], laidByText := true, laidKinds := [.data, .data, .data], laidTests := true, laidLooks := .later }
def PiecedCardSaid : Prop := Claim7.holds Tryz.pinned (.plain (OpenSpec.ofChange piecedSpec)) piecedCard

/-- THE TIED CARD OF 'junctionkeep.Parted'. -/
def partedCard : Claim7 := { stood := { row := partedRow, standIns := [], harness := (true, "57fbab4d3b243a620b1d4e43db9fe6a0659da492c0425751ef40cbe333d1cb59"), looks := false }, kinds := [], alts := [], laidByText := true, laidKinds := [.data, .data, .data], laidTests := true, laidLooks := .later }
def PartedCardSaid : Prop := Claim7.holds Tryz.pinned (.plain (OpenSpec.ofChange partedSpec)) partedCard

/-- THE TIED CARD OF 'junctionlaw.Says'. -/
def saysCard : Claim7 := { stood := { row := saysRow, standIns := [], harness := (true, "57fbab4d3b243a620b1d4e43db9fe6a0659da492c0425751ef40cbe333d1cb59"), looks := false }, kinds := [], alts := [], laidByText := true, laidKinds := [.data, .data, .data], laidTests := true, laidLooks := .later }
def SaysCardSaid : Prop := Claim7.holds Tryz.pinned (.plain (OpenSpec.ofChange saysSpec)) saysCard

/-- THE TIED CARD OF 'junctionlaw.Joins'. -/
def joinsCard : Claim7 := { stood := { row := joinsRow, standIns := [], harness := (true, "57fbab4d3b243a620b1d4e43db9fe6a0659da492c0425751ef40cbe333d1cb59"), looks := false }, kinds := [], alts := [], laidByText := true, laidKinds := [.data, .data, .data], laidTests := true, laidLooks := .later }
def JoinsCardSaid : Prop := Claim7.holds Tryz.pinned (.plain (OpenSpec.ofChange joinsSpec)) joinsCard

/-- THE TIED CARD OF 'junctionkeep.Faithful'. -/
def faithfulCard : Claim7 := { stood := { row := faithfulRow, standIns := [], harness := (true, "57fbab4d3b243a620b1d4e43db9fe6a0659da492c0425751ef40cbe333d1cb59"), looks := false }, kinds := [], alts := [], laidByText := true, laidKinds := [.data, .data, .data], laidTests := true, laidLooks := .later }
def FaithfulCardSaid : Prop := Claim7.holds Tryz.pinned (.plain (OpenSpec.ofChange faithfulSpec)) faithfulCard

/-- THE TIED CARD OF 'junctionkeep.Settled'. -/
def settledCard : Claim7 := { stood := { row := settledRow, standIns := [], harness := (true, "57fbab4d3b243a620b1d4e43db9fe6a0659da492c0425751ef40cbe333d1cb59"), looks := false }, kinds := [], alts := [], laidByText := true, laidKinds := [.data, .data, .data], laidTests := true, laidLooks := .later }
def SettledCardSaid : Prop := Claim7.holds Tryz.pinned (.plain (OpenSpec.ofChange settledSpec)) settledCard

/-- THE TIED CARD OF 'junctionkeep.Apart'. -/
def apartCard : Claim7 := { stood := { row := apartRow, standIns := [], harness := (true, "57fbab4d3b243a620b1d4e43db9fe6a0659da492c0425751ef40cbe333d1cb59"), looks := false }, kinds := [], alts := [], laidByText := true, laidKinds := [.data, .data, .data], laidTests := true, laidLooks := .later }
def ApartCardSaid : Prop := Claim7.holds Tryz.pinned (.plain (OpenSpec.ofChange apartSpec)) apartCard

/-- THE TIED CARD OF 'junctionlaw.All'. -/
def allCard : Claim7 := { stood := { row := allRow, standIns := [], harness := (true, "57fbab4d3b243a620b1d4e43db9fe6a0659da492c0425751ef40cbe333d1cb59"), looks := false }, kinds := [], alts := [], laidByText := true, laidKinds := [.data, .data, .data], laidTests := true, laidLooks := .later }
def AllCardSaid : Prop := Claim7.holds Tryz.pinned (.plain (OpenSpec.ofChange allSpec)) allCard

/-- THE SECOND FORM's CARD OF 'junctionlaw.Writes'. -/
def writesUptoCard : Claim7 := { stood := { row := writesUptoRow, standIns := [], harness := (true, "57fbab4d3b243a620b1d4e43db9fe6a0659da492c0425751ef40cbe333d1cb59"), looks := false }, kinds := [], alts := [], laidByText := true, laidKinds := [.data, .data, .data], laidTests := true, laidLooks := .later }
def WritesUptoCardSaid : Prop := Claim7.holds Tryz.pinned (.plain (OpenSpec.upto writesSpec)) writesUptoCard

/-- THE SECOND FORM's CARD OF 'junctionlaw.Reads'. -/
def readsUptoCard : Claim7 := { stood := { row := readsUptoRow, standIns := [], harness := (true, "57fbab4d3b243a620b1d4e43db9fe6a0659da492c0425751ef40cbe333d1cb59"), looks := false }, kinds := [], alts := [], laidByText := true, laidKinds := [.data, .data, .data], laidTests := true, laidLooks := .later }
def ReadsUptoCardSaid : Prop := Claim7.holds Tryz.pinned (.plain (OpenSpec.upto readsSpec)) readsUptoCard

/-- THE SECOND FORM's CARD OF 'junctionlaw.Nexts'. -/
def nextsUptoCard : Claim7 := { stood := { row := nextsUptoRow, standIns := [], harness := (true, "57fbab4d3b243a620b1d4e43db9fe6a0659da492c0425751ef40cbe333d1cb59"), looks := false }, kinds := [], alts := [], laidByText := true, laidKinds := [.data, .data, .data], laidTests := true, laidLooks := .later }
def NextsUptoCardSaid : Prop := Claim7.holds Tryz.pinned (.plain (OpenSpec.upto nextsSpec)) nextsUptoCard

/-- THE SECOND FORM's CARD OF 'junctionkeep.Round'. -/
def roundUptoCard : Claim7 := { stood := { row := roundUptoRow, standIns := [], harness := (true, "57fbab4d3b243a620b1d4e43db9fe6a0659da492c0425751ef40cbe333d1cb59"), looks := false }, kinds := [], alts := [], laidByText := true, laidKinds := [.data, .data, .data], laidTests := true, laidLooks := .later }
def RoundUptoCardSaid : Prop := Claim7.holds Tryz.pinned (.plain (OpenSpec.upto roundSpec)) roundUptoCard

/-- THE SECOND FORM's CARD OF 'junctionkeep.Pieced'. -/
def piecedUptoCard : Claim7 := { stood := { row := piecedUptoRow, standIns := [], harness := (true, "57fbab4d3b243a620b1d4e43db9fe6a0659da492c0425751ef40cbe333d1cb59"), looks := false }, kinds := [], alts := [], laidByText := true, laidKinds := [.data, .data, .data], laidTests := true, laidLooks := .later }
def PiecedUptoCardSaid : Prop := Claim7.holds Tryz.pinned (.plain (OpenSpec.upto piecedSpec)) piecedUptoCard

/-- THE SECOND FORM's CARD OF 'junctionkeep.Parted'. -/
def partedUptoCard : Claim7 := { stood := { row := partedUptoRow, standIns := [], harness := (true, "57fbab4d3b243a620b1d4e43db9fe6a0659da492c0425751ef40cbe333d1cb59"), looks := false }, kinds := [], alts := [], laidByText := true, laidKinds := [.data, .data, .data], laidTests := true, laidLooks := .later }
def PartedUptoCardSaid : Prop := Claim7.holds Tryz.pinned (.plain (OpenSpec.upto partedSpec)) partedUptoCard

/-- THE SECOND FORM's CARD OF 'junctionlaw.Says'. -/
def saysUptoCard : Claim7 := { stood := { row := saysUptoRow, standIns := [], harness := (true, "57fbab4d3b243a620b1d4e43db9fe6a0659da492c0425751ef40cbe333d1cb59"), looks := false }, kinds := [], alts := [], laidByText := true, laidKinds := [.data, .data, .data], laidTests := true, laidLooks := .later }
def SaysUptoCardSaid : Prop := Claim7.holds Tryz.pinned (.plain (OpenSpec.upto saysSpec)) saysUptoCard

/-- THE SECOND FORM's CARD OF 'junctionlaw.Joins'. -/
def joinsUptoCard : Claim7 := { stood := { row := joinsUptoRow, standIns := [], harness := (true, "57fbab4d3b243a620b1d4e43db9fe6a0659da492c0425751ef40cbe333d1cb59"), looks := false }, kinds := [], alts := [], laidByText := true, laidKinds := [.data, .data, .data], laidTests := true, laidLooks := .later }
def JoinsUptoCardSaid : Prop := Claim7.holds Tryz.pinned (.plain (OpenSpec.upto joinsSpec)) joinsUptoCard

/-- THE SECOND FORM's CARD OF 'junctionkeep.Faithful'. -/
def faithfulUptoCard : Claim7 := { stood := { row := faithfulUptoRow, standIns := [], harness := (true, "57fbab4d3b243a620b1d4e43db9fe6a0659da492c0425751ef40cbe333d1cb59"), looks := false }, kinds := [], alts := [], laidByText := true, laidKinds := [.data, .data, .data], laidTests := true, laidLooks := .later }
def FaithfulUptoCardSaid : Prop := Claim7.holds Tryz.pinned (.plain (OpenSpec.upto faithfulSpec)) faithfulUptoCard

/-- THE SECOND FORM's CARD OF 'junctionkeep.Settled'. -/
def settledUptoCard : Claim7 := { stood := { row := settledUptoRow, standIns := [], harness := (true, "57fbab4d3b243a620b1d4e43db9fe6a0659da492c0425751ef40cbe333d1cb59"), looks := false }, kinds := [], alts := [], laidByText := true, laidKinds := [.data, .data, .data], laidTests := true, laidLooks := .later }
def SettledUptoCardSaid : Prop := Claim7.holds Tryz.pinned (.plain (OpenSpec.upto settledSpec)) settledUptoCard

/-- THE SECOND FORM's CARD OF 'junctionkeep.Apart'. -/
def apartUptoCard : Claim7 := { stood := { row := apartUptoRow, standIns := [], harness := (true, "57fbab4d3b243a620b1d4e43db9fe6a0659da492c0425751ef40cbe333d1cb59"), looks := false }, kinds := [], alts := [], laidByText := true, laidKinds := [.data, .data, .data], laidTests := true, laidLooks := .later }
def ApartUptoCardSaid : Prop := Claim7.holds Tryz.pinned (.plain (OpenSpec.upto apartSpec)) apartUptoCard

/-- THE SECOND FORM's CARD OF 'junctionlaw.All'. -/
def allUptoCard : Claim7 := { stood := { row := allUptoRow, standIns := [], harness := (true, "57fbab4d3b243a620b1d4e43db9fe6a0659da492c0425751ef40cbe333d1cb59"), looks := false }, kinds := [], alts := [], laidByText := true, laidKinds := [.data, .data, .data], laidTests := true, laidLooks := .later }
def AllUptoCardSaid : Prop := Claim7.holds Tryz.pinned (.plain (OpenSpec.upto allSpec)) allUptoCard
end Rows
end Go.Proofs.YtlonjggfnleolaaGreatDoor
