/-
  NARROWER THAN 'FOR EVERY INPUT', by the rows' own cells (each row's printed sentence says how): MacSums: laid · MacCuts: laid · MacLong: laid · PktTells: laid · PktWindow: laid · PktBack: laid · PktApart: laid · PeerPlays: laid · PeerOnce: laid · PeerRoams: laid.
  DERIVED. THE GIVEN ROWS OF THIS SEAT. 10 by the template 'for every input the law returns true; each argument reads behind the call as it read before'; 0 by the template 'total and deterministic' (their statements: YtmfkfpgomglplaaDoorTotals.lean).
  GIVEN WITH THE SEED: the statements are not yours to turn. If you find one false, say at which input.
  Laid BY PROGRAM, IN A SANDBOX (cutbox-rows.mjs): the forced cells as the released guide's own fill.sh prints them over the translation 0ca1cb972a5f9ff1… (all of the seat's roots in one cut). By AI agents, Wed Nov 11 2026. No macro, syntax, notation, axiom, sorry.
-/
import Derived.Test.YtmfkfpgomglplaaDoorChecked
import GoSem.Claim
import GoSem.ClaimJoined
import GoSem.ClaimMapViews
import Derived.JoinedTies
import Derived.KernelRfl
namespace Go.Proofs.YtmfkfpgomglplaaDoor
/- THE CELL 'sum', in the pinned program and in every row, IS THE sha256 OF THE DUMP (.gsa) THAT YtmfkfpgomglplaaDoorProg.lean LOADS. Nothing in Lean hashes anything: it is a label: what it is worth is what the hold of that sum in a sandbox is worth. -/
noncomputable def Tryd.pinned : Pinned := { name := "ytmfkfpgomglplaadoor", sum := "0ca1cb972a5f9ff1da1b450e2992917cb7b58128d5692388088aee562aaf2b8d", checked := Tryd.checked }
namespace Rows
def none {H : Type} : Left H := { results := [], args := [] }

/- WHAT THE LISTED PACKAGE-LEVEL VARIABLES READ AS WHEN THE CALL BEGINS. Each datum BY PROGRAM (the guide's laid-datum.mjs) off the statement by which the dump's own 'gosem.cut.vars' lays the variable. In a bare row this is a premise. The card (YtmfkfpgomglplaaDoorCards.lean) ties it to the program's text. -/
def laid_tickertape_mac_rounds {H : Type} : DataW H := .agg [.lit (.int .u32 1116352408), .lit (.int .u32 1899447441), .lit (.int .u32 3049323471), .lit (.int .u32 3921009573), .lit (.int .u32 961987163), .lit (.int .u32 1508970993), .lit (.int .u32 2453635748), .lit (.int .u32 2870763221), .lit (.int .u32 3624381080), .lit (.int .u32 310598401), .lit (.int .u32 607225278), .lit (.int .u32 1426881987), .lit (.int .u32 1925078388), .lit (.int .u32 2162078206), .lit (.int .u32 2614888103), .lit (.int .u32 3248222580), .lit (.int .u32 3835390401), .lit (.int .u32 4022224774), .lit (.int .u32 264347078), .lit (.int .u32 604807628), .lit (.int .u32 770255983), .lit (.int .u32 1249150122), .lit (.int .u32 1555081692), .lit (.int .u32 1996064986), .lit (.int .u32 2554220882), .lit (.int .u32 2821834349), .lit (.int .u32 2952996808), .lit (.int .u32 3210313671), .lit (.int .u32 3336571891), .lit (.int .u32 3584528711), .lit (.int .u32 113926993), .lit (.int .u32 338241895), .lit (.int .u32 666307205), .lit (.int .u32 773529912), .lit (.int .u32 1294757372), .lit (.int .u32 1396182291), .lit (.int .u32 1695183700), .lit (.int .u32 1986661051), .lit (.int .u32 2177026350), .lit (.int .u32 2456956037), .lit (.int .u32 2730485921), .lit (.int .u32 2820302411), .lit (.int .u32 3259730800), .lit (.int .u32 3345764771), .lit (.int .u32 3516065817), .lit (.int .u32 3600352804), .lit (.int .u32 4094571909), .lit (.int .u32 275423344), .lit (.int .u32 430227734), .lit (.int .u32 506948616), .lit (.int .u32 659060556), .lit (.int .u32 883997877), .lit (.int .u32 958139571), .lit (.int .u32 1322822218), .lit (.int .u32 1537002063), .lit (.int .u32 1747873779), .lit (.int .u32 1955562222), .lit (.int .u32 2024104815), .lit (.int .u32 2227730452), .lit (.int .u32 2361852424), .lit (.int .u32 2428436474), .lit (.int .u32 2756734187), .lit (.int .u32 3204031479), .lit (.int .u32 3329325298)]
def laid_tickertape_mac_beginning {H : Type} : DataW H := .agg [.lit (.int .u32 1779033703), .lit (.int .u32 3144134277), .lit (.int .u32 1013904242), .lit (.int .u32 2773480762), .lit (.int .u32 1359893119), .lit (.int .u32 2600822924), .lit (.int .u32 528734635), .lit (.int .u32 1541459225)]

/-- 'tiklaw4.MacSums': WHATEVER THE INPUT: true; the input reads as it did. -/
def macSumsSpec : ChangeSpec := { name := "macSums", fn := fun _ => fun
  | [d1, d2, d3] => { results := [.lit (.bool true)], args := [d1, d2, d3] }
  | _ => none }
def macSumsRow : OpenClaim := { program := "ytmfkfpgomglplaadoor", sum := "0ca1cb972a5f9ff1da1b450e2992917cb7b58128d5692388088aee562aaf2b8d", func := "tickertape/tiklaw4.MacSums", spec := "macSums", named := ["tickertape/mac.beginning", "tickertape/mac.rounds"], apart := false, laid := [("tickertape/mac.rounds", laid_tickertape_mac_rounds), ("tickertape/mac.beginning", laid_tickertape_mac_beginning)] }
def MacSumsSaid : Prop := macSumsRow.holds Tryd.pinned (OpenSpec.ofChange macSumsSpec)

/-- ITS FALSE NEIGHBOUR: 'it returns false'. Refute it at one input. -/
def macSumsWrong : ChangeSpec := { name := "macSums", fn := fun _ => fun
  | [d1, d2, d3] => { results := [.lit (.bool false)], args := [d1, d2, d3] }
  | _ => none }
def MacSumsWrongFalsely : Prop := macSumsRow.holds Tryd.pinned (OpenSpec.ofChange macSumsWrong)

/-- 'tiklaw4.MacCuts': WHATEVER THE INPUT: true; the input reads as it did. -/
def macCutsSpec : ChangeSpec := { name := "macCuts", fn := fun _ => fun
  | [d1, d2, d3, d4] => { results := [.lit (.bool true)], args := [d1, d2, d3, d4] }
  | _ => none }
def macCutsRow : OpenClaim := { program := "ytmfkfpgomglplaadoor", sum := "0ca1cb972a5f9ff1da1b450e2992917cb7b58128d5692388088aee562aaf2b8d", func := "tickertape/tiklaw4.MacCuts", spec := "macCuts", named := ["tickertape/mac.beginning", "tickertape/mac.rounds"], apart := false, laid := [("tickertape/mac.rounds", laid_tickertape_mac_rounds), ("tickertape/mac.beginning", laid_tickertape_mac_beginning)] }
def MacCutsSaid : Prop := macCutsRow.holds Tryd.pinned (OpenSpec.ofChange macCutsSpec)

/-- ITS FALSE NEIGHBOUR: 'it returns false'. Refute it at one input. -/
def macCutsWrong : ChangeSpec := { name := "macCuts", fn := fun _ => fun
  | [d1, d2, d3, d4] => { results := [.lit (.bool false)], args := [d1, d2, d3, d4] }
  | _ => none }
def MacCutsWrongFalsely : Prop := macCutsRow.holds Tryd.pinned (OpenSpec.ofChange macCutsWrong)

/-- 'tiklaw4.MacLong': WHATEVER THE INPUT: true; the input reads as it did. -/
def macLongSpec : ChangeSpec := { name := "macLong", fn := fun _ => fun
  | [d1, d2, d3, d4, d5] => { results := [.lit (.bool true)], args := [d1, d2, d3, d4, d5] }
  | _ => none }
def macLongRow : OpenClaim := { program := "ytmfkfpgomglplaadoor", sum := "0ca1cb972a5f9ff1da1b450e2992917cb7b58128d5692388088aee562aaf2b8d", func := "tickertape/tiklaw4.MacLong", spec := "macLong", named := ["tickertape/mac.beginning", "tickertape/mac.rounds"], apart := false, laid := [("tickertape/mac.rounds", laid_tickertape_mac_rounds), ("tickertape/mac.beginning", laid_tickertape_mac_beginning)] }
def MacLongSaid : Prop := macLongRow.holds Tryd.pinned (OpenSpec.ofChange macLongSpec)

/-- ITS FALSE NEIGHBOUR: 'it returns false'. Refute it at one input. -/
def macLongWrong : ChangeSpec := { name := "macLong", fn := fun _ => fun
  | [d1, d2, d3, d4, d5] => { results := [.lit (.bool false)], args := [d1, d2, d3, d4, d5] }
  | _ => none }
def MacLongWrongFalsely : Prop := macLongRow.holds Tryd.pinned (OpenSpec.ofChange macLongWrong)

/-- 'tiklaw25.PktTells': WHATEVER THE INPUT: true; the input reads as it did. -/
def pktTellsSpec : ChangeSpec := { name := "pktTells", fn := fun _ => fun
  | [d1, d2, d3, d4] => { results := [.lit (.bool true)], args := [d1, d2, d3, d4] }
  | _ => none }
def pktTellsRow : OpenClaim := { program := "ytmfkfpgomglplaadoor", sum := "0ca1cb972a5f9ff1da1b450e2992917cb7b58128d5692388088aee562aaf2b8d", func := "tickertape/tiklaw25.PktTells", spec := "pktTells", named := ["tickertape/mac.beginning", "tickertape/mac.rounds"], apart := false, laid := [("tickertape/mac.rounds", laid_tickertape_mac_rounds), ("tickertape/mac.beginning", laid_tickertape_mac_beginning)] }
def PktTellsSaid : Prop := pktTellsRow.holds Tryd.pinned (OpenSpec.ofChange pktTellsSpec)

/-- ITS FALSE NEIGHBOUR: 'it returns false'. Refute it at one input. -/
def pktTellsWrong : ChangeSpec := { name := "pktTells", fn := fun _ => fun
  | [d1, d2, d3, d4] => { results := [.lit (.bool false)], args := [d1, d2, d3, d4] }
  | _ => none }
def PktTellsWrongFalsely : Prop := pktTellsRow.holds Tryd.pinned (OpenSpec.ofChange pktTellsWrong)

/-- 'tiklaw25.PktWindow': WHATEVER THE INPUT: true; the input reads as it did. -/
def pktWindowSpec : ChangeSpec := { name := "pktWindow", fn := fun _ => fun
  | [d1, d2] => { results := [.lit (.bool true)], args := [d1, d2] }
  | _ => none }
def pktWindowRow : OpenClaim := { program := "ytmfkfpgomglplaadoor", sum := "0ca1cb972a5f9ff1da1b450e2992917cb7b58128d5692388088aee562aaf2b8d", func := "tickertape/tiklaw25.PktWindow", spec := "pktWindow", named := ["tickertape/mac.beginning", "tickertape/mac.rounds"], apart := false, laid := [("tickertape/mac.rounds", laid_tickertape_mac_rounds), ("tickertape/mac.beginning", laid_tickertape_mac_beginning)] }
def PktWindowSaid : Prop := pktWindowRow.holds Tryd.pinned (OpenSpec.ofChange pktWindowSpec)

/-- ITS FALSE NEIGHBOUR: 'it returns false'. Refute it at one input. -/
def pktWindowWrong : ChangeSpec := { name := "pktWindow", fn := fun _ => fun
  | [d1, d2] => { results := [.lit (.bool false)], args := [d1, d2] }
  | _ => none }
def PktWindowWrongFalsely : Prop := pktWindowRow.holds Tryd.pinned (OpenSpec.ofChange pktWindowWrong)

/-- 'tiklaw25.PktBack': WHATEVER THE INPUT: true; the input reads as it did. -/
def pktBackSpec : ChangeSpec := { name := "pktBack", fn := fun _ => fun
  | [d1, d2, d3, d4] => { results := [.lit (.bool true)], args := [d1, d2, d3, d4] }
  | _ => none }
def pktBackRow : OpenClaim := { program := "ytmfkfpgomglplaadoor", sum := "0ca1cb972a5f9ff1da1b450e2992917cb7b58128d5692388088aee562aaf2b8d", func := "tickertape/tiklaw25.PktBack", spec := "pktBack", named := ["tickertape/mac.beginning", "tickertape/mac.rounds"], apart := false, laid := [("tickertape/mac.rounds", laid_tickertape_mac_rounds), ("tickertape/mac.beginning", laid_tickertape_mac_beginning)] }
def PktBackSaid : Prop := pktBackRow.holds Tryd.pinned (OpenSpec.ofChange pktBackSpec)

/-- ITS FALSE NEIGHBOUR: 'it returns false'. Refute it at one input. -/
def pktBackWrong : ChangeSpec := { name := "pktBack", fn := fun _ => fun
  | [d1, d2, d3, d4] => { results := [.lit (.bool false)], args := [d1, d2, d3, d4] }
  | _ => none }
def PktBackWrongFalsely : Prop := pktBackRow.holds Tryd.pinned (OpenSpec.ofChange pktBackWrong)

/-- 'tiklaw25.PktApart': WHATEVER THE INPUT: true; the input reads as it did. -/
def pktApartSpec : ChangeSpec := { name := "pktApart", fn := fun _ => fun
  | [d1, d2, d3] => { results := [.lit (.bool true)], args := [d1, d2, d3] }
  | _ => none }
def pktApartRow : OpenClaim := { program := "ytmfkfpgomglplaadoor", sum := "0ca1cb972a5f9ff1da1b450e2992917cb7b58128d5692388088aee562aaf2b8d", func := "tickertape/tiklaw25.PktApart", spec := "pktApart", named := ["tickertape/mac.beginning", "tickertape/mac.rounds"], apart := false, laid := [("tickertape/mac.rounds", laid_tickertape_mac_rounds), ("tickertape/mac.beginning", laid_tickertape_mac_beginning)] }
def PktApartSaid : Prop := pktApartRow.holds Tryd.pinned (OpenSpec.ofChange pktApartSpec)

/-- ITS FALSE NEIGHBOUR: 'it returns false'. Refute it at one input. -/
def pktApartWrong : ChangeSpec := { name := "pktApart", fn := fun _ => fun
  | [d1, d2, d3] => { results := [.lit (.bool false)], args := [d1, d2, d3] }
  | _ => none }
def PktApartWrongFalsely : Prop := pktApartRow.holds Tryd.pinned (OpenSpec.ofChange pktApartWrong)

/-- 'tiklaw27.PeerPlays': WHATEVER THE INPUT: true; the input reads as it did. -/
def peerPlaysSpec : ChangeSpec := { name := "peerPlays", fn := fun _ => fun
  | [d1, d2, d3, d4, d5] => { results := [.lit (.bool true)], args := [d1, d2, d3, d4, d5] }
  | _ => none }
def peerPlaysRow : OpenClaim := { program := "ytmfkfpgomglplaadoor", sum := "0ca1cb972a5f9ff1da1b450e2992917cb7b58128d5692388088aee562aaf2b8d", func := "tickertape/tiklaw27.PeerPlays", spec := "peerPlays", named := ["tickertape/mac.beginning", "tickertape/mac.rounds"], apart := false, laid := [("tickertape/mac.rounds", laid_tickertape_mac_rounds), ("tickertape/mac.beginning", laid_tickertape_mac_beginning)] }
def PeerPlaysSaid : Prop := peerPlaysRow.holds Tryd.pinned (OpenSpec.ofChange peerPlaysSpec)

/-- ITS FALSE NEIGHBOUR: 'it returns false'. Refute it at one input. -/
def peerPlaysWrong : ChangeSpec := { name := "peerPlays", fn := fun _ => fun
  | [d1, d2, d3, d4, d5] => { results := [.lit (.bool false)], args := [d1, d2, d3, d4, d5] }
  | _ => none }
def PeerPlaysWrongFalsely : Prop := peerPlaysRow.holds Tryd.pinned (OpenSpec.ofChange peerPlaysWrong)

/-- 'tiklaw27.PeerOnce': WHATEVER THE INPUT: true; the input reads as it did. -/
def peerOnceSpec : ChangeSpec := { name := "peerOnce", fn := fun _ => fun
  | [d1, d2, d3, d4, d5] => { results := [.lit (.bool true)], args := [d1, d2, d3, d4, d5] }
  | _ => none }
def peerOnceRow : OpenClaim := { program := "ytmfkfpgomglplaadoor", sum := "0ca1cb972a5f9ff1da1b450e2992917cb7b58128d5692388088aee562aaf2b8d", func := "tickertape/tiklaw27.PeerOnce", spec := "peerOnce", named := ["tickertape/mac.beginning", "tickertape/mac.rounds"], apart := false, laid := [("tickertape/mac.rounds", laid_tickertape_mac_rounds), ("tickertape/mac.beginning", laid_tickertape_mac_beginning)] }
def PeerOnceSaid : Prop := peerOnceRow.holds Tryd.pinned (OpenSpec.ofChange peerOnceSpec)

/-- ITS FALSE NEIGHBOUR: 'it returns false'. Refute it at one input. -/
def peerOnceWrong : ChangeSpec := { name := "peerOnce", fn := fun _ => fun
  | [d1, d2, d3, d4, d5] => { results := [.lit (.bool false)], args := [d1, d2, d3, d4, d5] }
  | _ => none }
def PeerOnceWrongFalsely : Prop := peerOnceRow.holds Tryd.pinned (OpenSpec.ofChange peerOnceWrong)

/-- 'tiklaw27.PeerRoams': WHATEVER THE INPUT: true; the input reads as it did. -/
def peerRoamsSpec : ChangeSpec := { name := "peerRoams", fn := fun _ => fun
  | [d1, d2, d3] => { results := [.lit (.bool true)], args := [d1, d2, d3] }
  | _ => none }
def peerRoamsRow : OpenClaim := { program := "ytmfkfpgomglplaadoor", sum := "0ca1cb972a5f9ff1da1b450e2992917cb7b58128d5692388088aee562aaf2b8d", func := "tickertape/tiklaw27.PeerRoams", spec := "peerRoams", named := ["tickertape/mac.beginning", "tickertape/mac.rounds"], apart := false, laid := [("tickertape/mac.rounds", laid_tickertape_mac_rounds), ("tickertape/mac.beginning", laid_tickertape_mac_beginning)] }
def PeerRoamsSaid : Prop := peerRoamsRow.holds Tryd.pinned (OpenSpec.ofChange peerRoamsSpec)

/-- ITS FALSE NEIGHBOUR: 'it returns false'. Refute it at one input. -/
def peerRoamsWrong : ChangeSpec := { name := "peerRoams", fn := fun _ => fun
  | [d1, d2, d3] => { results := [.lit (.bool false)], args := [d1, d2, d3] }
  | _ => none }
def PeerRoamsWrongFalsely : Prop := peerRoamsRow.holds Tryd.pinned (OpenSpec.ofChange peerRoamsWrong)

/- THE SECOND FORM. 'bulk': how many values and letters a reading holds, each counted each time it is reached (what is shared counts as often as it is met; a slice's spare places count too). A statement '..UptoSaid' is the law's where the arguments, and the package variables that the reading takes, are together of bulk at most 1048576: NARROWER than '..Said'. Prove '..Said' where nothing that the law and all that it calls make is longer than what came in: it says more and counts as full. Else prove '..UptoSaid'. A law counts once. -/
mutual
def uptoBulk {H : Type} : DataW H → Nat
  | .lit (.string bytes) => bytes.length + 1
  | .lit _ => 1
  | .nil => 1
  | .ptr d => uptoBulk d + 1
  | .slice elems spare => uptoBulkAll elems + uptoBulkAll spare + 1
  | .agg parts => uptoBulkAll parts + 1
  | .iface _ d => uptoBulk d + 1
  | .map entries => uptoBulkEntries entries + 1
  | .held _ => 1
def uptoBulkAll {H : Type} : List (DataW H) → Nat
  | [] => 0
  | d :: r => uptoBulk d + uptoBulkAll r
def uptoBulkEntries {H : Type} : List (Lit × DataW H) → Nat
  | [] => 0
  | x :: r => uptoBulkEntry x + uptoBulkEntries r
def uptoBulkEntry {H : Type} : Lit × DataW H → Nat
  | (.string bytes, d) => bytes.length + uptoBulk d + 1
  | (_, d) => uptoBulk d + 1
 end
def uptoSmall : (H : Type) → List (DataW H) → Bool := fun _ ds => decide (uptoBulkAll ds ≤ 1048576)
def OpenSpec.upto (s : _root_.Go.ChangeSpec) : _root_.Go.OpenSpec := { _root_.Go.OpenSpec.ofChange s with cond := some uptoSmall }

/-- 'tiklaw4.MacSums', WHERE WHAT IT READS IS OF BULK AT MOST 1048576: true; the input reads as it did. -/
def macSumsUptoRow : OpenClaim := { program := "ytmfkfpgomglplaadoor", sum := "0ca1cb972a5f9ff1da1b450e2992917cb7b58128d5692388088aee562aaf2b8d", func := "tickertape/tiklaw4.MacSums", spec := "macSums", named := ["tickertape/mac.beginning", "tickertape/mac.rounds"], apart := false, laid := [("tickertape/mac.rounds", laid_tickertape_mac_rounds), ("tickertape/mac.beginning", laid_tickertape_mac_beginning)], narrowed := true }
def MacSumsUptoSaid : Prop := macSumsUptoRow.holds Tryd.pinned (OpenSpec.upto macSumsSpec)

/-- 'tiklaw4.MacCuts', WHERE WHAT IT READS IS OF BULK AT MOST 1048576: true; the input reads as it did. -/
def macCutsUptoRow : OpenClaim := { program := "ytmfkfpgomglplaadoor", sum := "0ca1cb972a5f9ff1da1b450e2992917cb7b58128d5692388088aee562aaf2b8d", func := "tickertape/tiklaw4.MacCuts", spec := "macCuts", named := ["tickertape/mac.beginning", "tickertape/mac.rounds"], apart := false, laid := [("tickertape/mac.rounds", laid_tickertape_mac_rounds), ("tickertape/mac.beginning", laid_tickertape_mac_beginning)], narrowed := true }
def MacCutsUptoSaid : Prop := macCutsUptoRow.holds Tryd.pinned (OpenSpec.upto macCutsSpec)

/-- 'tiklaw4.MacLong', WHERE WHAT IT READS IS OF BULK AT MOST 1048576: true; the input reads as it did. -/
def macLongUptoRow : OpenClaim := { program := "ytmfkfpgomglplaadoor", sum := "0ca1cb972a5f9ff1da1b450e2992917cb7b58128d5692388088aee562aaf2b8d", func := "tickertape/tiklaw4.MacLong", spec := "macLong", named := ["tickertape/mac.beginning", "tickertape/mac.rounds"], apart := false, laid := [("tickertape/mac.rounds", laid_tickertape_mac_rounds), ("tickertape/mac.beginning", laid_tickertape_mac_beginning)], narrowed := true }
def MacLongUptoSaid : Prop := macLongUptoRow.holds Tryd.pinned (OpenSpec.upto macLongSpec)

/-- 'tiklaw25.PktTells', WHERE WHAT IT READS IS OF BULK AT MOST 1048576: true; the input reads as it did. -/
def pktTellsUptoRow : OpenClaim := { program := "ytmfkfpgomglplaadoor", sum := "0ca1cb972a5f9ff1da1b450e2992917cb7b58128d5692388088aee562aaf2b8d", func := "tickertape/tiklaw25.PktTells", spec := "pktTells", named := ["tickertape/mac.beginning", "tickertape/mac.rounds"], apart := false, laid := [("tickertape/mac.rounds", laid_tickertape_mac_rounds), ("tickertape/mac.beginning", laid_tickertape_mac_beginning)], narrowed := true }
def PktTellsUptoSaid : Prop := pktTellsUptoRow.holds Tryd.pinned (OpenSpec.upto pktTellsSpec)

/-- 'tiklaw25.PktWindow', WHERE WHAT IT READS IS OF BULK AT MOST 1048576: true; the input reads as it did. -/
def pktWindowUptoRow : OpenClaim := { program := "ytmfkfpgomglplaadoor", sum := "0ca1cb972a5f9ff1da1b450e2992917cb7b58128d5692388088aee562aaf2b8d", func := "tickertape/tiklaw25.PktWindow", spec := "pktWindow", named := ["tickertape/mac.beginning", "tickertape/mac.rounds"], apart := false, laid := [("tickertape/mac.rounds", laid_tickertape_mac_rounds), ("tickertape/mac.beginning", laid_tickertape_mac_beginning)], narrowed := true }
def PktWindowUptoSaid : Prop := pktWindowUptoRow.holds Tryd.pinned (OpenSpec.upto pktWindowSpec)

/-- 'tiklaw25.PktBack', WHERE WHAT IT READS IS OF BULK AT MOST 1048576: true; the input reads as it did. -/
def pktBackUptoRow : OpenClaim := { program := "ytmfkfpgomglplaadoor", sum := "0ca1cb972a5f9ff1da1b450e2992917cb7b58128d5692388088aee562aaf2b8d", func := "tickertape/tiklaw25.PktBack", spec := "pktBack", named := ["tickertape/mac.beginning", "tickertape/mac.rounds"], apart := false, laid := [("tickertape/mac.rounds", laid_tickertape_mac_rounds), ("tickertape/mac.beginning", laid_tickertape_mac_beginning)], narrowed := true }
def PktBackUptoSaid : Prop := pktBackUptoRow.holds Tryd.pinned (OpenSpec.upto pktBackSpec)

/-- 'tiklaw25.PktApart', WHERE WHAT IT READS IS OF BULK AT MOST 1048576: true; the input reads as it did. -/
def pktApartUptoRow : OpenClaim := { program := "ytmfkfpgomglplaadoor", sum := "0ca1cb972a5f9ff1da1b450e2992917cb7b58128d5692388088aee562aaf2b8d", func := "tickertape/tiklaw25.PktApart", spec := "pktApart", named := ["tickertape/mac.beginning", "tickertape/mac.rounds"], apart := false, laid := [("tickertape/mac.rounds", laid_tickertape_mac_rounds), ("tickertape/mac.beginning", laid_tickertape_mac_beginning)], narrowed := true }
def PktApartUptoSaid : Prop := pktApartUptoRow.holds Tryd.pinned (OpenSpec.upto pktApartSpec)

/-- 'tiklaw27.PeerPlays', WHERE WHAT IT READS IS OF BULK AT MOST 1048576: true; the input reads as it did. -/
def peerPlaysUptoRow : OpenClaim := { program := "ytmfkfpgomglplaadoor", sum := "0ca1cb972a5f9ff1da1b450e2992917cb7b58128d5692388088aee562aaf2b8d", func := "tickertape/tiklaw27.PeerPlays", spec := "peerPlays", named := ["tickertape/mac.beginning", "tickertape/mac.rounds"], apart := false, laid := [("tickertape/mac.rounds", laid_tickertape_mac_rounds), ("tickertape/mac.beginning", laid_tickertape_mac_beginning)], narrowed := true }
def PeerPlaysUptoSaid : Prop := peerPlaysUptoRow.holds Tryd.pinned (OpenSpec.upto peerPlaysSpec)

/-- 'tiklaw27.PeerOnce', WHERE WHAT IT READS IS OF BULK AT MOST 1048576: true; the input reads as it did. -/
def peerOnceUptoRow : OpenClaim := { program := "ytmfkfpgomglplaadoor", sum := "0ca1cb972a5f9ff1da1b450e2992917cb7b58128d5692388088aee562aaf2b8d", func := "tickertape/tiklaw27.PeerOnce", spec := "peerOnce", named := ["tickertape/mac.beginning", "tickertape/mac.rounds"], apart := false, laid := [("tickertape/mac.rounds", laid_tickertape_mac_rounds), ("tickertape/mac.beginning", laid_tickertape_mac_beginning)], narrowed := true }
def PeerOnceUptoSaid : Prop := peerOnceUptoRow.holds Tryd.pinned (OpenSpec.upto peerOnceSpec)

/-- 'tiklaw27.PeerRoams', WHERE WHAT IT READS IS OF BULK AT MOST 1048576: true; the input reads as it did. -/
def peerRoamsUptoRow : OpenClaim := { program := "ytmfkfpgomglplaadoor", sum := "0ca1cb972a5f9ff1da1b450e2992917cb7b58128d5692388088aee562aaf2b8d", func := "tickertape/tiklaw27.PeerRoams", spec := "peerRoams", named := ["tickertape/mac.beginning", "tickertape/mac.rounds"], apart := false, laid := [("tickertape/mac.rounds", laid_tickertape_mac_rounds), ("tickertape/mac.beginning", laid_tickertape_mac_beginning)], narrowed := true }
def PeerRoamsUptoSaid : Prop := peerRoamsUptoRow.holds Tryd.pinned (OpenSpec.upto peerRoamsSpec)

end Rows
end Go.Proofs.YtmfkfpgomglplaaDoor
