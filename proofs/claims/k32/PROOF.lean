import PyProof.Rows.All
import Wide.All
import OpenK.AllK
import Wide.FinOn
import KE.KStateDown
import Lean
import HandS.ForMost
import HandS.More
import HandS.WordsExc
import HandS.IsInst
import HandS.Defaults
import HandS.MakeKwOnly
import HandS.Walk
import HandS.Zip
import HandS.Replace
import HandS.Style
import HandS.Flow
import HandS.Strs
import HandS.Wide
import HandS.WideBits
import HandS.Head0
import HandS.Head1
import HandS.Head2
import HandS.HeadEnd
import HandS.HeadHook1
import HandS.HeadHook2
import HandS.RaiseMore
import HandS.Deep
import HandS.TupAny
import KE.GoesMore
import HandS.SetFor
import PyProof.Rows.SetFrom
import PyProof.Rows.SortShell
import PyProof.Rows.SortStr
import PyProof.Rows.SortShellK
import KE.GoesNew
import KE.GoesEnum
import HandS.TupMul
import HandS.Star
import PyProof.Rows.StrInSeq3
import HandS.ExcInit
import HandS.ExcIs
import HandS.ExcField
import KE.KExcIs
import HandS.ExcCtx
import HandS.SuiteRaise
import HandS.RaiseFrom
import HandS.ExcInitHot
import HandS.CallSlots
import HandS.Conv
import HandS.Small
import HandS.DictComp
import HandS.ListItems
import HandS.Finally
import HandS.TryMany
import HandS.FStr
import HandS.NoneIn
import PyProof.DictUpdate
import KE.KItemsList
import PyProof.EnumMake
import PyProof.ListNew
import PySem.Challenge.RW_startlog_k32_machines_refused
set_option Elab.async false
set_option synthInstance.maxHeartbeats 0
set_option synthInstance.maxSize 100000
set_option linter.all false
set_option maxRecDepth 100000
set_option maxHeartbeats 4000000
namespace Sl
open PySem PySem.Spec PyProof.Rows L2
section
variable {P : Program} {w : World} {K : PySem.W.Frag} {mg : Str → Option Value} {base : Heap}
def tupD (K : PySem.W.Frag) (x : Str) (vs : List He.Dv) : Bool := He.tupB K x vs && (match K.lookup (He.ga K x) with
  | some ⟨_, none, _, _⟩ => true
  | _ => false)
def obsE (n : Nat) (fa : List He.Fa) (fn : List He.DefD) (ex : PySem.W.Frag → Bool) (g : Addr → Option Obj) : He.AlD × Bool := (He.obsD fa fn (He.frG g (He.asD g n)), ex (He.frG g (He.asD g n)))
def hookE (n : Nat) (fa : List He.Fa) (fn : List He.DefD) (ex : PySem.W.Frag → Bool) : PySem.W.Hook where
  α := He.AlD × Bool
  obs := fun s => obsE n fa fn ex s.heap.get?
  val := fun _ => (He.valD fn, true)
  says := fun _ h => ∃ K : PySem.W.Frag, K.In h ∧ He.SaysD fa fn K ∧ ex K = true
  of := fun _ _ e => ⟨_, He.frG_in, congrArg Prod.fst e, congrArg Prod.snd e⟩
  keeps := fun _ _ _ ⟨K, hK, c⟩ k => ⟨K, PySem.W.Frag.In.keeps hK k, c⟩
def oexB (K : PySem.W.Frag) (C : Addr) : Bool := match K.lookup C with
  | some ⟨.type "type", _, .cls cd, sl⟩ => (match cd.mro, sl.toList with
    | .ref D :: bm, [_, _, _, _, some (.builtin n), _] => (D == C) && ((n == "ValueError.__new__") && ((!cd.hasDel) && (cd.hasDict && PySem.HandSPX.refsVE bm)))
    | _, _ => false)
  | _ => false
def eclB (K : PySem.W.Frag) (C fI : Addr) : Bool := oexB K C && (He.eqO (PySem.W.findIn K (.ref C) "__setattr__") (some (some (.builtin "object.__setattr__"))) && (decide (PySem.W.subIn K (.ref C) (.type "BaseException") = some true) && (decide (PySem.W.typeIn K (.ref C) = some (.type "type")) && (PySem.W.keepIn K (.ref C) &&
  (He.eqO (PySem.W.findIn K (.ref C) "__getattribute__") (some (some (.builtin "BaseException.__getattribute__"))) && (He.eqO (PySem.W.findIn K (.ref C) "__getattr__") (some none) && (PySem.W.hasDictIn K C && (He.eqO (PySem.W.findIn K (.ref C) "__class__") (some (some (.builtin "object.__class__"))) &&
  (He.eqO (PySem.W.specialIn K (.builtin "object.__class__") "__get__") (some (some (.builtin "getset_descriptor.__get__"))) && (decide (PySem.W.takesIn K (.builtin "object.__class__") = some true) && (decide (PySem.W.mroIn K C (.type "object") = some true) && (He.eqO (PySem.W.findIn K (.ref C) "what") (some none) &&
  (He.eqO (PySem.W.findIn K (.ref C) "__init__") (some (some (.ref fI))) && decide (PySem.W.typeIn K (.ref fI) = some (.type "function")))))))))))))))
def errOk (K : PySem.W.Frag) (root : Str) (cs : List Str) : Bool := cs.all fun c => eclB K (He.ga K c) (He.ma K (He.ga K root) "__init__") && (decide (PySem.W.kitOne K (.ref (He.ga K c)) (.type "ValueError") = some true) &&
  cs.all fun e => decide (PySem.W.kitOne K (.ref (He.ga K c)) (.ref (He.ga K e)) = some (decide (e = c) || decide (e = root))) && decide (PySem.W.subIn K (.ref (He.ga K c)) (.ref (He.ga K e)) = some (decide (e = c) || decide (e = root))))
def neD (K : PySem.W.Frag) (c : Str) : Bool := (PySem.W.findIn K (.ref (He.ga K c)) "__ne__" == some (some (.builtin "object.__ne__"))) && (PySem.W.subIn K (.ref (He.ga K c)) (.type "object") == some true) &&
  (PySem.W.findIn K (.ref (He.ga K c)) "__class__" == some (some (.builtin "object.__class__"))) && (PySem.W.specialIn K (.builtin "object.__class__") "__get__" == some (some (.builtin "getset_descriptor.__get__"))) &&
  (PySem.W.takesIn K (.builtin "object.__class__") == some true) && (PySem.W.mroIn K (He.ga K c) (.type "object") == some true)
def kda (K : PySem.W.Frag) (p : Str × Option Str) (x : Str) : Addr := match K.lookup (He.fAd K p) with
  | some o => (match o.data with
    | .func fd => (match fd.kwdefaults with
      | .ref D => (match PySem.W.nsIn K D x with
        | some (some (.ref a)) => a
        | _ => 0)
      | _ => 0)
    | _ => 0)
  | none => 0
def tupA (K : PySem.W.Frag) (a : Addr) : Bool := match K.lookup a with
  | some o => (match o.cls with
    | .type c => decide (c = "tuple")
    | _ => false) && (match o.data with
    | .seq its _ => decide (its.size = 0)
    | _ => false)
  | none => false
def IK : List String := ["NoneType", "bool", "int", "str", "list", "tuple"]
def isoD (K : PySem.W.Frag) (c : Str) : Bool := IK.all fun s => PySem.W.kitOne K (.type s) (.ref (He.ga K c)) == some false
def top (i : Nat) : Stmt := PySem.Challenge.pw_startlog_k32_machines_refused.main.body.getD i (.Pass ⟨0, 0, 0, 0⟩)
abbrev sWall : Stmt := top 0
abbrev sIsNumber : Stmt := top 10
abbrev sIsWithin : Stmt := top 11
abbrev sCommonDivisor : Stmt := top 12
abbrev sMeasure : Stmt := top 22
abbrev sIsName : Stmt := top 27
abbrev sNameNumber : Stmt := top 28
abbrev sRowNumber : Stmt := top 31
abbrev sIsPlacedBody : Stmt := top 35
abbrev sAreLoads : Stmt := top 36
abbrev sAreLies : Stmt := top 37
abbrev sTrueNotes : Stmt := top 38
abbrev sIsWidth : Stmt := top 43
abbrev sIsFactor : Stmt := top 44
abbrev sBehindRow : Stmt := top 47
abbrev sAreHands : Stmt := top 51
abbrev sLBox : Stmt := top 54
abbrev sLTake : Stmt := top 55
abbrev sLPick : Stmt := top 56
abbrev sLFolded : Stmt := top 57
abbrev sLNames : Stmt := top 58
abbrev sLSame : Stmt := top 59
abbrev sLNameNumber : Stmt := top 60
abbrev sLRowNumber : Stmt := top 61
abbrev sLMeasure : Stmt := top 62
abbrev sLShares : Stmt := top 63
abbrev sLHow : Stmt := top 64
abbrev sLMixed : Stmt := top 65
abbrev sLReplay : Stmt := top 66
abbrev sLHandRows : Stmt := top 67
abbrev sLStartRows : Stmt := top 68
abbrev sLHands : Stmt := top 69
abbrev sLMadeHand : Stmt := top 70
abbrev sLWorld : Stmt := top 71
abbrev sLMade : Stmt := top 72
abbrev sLFlat : Stmt := top 73
abbrev sLStands : Stmt := top 74
abbrev sLTold : Stmt := top 75
abbrev sLTurned : Stmt := top 76
abbrev sLBadHands : Stmt := top 77
abbrev sLRight : Stmt := top 78
abbrev sLaw : Stmt := top 79
abbrev sHandInit : Stmt := inClass (top 39) 0
abbrev sHandNotes : Stmt := inClass (top 39) 1
abbrev sHandEq : Stmt := inClass (top 39) 2
abbrev sHandStr : Stmt := inClass (top 39) 3
abbrev sMixingInit : Stmt := inClass (top 45) 0
abbrev sMixingBegin : Stmt := inClass (top 45) 1
abbrev sMixingMixed : Stmt := inClass (top 45) 2
abbrev sMixingEq : Stmt := inClass (top 45) 5
abbrev sMixingRepr : Stmt := inClass (top 45) 6
abbrev sMixingStr : Stmt := inClass (top 45) 7
abbrev sMachineInit : Stmt := inClass (top 52) 0
abbrev sMachineClearBoards : Stmt := inClass (top 52) 1
abbrev sMachineStart : Stmt := inClass (top 52) 2
abbrev sMachineNoteRow : Stmt := inClass (top 52) 3
abbrev sMachineRefuseUnless : Stmt := inClass (top 52) 4
abbrev sMachineRefuseUnlessBoard : Stmt := inClass (top 52) 5
abbrev sMachineStep : Stmt := inClass (top 52) 6
abbrev sMachineLate : Stmt := inClass (top 52) 7
abbrev sMachineReset : Stmt := inClass (top 52) 8
abbrev sMachineTurn : Stmt := inClass (top 52) 9
abbrev sMachineState : Stmt := inClass (top 52) 10
abbrev sMachineStarts : Stmt := inClass (top 52) 11
abbrev sMachineLog : Stmt := inClass (top 52) 12
abbrev sMachineBoards : Stmt := inClass (top 52) 13
abbrev sStartErrorInit : Stmt := inClass (top 2) 0
def ERRS : List Str := ["StartError", "BadMixing", "NoBoard", "BadHand", "BadMachine", "NotYet", "Fixed"]
def ddWall : He.DefD := ⟨("_wall", none), "_wall", "_wall", defArgs sWall, defBody sWall, defScope sWall, [], []⟩
def ddIsNumber : He.DefD := ⟨("is_number", none), "is_number", "is_number", defArgs sIsNumber, defBody sIsNumber, defScope sIsNumber, [], []⟩
def ddIsWithin : He.DefD := ⟨("is_within", none), "is_within", "is_within", defArgs sIsWithin, defBody sIsWithin, defScope sIsWithin, [], []⟩
def ddCommonDivisor : He.DefD := ⟨("common_divisor", none), "common_divisor", "common_divisor", defArgs sCommonDivisor, defBody sCommonDivisor, defScope sCommonDivisor, [], []⟩
def ddMeasure : He.DefD := ⟨("measure", none), "measure", "measure", defArgs sMeasure, defBody sMeasure, defScope sMeasure, [], []⟩
def ddIsName : He.DefD := ⟨("is_name", none), "is_name", "is_name", defArgs sIsName, defBody sIsName, defScope sIsName, [], []⟩
def ddNameNumber : He.DefD := ⟨("name_number", none), "name_number", "name_number", defArgs sNameNumber, defBody sNameNumber, defScope sNameNumber, [], []⟩
def ddRowNumber : He.DefD := ⟨("row_number", none), "row_number", "row_number", defArgs sRowNumber, defBody sRowNumber, defScope sRowNumber, [], []⟩
def ddIsPlacedBody : He.DefD := ⟨("is_placed_body", none), "is_placed_body", "is_placed_body", defArgs sIsPlacedBody, defBody sIsPlacedBody, defScope sIsPlacedBody, [], []⟩
def ddAreLoads : He.DefD := ⟨("are_loads", none), "are_loads", "are_loads", defArgs sAreLoads, defBody sAreLoads, defScope sAreLoads, [], []⟩
def ddAreLies : He.DefD := ⟨("are_lies", none), "are_lies", "are_lies", defArgs sAreLies, defBody sAreLies, defScope sAreLies, [], []⟩
def ddTrueNotes : He.DefD := ⟨("true_notes", none), "true_notes", "true_notes", defArgs sTrueNotes, defBody sTrueNotes, defScope sTrueNotes, [], []⟩
def ddIsWidth : He.DefD := ⟨("is_width", none), "is_width", "is_width", defArgs sIsWidth, defBody sIsWidth, defScope sIsWidth, [], []⟩
def ddIsFactor : He.DefD := ⟨("is_factor", none), "is_factor", "is_factor", defArgs sIsFactor, defBody sIsFactor, defScope sIsFactor, [], []⟩
def ddBehindRow : He.DefD := ⟨("behind_row", none), "behind_row", "behind_row", defArgs sBehindRow, defBody sBehindRow, defScope sBehindRow, [], []⟩
def ddAreHands : He.DefD := ⟨("are_hands", none), "are_hands", "are_hands", defArgs sAreHands, defBody sAreHands, defScope sAreHands, [], []⟩
def ddLBox : He.DefD := ⟨("_law_box", none), "_law_box", "_law_box", defArgs sLBox, defBody sLBox, defScope sLBox, [], []⟩
def ddLTake : He.DefD := ⟨("_law_take", none), "_law_take", "_law_take", defArgs sLTake, defBody sLTake, defScope sLTake, [], []⟩
def ddLPick : He.DefD := ⟨("_law_pick", none), "_law_pick", "_law_pick", defArgs sLPick, defBody sLPick, defScope sLPick, [], []⟩
def ddLFolded : He.DefD := ⟨("_law_folded", none), "_law_folded", "_law_folded", defArgs sLFolded, defBody sLFolded, defScope sLFolded, [], []⟩
def ddLNames : He.DefD := ⟨("_law_names", none), "_law_names", "_law_names", defArgs sLNames, defBody sLNames, defScope sLNames, [], []⟩
def ddLSame : He.DefD := ⟨("_law_same", none), "_law_same", "_law_same", defArgs sLSame, defBody sLSame, defScope sLSame, [], []⟩
def ddLNameNumber : He.DefD := ⟨("_law_name_number", none), "_law_name_number", "_law_name_number", defArgs sLNameNumber, defBody sLNameNumber, defScope sLNameNumber, [], []⟩
def ddLRowNumber : He.DefD := ⟨("_law_row_number", none), "_law_row_number", "_law_row_number", defArgs sLRowNumber, defBody sLRowNumber, defScope sLRowNumber, [], []⟩
def ddLMeasure : He.DefD := ⟨("_law_measure", none), "_law_measure", "_law_measure", defArgs sLMeasure, defBody sLMeasure, defScope sLMeasure, [], []⟩
def ddLShares : He.DefD := ⟨("_law_shares", none), "_law_shares", "_law_shares", defArgs sLShares, defBody sLShares, defScope sLShares, [], []⟩
def ddLHow : He.DefD := ⟨("_law_how", none), "_law_how", "_law_how", defArgs sLHow, defBody sLHow, defScope sLHow, [], []⟩
def ddLMixed : He.DefD := ⟨("_law_mixed", none), "_law_mixed", "_law_mixed", defArgs sLMixed, defBody sLMixed, defScope sLMixed, [], []⟩
def ddLReplay : He.DefD := ⟨("_law_replay", none), "_law_replay", "_law_replay", defArgs sLReplay, defBody sLReplay, defScope sLReplay, [], []⟩
def ddLHandRows : He.DefD := ⟨("_law_hand_rows", none), "_law_hand_rows", "_law_hand_rows", defArgs sLHandRows, defBody sLHandRows, defScope sLHandRows, [], []⟩
def ddLStartRows : He.DefD := ⟨("_law_start_rows", none), "_law_start_rows", "_law_start_rows", defArgs sLStartRows, defBody sLStartRows, defScope sLStartRows, [], []⟩
def ddLHands : He.DefD := ⟨("_law_hands", none), "_law_hands", "_law_hands", defArgs sLHands, defBody sLHands, defScope sLHands, [], []⟩
def ddLMadeHand : He.DefD := ⟨("_law_made_hand", none), "_law_made_hand", "_law_made_hand", defArgs sLMadeHand, defBody sLMadeHand, defScope sLMadeHand, [], []⟩
def ddLWorld : He.DefD := ⟨("_law_world", none), "_law_world", "_law_world", defArgs sLWorld, defBody sLWorld, defScope sLWorld, [], []⟩
def ddLMade : He.DefD := ⟨("_law_made", none), "_law_made", "_law_made", defArgs sLMade, defBody sLMade, defScope sLMade, [], []⟩
def ddLFlat : He.DefD := ⟨("_law_flat", none), "_law_flat", "_law_flat", defArgs sLFlat, defBody sLFlat, defScope sLFlat, [], []⟩
def ddLStands : He.DefD := ⟨("_law_stands", none), "_law_stands", "_law_stands", defArgs sLStands, defBody sLStands, defScope sLStands, [], []⟩
def ddLTold : He.DefD := ⟨("_law_told", none), "_law_told", "_law_told", defArgs sLTold, defBody sLTold, defScope sLTold, [], []⟩
def ddLTurned : He.DefD := ⟨("_law_turned", none), "_law_turned", "_law_turned", defArgs sLTurned, defBody sLTurned, defScope sLTurned, [], []⟩
def ddLBadHands : He.DefD := ⟨("_law_bad_hands", none), "_law_bad_hands", "_law_bad_hands", defArgs sLBadHands, defBody sLBadHands, defScope sLBadHands, [], []⟩
def ddLRight : He.DefD := ⟨("_law_right", none), "_law_right", "_law_right", defArgs sLRight, defBody sLRight, defScope sLRight, [], []⟩
def ddLaw : He.DefD := ⟨("law", none), "law", "law", defArgs sLaw, defBody sLaw, defScope sLaw, [], []⟩
def ddHandInit : He.DefD := ⟨("Hand", some "__init__"), "__init__", "Hand.__init__", defArgs sHandInit, defBody sHandInit, defScope sHandInit, [], [("loads", .adr fun K => kda K ("Hand", some "__init__") "loads"), ("lies", .adr fun K => kda K ("Hand", some "__init__") "lies")]⟩
def ddHandNotes : He.DefD := ⟨("Hand", some "notes"), "notes", "Hand.notes", defArgs sHandNotes, defBody sHandNotes, defScope sHandNotes, [], []⟩
def ddHandEq : He.DefD := ⟨("Hand", some "__eq__"), "__eq__", "Hand.__eq__", defArgs sHandEq, defBody sHandEq, defScope sHandEq, [], []⟩
def ddHandStr : He.DefD := ⟨("Hand", some "__str__"), "__str__", "Hand.__str__", defArgs sHandStr, defBody sHandStr, defScope sHandStr, [], []⟩
def ddMixingInit : He.DefD := ⟨("Mixing", some "__init__"), "__init__", "Mixing.__init__", defArgs sMixingInit, defBody sMixingInit, defScope sMixingInit, [.non], [("factor", .int 7919)]⟩
def ddMixingBegin : He.DefD := ⟨("Mixing", some "begin"), "begin", "Mixing.begin", defArgs sMixingBegin, defBody sMixingBegin, defScope sMixingBegin, [], [("reset", .bl false)]⟩
def ddMixingMixed : He.DefD := ⟨("Mixing", some "mixed"), "mixed", "Mixing.mixed", defArgs sMixingMixed, defBody sMixingMixed, defScope sMixingMixed, [], []⟩
def ddMixingEq : He.DefD := ⟨("Mixing", some "__eq__"), "__eq__", "Mixing.__eq__", defArgs sMixingEq, defBody sMixingEq, defScope sMixingEq, [], []⟩
def ddMixingRepr : He.DefD := ⟨("Mixing", some "__repr__"), "__repr__", "Mixing.__repr__", defArgs sMixingRepr, defBody sMixingRepr, defScope sMixingRepr, [], []⟩
def ddMixingStr : He.DefD := ⟨("Mixing", some "__str__"), "__str__", "Mixing.__str__", defArgs sMixingStr, defBody sMixingStr, defScope sMixingStr, [], []⟩
def ddMachineInit : He.DefD := ⟨("Machine", some "__init__"), "__init__", "Machine.__init__", defArgs sMachineInit, defBody sMachineInit, defScope sMachineInit, [], [("mixing", .non), ("many", .int 4), ("fixed", .int 2)]⟩
def ddMachineClearBoards : He.DefD := ⟨("Machine", some "clear_boards"), "clear_boards", "Machine.clear_boards", defArgs sMachineClearBoards, defBody sMachineClearBoards, defScope sMachineClearBoards, [], []⟩
def ddMachineStart : He.DefD := ⟨("Machine", some "start"), "start", "Machine.start", defArgs sMachineStart, defBody sMachineStart, defScope sMachineStart, [], []⟩
def ddMachineNoteRow : He.DefD := ⟨("Machine", some "note_row"), "note_row", "Machine.note_row", defArgs sMachineNoteRow, defBody sMachineNoteRow, defScope sMachineNoteRow, [], []⟩
def ddMachineRefuseUnless : He.DefD := ⟨("Machine", some "refuse_unless"), "refuse_unless", "Machine.refuse_unless", defArgs sMachineRefuseUnless, defBody sMachineRefuseUnless, defScope sMachineRefuseUnless, [], []⟩
def ddMachineRefuseUnlessBoard : He.DefD := ⟨("Machine", some "refuse_unless_board"), "refuse_unless_board", "Machine.refuse_unless_board", defArgs sMachineRefuseUnlessBoard, defBody sMachineRefuseUnlessBoard, defScope sMachineRefuseUnlessBoard, [], []⟩
def ddMachineStep : He.DefD := ⟨("Machine", some "step"), "step", "Machine.step", defArgs sMachineStep, defBody sMachineStep, defScope sMachineStep, [], []⟩
def ddMachineLate : He.DefD := ⟨("Machine", some "late"), "late", "Machine.late", defArgs sMachineLate, defBody sMachineLate, defScope sMachineLate, [], []⟩
def ddMachineReset : He.DefD := ⟨("Machine", some "reset"), "reset", "Machine.reset", defArgs sMachineReset, defBody sMachineReset, defScope sMachineReset, [], []⟩
def ddMachineTurn : He.DefD := ⟨("Machine", some "turn"), "turn", "Machine.turn", defArgs sMachineTurn, defBody sMachineTurn, defScope sMachineTurn, [], []⟩
def ddMachineState : He.DefD := ⟨("Machine", some "state"), "state", "Machine.state", defArgs sMachineState, defBody sMachineState, defScope sMachineState, [], []⟩
def ddMachineStarts : He.DefD := ⟨("Machine", some "starts"), "starts", "Machine.starts", defArgs sMachineStarts, defBody sMachineStarts, defScope sMachineStarts, [], []⟩
def ddMachineLog : He.DefD := ⟨("Machine", some "log"), "log", "Machine.log", defArgs sMachineLog, defBody sMachineLog, defScope sMachineLog, [], []⟩
def ddMachineBoards : He.DefD := ⟨("Machine", some "boards"), "boards", "Machine.boards", defArgs sMachineBoards, defBody sMachineBoards, defScope sMachineBoards, [], []⟩
def ddStartErrorInit : He.DefD := ⟨("StartError", some "__init__"), "__init__", "StartError.__init__", defArgs sStartErrorInit, defBody sStartErrorInit, defScope sStartErrorInit, [], []⟩
def hfn : List He.DefD := [ddWall, ddIsNumber, ddIsWithin, ddCommonDivisor, ddMeasure, ddIsName, ddNameNumber, ddRowNumber, ddIsPlacedBody, ddAreLoads, ddAreLies, ddTrueNotes, ddIsWidth, ddIsFactor, ddBehindRow, ddAreHands, ddLBox, ddLTake, ddLPick, ddLFolded, ddLNames, ddLSame, ddLNameNumber, ddLRowNumber, ddLMeasure, ddLShares, ddLHow, ddLMixed, ddLReplay, ddLHandRows, ddLStartRows, ddLHands, ddLMadeHand, ddLWorld, ddLMade, ddLFlat, ddLStands, ddLTold, ddLTurned, ddLBadHands, ddLRight, ddLaw, ddHandInit, ddHandNotes, ddHandEq, ddHandStr, ddMixingInit, ddMixingBegin, ddMixingMixed, ddMixingEq, ddMixingRepr, ddMixingStr, ddMachineInit, ddMachineClearBoards, ddMachineStart, ddMachineNoteRow, ddMachineRefuseUnless, ddMachineRefuseUnlessBoard, ddMachineStep, ddMachineLate, ddMachineReset, ddMachineTurn, ddMachineState, ddMachineStarts, ddMachineLog, ddMachineBoards, ddStartErrorInit]
def hfa : List He.Fa := [.free "ValueError", .free "repr", .free "len", .free "abs", .free "int", .free "isinstance", .free "list", .free "tuple", .free "str", .free "bool", .free "all", .free "zip", .free "range", .free "max", .free "min", .free "enumerate", .free "divmod", .free "sorted", .free "set", .free "any", .glo "_wall", .glo "is_number", .glo "is_within", .glo "common_divisor", .glo "measure", .glo "is_name", .glo "name_number", .glo "row_number", .glo "is_placed_body", .glo "are_loads", .glo "are_lies", .glo "true_notes", .glo "is_width", .glo "is_factor", .glo "behind_row", .glo "are_hands", .glo "_law_box", .glo "_law_take", .glo "_law_pick", .glo "_law_folded", .glo "_law_names", .glo "_law_same", .glo "_law_name_number", .glo "_law_row_number", .glo "_law_measure", .glo "_law_shares", .glo "_law_how", .glo "_law_mixed", .glo "_law_replay", .glo "_law_hand_rows", .glo "_law_start_rows", .glo "_law_hands", .glo "_law_made_hand", .glo "_law_world", .glo "_law_made", .glo "_law_flat", .glo "_law_stands", .glo "_law_told", .glo "_law_turned", .glo "_law_bad_hands", .glo "_law_right", .glo "law", .int "NOTES" 9973, .int "SPAN" 26500305465, .int "FACTOR" 7919, .int "BOARDS" 4, .int "FIXED" 2, .int "TIMES" 48271, .int "MORE" 11, .str "LETTERS" "abcdefghijklmnopqrstuvwxyz", .int "LONGEST" 4, .int "BASE" 27, .int "MOST_BOARDS" 8, .int "GREATEST_BODY" 1000000, .int "MOST_LOADS" 3, .int "LEAST_WIDTH" 3, .int "GREATEST" 1000000, .int "GREATEST_KEY" 1000000, .int "MOST_HANDS" 6, .cls "Hand", .glo "Hand", .mkr "Hand", .noat "Hand" "name", .noat "Hand" "body", .noat "Hand" "loads", .noat "Hand" "lies", .meth "Hand" "notes", .meth "Hand" "__eq__", .meth "Hand" "__str__", .cls "Mixing", .glo "Mixing", .mkr "Mixing", .noat "Mixing" "width", .noat "Mixing" "factor", .meth "Mixing" "begin", .meth "Mixing" "mixed", .meth "Mixing" "__eq__", .meth "Mixing" "__repr__", .meth "Mixing" "__str__", .cls "Machine", .glo "Machine", .mkr "Machine", .noat "Machine" "name", .noat "Machine" "key", .noat "Machine" "mixing", .noat "Machine" "many", .noat "Machine" "fixed", .noat "Machine" "hands", .noat "Machine" "working", .noat "Machine" "place", .noat "Machine" "times", .noat "Machine" "numbers", .noat "Machine" "rows", .meth "Machine" "clear_boards", .meth "Machine" "start", .meth "Machine" "note_row", .meth "Machine" "refuse_unless", .meth "Machine" "refuse_unless_board", .meth "Machine" "step", .meth "Machine" "late", .meth "Machine" "reset", .meth "Machine" "turn", .meth "Machine" "state", .meth "Machine" "starts", .meth "Machine" "log", .meth "Machine" "boards", .glo "StartError", .glo "BadMixing", .glo "NoBoard", .glo "BadHand", .glo "BadMachine", .glo "NotYet", .glo "Fixed", .glo "WORDS"]
def hex (K : PySem.W.Frag) : Bool := errOk K "StartError" ERRS && tupD K "WORDS" [.str "load", .str "set", .str "end", .str "late", .str "reset"] && neD K "Hand" && neD K "Mixing" && tupA K (kda K ("Hand", some "__init__") "loads") && tupA K (kda K ("Hand", some "__init__") "lies") && isoD K "Hand" && isoD K "Mixing"
abbrev hR : PySem.W.OpenRow := PySem.W.OpenLaw.row PySem.Challenge.rw_startlog_k32_machines_refused
abbrev hk : PySem.W.Hook := hookE 5 hfa hfn hex
def hob (s : PySem.W.SharedT) : He.AlD × Bool := obsE 5 hfa hfn hex (HandSHeadRun.getT s)
def hloose0 : List Str := ["WORDS", "NOTES", "SPAN", "FACTOR", "BOARDS", "FIXED", "TIMES", "MORE", "LETTERS", "LONGEST", "BASE", "MOST_BOARDS"]
def hloose1 : List Str := ["GREATEST_BODY", "MOST_LOADS", "LEAST_WIDTH", "GREATEST", "GREATEST_KEY", "MOST_HANDS", "StartError", "BadMixing", "NoBoard", "BadHand", "BadMachine", "NotYet"]
def hloose2 : List Str := ["Fixed", "Hand", "Mixing", "Machine", "_wall", "is_number", "is_within", "common_divisor", "measure", "is_name", "name_number", "row_number"]
def hloose3 : List Str := ["is_placed_body", "are_loads", "are_lies", "true_notes", "is_width", "is_factor", "behind_row", "are_hands", "_law_box", "_law_take", "_law_pick", "_law_folded"]
def hloose4 : List Str := ["_law_names", "_law_same", "_law_name_number", "_law_row_number", "_law_measure", "_law_shares", "_law_how", "_law_mixed", "_law_replay", "_law_hand_rows", "_law_start_rows", "_law_hands"]
def hloose5 : List Str := ["_law_made_hand", "_law_world", "_law_made", "_law_flat", "_law_stands", "_law_told", "_law_turned", "_law_bad_hands", "_law_right"]
def hloose : List Str := hloose0 ++ hloose1 ++ hloose2 ++ hloose3 ++ hloose4 ++ hloose5
theorem opt3 {α β γ δ : Type} {o : Option α} {f : α → β} {g : α → γ} {h : α → δ} {a : β} {b : γ} {c : δ} (ha : o.map f = some a) (hb : o.map g = some b) (hc : o.map h = some c) : o.map (fun s => (f s, g s, h s)) = some (a, b, c) := by
  cases o with
  | none => cases ha
  | some x =>
    cases ha
    cases hb
    cases hc
    rfl
section
open PySem PySem.W PySem.Calls PyProof.Rows HandSHeadRun
theorem hrunA (w : World) (os : OsState) : (endF (stepQ (denQ tabQ) hR.prog w) 8000 hR.prog w os).map (fun s => looksF hR.prog (boot_heap w.params) s.abs) = some true := by
  kernel_rfl
theorem hrunB (w : World) (os : OsState) : (endF (stepQ (denQ tabQ) hR.prog w) 8000 hR.prog w os).map (fun s => seenQ (PySem.W.view hR.prog [79]) hloose (importedModules hR.prog.main.body) (fun s => xlAt (PySem.W.view hR.prog [79]) [] s && recOk hR.toRowW.records s) s.abs) = some (openGood (PySem.W.view hR.prog [79]) hloose) := by
  kernel_rfl
theorem hrunC (w : World) (os : OsState) : (endF (stepQ (denQ tabQ) hR.prog w) 8000 hR.prog w os).map (fun s => hob s) = some (hk.val w) := by
  kernel_rfl
end
theorem hrun (w : World) : HandSHeadRun.RunEq hR (PySem.W.view hR.prog [79]) hk hob 8000 hloose w := by
  intro os
  exact opt3 (hrunA w os) (hrunB w os) (hrunC w os)
end
section
variable {P : Program} {w : World} {K : PySem.W.Frag} {mg : Str → Option Value} {base : Heap}

end
section
variable {P : Program} {w : World} {K : PySem.W.Frag} {mg : Str → Option Value} {base : Heap}
/-! what the head is asked for besides -/
theorem tupD_seq {K : PySem.W.Frag} {x : Str} {vs : List He.Dv} (h : tupD K x vs = true) (H : Hp) : SqT K H (He.ga K x) (vs.map (He.Dv.v K)) := He.tupB_ok (He.ba h).1 H
theorem tupD_ty {K : PySem.W.Frag} {x : Str} {vs : List He.Dv} (h : tupD K x vs = true) : ∃ o, K.lookup (He.ga K x) = some o ∧ o.cls = .type "tuple" ∧ o.dict = none := by
  obtain ⟨h1, h2⟩ := He.ba h
  unfold He.tupB at h1
  cases q : K.lookup (He.ga K x) with
  | none =>
    rw [q] at h2
    cases h2
  | some o =>
    obtain ⟨oc, od, dt, sl⟩ := o
    rw [q] at h1 h2
    cases od with
    | some d => cases h2
    | none =>
      cases oc with
      | type c =>
        cases dt with
        | seq its n =>
          have h3 := (He.ba (show (decide (c = "tuple") && _) = true from h1)).1
          exact ⟨_, rfl, congrArg Value.type (of_decide_eq_true h3), rfl⟩
        | _ => cases h1
      | _ => cases dt <;> cases h1
theorem obsE_eq {n : Nat} {fa : List He.Fa} {fn : List He.DefD} {ex : PySem.W.Frag → Bool} {g : Addr → Option Obj} {s : Shared} (h : ∀ a, g a = s.heap.get? a) : obsE n fa fn ex g = (hookE n fa fn ex).obs s := by
  have e : g = s.heap.get? := funext h
  rw [e]
  rfl
/-! heaps -/
theorem same_new {H : Hp} {p : Addr} {o : HO} (h : H p = none) : Same H (upd H p o) := fun b x e => by
  rw [upd_ne (ne_of_none e h)]
  exact e
/-- all that was tracked is as it was, but for p -/
def But (p : Addr) (H G : Hp) : Prop := ∀ b o, H b = some o → b ≠ p → G b = some o
theorem But.upd {p : Addr} {H : Hp} {o : HO} : But p H (upd H p o) := fun b x e n => by
  rw [upd_ne n]
  exact e
/-- a box of draws at p, at most n of them by the second way -/
def Box (H : Hp) (p : Addr) (n : Int) : Prop := ∃ x y z : Int, H p = some (.lst [.int x, .int y, .int z]) ∧ 0 ≤ x ∧ 0 ≤ y ∧ y < 1099511627776 ∧ 0 ≤ z ∧ z ≤ n
theorem Box.same {H G : Hp} {p : Addr} {n : Int} (b : Box H p n) (s : Same H G) : Box G p n := by
  obtain ⟨x, y, z, e, h⟩ := b
  exact ⟨x, y, z, s _ _ e, h⟩
theorem seqL_but {K : PySem.W.Frag} {H G : Hp} {p a : Addr} {xs : List V} (s : But p H G) (h : SqL K H a xs) (n : a ≠ p) : SqL K G a xs := by
  rcases h with (h | ⟨o, h⟩) | h
  · exact .inl (.inl (s _ _ h n))
  · exact .inl (.inr ⟨o, s _ _ h n⟩)
  · exact .inr h
theorem seqT_same {K : PySem.W.Frag} {H G : Hp} {a : Addr} {xs : List V} (s : Same H G) (h : SqT K H a xs) : SqT K G a xs := by
  rcases h with (h | ⟨o, h⟩) | h
  · exact .inl (.inl (s _ _ h))
  · exact .inl (.inr ⟨o, s _ _ h⟩)
  · exact .inr h
theorem bit_lo (b : Bool) : -(2 ^ 64 : Int) < (if b = true then 1 else 0 : Int) := by cases b <;> decide
theorem bit_hi (b : Bool) : (if b = true then 1 else 0 : Int) < 2 ^ 64 := by cases b <;> decide
/-- o.m(k = v, ..) -/
def tMethKw (C : Addr) (m : Str) (n k : Nat) (sp : Sp) (gV : List V → List V → List V) (E : XK) (ta : TE) (t tk : TA) : TE := fun σ H Q => ta σ H fun x H1 => ∃ a dx fs, x = .ref a ∧ H1 a = some (.ins C dx fs) ∧ fs.lookup m = none ∧
  t σ H1 fun vs H2 => tk σ H2 fun zs H3 => vs.length = n ∧ zs.length = k ∧ sp (gV (.ref a :: vs) zs) H3 Q E
theorem pe_methKw {X : Cx} {CX : CXT} {k : Nat} {f C : Addr} {fd : FuncData} {ps ks : List Str} {sp : Sp} {E : XK} {m : Str} {o : Expr} {ta : TE} {apos pos : Pos} {kws : List Keyword} {tk : TA} {g : List Value → List Value → List Value} {gV : List V → List V → List V} {pl : Sem Bool}
    (he : PE X o ta) (c : Cls X.K C) (hm : Meth X.K C m f) (F : FnOk X.prog X.w X.K X.mg X.base CX k f fd ps sp) (hr : Room k X.A) (hb : KBn X.K fd ps 1 ks g gV) (hx : Passes CX X E) (hkw : PK X kws tk)
    (h1 : (backToKw pos (keywordEach kws X.env)).all (·.1.isSome) = true := by rfl) (h2 : (backToKw pos (keywordEach kws X.env)).filterMap (·.1) = ks := by rfl)
    (h4 : ((backTo pos (starEach [] X.env)).any (·.1) || (backToKw pos (keywordEach kws X.env)).any (·.1.isNone)) = false := by rfl)
    (ht : eval (.Call (.Attribute o m apos) [] kws pos) X.env = (do
      let ov ← eval o X.env
      standAt apos.atName
      let (f, first) ← holding [ov] (getMethod ov m pl)
      callWith pos f first (backTo pos (starEach [] X.env)) (backToKw pos (keywordEach kws X.env))) := by rfl) :
    PE X (.Call (.Attribute o m apos) [] kws pos) (tMethKw C m 0 ks.length sp gV E ta tNil tk) := by
  refine ⟨fun pins s σ H Q I h => ?_⟩
  refine PySem.W.methodCall_KW (pl := pl) (thn (he.run pins s σ H _ I h) fun u s1 ⟨x, H1, I1, rx, a, dx, fs, ex, ea, l, q⟩ => ?_) ht
  subst ex
  obtain rfl : u = Value.ref a := rx
  refine getmeth_ok I1 ea c hm l ?_
  refine PySem.W.callWith_KW0 (first := [.ref a]) I1.kIn hm.kp h1 ?_ h4
  refine thn (hkw.run pos pins s1 σ H1 _ I1 q) fun ws s2 ⟨zs, H2, I2, rz, l1, l2, q2⟩ => ⟨I2.kIn, ?_⟩
  rw [h2]
  exact run_fnN (us := [.ref a]) (vs := [.ref a]) F hr hb hx I2 (.cons rfl .nil) rz rfl l2 q2
theorem qt {Q : VK} {H : Hp} {c : Prop} [Decidable c] (hc : c) (q : Q (.bl true) H) : Q (.bl (decide c)) H := by
  rw [decide_eq_true hc]
  exact q
/-! kinds -/
theorem ty_list {K : PySem.W.Frag} {H : Hp} {a : Addr} {xs : List V} (h : SqL K H a xs) : TyX K H (.ref a) (.type "list") := by
  rcases h with (h | ⟨o, h⟩) | ⟨o, its, n, h1, h2, _⟩
  · exact .base (.lst h)
  · exact .base (.frz h)
  · exact .kList h1 h2
theorem ty_tup {K : PySem.W.Frag} {H : Hp} {a : Addr} {xs : List V} (h : SqT K H a xs) : TyX K H (.ref a) (.type "tuple") := by
  rcases h with (h | ⟨o, h⟩) | ⟨o, its, n, h1, h2, _⟩
  · exact .base (.tup h)
  · exact .fTuple h
  · exact .kTuple h1 h2
mutual
theorem dp_same {K : PySem.W.Frag} {H G : Hp} (s : Same H G) : ∀ (d : PyData) (v : V), Dp K H v d → Dp K G v d
  | .none, _, h => by cases h; exact .non
  | .bool b, _, h => by cases h; exact .bl b
  | .int i, _, h => by cases h; exact .int i
  | .str x, _, h => by cases h; exact .str x
  | .list ds, _, h => by
    cases h with
    | lst a b => exact .lst (s.seq a) (dps_same s ds _ b)
  | .tuple ds, _, h => by
    cases h with
    | tup a b => exact .tup (seqT_same s a) (dps_same s ds _ b)
  | .dict _, _, h => by cases h
theorem dps_same {K : PySem.W.Frag} {H G : Hp} (s : Same H G) : ∀ (ds : List PyData) (vs : List V), DpAll K H vs ds → DpAll K G vs ds
  | [], _, h => by cases h; exact .nil
  | d :: ds, _, h => by
    cases h with
    | cons a b => exact .cons (dp_same s d _ a) (dps_same s ds _ b)
end
theorem dpa_len {K : PySem.W.Frag} {H : Hp} : ∀ {vs : List V} {ds : List PyData}, DpAll K H vs ds → vs.length = ds.length
  | _, _, .nil => rfl
  | _, _, .cons _ t => congrArg Nat.succ (dpa_len t)
theorem dpa_at {K : PySem.W.Frag} {H : Hp} : ∀ {vs : List V} {ds : List PyData} {i : Nat} {v : V}, DpAll K H vs ds → vs[i]? = some v → ∃ d, ds[i]? = some d ∧ Dp K H v d
  | _, _, i, v, .nil, h => by simp at h
  | _, _, 0, v, .cons a t, h => by
    have e := Option.some.inj h
    subst e
    exact ⟨_, rfl, a⟩
  | _, _, i + 1, v, .cons a t, h => dpa_at (i := i) t h
/-- how deep a datum is -/
def dep : PyData → Nat
  | .list ds => deps ds + 1
  | .tuple ds => deps ds + 1
  | _ => 0
where deps : List PyData → Nat
  | [] => 0
  | d :: ds => max (dep d) (deps ds)
theorem deps_at : ∀ {ds : List PyData} {i : Nat} {d : PyData}, ds[i]? = some d → dep d ≤ dep.deps ds
  | [], i, d, h => by simp at h
  | c :: ds, 0, d, h => by
    have e := Option.some.inj h
    subst e
    exact Nat.le_max_left _ _
  | c :: ds, i + 1, d, h => Nat.le_trans (deps_at (i := i) (ds := ds) h) (Nat.le_max_right _ _)
/-- how wide it is, at most -/
def wid : PyData → Nat
  | .list ds => max ds.length (wids ds)
  | .tuple ds => max ds.length (wids ds)
  | _ => 0
where wids : List PyData → Nat
  | [] => 0
  | d :: ds => max (wid d) (wids ds)
theorem wids_at : ∀ {ds : List PyData} {i : Nat} {d : PyData}, ds[i]? = some d → wid d ≤ wid.wids ds
  | [], i, d, h => by simp at h
  | c :: ds, 0, d, h => by
    have e := Option.some.inj h
    subst e
    exact Nat.le_max_left _ _
  | c :: ds, i + 1, d, h => Nat.le_trans (wids_at (i := i) (ds := ds) h) (Nat.le_max_right _ _)
theorem small6 {n : Nat} (h : n < 1000000) : n < sizeLine := Nat.lt_of_lt_of_le h (by decide)
/-! a call by keywords alone -/
section
variable {X : Cx} {CX : CXT} {k : Nat} {f : Addr} {fd : FuncData} {ps ks : List Str} {sp : Sp} {E : XK} {x : Str} {p pos : Pos} {kws : List Keyword} {tk : TA} {g : List Value → List Value → List Value} {gV : List V → List V → List V}
end
/-! a call of a def without defaults by keywords -/
theorem kw_plain {K : PySem.W.Frag} {x qual : Str} {params : Arguments} {body : List Stmt} {scope : Scope} {kws : List (Str × V)} {f : Addr} {fd : FuncData} {ps : List Str} (F : FunD K x qual params body scope [] kws f fd) (n : Nat) (ks : List Str) (g : {α : Type} → List α → List α → List α)
    (hrel : ∀ {vs zs : List V} {us ws : List Value}, Vals vs us → Vals zs ws → Vals (g vs zs) (g us ws))
    (h : ∀ (kV doc pm : Value) (an : Option Addr) (cdv ct : Value) (us ws : List Value), us.length = n → ws.length = ks.length → bindArgs (PySem.W.fnOf x qual params body scope .none kV doc pm an cdv ct) ⟨us, ks.zip ws⟩ = pure (ps.zip (g us ws))) : KBn K fd ps n ks (fun us ws => g us ws) (fun vs zs => g vs zs) := by
  obtain ⟨oc, od, dV, kV, doc, pm, an, cdv, ct, osl, rfl, lk, hcd, hD, hK⟩ := F.ex
  rcases hD with ⟨_, rfl⟩ | ⟨e, _⟩
  · exact ⟨fun s us ws _ l1 l2 => .of_eq (h kV doc pm an cdv ct us ws l1 l2), fun r1 r2 => hrel r1 r2⟩
  · exact absurd rfl e
/-- lists of numbers as data -/
theorem dpa_ints {K : PySem.W.Frag} {H : Hp} : ∀ l : List Int, DpAll K H (l.map V.int) (l.map PyData.int)
  | [] => .nil
  | i :: l => .cons (.int i) (dpa_ints l)
/-- the two ways of a conditional expression joined: what either gives, P says -/
theorem ifx {c : Prop} [Decidable c] {ta tb : TE} {σ : L2.St} {H : Hp} {C : VK} (P : V → Hp → Prop) (h1 : c → ∀ C : VK, (∀ v G, P v G → C v G) → ta σ H C) (h2 : ¬ c → ∀ C : VK, (∀ v G, P v G → C v G) → tb σ H C) (k : ∀ v G, P v G → C v G) : if c then ta σ H C else tb σ H C := by
  by_cases h : c
  · rw [if_pos h]
    exact h1 h C k
  · rw [if_neg h]
    exact h2 h C k
/-! the drawer of numbers -/
def spLBox (K : PySem.W.Frag) : Sp := fun vs H Q _ => ∃ (a : Addr) (ns : List Int) (k : Nat), vs = [.ref a, .int k] ∧ SqL K H a (ns.map V.int) ∧ k ≤ 1000 ∧
  ∀ (p : Addr) (x y : Int), H p = none → 0 ≤ x → 0 ≤ y → y < 1099511627776 → Q (.ref p) (upd H p (.lst [.int x, .int y, .int 0]))
def spLTake : Sp := fun vs H Q _ => ∃ (p : Addr) (m n : Int), vs = [.ref p, .int m] ∧ Box H p n ∧ n < 1099511627776 ∧ 0 < m ∧ m < 340282366920938463463374607431768211456 ∧
  ∀ (r : Int) (G : Hp), But p H G → Box G p (n + 1) → 0 ≤ r → r < m → Q (.int r) G
theorem walk_zipT {K : PySem.W.Frag} {a b : Addr} {xs ys : List V} (hn : xs.length = ys.length) : Walk (RZ.ItzT K a b) xs.length (fun H => SqT K H a xs ∧ SqT K H b ys) (YPair (fun i => xs[i]?) (fun i => ys[i]?)) := by
  refine ⟨fun i _ hi q => ?_, fun _ q => ⟨xs, ys, q.1, q.2, by omega⟩, fun i H v H' _ q y => ?_⟩
  · have h2 : i < ys.length := by omega
    exact ⟨xs, ys, xs[i], ys[i], q.1, q.2, by simp [hi], by simp [h2]⟩
  · obtain ⟨T, x, z, h1, h2, h3, h4, h5⟩ := y
    exact ⟨T, x, z, h1, h2, h3, h4 xs q.1, h5 ys q.2⟩
theorem all_rep (n : Nat) : (List.replicate n true).all id = true := by
  induction n with
  | zero => rfl
  | succ n ih => rw [List.replicate_succ, List.all_cons, ih]; rfl
theorem kit_none (K : PySem.W.Frag) (t : String) (h1 : kitB t "list" = some false) (h2 : kitB t "tuple" = some false) : PySem.W.kitAny K (.type t) [.type "list", .type "tuple"] = some false :=
  kitAny_cons (kit_ty h1) (fun _ => kitAny_cons (kit_ty h2) (fun _ => rfl) (fun z => Bool.noConfusion z)) (fun z => Bool.noConfusion z)
theorem kit_list (K : PySem.W.Frag) : PySem.W.kitAny K (.type "list") [.type "list", .type "tuple"] = some true :=
  kitAny_cons (kit_ty (r := true) (by decide +kernel)) (fun z => Bool.noConfusion z) (fun _ => rfl)
theorem kit_tup (K : PySem.W.Frag) : PySem.W.kitAny K (.type "tuple") [.type "list", .type "tuple"] = some true :=
  kitAny_cons (kit_ty (r := false) (by decide +kernel)) (fun _ => kitAny_cons (kit_ty (r := true) (by decide +kernel)) (fun z => Bool.noConfusion z) (fun _ => rfl)) (fun z => Bool.noConfusion z)
theorem cls2 : Paired ClsV [.ty "list", .ty "tuple"] [.type "list", .type "tuple"] := .cons (.ty _) (.cons (.ty _) .nil)
/-! two things alike, kind by kind -/
def spLSame (K : PySem.W.Frag) (n : Nat) : Sp := fun vs H Q _ => ∃ (x y : V) (d : PyData), vs = [x, y] ∧ Dp K H x d ∧ Dp K H y d ∧ dep d < n ∧ wid d ≤ 1000000 ∧ ∀ G, Same H G → Q (.bl true) G


end
section
variable {P : Program} {w : World} {K : PySem.W.Frag} {mg : Str → Option Value} {base : Heap}
/-- at a: an error of class cls, its dict d -/
def exv (a : Addr) (cls : Value) (d : Option Addr) : HO := .ext fun h => ∃ (oe : Obj) (vs : Array Value), h.get? a = some oe ∧ Zc cls d oe ∧ oe.data = .fields vs
/-! data: what a value stands for, whatever the heap -/
inductive Dt where
  | non | bl (b : Bool) | int (i : Int) | str (x : Str) | lst (ds : List Dt) | tup (ds : List Dt) | obj (c : Str) (ns : List Str) (ds : List Dt) | scr (ns : List Int) | err (c : Str) (d : Dt) | adr (a : Addr) | dic (ks : List Key) (ds : List Dt)
mutual
inductive Rp (K : PySem.W.Frag) (C : Hp) : V → Dt → Prop
  | non : Rp K C .non .non
  | bl (b : Bool) : Rp K C (.bl b) (.bl b)
  | int (i : Int) : Rp K C (.int i) (.int i)
  | str (x : Str) : Rp K C (.str x) (.str x)
  | lst {a : Addr} {xs : List V} {ds : List Dt} : C a = some (.lst xs) → RpL K C xs ds → Rp K C (.ref a) (.lst ds)
  | scr {a : Addr} {ns : List Int} : SqL K C a (ns.map V.int) → Rp K C (.ref a) (.scr ns)
  | tup {a : Addr} {xs : List V} {ds : List Dt} : SqT K C a xs → RpL K C xs ds → Rp K C (.ref a) (.tup ds)
  | obj {c : Str} {x dx : Addr} {ns : List Str} {vs : List V} {ds : List Dt} : C x = some (.ins (He.ga K c) dx (ns.zip vs)) → C dx = some (.own x) → ns.length = vs.length → RpL K C vs ds → Rp K C (.ref x) (.obj c ns ds)
  | adr (a : Addr) : Rp K C (.ref a) (.adr a)
  | dic {a : Addr} {ks : List Key} {vs : List V} {ds : List Dt} : Rd C a (.dK (ks.zip vs)) → ks.length = vs.length → ks.Nodup → RpL K C vs ds → Rp K C (.ref a) (.dic ks ds)
  | err {c : Str} {a dd : Addr} {v : V} {d : Dt} : C a = some (exv a (.ref (He.ga K c)) (some dd)) → C dd = some (.xd [(("what" : Str), v)]) → Rp K C v d → Rp K C (.ref a) (.err c d)
inductive RpL (K : PySem.W.Frag) (C : Hp) : List V → List Dt → Prop
  | nil : RpL K C [] []
  | cons {v : V} {vs : List V} {d : Dt} {ds : List Dt} : Rp K C v d → RpL K C vs ds → RpL K C (v :: vs) (d :: ds)
end
mutual
theorem Rp.same_ {K : PySem.W.Frag} {C G : Hp} (s : Same C G) : ∀ (d : Dt) (v : V), Rp K C v d → Rp K G v d
  | .non, _, h => by cases h; exact .non
  | .bl b, _, h => by cases h; exact .bl b
  | .int i, _, h => by cases h; exact .int i
  | .str x, _, h => by cases h; exact .str x
  | .lst ds, _, h => by
    cases h with
    | lst a b => exact .lst (s _ _ a) (RpL.same_ s ds _ b)
  | .tup ds, _, h => by
    cases h with
    | tup a b => exact .tup (seqT_same s a) (RpL.same_ s ds _ b)
  | .scr ns, _, h => by
    cases h with
    | scr a => exact .scr (s.seq a)
  | .obj c ns ds, _, h => by
    cases h with
    | obj a b l e => exact .obj (s _ _ a) (s _ _ b) l (RpL.same_ s ds _ e)
  | .adr a, _, h => by cases h; exact .adr a
  | .dic ks ds, _, h => by
    cases h with
    | dic a l n e => exact .dic (a.imp (s _ _) fun ⟨o, q⟩ => ⟨o, s _ _ q⟩) l n (RpL.same_ s ds _ e)
  | .err c d, _, h => by
    cases h with
    | err a b e => exact .err (s _ _ a) (s _ _ b) (Rp.same_ s d _ e)
theorem RpL.same_ {K : PySem.W.Frag} {C G : Hp} (s : Same C G) : ∀ (ds : List Dt) (vs : List V), RpL K C vs ds → RpL K G vs ds
  | [], _, h => by cases h; exact .nil
  | d :: ds, _, h => by
    cases h with
    | cons a b => exact .cons (Rp.same_ s d _ a) (RpL.same_ s ds _ b)
end
theorem Rp.same {K : PySem.W.Frag} {C G : Hp} {v : V} {d : Dt} (h : Rp K C v d) (s : Same C G) : Rp K G v d := Rp.same_ s d v h
theorem RpL.same {K : PySem.W.Frag} {C G : Hp} {vs : List V} {ds : List Dt} (h : RpL K C vs ds) (s : Same C G) : RpL K G vs ds := RpL.same_ s ds vs h
theorem RpL.len {K : PySem.W.Frag} {C : Hp} : ∀ {vs : List V} {ds : List Dt}, RpL K C vs ds → vs.length = ds.length
  | _, _, .nil => rfl
  | _, _, .cons _ t => congrArg Nat.succ (RpL.len t)
theorem RpL.at {K : PySem.W.Frag} {C : Hp} : ∀ {vs : List V} {ds : List Dt} {i : Nat} {v : V}, RpL K C vs ds → vs[i]? = some v → ∃ d, ds[i]? = some d ∧ Rp K C v d
  | _, _, i, v, .nil, h => by simp at h
  | _, _, 0, v, .cons a t, h => by
    have e := Option.some.inj h
    subst e
    exact ⟨_, rfl, a⟩
  | _, _, i + 1, v, .cons a t, h => RpL.at (i := i) t h
theorem RpL.at' {K : PySem.W.Frag} {C : Hp} : ∀ {vs : List V} {ds : List Dt} {i : Nat} {d : Dt}, RpL K C vs ds → ds[i]? = some d → ∃ v, vs[i]? = some v ∧ Rp K C v d
  | _, _, i, d, .nil, h => by simp at h
  | _, _, 0, d, .cons a t, h => by
    have e := Option.some.inj h
    subst e
    exact ⟨_, rfl, a⟩
  | _, _, i + 1, d, .cons a t, h => RpL.at' (i := i) t h
theorem RpL.append {K : PySem.W.Frag} {C : Hp} : ∀ {vs ws : List V} {ds es : List Dt}, RpL K C vs ds → RpL K C ws es → RpL K C (vs ++ ws) (ds ++ es)
  | _, _, _, _, .nil, h => h
  | _, _, _, _, .cons a t, h => .cons a (RpL.append t h)
theorem RpL.take {K : PySem.W.Frag} {C : Hp} : ∀ {vs : List V} {ds : List Dt} (n : Nat), RpL K C vs ds → RpL K C (vs.take n) (ds.take n)
  | _, _, 0, _ => .nil
  | _, _, _ + 1, .nil => .nil
  | _, _, n + 1, .cons a t => .cons a (RpL.take n t)
theorem RpL.drop {K : PySem.W.Frag} {C : Hp} : ∀ {vs : List V} {ds : List Dt} (n : Nat), RpL K C vs ds → RpL K C (vs.drop n) (ds.drop n)
  | _, _, 0, h => h
  | _, _, _ + 1, .nil => .nil
  | _, _, n + 1, .cons a t => RpL.drop n t
theorem RpL.set {K : PySem.W.Frag} {C : Hp} {v : V} {d : Dt} (r : Rp K C v d) : ∀ {vs : List V} {ds : List Dt} (n : Nat), RpL K C vs ds → RpL K C (vs.set n v) (ds.set n d)
  | _, _, _, .nil => .nil
  | _, _, 0, .cons _ t => .cons r t
  | _, _, n + 1, .cons a t => .cons a (RpL.set r n t)
/-! a def's names, by what they stand for -/
inductive Sl where
  | un | dat (d : Dt) | hot (ds : List Dt) | box (n : Int)
inductive Rs where
  | dat (d : Dt) | hot (i : Nat) (ds : List Dt) | box (i : Nat) (n : Int)
def Sl.mut : Sl → Bool
  | .hot _ => true
  | .box _ => true
  | _ => false
structure Bs where
  C0 : Hp
  H0 : Hp
  bx : Option (Nat × Addr)
def SlOk (K : PySem.W.Frag) (C H : Hp) (x : Option (Option V)) : Sl → Prop
  | .un => True
  | .dat d => ∃ v, x = some (some v) ∧ Rp K C v d
  | .hot ds => ∃ a vs, x = some (some (.ref a)) ∧ H a = some (.lst vs) ∧ RpL K C vs ds ∧ C a = none
  | .box n => ∃ p, x = some (some (.ref p)) ∧ Box H p n ∧ C p = none
structure Sep (K : PySem.W.Frag) (B : Bs) (C H : Hp) (σ : L2.St) (ρ : List Sl) : Prop where
  cold : Same C H
  len : σ.length = ρ.length
  sl : ∀ (i : Nat) (s : Sl), ρ[i]? = some s → SlOk K C H σ[i]? s
  ne : ∀ (i j : Nat) (a : Addr) (s t : Sl), i ≠ j → ρ[i]? = some s → ρ[j]? = some t → s.mut = true → t.mut = true → σ[i]? = some (some (V.ref a)) → σ[j]? = some (some (V.ref a)) → False
  grow : Same B.C0 C
  new : ∀ a o, C a = some o → B.C0 a = none → B.H0 a = none
  dom : ∀ a, B.H0 a ≠ none → H a ≠ none
  keep : ∀ a o, B.H0 a = some o → (∀ i, B.bx ≠ some (i, a)) → H a = some o
  loc : ∀ (i : Nat) (a : Addr) (ds : List Dt), ρ[i]? = some (.hot ds) → σ[i]? = some (some (V.ref a)) → B.H0 a = none
  lob : ∀ (i : Nat) (a : Addr) (n : Int), ρ[i]? = some (.box n) → σ[i]? = some (some (V.ref a)) → B.H0 a = none ∨ B.bx = some (i, a)
  par : ∀ (i : Nat) (a : Addr), B.bx = some (i, a) → σ[i]? = some (some (V.ref a)) ∧ ∃ n, ρ[i]? = some (.box n)
  pz : ∀ (i : Nat) (a : Addr), B.bx = some (i, a) → i = 0
section
variable {B : Bs} {C H : Hp} {σ : L2.St} {ρ : List Sl}
theorem Sep.mutH (S : Sep K B C H σ ρ) {i : Nat} {s : Sl} {a : Addr} (h : ρ[i]? = some s) (m : s.mut = true) (e : σ[i]? = some (some (V.ref a))) : C a = none ∧ H a ≠ none := by
  have q := S.sl i s h
  cases s with
  | un => cases m
  | dat d => cases m
  | hot ds =>
    obtain ⟨b, vs, e2, h2, _, h3⟩ := q
    rw [e] at e2
    cases e2
    exact ⟨h3, by rw [h2]; exact fun z => nomatch z⟩
  | box n =>
    obtain ⟨b, e2, ⟨x, y, z, h2, _⟩, h3⟩ := q
    rw [e] at e2
    cases e2
    exact ⟨h3, by rw [h2]; exact fun z => nomatch z⟩
theorem Sep.alloc (S : Sep K B C H σ ρ) {p : Addr} {o : HO} (hp : H p = none) : Sep K B (upd C p o) (upd H p o) σ ρ := by
  have cp : C p = none := S.cold.free hp
  have sC : Same C (upd C p o) := same_new cp
  have sH : Same H (upd H p o) := same_new hp
  have ha : ∀ a, H a ≠ none → a ≠ p := fun a h e => h (by rw [e]; exact hp)
  refine ⟨fun b x e => ?_, S.len, fun i s h => ?_, S.ne, S.grow.trans sC, fun a x e n => ?_, fun a h => ?_, fun a x h n => sH _ _ (S.keep a x h n), S.loc, S.lob, S.par, S.pz⟩
  · by_cases z : b = p
    · subst z
      rw [upd_same] at e ⊢
      exact e
    · rw [upd_ne z] at e ⊢
      exact S.cold _ _ e
  · have q := S.sl i s h
    cases s with
    | un => trivial
    | dat d =>
      obtain ⟨v, e, r⟩ := q
      exact ⟨v, e, r.same sC⟩
    | hot ds =>
      obtain ⟨a, vs, e, h2, r, h3⟩ := q
      have np := ha a (by rw [h2]; exact fun z => nomatch z)
      exact ⟨a, vs, e, sH _ _ h2, r.same sC, by rw [upd_ne np]; exact h3⟩
    | box n =>
      obtain ⟨a, e, b, h3⟩ := q
      have np := ha a (by obtain ⟨x, y, z, h2, _⟩ := b; rw [h2]; exact fun z => nomatch z)
      exact ⟨a, e, b.same sH, by rw [upd_ne np]; exact h3⟩
  · by_cases z : a = p
    · subst z
      cases q : B.H0 a with
      | none => rfl
      | some u => exact absurd hp (S.dom a (by rw [q]; exact fun z => nomatch z))
    · rw [upd_ne z] at e
      exact S.new a x e n
  · by_cases z : a = p
    · subst z
      rw [upd_same]
      exact fun z => nomatch z
    · rw [upd_ne z]
      exact S.dom a h
theorem get_set {α : Type} {l : List α} {i j : Nat} {x y : α} (h : (l.set i x)[j]? = some y) : (i = j ∧ x = y ∧ i < l.length) ∨ (i ≠ j ∧ l[j]? = some y) := by
  rw [List.getElem?_set] at h
  by_cases e : i = j
  · rw [if_pos e] at h
    by_cases z : i < l.length
    · rw [if_pos (e ▸ z)] at h
      exact .inl ⟨e, Option.some.inj h, z⟩
    · rw [if_neg (e ▸ z)] at h
      cases h
  · rw [if_neg e] at h
    exact .inr ⟨e, h⟩
theorem set_at {α : Type} {l : List α} {i : Nat} {x : α} (h : i < l.length) : (l.set i x)[i]? = some x := by
  rw [List.getElem?_set, if_pos rfl, if_pos h]
theorem set_off {α : Type} {l : List α} {i j : Nat} {x : α} (h : i ≠ j) : (l.set i x)[j]? = l[j]? := by
  rw [List.getElem?_set, if_neg h]
/-- slot i is put anew -/
theorem Sep.put (S : Sep K B C H σ ρ) {i : Nat} {x : Option V} {s : Sl} (hb : i = 0 → ∀ n, ρ[i]? ≠ some (.box n)) (ok : i < ρ.length → SlOk K C H (some x) s) (hm : s.mut = true → ∀ a, x = some (.ref a) → (∀ j t, i ≠ j → ρ[j]? = some t → t.mut = true → σ[j]? ≠ some (some (V.ref a))) ∧ B.H0 a = none) :
    Sep K B C H (σ.set i x) (ρ.set i s) := by
  have hl := S.len
  refine ⟨S.cold, by rw [List.length_set, List.length_set, S.len], fun j t h => ?_, fun j k a t u n h1 h2 m1 m2 e1 e2 => ?_, S.grow, S.new, S.dom, S.keep, fun j a ds h e => ?_, fun j a n h e => ?_, fun j a h => ?_, S.pz⟩
  · rcases get_set h with ⟨rfl, rfl, l⟩ | ⟨n, h⟩
    · rw [set_at (by omega)]
      exact ok l
    · rw [set_off n]
      exact S.sl j t h
  · rcases get_set h1 with ⟨rfl, rfl, l⟩ | ⟨n1, h1⟩
    · rw [set_at (by omega)] at e1
      rw [set_off n] at h2 e2
      exact (hm m1 a (Option.some.inj e1)).1 k u n h2 m2 e2
    · rw [set_off n1] at e1
      rcases get_set h2 with ⟨rfl, rfl, l⟩ | ⟨n2, h2⟩
      · rw [set_at (by omega)] at e2
        exact (hm m2 a (Option.some.inj e2)).1 j t n1 h1 m1 e1
      · rw [set_off n2] at e2
        exact S.ne j k a t u n h1 h2 m1 m2 e1 e2
  · rcases get_set h with ⟨rfl, rfl, l⟩ | ⟨n, h⟩
    · rw [set_at (by omega)] at e
      exact (hm rfl a (Option.some.inj e)).2
    · rw [set_off n] at e
      exact S.loc j a ds h e
  · rcases get_set h with ⟨rfl, rfl, l⟩ | ⟨n, h⟩
    · rw [set_at (by omega)] at e
      exact .inl (hm rfl a (Option.some.inj e)).2
    · rw [set_off n] at e
      exact S.lob j a _ h e
  · obtain ⟨e, m, h2⟩ := S.par j a h
    have n : i ≠ j := fun z => hb (z.trans (S.pz j a h)) m (by rw [z]; exact h2)
    rw [set_off n, set_off n]
    exact ⟨e, m, h2⟩
theorem Sep.dat (S : Sep K B C H σ ρ) {i : Nat} {v : V} {d : Dt} (hb : i = 0 → ∀ n, ρ[i]? ≠ some (.box n)) (r : Rp K C v d) : Sep K B C H (σ.set i (some v)) (ρ.set i (.dat d)) :=
  S.put hb (fun _ => ⟨v, rfl, r⟩) fun z => nomatch z
theorem Sep.un (S : Sep K B C H σ ρ) {i : Nat} {x : Option V} (hb : i = 0 → ∀ n, ρ[i]? ≠ some (.box n)) : Sep K B C H (σ.set i x) (ρ.set i .un) :=
  S.put hb (fun _ => trivial) fun z => nomatch z
/-- a mutable thing grows cold -/
theorem Sep.cool (S : Sep K B C H σ ρ) {i : Nat} {ds : List Dt} {v : V} (h : ρ[i]? = some (.hot ds)) (e : σ[i]? = some (some v)) : ∃ C', Sep K B C' H σ (ρ.set i (.dat (.lst ds))) ∧ Same C C' ∧ Rp K C' v (.lst ds) := by
  obtain ⟨a, vs, e2, ha, r, ca⟩ := S.sl i _ h
  rw [e] at e2
  cases e2
  have sC : Same C (upd C a (.lst vs)) := same_new ca
  have R : Rp K (upd C a (.lst vs)) (.ref a) (.lst ds) := .lst upd_same (r.same sC)
  have li : i < ρ.length := by
    cases Nat.lt_or_ge i ρ.length with
    | inl h => exact h
    | inr g =>
      rw [List.getElem?_eq_none g] at h
      cases h
  refine ⟨upd C a (.lst vs), ⟨fun b o q => ?_, by rw [List.length_set]; exact S.len, fun j t q => ?_, fun j k b t u n h1 h2 m1 m2 e1 e2 => ?_, S.grow.trans sC, fun b o q n => ?_, S.dom, S.keep, fun j b es q q2 => ?_, fun j b n q q2 => ?_, fun j b q => ?_, S.pz⟩, sC, R⟩
  · by_cases z : b = a
    · subst z
      rw [upd_same] at q
      rw [ha]
      exact q
    · rw [upd_ne z] at q
      exact S.cold _ _ q
  · rcases get_set q with ⟨rfl, rfl, l⟩ | ⟨n, q⟩
    · exact ⟨_, e, R⟩
    · have w := S.sl j t q
      cases t with
      | un => trivial
      | dat d =>
        obtain ⟨v, e, r⟩ := w
        exact ⟨v, e, r.same sC⟩
      | hot es =>
        obtain ⟨b, ws, e3, h2, r2, h3⟩ := w
        have np : b ≠ a := fun z => S.ne i j a _ _ n h q rfl rfl e (z ▸ e3)
        exact ⟨b, ws, e3, h2, r2.same sC, by rw [upd_ne np]; exact h3⟩
      | box m =>
        obtain ⟨b, e3, h2, h3⟩ := w
        have np : b ≠ a := fun z => S.ne i j a _ _ n h q rfl rfl e (z ▸ e3)
        exact ⟨b, e3, h2, by rw [upd_ne np]; exact h3⟩
  · rcases get_set h1 with ⟨rfl, rfl, l⟩ | ⟨n1, h1⟩
    · cases m1
    rcases get_set h2 with ⟨rfl, rfl, l⟩ | ⟨n2, h2⟩
    · cases m2
    exact S.ne j k b t u n h1 h2 m1 m2 e1 e2
  · by_cases z : b = a
    · subst z
      exact S.loc i b ds h e
    · rw [upd_ne z] at q
      exact S.new b o q n
  · rcases get_set q with ⟨rfl, z, l⟩ | ⟨n, q⟩
    · cases z
    · exact S.loc j b es q q2
  · rcases get_set q with ⟨rfl, z, l⟩ | ⟨n, q⟩
    · cases z
    · exact S.lob j b _ q q2
  · obtain ⟨e3, m, h2⟩ := S.par j b q
    have n : i ≠ j := fun z => by rw [← z, h] at h2; cases h2
    exact ⟨e3, m, by rw [set_off n]; exact h2⟩
/-- a mutable list is changed -/
theorem Sep.hot (S : Sep K B C H σ ρ) {i : Nat} {ds es : List Dt} {a : Addr} {ws : List V} (h : ρ[i]? = some (.hot ds)) (e : σ[i]? = some (some (V.ref a))) (r : RpL K C ws es) : Sep K B C (upd H a (.lst ws)) σ (ρ.set i (.hot es)) := by
  have ca := (S.mutH h rfl e).1
  have h0 := S.loc i a ds h e
  have nC : ∀ b o, C b = some o → b ≠ a := fun b o q z => by rw [z, ca] at q; cases q
  refine ⟨fun b o q => by rw [upd_ne (nC b o q)]; exact S.cold _ _ q, by rw [List.length_set]; exact S.len, fun j t q => ?_, fun j k b t u n h1 h2 m1 m2 e1 e2 => ?_, S.grow, S.new, fun b q => ?_, fun b o q n => ?_, fun j b es q q2 => ?_, fun j b n q q2 => ?_, fun j b q => ?_, S.pz⟩
  · rcases get_set q with ⟨rfl, rfl, l⟩ | ⟨n, q⟩
    · exact ⟨a, ws, e, upd_same, r, ca⟩
    · have w := S.sl j t q
      cases t with
      | un => trivial
      | dat d => exact w
      | hot fs =>
        obtain ⟨b, us, e3, h2, r2, h3⟩ := w
        have np : b ≠ a := fun z => S.ne i j a _ _ n h q rfl rfl e (z ▸ e3)
        exact ⟨b, us, e3, by rw [upd_ne np]; exact h2, r2, h3⟩
      | box m =>
        obtain ⟨b, e3, ⟨x, y, z, h2, hh⟩, h3⟩ := w
        have np : b ≠ a := fun z => S.ne i j a _ _ n h q rfl rfl e (z ▸ e3)
        exact ⟨b, e3, ⟨x, y, z, by rw [upd_ne np]; exact h2, hh⟩, h3⟩
  · have back : ∀ {m : Nat} {t : Sl}, (ρ.set i (.hot es))[m]? = some t → t.mut = true → ∃ t', ρ[m]? = some t' ∧ t'.mut = true := fun {m t} z y => by
      rcases get_set z with ⟨rfl, rfl, l⟩ | ⟨n, z⟩
      · exact ⟨_, h, rfl⟩
      · exact ⟨t, z, y⟩
    obtain ⟨t', h1, m1⟩ := back h1 m1
    obtain ⟨u', h2, m2⟩ := back h2 m2
    exact S.ne j k b t' u' n h1 h2 m1 m2 e1 e2
  · by_cases z : b = a
    · rw [z, upd_same]
      exact fun z => nomatch z
    · rw [upd_ne z]
      exact S.dom b q
  · have np : b ≠ a := fun z => by rw [z, h0] at q; cases q
    rw [upd_ne np]
    exact S.keep b o q n
  · rcases get_set q with ⟨rfl, z, l⟩ | ⟨n, q⟩
    · exact S.loc _ b ds h q2
    · exact S.loc j b _ q q2
  · rcases get_set q with ⟨rfl, z, l⟩ | ⟨n, q⟩
    · cases z
    · exact S.lob j b _ q q2
  · obtain ⟨e3, m, h2⟩ := S.par j b q
    have n : i ≠ j := fun z => by rw [← z, h] at h2; cases h2
    exact ⟨e3, m, by rw [set_off n]; exact h2⟩
end

end
section
variable {P : Program} {w : World} {K : PySem.W.Frag} {mg : Str → Option Value} {base : Heap}
/-! readings over data -/
inductive Ar where
  | d (x : Dt) | b (i : Nat)
inductive Ro where
  | dat (d : Dt) | new (ds : List Dt)
abbrev WE := List Sl → (Rs → List Sl → Prop) → Prop
abbrev WN := List Sl → (List Dt → List Sl → Prop) → Prop
abbrev WT := List Sl → (Bool → List Sl → Prop) → Prop
abbrev WA := List Sl → (List Ar → List Sl → Prop) → Prop
abbrev WG := Dt → List Sl → (List Sl → Prop) → Prop
def RsOk (K : PySem.W.Frag) (C : Hp) (σ : L2.St) (ρ : List Sl) (v : V) : Rs → Prop
  | .dat d => Rp K C v d
  | .hot i ds => σ[i]? = some (some v) ∧ ρ[i]? = some (.hot ds)
  | .box i n => σ[i]? = some (some v) ∧ ρ[i]? = some (.box n)
/-- data, or a list that may be changed of such -/
def Rt (K : PySem.W.Frag) (C H : Hp) (v : V) (d : Dt) : Prop := Rp K C v d ∨ ∃ a vs ds, v = .ref a ∧ d = .lst ds ∧ H a = some (.lst vs) ∧ RpL K C vs ds
def Fr (K : PySem.W.Frag) (B : Bs) (C H : Hp) (σ : L2.St) (ρ : List Sl) (a : Addr) (ds : List Dt) : Prop :=
  (∃ vs, H a = some (.lst vs) ∧ RpL K C vs ds) ∧ C a = none ∧ B.H0 a = none ∧ ∀ (j : Nat) (t : Sl), ρ[j]? = some t → t.mut = true → σ[j]? ≠ some (some (V.ref a))
class Sd (K : PySem.W.Frag) (t : TE) (w : outParam WE) : Prop where
  run : ∀ (B : Bs) (C H : Hp) (σ : L2.St) (ρ : List Sl) (Q : VK) (Ψ : Rs → List Sl → Prop), Sep K B C H σ ρ → w ρ Ψ → (∀ C' G v r ρ', Sep K B C' G σ ρ' → Same C C' → RsOk K C' σ ρ' v r → Ψ r ρ' → Q v G) → t σ H Q
class Sn (K : PySem.W.Frag) (t : TE) (w : outParam WN) : Prop where
  run : ∀ (B : Bs) (C H : Hp) (σ : L2.St) (ρ : List Sl) (Q : VK) (Ψ : List Dt → List Sl → Prop), Sep K B C H σ ρ → w ρ Ψ → (∀ C' G a ds ρ', Sep K B C' G σ ρ' → Same C C' → Fr K B C' G σ ρ' a ds → Ψ ds ρ' → Q (.ref a) G) → t σ H Q
class Sc (K : PySem.W.Frag) (t : TT) (w : outParam WT) : Prop where
  run : ∀ (B : Bs) (C H : Hp) (σ : L2.St) (ρ : List Sl) (Q : Bool → Hp → Prop) (Ψ : Bool → List Sl → Prop), Sep K B C H σ ρ → w ρ Ψ → (∀ C' G b ρ', Sep K B C' G σ ρ' → Same C C' → Ψ b ρ' → Q b G) → t σ H Q
def ArOk (K : PySem.W.Frag) (C : Hp) (σ : L2.St) (v : V) : Ar → Prop
  | .d x => Rp K C v x
  | .b i => σ[i]? = some (some v)
inductive ArL (K : PySem.W.Frag) (C : Hp) (σ : L2.St) : List V → List Ar → Prop
  | nil : ArL K C σ [] []
  | cons {v : V} {vs : List V} {a : Ar} {as : List Ar} : ArOk K C σ v a → ArL K C σ vs as → ArL K C σ (v :: vs) (a :: as)
class Sa (K : PySem.W.Frag) (t : TA) (w : outParam WA) : Prop where
  run : ∀ (B : Bs) (C H : Hp) (σ : L2.St) (ρ : List Sl) (Q : List V → Hp → Prop) (Ψ : List Ar → List Sl → Prop), Sep K B C H σ ρ → w ρ Ψ → (∀ C' G vs as ρ', Sep K B C' G σ ρ' → Same C C' → ArL K C' σ vs as → Ψ as ρ' → Q vs G) → t σ H Q
theorem ArOk.same {C G : Hp} {σ : L2.St} {v : V} {a : Ar} (h : ArOk K C σ v a) (s : Same C G) : ArOk K G σ v a := by
  cases a with
  | d x => exact Rp.same h s
  | b i => exact h
theorem ArL.same {C G : Hp} {σ : L2.St} (s : Same C G) : ∀ {vs : List V} {as : List Ar}, ArL K C σ vs as → ArL K G σ vs as
  | _, _, .nil => .nil
  | _, _, .cons h t => .cons (h.same s) (ArL.same s t)
/-- what is put into a thing grows cold -/
def store (r : Rs) (ρ : List Sl) (k : Ar → List Sl → Prop) : Prop := match r with
  | .dat d => k (.d d) ρ
  | .hot i ds => k (.d (.lst ds)) (ρ.set i (.dat (.lst ds)))
  | .box i _ => k (.b i) ρ
def Rs.val (ρ : List Sl) : Rs → Option Dt
  | .dat d => some d
  | .hot i _ => match ρ[i]? with
    | some (.hot ds) => some (.lst ds)
    | some (.dat d) => some d
    | _ => none
  | .box _ _ => none
def dats : List Ar → Option (List Dt)
  | [] => some []
  | .d x :: as => match dats as with
    | some ds => some (x :: ds)
    | none => none
  | .b _ :: _ => none
theorem ArL.dats {C : Hp} {σ : L2.St} : ∀ {vs : List V} {as : List Ar} {ds : List Dt}, ArL K C σ vs as → dats as = some ds → RpL K C vs ds
  | _, _, ds, .nil, e => by cases e; exact .nil
  | _, .d x :: as, ds, .cons h t, e => by
    unfold Sl.dats at e
    cases q : Sl.dats as with
    | none => rw [q] at e; cases e
    | some es =>
      rw [q] at e
      cases e
      exact .cons h (ArL.dats t q)
  | _, .b i :: as, ds, .cons h t, e => by cases e
section
variable {B : Bs} {C H G : Hp} {σ : L2.St} {ρ : List Sl}
theorem Sep.stored (S : Sep K B C H σ ρ) {v : V} {r : Rs} {k : Ar → List Sl → Prop} (h : RsOk K C σ ρ v r) (hk : store r ρ k) : ∃ C' a ρ', Sep K B C' H σ ρ' ∧ Same C C' ∧ ArOk K C' σ v a ∧ k a ρ' := by
  cases r with
  | dat d => exact ⟨C, .d d, ρ, S, Same.refl _, h, hk⟩
  | hot i ds =>
    obtain ⟨C', S', s, r⟩ := S.cool h.2 h.1
    exact ⟨C', .d (.lst ds), _, S', s, r, hk⟩
  | box i n => exact ⟨C, .b i, ρ, S, Same.refl _, h.1, hk⟩
theorem Sep.valOf (S : Sep K B C H σ ρ) {C0 : Hp} {ρ0 : List Sl} {v : V} {r : Rs} {d : Dt} (h : RsOk K C0 σ ρ0 v r) (s : Same C0 C) (e : r.val ρ = some d) : Rt K C H v d := by
  cases r with
  | dat d' => cases e; exact .inl (Rp.same h s)
  | hot i ds =>
    obtain ⟨h1, h2⟩ := h
    unfold Rs.val at e
    dsimp only at e
    cases q : ρ[i]? with
    | none => rw [q] at e; cases e
    | some t =>
      rw [q] at e
      cases t with
      | un => cases e
      | dat d' =>
        cases e
        obtain ⟨u, e1, r⟩ := S.sl i _ q
        rw [h1] at e1
        cases e1
        exact .inl r
      | hot es =>
        cases e
        obtain ⟨a, vs, e1, ha, r, _⟩ := S.sl i _ q
        rw [h1] at e1
        cases e1
        exact .inr ⟨a, vs, es, rfl, rfl, ha, r⟩
      | box n => cases e
  | box i n => cases e
theorem Sep.allocN (S : Sep K B C H σ ρ) {p : Addr} {o : HO} (hp : H p = none) : Sep K B C (upd H p o) σ ρ := by
  have sH : Same H (upd H p o) := same_new hp
  refine ⟨S.cold.trans sH, S.len, fun i s h => ?_, S.ne, S.grow, S.new, fun a h => ?_, fun a x h n => sH _ _ (S.keep a x h n), S.loc, S.lob, S.par, S.pz⟩
  · have q := S.sl i s h
    cases s with
    | un => trivial
    | dat d => exact q
    | hot ds =>
      obtain ⟨a, vs, e, h2, r, h3⟩ := q
      exact ⟨a, vs, e, sH _ _ h2, r, h3⟩
    | box n =>
      obtain ⟨a, e, b, h3⟩ := q
      exact ⟨a, e, b.same sH, h3⟩
  · by_cases z : a = p
    · subst z
      rw [upd_same]
      exact fun z => nomatch z
    · rw [upd_ne z]
      exact S.dom a h
theorem Sep.free0 (S : Sep K B C H σ ρ) {p : Addr} (hp : H p = none) : B.H0 p = none := by
  cases q : B.H0 p with
  | none => rfl
  | some u => exact absurd hp (S.dom p (by rw [q]; exact fun z => nomatch z))
theorem Sep.nohot (S : Sep K B C H σ ρ) {p : Addr} (hp : H p = none) : ∀ (j : Nat) (t : Sl), ρ[j]? = some t → t.mut = true → σ[j]? ≠ some (some (V.ref p)) := fun j t h m e => (S.mutH h m e).2 hp
theorem Sep.frN (S : Sep K B C H σ ρ) {p : Addr} {vs : List V} {ds : List Dt} (hp : H p = none) (r : RpL K C vs ds) : Fr K B C (upd H p (.lst vs)) σ ρ p ds :=
  ⟨⟨vs, upd_same, r⟩, S.cold.free hp, S.free0 hp, S.nohot hp⟩
/-- a new list grows cold -/
theorem Fr.cool {a : Addr} {ds : List Dt} (f : Fr K B C H σ ρ a ds) (S : Sep K B C H σ ρ) : ∃ C', Sep K B C' H σ ρ ∧ Same C C' ∧ Rp K C' (.ref a) (.lst ds) := by
  obtain ⟨⟨vs, ha, r⟩, ca, h0, nh⟩ := f
  have sC : Same C (upd C a (.lst vs)) := same_new ca
  refine ⟨upd C a (.lst vs), ⟨fun b o q => ?_, S.len, fun j t q => ?_, S.ne, S.grow.trans sC, fun b o q n => ?_, S.dom, S.keep, S.loc, S.lob, S.par, S.pz⟩, sC, .lst upd_same (r.same sC)⟩
  · by_cases z : b = a
    · subst z
      rw [upd_same] at q
      rw [ha]
      exact q
    · rw [upd_ne z] at q
      exact S.cold _ _ q
  · have w := S.sl j t q
    cases t with
    | un => trivial
    | dat d =>
      obtain ⟨v, e, r⟩ := w
      exact ⟨v, e, r.same sC⟩
    | hot es =>
      obtain ⟨b, ws, e3, h2, r2, h3⟩ := w
      have np : b ≠ a := fun z => nh j _ q rfl (z ▸ e3)
      exact ⟨b, ws, e3, h2, r2.same sC, by rw [upd_ne np]; exact h3⟩
    | box m =>
      obtain ⟨b, e3, h2, h3⟩ := w
      have np : b ≠ a := fun z => nh j _ q rfl (z ▸ e3)
      exact ⟨b, e3, h2, by rw [upd_ne np]; exact h3⟩
  · by_cases z : b = a
    · subst z
      exact h0
    · rw [upd_ne z] at q
      exact S.new b o q n
theorem Rt.list' {v : V} {ds : List Dt} (S : Sep K B C H σ ρ) (h : Rt K C H v (.lst ds)) : ∃ a vs, v = .ref a ∧ H a = some (.lst vs) ∧ RpL K C vs ds := by
  rcases h with h | ⟨b, vs, es, e1, e2, h, r⟩
  · cases h with
    | lst h r => exact ⟨_, _, rfl, S.cold _ _ h, r⟩
  · cases e1
    cases e2
    exact ⟨b, vs, rfl, h, r⟩
theorem Rt.tup' {v : V} {ds : List Dt} (S : Sep K B C H σ ρ) (h : Rt K C H v (.tup ds)) : ∃ a vs, v = .ref a ∧ SqT K H a vs ∧ RpL K C vs ds := by
  rcases h with h | ⟨b, vs, es, e1, e2, h, r⟩
  · cases h with
    | tup h r => exact ⟨_, _, rfl, seqT_same S.cold h, r⟩
  · cases e2
theorem Rt.int {v : V} {i : Int} (h : Rt K C H v (.int i)) : v = .int i := by
  rcases h with h | ⟨b, vs, es, e1, e2, h, r⟩
  · cases h; rfl
  · cases e2
theorem Rt.bl {v : V} {b : Bool} (h : Rt K C H v (.bl b)) : v = .bl b := by
  rcases h with h | ⟨b, vs, es, e1, e2, h, r⟩
  · cases h; rfl
  · cases e2
theorem Rt.str {v : V} {x : Str} (h : Rt K C H v (.str x)) : v = .str x := by
  rcases h with h | ⟨b, vs, es, e1, e2, h, r⟩
  · cases h; rfl
  · cases e2
theorem Rt.non {v : V} (h : Rt K C H v .non) : v = .non := by
  rcases h with h | ⟨b, vs, es, e1, e2, h, r⟩
  · cases h; rfl
  · cases e2
end
/-! names, constants -/
def wVar (i : Nat) : WE := fun ρ Ψ => match ρ[i]? with
  | some (.dat d) => Ψ (.dat d) ρ
  | some (.hot ds) => Ψ (.hot i ds) ρ
  | some (.box n) => Ψ (.box i n) ρ
  | _ => False
instance sd_var {i : Nat} : Sd K (tVar i) (wVar i) where
  run B C H σ ρ Q Ψ S h k := by
    unfold wVar at h
    cases q : ρ[i]? with
    | none => rw [q] at h; exact h.elim
    | some t =>
      rw [q] at h
      have s := S.sl i t q
      cases t with
      | un => exact h.elim
      | dat d =>
        obtain ⟨v, e, r⟩ := s
        exact ⟨v, e, k _ _ _ (.dat d) _ S (Same.refl _) r h⟩
      | hot ds =>
        obtain ⟨a, vs, e, _⟩ := s
        exact ⟨_, e, k _ _ _ (.hot i ds) _ S (Same.refl _) ⟨e, q⟩ h⟩
      | box n =>
        obtain ⟨a, e, _⟩ := s
        exact ⟨_, e, k _ _ _ (.box i n) _ S (Same.refl _) ⟨e, q⟩ h⟩
def datV : V → Option Dt
  | .non => some .non
  | .bl b => some (.bl b)
  | .int i => some (.int i)
  | .str x => some (.str x)
  | _ => none
theorem datV_ok {C : Hp} : ∀ {v : V} {d : Dt}, datV v = some d → Rp K C v d
  | .non, _, e => by cases e; exact .non
  | .bl b, _, e => by cases e; exact .bl b
  | .int i, _, e => by cases e; exact .int i
  | .str x, _, e => by cases e; exact .str x
def wC (v : V) : WE := fun ρ Ψ => match datV v with
  | some d => Ψ (.dat d) ρ
  | none => False
instance sd_c {v : V} : Sd K (tC v) (wC v) where
  run B C H σ ρ Q Ψ S h k := by
    unfold wC at h
    cases q : datV v with
    | none => rw [q] at h; exact h.elim
    | some d =>
      rw [q] at h
      exact k _ _ _ (.dat d) _ S (Same.refl _) (datV_ok q) h
/-! two operands -/
class So (K : PySem.W.Frag) (r : R2) (op : outParam (Dt → Dt → (Dt → Prop) → Prop)) : Prop where
  run : ∀ (B : Bs) (C H : Hp) (σ : L2.St) (ρ : List Sl) (x y : V) (dx dy : Dt) (Q : VK) (Φ : Dt → Prop), Sep K B C H σ ρ → Rt K C H x dx → Rt K C H y dy → op dx dy Φ → (∀ C' G v d, Sep K B C' G σ ρ → Same C C' → Rp K C' v d → Φ d → Q v G) → r x y H Q
def wOp (op : Dt → Dt → (Dt → Prop) → Prop) (wa wb : WE) : WE := fun ρ Ψ => wa ρ fun r1 ρ1 => wb ρ1 fun r2 ρ2 => match r1.val ρ2, r2.val ρ2 with
  | some d1, some d2 => op d1 d2 fun d => Ψ (.dat d) ρ2
  | _, _ => False
instance sd_op {r : R2} {op : Dt → Dt → (Dt → Prop) → Prop} {ta tb : TE} {wa wb : WE} [o : So K r op] [a : Sd K ta wa] [b : Sd K tb wb] : Sd K (tOp r ta tb) (wOp op wa wb) where
  run B C H σ ρ Q Ψ S h k := by
    refine a.run B C H σ ρ _ _ S h fun C1 H1 v1 r1 ρ1 S1 s1 ok1 h1 => ?_
    refine b.run B C1 H1 σ ρ1 _ _ S1 h1 fun C2 H2 v2 r2 ρ2 S2 s2 ok2 h2 => ?_
    cases q1 : r1.val ρ2 with
    | none => simp only [q1] at h2
    | some d1 =>
      cases q2 : r2.val ρ2 with
      | none => simp only [q1, q2] at h2
      | some d2 =>
        simp only [q1, q2] at h2
        exact o.run B C2 H2 σ ρ2 _ _ _ _ _ _ S2 (S2.valOf ok1 s2 q1) (S2.valOf ok2 (Same.refl _) q2) h2 fun C' G v d S' s' r' z => k _ _ _ (.dat d) _ S' (s1.trans (s2.trans s')) r' z
def oI (P : Int → Int → Prop) (g : Int → Int → V) : Dt → Dt → (Dt → Prop) → Prop
  | .int i, .int j, Φ => P i j ∧ (match datV (g i j) with | some d => Φ d | none => False)
  | _, _, _ => False
theorem oI_run {P : Int → Int → Prop} {g : Int → Int → V} {C H : Hp} {x y : V} {dx dy : Dt} {Φ : Dt → Prop} (hx : Rt K C H x dx) (hy : Rt K C H y dy) (h : oI P g dx dy Φ) : ∃ i j d, x = .int i ∧ y = .int j ∧ P i j ∧ datV (g i j) = some d ∧ Φ d := by
  cases dx <;> cases dy <;> try exact False.elim h
  rename_i i j
  obtain ⟨p, z⟩ := h
  cases q : datV (g i j) with
  | none => rw [q] at z; exact z.elim
  | some d =>
    rw [q] at z
    exact ⟨i, j, d, hx.int, hy.int, p, q, z⟩
instance so_I {P : Int → Int → Prop} {g : Int → Int → V} : So K (rI P g) (oI P g) where
  run B C H σ ρ x y dx dy Q Φ S hx hy h k := by
    obtain ⟨i, j, d, rfl, rfl, p, q, z⟩ := oI_run hx hy h
    exact ⟨i, j, rfl, rfl, p, k _ _ _ _ S (Same.refl _) (datV_ok q) z⟩
def oI0 (g : Int → Int → V) : Dt → Dt → (Dt → Prop) → Prop
  | .int i, .int j, Φ => (match datV (g i j) with | some d => Φ d | none => False)
  | _, _, _ => False
theorem oI0_run {g : Int → Int → V} {C H : Hp} {x y : V} {dx dy : Dt} {Φ : Dt → Prop} (hx : Rt K C H x dx) (hy : Rt K C H y dy) (h : oI0 g dx dy Φ) : ∃ i j d, x = .int i ∧ y = .int j ∧ datV (g i j) = some d ∧ Φ d := by
  cases dx <;> cases dy <;> try exact False.elim h
  rename_i i j
  have z : (match datV (g i j) with | some d => Φ d | none => False) := h
  cases q : datV (g i j) with
  | none => rw [q] at z; exact z.elim
  | some d =>
    rw [q] at z
    exact ⟨i, j, d, hx.int, hy.int, q, z⟩
instance so_I0 {g : Int → Int → V} : So K (rI0 g) (oI0 g) where
  run B C H σ ρ x y dx dy Q Φ S hx hy h k := by
    obtain ⟨i, j, d, rfl, rfl, q, z⟩ := oI0_run hx hy h
    exact ⟨i, j, rfl, rfl, k _ _ _ _ S (Same.refl _) (datV_ok q) z⟩
/-! xs[i] -/
def oIxL : Dt → Dt → (Dt → Prop) → Prop
  | .lst ds, .int i, Φ => ∃ d, atI ds i = some d ∧ Φ d
  | _, _, _ => False
def oIxT : Dt → Dt → (Dt → Prop) → Prop
  | .tup ds, .int i, Φ => ∃ d, atI ds i = some d ∧ Φ d
  | _, _, _ => False
theorem RpL.atI {C : Hp} {vs : List V} {ds : List Dt} {i : Int} {d : Dt} (r : RpL K C vs ds) (e : L2.atI ds i = some d) : ∃ v, L2.atI vs i = some v ∧ Rp K C v d := by
  unfold L2.atI at e ⊢
  rw [r.len]
  cases q : ixN ds.length i with
  | none => rw [q] at e; cases e
  | some j =>
    rw [q] at e
    exact r.at' (i := j) e
instance so_ixL : So K (rIxL K) oIxL where
  run B C H σ ρ x y dx dy Q Φ S hx hy h k := by
    cases dx <;> cases dy <;> try exact False.elim h
    obtain ⟨d, e, z⟩ := h
    obtain ⟨a, vs, rfl, hs, r⟩ := hx.list' S
    obtain ⟨v, ev, rv⟩ := r.atI e
    exact ⟨a, vs, _, v, rfl, hy.int, SqL.of hs, ev, k _ _ _ _ S (Same.refl _) rv z⟩
instance so_ixT : So K (rIxT K) oIxT where
  run B C H σ ρ x y dx dy Q Φ S hx hy h k := by
    cases dx <;> cases dy <;> try exact False.elim h
    obtain ⟨d, e, z⟩ := h
    obtain ⟨a, vs, rfl, hs, r⟩ := hx.tup' S
    obtain ⟨v, ev, rv⟩ := r.atI e
    exact ⟨a, vs, _, v, rfl, hy.int, hs, ev, k _ _ _ _ S (Same.refl _) rv z⟩
/-! new lists -/
def wCool (w : WN) : WE := fun ρ Ψ => w ρ fun ds ρ' => Ψ (.dat (.lst ds)) ρ'
instance (priority := low) sd_new {t : TE} {w : WN} [n : Sn K t w] : Sd K t (wCool w) where
  run B C H σ ρ Q Ψ S h k := n.run B C H σ ρ _ _ S h fun C1 H1 a ds ρ1 S1 s1 f z => by
    obtain ⟨C', S', s', r'⟩ := f.cool S1
    exact k _ _ _ (.dat (.lst ds)) _ S' (s1.trans s') r' z
def wANil : WA := fun ρ Ψ => Ψ [] ρ
def wACons (wa : WE) (wr : WA) : WA := fun ρ Ψ => wa ρ fun r ρ1 => store r ρ1 fun a ρ2 => wr ρ2 fun as ρ3 => Ψ (a :: as) ρ3
instance sa_nil : Sa K tNil wANil where
  run B C H σ ρ Q Ψ S h k := k _ _ _ _ _ S (Same.refl _) .nil h
instance sa_cons {ta : TE} {tr : TA} {wa : WE} {wr : WA} [a : Sd K ta wa] [b : Sa K tr wr] : Sa K (tCons ta tr) (wACons wa wr) where
  run B C H σ ρ Q Ψ S h k := by
    refine a.run B C H σ ρ _ _ S h fun C1 H1 v1 r1 ρ1 S1 s1 ok1 h1 => ?_
    obtain ⟨C2, x, ρ2, S2, s2, ok2, h2⟩ := S1.stored ok1 h1
    refine b.run B C2 H1 σ ρ2 _ _ S2 h2 fun C3 H3 vs as ρ3 S3 s3 ok3 h3 => ?_
    exact k _ _ _ _ _ S3 (s1.trans (s2.trans s3)) (.cons (ok2.same s3) ok3) h3
def wLst (wa : WA) : WN := fun ρ Ψ => wa ρ fun as ρ1 => match dats as with
  | some ds => ds.length ≤ sizeLine ∧ Ψ ds ρ1
  | none => False
instance sn_lst {ta : TA} {wa : WA} [a : Sa K ta wa] : Sn K (tLst ta) (wLst wa) where
  run B C H σ ρ Q Ψ S h k := by
    refine a.run B C H σ ρ _ _ S h fun C1 H1 vs as ρ1 S1 s1 ok1 h1 => ?_
    cases q : dats as with
    | none => simp only [q] at h1
    | some ds =>
      simp only [q] at h1
      have r := ok1.dats q
      exact ⟨by rw [r.len]; exact h1.1, fun p hp => k _ _ _ _ _ (S1.allocN hp) s1 (S1.frN hp r) h1.2⟩
def wTup (wa : WA) : WE := fun ρ Ψ => wa ρ fun as ρ1 => match dats as with
  | some ds => ds.length ≤ sizeLine ∧ Ψ (.dat (.tup ds)) ρ1
  | none => False
instance sd_tup {ta : TA} {wa : WA} [a : Sa K ta wa] : Sd K (tTup ta) (wTup wa) where
  run B C H σ ρ Q Ψ S h k := by
    refine a.run B C H σ ρ _ _ S h fun C1 H1 vs as ρ1 S1 s1 ok1 h1 => ?_
    cases q : dats as with
    | none => simp only [q] at h1
    | some ds =>
      simp only [q] at h1
      have r := ok1.dats q
      refine ⟨by rw [r.len]; exact h1.1, fun p hp => ?_⟩
      have sC : Same C1 (upd C1 p (.tup vs)) := same_new (S1.cold.free hp)
      exact k _ _ _ (.dat (.tup ds)) _ (S1.alloc hp) (s1.trans sC) (.tup (.inl (.inl upd_same)) (r.same sC)) h1.2
class Sno (K : PySem.W.Frag) (r : R2) (op : outParam (Dt → Dt → (List Dt → Prop) → Prop)) : Prop where
  run : ∀ (B : Bs) (C H : Hp) (σ : L2.St) (ρ : List Sl) (x y : V) (dx dy : Dt) (Q : VK) (Φ : List Dt → Prop), Sep K B C H σ ρ → Rt K C H x dx → Rt K C H y dy → op dx dy Φ → (∀ C' G a ds, Sep K B C' G σ ρ → Same C C' → Fr K B C' G σ ρ a ds → Φ ds → Q (.ref a) G) → r x y H Q
def wNop (op : Dt → Dt → (List Dt → Prop) → Prop) (wa wb : WE) : WN := fun ρ Ψ => wa ρ fun r1 ρ1 => wb ρ1 fun r2 ρ2 => match r1.val ρ2, r2.val ρ2 with
  | some d1, some d2 => op d1 d2 fun d => Ψ d ρ2
  | _, _ => False
instance sn_op {r : R2} {op : Dt → Dt → (List Dt → Prop) → Prop} {ta tb : TE} {wa wb : WE} [o : Sno K r op] [a : Sd K ta wa] [b : Sd K tb wb] : Sn K (tOp r ta tb) (wNop op wa wb) where
  run B C H σ ρ Q Ψ S h k := by
    refine a.run B C H σ ρ _ _ S h fun C1 H1 v1 r1 ρ1 S1 s1 ok1 h1 => ?_
    refine b.run B C1 H1 σ ρ1 _ _ S1 h1 fun C2 H2 v2 r2 ρ2 S2 s2 ok2 h2 => ?_
    cases q1 : r1.val ρ2 with
    | none => simp only [q1] at h2
    | some d1 =>
      cases q2 : r2.val ρ2 with
      | none => simp only [q1, q2] at h2
      | some d2 =>
        simp only [q1, q2] at h2
        exact o.run B C2 H2 σ ρ2 _ _ _ _ _ _ S2 (S2.valOf ok1 s2 q1) (S2.valOf ok2 (Same.refl _) q2) h2 fun C' G v d S' s' r' z => k _ _ _ _ _ S' (s1.trans (s2.trans s')) r' z

end
section
variable {P : Program} {w : World} {K : PySem.W.Frag} {mg : Str → Option Value} {base : Heap}
local macro_rules | `(tactic| get_elem_tactic_trivial) => `(tactic| (repeat first | exact Wk.nil | exact Wk'.nil | refine Wk.same ?_ | refine Wk'.same ?_ | refine Wk.un (fun _ z => nomatch z) ?_ | refine Wk'.un ?_))
/-! tests -/
def isBl (r : Rs) (k : Bool → Prop) : Prop := match r with
  | .dat (.bl b) => k b
  | _ => False
def wTest (w : WE) : WT := fun ρ Ψ => w ρ fun r ρ1 => isBl r fun b => Ψ b ρ1
theorem wTest_run {C : Hp} {σ : L2.St} {ρ : List Sl} {v : V} {r : Rs} {k : Bool → Prop} (ok : RsOk K C σ ρ v r) (h : isBl r k) : ∃ b, v = .bl b ∧ k b := by
  cases r with
  | dat d =>
    cases d <;> try exact False.elim h
    cases ok
    exact ⟨_, rfl, h⟩
  | hot i ds => exact False.elim h
  | box i n => exact False.elim h
instance sc_b {t : TE} {w : WE} [a : Sd K t w] : Sc K (tB t) (wTest w) where
  run B C H σ ρ Q Ψ S h k := a.run B C H σ ρ _ _ S h fun C1 H1 v1 r1 ρ1 S1 s1 ok1 h1 => by
    obtain ⟨b, rfl, z⟩ := wTest_run ok1 h1
    exact ⟨b, rfl, k _ _ _ _ S1 s1 z⟩
instance sc_test {t : TE} {w : WE} [a : Sd K t w] : Sc K (tTest t) (wTest w) where
  run B C H σ ρ Q Ψ S h k := a.run B C H σ ρ _ _ S h fun C1 H1 v1 r1 ρ1 S1 s1 ok1 h1 => by
    obtain ⟨b, rfl, z⟩ := wTest_run ok1 h1
    exact ⟨b, rfl, k _ _ _ _ S1 s1 z⟩
def wAnd (wa wb : WT) : WT := fun ρ Ψ => wa ρ fun b ρ1 => if b = true then wb ρ1 Ψ else Ψ false ρ1
def wOr (wa wb : WT) : WT := fun ρ Ψ => wa ρ fun b ρ1 => if b = true then Ψ true ρ1 else wb ρ1 Ψ
def wNot (wa : WT) : WT := fun ρ Ψ => wa ρ fun b ρ1 => Ψ (!b) ρ1
instance sc_and {ta tb : TT} {wa wb : WT} [a : Sc K ta wa] [b : Sc K tb wb] : Sc K (tAnd ta tb) (wAnd wa wb) where
  run B C H σ ρ Q Ψ S h k := a.run B C H σ ρ _ _ S h fun C1 H1 c ρ1 S1 s1 h1 => by
    cases c with
    | true => exact b.run B C1 H1 σ ρ1 _ _ S1 h1 fun C2 H2 e ρ2 S2 s2 h2 => k _ _ _ _ S2 (s1.trans s2) h2
    | false => exact k _ _ _ _ S1 s1 h1
instance sc_or {ta tb : TT} {wa wb : WT} [a : Sc K ta wa] [b : Sc K tb wb] : Sc K (tOr ta tb) (wOr wa wb) where
  run B C H σ ρ Q Ψ S h k := a.run B C H σ ρ _ _ S h fun C1 H1 c ρ1 S1 s1 h1 => by
    cases c with
    | false => exact b.run B C1 H1 σ ρ1 _ _ S1 h1 fun C2 H2 e ρ2 S2 s2 h2 => k _ _ _ _ S2 (s1.trans s2) h2
    | true => exact k _ _ _ _ S1 s1 h1
instance sc_not {ta : TT} {wa : WT} [a : Sc K ta wa] : Sc K (tNot ta) (wNot wa) where
  run B C H σ ρ Q Ψ S h k := a.run B C H σ ρ _ _ S h fun C1 H1 c ρ1 S1 s1 h1 => k _ _ _ _ S1 s1 h1
instance sc_yes : Sc K tYes (fun ρ Ψ => Ψ true ρ) where
  run B C H σ ρ Q Ψ S h k := k _ _ _ _ S (Same.refl _) h
def wBl (w : WT) : WE := fun ρ Ψ => w ρ fun b ρ1 => Ψ (.dat (.bl b)) ρ1
instance sd_not {ta : TE} {wa : WE} [a : Sd K ta wa] : Sd K (tNotV ta) (wBl (wNot (wTest wa))) where
  run B C H σ ρ Q Ψ S h k := a.run B C H σ ρ _ _ S h fun C1 H1 v1 r1 ρ1 S1 s1 ok1 h1 => by
    obtain ⟨b, rfl, z⟩ := wTest_run ok1 h1
    exact ⟨b, rfl, k _ _ _ (.dat _) _ S1 s1 (.bl _) z⟩
def wAndV (wa : WT) (wb : WE) : WE := fun ρ Ψ => wa ρ fun b ρ1 => if b = true then wb ρ1 Ψ else Ψ (.dat (.bl false)) ρ1
instance sd_and {ta tb : TE} {wa wb : WE} [a : Sd K ta wa] [b : Sd K tb wb] : Sd K (tAndV ta tb) (wAndV (wTest wa) wb) where
  run B C H σ ρ Q Ψ S h k := a.run B C H σ ρ _ _ S h fun C1 H1 v1 r1 ρ1 S1 s1 ok1 h1 => by
    obtain ⟨c, rfl, z⟩ := wTest_run ok1 h1
    refine ⟨c, rfl, ?_⟩
    cases c with
    | true => exact b.run B C1 H1 σ ρ1 _ _ S1 z fun C2 H2 v2 r2 ρ2 S2 s2 ok2 h2 => k _ _ _ _ _ S2 (s1.trans s2) ok2 h2
    | false => exact k _ _ _ (.dat _) _ S1 s1 (.bl _) z
def wIf (wc : WT) (wa wb : WE) : WE := fun ρ Ψ => wc ρ fun b ρ1 => if b = true then wa ρ1 Ψ else wb ρ1 Ψ
instance sd_if {tc : TT} {ta tb : TE} {wc : WT} {wa wb : WE} [c : Sc K tc wc] [a : Sd K ta wa] [b : Sd K tb wb] : Sd K (tIf tc ta tb) (wIf wc wa wb) where
  run B C H σ ρ Q Ψ S h k := c.run B C H σ ρ _ _ S h fun C1 H1 e ρ1 S1 s1 h1 => by
    cases e with
    | true => exact a.run B C1 H1 σ ρ1 _ _ S1 h1 fun C2 H2 v2 r2 ρ2 S2 s2 ok2 h2 => k _ _ _ _ _ S2 (s1.trans s2) ok2 h2
    | false => exact b.run B C1 H1 σ ρ1 _ _ S1 h1 fun C2 H2 v2 r2 ρ2 S2 s2 ok2 h2 => k _ _ _ _ _ S2 (s1.trans s2) ok2 h2
/-- a < b < c: b a plain value -/
def wChain (o o' : Dt → Dt → (Dt → Prop) → Prop) (wa wb wc : WE) : WE := fun ρ Ψ => wa ρ fun r1 ρ1 => wb ρ1 fun r2 ρ2 => match r1, r2 with
  | .dat d1, .dat d2 => o d1 d2 fun d => match d with
    | .bl b => if b = true then wc ρ2 fun r3 ρ3 => match r3 with
      | .dat d3 => o' d2 d3 fun d => Ψ (.dat d) ρ3
      | _ => False
      else Ψ (.dat (.bl false)) ρ2
    | _ => False
  | _, _ => False
instance sd_chain {r r' : R2} {o o' : Dt → Dt → (Dt → Prop) → Prop} {ta tb tc : TE} {wa wb wc : WE} [p : So K r o] [p' : So K r' o'] [a : Sd K ta wa] [b : Sd K tb wb] [c : Sd K tc wc] : Sd K (tChain r r' ta tb tc) (wChain o o' wa wb wc) where
  run B C H σ ρ Q Ψ S h k := by
    refine a.run B C H σ ρ _ _ S h fun C1 H1 v1 r1 ρ1 S1 s1 ok1 h1 => ?_
    refine b.run B C1 H1 σ ρ1 _ _ S1 h1 fun C2 H2 v2 r2 ρ2 S2 s2 ok2 h2 => ?_
    cases r1 <;> cases r2 <;> try exact False.elim h2
    rename_i d1 d2
    refine p.run B C2 H2 σ ρ2 _ _ _ _ _ _ S2 (.inl (Rp.same ok1 s2)) (.inl ok2) h2 fun C3 H3 v d S3 s3 r3 z => ?_
    cases d <;> try exact False.elim z
    rename_i e
    cases r3
    refine ⟨e, rfl, ?_⟩
    cases e with
    | false => exact k _ _ _ (.dat _) _ S3 (s1.trans (s2.trans s3)) (.bl _) z
    | true =>
      refine c.run B C3 H3 σ ρ2 _ _ S3 z fun C4 H4 v4 r4 ρ4 S4 s4 ok4 h4 => ?_
      cases r4 <;> try exact False.elim h4
      refine p'.run B C4 H4 σ ρ4 _ _ _ _ _ _ S4 (.inl ((Rp.same ok2 s3).same s4)) (.inl ok4) h4 fun C5 H5 v5 d5 S5 s5 r5 z5 => ?_
      exact k _ _ _ (.dat _) _ S5 (s1.trans (s2.trans (s3.trans (s4.trans s5)))) r5 z5
/-! builtins by name -/
class Sb (K : PySem.W.Frag) (r : List V → Hp → VK → Prop) (f : outParam (List Dt → (Dt → Prop) → Prop)) : Prop where
  run : ∀ (B : Bs) (C H : Hp) (σ : L2.St) (ρ : List Sl) (vs : List V) (ds : List Dt) (Q : VK) (Φ : Dt → Prop), Sep K B C H σ ρ → RpL K C vs ds → f ds Φ → (∀ C' G v d, Sep K B C' G σ ρ → Same C C' → Rp K C' v d → Φ d → Q v G) → r vs H Q
def wCB (f : List Dt → (Dt → Prop) → Prop) (wa : WA) : WE := fun ρ Ψ => wa ρ fun as ρ1 => match dats as with
  | some ds => f ds fun d => Ψ (.dat d) ρ1
  | none => False
instance sd_cb {r : List V → Hp → VK → Prop} {f : List Dt → (Dt → Prop) → Prop} {ta : TA} {wa : WA} [b : Sb K r f] [a : Sa K ta wa] : Sd K (tCB r ta) (wCB f wa) where
  run B C H σ ρ Q Ψ S h k := a.run B C H σ ρ _ _ S h fun C1 H1 vs as ρ1 S1 s1 ok1 h1 => by
    cases q : dats as with
    | none => simp only [q] at h1
    | some ds =>
      simp only [q] at h1
      exact b.run B C1 H1 σ ρ1 _ _ _ _ S1 (ok1.dats q) h1 fun C2 H2 v d S2 s2 r2 z => k _ _ _ (.dat d) _ S2 (s1.trans s2) r2 z
/-! statements -/
structure Fs where
  nx : List Sl → Prop
  rt : Ro → List Sl → Prop
  bk : List Sl → Prop
  ct : List Sl → Prop
abbrev WS := List Sl → Fs → Prop
def RoOk (K : PySem.W.Frag) (B : Bs) (C H : Hp) (σ : L2.St) (ρ : List Sl) (v : V) : Ro → Prop
  | .dat d => Rp K C v d
  | .new ds => ∃ a, v = .ref a ∧ Fr K B C H σ ρ a ds
structure Meets (K : PySem.W.Frag) (B : Bs) (Φ : Fs) (D : Ends) : Prop where
  nx : ∀ C H σ ρ, Sep K B C H σ ρ → Φ.nx ρ → D.nx σ H
  rt : ∀ C H σ ρ v r, Sep K B C H σ ρ → RoOk K B C H σ ρ v r → Φ.rt r ρ → D.rt v H
  bk : ∀ C H σ ρ, Sep K B C H σ ρ → Φ.bk ρ → D.bk σ H
  ct : ∀ C H σ ρ, Sep K B C H σ ρ → Φ.ct ρ → D.ct σ H
class Ss (K : PySem.W.Frag) (t : TS) (w : outParam WS) : Prop where
  run : ∀ (B : Bs) (C H : Hp) (σ : L2.St) (ρ : List Sl) (D : Ends) (Φ : Fs), Sep K B C H σ ρ → w ρ Φ → Meets K B Φ D → t D σ H
instance ss_next : Ss K tNext (fun ρ Φ => Φ.nx ρ) where
  run B C H σ ρ D Φ S h m := m.nx _ _ _ _ S h
def wSeq (wt wu : WS) : WS := fun ρ Φ => wt ρ { Φ with nx := fun ρ' => wu ρ' Φ }
instance ss_seq {t u : TS} {wt wu : WS} [a : Ss K t wt] [b : Ss K u wu] : Ss K (tSeq t u) (wSeq wt wu) where
  run B C H σ ρ D Φ S h m := a.run B C H σ ρ _ _ S h ⟨fun C1 H1 σ1 ρ1 S1 z => b.run B C1 H1 σ1 ρ1 _ _ S1 z m, m.rt, m.bk, m.ct⟩
/-- slot i, no box of the def's own, is put -/
def put (i : Nat) (s : Sl) (ρ : List Sl) (k : List Sl → Prop) : Prop := match i, ρ[i]? with
  | 0, some (.box _) => False
  | _, _ => k (ρ.set i s)
theorem put_run {i : Nat} {s : Sl} {ρ : List Sl} {k : List Sl → Prop} (h : put i s ρ k) : (i = 0 → ∀ n, ρ[i]? ≠ some (.box n)) ∧ k (ρ.set i s) := by
  unfold put at h
  split at h
  · exact h.elim
  · rename_i x y z
    exact ⟨fun e n q => z n e q, h⟩
class Sg (K : PySem.W.Frag) (g : TG) (w : outParam WG) : Prop where
  run : ∀ (B : Bs) (C H : Hp) (σ : L2.St) (ρ : List Sl) (v : V) (d : Dt) (Q : L2.St → Hp → Prop) (Ψ : List Sl → Prop), Sep K B C H σ ρ → Rp K C v d → w d ρ Ψ → (∀ σ' ρ', Sep K B C H σ' ρ' → Ψ ρ' → Q σ' H) → g v σ H Q
instance sg_name {i : Nat} : Sg K (gName i) (fun d ρ k => put i (.dat d) ρ k) where
  run B C H σ ρ v d Q Ψ S r h k := by
    obtain ⟨h1, h2⟩ := put_run h
    exact k _ _ (S.dat h1 r) h2
class Sgs (K : PySem.W.Frag) (g : TGs) (w : outParam (List Dt → List Sl → (List Sl → Prop) → Prop)) : Prop where
  run : ∀ (B : Bs) (C H : Hp) (σ : L2.St) (ρ : List Sl) (vs : List V) (ds : List Dt) (Q : L2.St → Hp → Prop) (Ψ : List Sl → Prop), Sep K B C H σ ρ → RpL K C vs ds → w ds ρ Ψ → (∀ σ' ρ', Sep K B C H σ' ρ' → Ψ ρ' → Q σ' H) → g vs σ H Q
def wgNil : List Dt → List Sl → (List Sl → Prop) → Prop
  | [], ρ, k => k ρ
  | _ :: _, _, _ => False
def wgCons (w : WG) (ws : List Dt → List Sl → (List Sl → Prop) → Prop) : List Dt → List Sl → (List Sl → Prop) → Prop
  | [], _, _ => False
  | d :: ds, ρ, k => w d ρ fun ρ1 => ws ds ρ1 k
instance sgs_nil : Sgs K gNil wgNil where
  run B C H σ ρ vs ds Q Ψ S r h k := by
    cases r with
    | nil => exact And.intro rfl (k _ _ S h)
    | cons a b => exact False.elim h
instance sgs_cons {g : TG} {gs : TGs} {w : WG} {ws : List Dt → List Sl → (List Sl → Prop) → Prop} [a : Sg K g w] [b : Sgs K gs ws] : Sgs K (gCons g gs) (wgCons w ws) where
  run B C H σ ρ vs ds Q Ψ S r h k := by
    cases r with
    | nil => exact False.elim h
    | cons r1 r2 => exact ⟨_, _, rfl, a.run B C H σ ρ _ _ _ _ S r1 h fun σ1 ρ1 S1 h1 => b.run B C H σ1 ρ1 _ _ _ _ S1 r2 h1 k⟩
def wgTup (n : Nat) (ws : List Dt → List Sl → (List Sl → Prop) → Prop) : WG
  | .tup ds, ρ, k => ds.length = n ∧ ws ds ρ k
  | _, _, _ => False
instance sg_tup {n : Nat} {gs : TGs} {ws : List Dt → List Sl → (List Sl → Prop) → Prop} [a : Sgs K gs ws] : Sg K (gTup K n gs) (wgTup n ws) where
  run B C H σ ρ v d Q Ψ S r h k := by
    cases d <;> try exact False.elim h
    cases r with
    | tup hs rl => exact ⟨_, _, rfl, seqT_same S.cold hs, by rw [rl.len]; exact h.1, a.run B C H σ ρ _ _ _ _ S rl h.2 k⟩
def wAsg (w : WE) (wg : WG) : WS := fun ρ Φ => w ρ fun r ρ1 => store r ρ1 fun a ρ2 => match a with
  | .d x => wg x ρ2 Φ.nx
  | .b _ => False
instance (priority := 900) ss_asg {te : TE} {g : TG} {w : WE} {wg : WG} [a : Sd K te w] [b : Sg K g wg] : Ss K (tAsg te g) (wAsg w wg) where
  run B C H σ ρ D Φ S h m := a.run B C H σ ρ _ _ S h fun C1 H1 v1 r1 ρ1 S1 s1 ok1 h1 => by
    obtain ⟨C2, x, ρ2, S2, s2, ok2, h2⟩ := S1.stored ok1 h1
    cases x with
    | b i => exact False.elim h2
    | d x => exact b.run B C2 H1 σ ρ2 _ _ _ _ S2 ok2 h2 fun σ' ρ' S' z => m.nx _ _ _ _ S' z
def wAsgN (i : Nat) (w : WN) : WS := fun ρ Φ => w ρ fun ds ρ1 => put i (.hot ds) ρ1 Φ.nx
instance ss_asgN {te : TE} {i : Nat} {w : WN} [a : Sn K te w] : Ss K (tAsg te (gName i)) (wAsgN i w) where
  run B C H σ ρ D Φ S h m := a.run B C H σ ρ _ _ S h fun C1 H1 a ds ρ1 S1 s1 f z => by
    obtain ⟨h1, h2⟩ := put_run z
    obtain ⟨⟨vs, ha, r⟩, ca, h0, nh⟩ := f
    exact m.nx _ _ _ _ (S1.put (x := some (.ref a)) (s := .hot ds) h1 (fun _ => ⟨a, vs, rfl, ha, r, ca⟩) fun _ b e => by cases e; exact ⟨fun j t _ => nh j t, h0⟩) h2
def wPar (i j : Nat) (wa : WA) : WS := fun ρ Φ => wa ρ fun as ρ1 => match dats as with
  | some [x, y] => put i (.dat x) ρ1 fun ρ2 => put j (.dat y) ρ2 Φ.nx
  | _ => False
instance ss_par {i j : Nat} {ta : TA} {wa : WA} [a : Sa K ta wa] : Ss K (tPar i j ta) (wPar i j wa) where
  run B C H σ ρ D Φ S h m := a.run B C H σ ρ _ _ S h fun C1 H1 vs as ρ1 S1 s1 ok1 h1 => by
    cases q : dats as with
    | none => simp only [q] at h1
    | some ds =>
      simp only [q] at h1
      have r := ok1.dats q
      match ds, r, h1 with
      | [x, y], .cons r1 (.cons r2 .nil), h1 =>
        obtain ⟨p1, h2⟩ := put_run h1
        obtain ⟨p2, h3⟩ := put_run h2
        exact ⟨_, _, rfl, m.nx _ _ _ _ ((S1.dat p1 r1).dat p2 r2) h3⟩
def wPar3 (i j l : Nat) (wa : WA) : WS := fun ρ Φ => wa ρ fun as ρ1 => match dats as with
  | some [x, y, z] => put i (.dat x) ρ1 fun ρ2 => put j (.dat y) ρ2 fun ρ3 => put l (.dat z) ρ3 Φ.nx
  | _ => False
instance ss_par3 {i j l : Nat} {ta : TA} {wa : WA} [a : Sa K ta wa] : Ss K (tPar3 i j l ta) (wPar3 i j l wa) where
  run B C H σ ρ D Φ S h m := a.run B C H σ ρ _ _ S h fun C1 H1 vs as ρ1 S1 s1 ok1 h1 => by
    cases q : dats as with
    | none => simp only [q] at h1
    | some ds =>
      simp only [q] at h1
      have r := ok1.dats q
      match ds, r, h1 with
      | [x, y, z], .cons r1 (.cons r2 (.cons r3 .nil)), h1 =>
        obtain ⟨p1, h2⟩ := put_run h1
        obtain ⟨p2, h3⟩ := put_run h2
        obtain ⟨p3, h4⟩ := put_run h3
        exact ⟨_, _, _, rfl, m.nx _ _ _ _ (((S1.dat p1 r1).dat p2 r2).dat p3 r3) h4⟩
def wDrop (w : WE) : WS := fun ρ Φ => w ρ fun _ ρ1 => Φ.nx ρ1
instance ss_drop {te : TE} {w : WE} [a : Sd K te w] : Ss K (tDrop te) (wDrop w) where
  run B C H σ ρ D Φ S h m := a.run B C H σ ρ _ _ S h fun C1 H1 v1 r1 ρ1 S1 s1 ok1 h1 => m.nx _ _ _ _ S1 h1
def wRet (w : WE) : WS := fun ρ Φ => w ρ fun r ρ1 => match r with
  | .dat d => Φ.rt (.dat d) ρ1
  | .hot i ds => Φ.rt (.new ds) (ρ1.set i .un)
  | .box _ _ => False
instance (priority := 900) ss_ret {te : TE} {w : WE} [a : Sd K te w] : Ss K (tRet te) (wRet w) where
  run B C H σ ρ D Φ S h m := a.run B C H σ ρ _ _ S h fun C1 H1 v1 r1 ρ1 S1 s1 ok1 h1 => by
    cases r1 with
    | dat d => exact m.rt _ _ _ _ _ (.dat d) S1 ok1 h1
    | box i n => exact False.elim h1
    | hot i ds =>
      obtain ⟨e1, e2⟩ := ok1
      obtain ⟨b, vs, e3, hb, r, cb⟩ := S1.sl i _ e2
      rw [e1] at e3
      cases e3
      have S2 := S1.un (i := i) (x := some (.ref b)) (fun _ n z => by rw [e2] at z; cases z)
      have eσ : σ.set i (some (V.ref b)) = σ := by
        apply List.ext_getElem?
        intro j
        by_cases z : i = j
        · subst z
          rw [set_at (by
            cases Nat.lt_or_ge i σ.length with
            | inl h => exact h
            | inr g => rw [List.getElem?_eq_none g] at e1; cases e1)]
          exact e1.symm
        · rw [set_off z]
      rw [eσ] at S2
      refine m.rt _ _ _ _ _ (.new ds) S2 ⟨b, rfl, ⟨vs, hb, r⟩, cb, S1.loc i b ds e2 e1, fun j t q mt e => ?_⟩ h1
      rcases get_set q with ⟨rfl, rfl, _⟩ | ⟨n, q⟩
      · cases mt
      · exact S1.ne i j b _ _ n e2 q rfl mt e1 e
def wRetN' (w : WN) : WS := fun ρ Φ => w ρ fun ds ρ1 => Φ.rt (.new ds) ρ1
instance ss_retN' {te : TE} {w : WN} [a : Sn K te w] : Ss K (tRet te) (wRetN' w) where
  run B C H σ ρ D Φ S h m := a.run B C H σ ρ _ _ S h fun C1 H1 b ds ρ1 S1 s1 f z => m.rt _ _ _ _ _ (.new ds) S1 ⟨b, rfl, f⟩ z
def wIfS (wc : WT) (wt wu : WS) : WS := fun ρ Φ => wc ρ fun b ρ1 => if b = true then wt ρ1 Φ else wu ρ1 Φ
instance ss_if {tc : TT} {t u : TS} {wc : WT} {wt wu : WS} [c : Sc K tc wc] [a : Ss K t wt] [b : Ss K u wu] : Ss K (tIfS tc t u) (wIfS wc wt wu) where
  run B C H σ ρ D Φ S h m := c.run B C H σ ρ _ _ S h fun C1 H1 e ρ1 S1 s1 h1 => by
    cases e with
    | true => exact a.run B C1 H1 σ ρ1 _ _ S1 h1 m
    | false => exact b.run B C1 H1 σ ρ1 _ _ S1 h1 m
/-- some slots are let go of -/
inductive Wk' : List Sl → List Sl → Prop
  | nil : Wk' [] []
  | same {s : Sl} {ρ ρ' : List Sl} : Wk' ρ ρ' → Wk' (s :: ρ) (s :: ρ')
  | un {s : Sl} {ρ ρ' : List Sl} : Wk' ρ ρ' → Wk' (s :: ρ) (.un :: ρ')
inductive Wk : List Sl → List Sl → Prop
  | nil : Wk [] []
  | same {s : Sl} {ρ ρ' : List Sl} : Wk' ρ ρ' → Wk (s :: ρ) (s :: ρ')
  | un {s : Sl} {ρ ρ' : List Sl} : (∀ n, s ≠ .box n) → Wk' ρ ρ' → Wk (s :: ρ) (.un :: ρ')
theorem Wk'.len : ∀ {ρ ρ' : List Sl}, Wk' ρ ρ' → ρ.length = ρ'.length
  | _, _, .nil => rfl
  | _, _, .same h => congrArg Nat.succ h.len
  | _, _, .un h => congrArg Nat.succ h.len
theorem Wk'.at : ∀ {ρ ρ' : List Sl} {i : Nat} {s : Sl}, Wk' ρ ρ' → ρ'[i]? = some s → s ≠ .un → ρ[i]? = some s
  | _, _, i, s, .nil, h, n => h
  | _, _, 0, s, .same w, h, n => h
  | _, _, 0, s, .un w, h, n => absurd (Option.some.inj h).symm n
  | _, _, i + 1, s, .same w, h, n => Wk'.at (i := i) w h n
  | _, _, i + 1, s, .un w, h, n => Wk'.at (i := i) w h n
theorem Wk.len : ∀ {ρ ρ' : List Sl}, Wk ρ ρ' → ρ.length = ρ'.length
  | _, _, .nil => rfl
  | _, _, .same h => congrArg Nat.succ h.len
  | _, _, .un _ h => congrArg Nat.succ h.len
theorem Wk.at : ∀ {ρ ρ' : List Sl} {i : Nat} {s : Sl}, Wk ρ ρ' → ρ'[i]? = some s → s ≠ .un → ρ[i]? = some s
  | _, _, i, s, .nil, h, n => h
  | _, _, 0, s, .same w, h, n => h
  | _, _, 0, s, .un _ w, h, n => absurd (Option.some.inj h).symm n
  | _, _, i + 1, s, .same w, h, n => Wk'.at (i := i) w h n
  | _, _, i + 1, s, .un _ w, h, n => Wk'.at (i := i) w h n
theorem Wk.box : ∀ {ρ ρ' : List Sl} {n : Int}, Wk ρ ρ' → ρ[0]? = some (.box n) → ρ'[0]? = some (.box n)
  | _, _, n, .nil, h => h
  | _, _, n, .same w, h => h
  | _, _, n, .un z w, h => absurd (Option.some.inj h) (z n)
theorem Sep.weak {B : Bs} {C H : Hp} {σ : L2.St} {ρ ρ' : List Sl} (S : Sep K B C H σ ρ) (w : Wk ρ ρ') : Sep K B C H σ ρ' := by
  have mu : ∀ {t : Sl}, t.mut = true → t ≠ .un := fun m z => by rw [z] at m; cases m
  refine ⟨S.cold, by rw [← w.len]; exact S.len, fun i s h => ?_, fun i j a s t n h1 h2 m1 m2 e1 e2 => S.ne i j a s t n (w.at h1 (mu m1)) (w.at h2 (mu m2)) m1 m2 e1 e2, S.grow, S.new, S.dom, S.keep, fun i a ds h e => S.loc i a ds (w.at h fun z => nomatch z) e, fun i a n h e => S.lob i a n (w.at h fun z => nomatch z) e, fun i a h => ?_, S.pz⟩
  · cases s with
    | un => trivial
    | dat d => exact S.sl i _ (w.at h fun z => nomatch z)
    | hot ds => exact S.sl i _ (w.at h fun z => nomatch z)
    | box n => exact S.sl i _ (w.at h fun z => nomatch z)
  · obtain ⟨h1, n, h2⟩ := S.par i a h
    have e := S.pz i a h
    subst e
    exact ⟨h1, n, w.box h2⟩
/-- to a state that is known less of -/
def To (I : List Sl → Prop) (ρ : List Sl) : Prop := ∃ ρ', Wk ρ ρ' ∧ I ρ'
theorem To.of {I : List Sl → Prop} {ρ ρ' : List Sl} (h : I ρ') (w : Wk ρ ρ') : To I ρ := ⟨ρ', w, h⟩
local macro_rules | `(tactic| get_elem_tactic_trivial) => `(tactic| (repeat first | exact Wk.nil | exact Wk'.nil | refine Wk.same ?_ | refine Wk'.same ?_ | refine Wk.un (fun _ z => nomatch z) ?_ | refine Wk'.un ?_))
/-! loops -/
def ItD (K : PySem.W.Frag) (J : It) (C : Hp) (items : List Dt) : Prop := ∀ B C2 H2 σ2 ρ2, Sep K B C2 H2 σ2 ρ2 → Same C C2 →
  (∀ i, i < items.length → J.go i H2) ∧ J.stop items.length H2 ∧ ∀ i x H' d, items[i]? = some d → J.yld i H2 x H' → ∃ C3, Sep K B C3 H' σ2 ρ2 ∧ Same C2 C3 ∧ Rp K C3 x d
abbrev WI := List Sl → (List Dt → List Sl → Prop) → Prop
class Si (K : PySem.W.Frag) (t : TI) (w : outParam WI) : Prop where
  run : ∀ (B : Bs) (C H : Hp) (σ : L2.St) (ρ : List Sl) (R : It → Hp → Prop) (Ψ : List Dt → List Sl → Prop), Sep K B C H σ ρ → w ρ Ψ → (∀ C' G J items ρ', Sep K B C' G σ ρ' → Same C C' → ItD K J C' items → Ψ items ρ' → R J G) → t σ H R
def wFor (wi : WI) (wg : WG) (wb : WS) : WS := fun ρ Φ => wi ρ fun items ρ1 => ∃ I : Nat → List Sl → Prop, To (I 0) ρ1 ∧
  (∀ k ρ d, items[k]? = some d → I k ρ → wg d ρ fun ρ2 => wb ρ2 { Φ with nx := To (I (k + 1)), ct := To (I (k + 1)), bk := Φ.nx }) ∧ ∀ ρ, I items.length ρ → Φ.nx ρ
instance ss_for {ti : TI} {g : TG} {tb : TS} {wi : WI} {wg : WG} {wb : WS} [i : Si K ti wi] [a : Sg K g wg] [b : Ss K tb wb] : Ss K (tFor ti g tb) (wFor wi wg wb) where
  run B C H σ ρ D Φ S h m := i.run B C H σ ρ _ _ S h fun C1 H1 J items ρ1 S1 s1 hJ h1 => by
    obtain ⟨I, ⟨ρ0, w0, i0⟩, step, fin⟩ := h1
    refine ⟨fun k n σ2 H2 => n = items.length - k ∧ k ≤ items.length ∧ ∃ C2 ρ2, Sep K B C2 H2 σ2 ρ2 ∧ Same C1 C2 ∧ I k ρ2, ⟨_, rfl, Nat.zero_le _, C1, ρ0, S1.weak w0, Same.refl _, i0⟩, ?_⟩
    rintro k n σ2 H2 ⟨rfl, hk, C2, ρ2, S2, s2, hI⟩
    obtain ⟨go, stop, yld⟩ := hJ B C2 H2 σ2 ρ2 S2 s2
    by_cases hlt : k < items.length
    · refine .inr ⟨go k hlt, fun σ3 H3 => ∃ C3 ρ3, Sep K B C3 H3 σ3 ρ3 ∧ Same C1 C3 ∧ I (k + 1) ρ3, fun σ3 H3 ⟨C3, ρ3, S3, s3, h3⟩ => ⟨items.length - (k + 1), by omega, rfl, hlt, C3, ρ3, S3, s3, h3⟩, fun x H' y => ?_⟩
      obtain ⟨C3, S3, s3, r3⟩ := yld k x H' items[k] (List.getElem?_eq_getElem hlt) y
      have st := step k ρ2 _ (List.getElem?_eq_getElem hlt) hI
      refine a.run B C3 H' σ2 ρ2 _ _ _ _ S3 r3 st fun σ4 ρ4 S4 h4 => ?_
      -- the body, over a base that keeps C1's things
      have keep : ∀ C5 H5 σ5 ρ5, Sep K ⟨C3, B.H0, B.bx⟩ C5 H5 σ5 ρ5 → Sep K B C5 H5 σ5 ρ5 ∧ Same C1 C5 := fun C5 H5 σ5 ρ5 z =>
        ⟨⟨z.cold, z.len, z.sl, z.ne, (S3.grow).trans z.grow, fun a o e n => (match q : C3 a with
            | none => z.new a o e q
            | some u => S3.new a u q n), z.dom, z.keep, z.loc, z.lob, z.par, z.pz⟩, (s2.trans s3).trans z.grow⟩
      have S4' : Sep K ⟨C3, B.H0, B.bx⟩ C3 H' σ4 ρ4 := ⟨S4.cold, S4.len, S4.sl, S4.ne, Same.refl _, fun a o e n => (by rw [show C3 a = none from n] at e; cases e), S4.dom, S4.keep, S4.loc, S4.lob, S4.par, S4.pz⟩
      refine b.run ⟨C3, B.H0, B.bx⟩ C3 H' σ4 ρ4 _ _ S4' h4 ⟨fun C5 H5 σ5 ρ5 z h5 => ?_, fun C5 H5 σ5 ρ5 v r z ok h5 => ?_, fun C5 H5 σ5 ρ5 z h5 => ?_, fun C5 H5 σ5 ρ5 z h5 => ?_⟩
      · obtain ⟨ρ6, w6, h6⟩ := h5
        exact ⟨C5, ρ6, (keep _ _ _ _ z).1.weak w6, (keep _ _ _ _ z).2, h6⟩
      · refine m.rt _ _ _ _ v r (keep _ _ _ _ z).1 ?_ h5
        cases r with
        | dat d => exact ok
        | new ds => exact ok
      · exact m.nx _ _ _ _ (keep _ _ _ _ z).1 h5
      · obtain ⟨ρ6, w6, h6⟩ := h5
        exact ⟨C5, ρ6, (keep _ _ _ _ z).1.weak w6, (keep _ _ _ _ z).2, h6⟩
    · have e : k = items.length := by omega
      subst e
      exact .inl ⟨stop, m.nx _ _ _ _ S2 (fin _ hI)⟩
def rngD (lo : Int) (n : Nat) : List Dt := (List.range n).map fun k => .int (lo + (k : Nat))
theorem rng_len {lo : Int} {n : Nat} : (rngD lo n).length = n := by unfold rngD; rw [List.length_map, List.length_range]
theorem rng_at {lo : Int} {n i : Nat} {d : Dt} (h : (rngD lo n)[i]? = some d) : i < n ∧ d = .int (lo + (i : Nat)) := by
  unfold rngD at h
  rw [List.getElem?_map] at h
  by_cases z : i < n
  · rw [List.getElem?_range z] at h
    cases h
    exact ⟨z, rfl⟩
  · rw [List.getElem?_eq_none (by rw [List.length_range]; omega)] at h
    cases h
theorem itd_range {C : Hp} {lo : Int} {n : Nat} : ItD K (Itr lo n) C (rngD lo n) := fun B3 C3 H3 σ3 ρ3 S3 s3 => by
  rw [rng_len]
  refine ⟨fun i hi => hi, Nat.le_refl _, fun i y H' d hd yl => ?_⟩
  obtain ⟨rfl, rfl⟩ := yl
  obtain ⟨_, rfl⟩ := rng_at hd
  exact ⟨C3, S3, Same.refl _, .int _⟩
def rng1 (as : List Ar) (k : List Dt → Prop) : Prop := match as with
  | [.d (.int j)] => -4611686018427387904 ≤ j ∧ j < 4611686018427387904 ∧ k (rngD 0 j.toNat)
  | _ => False
theorem rng1_run {as : List Ar} {k : List Dt → Prop} (h : rng1 as k) : ∃ j, as = [.d (.int j)] ∧ -4611686018427387904 ≤ j ∧ j < 4611686018427387904 ∧ k (rngD 0 j.toNat) := by
  unfold rng1 at h
  split at h
  · exact ⟨_, rfl, h⟩
  · exact h.elim
def wiRng1 (wa : WA) : WI := fun ρ Ψ => wa ρ fun as ρ1 => rng1 as fun l => Ψ l ρ1
instance si_rng1 {ta : TA} {wa : WA} [a : Sa K ta wa] : Si K (iRng1 ta) (wiRng1 wa) where
  run B C H σ ρ R Ψ S h k := a.run B C H σ ρ _ _ S h fun C1 H1 vs as ρ1 S1 s1 ok1 h1 => by
    obtain ⟨j, rfl, h1⟩ := rng1_run h1
    match ok1 with
    | .cons r .nil =>
      cases r
      exact ⟨j, rfl, h1.1, h1.2.1, k _ _ _ _ _ S1 s1 itd_range h1.2.2⟩

end
section
variable {P : Program} {w : World} {K : PySem.W.Frag} {mg : Str → Option Value} {base : Heap}
local macro_rules | `(tactic| get_elem_tactic_trivial) => `(tactic| (repeat first | exact Wk.nil | exact Wk'.nil | refine Wk.same ?_ | refine Wk'.same ?_ | refine Wk.un (fun _ z => nomatch z) ?_ | refine Wk'.un ?_))
/-! a new thing is held while others go on -/
def Bs.hold (B : Bs) (D : Addr) (o : HO) : Bs := ⟨B.C0, upd B.H0 D o, B.bx⟩
section
variable {B : Bs} {C H G : Hp} {σ : L2.St} {ρ : List Sl}
theorem Sep.bxne (S : Sep K B C H σ ρ) {D : Addr} (nh : ∀ (j : Nat) (t : Sl), ρ[j]? = some t → t.mut = true → σ[j]? ≠ some (some (V.ref D))) (i : Nat) : B.bx ≠ some (i, D) := fun e => by
  obtain ⟨h1, n, h2⟩ := S.par i D e
  exact nh i _ h2 rfl h1
theorem Sep.hold (S : Sep K B C H σ ρ) {D : Addr} {o : HO} (hD : H D = some o) (cD : C D = none) (nh : ∀ (j : Nat) (t : Sl), ρ[j]? = some t → t.mut = true → σ[j]? ≠ some (some (V.ref D))) : Sep K (B.hold D o) C H σ ρ := by
  have nD : ∀ (j : Nat) (t : Sl) (a : Addr), ρ[j]? = some t → t.mut = true → σ[j]? = some (some (V.ref a)) → a ≠ D := fun j t a h m e z => nh j t h m (z ▸ e)
  refine ⟨S.cold, S.len, S.sl, S.ne, S.grow, fun a x e n => ?_, fun a h => ?_, fun a x h n => ?_, fun i a ds h e => ?_, fun i a n h e => ?_, S.par, S.pz⟩
  · have z : a ≠ D := fun q => by rw [q, cD] at e; cases e
    show upd B.H0 D o a = none
    rw [upd_ne z]
    exact S.new a x e n
  · by_cases z : a = D
    · rw [z, hD]
      exact fun q => nomatch q
    · have h' : upd B.H0 D o a ≠ none := h
      rw [upd_ne z] at h'
      exact S.dom a h'
  · have h' : upd B.H0 D o a = some x := h
    by_cases z : a = D
    · rw [z, upd_same] at h'
      rw [z, hD]
      exact h'
    · rw [upd_ne z] at h'
      exact S.keep a x h' n
  · show upd B.H0 D o a = none
    rw [upd_ne (nD i _ a h rfl e)]
    exact S.loc i a ds h e
  · show upd B.H0 D o a = none ∨ _
    rw [upd_ne (nD i _ a h rfl e)]
    exact S.lob i a n h e
theorem Sep.unhold {D : Addr} {o : HO} (S : Sep K (B.hold D o) C H σ ρ) (h0 : B.H0 D = none) (c0 : B.C0 D = none) (bx : ∀ i, B.bx ≠ some (i, D)) : Sep K B C H σ ρ ∧ H D = some o ∧ C D = none ∧ ∀ (j : Nat) (t : Sl), ρ[j]? = some t → t.mut = true → σ[j]? ≠ some (some (V.ref D)) := by
  have up : ∀ a, (B.hold D o).H0 a = none → B.H0 a = none := fun a h => by
    by_cases z : a = D
    · rw [z]; exact h0
    · have h' : upd B.H0 D o a = none := h
      rw [upd_ne z] at h'
      exact h'
  have atD : (B.hold D o).H0 D = some o := upd_same
  have hc : C D = none := by
    cases q : C D with
    | none => rfl
    | some x =>
      have := S.new D x q c0
      rw [atD] at this
      cases this
  refine ⟨⟨S.cold, S.len, S.sl, S.ne, S.grow, fun a x e n => up a (S.new a x e n), fun a h => S.dom a ?_, fun a x h n => S.keep a x ?_ n, fun i a ds h e => up a (S.loc i a ds h e), fun i a n h e => (S.lob i a n h e).imp (up a) id, S.par, S.pz⟩, S.keep D o atD bx, hc, fun j t h m e => ?_⟩
  · show upd B.H0 D o a ≠ none
    by_cases z : a = D
    · rw [z, upd_same]
      exact fun q => nomatch q
    · rw [upd_ne z]
      exact h
  · show upd B.H0 D o a = some x
    rw [upd_ne (fun z => by rw [z, h0] at h; cases h)]
    exact h
  · cases t with
    | un => cases m
    | dat d => cases m
    | hot ds =>
      have := S.loc j D ds h e
      rw [atD] at this
      cases this
    | box n =>
      rcases S.lob j D n h e with q | q
      · rw [atD] at q
        cases q
      · exact bx j q
/-- slots wiped -/
def wipeR (ρ : List Sl) : List Nat → List Sl
  | [] => ρ
  | v :: vs => (wipeR ρ vs).set v .un
def isBox : Option Sl → Bool
  | some (.box _) => true
  | _ => false
def noBox (ρ : List Sl) (vs : List Nat) : Bool := vs.all fun v => v != 0 || !isBox ρ[v]?
theorem noBox_at {ρ : List Sl} {vs : List Nat} (h : noBox ρ vs = true) : ∀ v ∈ vs, v = 0 → ∀ n, ρ[v]? ≠ some (.box n) := fun v hv z n e => by
  have := List.all_eq_true.mp h v hv
  rw [e, z] at this
  cases this
def subB (is vs : List Nat) : Bool := is.all fun i => vs.contains i
theorem subB_at {is vs : List Nat} (h : subB is vs = true) : ∀ i ∈ is, i ∈ vs := fun i hi => by
  have := List.all_eq_true.mp h i hi
  exact List.contains_iff_mem.mp this
theorem wipeR_at : ∀ (vs : List Nat) (j : Nat) (t : Sl), (wipeR ρ vs)[j]? = some t → (j ∈ vs ∧ t = .un) ∨ (j ∉ vs ∧ ρ[j]? = some t)
  | [], j, t, h => .inr ⟨by simp, h⟩
  | v :: vs, j, t, h => by
    rcases get_set h with ⟨rfl, rfl, _⟩ | ⟨n, h⟩
    · exact .inl ⟨by simp, rfl⟩
    · rcases wipeR_at vs j t h with ⟨a, b⟩ | ⟨a, b⟩
      · exact .inl ⟨List.mem_cons_of_mem _ a, b⟩
      · exact .inr ⟨fun z => by
          rcases List.mem_cons.mp z with z | z
          · exact n z.symm
          · exact a z, b⟩
theorem wipe_off : ∀ (vs : List Nat) (j : Nat), j ∉ vs → (wipe σ vs)[j]? = σ[j]?
  | [], _, _ => rfl
  | v :: vs, j, h => by
    show ((wipe σ vs).set v none)[j]? = _
    rw [set_off (fun z => h (by rw [z]; exact List.mem_cons_self ..))]
    exact wipe_off vs j fun z => h (List.mem_cons_of_mem _ z)
theorem wipeR_len : ∀ vs : List Nat, (wipeR ρ vs).length = ρ.length
  | [] => rfl
  | v :: vs => by
    show ((wipeR ρ vs).set v .un).length = _
    rw [List.length_set]
    exact wipeR_len vs
theorem wipeR_keep : ∀ (vs : List Nat) (j : Nat), j ∉ vs → (wipeR ρ vs)[j]? = ρ[j]?
  | [], _, _ => rfl
  | v :: vs, j, h => by
    show ((wipeR ρ vs).set v .un)[j]? = _
    rw [set_off (fun z => h (by rw [z]; exact List.mem_cons_self ..))]
    exact wipeR_keep vs j fun z => h (List.mem_cons_of_mem _ z)
/-- the slots vs are no matter -/
theorem Sep.swap {σ' : L2.St} {vs : List Nat} (S : Sep K B C H σ ρ) (nb : noBox ρ vs = true) (e : wipe σ' vs = wipe σ vs) : Sep K B C H σ' (wipeR ρ vs) := by
  have at_ : ∀ (j : Nat) (t : Sl), (wipeR ρ vs)[j]? = some t → t ≠ .un → ρ[j]? = some t ∧ σ'[j]? = σ[j]? := fun j t h n => by
    rcases wipeR_at vs j t h with ⟨_, z⟩ | ⟨a, b⟩
    · exact absurd z n
    · refine ⟨b, ?_⟩
      rw [← wipe_off (σ := σ') vs j a, ← wipe_off (σ := σ) vs j a, e]
  have mu : ∀ {t : Sl}, t.mut = true → t ≠ .un := fun m z => by rw [z] at m; cases m
  have le : σ'.length = σ.length := by rw [← wipe_length σ' vs, ← wipe_length σ vs, e]
  refine ⟨S.cold, by rw [wipeR_len, le]; exact S.len, fun i s h => ?_, fun i j a s t n h1 h2 m1 m2 e1 e2 => ?_, S.grow, S.new, S.dom, S.keep, fun i a ds h q => ?_, fun i a n h q => ?_, fun i a h => ?_, S.pz⟩
  · cases s with
    | un => trivial
    | dat d => rw [(at_ i _ h (fun z => nomatch z)).2]; exact S.sl i _ (at_ i _ h (fun z => nomatch z)).1
    | hot ds => rw [(at_ i _ h (fun z => nomatch z)).2]; exact S.sl i _ (at_ i _ h (fun z => nomatch z)).1
    | box n => rw [(at_ i _ h (fun z => nomatch z)).2]; exact S.sl i _ (at_ i _ h (fun z => nomatch z)).1
  · rw [(at_ i _ h1 (mu m1)).2] at e1
    rw [(at_ j _ h2 (mu m2)).2] at e2
    exact S.ne i j a s t n (at_ i _ h1 (mu m1)).1 (at_ j _ h2 (mu m2)).1 m1 m2 e1 e2
  · rw [(at_ i _ h (fun z => nomatch z)).2] at q
    exact S.loc i a ds (at_ i _ h (fun z => nomatch z)).1 q
  · rw [(at_ i _ h (fun z => nomatch z)).2] at q
    exact S.lob i a n (at_ i _ h (fun z => nomatch z)).1 q
  · obtain ⟨h1, n, h2⟩ := S.par i a h
    have ni : i ∉ vs := fun z => noBox_at nb i z (S.pz i a h) n h2
    refine ⟨?_, n, by rw [wipeR_keep vs i ni]; exact h2⟩
    rw [← wipe_off (σ := σ') vs i ni, e, wipe_off vs i ni]
    exact h1
end
theorem wipe_wipe {σ : L2.St} : ∀ vs : List Nat, ∀ j : Nat, (wipe (wipe σ vs) vs)[j]? = (wipe σ vs)[j]? := fun vs j => by
  have key : ∀ (ws : List Nat) (τ : L2.St), (∀ v ∈ ws, ∀ x, τ[v]? = some x → x = none) → wipe τ ws = τ := fun ws => by
    induction ws with
    | nil => intro τ _; rfl
    | cons v ws ih =>
      intro τ h
      show (wipe τ ws).set v none = τ
      rw [ih τ fun u hu => h u (List.mem_cons_of_mem _ hu)]
      apply List.ext_getElem?
      intro i
      by_cases z : v = i
      · subst z
        by_cases l : v < τ.length
        · rw [set_at l, List.getElem?_eq_getElem l]
          exact congrArg some (h v (List.mem_cons_self ..) _ (List.getElem?_eq_getElem l)).symm
        · rw [List.getElem?_eq_none (by rw [List.length_set]; omega), List.getElem?_eq_none (by omega)]
      · rw [set_off z]
  have wiped : ∀ (ws : List Nat) (τ : L2.St), ∀ v ∈ ws, ∀ x, (wipe τ ws)[v]? = some x → x = none := fun ws => by
    induction ws with
    | nil => intro τ v hv; cases hv
    | cons u ws ih =>
      intro τ v hv x h
      rcases get_set (show ((wipe τ ws).set u none)[v]? = some x from h) with ⟨_, rfl, _⟩ | ⟨n, h⟩
      · rfl
      · rcases List.mem_cons.mp hv with q | q
        · exact absurd q.symm n
        · exact ih τ v q x h
  rw [key vs (wipe σ vs) (wiped vs σ)]
theorem wipe2 {σ : L2.St} (vs : List Nat) : wipe (wipe σ vs) vs = wipe σ vs := List.ext_getElem? (wipe_wipe vs)
theorem wipe_in {σ : L2.St} : ∀ (vs : List Nat) (j : Nat), j ∈ vs → (wipe σ vs)[j]? = if j < σ.length then some none else none
  | [], j, h => by cases h
  | v :: vs, j, h => by
    show ((wipe σ vs).set v none)[j]? = _
    by_cases z : v = j
    · subst z
      by_cases l : v < σ.length
      · rw [set_at (by rw [wipe_length]; exact l), if_pos l]
      · rw [List.getElem?_eq_none (by rw [List.length_set, wipe_length]; omega), if_neg l]
    · rw [set_off z]
      refine wipe_in vs j ?_
      rcases List.mem_cons.mp h with q | q
      · exact absurd q.symm z
      · exact q
theorem wipe_eq {σ σ' : L2.St} {vs is : List Nat} (l : σ'.length = σ.length) (h : ∀ j : Nat, j ∉ is → σ'[j]? = σ[j]?) (sub : ∀ i ∈ is, i ∈ vs) : wipe σ' vs = wipe σ vs := by
  apply List.ext_getElem?
  intro j
  by_cases z : j ∈ vs
  · rw [wipe_in vs j z, wipe_in vs j z, l]
  · rw [wipe_off vs j z, wipe_off vs j z, h j fun q => z (sub j q)]
/-- the slots that a target writes -/
class Sw (g : TG) (is : outParam (List Nat)) : Prop where
  run : ∀ (v : V) (σ : L2.St) (H : Hp) (R R' : L2.St → Hp → Prop), g v σ H R → (∀ σ' H', (σ'.length = σ.length ∧ ∀ j : Nat, j ∉ is → σ'[j]? = σ[j]?) → R σ' H' → R' σ' H') → g v σ H R'
class Sws (g : TGs) (is : outParam (List Nat)) : Prop where
  run : ∀ (v : List V) (σ : L2.St) (H : Hp) (R R' : L2.St → Hp → Prop), g v σ H R → (∀ σ' H', (σ'.length = σ.length ∧ ∀ j : Nat, j ∉ is → σ'[j]? = σ[j]?) → R σ' H' → R' σ' H') → g v σ H R'
instance sw_name {i : Nat} : Sw (gName i) [i] where
  run v σ H R R' h k := k _ _ ⟨by rw [List.length_set], fun j n => set_off fun z => n (by rw [z]; exact List.mem_cons_self ..)⟩ h
instance sws_nil : Sws gNil [] where
  run v σ H R R' h k := And.intro h.1 (k _ _ ⟨rfl, fun _ _ => rfl⟩ h.2)
instance sws_cons {g : TG} {gs : TGs} {is js : List Nat} [a : Sw g is] [b : Sws gs js] : Sws (gCons g gs) (is ++ js) where
  run v σ H R R' h k := by
    obtain ⟨u, r, e, h⟩ := h
    refine ⟨u, r, e, a.run _ _ _ _ _ h fun σ1 H1 ⟨l1, o1⟩ h1 => b.run _ _ _ _ _ h1 fun σ2 H2 ⟨l2, o2⟩ h2 => k _ _ ⟨l2.trans l1, fun j n => ?_⟩ h2⟩
    rw [o2 j fun z => n (List.mem_append_right _ z), o1 j fun z => n (List.mem_append_left _ z)]
instance sw_tup {K : PySem.W.Frag} {n : Nat} {gs : TGs} {is : List Nat} [b : Sws gs is] : Sw (gTup K n gs) is where
  run v σ H R R' h k := by
    obtain ⟨a, xs, e, hs, l, h⟩ := h
    exact ⟨a, xs, e, hs, l, b.run _ _ _ _ _ h k⟩
/-! [e for x in it if t] -/
def lcEnd (vs : List Nat) (acc : List Dt) (a : Ar) (ρ : List Sl) (k : List Dt → List Sl → Prop) : Prop := match a with
  | .d x => noBox ρ vs = true ∧ acc.length < sizeLine ∧ k (acc ++ [x]) (wipeR ρ vs)
  | .b _ => False
def wLc (is : List Nat) (wi : WI) (wg : WG) (wt : WT) (we : WE) (vs : List Nat) : WN := fun ρ Ψ => wi ρ fun items ρ1 => (noBox ρ1 vs = true ∧ subB is vs = true) ∧ ∃ I : Nat → List Dt → List Sl → Prop, I 0 [] (wipeR ρ1 vs) ∧
  (∀ k acc ρ d, items[k]? = some d → I k acc ρ → wg d ρ fun ρ2 => wt ρ2 fun b ρ3 => if b = true then we ρ3 fun r ρ4 => store r ρ4 fun a ρ5 => lcEnd vs acc a ρ5 (I (k + 1))
    else noBox ρ3 vs = true ∧ I (k + 1) acc (wipeR ρ3 vs)) ∧ ∀ acc ρ, I items.length acc ρ → noBox ρ vs = true ∧ Ψ acc (wipeR ρ vs)
instance sn_lc {ti : TI} {g : TG} {tt : TT} {te : TE} {vs is : List Nat} {wi : WI} {wg : WG} {wt : WT} {we : WE} [i : Si K ti wi] [a : Sg K g wg] [s : Sw g is] [c : Sc K tt wt] [b : Sd K te we] : Sn K (tLc ti g tt te vs) (wLc is wi wg wt we vs) where
  run B C H σ ρ Q Ψ S h kk := i.run B C H σ ρ _ _ S h fun C1 H1 J items ρ1 S1 s1 hJ h1 => by
    obtain ⟨⟨nb1, sub⟩, I, i0, step, fin⟩ := h1
    intro D hD
    have h0D := S1.free0 hD
    have cD1 := S1.cold.free hD
    have c0D : B.C0 D = none := S1.grow.free cD1
    have nh1 := S1.nohot hD
    have bxD := S1.bxne nh1
    refine ⟨fun k n H2 => n = items.length - k ∧ k ≤ items.length ∧ ∃ C2 ρ2 ws acc, Sep K B C2 H2 (wipe σ vs) ρ2 ∧ Same C1 C2 ∧ H2 D = some (.lst ws) ∧ C2 D = none ∧ (∀ (j : Nat) (t : Sl), ρ2[j]? = some t → t.mut = true → (wipe σ vs)[j]? ≠ some (some (V.ref D))) ∧ RpL K C2 ws acc ∧ I k acc ρ2, ⟨_, rfl, Nat.zero_le _, C1, wipeR ρ1 vs, [], [], ?_, Same.refl _, upd_same, cD1, ?_, .nil, i0⟩, ?_⟩
    · exact (S1.allocN hD).swap nb1 (wipe2 vs)
    · exact ((S1.swap (σ' := wipe σ vs) nb1 (wipe2 vs))).nohot hD
    rintro k n H2 ⟨rfl, hk, C2, ρ2, ws, acc, S2, s2, hD2, cD2, nh2, r2, hI⟩
    have S2' := S2.hold hD2 cD2 nh2
    obtain ⟨go, stop, yld⟩ := hJ _ C2 H2 _ ρ2 S2' s2
    by_cases hlt : k < items.length
    · refine .inr ⟨go k hlt, fun H3 => ∃ C3 ρ3 ws acc, Sep K B C3 H3 (wipe σ vs) ρ3 ∧ Same C1 C3 ∧ H3 D = some (.lst ws) ∧ C3 D = none ∧ (∀ (j : Nat) (t : Sl), ρ3[j]? = some t → t.mut = true → (wipe σ vs)[j]? ≠ some (some (V.ref D))) ∧ RpL K C3 ws acc ∧ I (k + 1) acc ρ3, fun H3 ⟨C3, ρ3, ws, acc, q⟩ => ⟨items.length - (k + 1), by omega, rfl, hlt, C3, ρ3, ws, acc, q⟩, fun x H' y => ?_⟩
      obtain ⟨C3, S3, s3, r3⟩ := yld k x H' items[k] (List.getElem?_eq_getElem hlt) y
      have st := step k acc ρ2 _ (List.getElem?_eq_getElem hlt) hI
      refine s.run _ _ _ _ _ (a.run _ C3 H' _ ρ2 _ _ (fun σ4 H4 => ∃ ρ4, H4 = H' ∧ Sep K (B.hold D (.lst ws)) C3 H' σ4 ρ4 ∧ wt ρ4 fun b ρ3 => if b = true then we ρ3 fun r ρ4 => store r ρ4 fun a ρ5 => lcEnd vs acc a ρ5 (I (k + 1)) else noBox ρ3 vs = true ∧ I (k + 1) acc (wipeR ρ3 vs)) _ S3 r3 st fun σ4 ρ4 S4 h4 => ⟨ρ4, rfl, S4, h4⟩) fun σ4 H4 ⟨l4, o4⟩ ⟨ρ4, e4, S4, h4⟩ => ?_
      subst e4
      have w4 : wipe σ4 vs = wipe σ vs := (wipe_eq l4 o4 (subB_at sub)).trans (wipe2 vs)
      refine ⟨w4, c.run _ C3 _ σ4 ρ4 _ _ S4 h4 fun C5 H5 e ρ5 S5 s5 h5 => ?_⟩
      have w4' : wipe (wipe σ vs) vs = wipe σ4 vs := (wipe2 vs).trans w4.symm
      cases e with
      | false =>
        obtain ⟨n5, z5⟩ := h5
        obtain ⟨S6, q6, c6, nh6⟩ := (S5.swap n5 w4').unhold h0D c0D bxD
        exact ⟨C5, _, ws, acc, S6, s2.trans (s3.trans s5), q6, c6, nh6, r2.same (s3.trans s5), z5⟩
      | true =>
        refine b.run _ C5 H5 σ4 ρ5 _ _ S5 h5 fun C6 H6 v6 r6 ρ6 S6 s6 ok6 h6 => ?_
        obtain ⟨C7, x7, ρ7, S7, s7, ok7, h7⟩ := S6.stored ok6 h6
        cases x7 with
        | b i => exact False.elim h7
        | d x =>
          obtain ⟨n7, z7, z8⟩ := h7
          obtain ⟨S8, q8, c8, nh8⟩ := (S7.swap n7 w4').unhold h0D c0D bxD
          have sm := s3.trans (s5.trans (s6.trans s7))
          refine ⟨ws, q8, by rw [r2.len]; exact z7, C7, _, ws ++ [v6], acc ++ [x], ?_, s2.trans sm, upd_same, c8, nh8, (r2.same sm).append (.cons ok7 .nil), z8⟩
          have hd := (S8.hold q8 c8 nh8)
          refine ⟨fun b o q => ?_, S8.len, fun j t q => ?_, S8.ne, S8.grow, S8.new, fun b q => ?_, fun b o q n => ?_, S8.loc, S8.lob, S8.par, S8.pz⟩
          · rw [upd_ne (fun z => by rw [z, c8] at q; cases q)]
            exact S8.cold _ _ q
          · have w := S8.sl j t q
            cases t with
            | un => trivial
            | dat d => exact w
            | hot es =>
              obtain ⟨b, us, e3, g2, g3, g4⟩ := w
              have np : b ≠ D := fun z => nh8 j _ q rfl (z ▸ e3)
              exact ⟨b, us, e3, by rw [upd_ne np]; exact g2, g3, g4⟩
            | box m =>
              obtain ⟨b, e3, ⟨x, y, z, g2, g3⟩, g4⟩ := w
              have np : b ≠ D := fun z => nh8 j _ q rfl (z ▸ e3)
              exact ⟨b, e3, ⟨x, y, z, by rw [upd_ne np]; exact g2, g3⟩, g4⟩
          · by_cases z : b = D
            · rw [z, upd_same]
              exact fun z => nomatch z
            · rw [upd_ne z]
              exact S8.dom b q
          · rw [upd_ne (fun z => by rw [z, h0D] at q; cases q)]
            exact S8.keep b o q n
    · have e : k = items.length := by omega
      subst e
      obtain ⟨nf, z⟩ := fin _ _ hI
      have S3 := S2.swap (σ' := σ) nf (wipe2 vs).symm
      refine .inl ⟨stop, kk C2 H2 D acc _ S3 (s1.trans s2) ⟨⟨ws, hD2, r2⟩, cD2, h0D, fun j t q m e => ?_⟩ z⟩
      rcases wipeR_at vs j t q with ⟨_, q2⟩ | ⟨nj, q2⟩
      · rw [q2] at m
        cases m
      · exact nh2 j t q2 m (by rw [wipe_off vs j nj]; exact e)

end
section
variable {P : Program} {w : World} {K : PySem.W.Frag} {mg : Str → Option Value} {base : Heap}
local macro_rules | `(tactic| get_elem_tactic_trivial) => `(tactic| (repeat first | exact Wk.nil | exact Wk'.nil | refine Wk.same ?_ | refine Wk'.same ?_ | refine Wk.un (fun _ z => nomatch z) ?_ | refine Wk'.un ?_))
/-! defs over data -/
abbrev WF := List Sl → (Ro → List Sl → Prop) → Prop
def spD (K : PySem.W.Frag) (n : Nat) (wf : WF) : Sp := fun vs H Q _ => vs.length = n ∧ ∃ (C : Hp) (bx : Option (Nat × Addr)) (ps : List Sl) (Ψ : Ro → List Sl → Prop), Sep K ⟨C, H, bx⟩ C H (vs.map some) ps ∧ wf ps Ψ ∧
  ∀ C' G v r ps', Sep K ⟨C, H, bx⟩ C' G (vs.map some) ps' → RoOk K ⟨C, H, bx⟩ C' G (vs.map some) ps' v r → Ψ r ps' → Q v G
/-- one that tells a new list -/
def spN (K : PySem.W.Frag) (n : Nat) (wf : List Sl → (List Dt → List Sl → Prop) → Prop) : Sp := spD K n fun ps Ψ => wf ps fun ds ps' => Ψ (.new ds) ps'
def mrg : List Sl → List Sl → List Sl
  | [], _ => []
  | .box n :: ps, [] => .box n :: mrg ps []
  | .box _ :: ps, s :: ρ => s :: mrg ps ρ
  | p :: ps, [] => p :: mrg ps []
  | p :: ps, _ :: ρ => p :: mrg ps ρ
theorem mrg_len : ∀ ps ρ : List Sl, (mrg ps ρ).length = ps.length
  | [], _ => by unfold mrg; rfl
  | p :: ps, [] => by cases p <;> (unfold mrg; exact congrArg Nat.succ (mrg_len ps []))
  | p :: ps, s :: ρ => by cases p <;> (unfold mrg; exact congrArg Nat.succ (mrg_len ps ρ))
theorem mrg_at : ∀ (ps ρ : List Sl) (i : Nat) (s : Sl), (mrg ps ρ)[i]? = some s → (∃ n, ps[i]? = some (.box n) ∧ (ρ[i]? = some s ∨ (ρ[i]? = none ∧ s = .box n))) ∨ (ps[i]? = some s ∧ ∀ n, s ≠ .box n)
  | [], _, i, s, h => by unfold mrg at h; simp at h
  | p :: ps, [], 0, s, h => by
    cases p <;> (unfold mrg at h; have e := Option.some.inj h; subst e)
    · exact .inr ⟨rfl, fun n z => nomatch z⟩
    · exact .inr ⟨rfl, fun n z => nomatch z⟩
    · exact .inr ⟨rfl, fun n z => nomatch z⟩
    · exact .inl ⟨_, rfl, .inr ⟨rfl, rfl⟩⟩
  | p :: ps, t :: ρ, 0, s, h => by
    cases p <;> (unfold mrg at h; have e := Option.some.inj h; subst e)
    · exact .inr ⟨rfl, fun n z => nomatch z⟩
    · exact .inr ⟨rfl, fun n z => nomatch z⟩
    · exact .inr ⟨rfl, fun n z => nomatch z⟩
    · exact .inl ⟨_, rfl, .inl rfl⟩
  | p :: ps, [], i + 1, s, h => by
    have h2 : (mrg ps [])[i]? = some s := by cases p <;> (unfold mrg at h; exact h)
    rcases mrg_at ps [] i s h2 with ⟨n, a, b⟩ | q
    · refine .inl ⟨n, a, ?_⟩
      rcases b with b | b
      · simp at b
      · exact .inr ⟨rfl, b.2⟩
    · exact .inr q
  | p :: ps, t :: ρ, i + 1, s, h => by
    have h2 : (mrg ps ρ)[i]? = some s := by cases p <;> (unfold mrg at h; exact h)
    exact mrg_at ps ρ i s h2
theorem mrg_box : ∀ (ps ρ : List Sl) (i : Nat) (n m : Int), ps[i]? = some (.box n) → ρ[i]? = some (.box m) → (mrg ps ρ)[i]? = some (.box m)
  | p :: ps, t :: ρ, 0, n, m, h, g => by
    have e := Option.some.inj h
    subst e
    unfold mrg
    exact g
  | p :: ps, t :: ρ, i + 1, n, m, h, g => by
    have := mrg_box ps ρ i n m h g
    cases p <;> (unfold mrg; exact this)
  | [], _, i, n, m, h, g => by simp at h
  | p :: ps, [], i, n, m, h, g => by simp at g
/-- a def's own end, told of its arguments -/
theorem Sep.args {C H C' G : Hp} {bx : Option (Nat × Addr)} {vs : List V} {ps ρ : List Sl} {σ : L2.St} (S0 : Sep K ⟨C, H, bx⟩ C H (vs.map some) ps) (S : Sep K ⟨C, H, bx⟩ C' G σ ρ) : Sep K ⟨C, H, bx⟩ C' G (vs.map some) (mrg ps ρ) := by
  have nohot : ∀ (i : Nat) (ds : List Dt), ps[i]? ≠ some (.hot ds) := fun i ds e => by
    obtain ⟨a, us, e2, ha, _⟩ := S0.sl i _ e
    have := S0.loc i a ds e e2
    rw [show (⟨C, H, bx⟩ : Bs).H0 a = H a from rfl, ha] at this
    cases this
  have box : ∀ (i : Nat) (n : Int), ps[i]? = some (.box n) → ∃ a m, bx = some (i, a) ∧ (vs.map some)[i]? = some (some (V.ref a)) ∧ σ[i]? = some (some (V.ref a)) ∧ ρ[i]? = some (.box m) := fun i n e => by
    obtain ⟨a, e2, ⟨x, y, z, ha, _⟩, _⟩ := S0.sl i _ e
    rcases S0.lob i a n e e2 with q | q
    · rw [show (⟨C, H, bx⟩ : Bs).H0 a = H a from rfl, ha] at q
      cases q
    · obtain ⟨g1, m, g2⟩ := S.par i a q
      exact ⟨a, m, q, e2, g1, g2⟩
  have case_ : ∀ (i : Nat) (s : Sl), (mrg ps ρ)[i]? = some s → (∃ a m, s = .box m ∧ bx = some (i, a) ∧ (vs.map some)[i]? = some (some (V.ref a)) ∧ σ[i]? = some (some (V.ref a)) ∧ ρ[i]? = some (.box m)) ∨ (ps[i]? = some s ∧ s.mut = false) := fun i s h => by
    rcases mrg_at ps ρ i s h with ⟨n, e, q⟩ | ⟨e, q⟩
    · obtain ⟨a, m, g1, g2, g3, g4⟩ := box i n e
      rcases q with q | ⟨q, _⟩
      · rw [g4] at q
        cases q
        exact .inl ⟨a, m, rfl, g1, g2, g3, g4⟩
      · rw [g4] at q
        cases q
    · cases s with
      | un => exact .inr ⟨e, rfl⟩
      | dat d => exact .inr ⟨e, rfl⟩
      | hot ds => exact absurd e (nohot i ds)
      | box n => exact absurd rfl (q n)
  refine ⟨S.cold, by rw [mrg_len]; exact S0.len, fun i s h => ?_, fun i j a s t n h1 h2 m1 m2 e1 e2 => ?_, S.grow, S.new, S.dom, S.keep, fun i a ds h e => ?_, fun i a n h e => ?_, fun i a h => ?_, S.pz⟩
  · rcases case_ i s h with ⟨a, m, rfl, g1, g2, g3, g4⟩ | ⟨g1, g2⟩
    · obtain ⟨b, e, q⟩ := S.sl i _ g4
      rw [g3] at e
      cases e
      exact ⟨a, g2, q⟩
    · have q := S0.sl i s g1
      cases s with
      | un => trivial
      | dat d =>
        obtain ⟨v, e, r⟩ := q
        exact ⟨v, e, r.same S.grow⟩
      | hot ds => cases g2
      | box n => cases g2
  · rcases case_ i s h1 with ⟨b, m, rfl, g1, _⟩ | ⟨_, g2⟩
    · rcases case_ j t h2 with ⟨c, m', rfl, k1, _⟩ | ⟨_, g2⟩
      · rw [g1] at k1
        cases k1
        exact n rfl
      · rw [g2] at m2
        cases m2
    · rw [g2] at m1
      cases m1
  · rcases case_ i _ h with ⟨b, m, z, g1, _⟩ | ⟨_, g2⟩
    · cases z
    · cases g2
  · rcases case_ i _ h with ⟨b, m, z, g1, g2, _⟩ | ⟨_, g2⟩
    · rw [g2] at e
      cases e
      exact .inr g1
    · cases g2
  · obtain ⟨h1, n, h2⟩ := S0.par i a h
    obtain ⟨g1, m, g2⟩ := S.par i a h
    exact ⟨h1, m, mrg_box ps ρ i n m h2 g2⟩
def fin (ps : List Sl) (Ψ : Ro → List Sl → Prop) : Fs := ⟨fun ρ => Ψ (.dat .non) (mrg ps ρ), fun r ρ => Ψ r (mrg ps ρ), fun _ => False, fun _ => False⟩
theorem start_sep {C H : Hp} {bx : Option (Nat × Addr)} {N : List Str} {vs : List V} {ps : List Sl} (S : Sep K ⟨C, H, bx⟩ C H (vs.map some) ps) : Sep K ⟨C, H, bx⟩ C H (start N vs) (ps ++ List.replicate (N.length - vs.length) .un) := by
  have hl : vs.length = ps.length := by have := S.len; rw [List.length_map] at this; exact this
  have at_ : ∀ (i : Nat) (s : Sl), (ps ++ List.replicate (N.length - vs.length) Sl.un)[i]? = some s → s ≠ .un → ps[i]? = some s ∧ (start N vs)[i]? = (vs.map some)[i]? := fun i s h n => by
    by_cases z : i < ps.length
    · rw [List.getElem?_append_left z] at h
      refine ⟨h, ?_⟩
      unfold L2.start
      rw [List.getElem?_append_left (by rw [List.length_map]; omega)]
    · rw [List.getElem?_append_right (by omega)] at h
      have := List.mem_of_getElem? h
      exact absurd (List.eq_of_mem_replicate this) n
  have mu : ∀ {t : Sl}, t.mut = true → t ≠ .un := fun m z => by rw [z] at m; cases m
  refine ⟨S.cold, ?_, fun i s h => ?_, fun i j a s t n h1 h2 m1 m2 e1 e2 => ?_, S.grow, S.new, S.dom, S.keep, fun i a ds h e => ?_, fun i a n h e => ?_, fun i a h => ?_, S.pz⟩
  · unfold L2.start
    rw [List.length_append, List.length_append, List.length_replicate, List.length_replicate, List.length_map, hl]
  · cases s with
    | un => trivial
    | dat d => rw [(at_ i _ h (fun z => nomatch z)).2]; exact S.sl i _ (at_ i _ h (fun z => nomatch z)).1
    | hot ds => rw [(at_ i _ h (fun z => nomatch z)).2]; exact S.sl i _ (at_ i _ h (fun z => nomatch z)).1
    | box n => rw [(at_ i _ h (fun z => nomatch z)).2]; exact S.sl i _ (at_ i _ h (fun z => nomatch z)).1
  · rw [(at_ i _ h1 (mu m1)).2] at e1
    rw [(at_ j _ h2 (mu m2)).2] at e2
    exact S.ne i j a s t n (at_ i _ h1 (mu m1)).1 (at_ j _ h2 (mu m2)).1 m1 m2 e1 e2
  · rw [(at_ i _ h (fun z => nomatch z)).2] at e
    exact S.loc i a ds (at_ i _ h (fun z => nomatch z)).1 e
  · rw [(at_ i _ h (fun z => nomatch z)).2] at e
    exact S.lob i a n (at_ i _ h (fun z => nomatch z)).1 e
  · obtain ⟨h1, n, h2⟩ := S.par i a h
    have li : i < ps.length := by
      cases Nat.lt_or_ge i ps.length with
      | inl h => exact h
      | inr g => rw [List.getElem?_eq_none g] at h2; cases h2
    refine ⟨?_, n, by rw [List.getElem?_append_left li]; exact h2⟩
    unfold L2.start
    rw [List.getElem?_append_left (by rw [List.length_map]; omega)]
    exact h1
theorem bodyD {t : TS} {w : WS} [s : Ss K t w] {N : List Str} {vs : List V} {H : Hp} {Q : VK} {E : XK} {n : Nat} {wf : WF} (h : spD K n wf vs H Q E) (hw : ∀ ps Ψ, wf ps Ψ → ps.length = n → w (ps ++ List.replicate (N.length - n) .un) (fin ps Ψ)) :
    t { nx := fun _ H' => Q .non H', rt := Q } (start N vs) H := by
  obtain ⟨hl, C, bx, ps, Ψ, S, hf, k⟩ := h
  have lp : ps.length = n := by have := S.len; rw [List.length_map] at this; omega
  have S1 := start_sep (N := N) S
  have h1 := hw ps Ψ hf lp
  rw [← hl] at h1
  refine s.run _ C H _ _ _ _ S1 h1 ⟨fun C1 H1 σ1 ρ1 S2 z => k _ _ _ (.dat .non) _ (S.args S2) .non z, fun C1 H1 σ1 ρ1 v r S2 ok z => ?_, fun C1 H1 σ1 ρ1 S2 z => False.elim z, fun C1 H1 σ1 ρ1 S2 z => False.elim z⟩
  refine k _ _ _ r _ (S.args S2) ?_ z
  cases r with
  | dat d => exact ok
  | new ds =>
    obtain ⟨a, e, f1, f2, f3, f4⟩ := ok
    refine ⟨a, e, f1, f2, f3, fun j u hj m ej => ?_⟩
    have S3 := S.args S2
    have q := S3.mutH hj m ej
    have f3' : H a = none := f3
    cases u with
    | un => cases m
    | dat d => cases m
    | hot es => 
      rcases mrg_at ps ρ1 j _ hj with ⟨m, e1, e2⟩ | ⟨e1, _⟩
      · rcases e2 with e2 | ⟨_, e2⟩
        · obtain ⟨b, us, e5, hb, _⟩ := S3.sl j _ hj
          rw [ej] at e5
          cases e5
          have := S.mutH e1 rfl ej
          exact this.2 f3'
        · cases e2
      · have := S.mutH e1 rfl ej
        exact this.2 f3'
    | box n =>
      rcases mrg_at ps ρ1 j _ hj with ⟨m, e1, e2⟩ | ⟨e1, z⟩
      · have := S.mutH e1 rfl ej
        exact this.2 f3'
      · exact z n rfl
/-! calls -/
def Ro.val : Ro → Dt
  | .dat d => d
  | .new ds => .lst ds
class Dv (vs : List V) (ds : outParam (List Dt)) : Prop where
  run : ∀ (K : PySem.W.Frag) (C : Hp), RpL K C vs ds
instance dv_nil : Dv [] [] := ⟨fun _ _ => .nil⟩
instance dv_non {vs : List V} {ds : List Dt} [a : Dv vs ds] : Dv (.non :: vs) (.non :: ds) := ⟨fun K C => .cons .non (a.run K C)⟩
instance dv_int {i : Int} {vs : List V} {ds : List Dt} [a : Dv vs ds] : Dv (.int i :: vs) (.int i :: ds) := ⟨fun K C => .cons (.int i) (a.run K C)⟩
instance dv_bl {i : Bool} {vs : List V} {ds : List Dt} [a : Dv vs ds] : Dv (.bl i :: vs) (.bl i :: ds) := ⟨fun K C => .cons (.bl i) (a.run K C)⟩
def boxK (i : Nat) (ρ : List Sl) (Ψ : Ro → List Sl → Prop) (r : Ro) (ps : List Sl) : Prop := match ps with
  | .box n :: _ => Ψ r (ρ.set i (.box n))
  | _ => False
def callW (wf : WF) (as : List Ar) (dd : List Dt) (ρ : List Sl) (Ψ : Ro → List Sl → Prop) : Prop := match as with
  | .b i :: as => match ρ[i]?, dats as with
    | some (.box n), some ds => wf (.box n :: (ds ++ dd).map .dat) (boxK i ρ Ψ)
    | _, _ => False
  | as => match dats as with
    | some ds => wf ((ds ++ dd).map .dat) fun r _ => Ψ r ρ
    | none => False
section
variable {B : Bs} {C H G C' : Hp} {σ : L2.St} {ρ : List Sl}
/-- behind a call that is handed no box -/
theorem Sep.after (S : Sep K B C H σ ρ) {τ : L2.St} {π : List Sl} (S' : Sep K ⟨C, H, none⟩ C' G τ π) : Sep K B C' G σ ρ := by
  have kp : ∀ a o, H a = some o → G a = some o := fun a o h => S'.keep a o h fun i z => nomatch z
  have cn : ∀ a o, H a = some o → C a = none → C' a = none := fun a o h c => by
    cases q : C' a with
    | none => rfl
    | some u =>
      have : H a = none := S'.new a u q c
      rw [h] at this
      cases this
  refine ⟨S'.cold, S.len, fun i s h => ?_, S.ne, S.grow.trans S'.grow, fun a o e n => ?_, fun a h => S'.dom a (S.dom a h), fun a o h n => kp a o (S.keep a o h n), S.loc, S.lob, S.par, S.pz⟩
  · have q := S.sl i s h
    cases s with
    | un => trivial
    | dat d =>
      obtain ⟨v, e, r⟩ := q
      exact ⟨v, e, r.same S'.grow⟩
    | hot ds =>
      obtain ⟨a, vs, e, ha, r, ca⟩ := q
      exact ⟨a, vs, e, kp _ _ ha, r.same S'.grow, cn _ _ ha ca⟩
    | box n =>
      obtain ⟨a, e, ⟨x, y, z, ha, hh⟩, ca⟩ := q
      exact ⟨a, e, ⟨x, y, z, kp _ _ ha, hh⟩, cn _ _ ha ca⟩
  · cases q : C a with
    | some u => exact S.new a u q n
    | none => exact S.free0 (S'.new a o e q)
/-- behind a call that is handed the box at slot i -/
theorem Sep.afterB (S : Sep K B C H σ ρ) {p : Addr} {i : Nat} {m n : Int} {τ : L2.St} {π : List Sl} (hi : ρ[i]? = some (.box m)) (ei : σ[i]? = some (some (V.ref p))) (S' : Sep K ⟨C, H, some (0, p)⟩ C' G τ π) (hn : π[0]? = some (.box n)) : Sep K B C' G σ (ρ.set i (.box n)) := by
  have kp : ∀ a o, H a = some o → a ≠ p → G a = some o := fun a o h z => S'.keep a o h fun i q => by cases q; exact z rfl
  have cn : ∀ a o, H a = some o → C a = none → C' a = none := fun a o h c => by
    cases q : C' a with
    | none => rfl
    | some u =>
      have : H a = none := S'.new a u q c
      rw [h] at this
      cases this
  obtain ⟨e0, m', e1⟩ := S'.par 0 p rfl
  obtain ⟨p', e2, bG, cp⟩ := S'.sl 0 _ hn
  rw [e0] at e2
  cases e2
  have back : ∀ {j : Nat} {t : Sl}, (ρ.set i (.box n))[j]? = some t → t.mut = true → ∃ t', ρ[j]? = some t' ∧ t'.mut = true := fun {j t} z y => by
    rcases get_set z with ⟨rfl, rfl, l⟩ | ⟨_, z⟩
    · exact ⟨_, hi, rfl⟩
    · exact ⟨t, z, y⟩
  refine ⟨S'.cold, by rw [List.length_set]; exact S.len, fun j s h => ?_, fun j k a t u q h1 h2 m1 m2 e1 e2 => ?_, S.grow.trans S'.grow, fun a o e n => ?_, fun a h => S'.dom a (S.dom a h), fun a o h n => kp a o (S.keep a o h n) fun z => ?_, fun j a ds h e => ?_, fun j a n h e => ?_, fun j a h => ?_, S.pz⟩
  · rcases get_set h with ⟨rfl, rfl, l⟩ | ⟨nj, h⟩
    · exact ⟨p, ei, bG, cp⟩
    · have q := S.sl j s h
      cases s with
      | un => trivial
      | dat d =>
        obtain ⟨v, e, r⟩ := q
        exact ⟨v, e, r.same S'.grow⟩
      | hot ds =>
        obtain ⟨a, vs, e, ha, r, ca⟩ := q
        exact ⟨a, vs, e, kp _ _ ha (fun z => S.ne i j p _ _ nj hi h rfl rfl ei (z ▸ e)), r.same S'.grow, cn _ _ ha ca⟩
      | box n =>
        obtain ⟨a, e, ⟨x, y, z, ha, hh⟩, ca⟩ := q
        have na : a ≠ p := fun z => S.ne i j p _ _ nj hi h rfl rfl ei (z ▸ e)
        exact ⟨a, e, ⟨x, y, z, kp _ _ ha na, hh⟩, cn _ _ ha ca⟩
  · obtain ⟨t', h1, m1⟩ := back h1 m1
    obtain ⟨u', h2, m2⟩ := back h2 m2
    exact S.ne j k a t' u' q h1 h2 m1 m2 e1 e2
  · cases q : C a with
    | some u => exact S.new a u q n
    | none => exact S.free0 (S'.new a o e q)
  · subst z
    rcases S.lob i a m hi ei with q | q
    · rw [h] at q
      cases q
    · exact n i q
  · rcases get_set h with ⟨rfl, z, l⟩ | ⟨nj, h⟩
    · cases z
    · exact S.loc j a ds h e
  · rcases get_set h with ⟨rfl, z, l⟩ | ⟨nj, h⟩
    · exact S.lob i a m hi e
    · exact S.lob j a n h e
  · obtain ⟨h1, n', h2⟩ := S.par j a h
    by_cases z : i = j
    · subst z
      refine ⟨h1, n, set_at ?_⟩
      cases Nat.lt_or_ge i ρ.length with
      | inl h => exact h
      | inr g => rw [List.getElem?_eq_none g] at hi; cases hi
    · exact ⟨h1, n', by rw [set_off z]; exact h2⟩
theorem sep_dats {vs : List V} {ds : List Dt} (S : Sep K B C H σ ρ) (r : RpL K C vs ds) : Sep K ⟨C, H, none⟩ C H (vs.map some) (ds.map .dat) := by
  have at_ : ∀ (i : Nat) (s : Sl), (ds.map Sl.dat)[i]? = some s → ∃ d, s = .dat d ∧ ds[i]? = some d := fun i s h => by
    rw [List.getElem?_map] at h
    cases q : ds[i]? with
    | none => rw [q] at h; cases h
    | some d => rw [q] at h; cases h; exact ⟨d, rfl, rfl⟩
  refine ⟨S.cold, by rw [List.length_map, List.length_map]; exact r.len, fun i s h => ?_, fun i j a s t n h1 h2 m1 m2 e1 e2 => ?_, Same.refl _, fun a o e n => ?_, fun a h => h, fun a o h n => h, fun i a ds h e => ?_, fun i a n h e => ?_, (fun i a h => nomatch h), fun i a h => nomatch h⟩
  · obtain ⟨d, rfl, e⟩ := at_ i s h
    obtain ⟨v, ev, rv⟩ := r.at' e
    exact ⟨v, by rw [List.getElem?_map, ev]; rfl, rv⟩
  · obtain ⟨d, rfl, e⟩ := at_ i s h1
    cases m1
  · have n' : C a = none := n
    rw [n'] at e
    cases e
  · obtain ⟨d, z, e⟩ := at_ i _ h
    cases z
  · obtain ⟨d, z, e⟩ := at_ i _ h
    cases z
theorem sep_box {vs : List V} {ds : List Dt} {p : Addr} {i : Nat} {m : Int} (S : Sep K B C H σ ρ) (hi : ρ[i]? = some (.box m)) (ei : σ[i]? = some (some (V.ref p))) (r : RpL K C vs ds) : Sep K ⟨C, H, some (0, p)⟩ C H ((V.ref p :: vs).map some) (.box m :: ds.map .dat) := by
  have D := sep_dats S r
  obtain ⟨p', e2, bG, cp⟩ := S.sl i _ hi
  rw [ei] at e2
  cases e2
  refine ⟨S.cold, by have := D.len; simp only [List.length_map, List.length_cons] at this ⊢; omega, fun j s h => ?_, fun j k a s t n h1 h2 m1 m2 e1 e2 => ?_, Same.refl _, D.new, fun a h => h, fun a o h n => h, fun j a es h e => ?_, fun j a n h e => ?_, fun j a h => ?_, fun j a h => by cases h; rfl⟩
  · cases j with
    | zero =>
      have e := Option.some.inj h
      subst e
      exact ⟨p, rfl, bG, cp⟩
    | succ j => exact D.sl j s h
  · cases j with
    | zero =>
      cases k with
      | zero => exact n rfl
      | succ k =>
        have h2' : (ds.map Sl.dat)[k]? = some t := h2
        rw [List.getElem?_map] at h2'
        cases q : ds[k]? with
        | none => rw [q] at h2'; cases h2'
        | some d => rw [q] at h2'; cases h2'; cases m2
    | succ j =>
      have h1' : (ds.map Sl.dat)[j]? = some s := h1
      rw [List.getElem?_map] at h1'
      cases q : ds[j]? with
      | none => rw [q] at h1'; cases h1'
      | some d => rw [q] at h1'; cases h1'; cases m1
  · cases j with
    | zero => cases h
    | succ j => exact D.loc j a es h e
  · cases j with
    | zero =>
      have e' := Option.some.inj (Option.some.inj e)
      cases e'
      exact .inr rfl
    | succ j =>
      have h1' : (ds.map Sl.dat)[j]? = some (.box n) := h
      rw [List.getElem?_map] at h1'
      cases q : ds[j]? with
      | none => rw [q] at h1'; cases h1'
      | some d => rw [q] at h1'; cases h1'
  · cases h
    exact ⟨rfl, m, rfl⟩
/-- what a call asks, and tells -/
theorem Sep.calls {n : Nat} {wf : WF} {vs dvs : List V} {as : List Ar} {dd : List Dt} {Q : VK} {E : XK} {Ψ : Ro → List Sl → Prop} (S : Sep K B C H σ ρ) (ok : ArL K C σ vs as) (dv : RpL K C dvs dd) (hn : (as.length + dd.length) = n) (h : callW wf as dd ρ Ψ)
    (k : ∀ C' G v r ρ', Sep K B C' G σ ρ' → Same C C' → RoOk K B C' G σ ρ' v r → Ψ r ρ' → Q v G) : spD K n wf (vs ++ dvs) H Q E := by
  have la : vs.length = as.length := by
    have : ∀ {vs : List V} {as : List Ar}, ArL K C σ vs as → vs.length = as.length := fun {vs as} z => by
      induction z with
      | nil => rfl
      | cons _ _ ih => exact congrArg Nat.succ ih
    exact this ok
  refine ⟨by rw [List.length_append, la, dv.len]; exact hn, ?_⟩
  have news : ∀ {bx : Option (Nat × Addr)} {C' G : Hp} {τ : L2.St} {π ρ' : List Sl} {v : V} {r : Ro}, Sep K ⟨C, H, bx⟩ C' G τ π → (∀ (j : Nat) (t : Sl) (a : Addr), ρ'[j]? = some t → t.mut = true → σ[j]? = some (some (V.ref a)) → H a ≠ none) → RoOk K ⟨C, H, bx⟩ C' G τ π v r → RoOk K B C' G σ ρ' v r := fun {bx C' G τ π ρ' v r} S' hh q => by
    cases r with
    | dat d => exact q
    | new ds =>
      obtain ⟨a, e, f1, f2, f3, f4⟩ := q
      exact ⟨a, e, f1, f2, S.free0 f3, fun j t h m ej => hh j t a h m ej f3⟩
  have plain : dats as = none ∨ (∃ ds, dats as = some ds) := by
    cases dats as with
    | none => exact .inl rfl
    | some ds => exact .inr ⟨ds, rfl⟩
  have noB : ∀ ds, dats as = some ds → wf ((ds ++ dd).map .dat) (fun r _ => Ψ r ρ) → ∃ (C₁ : Hp) (bx : Option (Nat × Addr)) (ps : List Sl) (Ψ : Ro → List Sl → Prop), Sep K ⟨C₁, H, bx⟩ C₁ H ((vs ++ dvs).map some) ps ∧ wf ps Ψ ∧
      ∀ C' G v r ps', Sep K ⟨C₁, H, bx⟩ C' G ((vs ++ dvs).map some) ps' → RoOk K ⟨C₁, H, bx⟩ C' G ((vs ++ dvs).map some) ps' v r → Ψ r ps' → Q v G := fun ds e hw =>
    ⟨C, none, _, _, sep_dats S ((ok.dats e).append dv), hw, fun C' G v r ps' S' q z => k _ _ _ _ _ (S.after S') S'.grow (news S' (fun j t a h m ej => (S.mutH h m ej).2) q) z⟩
  match as, ok, h with
  | [], ok, h => exact noB [] rfl h
  | .d x :: as, ok, h =>
    unfold callW at h
    cases q : dats (.d x :: as) with
    | none => simp only [q] at h
    | some ds =>
      simp only [q] at h
      exact noB ds q h
  | .b i :: as, .cons (v := v) (vs := us) oi ok, h =>
    unfold callW at h
    dsimp only at h
    cases q1 : ρ[i]? with
    | none => simp only [q1] at h
    | some t =>
      cases q2 : dats as with
      | none => cases t <;> simp only [q1, q2] at h
      | some ds =>
        cases t <;> simp only [q1, q2] at h
        rename_i m
        have oi' : σ[i]? = some (some v) := oi
        obtain ⟨p, e2, _⟩ := S.sl i _ q1
        rw [oi'] at e2
        cases e2
        refine ⟨C, some (0, p), _, _, sep_box S q1 oi' ((ok.dats q2).append dv), h, fun C' G v r ps' S' q z => ?_⟩
        unfold boxK at z
        cases ps' with
        | nil => exact False.elim z
        | cons s ps' =>
          cases s <;> try exact False.elim z
          rename_i n'
          have S2 := S.afterB q1 oi' S' rfl
          refine k _ _ _ _ _ S2 S'.grow (news S' (fun j t a hj m ej => ?_) q) z
          rcases get_set hj with ⟨rfl, rfl, l⟩ | ⟨nj, hj⟩
          · exact (S.mutH q1 rfl ej).2
          · exact (S.mutH hj m ej).2
end
theorem ArL.len {C : Hp} {σ : L2.St} : ∀ {vs : List V} {as : List Ar}, ArL K C σ vs as → vs.length = as.length
  | _, _, .nil => rfl
  | _, _, .cons _ t => congrArg Nat.succ (ArL.len t)
def wCall (n : Nat) (wf : WF) (dd : List Dt) (wa : WA) : WE := fun ρ Ψ => wa ρ fun as ρ1 => as.length + dd.length = n ∧ callW wf as dd ρ1 fun r ρ2 => Ψ (.dat r.val) ρ2
instance sd_call {n : Nat} {wf : WF} {dvs : List V} {dd : List Dt} {E : XK} {ta : TA} {wa : WA} [v : Dv dvs dd] [a : Sa K ta wa] : Sd K (tCall (spD K n wf) dvs E ta) (wCall n wf dd wa) where
  run B C H σ ρ Q Ψ S h k := a.run B C H σ ρ _ _ S h fun C1 H1 vs as ρ1 S1 s1 ok1 h1 => by
    refine S1.calls ok1 (v.run K C1) h1.1 h1.2 fun C' G v r ρ' S' s' q z => ?_
    cases r with
    | dat d => exact k _ _ _ (.dat d) _ S' (s1.trans s') q z
    | new ds =>
      obtain ⟨b, rfl, f⟩ := q
      obtain ⟨C2, S2, s2, r2⟩ := f.cool S'
      exact k _ _ _ (.dat (.lst ds)) _ S2 (s1.trans (s'.trans s2)) r2 z
def wCallN (n : Nat) (wf : List Sl → (List Dt → List Sl → Prop) → Prop) (dd : List Dt) (wa : WA) : WN := fun ρ Ψ => wa ρ fun as ρ1 => as.length + dd.length = n ∧ callW (fun ps Ψ => wf ps fun ds ps' => Ψ (.new ds) ps') as dd ρ1 fun r ρ2 => match r with
  | .new ds => Ψ ds ρ2
  | .dat _ => False
instance sn_call {n : Nat} {wf : List Sl → (List Dt → List Sl → Prop) → Prop} {dvs : List V} {dd : List Dt} {E : XK} {ta : TA} {wa : WA} [v : Dv dvs dd] [a : Sa K ta wa] : Sn K (tCall (spN K n wf) dvs E ta) (wCallN n wf dd wa) where
  run B C H σ ρ Q Ψ S h k := a.run B C H σ ρ _ _ S h fun C1 H1 vs as ρ1 S1 s1 ok1 h1 => by
    refine S1.calls ok1 (v.run K C1) h1.1 h1.2 fun C' G v r ρ' S' s' q z => ?_
    cases r with
    | dat d => exact False.elim z
    | new ds =>
      obtain ⟨b, rfl, f⟩ := q
      exact k _ _ _ _ _ S' (s1.trans s') f z

end
section
variable {P : Program} {w : World} {K : PySem.W.Frag} {mg : Str → Option Value} {base : Heap}
local macro_rules | `(tactic| get_elem_tactic_trivial) => `(tactic| (repeat first | exact Wk.nil | exact Wk'.nil | refine Wk.same ?_ | refine Wk'.same ?_ | refine Wk.un (fun _ z => nomatch z) ?_ | refine Wk'.un ?_))
/-! defs that show things: while they run nothing else is being shown -/
section
variable {X : Cx} {k : Nat} {f : Addr} {fd : FuncData} {ps : List Str} {sp : Sp} {dvs : List V} {ds : List Value} {E : XK} {x : Str} {p pos : Pos} {e : Expr} {es : List Expr} {t : TA}
end
/-! the end of a law that shows things -/

end
section
variable {P : Program} {w : World} {K : PySem.W.Frag} {mg : Str → Option Value} {base : Heap}
local macro_rules | `(tactic| get_elem_tactic_trivial) => `(tactic| (repeat first | exact Wk.nil | exact Wk'.nil | refine Wk.same ?_ | refine Wk'.same ?_ | refine Wk.un (fun _ z => nomatch z) ?_ | refine Wk'.un ?_))
/-! as the library's data -/
mutual
def Dt.py : Dt → PyData
  | .non => .none
  | .bl b => .bool b
  | .int i => .int i
  | .str x => .str x
  | .lst ds => .list (pys ds)
  | .tup ds => .tuple (pys ds)
  | .obj _ _ _ => .none
  | .err _ _ => .none
  | .adr _ => .none
  | .dic _ _ => .none
  | .scr _ => .none
def pys : List Dt → List PyData
  | [] => []
  | d :: ds => d.py :: pys ds
end
mutual
def Dt.pure : Dt → Bool
  | .lst ds => pures ds
  | .tup ds => pures ds
  | .obj _ _ _ => false
  | .err _ _ => false
  | .adr _ => false
  | .dic _ _ => false
  | .scr _ => false
  | _ => true
def pures : List Dt → Bool
  | [] => true
  | d :: ds => d.pure && pures ds
end
mutual
theorem Rp.dp {C : Hp} : ∀ (d : Dt) (v : V), Rp K C v d → d.pure = true → Dp K C v d.py
  | .non, _, h, _ => by cases h; exact .non
  | .bl b, _, h, _ => by cases h; exact .bl b
  | .int i, _, h, _ => by cases h; exact .int i
  | .str x, _, h, _ => by cases h; exact .str x
  | .lst ds, _, h, p => by
    cases h with
    | lst a b => exact .lst (SqL.of a) (RpL.dp ds _ b (by simpa only [Dt.pure] using p))
  | .tup ds, _, h, p => by
    cases h with
    | tup a b => exact .tup a (RpL.dp ds _ b (by simpa only [Dt.pure] using p))
  | .obj _ _ _, _, _, p => by simp only [Dt.pure] at p; cases p
  | .err _ _, _, _, p => by simp only [Dt.pure] at p; cases p
  | .adr _, _, _, p => by simp only [Dt.pure] at p; cases p
  | .dic _ _, _, _, p => by simp only [Dt.pure] at p; cases p
  | .scr _, _, _, p => by simp only [Dt.pure] at p; cases p
theorem RpL.dp {C : Hp} : ∀ (ds : List Dt) (vs : List V), RpL K C vs ds → pures ds = true → DpAll K C vs (pys ds)
  | [], _, h, _ => by cases h; exact .nil
  | d :: ds, _, h, p => by
    cases h with
    | cons a b =>
      simp only [pures, Bool.and_eq_true] at p
      exact .cons (Rp.dp d _ a p.1) (RpL.dp ds _ b p.2)
end
theorem Rt.dp {B : Bs} {C H : Hp} {σ : L2.St} {ρ : List Sl} {v : V} {d : Dt} (S : Sep K B C H σ ρ) (h : Rt K C H v d) (p : d.pure = true) : Dp K H v d.py := by
  rcases h with h | ⟨a, vs, ds, rfl, rfl, ha, r⟩
  · exact dp_same S.cold _ _ (Rp.dp d v h p)
  · exact .lst (SqL.of ha) (dps_same S.cold _ _ (RpL.dp ds vs r (by simpa only [Dt.pure] using p)))
structure Nice (n b : Nat) (d : Dt) : Prop where
  pu : d.pure = true
  lay : d.py.canLay0 = true
  sh : d.py.showable = true
  lv : d.py.leavesShort 1921 = true
  dp : d.py.depth ≤ n
  bk : d.py.bulk ≤ b
theorem Nice.mono {n b m c : Nat} {d : Dt} (h : Nice n b d) (h1 : n ≤ m) (h2 : b ≤ c) : Nice m c d := ⟨h.pu, h.lay, h.sh, h.lv, Nat.le_trans h.dp h1, Nat.le_trans h.bk h2⟩
theorem nice_non : Nice 0 0 .non := ⟨rfl, rfl, rfl, rfl, Nat.le_refl _, Nat.le_refl _⟩
theorem nice_bl (b : Bool) : Nice 0 0 (.bl b) := ⟨rfl, rfl, rfl, rfl, Nat.le_refl _, Nat.le_refl _⟩
theorem log_lt {i : Int} {k : Nat} (hk : 0 < k) (h : i.natAbs < 2 ^ k) : i.natAbs.log2 < k := by
  by_cases z : i.natAbs = 0
  · rw [z]
    exact hk
  · exact (Nat.log2_lt z).mpr h
theorem nice_int {i : Int} (h : i.natAbs < 2 ^ 1900) : Nice 0 0 (.int i) := by
  have h1 : i.natAbs.log2 < 1920 := Nat.lt_trans (log_lt (by decide) h) (by decide)
  refine ⟨rfl, rfl, ?_, ?_, Nat.le_refl _, Nat.le_refl _⟩
  · show PyData.showable (.int i) = true
    simp only [PyData.showable, decide_eq_true_eq]
    exact h1
  · show PyData.leavesShort 1921 (.int i) = true
    simp only [PyData.leavesShort, decide_eq_true_eq]
    exact PyProof.Rows.int_text_len_1921 h1
theorem nices {n b : Nat} : ∀ {ds : List Dt}, (∀ d ∈ ds, Nice n b d) → pures ds = true ∧ PyData.canLayAll0 (pys ds) = true ∧ PyData.showableAll (pys ds) = true ∧ PyData.leavesShortAll 1921 (pys ds) = true ∧ PyData.depthAll (pys ds) ≤ n ∧ PyData.bulkAll (pys ds) ≤ ds.length * (b + 1)
  | [], _ => ⟨rfl, rfl, rfl, rfl, Nat.zero_le _, Nat.zero_le _⟩
  | d :: ds, h => by
    obtain ⟨h1, h2, h3, h4, h5, h6⟩ := nices (ds := ds) fun e he => h e (List.mem_cons_of_mem _ he)
    have q := h d (List.mem_cons_self ..)
    refine ⟨?_, ?_, ?_, ?_, ?_, ?_⟩
    · simp only [pures, q.pu, h1, Bool.and_self]
    · simp only [pys, PyData.canLayAll0, q.lay, h2, Bool.and_self]
    · simp only [pys, PyData.showableAll, q.sh, h3, Bool.and_self]
    · simp only [pys, PyData.leavesShortAll, q.lv, h4, Bool.and_self]
    · simp only [pys, PyData.depthAll]
      exact Nat.max_le.mpr ⟨q.dp, h5⟩
    · simp only [pys, PyData.bulkAll, List.length_cons]
      have := q.bk
      have e : (ds.length + 1) * (b + 1) = ds.length * (b + 1) + (b + 1) := by rw [Nat.succ_mul]
      omega
theorem nice_lst {n b : Nat} {ds : List Dt} (h : ∀ d ∈ ds, Nice n b d) : Nice (n + 1) (ds.length * (b + 1)) (.lst ds) := by
  obtain ⟨h1, h2, h3, h4, h5, h6⟩ := nices h
  refine ⟨?_, ?_, ?_, ?_, ?_, ?_⟩
  · simp only [Dt.pure]; exact h1
  · simp only [Dt.py, PyData.canLay0]; exact h2
  · simp only [Dt.py, PyData.showable]; exact h3
  · simp only [Dt.py, PyData.leavesShort]; exact h4
  · simp only [Dt.py, PyData.depth]; omega
  · simp only [Dt.py, PyData.bulk]; exact h6
theorem nice_tup {n b : Nat} {ds : List Dt} (h : ∀ d ∈ ds, Nice n b d) : Nice (n + 1) (ds.length * (b + 1)) (.tup ds) := by
  obtain ⟨h1, h2, h3, h4, h5, h6⟩ := nices h
  refine ⟨?_, ?_, ?_, ?_, ?_, ?_⟩
  · simp only [Dt.pure]; exact h1
  · simp only [Dt.py, PyData.canLay0]; exact h2
  · simp only [Dt.py, PyData.showable]; exact h3
  · simp only [Dt.py, PyData.leavesShort]; exact h4
  · simp only [Dt.py, PyData.depth]; omega
  · simp only [Dt.py, PyData.bulk]; exact h6
/-! == and != of data -/
def eD (d e : Dt) : Bool := PyData.eqv d.py e.py
def oEqD (neg : Bool) (d e : Dt) (Φ : Dt → Prop) : Prop := (d.pure = true ∧ e.pure = true ∧ SeqAt.shaped d.py = true ∧ SeqAt.shaped e.py = true) ∧ Φ (.bl (if neg then !eD d e else eD d e))
instance so_eqD : So K (rEqD K) (oEqD false) where
  run B C H σ ρ x y dx dy Q Φ S hx hy h k := by
    obtain ⟨⟨h1, h2, h3, h4⟩, z⟩ := h
    exact ⟨_, _, hx.dp S h1, hy.dp S h2, h3, h4, k _ _ _ _ S (Same.refl _) (.bl _) z⟩
instance so_neD : So K (rNeD K) (oEqD true) where
  run B C H σ ρ x y dx dy Q Φ S hx hy h k := by
    obtain ⟨⟨h1, h2, h3, h4⟩, z⟩ := h
    exact ⟨_, _, hx.dp S h1, hy.dp S h2, h3, h4, k _ _ _ _ S (Same.refl _) (.bl _) z⟩
/-! is None -/
def rIsNone : R2 := fun x y H Q => y = .non ∧ Q (.bl (decide (x = .non))) H
def isNon : Dt → Bool
  | .non => true
  | _ => false
def oIsN (neg : Bool) (d e : Dt) (Φ : Dt → Prop) : Prop := e = .non ∧ Φ (.bl (if neg then !isNon d else isNon d))
theorem isNon_ok {C H : Hp} {x : V} {d : Dt} (h : Rt K C H x d) : decide (x = V.non) = isNon d := by
  rcases h with h | ⟨a, vs, ds, rfl, rfl, _⟩
  · cases h <;> rfl
  · rfl
instance so_isN : So K rIsNone (oIsN false) where
  run B C H σ ρ x y dx dy Q Φ S hx hy h k := by
    obtain ⟨rfl, z⟩ := h
    exact ⟨hy.non, by rw [isNon_ok hx]; exact k _ _ _ _ S (Same.refl _) (.bl _) z⟩
/-! lists made of two -/
def oCat : Dt → Dt → (List Dt → Prop) → Prop
  | .lst ds, .lst es, Φ => ds.length + es.length ≤ sizeLine ∧ Φ (ds ++ es)
  | _, _, _ => False
instance sno_cat : Sno K rCat oCat where
  run B C H σ ρ x y dx dy Q Φ S hx hy h k := by
    cases dx <;> cases dy <;> try exact False.elim h
    obtain ⟨a, vs, rfl, ha, ra⟩ := hx.list' S
    obtain ⟨b, ws, rfl, hb, rb⟩ := hy.list' S
    exact ⟨a, b, vs, ws, rfl, rfl, ha, hb, by rw [ra.len, rb.len]; exact h.1, fun p hp => k _ _ _ _ (S.allocN hp) (Same.refl _) (S.frN hp (ra.append rb)) h.2⟩
def oRep : Dt → Dt → (List Dt → Prop) → Prop
  | .lst ds, .int k, Φ => (-9223372036854775808 ≤ k ∧ k < 9223372036854775808 ∧ ds.length * k.toNat ≤ sizeLine) ∧ Φ (List.replicate k.toNat ds).flatten
  | _, _, _ => False
theorem RpL.reps {C : Hp} {vs : List V} {ds : List Dt} (r : RpL K C vs ds) : ∀ n : Nat, RpL K C (List.replicate n vs).flatten (List.replicate n ds).flatten
  | 0 => .nil
  | n + 1 => by
    rw [List.replicate_succ, List.replicate_succ, List.flatten_cons, List.flatten_cons]
    exact r.append (RpL.reps r n)
instance sno_rep : Sno K rRep oRep where
  run B C H σ ρ x y dx dy Q Φ S hx hy h k := by
    cases dx <;> cases dy <;> try exact False.elim h
    obtain ⟨a, vs, rfl, ha, ra⟩ := hx.list' S
    obtain ⟨⟨h1, h2, h3⟩, z⟩ := h
    exact ⟨a, _, vs, rfl, hy.int, ha, h1, h2, by rw [ra.len]; exact h3, fun p hp => k _ _ _ _ (S.allocN hp) (Same.refl _) (S.frN hp (ra.reps _)) z⟩
/-! slices -/
def cutD (ds : List Dt) (lo hi : Option Int) : List Dt := (ds.drop (HT.sIx ds.length 0 lo)).take (HT.sIx ds.length ds.length hi - HT.sIx ds.length 0 lo)
theorem RpL.cut {C : Hp} {vs : List V} {ds : List Dt} (r : RpL K C vs ds) (lo hi : Option Int) : RpL K C (cutV vs lo hi) (cutD ds lo hi) := by
  unfold cutV cutD
  rw [r.len]
  exact (r.drop _).take _
abbrev WO := List Sl → (Option Int → List Sl → Prop) → Prop
class Sop (K : PySem.W.Frag) (t : TO) (w : outParam WO) : Prop where
  run : ∀ (B : Bs) (C H : Hp) (σ : L2.St) (ρ : List Sl) (Q : Option Int → Hp → Prop) (Ψ : Option Int → List Sl → Prop), Sep K B C H σ ρ → w ρ Ψ → (∀ C' G o ρ', Sep K B C' G σ ρ' → Same C C' → Ψ o ρ' → Q o G) → t σ H Q
instance sop_no : Sop K tNoPart (fun ρ Ψ => Ψ none ρ) where
  run B C H σ ρ Q Ψ S h k := k _ _ _ _ S (Same.refl _) h
def isInt (r : Rs) (k : Int → Prop) : Prop := match r with
  | .dat (.int i) => k i
  | _ => False
theorem isInt_run {C : Hp} {σ : L2.St} {ρ : List Sl} {v : V} {r : Rs} {k : Int → Prop} (ok : RsOk K C σ ρ v r) (h : isInt r k) : ∃ i, v = .int i ∧ k i := by
  cases r with
  | dat d =>
    cases d <;> try exact False.elim h
    cases ok
    exact ⟨_, rfl, h⟩
  | hot i ds => exact False.elim h
  | box i n => exact False.elim h
instance sop_part {t : TE} {w : WE} [a : Sd K t w] : Sop K (tPart t) (fun ρ Ψ => w ρ fun r ρ1 => isInt r fun i => Ψ (some i) ρ1) where
  run B C H σ ρ Q Ψ S h k := a.run B C H σ ρ _ _ S h fun C1 H1 v1 r1 ρ1 S1 s1 ok1 h1 => by
    obtain ⟨i, rfl, z⟩ := isInt_run ok1 h1
    exact ⟨i, rfl, k _ _ _ _ S1 s1 z⟩
def wSlL (w : WE) (wl wh : WO) : WN := fun ρ Ψ => w ρ fun r ρ1 => wl ρ1 fun lo ρ2 => wh ρ2 fun hi ρ3 => match r.val ρ3 with
  | some (.lst ds) => Ψ (cutD ds lo hi) ρ3
  | _ => False
instance sn_slL {te : TE} {tl th : TO} {w : WE} {wl wh : WO} [a : Sd K te w] [b : Sop K tl wl] [c : Sop K th wh] : Sn K (tSl (rSlL K) te tl th) (wSlL w wl wh) where
  run B C H σ ρ Q Ψ S h k := by
    refine a.run B C H σ ρ _ _ S h fun C1 H1 v1 r1 ρ1 S1 s1 ok1 h1 => ?_
    refine b.run B C1 H1 σ ρ1 _ _ S1 h1 fun C2 H2 lo ρ2 S2 s2 h2 => ?_
    refine c.run B C2 H2 σ ρ2 _ _ S2 h2 fun C3 H3 hi ρ3 S3 s3 h3 => ?_
    cases q : r1.val ρ3 with
    | none => simp only [q] at h3
    | some d =>
      simp only [q] at h3
      cases d <;> try exact False.elim h3
      obtain ⟨x, vs, rfl, ha, ra⟩ := (S3.valOf ok1 (s2.trans s3) q).list' S3
      exact ⟨x, vs, rfl, SqL.of ha, fun p hp => k _ _ _ _ _ (S3.allocN hp) (s1.trans (s2.trans s3)) (S3.frN hp (ra.cut lo hi)) h3⟩
/-! builtins of one thing -/
class Sb1 (K : PySem.W.Frag) (r : List V → Hp → VK → Prop) (f : outParam (Dt → (Dt → Prop) → Prop)) : Prop where
  run : ∀ (B : Bs) (C H : Hp) (σ : L2.St) (ρ : List Sl) (v : V) (d : Dt) (Q : VK) (Φ : Dt → Prop), Sep K B C H σ ρ → Rt K C H v d → f d Φ → (∀ C' G v d, Sep K B C' G σ ρ → Same C C' → Rp K C' v d → Φ d → Q v G) → r [v] H Q
def wCB1 (f : Dt → (Dt → Prop) → Prop) (wa : WE) : WE := fun ρ Ψ => wa ρ fun r ρ1 => match r.val ρ1 with
  | some d => f d fun e => Ψ (.dat e) ρ1
  | none => False
instance sd_cb1 {r : List V → Hp → VK → Prop} {f : Dt → (Dt → Prop) → Prop} {ta : TE} {wa : WE} [b : Sb1 K r f] [a : Sd K ta wa] : Sd K (tCB r (tCons ta tNil)) (wCB1 f wa) where
  run B C H σ ρ Q Ψ S h k := a.run B C H σ ρ _ _ S h fun C1 H1 v1 r1 ρ1 S1 s1 ok1 h1 => by
    cases q : r1.val ρ1 with
    | none => simp only [q] at h1
    | some d =>
      simp only [q] at h1
      exact b.run B C1 H1 σ ρ1 _ _ _ _ S1 (S1.valOf ok1 (Same.refl _) q) h1 fun C2 H2 v d S2 s2 r2 z => k _ _ _ (.dat d) _ S2 (s1.trans s2) r2 z
class Sb1n (K : PySem.W.Frag) (r : List V → Hp → VK → Prop) (f : outParam (Dt → (List Dt → Prop) → Prop)) : Prop where
  run : ∀ (B : Bs) (C H : Hp) (σ : L2.St) (ρ : List Sl) (v : V) (d : Dt) (Q : VK) (Φ : List Dt → Prop), Sep K B C H σ ρ → Rt K C H v d → f d Φ → (∀ C' G a ds, Sep K B C' G σ ρ → Same C C' → Fr K B C' G σ ρ a ds → Φ ds → Q (.ref a) G) → r [v] H Q
def wCB1n (f : Dt → (List Dt → Prop) → Prop) (wa : WE) : WN := fun ρ Ψ => wa ρ fun r ρ1 => match r.val ρ1 with
  | some d => f d fun e => Ψ e ρ1
  | none => False
instance sn_cb1 {r : List V → Hp → VK → Prop} {f : Dt → (List Dt → Prop) → Prop} {ta : TE} {wa : WE} [b : Sb1n K r f] [a : Sd K ta wa] : Sn K (tCB r (tCons ta tNil)) (wCB1n f wa) where
  run B C H σ ρ Q Ψ S h k := a.run B C H σ ρ _ _ S h fun C1 H1 v1 r1 ρ1 S1 s1 ok1 h1 => by
    cases q : r1.val ρ1 with
    | none => simp only [q] at h1
    | some d =>
      simp only [q] at h1
      exact b.run B C1 H1 σ ρ1 _ _ _ _ S1 (S1.valOf ok1 (Same.refl _) q) h1 fun C2 H2 a ds S2 s2 f2 z => k _ _ _ _ _ S2 (s1.trans s2) f2 z
def fLen : Dt → (Dt → Prop) → Prop
  | .lst ds, Φ => Φ (.int ds.length)
  | .tup ds, Φ => Φ (.int ds.length)
  | .scr ns, Φ => Φ (.int ns.length)
  | .str x, Φ => x.length ≤ sizeLine ∧ Φ (.int x.length)
  | _, _ => False
instance sb_len : Sb1 K (rLen K) fLen where
  run B C H σ ρ v d Q Φ S hv h k := by
    cases d <;> try exact False.elim h
    · cases hv.str
      exact ⟨_, _, rfl, ⟨h.1, rfl⟩, k _ _ _ _ S (Same.refl _) (.int _) h.2⟩
    · obtain ⟨a, vs, rfl, ha, ra⟩ := hv.list' S
      exact ⟨_, _, rfl, .inl ⟨vs, SqL.of ha, rfl⟩, by rw [ra.len]; exact k _ _ _ _ S (Same.refl _) (.int _) h⟩
    · obtain ⟨a, vs, rfl, ha, ra⟩ := hv.tup' S
      exact ⟨_, _, rfl, .inr ⟨vs, ha, rfl⟩, by rw [ra.len]; exact k _ _ _ _ S (Same.refl _) (.int _) h⟩
    · rcases hv with hv | ⟨_, _, _, _, e, _⟩
      · cases hv with
        | scr a => exact ⟨_, _, rfl, .inl ⟨_, S.cold.seq a, by rw [List.length_map]⟩, k _ _ _ _ S (Same.refl _) (.int _) h⟩
      · cases e
def cInt1 : List V → Hp → VK → Prop := fun xs H Q => (∃ i, xs = [.int i] ∧ Q (.int i) H) ∨ ∃ k, xs = [.bl k] ∧ Q (.int (if k then 1 else 0)) H
def fInt : Dt → (Dt → Prop) → Prop
  | .int i, Φ => Φ (.int i)
  | .bl b, Φ => Φ (.int (if b then 1 else 0))
  | _, _ => False
instance sb_int1 : Sb1 K cInt1 fInt where
  run B C H σ ρ v d Q Φ S hv h k := by
    cases d <;> try exact False.elim h
    · cases hv.bl
      exact .inr ⟨_, rfl, k _ _ _ _ S (Same.refl _) (.int _) h⟩
    · cases hv.int
      exact .inl ⟨_, rfl, k _ _ _ _ S (Same.refl _) (.int _) h⟩
def cMin2 : List V → Hp → VK → Prop := fun xs H Q => ∃ i j, xs = [.int i, .int j] ∧ Q (.int (if j < i then j else i)) H
def fMin : List Dt → (Dt → Prop) → Prop
  | [.int i, .int j], Φ => Φ (.int (if j < i then j else i))
  | _, _ => False
theorem two_ints {C : Hp} {vs : List V} {i j : Int} (h : RpL K C vs [.int i, .int j]) : vs = [.int i, .int j] := by
  match h with
  | .cons a (.cons b .nil) =>
    cases a
    cases b
    rfl
instance sb_min : Sb K cMin2 fMin where
  run B C H σ ρ vs ds Q Φ S r h k := by
    unfold fMin at h
    split at h
    · exact ⟨_, _, two_ints r, k _ _ _ _ S (Same.refl _) (.int _) h⟩
    · exact h.elim
/-- bools -/
def bls : List Dt → Option (List Bool)
  | [] => some []
  | .bl b :: ds => match bls ds with
    | some bs => some (b :: bs)
    | none => none
  | _ :: _ => none
theorem bls_ok {C : Hp} : ∀ {vs : List V} {ds : List Dt} {bs : List Bool}, RpL K C vs ds → bls ds = some bs → vs = bs.map V.bl
  | _, _, bs, .nil, e => by cases e; rfl
  | _, .bl b :: ds, bs, .cons h t, e => by
    cases h
    unfold bls at e
    cases q : bls ds with
    | none => rw [q] at e; cases e
    | some cs =>
      rw [q] at e
      cases e
      rw [bls_ok t q]
      rfl
  | _, .non :: ds, bs, .cons h t, e => by cases e
  | _, .int _ :: ds, bs, .cons h t, e => by cases e
  | _, .str _ :: ds, bs, .cons h t, e => by cases e
  | _, .lst _ :: ds, bs, .cons h t, e => by cases e
  | _, .tup _ :: ds, bs, .cons h t, e => by cases e
  | _, .obj _ _ _ :: ds, bs, .cons h t, e => by cases e
  | _, .err _ _ :: ds, bs, .cons h t, e => by cases e
  | _, .scr _ :: ds, bs, .cons h t, e => by cases e
def fAll : Dt → (Dt → Prop) → Prop
  | .lst ds, Φ => ∃ bs, bls ds = some bs ∧ Φ (.bl (bs.all id))
  | _, _ => False
instance sb_all : Sb1 K (rAll K) fAll where
  run B C H σ ρ v d Q Φ S hv h k := by
    cases d <;> try exact False.elim h
    obtain ⟨bs, e, z⟩ := h
    obtain ⟨a, vs, rfl, ha, ra⟩ := hv.list' S
    exact ⟨a, bs, rfl, by rw [← bls_ok ra e]; exact SqL.of ha, k _ _ _ _ S (Same.refl _) (.bl _) z⟩
def cList (K : PySem.W.Frag) : List V → Hp → VK → Prop := fun xs H Q => ∃ p ys, xs = [.ref p] ∧ (SqL K H p ys ∨ SqT K H p ys) ∧ ∀ l, H l = none → Q (.ref l) (upd H l (.lst ys))
def fList : Dt → (List Dt → Prop) → Prop
  | .lst ds, Φ => Φ ds
  | .tup ds, Φ => Φ ds
  | _, _ => False
instance sb_list : Sb1n K (cList K) fList where
  run B C H σ ρ v d Q Φ S hv h k := by
    cases d <;> try exact False.elim h
    · obtain ⟨a, vs, rfl, ha, ra⟩ := hv.list' S
      exact ⟨a, vs, rfl, .inl (SqL.of ha), fun p hp => k _ _ _ _ (S.allocN hp) (Same.refl _) (S.frN hp ra) h⟩
    · obtain ⟨a, vs, rfl, ha, ra⟩ := hv.tup' S
      exact ⟨a, vs, rfl, .inr ha, fun p hp => k _ _ _ _ (S.allocN hp) (Same.refl _) (S.frN hp ra) h⟩
def cTuple (K : PySem.W.Frag) : List V → Hp → VK → Prop := fun xs H Q => ∃ p ys, xs = [.ref p] ∧ ((SqL K H p ys ∧ ∀ l, H l = none → Q (.ref l) (upd H l (.tup ys))) ∨ (SqT K H p ys ∧ Q (.ref p) H))
def fTuple : Dt → (Dt → Prop) → Prop
  | .lst ds, Φ => Φ (.tup ds)
  | .tup ds, Φ => Φ (.tup ds)
  | _, _ => False
instance sb_tuple : Sb1 K (cTuple K) fTuple where
  run B C H σ ρ v d Q Φ S hv h k := by
    cases d <;> try exact False.elim h
    · obtain ⟨a, vs, rfl, ha, ra⟩ := hv.list' S
      refine ⟨a, vs, rfl, .inl ⟨SqL.of ha, fun p hp => ?_⟩⟩
      have sC : Same C (upd C p (.tup vs)) := same_new (S.cold.free hp)
      exact k _ _ _ _ (S.alloc hp) sC (.tup (.inl (.inl upd_same)) (ra.same sC)) h
    · rcases hv with hv | ⟨_, _, _, _, e, _⟩
      · cases hv with
        | tup a b => exact ⟨_, _, rfl, .inr ⟨seqT_same S.cold a, k _ _ _ _ S (Same.refl _) (.tup a b) h⟩⟩
      · cases e
/-! methods of a list that may be changed -/
def hotAt (i : Nat) (ρ : List Sl) (k : List Dt → Prop) : Prop := match ρ[i]? with
  | some (.hot ds) => k ds
  | _ => False
theorem hotAt_run {i : Nat} {ρ : List Sl} {k : List Dt → Prop} (h : hotAt i ρ k) : ∃ ds, ρ[i]? = some (.hot ds) ∧ k ds := by
  unfold hotAt at h
  cases q : ρ[i]? with
  | none => rw [q] at h; exact h.elim
  | some t => rw [q] at h; cases t <;> first | exact ⟨_, rfl, h⟩ | exact False.elim h
def isD (a : Ar) (k : Dt → Prop) : Prop := match a with
  | .d x => k x
  | .b _ => False
def wAppend (i : Nat) (wa : WE) : WE := fun ρ Ψ => hotAt i ρ fun _ => wa ρ fun r ρ1 => store r ρ1 fun a ρ2 => isD a fun d => hotAt i ρ2 fun ds => ds.length < sizeLine ∧ Ψ (.dat .non) (ρ2.set i (.hot (ds ++ [d])))
instance sd_append {i : Nat} {te : TE} {w : WE} [a : Sd K te w] : Sd K (tBM K "list" rAppend (tVar i) (tCons te tNil)) (wAppend i w) where
  run B C H σ ρ Q Ψ S h k := by
    obtain ⟨ds0, e0, h⟩ := hotAt_run h
    obtain ⟨c, vs0, e, hc, _⟩ := S.sl i _ e0
    refine ⟨_, e, Or.inl ⟨rfl, _, SqL.of hc⟩, a.run B C H σ ρ _ _ S h fun C1 H1 v1 r1 ρ1 S1 s1 ok1 h1 => ?_⟩
    obtain ⟨C2, x, ρ2, S2, s2, ok2, h2⟩ := S1.stored ok1 h1
    cases x with
    | b j => exact False.elim h2
    | d x =>
      obtain ⟨ds, e2, h3, h4⟩ := hotAt_run h2
      obtain ⟨c', vs, e3, hc3, r3, _⟩ := S2.sl i _ e2
      rw [e] at e3
      cases e3
      exact ⟨c, vs, v1, rfl, rfl, hc3, by rw [r3.len]; exact h3, k _ _ _ (.dat .non) _ (S2.hot e2 e (r3.append (.cons ok2 .nil))) (s1.trans s2) .non h4⟩
/-! the drawer -/
theorem Sep.boxed {B : Bs} {C H G : Hp} {σ : L2.St} {ρ : List Sl} (S : Sep K B C H σ ρ) {i : Nat} {p : Addr} {n m : Int} (hi : ρ[i]? = some (.box n)) (ei : σ[i]? = some (some (V.ref p))) (b : But p H G) (hb : Box G p m) : Sep K B C G σ (ρ.set i (.box m)) := by
  have cp := (S.mutH hi rfl ei).1
  have kp : ∀ a o, H a = some o → a ≠ p → G a = some o := b
  have back : ∀ {j : Nat} {t : Sl}, (ρ.set i (.box m))[j]? = some t → t.mut = true → ∃ t', ρ[j]? = some t' ∧ t'.mut = true := fun {j t} z y => by
    rcases get_set z with ⟨rfl, rfl, l⟩ | ⟨_, z⟩
    · exact ⟨_, hi, rfl⟩
    · exact ⟨t, z, y⟩
  refine ⟨fun a o q => kp a o (S.cold _ _ q) fun z => (by rw [z, cp] at q; cases q), by rw [List.length_set]; exact S.len, fun j s h => ?_, fun j k a t u q h1 h2 m1 m2 e1 e2 => ?_, S.grow, S.new, fun a h => ?_, fun a o h n => kp a o (S.keep a o h n) fun z => ?_, fun j a ds h e => ?_, fun j a n h e => ?_, fun j a h => ?_, S.pz⟩
  · rcases get_set h with ⟨rfl, rfl, l⟩ | ⟨nj, h⟩
    · exact ⟨p, ei, hb, cp⟩
    · have q := S.sl j s h
      cases s with
      | un => trivial
      | dat d => exact q
      | hot ds =>
        obtain ⟨a, vs, e, ha, r, ca⟩ := q
        exact ⟨a, vs, e, kp _ _ ha (fun z => S.ne i j p _ _ nj hi h rfl rfl ei (z ▸ e)), r, ca⟩
      | box n =>
        obtain ⟨a, e, ⟨x, y, z, ha, hh⟩, ca⟩ := q
        have na : a ≠ p := fun z => S.ne i j p _ _ nj hi h rfl rfl ei (z ▸ e)
        exact ⟨a, e, ⟨x, y, z, kp _ _ ha na, hh⟩, ca⟩
  · obtain ⟨t', h1, m1⟩ := back h1 m1
    obtain ⟨u', h2, m2⟩ := back h2 m2
    exact S.ne j k a t' u' q h1 h2 m1 m2 e1 e2
  · have q := S.dom a h
    by_cases z : a = p
    · obtain ⟨x, y, w, hh, _⟩ := hb
      rw [z, hh]
      exact fun z => nomatch z
    · cases e : H a with
      | none => exact absurd e q
      | some o =>
        rw [kp a o e z]
        exact fun z => nomatch z
  · subst z
    rcases S.lob i a _ hi ei with q | q
    · rw [h] at q
      cases q
    · exact n i q
  · rcases get_set h with ⟨rfl, z, l⟩ | ⟨nj, h⟩
    · cases z
    · exact S.loc j a ds h e
  · rcases get_set h with ⟨rfl, z, l⟩ | ⟨nj, h⟩
    · exact S.lob i a _ hi e
    · exact S.lob j a n h e
  · obtain ⟨h1, n', h2⟩ := S.par j a h
    by_cases z : i = j
    · subst z
      refine ⟨h1, m, set_at ?_⟩
      cases Nat.lt_or_ge i ρ.length with
      | inl h => exact h
      | inr g => rw [List.getElem?_eq_none g] at hi; cases hi
    · exact ⟨h1, n', by rw [set_off z]; exact h2⟩
def wTake : WF := fun ps Ψ => match ps with
  | [.box n, .dat (.int m)] => (n < 1000000000 ∧ 0 < m ∧ m < 340282366920938463463374607431768211456) ∧ ∀ r : Int, 0 ≤ r → r < m → Ψ (.dat (.int r)) [.box (n + 1), .dat (.int m)]
  | _ => False
theorem take_imp {vs : List V} {H : Hp} {Q : VK} {E : XK} (h : spD K 2 wTake vs H Q E) : spLTake vs H Q E := by
  obtain ⟨hl, C, bx, ps, Ψ, S, hw, k⟩ := h
  unfold wTake at hw
  split at hw
  · rename_i n m
    obtain ⟨⟨h1, h2, h3⟩, hw⟩ := hw
    match vs, hl with
    | [a, b], _ =>
      obtain ⟨p, e, hb, _⟩ := S.sl 0 _ rfl
      obtain ⟨v, e2, r⟩ := S.sl 1 _ rfl
      cases (Option.some.inj (Option.some.inj e))
      cases (Option.some.inj (Option.some.inj e2))
      cases r
      exact ⟨p, m, n, rfl, hb, by omega, h2, h3, fun r G bt bG r0 r1 => k C G (.int r) (.dat (.int r)) _ (S.boxed (i := 0) rfl rfl bt bG) (.int r) (hw r r0 r1)⟩
  · exact hw.elim
/-! the law -/
def spLawD (K : PySem.W.Frag) : Sp := spD K 1 fun ps Ψ => match ps with
  | [.dat (.scr ns)] => ns.length ≤ 63 ∧ Ψ (.dat (.bl true)) ps
  | _ => False
theorem law_imp {H : Hp} {a : Addr} {ns : List Int} (hl : ns.length ≤ 63) (h : SqL K H a (ns.map V.int)) : spLawD K [.ref a] H (fun v _ => v = .bl true) fun _ _ _ => False := by
  refine ⟨rfl, H, none, [.dat (.scr ns)], fun r _ => r = .dat (.bl true), ⟨Same.refl _, rfl, fun i s e => ?_, fun i j a s t n h1 h2 m1 m2 e1 e2 => ?_, Same.refl _, fun a o e n => (by rw [show H a = none from n] at e; cases e), fun a h => h, fun a o h n => h, fun i a ds h e => ?_, fun i a n h e => ?_, fun i a h => (nomatch h), fun i a h => (nomatch h)⟩, ⟨hl, rfl⟩, fun C' G v r ps' S' ok e => ?_⟩
  · match i, e with
    | 0, e =>
      cases e
      exact ⟨_, rfl, .scr h⟩
    | i + 1, e => simp at e
  · match i, h1 with
    | 0, h1 => cases h1; cases m1
    | i + 1, h1 => simp at h1
  · match i, h with
    | 0, h => cases h
    | i + 1, h => simp at h
  · match i, h with
    | 0, h => cases h
    | i + 1, h => simp at h
  · subst e
    cases ok
    rfl

end
section
variable {P : Program} {w : World} {K : PySem.W.Frag} {mg : Str → Option Value} {base : Heap}
local macro_rules | `(tactic| get_elem_tactic_trivial) => `(tactic| (repeat first | exact Wk.nil | exact Wk'.nil | refine Wk.same ?_ | refine Wk'.same ?_ | refine Wk.un (fun _ z => nomatch z) ?_ | refine Wk'.un ?_))
/-! subscripts of lists, tuples, texts -/
def oIx : Dt → Dt → (Dt → Prop) → Prop
  | .lst ds, .int i, Φ => ∃ d, atI ds i = some d ∧ Φ d
  | .tup ds, .int i, Φ => ∃ d, atI ds i = some d ∧ Φ d
  | .str z, .int i, Φ => z.length ≤ sizeLine ∧ ∃ c, atI z.cps.toList i = some c ∧ Φ (.str ⟨#[c]⟩)
  | _, _, _ => False
instance so_ix : So K (rIx K) oIx where
  run B C H σ ρ x y dx dy Q Φ S hx hy h k := by
    cases dx <;> cases dy <;> try exact False.elim h
    · obtain ⟨z, c, e, q⟩ := h
      exact .inr (.inr ⟨_, _, c, hx.str, hy.int, z, e, k _ _ _ _ S (Same.refl _) (.str _) q⟩)
    · exact .inl (so_ixL.run B C H σ ρ _ _ _ _ Q Φ S hx hy h k)
    · exact .inr (.inl (so_ixT.run B C H σ ρ _ _ _ _ Q Φ S hx hy h k))
/-! what a for walks -/
section
variable {X : Cx} {tg e : Expr} {te : TE}
def iAny (K : PySem.W.Frag) (te : TE) : TI := fun σ H R => te σ H fun x H1 => ∃ a, x = .ref a ∧ (((∃ xs, SqL K H1 a xs) ∧ R (Itl K a) H1) ∨ ((∃ xs, SqT K H1 a xs) ∧ R (Itt K a) H1))
theorem piAny (hk : X.K = K) (he : PE X e te) : PI X tg e (iAny K te) := by
  subst hk
  constructor
  intro pins s σ H R I h
  apply thn (he.run pins s σ H _ I h)
  rintro v s1 ⟨x, H1, I1, r1, a, rfl, q⟩
  cases r1
  have fresh : ∀ b ∈ [s1.heap.objs.size], FpOk X pins H1 b := by
    intro b hb
    rw [List.mem_singleton.mp hb]
    exact I1.fpOk (Nat.le_refl _) (I1.hok.fresh (Nat.le_refl _))
  rcases q with ⟨⟨xs, hq⟩, q⟩ | ⟨⟨xs, hq⟩, q⟩
  · obtain ⟨its, _, pl, _⟩ := I1.list hq
    apply wpAny_pyIter_list pl.isList
    exact ⟨_, _, _, _, H1, rfl, I1.kept (t' := s1.toks) fun b o z => Heap.get?_push_of_some _ z, turn_list a _, ⟨_, Heap.get?_push_size _ rfl, rfl, rfl⟩, fresh, q⟩
  · obtain ⟨its, _, pl, _⟩ := I1.tuple hq
    apply wpAny_pyIter_tuple (show s1.heap.IsTuple a its.toArray from pl)
    exact ⟨_, _, _, _, H1, rfl, I1.kept (t' := s1.toks) fun b o z => Heap.get?_push_of_some _ z, turn_tuple a _, ⟨_, Heap.get?_push_size _ rfl, rfl, rfl⟩, fresh, q⟩
end
def seqOf (a : Ar) (k : List Dt → Prop) : Prop := match a with
  | .d (.lst ds) => k ds
  | .d (.tup ds) => k ds
  | _ => False
def wiAny (w : WE) : WI := fun ρ Ψ => w ρ fun r ρ1 => store r ρ1 fun a ρ2 => seqOf a fun ds => Ψ ds ρ2
theorem itd_list {C : Hp} {a : Addr} {xs : List V} {ds : List Dt} (hs : C a = some (.lst xs)) (rl : RpL K C xs ds) : ItD K (Itl K a) C ds := fun B3 C3 H3 σ3 ρ3 S3 s3 => by
  have q : SqL K H3 a xs := SqL.of (S3.cold _ _ (s3 _ _ hs))
  have lq := rl.len
  refine ⟨fun i hi => ⟨xs, xs[i], q, by simp [lq, hi]⟩, ⟨xs, q, by omega⟩, fun i y H' d hd yl => ?_⟩
  obtain ⟨rfl, yl⟩ := yl
  obtain ⟨d', hd', r'⟩ := rl.at (yl xs q)
  rw [hd] at hd'
  cases hd'
  exact ⟨C3, S3, Same.refl _, r'.same s3⟩
theorem itd_tup {C : Hp} {a : Addr} {xs : List V} {ds : List Dt} (hs : SqT K C a xs) (rl : RpL K C xs ds) : ItD K (Itt K a) C ds := fun B3 C3 H3 σ3 ρ3 S3 s3 => by
  have q := seqT_same S3.cold (seqT_same s3 hs)
  have lq := rl.len
  refine ⟨fun i hi => ⟨xs, xs[i], q, by simp [lq, hi]⟩, ⟨xs, q, by omega⟩, fun i y H' d hd yl => ?_⟩
  obtain ⟨rfl, yl⟩ := yl
  obtain ⟨d', hd', r'⟩ := rl.at (yl xs q)
  rw [hd] at hd'
  cases hd'
  exact ⟨C3, S3, Same.refl _, r'.same s3⟩
instance si_any {te : TE} {w : WE} [a : Sd K te w] : Si K (iAny K te) (wiAny w) where
  run B C H σ ρ R Ψ S h k := a.run B C H σ ρ _ _ S h fun C1 H1 v1 r1 ρ1 S1 s1 ok1 h1 => by
    obtain ⟨C2, x, ρ2, S2, s2, ok2, h2⟩ := S1.stored ok1 h1
    cases x with
    | b i => exact False.elim h2
    | d x =>
      cases x <;> try exact False.elim h2
      · cases ok2 with
        | lst hs rl => exact ⟨_, rfl, .inl ⟨⟨_, SqL.of (S2.cold _ _ hs)⟩, k _ _ _ _ _ S2 (s1.trans s2) (itd_list hs rl) h2⟩⟩
      · cases ok2 with
        | tup hs rl => exact ⟨_, rfl, .inr ⟨⟨_, seqT_same S2.cold hs⟩, k _ _ _ _ _ S2 (s1.trans s2) (itd_tup hs rl) h2⟩⟩
/-- the signs of a text -/
def signs (z : Str) : List Dt := z.cps.toList.map fun c => .str ⟨#[c]⟩
def wiStr (w : WE) : WI := fun ρ Ψ => w ρ fun r ρ1 => match r with
  | .dat (.str z) => Ψ (signs z) ρ1
  | _ => False
instance si_str {te : TE} {w : WE} [a : Sd K te w] : Si K (iStr te) (wiStr w) where
  run B C H σ ρ R Ψ S h k := a.run B C H σ ρ _ _ S h fun C1 H1 v1 r1 ρ1 S1 s1 ok1 h1 => by
    cases r1 with
    | hot i ds => exact False.elim h1
    | box i n => exact False.elim h1
    | dat x =>
      cases x <;> try exact False.elim h1
      rename_i z
      cases ok1
      refine ⟨z, rfl, k _ _ _ _ _ S1 s1 (fun B3 C3 H3 σ3 ρ3 S3 s3 => ?_) h1⟩
      have el : (signs z).length = z.cps.size := by unfold signs; rw [List.length_map, Array.length_toList]
      have W := walk_str (z := z)
      refine ⟨fun i hi => W.goes i H3 (by omega) trivial, by rw [el]; exact W.stops H3 trivial, fun i y H' d hd yl => ?_⟩
      have hi : i < z.cps.size := by
        cases Nat.lt_or_ge i z.cps.size with
        | inl h => exact h
        | inr g => rw [List.getElem?_eq_none (by omega)] at hd; cases hd
      obtain ⟨rfl, c, hc, rfl⟩ := W.yields i H3 y H' hi trivial yl
      refine ⟨C3, S3, Same.refl _, ?_⟩
      unfold signs at hd
      rw [List.getElem?_map, Array.getElem?_toList, hc] at hd
      cases hd
      exact .str _
/-! == and != of all kinds -/
def rEqA (K : PySem.W.Frag) : R2 := fun x y H Q => rEq x y H Q ∨ rEqD K x y H Q
def rNeA (K : PySem.W.Frag) : R2 := fun x y H Q => rNe x y H Q ∨ rNeD K x y H Q
section
variable {X : Cx}
theorem opEqA (hk : X.K = K) (hu : X.A.units + 64 < cLine) : OpR X (compareOp .Eq) (rEqA K) := by
  subst hk
  exact op_eq.or (op_eqD hu)
theorem opNeA (hk : X.K = K) (hu : X.A.units + 64 < cLine) : OpR X (compareOp .NotEq) (rNeA K) := by
  subst hk
  exact op_ne.or (op_neD hu)
end
def oEqA (neg : Bool) : Dt → Dt → (Dt → Prop) → Prop
  | .int i, .int j, Φ => Φ (.bl (if neg then !decide (i = j) else decide (i = j)))
  | .str i, .str j, Φ => Φ (.bl (if neg then !decide (i = j) else decide (i = j)))
  | .bl i, .bl j, Φ => Φ (.bl (if neg then !decide (i = j) else decide (i = j)))
  | d, e, Φ => oEqD neg d e Φ
theorem dec_V {α : Type} [DecidableEq α] {f : α → V} (inj : ∀ {a b : α}, f a = f b → a = b) (i j : α) : decide (f i = f j) = decide (i = j) := by
  by_cases h : i = j
  · rw [h, decide_eq_true rfl, decide_eq_true rfl]
  · rw [decide_eq_false h, decide_eq_false fun z => h (inj z)]
instance so_EqA : So K (rEqA K) (oEqA false) where
  run B C H σ ρ x y dx dy Q Φ S hx hy h k := by
    cases dx <;> cases dy <;> first
      | exact .inr (so_eqD.run B C H σ ρ _ _ _ _ Q Φ S hx hy h k)
      | (cases hx.int; cases hy.int; exact .inl ⟨rfl, by rw [dec_V (f := V.int) V.int.inj]; exact k _ _ _ _ S (Same.refl _) (.bl _) h⟩)
      | (cases hx.str; cases hy.str; exact .inl ⟨rfl, by rw [dec_V (f := V.str) V.str.inj]; exact k _ _ _ _ S (Same.refl _) (.bl _) h⟩)
      | (cases hx.bl; cases hy.bl; exact .inl ⟨rfl, by rw [dec_V (f := V.bl) V.bl.inj]; exact k _ _ _ _ S (Same.refl _) (.bl _) h⟩)
instance so_NeA : So K (rNeA K) (oEqA true) where
  run B C H σ ρ x y dx dy Q Φ S hx hy h k := by
    cases dx <;> cases dy <;> first
      | exact .inr (so_neD.run B C H σ ρ _ _ _ _ Q Φ S hx hy h k)
      | (cases hx.int; cases hy.int; exact .inl ⟨rfl, by rw [dec_V (f := V.int) V.int.inj]; exact k _ _ _ _ S (Same.refl _) (.bl _) h⟩)
      | (cases hx.str; cases hy.str; exact .inl ⟨rfl, by rw [dec_V (f := V.str) V.str.inj]; exact k _ _ _ _ S (Same.refl _) (.bl _) h⟩)
      | (cases hx.bl; cases hy.bl; exact .inl ⟨rfl, by rw [dec_V (f := V.bl) V.bl.inj]; exact k _ _ _ _ S (Same.refl _) (.bl _) h⟩)
/-! calls by keywords -/
def gP (is : List Nat) {α : Type} (us ws : List α) : List α := is.filterMap fun i => (us ++ ws)[i]?
theorem gP_vals (is : List Nat) {vs zs : List V} {us ws : List Value} (h1 : Vals vs us) (h2 : Vals zs ws) : Vals (gP is vs zs) (gP is us ws) := by
  have h := h1.append h2
  unfold gP
  induction is with
  | nil => exact .nil
  | cons i is ih =>
    rw [List.filterMap_cons, List.filterMap_cons]
    cases q : (vs ++ zs)[i]? with
    | none =>
      rw [h.none_of q]
      exact ih
    | some v =>
      obtain ⟨u, e, r⟩ := h.get q
      rw [e]
      exact .cons r ih
theorem gP_rp (is : List Nat) {C : Hp} {vs zs : List V} {us ws : List Dt} (h1 : RpL K C vs us) (h2 : RpL K C zs ws) : RpL K C (gP is vs zs) (gP is us ws) := by
  have h := h1.append h2
  unfold gP
  induction is with
  | nil => exact .nil
  | cons i is ih =>
    rw [List.filterMap_cons, List.filterMap_cons]
    cases q : (us ++ ws)[i]? with
    | none =>
      have l : (us ++ ws).length ≤ i := List.getElem?_eq_none_iff.mp q
      rw [List.getElem?_eq_none (by rw [h.len]; exact l)]
      exact ih
    | some v =>
      obtain ⟨u, e, r⟩ := h.at' q
      rw [e]
      exact .cons r ih
theorem ArL.ofRp {C : Hp} {σ : L2.St} : ∀ {vs : List V} {ds : List Dt}, RpL K C vs ds → ArL K C σ vs (ds.map .d)
  | _, _, .nil => .nil
  | _, _, .cons h t => .cons h (ArL.ofRp t)

end
section
variable {P : Program} {w : World} {K : PySem.W.Frag} {mg : Str → Option Value} {base : Heap}
local macro_rules | `(tactic| get_elem_tactic_trivial) => `(tactic| (repeat first | exact Wk.nil | exact Wk'.nil | refine Wk.same ?_ | refine Wk'.same ?_ | refine Wk.un (fun _ z => nomatch z) ?_ | refine Wk'.un ?_))
/-! words for reading -/
theorem ifF {b : Bool} {p q : Prop} (h : b = false) (hq : q) : if b = true then p else q := by rw [h, if_neg Bool.false_ne_true]; exact hq
theorem ifT {b : Bool} {p q : Prop} (h : b = true) (hp : p) : if b = true then p else q := by rw [h, if_pos rfl]; exact hp
theorem atD {α : Type} {xs : List α} {r : Int} (h0 : 0 ≤ r) (h1 : r < xs.length) : ∃ v, atI xs r = some v ∧ v ∈ xs := by
  obtain ⟨j, rfl⟩ : ∃ j : Nat, r = (j : Int) := ⟨r.toNat, by omega⟩
  have hj : j < xs.length := by omega
  exact ⟨xs[j], atI_nat (List.getElem?_eq_getElem hj), List.getElem_mem hj⟩
theorem cut_drop {ds : List Dt} {i : Int} (h0 : 0 ≤ i) : cutD ds (some i) none = ds.drop i.toNat := by
  unfold cutD
  have e : HT.sIx ds.length 0 (some i) = min i.toNat ds.length := by
    show (if i < 0 then (i + (ds.length : Int)).toNat else min i.toNat ds.length) = _
    rw [if_neg (by omega)]
  rw [e]
  show (ds.drop (min i.toNat ds.length)).take (ds.length - min i.toNat ds.length) = _
  rw [List.take_of_length_le (by rw [List.length_drop]; omega)]
  by_cases h : i.toNat ≤ ds.length
  · rw [Nat.min_eq_left h]
  · rw [Nat.min_eq_right (by omega), List.drop_length, List.drop_eq_nil_of_le (by omega)]
theorem eqSame {α : Type} [DecidableEq α] {x y : α} (h : x = y) : (if false = true then !decide (x = y) else decide (x = y)) = true := by rw [if_neg Bool.false_ne_true, decide_eq_true h]
theorem eqDiff {α : Type} [DecidableEq α] {x y : α} (h : x ≠ y) : (if false = true then !decide (x = y) else decide (x = y)) = false := by rw [if_neg Bool.false_ne_true, decide_eq_false h]
/-! the ways of an if joined -/
def tJoin (t : TS) : TS := t
def wJoin (wc : WT) (wt wu : WS) : WS := fun ρ Φ => ∃ J : List Sl → Prop, (wc ρ fun b ρ1 => if b = true then wt ρ1 { Φ with nx := To J } else wu ρ1 { Φ with nx := To J }) ∧ ∀ ρ, J ρ → Φ.nx ρ
instance ss_join {tc : TT} {t u : TS} {wc : WT} {wt wu : WS} [c : Sc K tc wc] [a : Ss K t wt] [b : Ss K u wu] : Ss K (tJoin (tIfS tc t u)) (wJoin wc wt wu) where
  run B C H σ ρ D Φ S h m := by
    obtain ⟨J, h1, h2⟩ := h
    have m' : Meets K B { Φ with nx := To J } D := ⟨fun C H σ ρ S z => by
      obtain ⟨ρ', w, z⟩ := z
      exact m.nx _ _ _ _ (S.weak w) (h2 _ z), m.rt, m.bk, m.ct⟩
    exact (ss_if (K := K) (tc := tc) (t := t) (u := u)).run B C H σ ρ D _ S h1 m'
/-! a test or a thing that changes nothing, by its outcome -/
def tPureT (t : TT) : TT := t
def wPureT (w : WT) : WT := fun ρ Ψ => ∃ b : Bool, (w ρ fun c ρ1 => c = b ∧ ρ1 = ρ) ∧ Ψ b ρ
instance sc_pure {t : TT} {w : WT} [a : Sc K t w] : Sc K (tPureT t) (wPureT w) where
  run B C H σ ρ Q Ψ S h k := by
    obtain ⟨b, h1, h2⟩ := h
    exact a.run B C H σ ρ _ _ S h1 fun C1 H1 c ρ1 S1 s1 ⟨e1, e2⟩ => by
      subst e1 e2
      exact k _ _ _ _ S1 s1 h2
def tPureE (t : TE) : TE := t
def wPureE (w : WE) : WE := fun ρ Ψ => ∃ d : Dt, (w ρ fun r ρ1 => r = .dat d ∧ ρ1 = ρ) ∧ Ψ (.dat d) ρ
instance sd_pure {t : TE} {w : WE} [a : Sd K t w] : Sd K (tPureE t) (wPureE w) where
  run B C H σ ρ Q Ψ S h k := by
    obtain ⟨d, h1, h2⟩ := h
    exact a.run B C H σ ρ _ _ S h1 fun C1 H1 v r ρ1 S1 s1 ok ⟨e1, e2⟩ => by
      subst e1 e2
      exact k _ _ _ _ _ S1 s1 ok h2
theorem ptPure {X : Cx} {e : Expr} {t : TT} (h : PT X e t) : PT X e (tPureT t) := h
theorem pePure {X : Cx} {e : Expr} {t : TE} (h : PE X e t) : PE X e (tPureE t) := h
theorem atD_of {α : Type} {xs : List α} {r : Int} {v : α} (h0 : 0 ≤ r) (h : xs[r.toNat]? = some v) : atI xs r = some v := by
  have e : r = ((r.toNat : Nat) : Int) := by omega
  rw [e]
  exact atI_nat h

end
section
variable {P : Program} {w : World} {K : PySem.W.Frag} {mg : Str → Option Value} {base : Heap}
local macro_rules | `(tactic| get_elem_tactic_trivial) => `(tactic| (repeat first | exact Wk.nil | exact Wk'.nil | refine Wk.same ?_ | refine Wk'.same ?_ | refine Wk.un (fun _ z => nomatch z) ?_ | refine Wk'.un ?_))
/-! two names put at once, one or both of them a new list -/
theorem Fr.held {B : Bs} {C H : Hp} {σ : L2.St} {ρ : List Sl} {a : Addr} {ds : List Dt} (f : Fr K B C H σ ρ a ds) (S : Sep K B C H σ ρ) : ∃ vs, H a = some (.lst vs) ∧ RpL K C vs ds ∧ Sep K (B.hold a (.lst vs)) C H σ ρ ∧ B.C0 a = none ∧ ∀ i, B.bx ≠ some (i, a) := by
  obtain ⟨⟨vs, ha, r⟩, ca, h0, nh⟩ := f
  exact ⟨vs, ha, r, S.hold ha ca nh, S.grow.free ca, S.bxne nh⟩
theorem Sep.putHot {B : Bs} {C H : Hp} {σ : L2.St} {ρ : List Sl} {i : Nat} {a : Addr} {ds : List Dt} (S : Sep K B C H σ ρ) (f : Fr K B C H σ ρ a ds) (hb : i = 0 → ∀ n, ρ[i]? ≠ some (.box n)) : Sep K B C H (σ.set i (some (.ref a))) (ρ.set i (.hot ds)) := by
  obtain ⟨⟨vs, ha, r⟩, ca, h0, nh⟩ := f
  exact S.put (x := some (.ref a)) (s := .hot ds) hb (fun _ => ⟨a, vs, rfl, ha, r, ca⟩) fun _ b e => by cases e; exact ⟨fun j t _ => nh j t, h0⟩
def wParN1 (i j : Nat) (wa : WN) (wb : WE) : WS := fun ρ Φ => wa ρ fun ds ρ1 => wb ρ1 fun r ρ2 => store r ρ2 fun a ρ3 => isD a fun d => put i (.hot ds) ρ3 fun ρ4 => put j (.dat d) ρ4 Φ.nx
theorem isD_run {C : Hp} {σ : L2.St} {v : V} {a : Ar} {k : Dt → Prop} (ok : ArOk K C σ v a) (h : isD a k) : ∃ d, Rp K C v d ∧ k d := by
  cases a with
  | d x => exact ⟨x, ok, h⟩
  | b i => exact False.elim h
instance (priority := 1100) ss_parN1 {i j : Nat} {ta tb : TE} {wa : WN} {wb : WE} [a : Sn K ta wa] [b : Sd K tb wb] : Ss K (tPar i j (tCons ta (tCons tb tNil))) (wParN1 i j wa wb) where
  run B C H σ ρ D Φ S h m := a.run B C H σ ρ _ _ S h fun C1 H1 x ds ρ1 S1 s1 f h1 => by
    obtain ⟨vs, hx, rx, Sh, c0, bx⟩ := f.held S1
    refine b.run _ C1 H1 σ ρ1 _ _ Sh h1 fun C2 H2 v2 r2 ρ2 S2 s2 ok2 h2 => ?_
    obtain ⟨C3, y, ρ3, S3, s3, ok3, h3⟩ := S2.stored ok2 h2
    obtain ⟨d, r3, h3⟩ := isD_run ok3 h3
    obtain ⟨S4, q4, c4, nh4⟩ := S3.unhold f.2.2.1 c0 bx
    obtain ⟨p1, h4⟩ := put_run h3
    obtain ⟨p2, h5⟩ := put_run h4
    exact ⟨_, _, rfl, m.nx _ _ _ _ ((S4.putHot ⟨⟨vs, q4, rx.same (s2.trans s3)⟩, c4, f.2.2.1, nh4⟩ p1).dat p2 r3) h5⟩
/-! extend -/
/-! texts -/
def rAddS : R2 := fun x y H Q => ∃ i j, x = .str i ∧ y = .str j ∧ i.length + j.length ≤ sizeLine ∧ Q (.str (i ++ j)) H
def oAddS : Dt → Dt → (Dt → Prop) → Prop
  | .str i, .str j, Φ => i.length + j.length ≤ sizeLine ∧ Φ (.str (i ++ j))
  | _, _, _ => False
instance so_addS : So K rAddS oAddS where
  run B C H σ ρ x y dx dy Q Φ S hx hy h k := by
    cases dx <;> cases dy <;> try exact False.elim h
    exact ⟨_, _, hx.str, hy.str, h.1, k _ _ _ _ S (Same.refl _) (.str _) h.2⟩
/-- texts -/
def txts : List Dt → Option (List Str)
  | [] => some []
  | .str x :: ds => match txts ds with
    | some xs => some (x :: xs)
    | none => none
  | _ :: _ => none
theorem txts_map : ∀ xs : List Str, txts (xs.map .str) = some xs
  | [] => rfl
  | x :: xs => by
    show (match txts (xs.map .str) with | some ys => some (x :: ys) | none => none) = _
    rw [txts_map xs]
theorem txts_ok {C : Hp} : ∀ {vs : List V} {ds : List Dt} {xs : List Str}, RpL K C vs ds → txts ds = some xs → vs = xs.map V.str
  | _, _, xs, .nil, e => by cases e; rfl
  | _, .str b :: ds, xs, .cons h t, e => by
    cases h
    unfold txts at e
    cases q : txts ds with
    | none => rw [q] at e; cases e
    | some cs =>
      rw [q] at e
      cases e
      rw [txts_ok t q]
      rfl
  | _, .non :: ds, bs, .cons h t, e => by cases e
  | _, .int _ :: ds, bs, .cons h t, e => by cases e
  | _, .bl _ :: ds, bs, .cons h t, e => by cases e
  | _, .lst _ :: ds, bs, .cons h t, e => by cases e
  | _, .tup _ :: ds, bs, .cons h t, e => by cases e
  | _, .obj _ _ _ :: ds, bs, .cons h t, e => by cases e
  | _, .err _ _ :: ds, bs, .cons h t, e => by cases e
  | _, .scr _ :: ds, bs, .cons h t, e => by cases e
/-- a text's method of one thing -/
class Sm1 (K : PySem.W.Frag) (r : V → List V → Hp → VK → Prop) (f : outParam (Str → Dt → (Dt → Prop) → Prop)) : Prop where
  run : ∀ (B : Bs) (C H : Hp) (σ : L2.St) (ρ : List Sl) (x : Str) (y : V) (d : Dt) (Q : VK) (Φ : Dt → Prop), Sep K B C H σ ρ → Rt K C H y d → f x d Φ → (∀ C' G v e, Sep K B C' G σ ρ → Same C C' → Rp K C' v e → Φ e → Q v G) → r (.str x) [y] H Q
def isStr (r : Rs) (k : Str → Prop) : Prop := match r with
  | .dat (.str x) => k x
  | _ => False
theorem isStr_run {C : Hp} {σ : L2.St} {ρ : List Sl} {v : V} {r : Rs} {k : Str → Prop} (ok : RsOk K C σ ρ v r) (h : isStr r k) : ∃ x, v = .str x ∧ k x := by
  cases r with
  | dat d =>
    cases d <;> try exact False.elim h
    cases ok
    exact ⟨_, rfl, h⟩
  | hot i ds => exact False.elim h
  | box i n => exact False.elim h
def wM1 (f : Str → Dt → (Dt → Prop) → Prop) (wo we : WE) : WE := fun ρ Ψ => wo ρ fun r ρ1 => isStr r fun x => we ρ1 fun r2 ρ2 => match r2.val ρ2 with
  | some d => f x d fun e => Ψ (.dat e) ρ2
  | none => False
instance sd_m1 {r : V → List V → Hp → VK → Prop} {f : Str → Dt → (Dt → Prop) → Prop} {to te : TE} {wo we : WE} [m : Sm1 K r f] [a : Sd K to wo] [b : Sd K te we] : Sd K (tM1 r to te) (wM1 f wo we) where
  run B C H σ ρ Q Ψ S h k := a.run B C H σ ρ _ _ S h fun C1 H1 v1 r1 ρ1 S1 s1 ok1 h1 => by
    obtain ⟨x, rfl, h1⟩ := isStr_run ok1 h1
    refine ⟨⟨x, rfl⟩, b.run B C1 H1 σ ρ1 _ _ S1 h1 fun C2 H2 v2 r2 ρ2 S2 s2 ok2 h2 => ?_⟩
    cases q : r2.val ρ2 with
    | none => simp only [q] at h2
    | some d =>
      simp only [q] at h2
      exact m.run B C2 H2 σ ρ2 x v2 d Q _ S2 (S2.valOf ok2 (Same.refl _) q) h2 fun C3 H3 v e S3 s3 r3 z => k _ _ _ (.dat e) _ S3 (s1.trans (s2.trans s3)) r3 z
def cJoin (K : PySem.W.Frag) : V → List V → Hp → VK → Prop := fun x xs H Q => ∃ a p, ∃ ys : List Str, x = .str a ∧ xs = [.ref p] ∧ (SqL K H p (ys.map V.str) ∨ SqT K H p (ys.map V.str)) ∧ (ys.map (·.length)).sum + ys.length * a.length ≤ 16777216 ∧ Q (.str (Txt.join a ys)) H
def fJoin (x : Str) : Dt → (Dt → Prop) → Prop
  | .lst ds, Φ => ∃ ys, txts ds = some ys ∧ (ys.map (·.length)).sum + ys.length * x.length ≤ 16777216 ∧ Φ (.str (Txt.join x ys))
  | _, _ => False
instance sm_join : Sm1 K (cJoin K) fJoin where
  run B C H σ ρ x y d Q Φ S hy h k := by
    cases d <;> try exact False.elim h
    obtain ⟨ys, e, z, h⟩ := h
    obtain ⟨a, vs, rfl, ha, ra⟩ := hy.list' S
    exact ⟨x, a, ys, rfl, rfl, .inl (by rw [← txts_ok ra e]; exact SqL.of ha), z, k _ _ _ _ S (Same.refl _) (.str _) h⟩

end
section
variable {P : Program} {w : World} {K : PySem.W.Frag} {mg : Str → Option Value} {base : Heap}
local macro_rules | `(tactic| get_elem_tactic_trivial) => `(tactic| (repeat first | exact Wk.nil | exact Wk'.nil | refine Wk.same ?_ | refine Wk'.same ?_ | refine Wk.un (fun _ z => nomatch z) ?_ | refine Wk'.un ?_))
/-! tuples cut and joined -/
def wSlT (w : WE) (wl wh : WO) : WE := fun ρ Ψ => w ρ fun r ρ1 => wl ρ1 fun lo ρ2 => wh ρ2 fun hi ρ3 => match r with
  | .dat (.tup ds) => Ψ (.dat (.tup (cutD ds lo hi))) ρ3
  | _ => False
theorem cut_whole {ds : List Dt} {lo hi : Option Int} (h : HT.sIx ds.length 0 lo = 0 ∧ HT.sIx ds.length ds.length hi = ds.length) : cutD ds lo hi = ds := by
  unfold cutD
  rw [h.1, h.2, List.drop_zero, Nat.sub_zero, List.take_length]
instance sd_slT {te : TE} {tl th : TO} {w : WE} {wl wh : WO} [a : Sd K te w] [b : Sop K tl wl] [c : Sop K th wh] : Sd K (tSl (rSlA K) te tl th) (wSlT w wl wh) where
  run B C H σ ρ Q Ψ S h k := by
    refine a.run B C H σ ρ _ _ S h fun C1 H1 v1 r1 ρ1 S1 s1 ok1 h1 => ?_
    refine b.run B C1 H1 σ ρ1 _ _ S1 h1 fun C2 H2 lo ρ2 S2 s2 h2 => ?_
    refine c.run B C2 H2 σ ρ2 _ _ S2 h2 fun C3 H3 hi ρ3 S3 s3 h3 => ?_
    cases r1 with
    | hot i ds => exact False.elim h3
    | box i n => exact False.elim h3
    | dat d =>
      cases d <;> try exact False.elim h3
      rename_i ds
      cases Rp.same ok1 (s2.trans s3) with
      | @tup x vs _ hs rl =>
        have lq := rl.len
        refine ⟨x, vs, rfl, seqT_same S3.cold hs, fun hw => ?_, fun _ p hp => ?_⟩
        · rw [lq] at hw
          replace h3 : Ψ (.dat (.tup (cutD ds lo hi))) ρ3 := h3
          rw [cut_whole hw] at h3
          exact k _ _ _ (.dat (.tup ds)) _ S3 (s1.trans (s2.trans s3)) (.tup hs rl) h3
        · have sC : Same C3 (upd C3 p (.tup (cutV vs lo hi))) := same_new (S3.cold.free hp)
          exact k _ _ _ (.dat (.tup (cutD ds lo hi))) _ (S3.alloc hp) (s1.trans (s2.trans (s3.trans sC))) (.tup (.inl (.inl upd_same)) ((rl.cut lo hi).same sC)) h3
/-! calls by keywords that tell a new list -/
theorem nice_str {x : Str} (h : PyData.strOk x = true) {b : Nat} (hb : x.cps.size ≤ b) : Nice 0 b (.str x) := by
  refine ⟨rfl, ?_, ?_, ?_, Nat.le_refl _, ?_⟩
  · show PyData.canLay0 (.str x) = true
    simp only [PyData.canLay0]
    exact h
  · show PyData.showable (.str x) = true
    simp only [PyData.showable]
  · show PyData.leavesShort 1921 (.str x) = true
    simp only [PyData.leavesShort]
    rw [List.all_eq_true]
    intro c hc
    rw [decide_eq_true_eq]
    have := Array.all_eq_true_iff_forall_mem.mp h c (Array.mem_def.mpr hc)
    have h2 : c < 0x110000 := of_decide_eq_true this
    exact Nat.lt_of_lt_of_le h2 (by decide)
  · show PyData.bulk (.str x) ≤ b
    simp only [PyData.bulk]
    exact hb

end
section
variable {P : Program} {w : World} {K : PySem.W.Frag} {mg : Str → Option Value} {base : Heap}
local macro_rules | `(tactic| get_elem_tactic_trivial) => `(tactic| (repeat first | exact Wk.nil | exact Wk'.nil | refine Wk.same ?_ | refine Wk'.same ?_ | refine Wk.un (fun _ z => nomatch z) ?_ | refine Wk'.un ?_))
/-! kinds -/
def kindS : Dt → Option String
  | .non => some "NoneType"
  | .bl _ => some "bool"
  | .int _ => some "int"
  | .str _ => some "str"
  | .lst _ => some "list"
  | .tup _ => some "tuple"
  | .scr _ => some "list"
  | .obj _ _ _ => none
  | .err _ _ => none
  | .adr _ => none
  | .dic _ _ => none
theorem kind_ty {B : Bs} {C H : Hp} {σ : L2.St} {ρ : List Sl} {v : V} {d : Dt} {k : String} (S : Sep K B C H σ ρ) (h : Rt K C H v d) (e : kindS d = some k) : TyX K H v (.type k) := by
  cases d <;> cases e
  · cases h.non; exact .base .non
  · cases h.bl; exact .base (.bl _)
  · cases h.int; exact .base (.int _)
  · cases h.str; exact .base (.str _)
  · obtain ⟨a, vs, rfl, ha, _⟩ := h.list' S; exact ty_list (SqL.of ha)
  · obtain ⟨a, vs, rfl, ha, _⟩ := h.tup' S; exact ty_tup ha
  · rcases h with h | ⟨_, _, _, _, e, _⟩
    · cases h with
      | scr a => exact ty_list (S.cold.seq a)
    · cases e
class KindT (c : String) (f : outParam (Dt → Bool)) : Prop where
  ok : ∀ d k, kindS d = some k → kitB k c = some (f d)
def kInt : Dt → Bool
  | .int _ => true
  | .bl _ => true
  | _ => false
def kBool : Dt → Bool
  | .bl _ => true
  | _ => false
def kStr : Dt → Bool
  | .str _ => true
  | _ => false
def kList : Dt → Bool
  | .lst _ => true
  | .scr _ => true
  | _ => false
def kTup : Dt → Bool
  | .tup _ => true
  | _ => false
instance : KindT "int" kInt := ⟨fun d k h => by cases d <;> cases h <;> first | (show kitB _ _ = some true; decide +kernel) | (show kitB _ _ = some false; decide +kernel)⟩
instance : KindT "bool" kBool := ⟨fun d k h => by cases d <;> cases h <;> first | (show kitB _ _ = some true; decide +kernel) | (show kitB _ _ = some false; decide +kernel)⟩
instance : KindT "str" kStr := ⟨fun d k h => by cases d <;> cases h <;> first | (show kitB _ _ = some true; decide +kernel) | (show kitB _ _ = some false; decide +kernel)⟩
instance : KindT "list" kList := ⟨fun d k h => by cases d <;> cases h <;> first | (show kitB _ _ = some true; decide +kernel) | (show kitB _ _ = some false; decide +kernel)⟩
instance : KindT "tuple" kTup := ⟨fun d k h => by cases d <;> cases h <;> first | (show kitB _ _ = some true; decide +kernel) | (show kitB _ _ = some false; decide +kernel)⟩
def noObj (d : Dt) (k : Prop) : Prop := match d with
  | .obj _ _ _ => False
  | .err _ _ => False
  | .adr _ => False
  | .dic _ _ => False
  | _ => k
theorem noObj_run {d : Dt} {k : Prop} (h : noObj d k) : (∃ s, kindS d = some s) ∧ k := by
  cases d <;> first | exact ⟨⟨_, rfl⟩, h⟩ | exact False.elim h
def wIsi (f : Dt → Bool) (wa : WE) : WE := fun ρ Ψ => wa ρ fun r ρ1 => match r.val ρ1 with
  | some d => noObj d (Ψ (.dat (.bl (f d))) ρ1)
  | none => False
instance sd_isi {c : String} {f : Dt → Bool} {ta : TE} {wa : WE} [kt : KindT c f] [a : Sd K ta wa] : Sd K (tCB (rIsi K) (tCons ta (tCons (tC (.ty c)) tNil))) (wIsi f wa) where
  run B C H σ ρ Q Ψ S h k := a.run B C H σ ρ _ _ S h fun C1 H1 v1 r1 ρ1 S1 s1 ok1 h1 => by
    cases q : r1.val ρ1 with
    | none => simp only [q] at h1
    | some d =>
      simp only [q] at h1
      obtain ⟨⟨s, e⟩, z⟩ := noObj_run h1
      exact ⟨v1, .ty c, .type s, .type c, f d, rfl, .ty _, kind_ty S1 (S1.valOf ok1 (Same.refl _) q) e, kit_ty (kt.ok d s e), k _ _ _ (.dat _) _ S1 s1 (.bl _) z⟩
def wIsi2 (f g : Dt → Bool) (wa : WE) : WE := fun ρ Ψ => wa ρ fun r ρ1 => match r with
  | .dat d => noObj d (Ψ (.dat (.bl (f d || g d))) ρ1)
  | .hot _ ds => Ψ (.dat (.bl (f (.lst ds) || g (.lst ds)))) ρ1
  | .box _ _ => False
instance sd_isi2 {c c2 : String} {f g : Dt → Bool} {ta : TE} {wa : WE} [kt : KindT c f] [kt2 : KindT c2 g] [a : Sd K ta wa] : Sd K (tCB (rIsiT K) (tCons ta (tCons (tTup (tCons (tC (.ty c)) (tCons (tC (.ty c2)) tNil))) tNil))) (wIsi2 f g wa) where
  run B C H σ ρ Q Ψ S h k := a.run B C H σ ρ _ _ S h fun C1 H1 v1 r1 ρ1 S1 s1 ok1 h1 => by
    refine ⟨by show 2 ≤ sizeLine; decide, fun p hp => ?_⟩
    have S2 := S1.alloc (o := .tup [.ty c, .ty c2]) hp
    have sC : Same C1 (upd C1 p (.tup [.ty c, .ty c2])) := same_new (S1.cold.free hp)
    have fin : ∀ (d : Dt) (s : String), Rt K (upd C1 p (.tup [.ty c, .ty c2])) (upd H1 p (.tup [.ty c, .ty c2])) v1 d → kindS d = some s → Ψ (.dat (.bl (f d || g d))) ρ1 → rIsiT K [v1, .ref p] (upd H1 p (.tup [.ty c, .ty c2])) Q := fun d s rt e z => by
      refine ⟨v1, p, _, _, [.type c, .type c2], f d || g d, rfl, upd_same, .cons (.ty _) (.cons (.ty _) .nil), kind_ty S2 rt e, ?_, k _ _ _ (.dat _) _ S2 (s1.trans sC) (.bl _) z⟩
      refine kitAny_cons (kit_ty (kt.ok d s e)) (fun z => kitAny_cons (kit_ty (kt2.ok d s e)) (fun y => ?_) (fun y => ?_)) (fun z => ?_)
      · rw [z, y]; rfl
      · rw [z, y]; rfl
      · rw [z]; rfl
    cases r1 with
    | box i n => exact False.elim h1
    | dat d =>
      obtain ⟨⟨s, e⟩, z⟩ := noObj_run h1
      exact fin d s (.inl (Rp.same ok1 sC)) e z
    | hot i ds =>
      obtain ⟨b, vs, e3, hb, r, cb⟩ := S2.sl i _ ok1.2
      rw [ok1.1] at e3
      cases e3
      exact fin (.lst ds) "list" (.inr ⟨b, vs, ds, rfl, rfl, hb, r⟩) rfl h1
/-! in, not in -/
section
variable {X : Cx}
end
/-! is, is not of truths -/
/-! the top's tuples -/
class Gc (K : PySem.W.Frag) (a : Addr) (d : outParam Dt) : Prop where
  ok : ∀ C : Hp, Rp K C (.ref a) d
instance (priority := 1100) sd_gc {a : Addr} {d : Dt} [g : Gc K a d] : Sd K (tC (.ref a)) (fun ρ Ψ => Ψ (.dat d) ρ) where
  run B C H σ ρ Q Ψ S h k := k _ _ _ (.dat d) _ S (Same.refl _) (g.ok C) h
theorem rp_strs {C : Hp} : ∀ xs : List Str, RpL K C (xs.map V.str) (xs.map Dt.str)
  | [] => .nil
  | x :: xs => .cons (.str x) (rp_strs xs)
/-! xs[i] = e -/
def wSet (i : Nat) (we wi : WE) : WS := fun ρ Φ => we ρ fun r ρ1 => store r ρ1 fun a ρ2 => isD a fun d => hotAt i ρ2 fun _ => wi ρ2 fun r2 ρ3 => isInt r2 fun k => hotAt i ρ3 fun ds => ∃ j, ixN ds.length k = some j ∧ Φ.nx (ρ3.set i (.hot (ds.set j d)))
instance ss_set {i : Nat} {te ti : TE} {we wi : WE} [a : Sd K te we] [b : Sd K ti wi] : Ss K (tAsg te (gSub (tVar i) ti rSetL)) (wSet i we wi) where
  run B C H σ ρ D Φ S h m := a.run B C H σ ρ _ _ S h fun C1 H1 v1 r1 ρ1 S1 s1 ok1 h1 => by
    obtain ⟨C2, y, ρ2, S2, s2, ok2, h2⟩ := S1.stored ok1 h1
    obtain ⟨d, r2, h2⟩ := isD_run ok2 h2
    obtain ⟨ds0, e0, h2⟩ := hotAt_run h2
    obtain ⟨c, vs0, e, hc, _⟩ := S2.sl i _ e0
    refine ⟨_, e, b.run B C2 H1 σ ρ2 _ _ S2 h2 fun C3 H3 v3 r3 ρ3 S3 s3 ok3 h3 => ?_⟩
    obtain ⟨k, rfl, h3⟩ := isInt_run ok3 h3
    obtain ⟨ds, e2, j, ej, h4⟩ := hotAt_run h3
    obtain ⟨c', vs, e3, hc3, rl, _⟩ := S3.sl i _ e2
    rw [e] at e3
    cases e3
    exact ⟨c, vs, k, j, rfl, rfl, hc3, by rw [rl.len]; exact ej, m.nx _ _ _ _ (S3.hot e2 e (rl.set (r2.same s3) j)) h4⟩

end
section
variable {P : Program} {w : World} {K : PySem.W.Frag} {mg : Str → Option Value} {base : Heap}
local macro_rules | `(tactic| get_elem_tactic_trivial) => `(tactic| (repeat first | exact Wk.nil | exact Wk'.nil | refine Wk.same ?_ | refine Wk'.same ?_ | refine Wk.un (fun _ z => nomatch z) ?_ | refine Wk'.un ?_))
/-! one sign in a text -/
def rSgn : R2 := fun x y H Q => ∃ (c : Nat) (z : Str), x = .str ⟨#[c]⟩ ∧ y = .str z ∧ Q (.bl (decide (c ∈ z.cps.toList))) H
def oSgn : Dt → Dt → (Dt → Prop) → Prop
  | .str x, .str z, Φ => ∃ c, x = ⟨#[c]⟩ ∧ Φ (.bl (decide (c ∈ z.cps.toList)))
  | _, _, _ => False
instance so_sgn : So K rSgn oSgn where
  run B C H σ ρ x y dx dy Q Φ S hx hy h k := by
    cases dx <;> cases dy <;> try exact False.elim h
    obtain ⟨c, rfl, z⟩ := h
    exact ⟨c, _, hx.str, hy.str, k _ _ _ _ S (Same.refl _) (.bl _) z⟩
theorem Sep.same {B : Bs} {C H G : Hp} {σ : L2.St} {ρ : List Sl} (S : Sep K B C H σ ρ) (s : Same H G) : Sep K B C G σ ρ := by
  refine ⟨S.cold.trans s, S.len, fun i t h => ?_, S.ne, S.grow, S.new, fun a h => ?_, fun a o h n => s _ _ (S.keep a o h n), S.loc, S.lob, S.par, S.pz⟩
  · have q := S.sl i t h
    cases t with
    | un => trivial
    | dat d => exact q
    | hot ds =>
      obtain ⟨a, vs, e, h2, r, h3⟩ := q
      exact ⟨a, vs, e, s _ _ h2, r, h3⟩
    | box n =>
      obtain ⟨a, e, b, h3⟩ := q
      exact ⟨a, e, b.same s, h3⟩
  · have q := S.dom a h
    cases e : H a with
    | none => exact absurd e q
    | some o => rw [s _ _ e]; exact fun z => nomatch z
/-! two things alike -/
def wSame (n : Nat) : WF := fun ps Ψ => ∃ d e : Dt, ps = [.dat d, .dat e] ∧ d = e ∧ d.pure = true ∧ dep d.py < n ∧ wid d.py ≤ 1000000 ∧ Ψ (.dat (.bl true)) ps
theorem same_imp {n : Nat} {vs : List V} {H : Hp} {Q : VK} {E : XK} (h : spD K 2 (wSame n) vs H Q E) : spLSame K n vs H Q E := by
  obtain ⟨hl, C, bx, ps, Ψ, S, ⟨d, e, rfl, rfl, hp, hd, hw, z⟩, k⟩ := h
  match vs, hl with
  | [a, b], _ =>
    obtain ⟨v, e1, r1⟩ := S.sl 0 _ rfl
    obtain ⟨u, e2, r2⟩ := S.sl 1 _ rfl
    cases (Option.some.inj (Option.some.inj e1))
    cases (Option.some.inj (Option.some.inj e2))
    exact ⟨a, b, d.py, rfl, dp_same S.cold _ _ (Rp.dp d a r1 hp), dp_same S.cold _ _ (Rp.dp d b r2 hp), hd, hw, fun G s => k C G (.bl true) (.dat (.bl true)) _ (S.same s) (.bl true) z⟩
/-! one operand -/
def wUn (g : Int → V) (wa : WE) : WE := fun ρ Ψ => wa ρ fun r ρ1 => isInt r fun i => match datV (g i) with
  | some d => Ψ (.dat d) ρ1
  | none => False
instance sd_un {g : Int → V} {ta : TE} {wa : WE} [a : Sd K ta wa] : Sd K (tUn (rU g) ta) (wUn g wa) where
  run B C H σ ρ Q Ψ S h k := a.run B C H σ ρ _ _ S h fun C1 H1 v1 r1 ρ1 S1 s1 ok1 h1 => by
    obtain ⟨i, rfl, z⟩ := isInt_run ok1 h1
    cases q : datV (g i) with
    | none => simp only [q] at z
    | some d =>
      simp only [q] at z
      exact ⟨i, rfl, k _ _ _ (.dat d) _ S1 s1 (datV_ok q) z⟩

end
section
variable {P : Program} {w : World} {K : PySem.W.Frag} {mg : Str → Option Value} {base : Heap}
local macro_rules | `(tactic| get_elem_tactic_trivial) => `(tactic| (repeat first | exact Wk.nil | exact Wk'.nil | refine Wk.same ?_ | refine Wk'.same ?_ | refine Wk.un (fun _ z => nomatch z) ?_ | refine Wk'.un ?_))
/-! enumerate of a tuple -/
theorem meets_enumerate_newT (t : Addr) (items : Array Value) :
    PySem.Meets (Builtin.«enumerate.__new__» ⟨[.type "enumerate", .ref t], []⟩) (fun _ R s => s.heap.IsTuple t items ∧
      R (.ok (.ret (.ref (s.heap.push { cls := .type "tuple_iterator", data := .fields #[.ref t, .int 0 0] }).objs.size)))
        { s with heap := (s.heap.push { cls := .type "tuple_iterator", data := .fields #[.ref t, .int 0 0] }).push { cls := .type "enumerate", data := .fields #[.none, .bool false, .ref s.heap.objs.size, rawInt 0, .none, .none] } }) :=
  .of_wp fun prog w A R s h => by
    obtain ⟨hp, g, d, tk, os⟩ := s; obtain ⟨h1, h⟩ := h
    have hsub := sub_enumerate
    have q1 : ∀ {A' : Around} {E : Value → Shared → Prop} {Q : Value → Shared → Prop}, Q (.ref hp.objs.size) ⟨hp.push { cls := .type "tuple_iterator", data := .fields #[.ref t, .int 0 0] }, g, d, tk, os⟩ → wpAny (model prog w) A' (pyIter (.ref t)) Q E ⟨hp, g, d, tk, os⟩ :=
      fun q => wpAny_pyIter_tuple (s := ⟨hp, g, d, tk, os⟩) h1 q
    wp_walk using q1
    refine wpAny_stack_any fun st => wpAny_pure ?_
    split
    · rename_i c _ _ _ _ _
      cases (c == Value.type "enumerate")
      · wp_walk using q1
        exact ⟨_, rfl, h⟩
      · wp_walk using q1
        exact ⟨_, rfl, h⟩
    · wp_walk using q1
      exact ⟨_, rfl, h⟩
theorem call_enumerate_tuple {prog : Program} {w : World} {A : Around} {E : Value → Shared → Prop} {s : Shared} {t : Addr} {items : Array Value} {Q : Value → Shared → Prop} (hT : s.heap.IsTuple t items)
    (h : ∀ h', IsEnum h' (s.heap.objs.size + 1) s.heap.objs.size 0 .none → h'.IsTupleIter s.heap.objs.size t 0 → h'.objs.size = s.heap.objs.size + 2 →
      (∀ b o, s.heap.get? b = some o → h'.get? b = some o) → Q (.ref (s.heap.objs.size + 1)) { s with heap := h' }) :
    wpAny (model prog w) A (call (.type "enumerate") [.ref t]) Q E s := by
  refine callType_new F.called_enumerate (by decide) (F.typeCall_enumerate_1 _) (F.newCall_enumerate_1 _) (fun obj => F.args_object_init_2 obj _) F.entry_enumerate_new
    (meets_enumerate_newT t items) ⟨hT, ?_⟩
  have hz : (s.heap.push { cls := .type "tuple_iterator", data := .fields #[.ref t, .int 0 0] }).objs.size = s.heap.objs.size + 1 := Heap.size_push ..
  show _ ∧ _
  rw [hz]
  have he : IsEnum ((s.heap.push { cls := .type "tuple_iterator", data := .fields #[.ref t, .int 0 0] }).push
      { cls := .type "enumerate", data := .fields #[.none, .bool false, .ref s.heap.objs.size, rawInt 0, .none, .none] }) (s.heap.objs.size + 1) s.heap.objs.size 0 .none := by
    have := Heap.get?_push_size (s.heap.push { cls := .type "tuple_iterator", data := .fields #[.ref t, .int 0 0] })
      (o := { cls := .type "enumerate", data := .fields #[.none, .bool false, .ref s.heap.objs.size, rawInt 0, .none, .none] }) rfl
    rw [hz] at this; exact this
  refine ⟨⟨_, he, rfl⟩, h _ he ⟨_, Heap.get?_push_of_some _ (Heap.get?_push_size _ rfl), rfl, rfl⟩ (by rw [Heap.size_push, hz]) fun b o x => Heap.get?_push_of_some _ (Heap.get?_push_of_some _ x)⟩
def IteT (K : PySem.W.Frag) (a : Addr) : It :=
  ⟨fun i H => ∃ (xs : List V) (x : V), SqT K H a xs ∧ xs[i]? = some x, fun i H v H' => ∃ T x, v = .ref T ∧ H T = none ∧ H' = upd H T (.tup [.int (i : Nat), x]) ∧ ∀ xs, SqT K H a xs → xs[i]? = some x, fun i H => ∃ xs : List V, SqT K H a xs ∧ xs.length ≤ i⟩
theorem turn_enumT {P : Program} {w : World} {K : PySem.W.Frag} {elts : List Expr} {kk : Nat} {tpos : Pos} (a e it : Addr) (hai : a ≠ it) (hae : a ≠ e) :
    Turn P w K (.Tuple elts kk tpos) (IteT K a) [e, it] e (fun i h => (∃ old, IsEnum h e it ((i : Nat) : Int) old) ∧ h.IsTupleIter it a i ∧ e ≠ it) where
  mem := by simp
  obj := fun i h st b hb => by
    obtain ⟨⟨old, he⟩, ⟨o, ho, hc, hd⟩, _⟩ := st
    have e' : b = e ∨ b = it := by simpa using hb
    rcases e' with z | z
    · rw [z]; exact ⟨_, he, fun v q => nomatch q⟩
    · rw [z]; exact ⟨o, ho, fun v q => by rw [hd] at q; cases q⟩
  keep := fun i h h' st k => let ⟨⟨old, he⟩, hi, hne⟩ := st; ⟨⟨old, k e (by simp) _ he⟩, hi.at fun o q => k it (by simp) o q, hne⟩
  item := by
    intro X hP hw hK hc i pins s σ H E I hf st hg
    subst hP hw hK
    obtain ⟨⟨old, he⟩, hit, hne⟩ := st
    obtain ⟨xs, x, hq, hx⟩ := hg
    obtain ⟨its, rv, p, hz⟩ := I.tuple hq
    obtain ⟨u, hu, ru⟩ := rv.get hx
    have hel : e < s.heap.objs.size := Heap.lt_size he
    have hil : it < s.heap.objs.size := by obtain ⟨_, q, _⟩ := hit; exact Heap.lt_size q
    have pt : s.heap.IsTuple a its.toArray := p
    have D : Draws X.prog X.w X.A.in1 it [it, a] its.toArray.size (fun i v => its.toArray[i]? = some v) (fun i h => h.IsTupleIter it a i ∧ h.IsTuple a its.toArray) := Draws.tuple (A := X.A.in1) (show X.A.in1.handled = none from I.ok.hd hc) it a hai its.toArray
    have hlt : i < its.toArray.size := by
      have := (List.getElem?_eq_some_iff.mp hu).1
      simpa using this
    refine wpAny_pyNext_enum_itemD D he ⟨hit, pt⟩ hlt hne (by simp [hne, Ne.symm hae]) fun u2 h' tk hu2 ho hit' hT hsz hk => ?_
    have eu : u2 = u := by
      have h2 : its[i]? = some u2 := by simpa using hu2
      rw [hu] at h2
      exact (Option.some.inj h2).symm
    subst eu
    refine ⟨_, rfl, wpAny_letOwnedTupleGo_enum (s := { s with heap := h', toks := tk + 1 }) ho fun h'' he' sb => ?_⟩
    have hT2 : h''.get? s.heap.objs.size = some { cls := .type "tuple", data := .seq #[.int i tk, u2] } := (sb.2 _ (Nat.ne_of_gt hel)).trans hT
    have new : ObjOk X.prog X.w (upd H s.heap.objs.size (.tup [.int (i : Nat), x])) h'' s.heap.objs.size (.tup [.int (i : Nat), x]) :=
      ⟨by show 2 ≤ sizeLine; decide, [.int i tk, u2], .cons ⟨_, rfl⟩ (.cons ru .nil), ⟨_, hT2, rfl, _, rfl⟩⟩
    have I1 : Inv X pins σ (upd H s.heap.objs.size (.tup [.int (i : Nat), x])) { s with heap := h'', toks := tk + 1 } :=
      I.turnedNew (ch := [e, it]) (fun b ob hb q => (sb.2 b (fun z => hb (by simp [z]))).trans (hk b ob (fun z => hb (by simp [z])) (fun z => hb (by simp [z])) q)) hf (Nat.le_refl _) new
    refine ⟨.ref s.heap.objs.size, _, I1, rfl, ⟨_, x, rfl, I.hok.fresh (Nat.le_refl _), rfl, fun ys hy => by rw [I.tuple_inj hy hq]; exact hx⟩, ⟨⟨u2, ?_⟩, hit'.1.at fun o q => (sb.2 it (Ne.symm hne)).trans q, hne⟩, fun b hb => ?_⟩
    · have e1 : ((i + 1 : Nat) : Int) = (i : Int) + 1 := by omega
      rw [e1]; exact he'
    · have hb' : b < s.heap.objs.size := by
        have e' : b = e ∨ b = it := by simpa using hb
        rcases e' with z | z
        · rw [z]; exact hel
        · rw [z]; exact hil
      rw [upd_ne (Nat.ne_of_lt hb')]
      exact (hf b hb).1
  done := by
    intro X hP hw hK hc i pins s σ H E I hf st hg
    subst hP hw hK
    obtain ⟨⟨old, he⟩, hit, hne⟩ := st
    obtain ⟨xs, hq, hx⟩ := hg
    obtain ⟨its, rv, p, hz⟩ := I.tuple hq
    obtain ⟨f0, f1, f2, f3, f4, f5⟩ := hf it (by simp)
    have hl := rv.length
    have pt : s.heap.IsTuple a its.toArray := p
    have hT : s.TypeIs (.ref e) "enumerate" := ⟨_, he, rfl⟩
    unfold pyNext
    refine wpAny_bind (wpAny_attempt (wpAny_callSpecial?_slot (name := Str.ofString "__next__") hT F.slot_enumerate_next
      (wpAny_call_entry F.slot_enumerate_next hT F.entry_enumerate_next ?_ (F.args_enumerate_next_1 _))))
    show wpAny _ _ (field (.ref e) 2 >>= _) _ _ _
    refine wpAny_bind (wpAny_field he rfl (x := .ref it) rfl ?_)
    refine wpAny_bind (wpAny_nextOf_tuple_end (show X.A.in1.handled = none from I.ok.hd hc) hit pt (by simp; omega) fun h' x he' hx' => ?_)
    obtain ⟨o, ho, hcl⟩ := hx'
    refine wpAny_bind (wpAny_isInstance (T := "StopIteration") (b := true) ⟨o, ho, hcl⟩ isSubtype_stop ?_)
    exact wpAny_pure ⟨rfl, I.turned (t' := s.toks) (fun b o hb q => he' b o hb q) f0 f1 f3 f4 f5⟩
  self := fun A i s Q E st h => let ⟨⟨_, he⟩, _⟩ := st; wpAny_pyIter_enum he h
/-! their data -/
def enumD : Nat → List Dt → List Dt
  | _, [] => []
  | k, d :: ds => .tup [.int (k : Nat), d] :: enumD (k + 1) ds
theorem enumD_len : ∀ (k : Nat) (ds : List Dt), (enumD k ds).length = ds.length
  | _, [] => rfl
  | k, _ :: ds => congrArg Nat.succ (enumD_len (k + 1) ds)
theorem enumD_at : ∀ {k : Nat} {ds : List Dt} {i : Nat} {d : Dt}, (enumD k ds)[i]? = some d → ∃ e, ds[i]? = some e ∧ d = .tup [.int ((k + i : Nat) : Int), e]
  | k, x :: ds, 0, d, h => ⟨x, rfl, (Option.some.inj h).symm⟩
  | k, x :: ds, i + 1, d, h => by
    obtain ⟨e, h1, h2⟩ := enumD_at (k := k + 1) (ds := ds) (i := i) h
    exact ⟨e, h1, by rw [h2, show k + 1 + i = k + (i + 1) by omega]⟩
def zipD : List Dt → List Dt → List Dt
  | a :: as, b :: bs => .tup [a, b] :: zipD as bs
  | _, _ => []
theorem zipD_at : ∀ {as bs : List Dt} {i : Nat} {d : Dt}, (zipD as bs)[i]? = some d → ∃ x y, as[i]? = some x ∧ bs[i]? = some y ∧ d = .tup [x, y]
  | a :: as, b :: bs, 0, d, h => ⟨a, b, rfl, rfl, (Option.some.inj h).symm⟩
  | a :: as, b :: bs, i + 1, d, h => zipD_at (as := as) (bs := bs) (i := i) h
  | [], _, i, d, h => by simp [zipD] at h
  | _ :: _, [], i, d, h => by simp [zipD] at h
theorem zipD_len : ∀ (as bs : List Dt), (zipD as bs).length = min as.length bs.length
  | a :: as, b :: bs => by
    show (zipD as bs).length + 1 = min (as.length + 1) (bs.length + 1)
    rw [zipD_len as bs]
    omega
  | [], bs => by simp [zipD]
  | _ :: _, [] => by simp [zipD]

end
section
variable {P : Program} {w : World} {K : PySem.W.Frag} {mg : Str → Option Value} {base : Heap}
local macro_rules | `(tactic| get_elem_tactic_trivial) => `(tactic| (repeat first | exact Wk.nil | exact Wk'.nil | refine Wk.same ?_ | refine Wk'.same ?_ | refine Wk.un (fun _ z => nomatch z) ?_ | refine Wk'.un ?_))
/-! a sign's place in a text; a text cut -/
def cIndS : V → List V → Hp → VK → Prop := fun x xs H Q => ∃ a b i rest, x = .str a ∧ xs = [.str b] ∧ Builtin.Str.occurrences a b 0 a.length 1 = i :: rest ∧ Q (.int (i : Nat)) H
def fIndS (x : Str) : Dt → (Dt → Prop) → Prop
  | .str y, Φ => ∃ i rest, Builtin.Str.occurrences x y 0 x.length 1 = i :: rest ∧ Φ (.int ((i : Nat) : Int))
  | _, _ => False
instance sm_ind : Sm1 K cIndS fIndS where
  run B C H σ ρ x y d Q Φ S hy h k := by
    cases d <;> try exact False.elim h
    obtain ⟨i, rest, e, h⟩ := h
    exact ⟨x, _, i, rest, rfl, by rw [hy.str], e, k _ _ _ _ S (Same.refl _) (.int _) h⟩
def wSlS (w : WE) (wl wh : WO) : WE := fun ρ Ψ => w ρ fun r ρ1 => isStr r fun z => wl ρ1 fun lo ρ2 => wh ρ2 fun hi ρ3 => z.length ≤ sizeLine ∧ Ψ (.dat (.str (cutS z lo hi))) ρ3
instance sd_slS {te : TE} {tl th : TO} {w : WE} {wl wh : WO} [a : Sd K te w] [b : Sop K tl wl] [c : Sop K th wh] : Sd K (tSl rSlS te tl th) (wSlS w wl wh) where
  run B C H σ ρ Q Ψ S h k := a.run B C H σ ρ _ _ S h fun C1 H1 v1 r1 ρ1 S1 s1 ok1 h1 => by
    obtain ⟨z, rfl, h1⟩ := isStr_run ok1 h1
    refine b.run B C1 H1 σ ρ1 _ _ S1 h1 fun C2 H2 lo ρ2 S2 s2 h2 => ?_
    refine c.run B C2 H2 σ ρ2 _ _ S2 h2 fun C3 H3 hi ρ3 S3 s3 h3 => ?_
    exact ⟨z, rfl, h3.1, k _ _ _ (.dat (.str _)) _ S3 (s1.trans (s2.trans s3)) (.str _) h3.2⟩


end
section
variable {P : Program} {w : World} {K : PySem.W.Frag} {mg : Str → Option Value} {base : Heap}
local macro_rules | `(tactic| get_elem_tactic_trivial) => `(tactic| (repeat first | exact Wk.nil | exact Wk'.nil | refine Wk.same ?_ | refine Wk'.same ?_ | refine Wk.un (fun _ z => nomatch z) ?_ | refine Wk'.un ?_))
namespace DSet
section
variable {P : Program} {w : World} {K : Type} [DecidableEq K]
variable {kd : KeyKind P w K} {S : K → Bool} {n : Nat} {a : Addr}
variable {A : Around} {E : Value → Shared → Prop} {s : Shared}
end
end DSet
end
section
variable {P : Program} {w : World} {K : PySem.W.Frag} {mg : Str → Option Value} {base : Heap}
local macro_rules | `(tactic| get_elem_tactic_trivial) => `(tactic| (repeat first | exact Wk.nil | exact Wk'.nil | refine Wk.same ?_ | refine Wk'.same ?_ | refine Wk.un (fun _ z => nomatch z) ?_ | refine Wk'.un ?_))
namespace DSet
section
variable {P : Program} {w : World} {A : Around} {E : Value → Shared → Prop} {s : Shared} {K : Type} [DecidableEq K] {kd : KeyKind P w K}
end
end DSet
end
section
variable {P : Program} {w : World} {K : PySem.W.Frag} {mg : Str → Option Value} {base : Heap}
local macro_rules | `(tactic| get_elem_tactic_trivial) => `(tactic| (repeat first | exact Wk.nil | exact Wk'.nil | refine Wk.same ?_ | refine Wk'.same ?_ | refine Wk.un (fun _ z => nomatch z) ?_ | refine Wk'.un ?_))
namespace DSet
section
variable {P : Program} {w : World} {A : Around} {E : Value → Shared → Prop} {s : Shared}
end
end DSet
end
section
variable {P : Program} {w : World} {K : PySem.W.Frag} {mg : Str → Option Value} {base : Heap}
local macro_rules | `(tactic| get_elem_tactic_trivial) => `(tactic| (repeat first | exact Wk.nil | exact Wk'.nil | refine Wk.same ?_ | refine Wk'.same ?_ | refine Wk.un (fun _ z => nomatch z) ?_ | refine Wk'.un ?_))
namespace DSet
section
variable {P : Program} {w : World} {A : Around} {E : Value → Shared → Prop} {s : Shared}
end
end DSet

end
section
variable {P : Program} {w : World} {K : PySem.W.Frag} {mg : Str → Option Value} {base : Heap}
local macro_rules | `(tactic| get_elem_tactic_trivial) => `(tactic| (repeat first | exact Wk.nil | exact Wk'.nil | refine Wk.same ?_ | refine Wk'.same ?_ | refine Wk.un (fun _ z => nomatch z) ?_ | refine Wk'.un ?_))
/-! sorted(set(xs)) as one thing -/
section
variable {X : Cx} {e : Expr} {te : TE} {p p2 q pos : Pos}
end
/-! sorted of texts -/
/-! any -/
/-! enumerate of a list or a tuple -/
def iEnumA (K : PySem.W.Frag) (ta : TA) : TI := fun σ H R => ta σ H fun vs H1 => ∃ a, vs = [.ref a] ∧ (((∃ xs, SqL K H1 a xs) ∧ R (Ite K a) H1) ∨ ((∃ xs, SqT K H1 a xs) ∧ R (IteT K a) H1))
theorem pi_enumA {X : Cx} {e : Expr} {ta : TA} {p pos tpos : Pos} {elts : List Expr} {kk : Nat} (hk : X.K = K) (hg : Gl X "enumerate") (hm : X.mg "enumerate" = none) (ha : PA X [e] ta) (hs : starEach [e] X.env = [(false, eval e X.env)] := by rfl) :
    PI X (.Tuple elts kk tpos) (.Call (.Name "enumerate" p) [e] [] pos) (iEnumA K ta) := by
  subst hk
  refine ⟨fun pins s σ H R I h => ?_⟩
  refine Call_ (ld_blt I hg hm boot_enumerate (PyProof.Rows.callWith_type1 (thn (ha.run pos pins s σ H _ I h) fun us s1 z => ?_) hs rfl))
  obtain ⟨vs, H1, I1, r1, a, rfl, q⟩ := z
  rw [Vals.ref1 r1]
  have fp : ∀ b ∈ [s1.heap.objs.size + 1, s1.heap.objs.size], FpOk X pins H1 b := fun b hb => by
    have hle : s1.heap.objs.size ≤ b := by
      rcases List.mem_cons.mp hb with z | z
      · rw [z]
        exact Nat.le_succ _
      · rw [List.mem_singleton.mp z]
        exact Nat.le_refl _
    exact I1.fpOk hle (I1.hok.fresh hle)
  rcases q with ⟨⟨xs, hq⟩, q⟩ | ⟨⟨xs, hq⟩, q⟩
  · obtain ⟨its, rv, pl, hz⟩ := I1.list hq
    refine call_enumerate_list pl.isList fun h' he hit hsz keep => wpAny_pyIter_enum he ?_
    have I2 : Inv X pins σ H1 { s1 with heap := h' } := I1.kept (t' := s1.toks) keep
    exact ⟨s1.heap.objs.size + 1, [s1.heap.objs.size + 1, s1.heap.objs.size], _, _, H1, rfl, I2, turn_enum a (s1.heap.objs.size + 1) s1.heap.objs.size, ⟨⟨.none, he⟩, hit, Nat.succ_ne_self _⟩, fp, q⟩
  · obtain ⟨its, rv, pl, hz⟩ := I1.tuple hq
    have pt : s1.heap.IsTuple a its.toArray := pl
    have lt : a < s1.heap.objs.size := by obtain ⟨o, ho, _⟩ := id pt; exact Heap.lt_size ho
    refine call_enumerate_tuple pt fun h' he hit hsz keep => wpAny_pyIter_enum he ?_
    have I2 : Inv X pins σ H1 { s1 with heap := h' } := I1.kept (t' := s1.toks) keep
    exact ⟨s1.heap.objs.size + 1, [s1.heap.objs.size + 1, s1.heap.objs.size], _, _, H1, rfl, I2, turn_enumT a (s1.heap.objs.size + 1) s1.heap.objs.size (Nat.ne_of_lt lt) (Nat.ne_of_lt (Nat.lt_succ_of_lt lt)), ⟨⟨.none, he⟩, hit, Nat.succ_ne_self _⟩, fp, q⟩
def wiEnumA (wa : WA) : WI := fun ρ Ψ => wa ρ fun as ρ1 => match as with
  | [.d (.lst ds)] => Ψ (enumD 0 ds) ρ1
  | [.d (.tup ds)] => Ψ (enumD 0 ds) ρ1
  | _ => False
theorem wiEnumA_run {as : List Ar} {k : List Dt → Prop} (h : match as with | [.d (.lst ds)] => k (enumD 0 ds) | [.d (.tup ds)] => k (enumD 0 ds) | _ => False) : ∃ ds, (as = [.d (.lst ds)] ∨ as = [.d (.tup ds)]) ∧ k (enumD 0 ds) := by
  split at h
  · exact ⟨_, .inl rfl, h⟩
  · exact ⟨_, .inr rfl, h⟩
  · exact h.elim
instance si_enumA {ta : TA} {wa : WA} [a : Sa K ta wa] : Si K (iEnumA K ta) (wiEnumA wa) where
  run B C H σ ρ R Ψ S h k := a.run B C H σ ρ _ _ S h fun C1 H1 vs as ρ1 S1 s1 ok1 h1 => by
    obtain ⟨ds, e, h1⟩ := wiEnumA_run (k := fun l => Ψ l ρ1) h1
    have turn : ∀ {xs : List V} {i : Nat} {x : V} {d : Dt} {T : Addr} {B3 : Bs} {C3 H3 : Hp} {σ3 : L2.St} {ρ3 : List Sl}, RpL K C1 xs ds → Sep K B3 C3 H3 σ3 ρ3 → Same C1 C3 → H3 T = none → xs[i]? = some x → (enumD 0 ds)[i]? = some d → ∃ C', Sep K B3 C' (upd H3 T (.tup [.int (i : Nat), x])) σ3 ρ3 ∧ Same C3 C' ∧ Rp K C' (.ref T) d := by
      intro xs i x d T B3 C3 H3 σ3 ρ3 rl S3 s3 hT e hd
      obtain ⟨d', hd', r'⟩ := rl.at e
      obtain ⟨d2, h2, rfl⟩ := enumD_at hd
      rw [h2] at hd'
      cases hd'
      have sC : Same C3 (upd C3 T (.tup [.int (i : Nat), x])) := same_new (S3.cold.free hT)
      refine ⟨upd C3 T (.tup [.int (i : Nat), x]), S3.alloc hT, sC, .tup (.inl (.inl upd_same)) ?_⟩
      rw [Nat.zero_add]
      exact .cons (.int _) (.cons ((r'.same s3).same sC) .nil)
    rcases e with rfl | rfl
    · match ok1 with
      | .cons r .nil =>
        cases r with
        | @lst c xs _ hs rl =>
          have lq := rl.len
          refine ⟨c, rfl, .inl ⟨⟨_, SqL.of (S1.cold _ _ hs)⟩, k _ _ _ _ _ S1 s1 (fun B3 C3 H3 σ3 ρ3 S3 s3 => ?_) h1⟩⟩
          have q : SqL K H3 c xs := SqL.of (S3.cold _ _ (s3 _ _ hs))
          rw [enumD_len]
          refine ⟨fun i hi => ⟨xs, xs[i], q, by simp [lq, hi]⟩, ⟨xs, q, by omega⟩, fun i y H' d hd yl => ?_⟩
          obtain ⟨T, x, rfl, hT, rfl, yl⟩ := yl
          exact turn rl S3 s3 hT (yl xs q) hd
    · match ok1 with
      | .cons r .nil =>
        cases r with
        | @tup c xs _ hs rl =>
          have lq := rl.len
          refine ⟨c, rfl, .inr ⟨⟨_, seqT_same S1.cold hs⟩, k _ _ _ _ _ S1 s1 (fun B3 C3 H3 σ3 ρ3 S3 s3 => ?_) h1⟩⟩
          have q := seqT_same S3.cold (seqT_same s3 hs)
          rw [enumD_len]
          refine ⟨fun i hi => ⟨xs, xs[i], q, by simp [lq, hi]⟩, ⟨xs, q, by omega⟩, fun i y H' d hd yl => ?_⟩
          obtain ⟨T, x, rfl, hT, rfl, yl⟩ := yl
          exact turn rl S3 s3 hT (yl xs q) hd

end
section
variable {P : Program} {w : World} {K : PySem.W.Frag} {mg : Str → Option Value} {base : Heap}
local macro_rules | `(tactic| get_elem_tactic_trivial) => `(tactic| (repeat first | exact Wk.nil | exact Wk'.nil | refine Wk.same ?_ | refine Wk'.same ?_ | refine Wk.un (fun _ z => nomatch z) ?_ | refine Wk'.un ?_))
/-! zip of a list or a tuple with a tuple -/

end
section
variable {P : Program} {w : World} {K : PySem.W.Frag} {mg : Str → Option Value} {base : Heap}
local macro_rules | `(tactic| get_elem_tactic_trivial) => `(tactic| (repeat first | exact Wk.nil | exact Wk'.nil | refine Wk.same ?_ | refine Wk'.same ?_ | refine Wk.un (fun _ z => nomatch z) ?_ | refine Wk'.un ?_))
/-! {..}.get(x, y) of two texts with numbers -/

end
section
variable {P : Program} {w : World} {K : PySem.W.Frag} {mg : Str → Option Value} {base : Heap}
local macro_rules | `(tactic| get_elem_tactic_trivial) => `(tactic| (repeat first | exact Wk.nil | exact Wk'.nil | refine Wk.same ?_ | refine Wk'.same ?_ | refine Wk.un (fun _ z => nomatch z) ?_ | refine Wk'.un ?_))
/-! a tuple so many times -/
/-! how often a text is in a list -/

end
section
variable {P : Program} {w : World} {K : PySem.W.Frag} {mg : Str → Option Value} {base : Heap}
local macro_rules | `(tactic| get_elem_tactic_trivial) => `(tactic| (repeat first | exact Wk.nil | exact Wk'.nil | refine Wk.same ?_ | refine Wk'.same ?_ | refine Wk.un (fun _ z => nomatch z) ?_ | refine Wk'.un ?_))
/-! calls that leave numbers out -/

end
section
variable {P : Program} {w : World} {K : PySem.W.Frag} {mg : Str → Option Value} {base : Heap}
local macro_rules | `(tactic| get_elem_tactic_trivial) => `(tactic| (repeat first | exact Wk.nil | exact Wk'.nil | refine Wk.same ?_ | refine Wk'.same ?_ | refine Wk.un (fun _ z => nomatch z) ?_ | refine Wk'.un ?_))
/-! upper, str of a number, < of numbers or texts -/
/-! a pair taken apart, its second a new list that stays changeable -/

end
section
variable {P : Program} {w : World} {K : PySem.W.Frag} {mg : Str → Option Value} {base : Heap}
local macro_rules | `(tactic| get_elem_tactic_trivial) => `(tactic| (repeat first | exact Wk.nil | exact Wk'.nil | refine Wk.same ?_ | refine Wk'.same ?_ | refine Wk.un (fun _ z => nomatch z) ?_ | refine Wk'.un ?_))
/-! pop(i), insert(i, x) of a list that may be changed -/
/-! a new drawer given to a def at once -/
theorem Sep.ext {B : Bs} {C H : Hp} {σ : L2.St} {ρ : List Sl} {p : Addr} {x y : Int} (S : Sep K B C H σ ρ) (hp : H p = none) (hx : 0 ≤ x) (hy : 0 ≤ y) (hy2 : y < 1099511627776) : Sep K B C (upd H p (.lst [.int x, .int y, .int 0])) (σ ++ [some (.ref p)]) (ρ ++ [.box 0]) := by
  have S1 := S.allocN (o := .lst [.int x, .int y, .int 0]) hp
  have hl := S.len
  have old : ∀ {i : Nat} {s : Sl}, (ρ ++ [Sl.box 0])[i]? = some s → (ρ[i]? = some s ∧ (σ ++ [some (.ref p)])[i]? = σ[i]?) ∨ (i = ρ.length ∧ s = .box 0 ∧ (σ ++ [some (.ref p)])[i]? = some (some (.ref p))) := fun {i s} h => by
    rcases Nat.lt_trichotomy i ρ.length with z | z | z
    · rw [List.getElem?_append_left z] at h
      exact .inl ⟨h, List.getElem?_append_left (by omega)⟩
    · subst z
      rw [List.getElem?_append_right (Nat.le_refl _), Nat.sub_self] at h
      exact .inr ⟨rfl, (Option.some.inj h).symm, by rw [← hl, List.getElem?_append_right (Nat.le_refl _), Nat.sub_self]; rfl⟩
    · rw [List.getElem?_eq_none (by rw [List.length_append]; show _ + 1 ≤ _; omega)] at h
      cases h
  have nop : ∀ {i : Nat} {s : Sl}, ρ[i]? = some s → s.mut = true → σ[i]? ≠ some (some (V.ref p)) := fun {i s} h m e => (S.mutH h m e).2 hp
  refine ⟨S1.cold, by rw [List.length_append, List.length_append, hl]; rfl, fun i s h => ?_, fun i j a s t n h1 h2 m1 m2 e1 e2 => ?_, S1.grow, S1.new, S1.dom, S1.keep, fun i a ds h e => ?_, fun i a n h e => ?_, fun i a h => ?_, S1.pz⟩
  · rcases old h with ⟨h1, e1⟩ | ⟨_, rfl, e1⟩
    · rw [e1]
      exact S1.sl i s h1
    · rw [e1]
      exact ⟨p, rfl, ⟨x, y, 0, upd_same, hx, hy, hy2, Int.le_refl _, Int.le_refl _⟩, S.cold.free hp⟩
  · rcases old h1 with ⟨g1, f1⟩ | ⟨i1, rfl, f1⟩
    · rw [f1] at e1
      rcases old h2 with ⟨g2, f2⟩ | ⟨i2, rfl, f2⟩
      · rw [f2] at e2
        exact S1.ne i j a s t n g1 g2 m1 m2 e1 e2
      · rw [f2] at e2
        cases e2
        exact nop g1 m1 e1
    · rw [f1] at e1
      cases e1
      rcases old h2 with ⟨g2, f2⟩ | ⟨i2, rfl, f2⟩
      · rw [f2] at e2
        exact nop g2 m2 e2
      · exact n (i1.trans i2.symm)
  · rcases old h with ⟨h1, e1⟩ | ⟨_, z, _⟩
    · rw [e1] at e
      exact S1.loc i a ds h1 e
    · cases z
  · rcases old h with ⟨h1, e1⟩ | ⟨_, z, e1⟩
    · rw [e1] at e
      exact S1.lob i a n h1 e
    · rw [e1] at e
      cases e
      exact .inl (S.free0 hp)
  · obtain ⟨h1, n, h2⟩ := S1.par i a h
    have li : i < ρ.length := (List.getElem?_eq_some_iff.mp h2).1
    exact ⟨by rw [List.getElem?_append_left (by omega)]; exact h1, n, by rw [List.getElem?_append_left li]; exact h2⟩

end
section
variable {P : Program} {w : World} {K : PySem.W.Frag} {mg : Str → Option Value} {base : Heap}
local macro_rules | `(tactic| get_elem_tactic_trivial) => `(tactic| (repeat first | exact Wk.nil | exact Wk'.nil | refine Wk.same ?_ | refine Wk'.same ?_ | refine Wk.un (fun _ z => nomatch z) ?_ | refine Wk'.un ?_))
/-! split, str of a text or a number, (*xs, y) -/
def wAStar (w : WE) (wa : WA) : WA := fun ρ Ψ => w ρ fun r ρ1 => match r with
  | .dat (.lst ds) => wa ρ1 fun as ρ2 => Ψ (ds.map .d ++ as) ρ2
  | .dat (.tup ds) => wa ρ1 fun as ρ2 => Ψ (ds.map .d ++ as) ρ2
  | _ => False
theorem ArL.app {C : Hp} {σ : L2.St} : ∀ {vs us : List V} {as bs : List Ar}, ArL K C σ vs as → ArL K C σ us bs → ArL K C σ (vs ++ us) (as ++ bs)
  | _, _, _, _, .nil, h => h
  | _, _, _, _, .cons a t, h => .cons a (ArL.app t h)
instance sa_star {te : TE} {ta : TA} {w : WE} {wa : WA} [a : Sd K te w] [b : Sa K ta wa] : Sa K (StX.tStar K te ta) (wAStar w wa) where
  run B C H σ ρ Q Ψ S h k := a.run B C H σ ρ _ _ S h fun C1 H1 v1 r1 ρ1 S1 s1 ok1 h1 => by
    cases r1 with
    | hot i ds => exact False.elim h1
    | box i n => exact False.elim h1
    | dat x =>
      cases x <;> try exact False.elim h1
      · rename_i ds
        cases ok1 with
        | @lst c xs _ hs rl =>
          exact ⟨c, xs, rfl, .inr (SqL.of (S1.cold _ _ hs)), b.run B C1 H1 σ ρ1 _ _ S1 h1 fun C2 H2 vs as ρ2 S2 s2 ok2 h2 => k _ _ _ _ _ S2 (s1.trans s2) (ArL.app (ArL.ofRp (rl.same s2)) ok2) h2⟩
      · rename_i ds
        cases ok1 with
        | @tup c xs _ hs rl =>
          exact ⟨c, xs, rfl, .inl (seqT_same S1.cold hs), b.run B C1 H1 σ ρ1 _ _ S1 h1 fun C2 H2 vs as ρ2 S2 s2 ok2 h2 => k _ _ _ _ _ S2 (s1.trans s2) (ArL.app (ArL.ofRp (rl.same s2)) ok2) h2⟩
/-! a thing that is only read: lists stay changeable -/

end
section
variable {P : Program} {w : World} {K : PySem.W.Frag} {mg : Str → Option Value} {base : Heap}
local macro_rules | `(tactic| get_elem_tactic_trivial) => `(tactic| (repeat first | exact Wk.nil | exact Wk'.nil | refine Wk.same ?_ | refine Wk'.same ?_ | refine Wk.un (fun _ z => nomatch z) ?_ | refine Wk'.un ?_))
/-! while -/

end
section
variable {P : Program} {w : World} {K : PySem.W.Frag} {mg : Str → Option Value} {base : Heap}
local macro_rules | `(tactic| get_elem_tactic_trivial) => `(tactic| (repeat first | exact Wk.nil | exact Wk'.nil | refine Wk.same ?_ | refine Wk'.same ?_ | refine Wk.un (fun _ z => nomatch z) ?_ | refine Wk'.un ?_))
/-! things of a class, read: e.f and e.m(..) -/
structure FldOk (K : PySem.W.Frag) (c f : Str) : Prop where
  cls : Cls K (He.ga K c)
  no : NoAttr K (He.ga K c) f
def wFld (K : PySem.W.Frag) (w : WE) (f : Str) : WE := fun ρ Ψ => w ρ fun r ρ1 => match r with
  | .dat (.obj c ns ds) => ∃ (i : Nat) (d : Dt), (ns.zip (List.range ns.length)).lookup f = some i ∧ ds[i]? = some d ∧ FldOk K c f ∧ Ψ (.dat d) ρ1
  | _ => False
theorem zip_look {α : Type} {f : Str} : ∀ {ns : List Str} {vs : List α} {k i : Nat} {v : α}, (ns.zip ((List.range ns.length).map (k + ·))).lookup f = some i → vs[i - k]? = some v → ns.length = vs.length → (ns.zip vs).lookup f = some v ∧ k ≤ i
  | [], vs, k, i, v, h, _, _ => by simp at h
  | n :: ns, [], k, i, v, _, _, l => by simp at l
  | n :: ns, u :: vs, k, i, v, h, hv, l => by
    rw [List.length_cons, List.range_succ_eq_map, List.map_cons, List.zip_cons_cons, List.lookup_cons] at h
    rw [List.zip_cons_cons, List.lookup_cons]
    by_cases e : f == n
    · rw [e] at h ⊢
      cases h
      rw [Nat.add_zero, Nat.sub_self] at hv
      cases hv
      exact ⟨rfl, Nat.le_add_right _ _⟩
    · rw [Bool.not_eq_true] at e
      rw [e] at h ⊢
      rw [List.map_map] at h
      have h2 : (ns.zip ((List.range ns.length).map (k + 1 + ·))).lookup f = some i := by
        have e2 : ((k + ·) ∘ Nat.succ) = (k + 1 + ·) := by
          funext x
          show k + (x + 1) = k + 1 + x
          omega
        rw [← e2]
        exact h
      have lt : k + 1 ≤ i := by
        obtain ⟨_, hm⟩ : ∃ j, i = k + 1 + j := by
          have : ∀ {xs : List Str} {ys : List Nat}, (xs.zip ys).lookup f = some i → i ∈ ys := fun {xs ys} z => by
            induction xs generalizing ys with
            | nil => simp at z
            | cons x xs ih =>
              cases ys with
              | nil => simp at z
              | cons y ys =>
                rw [List.zip_cons_cons, List.lookup_cons] at z
                split at z
                · cases z
                  exact List.mem_cons_self ..
                · exact List.mem_cons_of_mem _ (ih z)
          obtain ⟨j, _, rfl⟩ := List.mem_map.mp (this h2)
          exact ⟨j, rfl⟩
        omega
      have hv2 : vs[i - (k + 1)]? = some v := by
        rw [show i - k = (i - (k + 1)) + 1 by omega] at hv
        exact hv
      have z := zip_look (k := k + 1) h2 hv2 (by simpa using l)
      exact ⟨z.1, by omega⟩
theorem zip_look0 {α : Type} {f : Str} {ns : List Str} {vs : List α} {i : Nat} {v : α} (h : (ns.zip (List.range ns.length)).lookup f = some i) (hv : vs[i]? = some v) (l : ns.length = vs.length) : (ns.zip vs).lookup f = some v := by
  refine (zip_look (k := 0) (i := i) ?_ hv l).1
  have e : (fun x : Nat => 0 + x) = id := by funext x; exact Nat.zero_add x
  rw [e, List.map_id]
  exact h
instance sd_fld {ta : TE} {f : Str} {wa : WE} [a : Sd K ta wa] : Sd K (tFld K ta f) (wFld K wa f) where
  run B C H σ ρ Q Ψ S h k := a.run B C H σ ρ _ _ S h fun C1 H1 v1 r1 ρ1 S1 s1 ok1 h1 => by
    cases r1 with
    | hot i ds => exact False.elim h1
    | box i n => exact False.elim h1
    | dat x =>
      cases x <;> try exact False.elim h1
      rename_i c ns ds
      obtain ⟨i, d, hi, hd, fo, h1⟩ := h1
      cases ok1 with
      | @obj _ x dx _ vs _ hx hdx hl rl =>
        obtain ⟨v, hv, rv⟩ := rl.at' hd
        exact ⟨x, _, dx, _, v, rfl, S1.cold _ _ hx, fo.cls, fo.no, zip_look0 hi hv hl, k _ _ _ (.dat d) _ S1 s1 rv h1⟩
theorem zip_none {α β : Type} {m : Str} : ∀ {ns : List Str} {vs : List α} {us : List β}, (ns.zip us).lookup m = none → ns.length = us.length → (ns.zip vs).lookup m = none
  | [], _, _, _, _ => by simp
  | n :: ns, [], _, _, _ => by simp
  | n :: ns, v :: vs, [], _, l => by simp at l
  | n :: ns, v :: vs, u :: us, h, l => by
    rw [List.zip_cons_cons, List.lookup_cons] at h ⊢
    split at h
    · cases h
    · exact zip_none (us := us) h (by simpa using l)
def wMeth (K : PySem.W.Frag) (C : Addr) (m : Str) (n : Nat) (wf : WF) (dd : List Dt) (wa : WE) (wt : WA) : WE := fun ρ Ψ => wa ρ fun r ρ1 => match r with
  | .dat (.obj c ns ds) => (He.ga K c = C ∧ (ns.zip (List.range ns.length)).lookup m = none) ∧ wt ρ1 fun as ρ2 => (as.length + 1 + dd.length = n) ∧ callW wf (.d (.obj c ns ds) :: as) dd ρ2 fun r ρ3 => Ψ (.dat r.val) ρ3
  | _ => False
instance sd_meth {Cl : Addr} {mm : Str} {n : Nat} {wf : WF} {dvs : List V} {dd : List Dt} {E : XK} {ta : TE} {tt : TA} {wa : WE} {wt : WA} [v : Dv dvs dd] [a : Sd K ta wa] [b : Sa K tt wt] : Sd K (tMeth Cl mm (spD K n wf) dvs E ta tt) (wMeth K Cl mm n wf dd wa wt) where
  run B C H σ ρ Q Ψ S h k := a.run B C H σ ρ _ _ S h fun C1 H1 v1 r1 ρ1 S1 s1 ok1 h1 => by
    cases r1 with
    | hot i ds => exact False.elim h1
    | box i n => exact False.elim h1
    | dat x =>
      cases x <;> try exact False.elim h1
      rename_i c ns ds
      obtain ⟨⟨ec, el⟩, h1⟩ := h1
      have ok0 : Rp K C1 v1 (.obj c ns ds) := ok1
      cases ok1 with
      | @obj _ x dx _ vs _ hx hdx hl rl =>
        refine ⟨x, dx, _, rfl, by rw [← ec]; exact S1.cold _ _ hx, zip_none el (by rw [List.length_range]), ?_⟩
        refine b.run B C1 H1 σ ρ1 _ _ S1 h1 fun C2 H2 us as ρ2 S2 s2 ok2 h2 => ?_
        have ar : ArL K C2 σ (.ref x :: us) (.d (.obj c ns ds) :: as) := .cons (ok0.same s2) ok2
        refine S2.calls ar (v.run K C2) (by rw [List.length_cons]; exact h2.1) h2.2 fun C' G v r ρ' S' s' q z => ?_
        cases r with
        | dat d => exact k _ _ _ (.dat d) _ S' (s1.trans (s2.trans s')) q z
        | new ds =>
          obtain ⟨b, rfl, f⟩ := q
          obtain ⟨C3, S3, s3, r3⟩ := f.cool S'
          exact k _ _ _ (.dat (.lst ds)) _ S3 (s1.trans (s2.trans (s'.trans s3))) r3 z
/-! C(.., k=..): a thing made, its fields as given -/
def spIni (K : PySem.W.Frag) (c : Str) (ns : List Str) (ok : List Dt → Prop) : Sp := fun vs H Q _ => ∃ (p dx : Addr) (us : List V) (ds : List Dt) (C : Hp), vs = .ref p :: us ∧ H p = some (.ins (He.ga K c) dx []) ∧ RpL K C us ds ∧ ok ds ∧ ns.length = us.length ∧ ∀ G : Hp, G p = some (.ins (He.ga K c) dx (ns.zip us)) → But p H G → Q .non G
def wMakeK (K : PySem.W.Frag) (c : Str) (Cl : Addr) (ns : List Str) (ok : List Dt → Prop) (n m : Nat) (wt wk : WA) : WE := fun ρ Ψ => wt ρ fun as ρ1 => wk ρ1 fun bs ρ2 => match dats as, dats bs with
  | some ds, some es => (as.length = n ∧ bs.length = m ∧ ok (ds ++ es) ∧ ns.length = (ds ++ es).length ∧ He.ga K c = Cl) ∧ Ψ (.dat (.obj c ns (ds ++ es))) ρ2
  | _, _ => False
instance sd_makeK {c : Str} {Cl : Addr} {ns : List Str} {ok : List Dt → Prop} {n m : Nat} {E : XK} {tt tk : TA} {wt wk : WA} [a : Sa K tt wt] [b : Sa K tk wk] : Sd K (tMakeK Cl n m (spIni K c ns ok) (fun vs zs => vs ++ zs) E tt tk) (wMakeK K c Cl ns ok n m wt wk) where
  run B C H σ ρ Q Ψ S h k := a.run B C H σ ρ _ _ S h fun C1 H1 vs as ρ1 S1 s1 ok1 h1 => b.run B C1 H1 σ ρ1 _ _ S1 h1 fun C2 H2 zs bs ρ2 S2 s2 ok2 h2 => by
    cases q1 : dats as with
    | none => simp only [q1] at h2
    | some ds =>
      cases q2 : dats bs with
      | none => simp only [q1, q2] at h2
      | some es =>
        simp only [q1, q2] at h2
        obtain ⟨⟨l1, l2, okd, ln, ec⟩, h2⟩ := h2
        have r : RpL K C2 (vs ++ zs) (ds ++ es) := ((ok1.dats q1).same s2).append (ok2.dats q2)
        refine ⟨by rw [ok1.len]; exact l1, by rw [ok2.len]; exact l2, fun x dx hx hdx ne => ?_⟩
        refine ⟨x, dx, vs ++ zs, ds ++ es, C2, rfl, by rw [ec]; exact upd_same, r, okd, by rw [r.len]; exact ln, fun G hG bt => ⟨rfl, ?_⟩⟩
        have hx2 : upd H2 dx (.own x) x = none := by rw [upd_ne (Ne.symm ne)]; exact hx
        have Sa := S2.alloc (o := .own x) hdx
        have Sb := Sa.alloc (o := .ins (He.ga K c) dx (ns.zip (vs ++ zs))) hx2
        have sm : Same (upd (upd H2 dx (.own x)) x (.ins (He.ga K c) dx (ns.zip (vs ++ zs)))) G := fun y o e => by
          by_cases z : y = x
          · subst z
            rw [upd_same] at e
            cases e
            exact hG
          · rw [upd_ne z] at e
            exact bt y o (by rw [upd_ne z]; exact e) z
        have g1 : Same C2 (upd C2 dx (.own x)) := same_new (S2.cold.free hdx)
        have g2 : Same (upd C2 dx (.own x)) (upd (upd C2 dx (.own x)) x (.ins (He.ga K c) dx (ns.zip (vs ++ zs)))) := same_new (Sa.cold.free hx2)
        exact k _ _ _ (.dat (.obj c ns (ds ++ es))) _ (Sb.same sm) (s1.trans (s2.trans (g1.trans g2))) (.obj upd_same (g2 _ _ upd_same) (by rw [r.len]; exact ln) (r.same (g1.trans g2))) h2

end
section
variable {P : Program} {w : World} {K : PySem.W.Frag} {mg : Str → Option Value} {base : Heap}
local macro_rules | `(tactic| get_elem_tactic_trivial) => `(tactic| (repeat first | exact Wk.nil | exact Wk'.nil | refine Wk.same ?_ | refine Wk'.same ?_ | refine Wk.un (fun _ z => nomatch z) ?_ | refine Wk'.un ?_))
/-! [e for x in it if t for y in it2 if u] -/
def lc2In (wi1 : WI) (wg1 : WG) (wt1 : WT) (we : WE) (vs vs1 : List Nat) (I : List Dt → List Sl → Prop) (acc : List Dt) : Bool → List Sl → Prop := fun b ρ3 => if b = true then wi1 ρ3 fun items1 ρ4 => noBox ρ4 vs1 = true ∧ ∃ J : Nat → List Dt → List Sl → Prop, J 0 acc (wipeR ρ4 vs1) ∧
      (∀ j acc ρ e, items1[j]? = some e → J j acc ρ → wg1 e ρ fun ρ5 => wt1 ρ5 fun b ρ6 => if b = true then we ρ6 fun r ρ7 => store r ρ7 fun a ρ8 => lcEnd vs1 acc a ρ8 (J (j + 1)) else noBox ρ6 vs1 = true ∧ J (j + 1) acc (wipeR ρ6 vs1)) ∧
      ∀ acc ρ, J items1.length acc ρ → noBox ρ vs = true ∧ I acc (wipeR ρ vs)
    else noBox ρ3 vs = true ∧ I acc (wipeR ρ3 vs)
def wLc2 (is is1 : List Nat) (wi : WI) (wg : WG) (wt : WT) (wi1 : WI) (wg1 : WG) (wt1 : WT) (we : WE) (vs vs1 : List Nat) : WN := fun ρ Ψ => wi ρ fun items ρ1 => (noBox ρ1 vs = true ∧ subB is vs = true ∧ subB is1 vs1 = true ∧ subB vs1 vs = true) ∧ ∃ I : Nat → List Dt → List Sl → Prop, I 0 [] (wipeR ρ1 vs) ∧
  (∀ k acc ρ d, items[k]? = some d → I k acc ρ → wg d ρ fun ρ2 => wt ρ2 (lc2In wi1 wg1 wt1 we vs vs1 (I (k + 1)) acc)) ∧ ∀ acc ρ, I items.length acc ρ → noBox ρ vs = true ∧ Ψ acc (wipeR ρ vs)
theorem wipe_len (σ : L2.St) : ∀ vs : List Nat, (wipe σ vs).length = σ.length := fun vs => by
  induction vs with
  | nil => rfl
  | cons v vs ih =>
    show ((wipe σ vs).set v none).length = σ.length
    rw [List.length_set]
    exact ih
instance sn_lc2 {ti ti1 : TI} {g g1 : TG} {tt tt1 : TT} {te : TE} {vs vs1 is is1 : List Nat} {wi wi1 : WI} {wg wg1 : WG} {wt wt1 : WT} {we : WE} [i : Si K ti wi] [a : Sg K g wg] [s : Sw g is] [c : Sc K tt wt] [i1 : Si K ti1 wi1] [a1 : Sg K g1 wg1] [s1' : Sw g1 is1] [c1 : Sc K tt1 wt1] [b : Sd K te we] : Sn K (tLc2 ti g tt ti1 g1 tt1 te vs vs1) (wLc2 is is1 wi wg wt wi1 wg1 wt1 we vs vs1) where
  run B C H σ ρ Q Ψ S h kk := i.run B C H σ ρ _ _ S h fun C1 H1 J items ρ1 S1 s1 hJ h1 => by
    obtain ⟨⟨nb1, sub, sub1, sub2⟩, I, i0, step, fin⟩ := h1
    intro D hD
    have h0D := S1.free0 hD
    have cD1 := S1.cold.free hD
    have c0D : B.C0 D = none := S1.grow.free cD1
    have nh1 := S1.nohot hD
    have bxD := S1.bxne nh1
    refine ⟨fun k n H2 => n = items.length - k ∧ k ≤ items.length ∧ ∃ C2 ρ2 ws acc, Sep K B C2 H2 (wipe σ vs) ρ2 ∧ Same C1 C2 ∧ H2 D = some (.lst ws) ∧ C2 D = none ∧ (∀ (j : Nat) (t : Sl), ρ2[j]? = some t → t.mut = true → (wipe σ vs)[j]? ≠ some (some (V.ref D))) ∧ RpL K C2 ws acc ∧ I k acc ρ2, ⟨_, rfl, Nat.zero_le _, C1, wipeR ρ1 vs, [], [], ?_, Same.refl _, upd_same, cD1, ?_, .nil, i0⟩, ?_⟩
    · exact (S1.allocN hD).swap nb1 (wipe2 vs)
    · exact ((S1.swap (σ' := wipe σ vs) nb1 (wipe2 vs))).nohot hD
    rintro k n H2 ⟨rfl, hk, C2, ρ2, ws, acc, S2, s2, hD2, cD2, nh2, r2, hI⟩
    have S2' := S2.hold hD2 cD2 nh2
    obtain ⟨go, stop, yld⟩ := hJ _ C2 H2 _ ρ2 S2' s2
    by_cases hlt : k < items.length
    · refine .inr ⟨go k hlt, fun H3 => ∃ C3 ρ3 ws acc, Sep K B C3 H3 (wipe σ vs) ρ3 ∧ Same C1 C3 ∧ H3 D = some (.lst ws) ∧ C3 D = none ∧ (∀ (j : Nat) (t : Sl), ρ3[j]? = some t → t.mut = true → (wipe σ vs)[j]? ≠ some (some (V.ref D))) ∧ RpL K C3 ws acc ∧ I (k + 1) acc ρ3, fun H3 ⟨C3, ρ3, ws, acc, q⟩ => ⟨items.length - (k + 1), by omega, rfl, hlt, C3, ρ3, ws, acc, q⟩, fun x H' y => ?_⟩
      obtain ⟨C3, S3, s3, r3⟩ := yld k x H' items[k] (List.getElem?_eq_getElem hlt) y
      have st := step k acc ρ2 _ (List.getElem?_eq_getElem hlt) hI
      refine s.run _ _ _ _ _ (a.run _ C3 H' _ ρ2 _ _ (fun σ4 H4 => ∃ ρ4, H4 = H' ∧ Sep K (B.hold D (.lst ws)) C3 H' σ4 ρ4 ∧ wt ρ4 (lc2In wi1 wg1 wt1 we vs vs1 (I (k + 1)) acc)) _ S3 r3 st fun σ4 ρ4 S4 h4 => ⟨ρ4, rfl, S4, h4⟩) fun σ4 H4 ⟨l4, o4⟩ ⟨ρ4, e4, S4, h4⟩ => ?_
      subst e4
      have w4 : wipe σ4 vs = wipe σ vs := (wipe_eq l4 o4 (subB_at sub)).trans (wipe2 vs)
      refine ⟨w4, c.run _ C3 _ σ4 ρ4 _ _ S4 h4 fun C5 H5 e ρ5 S5 s5 h5 => ?_⟩
      have w4' : wipe (wipe σ vs) vs = wipe σ4 vs := (wipe2 vs).trans w4.symm
      cases e with
      | false =>
        obtain ⟨n5, z5⟩ := h5
        obtain ⟨S6, q6, c6, nh6⟩ := (S5.swap n5 w4').unhold h0D c0D bxD
        exact ⟨C5, _, ws, acc, S6, s2.trans (s3.trans s5), q6, c6, nh6, r2.same (s3.trans s5), z5⟩
      | true =>
        refine i1.run _ C5 H5 σ4 ρ5 _ _ S5 h5 fun C6 H6 J1 items1 ρ6 S6 s6 hJ1 h6 => ?_
        obtain ⟨nb6, M, j0, step1, fin1⟩ := h6
        obtain ⟨S6u, q6, c6, nh6⟩ := S6.unhold h0D c0D bxD
        have sm6 := s2.trans (s3.trans (s5.trans s6))
        have r6 := r2.same (s3.trans (s5.trans s6))
        refine ⟨fun j m H7 => m = items1.length - j ∧ j ≤ items1.length ∧ ∃ C7 ρ7 ws acc, Sep K B C7 H7 (wipe σ4 vs1) ρ7 ∧ Same C6 C7 ∧ H7 D = some (.lst ws) ∧ C7 D = none ∧ (∀ (j : Nat) (t : Sl), ρ7[j]? = some t → t.mut = true → (wipe σ4 vs1)[j]? ≠ some (some (V.ref D))) ∧ RpL K C7 ws acc ∧ M j acc ρ7, ⟨_, rfl, Nat.zero_le _, C6, wipeR ρ6 vs1, ws, acc, S6u.swap nb6 (wipe2 vs1), Same.refl _, q6, c6, ?_, r6, j0⟩, ?_⟩
        · intro j t q m e
          rcases wipeR_at vs1 j t q with ⟨_, q2⟩ | ⟨nj, q2⟩
          · rw [q2] at m
            cases m
          · rw [wipe_off vs1 j nj] at e
            exact nh6 j t q2 m e
        clear q6 nh6 r2 hD2 nh2 hI st r6 j0
        rintro j m H7 ⟨rfl, hj, C7, ρ7, ws7, acc7, S7, s7, hD7, cD7, nh7, r7, hM⟩
        have S7' := S7.hold hD7 cD7 nh7
        obtain ⟨go1, stop1, yld1⟩ := hJ1 _ C7 H7 _ ρ7 S7' s7
        by_cases hlt1 : j < items1.length
        · refine .inr ⟨go1 j hlt1, fun H8 => ∃ C8 ρ8 ws acc, Sep K B C8 H8 (wipe σ4 vs1) ρ8 ∧ Same C6 C8 ∧ H8 D = some (.lst ws) ∧ C8 D = none ∧ (∀ (j : Nat) (t : Sl), ρ8[j]? = some t → t.mut = true → (wipe σ4 vs1)[j]? ≠ some (some (V.ref D))) ∧ RpL K C8 ws acc ∧ M (j + 1) acc ρ8, fun H8 ⟨C8, ρ8, ws, acc, q⟩ => ⟨items1.length - (j + 1), by omega, rfl, hlt1, C8, ρ8, ws, acc, q⟩, fun x H' y => ?_⟩
          obtain ⟨C8, S8, s8, r8⟩ := yld1 j x H' items1[j] (List.getElem?_eq_getElem hlt1) y
          have st := step1 j acc7 ρ7 _ (List.getElem?_eq_getElem hlt1) hM
          refine s1'.run _ _ _ _ _ (a1.run _ C8 H' _ ρ7 _ _ (fun σ9 H9 => ∃ ρ9, H9 = H' ∧ Sep K (B.hold D (.lst ws7)) C8 H' σ9 ρ9 ∧ wt1 ρ9 fun b ρ6 => if b = true then we ρ6 fun r ρ7 => store r ρ7 fun a ρ8 => lcEnd vs1 acc7 a ρ8 (M (j + 1)) else noBox ρ6 vs1 = true ∧ M (j + 1) acc7 (wipeR ρ6 vs1)) _ S8 r8 st fun σ9 ρ9 S9 h9 => ⟨ρ9, rfl, S9, h9⟩) fun σ9 H9 ⟨l9, o9⟩ ⟨ρ9, e9, S9, h9⟩ => ?_
          subst e9
          have w9 : wipe σ9 vs1 = wipe σ4 vs1 := (wipe_eq l9 o9 (subB_at sub1)).trans (wipe2 vs1)
          refine ⟨w9, c1.run _ C8 _ σ9 ρ9 _ _ S9 h9 fun C10 H10 e ρ10 S10 s10 h10 => ?_⟩
          have w9' : wipe (wipe σ4 vs1) vs1 = wipe σ9 vs1 := (wipe2 vs1).trans w9.symm
          cases e with
          | false =>
            obtain ⟨n5, z5⟩ := h10
            obtain ⟨S6, q6, c6, nh6⟩ := (S10.swap n5 w9').unhold h0D c0D bxD
            exact ⟨C10, _, ws7, acc7, S6, s7.trans (s8.trans s10), q6, c6, nh6, r7.same (s8.trans s10), z5⟩
          | true =>
            refine b.run _ C10 H10 σ9 ρ10 _ _ S10 h10 fun C11 H11 v11 r11 ρ11 S11 s11 ok11 h11 => ?_
            obtain ⟨C12, x12, ρ12, S12, s12, ok12, h12⟩ := S11.stored ok11 h11
            cases x12 with
            | b i => exact False.elim h12
            | d x =>
              obtain ⟨n12, z12, z13⟩ := h12
              obtain ⟨S8, q8, c8, nh8⟩ := (S12.swap n12 w9').unhold h0D c0D bxD
              have sm := s8.trans (s10.trans (s11.trans s12))
              refine ⟨ws7, q8, by rw [r7.len]; exact z12, C12, _, ws7 ++ [v11], acc7 ++ [x], ?_, s7.trans sm, upd_same, c8, nh8, (r7.same sm).append (.cons ok12 .nil), z13⟩
              have hd := (S8.hold q8 c8 nh8)
              refine ⟨fun b o q => ?_, S8.len, fun j t q => ?_, S8.ne, S8.grow, S8.new, fun b q => ?_, fun b o q n => ?_, S8.loc, S8.lob, S8.par, S8.pz⟩
              · rw [upd_ne (fun z => by rw [z, c8] at q; cases q)]
                exact S8.cold _ _ q
              · have w := S8.sl j t q
                cases t with
                | un => trivial
                | dat d => exact w
                | hot es =>
                  obtain ⟨b, us, e3, g2, g3, g4⟩ := w
                  have np : b ≠ D := fun z => nh8 j _ q rfl (z ▸ e3)
                  exact ⟨b, us, e3, by rw [upd_ne np]; exact g2, g3, g4⟩
                | box m =>
                  obtain ⟨b, e3, ⟨x, y, z, g2, g3⟩, g4⟩ := w
                  have np : b ≠ D := fun z => nh8 j _ q rfl (z ▸ e3)
                  exact ⟨b, e3, ⟨x, y, z, by rw [upd_ne np]; exact g2, g3⟩, g4⟩
              · by_cases z : b = D
                · rw [z, upd_same]
                  exact fun z => nomatch z
                · rw [upd_ne z]
                  exact S8.dom b q
              · rw [upd_ne (fun z => by rw [z, h0D] at q; cases q)]
                exact S8.keep b o q n
        · have e : j = items1.length := by omega
          subst e
          obtain ⟨nf, z⟩ := fin1 _ _ hM
          have w5 : wipe (wipe σ vs) vs = wipe (wipe σ4 vs1) vs := w4'.trans (wipe_eq (wipe_len σ4 vs1) (fun j nj => wipe_off vs1 j nj) (subB_at sub2)).symm
          obtain ⟨S9, q9, c9, nh9⟩ := (S7'.swap nf w5).unhold h0D c0D bxD
          exact .inl ⟨stop1, C7, _, ws7, acc7, S9, sm6.trans s7, q9, c9, nh9, r7, z⟩
    · have e : k = items.length := by omega
      subst e
      obtain ⟨nf, z⟩ := fin _ _ hI
      have S3 := S2.swap (σ' := σ) nf (wipe2 vs).symm
      refine .inl ⟨stop, kk C2 H2 D acc _ S3 (s1.trans s2) ⟨⟨ws, hD2, r2⟩, cD2, h0D, fun j t q m e => ?_⟩ z⟩
      rcases wipeR_at vs j t q with ⟨_, q2⟩ | ⟨nj, q2⟩
      · rw [q2] at m
        cases m
      · exact nh2 j t q2 m (by rw [wipe_off vs j nj]; exact e)

end
section
variable {P : Program} {w : World} {K : PySem.W.Frag} {mg : Str → Option Value} {base : Heap}
local macro_rules | `(tactic| get_elem_tactic_trivial) => `(tactic| (repeat first | exact Wk.nil | exact Wk'.nil | refine Wk.same ?_ | refine Wk'.same ?_ | refine Wk.un (fun _ z => nomatch z) ?_ | refine Wk'.un ?_))
/-! t.index(x) of a module's tuple of texts; [..].index(x) -/
def rIdxT (K : PySem.W.Frag) : V → List V → Hp → VK → Prop := fun x xs H Q => ∃ p, ∃ ys : List Str, ∃ z j, x = .ref p ∧ xs = [.str z] ∧ SqT K H p (ys.map V.str) ∧ ys[j]? = some z ∧ (∀ m, m < j → ys[m]? ≠ some z) ∧ Q (.int (j : Nat)) H
class Gi (K : PySem.W.Frag) (a : Addr) (ys : outParam (List Str)) : Prop where
  sq : ∀ H : Hp, SqT K H a (ys.map V.str)
  ty : ∃ o, K.lookup a = some o ∧ o.cls = .type "tuple" ∧ o.dict = none
def wIdxT (ys : List Str) (w : WE) : WE := fun ρ Ψ => w ρ fun r ρ1 => isStr r fun z => ∃ j : Nat, (ys[j]? = some z ∧ ∀ m, m < j → ys[m]? ≠ some z) ∧ Ψ (.dat (.int (j : Nat))) ρ1
instance sd_idxT {a : Addr} {ys : List Str} {te : TE} {w : WE} [g : Gi K a ys] [b : Sd K te w] : Sd K (tBM K "tuple" (rIdxT K) (tC (.ref a)) (tCons te tNil)) (wIdxT ys w) where
  run B C H σ ρ Q Ψ S h k := by
    refine ⟨.inr (.inl ⟨rfl, g.ty⟩), b.run B C H σ ρ _ _ S h fun C1 H1 v1 r1 ρ1 S1 s1 ok1 h1 => ?_⟩
    obtain ⟨z, rfl, j, ⟨e, no⟩, h1⟩ := isStr_run ok1 h1
    exact ⟨_, ys, z, j, rfl, rfl, g.sq _, e, no, k _ _ _ (.dat _) _ S1 s1 (.int _) h1⟩
def wIdxL (wn : WN) (w : WE) : WE := fun ρ Ψ => wn ρ fun ds ρ1 => w ρ1 fun r ρ2 => isStr r fun z => ∃ (ys : List Str) (j : Nat), (ds = ys.map .str ∧ ys[j]? = some z ∧ ∀ m, m < j → ys[m]? ≠ some z) ∧ Ψ (.dat (.int (j : Nat))) ρ2
instance sd_idxL {tl te : TE} {wn : WN} {w : WE} [a : Sn K tl wn] [b : Sd K te w] : Sd K (tBM K "list" (rIndex K) tl (tCons te tNil)) (wIdxL wn w) where
  run B C H σ ρ Q Ψ S h k := a.run B C H σ ρ _ _ S h fun C1 H1 c ds ρ1 S1 s1 f h1 => by
    obtain ⟨C2, S2, s2, r2⟩ := f.cool S1
    obtain ⟨⟨vs0, hc0, _⟩, _⟩ := f
    refine ⟨.inl ⟨rfl, _, SqL.of hc0⟩, b.run B C2 H1 σ ρ1 _ _ S2 h1 fun C3 H3 v3 r3 ρ3 S3 s3 ok3 h3 => ?_⟩
    obtain ⟨z, rfl, ys, j, ⟨rfl, e, no⟩, h4⟩ := isStr_run ok3 h3
    have r4 := r2.same s3
    cases r4 with
    | @lst _ xs _ hc rl =>
      have ex : xs = ys.map V.str := txts_ok rl (txts_map ys)
      subst ex
      refine ⟨c, _, .str z, j, .str z, rfl, rfl, SqL.of (S3.cold _ _ hc), rfl, flat_strs ys, by rw [List.getElem?_map, e]; rfl, beq_self_eq_true z, fun m z' hm q => ?_, k _ _ _ (.dat _) _ S3 (s1.trans (s2.trans s3)) (.int _) h4⟩
      rw [List.getElem?_map] at q
      obtain ⟨y, ey, rfl⟩ := Option.map_eq_some_iff.mp q
      exact beq_eq_false_iff_ne.mpr fun z2 => no m hm (by rw [ey, z2])
/-! o.m(k=..) -/
def wMethKw (K : PySem.W.Frag) (C : Addr) (m : Str) (n k np : Nat) (wf : WF) (wa : WE) (wt wk : WA) : WE := fun ρ Ψ => wa ρ fun r ρ1 => match r with
  | .dat (.obj c ns ds) => (He.ga K c = C ∧ (ns.zip (List.range ns.length)).lookup m = none) ∧ wt ρ1 fun as ρ2 => wk ρ2 fun bs ρ3 => (as.length = n ∧ bs.length = k ∧ 1 + n + k = np) ∧ callW wf (.d (.obj c ns ds) :: (as ++ bs)) [] ρ3 fun r ρ4 => Ψ (.dat r.val) ρ4
  | _ => False
instance sd_methKw {Cl : Addr} {mm : Str} {n k np : Nat} {wf : WF} {E : XK} {ta : TE} {tt tk : TA} {wa : WE} {wt wk : WA} [a : Sd K ta wa] [b : Sa K tt wt] [c : Sa K tk wk] : Sd K (tMethKw Cl mm n k (spD K np wf) (fun vs zs => vs ++ zs) E ta tt tk) (wMethKw K Cl mm n k np wf wa wt wk) where
  run B C H σ ρ Q Ψ S h kk := a.run B C H σ ρ _ _ S h fun C1 H1 v1 r1 ρ1 S1 s1 ok1 h1 => by
    cases r1 with
    | hot i ds => exact False.elim h1
    | box i n => exact False.elim h1
    | dat x =>
      cases x <;> try exact False.elim h1
      rename_i c' ns ds
      obtain ⟨⟨ec, el⟩, h1⟩ := h1
      have ok0 : Rp K C1 v1 (.obj c' ns ds) := ok1
      cases ok1 with
      | @obj _ x dx _ vs _ hx hdx hl rl =>
        refine ⟨x, dx, _, rfl, by rw [← ec]; exact S1.cold _ _ hx, zip_none el (by rw [List.length_range]), ?_⟩
        refine b.run B C1 H1 σ ρ1 _ _ S1 h1 fun C2 H2 us as ρ2 S2 s2 ok2 h2 => ?_
        refine c.run B C2 H2 σ ρ2 _ _ S2 h2 fun C3 H3 zs bs ρ3 S3 s3 ok3 h3 => ?_
        obtain ⟨⟨l1, l2, l3⟩, h3⟩ := h3
        have ok2' : ArL K C3 σ us as := ArL.same s3 ok2
        have ar : ArL K C3 σ (.ref x :: (us ++ zs)) (.d (.obj c' ns ds) :: (as ++ bs)) := .cons ((ok0.same s2).same s3) (ok2'.app ok3)
        refine ⟨by rw [ok2.len]; exact l1, by rw [ok3.len]; exact l2, ?_⟩
        have key : spD K np wf ((.ref x :: (us ++ zs)) ++ []) H3 Q E := S3.calls ar RpL.nil (by rw [List.length_cons, List.length_append]; show as.length + bs.length + 1 + 0 = np; omega) h3 fun C' G v r ρ' S' s' q z => ?_
        · rw [List.append_nil] at key
          exact key
        cases r with
        | dat d => exact kk _ _ _ (.dat d) _ S' (s1.trans (s2.trans (s3.trans s'))) q z
        | new ds =>
          obtain ⟨b, rfl, f⟩ := q
          obtain ⟨C4, S4, s4, r4⟩ := f.cool S'
          exact kk _ _ _ (.dat (.lst ds)) _ S4 (s1.trans (s2.trans (s3.trans (s'.trans s4)))) r4 z

end
section
variable {P : Program} {w : World} {K : PySem.W.Frag} {mg : Str → Option Value} {base : Heap}
local macro_rules | `(tactic| get_elem_tactic_trivial) => `(tactic| (repeat first | exact Wk.nil | exact Wk'.nil | refine Wk.same ?_ | refine Wk'.same ?_ | refine Wk.un (fun _ z => nomatch z) ?_ | refine Wk'.un ?_))
/-! a call that moves the drawer alone and tells a datum without lists: lists stay changeable -/
open Classical in
open Classical in
section
variable {B : Bs} {C H : Hp} {σ : L2.St} {ρ : List Sl}
end

end
section
variable {P : Program} {w : World} {K : PySem.W.Frag} {mg : Str → Option Value} {base : Heap}
local macro_rules | `(tactic| get_elem_tactic_trivial) => `(tactic| (repeat first | exact Wk.nil | exact Wk'.nil | refine Wk.same ?_ | refine Wk'.same ?_ | refine Wk.un (fun _ z => nomatch z) ?_ | refine Wk'.un ?_))

end
section
variable {P : Program} {w : World} {K : PySem.W.Frag} {mg : Str → Option Value} {base : Heap}
local macro_rules | `(tactic| get_elem_tactic_trivial) => `(tactic| (repeat first | exact Wk.nil | exact Wk'.nil | refine Wk.same ?_ | refine Wk'.same ?_ | refine Wk.un (fun _ z => nomatch z) ?_ | refine Wk'.un ?_))
/-! errors of the program's own as values -/
theorem oexB_ok {K : PySem.W.Frag} {C : Addr} (h : oexB K C = true) : ∃ nm q N bs bm sn sub ab col dd k0 k1 k2 k3 k5, K.lookup C = some (excClassObj nm q C N bs bm true sn sub ab col dd k0 k1 k2 k3 k5 "ValueError.__new__") ∧ PySem.HandSPX.refsVE bm = true := by
  unfold oexB at h
  split at h
  · next dd cd sl lk =>
    split at h
    · next D bm k0 k1 k2 k3 n k5 hm hs =>
      obtain ⟨h1, h⟩ := He.ba h
      obtain ⟨h2, h⟩ := He.ba h
      obtain ⟨h3, h⟩ := He.ba h
      obtain ⟨h4, h5⟩ := He.ba h
      have e1 : D = C := beq_iff_eq.mp h1
      have e2 : n = "ValueError.__new__" := beq_iff_eq.mp h2
      obtain ⟨nm, bs, mro, ns, qn, hd, sn, sub, ab, col, del⟩ := cd
      dsimp only at hm h3 h4
      have e3 : del = false := by cases del <;> simp_all
      obtain ⟨l⟩ := sl
      have e4 : l = [k0, k1, k2, k3, some (.builtin n), k5] := hs
      subst e1 e2 e3 e4 hm h4
      exact ⟨nm, qn, ns, bs, bm, sn, sub, ab, col, dd, k0, k1, k2, k3, k5, lk, h5⟩
    · cases h
  · cases h
/-- what the written part says of an error's class -/
structure ECl (K : PySem.W.Frag) (C fI : Addr) : Prop where
  ox : OexC K C
  ga : PySem.W.findIn K (.ref C) "__getattribute__" = some (some (.builtin "BaseException.__getattribute__"))
  gg : PySem.W.findIn K (.ref C) "__getattr__" = some none
  hd : PySem.W.hasDictIn K C = true
  cl : PySem.W.findIn K (.ref C) "__class__" = some (some (.builtin "object.__class__"))
  sp : PySem.W.specialIn K (.builtin "object.__class__") "__get__" = some (some (.builtin "getset_descriptor.__get__"))
  tk : PySem.W.takesIn K (.builtin "object.__class__") = some true
  mo : PySem.W.mroIn K C (.type "object") = some true
  wh : PySem.W.findIn K (.ref C) "what" = some none
  ini : PySem.W.findIn K (.ref C) "__init__" = some (some (.ref fI))
  fty : PySem.W.typeIn K (.ref fI) = some (.type "function")
theorem eclB_ok {K : PySem.W.Frag} {C fI : Addr} (h : eclB K C fI = true) : ECl K C fI := by
  obtain ⟨h1, h⟩ := He.ba h
  obtain ⟨h2, h⟩ := He.ba h
  obtain ⟨h3, h⟩ := He.ba h
  obtain ⟨h4, h⟩ := He.ba h
  obtain ⟨h5, h⟩ := He.ba h
  obtain ⟨h6, h⟩ := He.ba h
  obtain ⟨h7, h⟩ := He.ba h
  obtain ⟨h8, h⟩ := He.ba h
  obtain ⟨h9, h⟩ := He.ba h
  obtain ⟨h10, h⟩ := He.ba h
  obtain ⟨h11, h⟩ := He.ba h
  obtain ⟨h12, h⟩ := He.ba h
  obtain ⟨h13, h⟩ := He.ba h
  obtain ⟨h14, h15⟩ := He.ba h
  exact ⟨⟨oexB_ok h1, He.eqO_ok h2, of_decide_eq_true h3, of_decide_eq_true h4, h5⟩, He.eqO_ok h6, He.eqO_ok h7, h8, He.eqO_ok h9, He.eqO_ok h10, of_decide_eq_true h11, of_decide_eq_true h12, He.eqO_ok h13, He.eqO_ok h14, of_decide_eq_true h15⟩
theorem err_cl {K : PySem.W.Frag} {root : Str} {cs : List Str} (h : errOk K root cs = true) {c : Str} (hc : c ∈ cs) : ECl K (He.ga K c) (He.ma K (He.ga K root) "__init__") :=
  eclB_ok (He.ba (List.all_eq_true.mp h c hc)).1
theorem err_ve {K : PySem.W.Frag} {root : Str} {cs : List Str} (h : errOk K root cs = true) {c : Str} (hc : c ∈ cs) : PySem.W.kitOne K (.ref (He.ga K c)) (.type "ValueError") = some true :=
  of_decide_eq_true (He.ba (He.ba (List.all_eq_true.mp h c hc)).2).1
theorem err_is {K : PySem.W.Frag} {root : Str} {cs : List Str} (h : errOk K root cs = true) {c e : Str} (hc : c ∈ cs) (he : e ∈ cs) : PySem.W.kitOne K (.ref (He.ga K c)) (.ref (He.ga K e)) = some (decide (e = c) || decide (e = root)) :=
  of_decide_eq_true (He.ba (List.all_eq_true.mp (He.ba (He.ba (List.all_eq_true.mp h c hc)).2).2 e he)).1
/-- an error of class c, in the clause of class e -/
theorem err_ex {K : PySem.W.Frag} {root : Str} {cs : List Str} (h : errOk K root cs = true) {c e : Str} (hc : c ∈ cs) (he : e ∈ cs) : PySem.W.exmOne K (.ref (He.ga K c)) (.ref (He.ga K e)) = some (decide (e = c) || decide (e = root)) :=
  PySem.W.exm_ref (err_cl h he).ox.exC (err_cl h he).hd (err_cl h he).ox.tyC (of_decide_eq_true (He.ba (List.all_eq_true.mp (He.ba (He.ba (List.all_eq_true.mp h c hc)).2).2 e he)).2)
end
section
variable {P : Program} {w : World} {K : PySem.W.Frag} {mg : Str → Option Value} {base : Heap}
local macro_rules | `(tactic| get_elem_tactic_trivial) => `(tactic| (repeat first | exact Wk.nil | exact Wk'.nil | refine Wk.same ?_ | refine Wk'.same ?_ | refine Wk.un (fun _ z => nomatch z) ?_ | refine Wk'.un ?_))
open PySem.W PySem.Calls PySem.HandSPX
section
variable {M : Model} {A : Around} {E : Value → Shared → Prop} {h : Heap} {g : Array GenState} {d : Drawn} {t : Nat} {os : OsState}
variable {nm q : Str} {C N : Addr} {bs bm : List Value} {hdct : Bool} {sn : List Str} {sub : List Value} {ab : Bool} {col : Option Bool} {dd : Option Addr} {k0 k1 k2 k3 k5 : Option Value}
end
section
variable {prog : Program} {w : World} {A : Around} {E : Value → Shared → Prop} {R : Result → Shared → Prop} {h : Heap} {g : Array GenState} {d : Drawn} {t : Nat} {os : OsState}
variable {nm q : Str} {C N : Addr} {bs bm : List Value} {hdct : Bool} {sn : List Str} {sub : List Value} {ab : Bool} {col : Option Bool} {dd : Option Addr} {k0 k1 k2 k3 k5 : Option Value}
end
/-! C(e) and C(what=e) as values -/
def spInitE (K : PySem.W.Frag) : Sp := fun vs H Q _ => ∃ (a C fI : Addr) (v : V), vs = [.ref a, v] ∧ H a = some (exo a C none) ∧ ECl K C fI ∧ ∀ d, H d = none → d ≠ a → Q .non (upd (upd H d (exd d [(("what" : Str), v)])) a (exo a C (some d)))
section
variable {X : Cx} {x : Str} {C fI : Addr} {k : Nat} {fd : FuncData} {p pos : Pos}
end

end
section
variable {P : Program} {w : World} {K : PySem.W.Frag} {mg : Str → Option Value} {base : Heap}
local macro_rules | `(tactic| get_elem_tactic_trivial) => `(tactic| (repeat first | exact Wk.nil | exact Wk'.nil | refine Wk.same ?_ | refine Wk'.same ?_ | refine Wk.un (fun _ z => nomatch z) ?_ | refine Wk'.un ?_))
/-! an error that is caught and kept behind its suite -/
theorem exv_ok {P : Program} {w : World} {H : Hp} {h : Heap} {a : Addr} {cls : Value} {d : Option Addr} {oe : Obj} {vs : Array Value} (e : h.get? a = some oe) (z : Zc cls d oe) (q : oe.data = .fields vs) : ObjOk P w H h a (exv a cls d) :=
  ⟨⟨oe, vs, e, z, q⟩, ⟨oe, e⟩, fun _ _ ⟨o, v, q, r⟩ k => ⟨o, v, k o q, r⟩⟩
theorem exv_at {P : Program} {w : World} {H : Hp} {h : Heap} {a : Addr} {cls : Value} {d : Option Addr} (hok : HOk P w H h) (he : H a = some (exv a cls d)) : ∃ (oe : Obj) (vs : Array Value), h.get? a = some oe ∧ Zc cls d oe ∧ oe.data = .fields vs := by
  have x : ObjOk P w H h a (.ext fun h => ∃ (oe : Obj) (vs : Array Value), h.get? a = some oe ∧ Zc cls d oe ∧ oe.data = .fields vs) := hok a _ he
  exact x.1
/-- an object that stands untracked, and that stood nowhere at the entry, is tracked from here on -/
theorem inv_track {X : Cx} {pins : List (Addr × Obj)} {σ : L2.St} {H : Hp} {s : Shared} {a : Addr} {o : HO} (I : Inv X pins σ H s) (na : H a = none) (new : ObjOk X.prog X.w (upd H a o) s.heap a o) (n0 : X.s_0.heap.get? a = none) (np : ∀ p ∈ X.pn ++ pins, p.1 ≠ a) (nL : a ≠ X.env.locals)
    (nC : ∀ x c, X.env.cells.lookup x = some c → c ≠ a) : Inv X pins σ (upd H a o) s := by
  have ne0 : ∀ b u, X.s_0.heap.get? b = some u → b ≠ a := fun b u e z => by
    rw [z, n0] at e
    cases e
  refine ⟨I.ok, I.os, I.bare, ⟨I.base.keep, I.base.slot, fun b u e n hx => ?_, I.base.there, fun b xs e => ?_, fun b u v e => ?_, fun b ps e => ?_⟩, I.loc, I.cell, ?_, fun x c e => ?_, fun p hp => ?_, fun b u e => ?_, I.len⟩
  · rw [upd_ne (ne0 b u e)]
    exact I.base.free b u e n hx
  · have q := I.base.tups b xs e
    rw [upd_ne (ne_of_none q na)]
    exact q
  · have q := I.base.frzs b u v e
    rw [upd_ne (ne_of_none q na)]
    exact q
  · obtain ⟨m, q⟩ := I.base.tbls b ps e
    exact ⟨m, by rw [upd_ne (ne_of_none q na)]; exact q⟩
  · rw [upd_ne (Ne.symm nL)]
    exact I.free
  · rw [upd_ne (nC x c e)]
    exact I.freeC x c e
  · obtain ⟨e, n, ne, nf, d⟩ := I.pin p hp
    exact ⟨e, by rw [upd_ne (np p hp)]; exact n, ne, nf, d⟩
  · by_cases hb : b = a
    · subst hb
      rw [upd_same] at e
      cases e
      exact new
    · rw [upd_ne hb] at e
      exact (I.hok b u e).stay (fun _ _ _ q => q) (fun c q => by rw [upd_ne (ne_of_none q na)]; exact q) fun c xs q => by rw [upd_ne (ne_of_none q na)]; exact q
/-- a stands nowhere at the entry, is no pin and no cell -/
structure NewAt (X : Cx) (pq : List (Addr × Obj)) (a : Addr) : Prop where
  n0 : X.s_0.heap.get? a = none
  np : ∀ p ∈ X.pn ++ pq, p.1 ≠ a
  nc : ∀ y k, X.env.cells.lookup y = some k → k ≠ a
  nl : a ≠ X.env.locals
  nf : a ∉ X.fs
theorem newAt_of {X : Cx} {pq : List (Addr × Obj)} {r : L2.St} {G : Hp} {t : Shared} {B h : Heap} {a : Addr} {Z : Obj → Prop} (hx : X.ex = []) (hs : X.stack = X.env :: X.outer) (hf : X.env.frame = some X.env.locals) (J : Inv X pq r G t)
    (gr : ∀ b o, t.heap.get? b = some o → b ∉ frs X.stack → B.get? b = some o) (fl : HandSPX.FlyingZ B (X.env :: X.outer) a Z h) : NewAt X pq a := by
  obtain ⟨oe, vs, he, _, hd⟩ := fl.there
  have out : a ∉ frs (X.env :: X.outer) := fun hm => by
    obtain ⟨_, o', e', z⟩ := fl.2.2.1.mem hm
    rw [he] at e'
    cases e'
    exact z _ hd
  have nI : t.heap.get? a = none := by
    cases e : t.heap.get? a with
    | none => rfl
    | some o =>
      have z := gr a o e (by rw [hs]; exact out)
      rw [fl.2.1] at z
      cases z
  refine ⟨?_, fun p hp z => ?_, fun y k e z => ?_, fun z => out ?_, fun hm => out ?_⟩
  · cases e : X.s_0.heap.get? a with
    | none => rfl
    | some o =>
      obtain ⟨o', z⟩ := J.base.there a o e (by rw [hx]; exact fun z => nomatch z)
      rw [nI] at z
      cases z
  · have e := (J.pin p hp).1
    rw [z, nI] at e
    cases e
  · obtain ⟨v, o, ho, _⟩ := J.cell y k e
    rw [z, nI] at ho
    cases ho
  · exact List.mem_filterMap.mpr ⟨X.env, List.mem_cons_self, by rw [hf, z]⟩
  · obtain ⟨e, he, q⟩ := List.mem_filterMap.mp hm
    exact List.mem_filterMap.mpr ⟨e, List.mem_cons_of_mem _ he, q⟩
end
section
variable {P : Program} {w : World} {K : PySem.W.Frag} {mg : Str → Option Value} {base : Heap}
local macro_rules | `(tactic| get_elem_tactic_trivial) => `(tactic| (repeat first | exact Wk.nil | exact Wk'.nil | refine Wk.same ?_ | refine Wk'.same ?_ | refine Wk.un (fun _ z => nomatch z) ?_ | refine Wk'.un ?_))
section
variable {X : Cx} {x n : Str} {c : Value} {i : Nat} {body rest : List Stmt} {b1 : Stmt} {np at1 at2 : Pos} {tb : WX → TS} {ts : Addr → Value → Option Addr → TS} {Wo : WX}
/-- what the suite is asked for, where the error at a is tracked behind it -/
def keepD (D : Ends) (i : Nat) (a : Addr) (cls : Value) (d : Option Addr) : Ends := { nx := fun r G => D.nx (r.set i none) (upd G a (exv a cls d)), rt := fun v G => D.rt v (upd G a (exv a cls d)), bk := fun r G => D.bk (r.set i none) (upd G a (exv a cls d)), ct := fun r G => D.ct (r.set i none) (upd G a (exv a cls d)) }
/-- what 'except x as n' asks of the body's error -/
def kpX (K : PySem.W.Frag) (c : Value) (i : Nat) (ts : Addr → Value → Option Addr → TS) (Wo : WX) (D : Ends) : WX := fun cls d r G =>
  ∃ b, PySem.W.exmOne K cls c = some b ∧ (b = true → ∀ a, G a = none → ts a cls d (keepD D i a cls d) (r.set i (some (.ref a))) G) ∧ (b = false → Wo cls d r G)
/-- the suite's end: the name goes, the error stays, tracked -/
theorem keep_end {pq : List (Addr × Obj)} {t : Shared} {D : Ends} {a : Addr} {oe : Obj} {vs : Array Value} {cls : Value} {d : Option Addr} {f : Flow} (ok : X.Ok) (nw : NewAt X pq a) (hz : Zc cls d oe) (hd : oe.data = .fields vs) (hN : X.N.Nodup) (hi : X.N[i]? = some n) (hl : X.env.kindOf n = some .local)
    (S : SP (X.suite a ((a, oe) :: (X.pn ++ pq))) [] (keepD D i a cls d) f t) :
    wpAny (model X.prog X.w) X.A (do bindName X.env n .none; unbindBehindTheSuite X.env n at2) (fun _ t2 => SP X pq D f t2) X.xe t := by
  have go : ∀ {r : L2.St} {G : Hp}, Inv (X.suite a ((a, oe) :: (X.pn ++ pq))) [] r G t → Inv X pq r (upd G a (exv a cls d)) t := fun {r G} S => by
    obtain ⟨e, z, _⟩ := S.pin (a, oe) (List.mem_append_left _ List.mem_cons_self)
    exact inv_track (S.unsuite ok) z (exv_ok e hz hd) nw.n0 nw.np nw.nl nw.nc
  cases f with
  | ret u =>
    obtain ⟨v, r, G, S, rv, q⟩ := S
    exact gone_ok (go S) hN hi hl fun t2 J => ⟨_, _, _, J, rv, q⟩
  | next =>
    obtain ⟨r, G, S, q⟩ := S
    exact gone_ok (go S) hN hi hl fun t2 J => ⟨_, _, J, q⟩
  | brk =>
    obtain ⟨r, G, S, q⟩ := S
    exact gone_ok (go S) hN hi hl fun t2 J => ⟨_, _, J, q⟩
  | cont =>
    obtain ⟨r, G, S, q⟩ := S
    exact gone_ok (go S) hN hi hl fun t2 J => ⟨_, _, J, q⟩
/-- the one clause, looked at by an error in the air -/
theorem keep_clause {pq : List (Addr × Obj)} {D : Ends} {a : Addr} {B : Heap} {tI t : Shared} {r : L2.St} {G : Hp} {cls : Value} {d : Option Addr} (hx : X.ex = []) (hs : X.stack = X.env :: X.outer) (hf : X.env.frame = some X.env.locals) (hN : X.N.Nodup) (hi : X.N[i]? = some n) (hl : X.env.kindOf n = some .local)
    (hc : Names X x c) (tk : Takes X Wo) (hsu : ∀ (a : Addr) (oe : Obj) (cls : Value) (d : Option Addr) (pn : List (Addr × Obj)), Zc cls d oe → (∃ vs, oe.data = .fields vs) → PSs (X.suite a ((a, oe) :: pn)) (b1 :: rest) (ts a cls d))
    (J : Inv X pq r G tI) (gr : ∀ b o, tI.heap.get? b = some o → b ∉ frs X.stack → B.get? b = some o) (up : tI.heap.UpToSlots t.heap) (fl : HandSPX.FlyingZ B (X.env :: X.outer) a (Zc cls d) t.heap) (na : G a = none) (os : t.os = tI.os) (ag : AllBare t.gens) (wk : kpX X.K c i ts Wo D cls d r G) :
    wpAny (model X.prog X.w) X.A (handleBy (.ref a) X.env [.ExceptHandler (some (.Name x np)) (some n) (b1 :: rest) at2]) (SP X pq D) X.xe t := by
  obtain ⟨b, is, yes, no⟩ := wk
  have nw := newAt_of hx hs hf J gr fl
  have I1 : Inv X pq r G t := J.landed gr fl.1 up os ag
  obtain ⟨o1, v1, h1, z1, d1⟩ := fl.there
  have S1 := I1.suite h1 d1 na nw.nl nw.nf
  refine wpAny_handleBy_cons (codeAny_handlers_test ?_) (fun q => nomatch q)
  have lt : PySem.W.Looks (model X.prog X.w) t.heap (typeOf (.ref a)) cls := fun _ _ _ _ k q => wpAny_typeOf_ref (k _ _ h1) (by rw [z1.1]; exact q)
  have lm := PySem.W.exm_one (M := model X.prog X.w) I1.kIn lt is
  have named : ∀ {Q : Value → Shared → Prop} {F : Value → Shared → Prop}, Q c t → wpAny (model X.prog X.w) (X.A.mark (some (.ref a))) (eval (.Name x np) X.env) Q F t := fun {Q F} q => by
    obtain ⟨g, db, m | ⟨m, bv, nn⟩⟩ := hc
    · exact ld_glob (X := X.suite a ((a, o1) :: (X.pn ++ pq))) S1 g m q db
    · exact ld_blt (X := X.suite a ((a, o1) :: (X.pn ++ pq))) S1 g m bv q nn db
  refine named (lm.here ?_)
  cases b with
  | true =>
    refine codeAny_handlers_suite_as (HandSPX.lands_againZ fl fun h2 fl2 up2 => ?_)
    have I2 : Inv X pq r G { t with heap := h2 } := J.landed gr fl2.1 (up.trans up2) os ag
    obtain ⟨o2, v2, e2, z2, d2⟩ := fl2.there
    refine store_ok (X := X.suite a ((a, o2) :: (X.pn ++ pq))) (v := .ref a) (I2.suite e2 d2 na nw.nl nw.nf) hN hi (.inl hl) rfl (fun t3 S3 => ?_) (.inr hl)
    exact wpAny_mono ((hsu a o2 cls d (X.pn ++ pq) z2 ⟨_, d2⟩).run [] t3 _ G _ S3 (yes rfl a na)) (fun f t4 sp => keep_end J.ok nw z2 d2 hN hi hl sp) fun _ _ z => z.elim
  | false =>
    show wpAny _ X.A (handleBy (.ref a) X.env []) _ _ _
    refine wpAny_handleBy_nil ?_
    obtain ⟨oe, vs, T, oT, tt, he, hz, hd, hT, _⟩ := fl.2.2.2
    unfold PySem.passOn
    refine wpAny_bind (wpAny_field he hd hT ?_)
    rw [if_neg (show ¬ ((Value.ref T == Value.none) = true) from by simp)]
    have fin : wpAny (model X.prog X.w) X.A (setFlight (.ref a) X.env.frame) (fun _ t4 => wpAny (model X.prog X.w) X.A (throw (.ref a) : Sem Flow) (SP X pq D) X.xe t4) X.xe t := by
      rw [hf]
      exact HandSPX.setFlight_upZ fl fun h4 hh up4 => wpAny_throw (tk _ _ ⟨a, B, tI, pq, r, G, cls, d, rfl, J, gr, up.trans up4, .inr (.inr (by rw [hs]; exact hh)), na, os, ag, no rfl⟩)
    first
      | exact wpAny_bind (wpAny_pure (wpAny_bind fin))
      | exact wpAny_bind fin
/-- try: body / except x as n: suite, where the suite may keep the error: it is tracked behind it -/
theorem ps_try_keep (hx : X.ex = []) (hs : X.stack = X.env :: X.outer) (hf : X.env.frame = some X.env.locals) (hN : X.N.Nodup) (hi : X.N[i]? = some n) (hl : X.env.kindOf n = some .local) (hc : Names X x c) (tk : Takes X Wo)
    (hb : ∀ (W : WX) (pn : List (Addr × Obj)) (xe : Value → Shared → Prop), Takes (X.tr pn xe) W → PassesOwn (model X.prog X.w) X.A X.env xe → PSs (X.tr pn xe) body (tb W))
    (hsu : ∀ (a : Addr) (oe : Obj) (cls : Value) (d : Option Addr) (pn : List (Addr × Obj)), Zc cls d oe → (∃ vs, oe.data = .fields vs) → PSs (X.suite a ((a, oe) :: pn)) (b1 :: rest) (ts a cls d)) :
    PS X (.Try body [.ExceptHandler (some (.Name x np)) (some n) (b1 :: rest) at2] [] [] at1) (fun D r G => tb (kpX X.K c i ts Wo D) D r G) := by
  refine ⟨fun pq s r G D I h => wpAny_Try_except ?_⟩
  have fr : X.A.frames = some (X.env :: X.outer) := by rw [I.ok.frames, hs]
  refine wpAny_mono ((hb (kpX X.K c i ts Wo D) (X.pn ++ pq) (fun e t1 => wpAny (model X.prog X.w) X.A (noteFrame e X.env) (fun _ t2 => wpAny (model X.prog X.w) X.A (setFlight e none) (fun _ t3 =>
    wpAny (model X.prog X.w) X.A (handleBy e X.env [.ExceptHandler (some (.Name x np)) (some n) (b1 :: rest) at2]) (SP X pq D) X.xe t3) X.xe t2) X.xe t1) (fun u t z => ?_) PassesOwn.looking).run [] s r G D (I.toTry _) h) (fun f t z => ?_) (fun _ _ z => z)
  · obtain ⟨a, B, tI, _, r', G', cls, d, rfl, J, gr, up, sky, na, os, ag, wk⟩ := z
    refine Sky.land Zc.steady fr hf (by rw [← hs]; exact sky) fun h3 fl up3 => ?_
    exact keep_clause (t := { t with heap := h3 }) hx hs hf hN hi hl hc tk hsu (J.ofTry I.ok) gr (up.trans up3) fl na os ag wk
  · cases f with
    | ret u =>
      obtain ⟨v, r', G', J, rv, q⟩ := z
      exact ⟨v, r', G', J.ofTry I.ok, rv, q⟩
    | next =>
      obtain ⟨r', G', J, q⟩ := z
      exact wpAny_execs_nil ⟨r', G', J.ofTry I.ok, q⟩
    | brk =>
      obtain ⟨r', G', J, q⟩ := z
      exact ⟨r', G', J.ofTry I.ok, q⟩
    | cont =>
      obtain ⟨r', G', J, q⟩ := z
      exact ⟨r', G', J.ofTry I.ok, q⟩
end
end
section
variable {P : Program} {w : World} {K : PySem.W.Frag} {mg : Str → Option Value} {base : Heap}
local macro_rules | `(tactic| get_elem_tactic_trivial) => `(tactic| (repeat first | exact Wk.nil | exact Wk'.nil | refine Wk.same ?_ | refine Wk'.same ?_ | refine Wk.un (fun _ z => nomatch z) ?_ | refine Wk'.un ?_))
/-- a caught error of the class at C at a; it bears v -/
def Caught (H : Hp) (a C : Addr) (v : V) : Prop := ∃ d fs, H a = some (exv a (.ref C) (some d)) ∧ H d = some (.xd fs) ∧ fs.lookup ("what" : Str) = some v
theorem inst_caught {X : Cx} {pins : List (Addr × Obj)} {σ : L2.St} {H : Hp} {s : Shared} {a C : Addr} {v : V} (I : Inv X pins σ H s) (e : Caught H a C v) :
    ∃ oe od u, PySem.W.InstAt s.heap a oe C (some od) ∧ PySem.W.lookIn "what" od = some (some u) ∧ RelV v u := by
  obtain ⟨d, fs, h1, h2, h3⟩ := e
  obtain ⟨oe, vs, q1, z, q2⟩ := exv_at I.hok h1
  obtain ⟨mA, hn, hr⟩ : ObjOk X.prog X.w H s.heap d (.xd fs) := I.hok d _ h2
  obtain ⟨od, ho, hl⟩ := lookIn_ns hn
  obtain ⟨u, hu, ru⟩ := RelO.some_of (v := v) (o := mA "what") (by rw [← h3]; exact hr "what")
  exact ⟨oe, od, u, ⟨q1, z.1, by unfold PySem.W.notCls; rw [q2] <;> rfl, by rw [z.2]; exact ho⟩, by rw [hl, hu], ru⟩
/-- isinstance(e, c) of a caught one -/
def rIsC (K : PySem.W.Frag) : List V → Hp → VK → Prop := fun xs H Q => ∃ (a D fI : Addr) (w c : V) (u : Value) (b : Bool), xs = [.ref a, c] ∧ ClsV c u ∧ Caught H a D w ∧ ECl K D fI ∧ PySem.W.kitOne K (.ref D) u = some b ∧ Q (.bl b) H
theorem call_isC {X : Cx} : CallR X (.builtin "isinstance") (rIsC X.K) := by
  intro pins s σ H xs us Q I r h
  obtain ⟨a, D, fI, w, c, u, b, rfl, hc, he, T, hk, q⟩ := h
  obtain ⟨u1, u2, rfl, r1, r2⟩ := vals2 r
  obtain rfl : u1 = Value.ref a := r1
  have e2 := hc.eq r2
  subst e2
  obtain ⟨oe, od, z, J, _, _⟩ := inst_caught I he
  have hcl : (PySem.W.clsIn X.K D).isSome = true := by
    have := T.hd
    unfold PySem.W.hasDictIn at this
    cases e : PySem.W.clsIn X.K D with
    | none => rw [e] at this; cases this
    | some _ => rfl
  exact PySem.W.kia_one (PySem.W.kitx_exc (od := some od) hcl T.ga T.gg T.ox.exC T.cl T.sp T.tk T.mo) I.kIn J hk (fun z => nomatch z) fun tk => ⟨.bl b, H, I.tok tk, rfl, q⟩
/-- e.what of a caught one -/
def tWhatC (K : PySem.W.Frag) (te : TE) : TE := fun σ H Q => te σ H fun x H1 => ∃ (a D fI : Addr) (v : V), x = .ref a ∧ Caught H1 a D v ∧ ECl K D fI ∧ Q v H1
theorem pe_whatC {X : Cx} {e : Expr} {te : TE} {pos : Pos} (he : PE X e te) (hb : attributeBase e "what" X.env (eval e X.env) = eval e X.env := by rfl) : PE X (.Attribute e "what" pos) (tWhatC X.K te) := by
  refine ⟨fun pins s σ H Q I h => ?_⟩
  refine attr_of hb (thn (he.run pins s σ H _ I h) fun u s1 hh => ?_)
  obtain ⟨x, H1, I1, rx, a, D, fI, v, ex, er, T, q⟩ := hh
  subst ex
  obtain rfl : u = Value.ref a := rx
  obtain ⟨oe, od, z, J, hl, rz⟩ := inst_caught I1 er
  exact HandSPX.exc_get I1.kIn J T.ga T.gg T.ox.exC (PySem.W.findObj_own T.hd T.wh rfl hl) (handed_of rz) ⟨v, H1, I1.tok _, rz, q⟩

end
section
variable {P : Program} {w : World} {K : PySem.W.Frag} {mg : Str → Option Value} {base : Heap}
local macro_rules | `(tactic| get_elem_tactic_trivial) => `(tactic| (repeat first | exact Wk.nil | exact Wk'.nil | refine Wk.same ?_ | refine Wk'.same ?_ | refine Wk.un (fun _ z => nomatch z) ?_ | refine Wk'.un ?_))
/-! an own error made to be raised, its context none: what a suite that raises anew asks of the body's errors -/
section
variable {X : Cx} {x : Str} {C fI : Addr} {k : Nat} {fd : FuncData} {p pos : Pos}
end
end
section
variable {P : Program} {w : World} {K : PySem.W.Frag} {mg : Str → Option Value} {base : Heap}
local macro_rules | `(tactic| get_elem_tactic_trivial) => `(tactic| (repeat first | exact Wk.nil | exact Wk'.nil | refine Wk.same ?_ | refine Wk'.same ?_ | refine Wk.un (fun _ z => nomatch z) ?_ | refine Wk'.un ?_))

end
section
variable {P : Program} {w : World} {K : PySem.W.Frag} {mg : Str → Option Value} {base : Heap}
local macro_rules | `(tactic| get_elem_tactic_trivial) => `(tactic| (repeat first | exact Wk.nil | exact Wk'.nil | refine Wk.same ?_ | refine Wk'.same ?_ | refine Wk.un (fun _ z => nomatch z) ?_ | refine Wk'.un ?_))
/-! defs that raise, over data -/
def ExAt (K : PySem.W.Frag) (C : Hp) (cls : Value) (dd : Option Addr) (c : Str) (d : Dt) : Prop := cls = .ref (He.ga K c) ∧ ∃ (a : Addr) (v : V), dd = some a ∧ C a = some (.xd [(("what" : Str), v)]) ∧ Rp K C v d
abbrev XE' := Str → Dt → List Sl → Prop
/-- what is asked of an error that leaves -/
def MeetsX (K : PySem.W.Frag) (B : Bs) (Ξ : XE') (W : WX) : Prop := ∀ (C' G : Hp) (σ : L2.St) (ρ : List Sl) (cls : Value) (dd : Option Addr) (c : Str) (d : Dt), Sep K B C' G σ ρ → ExAt K C' cls dd c d → Ξ c d ρ → W cls dd σ G
abbrev WEX := List Sl → (Rs → List Sl → Prop) → XE' → Prop
abbrev WNX := List Sl → (List Dt → List Sl → Prop) → XE' → Prop
abbrev WSX := List Sl → Fs → XE' → Prop
class Xd (K : PySem.W.Frag) (W : WX) (t : TE) (w : outParam WEX) : Prop where
  run : ∀ (B : Bs) (C H : Hp) (σ : L2.St) (ρ : List Sl) (Q : VK) (Ψ : Rs → List Sl → Prop) (Ξ : XE'), Sep K B C H σ ρ → w ρ Ψ Ξ → (∀ C' G v r ρ', Sep K B C' G σ ρ' → Same C C' → RsOk K C' σ ρ' v r → Ψ r ρ' → Q v G) → MeetsX K B Ξ W → t σ H Q
class Xn (K : PySem.W.Frag) (W : WX) (t : TE) (w : outParam WNX) : Prop where
  run : ∀ (B : Bs) (C H : Hp) (σ : L2.St) (ρ : List Sl) (Q : VK) (Ψ : List Dt → List Sl → Prop) (Ξ : XE'), Sep K B C H σ ρ → w ρ Ψ Ξ → (∀ C' G a ds ρ', Sep K B C' G σ ρ' → Same C C' → Fr K B C' G σ ρ' a ds → Ψ ds ρ' → Q (.ref a) G) → MeetsX K B Ξ W → t σ H Q
class Xs (K : PySem.W.Frag) (W : WX) (t : TS) (w : outParam WSX) : Prop where
  run : ∀ (B : Bs) (C H : Hp) (σ : L2.St) (ρ : List Sl) (D : Ends) (Φ : Fs) (Ξ : XE'), Sep K B C H σ ρ → w ρ Φ Ξ → Meets K B Φ D → MeetsX K B Ξ W → t D σ H
instance (priority := 100) xd_sd {W : WX} {t : TE} {w : WE} [a : Sd K t w] : Xd K W t (fun ρ Ψ _ => w ρ Ψ) where
  run B C H σ ρ Q Ψ Ξ S h k m := a.run B C H σ ρ Q Ψ S h k
instance (priority := 100) xn_sn {W : WX} {t : TE} {w : WN} [a : Sn K t w] : Xn K W t (fun ρ Ψ _ => w ρ Ψ) where
  run B C H σ ρ Q Ψ Ξ S h k m := a.run B C H σ ρ Q Ψ S h k
instance (priority := 100) xs_ss {W : WX} {t : TS} {w : WS} [a : Ss K t w] : Xs K W t (fun ρ Φ _ => w ρ Φ) where
  run B C H σ ρ D Φ Ξ S h m mx := a.run B C H σ ρ D Φ S h m
def wIfX (wc : WT) (wt wu : WSX) : WSX := fun ρ Φ Ξ => wc ρ fun b ρ1 => if b = true then wt ρ1 Φ Ξ else wu ρ1 Φ Ξ
instance xs_if {W : WX} {tc : TT} {t u : TS} {wc : WT} {wt wu : WSX} [c : Sc K tc wc] [a : Xs K W t wt] [b : Xs K W u wu] : Xs K W (tIfS tc t u) (wIfX wc wt wu) where
  run B C H σ ρ D Φ Ξ S h m mx := c.run B C H σ ρ _ _ S h fun C1 H1 e ρ1 S1 s1 h1 => by
    cases e with
    | true => exact a.run B C1 H1 σ ρ1 _ _ Ξ S1 h1 m mx
    | false => exact b.run B C1 H1 σ ρ1 _ _ Ξ S1 h1 m mx
def wAsgX (w : WEX) (wg : WG) : WSX := fun ρ Φ Ξ => w ρ (fun r ρ1 => store r ρ1 fun a ρ2 => isD a fun x => wg x ρ2 Φ.nx) Ξ
instance (priority := 900) xs_asg {W : WX} {te : TE} {g : TG} {w : WEX} {wg : WG} [a : Xd K W te w] [b : Sg K g wg] : Xs K W (tAsg te g) (wAsgX w wg) where
  run B C H σ ρ D Φ Ξ S h m mx := a.run B C H σ ρ _ _ Ξ S h (fun C1 H1 v1 r1 ρ1 S1 s1 ok1 h1 => by
    obtain ⟨C2, x, ρ2, S2, s2, ok2, h2⟩ := S1.stored ok1 h1
    obtain ⟨d, rd, h3⟩ := isD_run ok2 h2
    exact b.run B C2 H1 σ ρ2 _ _ _ _ S2 rd h3 fun σ' ρ' S' z => m.nx _ _ _ _ S' z) mx
def wAsgNX (i : Nat) (w : WNX) : WSX := fun ρ Φ Ξ => w ρ (fun ds ρ1 => put i (.hot ds) ρ1 Φ.nx) Ξ
instance xs_asgN {W : WX} {te : TE} {i : Nat} {w : WNX} [a : Xn K W te w] : Xs K W (tAsg te (gName i)) (wAsgNX i w) where
  run B C H σ ρ D Φ Ξ S h m mx := a.run B C H σ ρ _ _ Ξ S h (fun C1 H1 a ds ρ1 S1 s1 f z => by
    obtain ⟨h1, h2⟩ := put_run z
    obtain ⟨⟨vs, ha, r⟩, ca, h0, nh⟩ := f
    exact m.nx _ _ _ _ (S1.put (x := some (.ref a)) (s := .hot ds) h1 (fun _ => ⟨a, vs, rfl, ha, r, ca⟩) fun _ b e => by cases e; exact ⟨fun j t _ => nh j t, h0⟩) h2) mx
instance (priority := 1000) xs_retS {W : WX} {te : TE} {w : WE} [a : Sd K te w] : Xs K W (tRet te) (fun ρ Φ _ => wRet w ρ Φ) where
  run B C H σ ρ D Φ Ξ S h m mx := (ss_ret (te := te) (w := w)).run B C H σ ρ D Φ S h m
/-- the base grown within a loop -/
theorem sep_back {B : Bs} {C3 C5 H5 : Hp} {σ5 : L2.St} {ρ5 : List Sl} (gr : Same B.C0 C3) (nw : ∀ a o, C3 a = some o → B.C0 a = none → B.H0 a = none) (z : Sep K ⟨C3, B.H0, B.bx⟩ C5 H5 σ5 ρ5) : Sep K B C5 H5 σ5 ρ5 ∧ Same C3 C5 :=
  ⟨⟨z.cold, z.len, z.sl, z.ne, gr.trans z.grow, fun a o e n => (match q : C3 a with
      | none => z.new a o e q
      | some u => nw a u q n), z.dom, z.keep, z.loc, z.lob, z.par, z.pz⟩, z.grow⟩
theorem Sep.rebase {B : Bs} {C H : Hp} {σ : L2.St} {ρ : List Sl} (S : Sep K B C H σ ρ) : Sep K ⟨C, B.H0, B.bx⟩ C H σ ρ :=
  ⟨S.cold, S.len, S.sl, S.ne, Same.refl _, fun a o e n => (by rw [show C a = none from n] at e; cases e), S.dom, S.keep, S.loc, S.lob, S.par, S.pz⟩
/-! raising calls -/
section
variable {B : Bs} {C H : Hp} {σ : L2.St} {ρ : List Sl}
end
def tCallNS (n m : Nat) (sp : Sp) (gV : List V → List V → List V) (E : L2.St → XK) (t tk : TA) : TE := fun σ H Q => t σ H fun vs H1 => tk σ H1 fun zs H2 => vs.length = n ∧ zs.length = m ∧ sp (gV vs zs) H2 Q (E σ)
section
variable {X : Cx} {CX : CXT} {k n : Nat} {f : Addr} {fd : FuncData} {ps ks : List Str} {sp : Sp} {E : L2.St → XK} {x : Str} {p pos : Pos} {e : Expr} {es : List Expr} {kws : List Keyword} {t tk : TA} {g : List Value → List Value → List Value} {gV : List V → List V → List V}
theorem run_fnNS {pins : List (Addr × Obj)} {σ : L2.St} {H : Hp} {s : Shared} {Q : VK} {us ws : List Value} {vs zs : List V} (F : FnOk X.prog X.w X.K X.mg X.base CX k f fd ps sp) (hr : Room k X.A) (hb : KBn X.K fd ps n ks g gV) (hx : PassesAt CX X σ (E σ))
    (I : Inv X pins σ H s) (r : Vals vs us) (rz : Vals zs ws) (l1 : vs.length = n) (l2 : zs.length = ks.length) (h : sp (gV vs zs) H Q (E σ)) : wpAny (model X.prog X.w) X.A (call (.ref f) us (ks.zip ws)) (EP X pins σ Q) X.xe s := by
  have r2 := hb.rel r rz
  refine wpAny_call (codeAny_mono (F.run X.A X.stack s H ⟨us, ks.zip ws⟩ (g us ws) (gV vs zs) Q (E σ) hr I.env0 (hb.to s us ws I.kIn (r.length.symm.trans l1) (rz.length.symm.trans l2)) r2 h) fun r s' hq => ?_)
  cases r with
  | error e => exact hx pins H s e s' I hq
  | ok fl =>
    cases fl with
    | ret u => exact I.after hq
    | next => exact False.elim hq
    | brk => exact False.elim hq
    | cont => exact False.elim hq
theorem pe_callNS (F : FnOk X.prog X.w X.K X.mg X.base CX k f fd ps sp) (hr : Room k X.A) (hg : Gl X x) (hm : X.mg x = some (.ref f)) (hk : PySem.W.keepIn X.K (.ref f) = true) (hb : KBn X.K fd ps n ks g gV) (hx : ∀ σ, PassesAt CX X σ (E σ))
    (ha : PA X (e :: es) t) (hkw : PK X kws tk) (hall : (backToKw pos (keywordEach kws X.env)).all (·.1.isSome) = true := by rfl) (hks : (backToKw pos (keywordEach kws X.env)).filterMap (·.1) = ks := by rfl)
    (hdb : (x == ("__debug__" : Str)) = false := by decide) (he : starEach (e :: es) X.env = (false, eval e X.env) :: starEach es X.env := by rfl)
    (hpl : ((backTo pos (starEach (e :: es) X.env)).any (·.1) || (backToKw pos (keywordEach kws X.env)).any (·.1.isNone)) = false := by rfl) :
    PE X (.Call (.Name x p) (e :: es) kws pos) (tCallNS n ks.length sp gV E t tk) := by
  refine ⟨fun pins s σ H Q I h => ?_⟩
  refine wpAny_Call_Name_kw (ld_glob I hg hm ?_ hdb)
  refine PySem.W.callWith_KW (h₀ := X.base) I.ok.mod.kin hk hall (thn (ha.run pos pins s σ H _ I h) fun us s1 ⟨vs, H1, I1, r, q⟩ => ?_) hpl he
  refine thn (hkw.run pos pins s1 σ H1 _ I1 q) fun ws s2 ⟨zs, H2, I2, rz, l1, l2, q2⟩ => ⟨I2.kIn, ?_⟩
  rw [hks]
  exact run_fnNS F hr hb (hx σ) I2 r rz l1 l2 q2
end
end
section
variable {P : Program} {w : World} {K : PySem.W.Frag} {mg : Str → Option Value} {base : Heap}
local macro_rules | `(tactic| get_elem_tactic_trivial) => `(tactic| (repeat first | exact Wk.nil | exact Wk'.nil | refine Wk.same ?_ | refine Wk'.same ?_ | refine Wk.un (fun _ z => nomatch z) ?_ | refine Wk'.un ?_))
section
variable {B : Bs} {C H : Hp} {σ : L2.St} {ρ : List Sl}
end
/-! the same where it doesn't raise -/
/-! new lists of raising calls stay changeable -/
end
section
variable {P : Program} {w : World} {K : PySem.W.Frag} {mg : Str → Option Value} {base : Heap}
local macro_rules | `(tactic| get_elem_tactic_trivial) => `(tactic| (repeat first | exact Wk.nil | exact Wk'.nil | refine Wk.same ?_ | refine Wk'.same ?_ | refine Wk.un (fun _ z => nomatch z) ?_ | refine Wk'.un ?_))
/-! raise C(e) -/
def tRaiseD (C : Addr) (ta : TA) (W : WX) : TS := fun _ σ H => ta σ H fun vs H1 => ∃ v, vs = [v] ∧ ∀ d : Addr, H1 d = none → W (.ref C) (some d) σ (upd H1 d (.xd [(("what" : Str), v)]))
theorem err_letD {H1 : Hp} {a C d : Addr} {v : V} (ha : H1 a = none) (hd : (upd H1 a (exo a C none)) d = none) (ne : d ≠ a) :
    H1 d = none ∧ upd (del (upd (upd (upd H1 a (exo a C none)) d (exd d [(("what" : Str), v)])) a (exo a C (some d))) a) d (.xd [(("what" : Str), v)]) = upd H1 d (.xd [(("what" : Str), v)]) := by
  rw [upd_ne ne] at hd
  refine ⟨hd, funext fun b => ?_⟩
  by_cases h1 : b = d
  · rw [h1, upd_same, upd_same]
  · rw [upd_ne h1, upd_ne h1]
    by_cases h2 : b = a
    · rw [h2, del_same, ha]
    · rw [del_ne h2, upd_ne h2, upd_ne h1, upd_ne h2]
section
variable {X : Cx} {x : Str} {C fI : Addr} {k : Nat} {fd : FuncData} {p pos : Pos}
def tMkD (C : Addr) (ta : TA) : L2.St → Hp → XK → Prop := fun σ H Q => ta σ H fun vs H1 => ∃ v, vs = [v] ∧ ∀ d : Addr, H1 d = none → Q (.ref C) (some d) (upd H1 d (.xd [(("what" : Str), v)]))
theorem pmk_errD {e : Expr} {ta : TA} (T : ECl X.K C fI) (F1 : FnOk X.prog X.w X.K X.mg X.base CX0 k fI fd ["self", "what"] (spInitE X.K)) (hr : Room (k + 1) X.A) (hb : Binds X.K fd ["self", "what"] []) (hg : Gl X x) (hm : X.mg x = some (.ref C)) (ha : PA X [e] ta)
    (h1 : (x == ("__debug__" : Str)) = false := by decide) (h2 : starEach [e] X.env = (false, eval e X.env) :: starEach [] X.env := by rfl) (h3 : (backTo pos (starEach [] X.env)).any (·.1) = false := by rfl) :
    L2N.PMk X (.Call (.Name x p) [e] [] pos) (tMkD C ta) := by
  intro pins s σ H Q I h
  obtain ⟨nm, q, N, bs, bm, sn, sub, ab, col, dd, k0, k1, k2, k3, k5, hC, hbm⟩ := T.ox.cls
  refine wpAny_Call_Name_kw (ld_glob I hg hm ?_ h1)
  refine PySem.W.callWith_K (h₀ := X.base) I.ok.mod.kin T.ox.kC (thn (ha.run pos pins s σ H _ I h) fun us s1 ⟨vs, H1, I1, r1, v, ev, q1⟩ => ⟨I1.kIn, ?_⟩) h2 h3
  subst ev
  obtain ⟨u, rfl, ru⟩ := vals1 r1
  show wpAny _ _ (call (.ref C) [u]) _ _ _
  obtain ⟨hp, g, dr, tk, os⟩ := s1
  have hn : H1 (hp.objs.size + 1) = none := I1.hok.fresh (Nat.le_succ _)
  have grow : ∀ b o, hp.get? b = some o → ((hp.push (PySem.W.kdv_tup [u])).push (HandSPX.excO C hp.objs.size)).get? b = some o := fun b o e => Heap.get?_push_of_some _ (Heap.get?_push_of_some _ e)
  have new : ((hp.push (PySem.W.kdv_tup [u])).push (HandSPX.excO C hp.objs.size)).get? (hp.objs.size + 1) = some (HandSPX.excO C hp.objs.size) := by heap_get
  have I2 : Inv X pins σ (upd H1 (hp.objs.size + 1) (exo (hp.objs.size + 1) C none)) ⟨(hp.push (PySem.W.kdv_tup [u])).push (HandSPX.excO C hp.objs.size), g, dr, tk, os⟩ := I1.laid (t' := tk) grow (Nat.le_succ _) (exo_ok new)
  have r2 : Vals [V.ref (hp.objs.size + 1), v] [Value.ref (hp.objs.size + 1), u] := .cons rfl (.cons ru .nil)
  refine wpAny_call (HandSPX.call_own F.excBase_ValueError (fun Y => HandSPX.refsVE_contains Y bm hbm) (I1.kIn _ _ hC) (PySem.W.looks_findIn I1.kIn T.ini) (fun self => PySem.W.bind_fn I1.kIn self T.fty) (by rw [sizeLine_eq]; show 1 ≤ 16777216; decide)
    (codeAny_mono (F1.run _ X.stack _ _ ⟨[Value.ref (hp.objs.size + 1), u], []⟩ [Value.ref (hp.objs.size + 1), u] _
      (fun w' G => w' = .non ∧ ∃ d : Addr, G (hp.objs.size + 1) = some (exo (hp.objs.size + 1) C (some d)) ∧ G d = some (exd d [(("what" : Str), v)]) ∧ H1 d = none ∧ Q (.ref C) (some d) (upd (del G (hp.objs.size + 1)) d (.xd [(("what" : Str), v)])))
      (fun _ _ _ => False) (hr.make C [u] []) (I2.env0.make C [u] []) (hb _ _ I2.kIn rfl) r2 ⟨_, C, fI, v, rfl, upd_same, T, fun d hd ne => ⟨rfl, d, upd_same, ?_, ?_⟩⟩) fun r s' hq' => ?_))
  · rw [upd_ne ne, upd_same]
  · obtain ⟨a1, a2⟩ := err_letD (C := C) (v := v) hn hd ne
    refine ⟨a1, ?_⟩
    rw [a2]
    exact q1 d a1
  · cases r with
    | error er => exact hq'.elim
    | ok fl =>
      cases fl with
      | ret w' =>
        obtain ⟨v2, H2, o2, b2, un2, ok2, rv, ev, d, ea, ed, hd1, q2⟩ := hq'
        subst ev
        obtain ⟨h2, g2, d2, t2, os'⟩ := s'
        obtain ⟨t0, G, J, kG, ge, hoe, na⟩ := mk_end0 (d2 := d2) (t2 := t2) I1 (Nat.le_succ _) grow un2 ok2 o2 b2 ea ed hd1
        exact ⟨rv, hp.objs.size + 1, _, _, ⟨G, g2, d2, t2, os'⟩, _, .ref C, some d, rfl, J, kG, ge, hoe, ⟨rfl, rfl, fun ws hv => by cases hv; rfl⟩, rfl, rfl, na, rfl, b2, raises_own T.ox.exC T.ox.tyC, q2⟩
      | next => exact hq'.elim
      | brk => exact hq'.elim
      | cont => exact hq'.elim
theorem ps_raiseD {W : WX} {e : Expr} {ta : TA} {pos : Pos} (hc : X.calm = true) (tk : L2N.Takes X W) (he : L2N.PMk X e (tMkD C ta)) : PS X (.Raise (some e) none pos) (tRaiseD C ta W) := L2N.ps_raise hc tk he
end
def wRaise (K : PySem.W.Frag) (C : Addr) (wa : WA) : WSX := fun ρ Φ Ξ => wa ρ fun as ρ1 => match as with
  | [.d d] => ∃ c : Str, C = He.ga K c ∧ Ξ c d ρ1
  | _ => False
instance xs_raise {W : WX} {Cl : Addr} {ta : TA} {wa : WA} [a : Sa K ta wa] : Xs K W (tRaiseD Cl ta W) (wRaise K Cl wa) where
  run B C H σ ρ D Φ Ξ S h m mx := a.run B C H σ ρ _ _ S h fun C1 H1 vs as ρ1 S1 s1 ok1 h1 => by
    cases ok1 with
    | nil => exact False.elim h1
    | @cons v vs x as o1 o2 =>
      cases x with
      | b i => cases as <;> exact False.elim h1
      | d x =>
        cases o2 with
        | cons _ _ => exact False.elim h1
        | nil =>
          obtain ⟨c, rfl, z⟩ := h1
          refine ⟨v, rfl, fun dd hd => ?_⟩
          have cd : C1 dd = none := S1.cold.free hd
          exact mx _ _ _ _ _ _ _ _ (S1.alloc (o := .xd [(("what" : Str), v)]) hd) ⟨rfl, dd, v, rfl, upd_same, Rp.same o1 (same_new cd)⟩ z
/-! a def's body that may raise -/
end
section
variable {P : Program} {w : World} {K : PySem.W.Frag} {mg : Str → Option Value} {base : Heap}
local macro_rules | `(tactic| get_elem_tactic_trivial) => `(tactic| (repeat first | exact Wk.nil | exact Wk'.nil | refine Wk.same ?_ | refine Wk'.same ?_ | refine Wk.un (fun _ z => nomatch z) ?_ | refine Wk'.un ?_))
/-! a def whose errors' contexts are none is one that raises -/
theorem FnOk.nl {k : Nat} {f : Addr} {fd : FuncData} {ps : List Str} {sp : Sp} (F : FnOk P w K mg base (L2N.CX P w) k f fd ps sp) : FnOk P w K mg base (L2.CX P w) k f fd ps sp := by
  refine ⟨F.len, fun A outer s H args us vs Q E hr h0 b r h => codeAny_mono (F.run A outer s H args us vs Q E hr h0 b r h) fun r s' q => ?_⟩
  cases r with
  | ok fl => cases fl <;> exact q
  | error e =>
    obtain ⟨a, B, H', cls, d, e1, fl, rest⟩ := q
    exact ⟨a, B, H', cls, d, e1, ⟨fl.1, fl.2.1, fl.2.2.1, by obtain ⟨oe, vs, T, oT, tt, he, hz, r2⟩ := fl.2.2.2; exact ⟨oe, vs, T, oT, tt, he, hz.zc, r2⟩⟩, rest⟩
end
section
variable {P : Program} {w : World} {K : PySem.W.Frag} {mg : Str → Option Value} {base : Heap}
local macro_rules | `(tactic| get_elem_tactic_trivial) => `(tactic| (repeat first | exact Wk.nil | exact Wk'.nil | refine Wk.same ?_ | refine Wk'.same ?_ | refine Wk.un (fun _ z => nomatch z) ?_ | refine Wk'.un ?_))
/-! try .. except .. as .. -/
def tTry (K : PySem.W.Frag) (c : Value) (i : Nat) (tb : WX → TS) (ts : Addr → Value → Option Addr → TS) (Wo : WX) : TS := fun D r G => tb (kpX K c i ts Wo D) D r G
class Su (K : PySem.W.Frag) (i : Nat) (ts : Addr → Value → Option Addr → TS) (w : outParam (Str → Dt → WS)) : Prop where
  run : ∀ (B : Bs) (C G : Hp) (σ : L2.St) (ρ : List Sl) (D : Ends) (Φ : Fs) (a : Addr) (cls : Value) (dd : Option Addr) (c : Str) (d : Dt), Sep K B C G σ ρ → G a = none → ExAt K C cls dd c d → w c d ρ Φ → Meets K B Φ D → ts a cls dd (keepD D i a cls dd) (σ.set i (some (.ref a))) G
def wSuKeep (i j : Nat) : Str → Dt → WS := fun c d ρ Φ => (i ≠ j ∧ i < ρ.length) ∧ put i .un ρ fun ρ1 => put j (.dat (.err c d)) ρ1 Φ.nx
instance su_keep {i j : Nat} : Su K i (fun _ _ _ => tAsg (tVar i) (gName j)) (wSuKeep i j) where
  run B C G σ ρ D Φ a cls dd c d S ha ex h m := by
    obtain ⟨⟨ne, lr⟩, h⟩ := h
    obtain ⟨p1, h⟩ := put_run h
    obtain ⟨p2, h⟩ := put_run h
    obtain ⟨rfl, b, v, rfl, hb, rv⟩ := ex
    have ca : C a = none := S.cold.free ha
    have S1 := S.alloc (o := exv a (.ref (He.ga K c)) (some b)) ha
    have sC := same_new (o := exv a (.ref (He.ga K c)) (some b)) ca
    have S2 := S1.un (i := i) (x := none) p1
    have S3 := S2.dat (i := j) (v := .ref a) (d := .err c d) p2 (.err upd_same (sC _ _ hb) (rv.same sC))
    have li : i < σ.length := by
      rw [S.len]
      exact lr
    refine ⟨.ref a, set_at li, ?_⟩
    show D.nx (((σ.set i (some (.ref a))).set j (some (.ref a))).set i none) _
    rw [List.set_comm _ _ (Ne.symm ne), List.set_set]
    exact m.nx _ _ _ _ S3 h
/-! isinstance and what of caught errors -/
def IsEv (K : PySem.W.Frag) (c : Str) (cv : V) (b : Bool) : Prop := ∃ (fI : Addr) (u : Value), ClsV cv u ∧ ECl K (He.ga K c) fI ∧ PySem.W.kitOne K (.ref (He.ga K c)) u = some b
theorem caught_of {C H : Hp} {v : V} {c : Str} {d : Dt} (s : Same C H) (h : Rp K C v (.err c d)) : ∃ (a : Addr) (w : V), v = .ref a ∧ Caught H a (He.ga K c) w ∧ Rp K C w d := by
  cases h with
  | err h1 h2 h3 => exact ⟨_, _, rfl, ⟨_, _, s _ _ h1, s _ _ h2, by simp [List.lookup]⟩, h3⟩
def wIsC (K : PySem.W.Frag) (cv : V) (wa : WE) : WE := fun ρ Ψ => wa ρ fun r ρ1 => match r with
  | .dat (.err c d) => ∃ b, IsEv K c cv b ∧ Ψ (.dat (.bl b)) ρ1
  | _ => False
instance (priority := 1200) sd_isC {cv : V} {ta : TE} {wa : WE} [a : Sd K ta wa] : Sd K (tCB (rIsC K) (tCons ta (tCons (tC cv) tNil))) (wIsC K cv wa) where
  run B C H σ ρ Q Ψ S h k := a.run B C H σ ρ _ _ S h fun C1 H1 v1 r1 ρ1 S1 s1 ok1 h1 => by
    cases r1 with
    | hot i ds => exact False.elim h1
    | box i n => exact False.elim h1
    | dat x =>
      cases x <;> try exact False.elim h1
      rename_i c d
      obtain ⟨b, ⟨fI, u, hc, T, hk⟩, z⟩ := h1
      obtain ⟨a, w, rfl, hA, _⟩ := caught_of S1.cold ok1
      exact ⟨a, _, fI, w, cv, u, b, rfl, hc, hA, T, hk, k _ _ _ (.dat (.bl b)) _ S1 s1 (.bl b) z⟩
def wWhat (K : PySem.W.Frag) (wa : WE) : WE := fun ρ Ψ => wa ρ fun r ρ1 => match r with
  | .dat (.err c d) => (∃ fI, ECl K (He.ga K c) fI) ∧ Ψ (.dat d) ρ1
  | _ => False
instance sd_what {ta : TE} {wa : WE} [a : Sd K ta wa] : Sd K (tWhatC K ta) (wWhat K wa) where
  run B C H σ ρ Q Ψ S h k := a.run B C H σ ρ _ _ S h fun C1 H1 v1 r1 ρ1 S1 s1 ok1 h1 => by
    cases r1 with
    | hot i ds => exact False.elim h1
    | box i n => exact False.elim h1
    | dat x =>
      cases x <;> try exact False.elim h1
      rename_i c d
      obtain ⟨⟨fI, T⟩, z⟩ := h1
      obtain ⟨a, w, rfl, hA, rw⟩ := caught_of S1.cold ok1
      exact ⟨a, _, fI, w, rfl, hA, T, k _ _ _ (.dat d) _ S1 s1 rw z⟩
theorem isE {root : Str} {cs : List Str} (h : errOk K root cs = true) {c e : Str} (hc : c ∈ cs) (he : e ∈ cs) : IsEv K c (.ref (He.ga K e)) (decide (e = c) || decide (e = root)) := ⟨_, _, .own _, err_cl h hc, err_is h hc he⟩
theorem isV {root : Str} {cs : List Str} (h : errOk K root cs = true) {c : Str} (hc : c ∈ cs) : IsEv K c (.ty "ValueError") true := ⟨_, _, .ty _, err_cl h hc, err_ve h hc⟩

end
section
variable {P : Program} {w : World} {K : PySem.W.Frag} {mg : Str → Option Value} {base : Heap}
local macro_rules | `(tactic| get_elem_tactic_trivial) => `(tactic| (repeat first | exact Wk.nil | exact Wk'.nil | refine Wk.same ?_ | refine Wk'.same ?_ | refine Wk.un (fun _ z => nomatch z) ?_ | refine Wk'.un ?_))
/-! xs[i], xs[j] = a, b -/
/-! xs.pop(i), what it tells -/
/-! raising defs that tell new lists -/
/-! new lists that a raising call tells stay changeable -/

end
section
variable {P : Program} {w : World} {K : PySem.W.Frag} {mg : Str → Option Value} {base : Heap}
local macro_rules | `(tactic| get_elem_tactic_trivial) => `(tactic| (repeat first | exact Wk.nil | exact Wk'.nil | refine Wk.same ?_ | refine Wk'.same ?_ | refine Wk.un (fun _ z => nomatch z) ?_ | refine Wk'.un ?_))
/-! either raising call -/
def wIfXd (wc : WT) (wa wb : WEX) : WEX := fun ρ Ψ Ξ => wc ρ fun b ρ1 => if b = true then wa ρ1 Ψ Ξ else wb ρ1 Ψ Ξ
instance xd_if {W : WX} {tc : TT} {ta tb : TE} {wc : WT} {wa wb : WEX} [c : Sc K tc wc] [a : Xd K W ta wa] [b : Xd K W tb wb] : Xd K W (tIf tc ta tb) (wIfXd wc wa wb) where
  run B C H σ ρ Q Ψ Ξ S h k mx := c.run B C H σ ρ _ _ S h fun C1 H1 e ρ1 S1 s1 h1 => by
    cases e with
    | true => exact a.run B C1 H1 σ ρ1 _ _ Ξ S1 h1 (fun C' G v r ρ' S' s' ok z => k _ _ _ _ _ S' (s1.trans s') ok z) mx
    | false => exact b.run B C1 H1 σ ρ1 _ _ Ξ S1 h1 (fun C' G v r ρ' S' s' ok z => k _ _ _ _ _ S' (s1.trans s') ok z) mx
/-! a def that tells a new list or another thing -/
def slotOf : Ro → Sl
  | .new ds => .hot ds
  | .dat d => .dat d

end
section
variable {P : Program} {w : World} {K : PySem.W.Frag} {mg : Str → Option Value} {base : Heap}
local macro_rules | `(tactic| get_elem_tactic_trivial) => `(tactic| (repeat first | exact Wk.nil | exact Wk'.nil | refine Wk.same ?_ | refine Wk'.same ?_ | refine Wk.un (fun _ z => nomatch z) ?_ | refine Wk'.un ?_))
/-! list(range(n)) -/

end
section
variable {P : Program} {w : World} {K : PySem.W.Frag} {mg : Str → Option Value} {base : Heap}
local macro_rules | `(tactic| get_elem_tactic_trivial) => `(tactic| (repeat first | exact Wk.nil | exact Wk'.nil | refine Wk.same ?_ | refine Wk'.same ?_ | refine Wk.un (fun _ z => nomatch z) ?_ | refine Wk'.un ?_))
/-! either of two new lists -/

end
section
variable {P : Program} {w : World} {K : PySem.W.Frag} {mg : Str → Option Value} {base : Heap}
local macro_rules | `(tactic| get_elem_tactic_trivial) => `(tactic| (repeat first | exact Wk.nil | exact Wk'.nil | refine Wk.same ?_ | refine Wk'.same ?_ | refine Wk.un (fun _ z => nomatch z) ?_ | refine Wk'.un ?_))
/-! methods that tell new lists -/
end
section
variable {P : Program} {w : World} {K : PySem.W.Frag} {mg : Str → Option Value} {base : Heap}
local macro_rules | `(tactic| get_elem_tactic_trivial) => `(tactic| (repeat first | exact Wk.nil | exact Wk'.nil | refine Wk.same ?_ | refine Wk'.same ?_ | refine Wk.un (fun _ z => nomatch z) ?_ | refine Wk'.un ?_))
/-! C(.., k=..): a thing made, its fields reckoned -/
def gS (is : List Nat) {α : Type} (us ws : List α) : List α := match us with
  | u :: us => u :: gP is us ws
  | [] => gP is [] ws
theorem gS_vals (is : List Nat) {vs zs : List V} {us ws : List Value} (h1 : Vals vs us) (h2 : Vals zs ws) : Vals (gS is vs zs) (gS is us ws) := by
  cases h1 with
  | nil => exact gP_vals is .nil h2
  | cons r h1 => exact .cons r (gP_vals is h1 h2)
theorem kbS {x qual : Str} {params : Arguments} {body : List Stmt} {scope : Scope} {kws : List (Str × V)} {f : Addr} {fd : FuncData} {ps : List Str} (F : FunD K x qual params body scope [] kws f fd) (n : Nat) (ks : List Str) (is : List Nat)
    (h : ∀ (kV doc pm : Value) (an : Option Addr) (cdv ct : Value) (us ws : List Value), us.length = n → ws.length = ks.length → bindArgs (PySem.W.fnOf x qual params body scope .none kV doc pm an cdv ct) ⟨us, ks.zip ws⟩ = pure (ps.zip (gS is us ws))) : KBn K fd ps n ks (gS is) (gS is) :=
  kw_plain F n ks (fun {α} us ws => gS is us ws) (fun a b => gS_vals is a b) h
/-- fields reckoned from what is handed in -/
abbrev WMk := List Dt → (List Dt → Prop) → Prop
def spMk (K : PySem.W.Frag) (c : Str) (ns : List Str) (n : Nat) (wf : WMk) : Sp := fun vs H Q _ => ∃ (p dx : Addr) (us : List V) (ds : List Dt) (C : Hp) (Ψ : List Dt → Prop), vs = .ref p :: us ∧ us.length = n ∧ H p = some (.ins (He.ga K c) dx []) ∧ C p = none ∧ Same C H ∧ RpL K C us ds ∧ wf ds Ψ ∧
  ∀ (C' G : Hp) (ws : List V) (es : List Dt), Same C C' → Same C' G → (∀ a o, C' a = some o → C a = none → H a = none) → RpL K C' ws es → ns.length = ws.length → Ψ es → G p = some (.ins (He.ga K c) dx (ns.zip ws)) → But p H G → Q .non G
theorem Sep.made {B : Bs} {C H : Hp} {σ : L2.St} {ρ : List Sl} (S : Sep K B C H σ ρ) {C' G : Hp} {x : Addr} {o : HO} (h0 : B.H0 x = none) (bx0 : ∀ i, B.bx ≠ some (i, x)) (nh : ∀ (j : Nat) (t : Sl), ρ[j]? = some t → t.mut = true → σ[j]? ≠ some (some (V.ref x))) (gC : Same C C') (cG : Same C' G) (nw : ∀ a o, C' a = some o → C a = none → H a = none) (cx' : C' x = none)
    (gx : G x = some o) (bt : But x H G) : Sep K B (upd C' x o) G σ ρ := by
  have s2 : Same C (upd C' x o) := gC.trans (same_new cx')
  have notC : ∀ a u, C a = none → H a = some u → C' a = none := fun a u ca ha => by
    cases q : C' a with
    | none => rfl
    | some w =>
      have := nw a w q ca
      rw [ha] at this
      cases this
  refine ⟨fun b u e => ?_, S.len, fun i s h => ?_, S.ne, S.grow.trans s2, fun a u e n => ?_, fun a h => ?_, fun a u h n => ?_, S.loc, S.lob, S.par, S.pz⟩
  · by_cases z : b = x
    · subst z
      rw [upd_same] at e
      cases e
      exact gx
    · rw [upd_ne z] at e
      exact cG _ _ e
  · have q := S.sl i s h
    cases s with
    | un => trivial
    | dat d =>
      obtain ⟨v, e, r⟩ := q
      exact ⟨v, e, r.same s2⟩
    | hot ds =>
      obtain ⟨a, vs, e, h2, r, h3⟩ := q
      have ne : a ≠ x := fun z => nh i _ h rfl (z ▸ e)
      exact ⟨a, vs, e, bt _ _ h2 ne, r.same s2, by rw [upd_ne ne]; exact notC _ _ h3 h2⟩
    | box n =>
      obtain ⟨a, e, ⟨u, v, w, h2, h4⟩, h3⟩ := q
      have ne : a ≠ x := fun z => nh i _ h rfl (z ▸ e)
      exact ⟨a, e, ⟨u, v, w, bt _ _ h2 ne, h4⟩, by rw [upd_ne ne]; exact notC _ _ h3 h2⟩
  · by_cases z : a = x
    · rw [z]
      exact h0
    · rw [upd_ne z] at e
      cases q : C a with
      | some w => exact S.new a w q n
      | none =>
        have ha := nw a u e q
        cases q2 : B.H0 a with
        | none => rfl
        | some w => exact absurd ha (S.dom a (by rw [q2]; exact fun y => nomatch y))
  · have q := S.dom a h
    by_cases z : a = x
    · rw [z, gx]
      exact fun y => nomatch y
    · cases e : H a with
      | none => exact absurd e q
      | some u =>
        rw [bt _ _ e z]
        exact fun y => nomatch y
  · have q := S.keep a u h n
    have ne : a ≠ x := fun z => by rw [z, h0] at h; cases h
    exact bt _ _ q ne
def wMakeG (K : PySem.W.Frag) (c : Str) (Cl : Addr) (ns : List Str) (np : Nat) (wf : WMk) (n m : Nat) (is : List Nat) (wt wk : WA) : WE := fun ρ Ψ => wt ρ fun as ρ1 => wk ρ1 fun bs ρ2 => match dats as, dats bs with
  | some ds, some es => (as.length = n ∧ bs.length = m ∧ (gP is ds es).length = np ∧ He.ga K c = Cl) ∧ wf (gP is ds es) fun fs => Ψ (.dat (.obj c ns fs)) ρ2
  | _, _ => False
instance sd_makeG {c : Str} {Cl : Addr} {ns : List Str} {np : Nat} {wf : WMk} {n m : Nat} {is : List Nat} {E : XK} {tt tk : TA} {wt wk : WA} [a : Sa K tt wt] [b : Sa K tk wk] : Sd K (tMakeK Cl n m (spMk K c ns np wf) (gS is) E tt tk) (wMakeG K c Cl ns np wf n m is wt wk) where
  run B C H σ ρ Q Ψ S h k := a.run B C H σ ρ _ _ S h fun C1 H1 vs as ρ1 S1 s1 ok1 h1 => b.run B C1 H1 σ ρ1 _ _ S1 h1 fun C2 H2 zs bs ρ2 S2 s2 ok2 h2 => by
    cases q1 : dats as with
    | none => simp only [q1] at h2
    | some ds =>
      cases q2 : dats bs with
      | none => simp only [q1, q2] at h2
      | some es =>
        simp only [q1, q2] at h2
        obtain ⟨⟨l1, l2, l3, ec⟩, h2⟩ := h2
        have r := gP_rp is ((ok1.dats q1).same s2) (ok2.dats q2)
        refine ⟨by rw [ok1.len]; exact l1, by rw [ok2.len]; exact l2, fun x dx hx hdx ne => ?_⟩
        have hx2 : upd H2 dx (.own x) x = none := by rw [upd_ne (Ne.symm ne)]; exact hx
        have Sa := S2.alloc (o := .own x) hdx
        have Sb := Sa.allocN (o := .ins Cl dx []) hx2
        have g1 : Same C2 (upd C2 dx (.own x)) := same_new (S2.cold.free hdx)
        have cx : (upd C2 dx (.own x)) x = none := Sa.cold.free hx2
        refine ⟨x, dx, gP is vs zs, gP is ds es, upd C2 dx (.own x), _, rfl, by rw [r.len]; exact l3, by rw [ec]; exact upd_same, cx, Sb.cold, r.same g1, h2, fun C' G ws fs gC cG nw rw_ ln z hG bt => ⟨rfl, ?_⟩⟩
        have cx' : C' x = none := by
          cases q : C' x with
          | none => rfl
          | some w =>
            have := nw x w q cx
            rw [upd_same] at this
            cases this
        have S3 := Sb.made (S2.free0 hx) (fun i e => by
          obtain ⟨e1, n, e2⟩ := S2.par i x e
          exact (S2.mutH e2 rfl e1).2 hx) (S2.nohot hx) gC cG nw cx' hG bt
        have g2 : Same C' (upd C' x (.ins (He.ga K c) dx (ns.zip ws))) := same_new cx'
        exact k _ _ _ (.dat (.obj c ns fs)) _ S3 (s1.trans (s2.trans (g1.trans (gC.trans g2)))) (.obj upd_same (g2 _ _ (gC _ _ upd_same)) ln (rw_.same g2)) z
/-! reading on heaps, over defs read on data -/
theorem sep0 {C H : Hp} {vs : List V} {ds : List Dt} (s : Same C H) (r : RpL K C vs ds) : Sep K ⟨C, H, none⟩ C H (vs.map some) (ds.map .dat) := by
  have nm : ∀ (i : Nat) (t : Sl), (ds.map Sl.dat)[i]? = some t → t.mut = true → False := fun i t h m => by
    rw [List.getElem?_map] at h
    obtain ⟨d, _, rfl⟩ := Option.map_eq_some_iff.mp h
    cases m
  refine ⟨s, by rw [List.length_map, List.length_map]; exact r.len, fun i t h => ?_, fun i j a t u n h1 h2 m1 m2 e1 e2 => nm i t h1 m1, Same.refl _, fun a o e n => (by rw [show C a = none from n] at e; cases e), fun a h => h, fun a o h n => h, fun i a ds h e => (nm i _ h rfl).elim, fun i a n h e => (nm i _ h rfl).elim, fun i a h => (nomatch h), fun i a h => (nomatch h)⟩
  rw [List.getElem?_map] at h
  obtain ⟨d, hd, rfl⟩ := Option.map_eq_some_iff.mp h
  obtain ⟨v, hv, rv⟩ := r.at' hd
  exact ⟨v, by rw [List.getElem?_map, hv]; rfl, rv⟩
theorem old_dat {n : Nat} {wf : WF} {vs : List V} {H C : Hp} {Q : VK} {E : XK} {ds : List Dt} {d : Dt} (hl : vs.length = n) (s : Same C H) (r : RpL K C vs ds) (h : wf (ds.map .dat) (fun r _ => r = .dat d))
    (k : ∀ C' G v, Same C C' → Same C' G → Same H G → (∀ a o, C' a = some o → C a = none → H a = none) → Rp K C' v d → Q v G) : spD K n wf vs H Q E := by
  refine ⟨hl, C, none, ds.map .dat, _, sep0 s r, h, fun C' G v r ps' S ok e => ?_⟩
  subst e
  exact k C' G v S.grow S.cold (fun a o h => S.keep a o h fun _ z => nomatch z) S.new ok
theorem old_true {n : Nat} {wf : WF} {vs : List V} {H C : Hp} {Q : VK} {E : XK} {ds : List Dt} {b : Bool} (hl : vs.length = n) (s : Same C H) (r : RpL K C vs ds) (h : wf (ds.map .dat) (fun r _ => r = .dat (.bl b)))
    (k : ∀ C' G, Same C C' → Same C' G → Same H G → (∀ a o, C' a = some o → C a = none → H a = none) → Q (.bl b) G) : spD K n wf vs H Q E :=
  old_dat hl s r h fun C' G v h1 h2 h3 h4 h5 => by cases h5; exact k C' G h1 h2 h3 h4
end
section
variable {P : Program} {w : World} {K : PySem.W.Frag} {mg : Str → Option Value} {base : Heap}
local macro_rules | `(tactic| get_elem_tactic_trivial) => `(tactic| (repeat first | exact Wk.nil | exact Wk'.nil | refine Wk.same ?_ | refine Wk'.same ?_ | refine Wk.un (fun _ z => nomatch z) ?_ | refine Wk'.un ?_))
/-! zip of two lists, or of two tuples -/
def iZipB (K : PySem.W.Frag) (ta : TA) : TI := RZ.iZipA K ta
def wiZipB (wa : WA) : WI := fun ρ Ψ => wa ρ fun as ρ1 => match as with
  | [.d (.tup ds), .d (.tup es)] => Ψ (zipD ds es) ρ1
  | [.d (.lst ds), .d (.lst es)] => Ψ (zipD ds es) ρ1
  | _ => False
theorem wiZipB_run {as : List Ar} {k : List Dt → Prop} (h : match as with | [.d (.tup ds), .d (.tup es)] => k (zipD ds es) | [.d (.lst ds), .d (.lst es)] => k (zipD ds es) | _ => False) : ∃ ds es, (as = [.d (.tup ds), .d (.tup es)] ∨ as = [.d (.lst ds), .d (.lst es)]) ∧ k (zipD ds es) := by
  split at h
  · exact ⟨_, _, .inl rfl, h⟩
  · exact ⟨_, _, .inr rfl, h⟩
  · exact h.elim
instance si_zipB {ta : TA} {wa : WA} [a : Sa K ta wa] : Si K (iZipB K ta) (wiZipB wa) where
  run B C H σ ρ R Ψ S h k := by
    refine a.run B C H σ ρ _ _ S h fun C1 H1 vs as ρ1 S1 s1 ok1 h1 => ?_
    obtain ⟨ds, es, e0, h1⟩ := wiZipB_run (k := fun l => Ψ l ρ1) h1
    rcases e0 with rfl | rfl
    · match ok1 with
      | .cons r (.cons r2 .nil) =>
        cases r with
        | @tup c xs _ hs rl =>
        cases r2 with
        | @tup c2 ys _ hs2 rl2 =>
          refine ⟨c, c2, _, _, rfl, .inr ⟨seqT_same S1.cold hs, seqT_same S1.cold hs2, k _ _ _ _ _ S1 s1 (fun B3 C3 H3 σ3 ρ3 S3 s3 => ?_) h1⟩⟩
          have q := seqT_same S3.cold (seqT_same s3 hs)
          have q2 := seqT_same S3.cold (seqT_same s3 hs2)
          have lq := rl.len
          have lq2 := rl2.len
          rw [zipD_len]
          refine ⟨fun i hi => ⟨xs, ys, xs[i], ys[i], q, q2, by simp [show i < xs.length by omega], by simp [show i < ys.length by omega]⟩, ⟨xs, ys, q, q2, by omega⟩, fun i y H' d hd yl => ?_⟩
          obtain ⟨T, x, y, rfl, hT, rfl, yl, yl2⟩ := yl
          have e := yl xs q
          have e2 := yl2 ys q2
          obtain ⟨d', hd', r'⟩ := rl.at e
          obtain ⟨d2', hd2', r2'⟩ := rl2.at e2
          obtain ⟨dx, dy, hx, hy, rfl⟩ := zipD_at hd
          rw [hx] at hd'
          rw [hy] at hd2'
          cases hd'
          cases hd2'
          have sC : Same C3 (upd C3 T (.tup [x, y])) := same_new (S3.cold.free hT)
          exact ⟨upd C3 T (.tup [x, y]), S3.alloc hT, sC, .tup (.inl (.inl upd_same)) (.cons ((r'.same s3).same sC) (.cons ((r2'.same s3).same sC) .nil))⟩
    · match ok1 with
      | .cons r (.cons r2 .nil) =>
        cases r with
        | @lst c xs _ hs rl =>
        cases r2 with
        | @lst c2 ys _ hs2 rl2 =>
          refine ⟨c, c2, _, _, rfl, .inl ⟨SqL.of (S1.cold _ _ hs), SqL.of (S1.cold _ _ hs2), k _ _ _ _ _ S1 s1 (fun B3 C3 H3 σ3 ρ3 S3 s3 => ?_) h1⟩⟩
          have q : SqL K H3 c xs := SqL.of (S3.cold _ _ (s3 _ _ hs))
          have q2 : SqL K H3 c2 ys := SqL.of (S3.cold _ _ (s3 _ _ hs2))
          have lq := rl.len
          have lq2 := rl2.len
          rw [zipD_len]
          refine ⟨fun i hi => ⟨xs, ys, xs[i], ys[i], q, q2, by simp [show i < xs.length by omega], by simp [show i < ys.length by omega]⟩, ⟨xs, ys, q, q2, by omega⟩, fun i y H' d hd yl => ?_⟩
          obtain ⟨T, x, y, rfl, hT, rfl, yl, yl2⟩ := yl
          have e := yl xs q
          have e2 := yl2 ys q2
          obtain ⟨d', hd', r'⟩ := rl.at e
          obtain ⟨d2', hd2', r2'⟩ := rl2.at e2
          obtain ⟨dx, dy, hx, hy, rfl⟩ := zipD_at hd
          rw [hx] at hd'
          rw [hy] at hd2'
          cases hd'
          cases hd2'
          have sC : Same C3 (upd C3 T (.tup [x, y])) := same_new (S3.cold.free hT)
          exact ⟨upd C3 T (.tup [x, y]), S3.alloc hT, sC, .tup (.inl (.inl upd_same)) (.cons ((r'.same s3).same sC) (.cons ((r2'.same s3).same sC) .nil))⟩
end
section
variable {P : Program} {w : World} {K : PySem.W.Frag} {mg : Str → Option Value} {base : Heap}
local macro_rules | `(tactic| get_elem_tactic_trivial) => `(tactic| (repeat first | exact Wk.nil | exact Wk'.nil | refine Wk.same ?_ | refine Wk'.same ?_ | refine Wk.un (fun _ z => nomatch z) ?_ | refine Wk'.un ?_))
/-! a new list that is only read from here on -/
def tColdE (t : TE) : TE := t
instance sd_cold {t : TE} {w : WN} [a : Sn K t w] : Sd K (tColdE t) (wCool w) := ⟨(sd_new (K := K) (t := t) (w := w)).run⟩

end
section
variable {P : Program} {w : World} {K : PySem.W.Frag} {mg : Str → Option Value} {base : Heap}
local macro_rules | `(tactic| get_elem_tactic_trivial) => `(tactic| (repeat first | exact Wk.nil | exact Wk'.nil | refine Wk.same ?_ | refine Wk'.same ?_ | refine Wk.un (fun _ z => nomatch z) ?_ | refine Wk'.un ?_))
/-! try .. except C: raise D(..) from None, over data -/
end
section
variable {P : Program} {w : World} {K : PySem.W.Frag} {mg : Str → Option Value} {base : Heap}
local macro_rules | `(tactic| get_elem_tactic_trivial) => `(tactic| (repeat first | exact Wk.nil | exact Wk'.nil | refine Wk.same ?_ | refine Wk'.same ?_ | refine Wk.un (fun _ z => nomatch z) ?_ | refine Wk'.un ?_))
/-! divmod -/
end
section
variable {P : Program} {w : World} {K : PySem.W.Frag} {mg : Str → Option Value} {base : Heap}
local macro_rules | `(tactic| get_elem_tactic_trivial) => `(tactic| (repeat first | exact Wk.nil | exact Wk'.nil | refine Wk.same ?_ | refine Wk'.same ?_ | refine Wk.un (fun _ z => nomatch z) ?_ | refine Wk'.un ?_))
/-! things put together whose parts may raise -/
/-- as xd_sd, by a word (so it is found behind ∀ W) -/
def liftD (w : WE) : WEX := fun ρ Ψ _ => w ρ Ψ
instance (priority := 90) xd_sdL {W : WX} {t : TE} {w : WE} [a : Sd K t w] : Xd K W t (liftD w) := ⟨(xd_sd (K := K) (W := W) (t := t) (w := w)).run⟩
def liftS (w : WS) : WSX := fun ρ Φ _ => w ρ Φ
instance (priority := 90) xs_ssL {W : WX} {t : TS} {w : WS} [a : Ss K t w] : Xs K W t (liftS w) := ⟨(xs_ss (K := K) (W := W) (t := t) (w := w)).run⟩
end
section
variable {P : Program} {w : World} {K : PySem.W.Frag} {mg : Str → Option Value} {base : Heap}
local macro_rules | `(tactic| get_elem_tactic_trivial) => `(tactic| (repeat first | exact Wk.nil | exact Wk'.nil | refine Wk.same ?_ | refine Wk'.same ?_ | refine Wk.un (fun _ z => nomatch z) ?_ | refine Wk'.un ?_))
/-! a new drawer and another thing at once -/

end
section
variable {P : Program} {w : World} {K : PySem.W.Frag} {mg : Str → Option Value} {base : Heap}
local macro_rules | `(tactic| get_elem_tactic_trivial) => `(tactic| (repeat first | exact Wk.nil | exact Wk'.nil | refine Wk.same ?_ | refine Wk'.same ?_ | refine Wk.un (fun _ z => nomatch z) ?_ | refine Wk'.un ?_))
/-! level 2: lists that are changed wherever they stand, by their addresses -/
def Bs.hang (B : Bs) (U : Hp) : Bs := ⟨B.C0, fun a => match U a with | some o => some o | none => B.H0 a, B.bx⟩
section
variable {B : Bs} {C H U : Hp} {σ : L2.St} {ρ : List Sl} {μ : Mu}
theorem hang_at {a : Addr} {o : HO} (h : U a = some o) : (B.hang U).H0 a = some o := by
  show (match U a with | some o => some o | none => B.H0 a) = _
  rw [h]
theorem hang_off {a : Addr} (h : U a = none) : (B.hang U).H0 a = B.H0 a := by
  show (match U a with | some o => some o | none => B.H0 a) = _
  rw [h]
theorem hang_no {a : Addr} (h : (B.hang U).H0 a = none) : U a = none ∧ B.H0 a = none := by
  cases q : U a with
  | some o => rw [hang_at q] at h; cases h
  | none => rw [hang_off q] at h; exact ⟨rfl, h⟩
theorem hang_nil : B.hang (fun _ => none) = B := rfl
end

end
section
variable {P : Program} {w : World} {K : PySem.W.Frag} {mg : Str → Option Value} {base : Heap}
local macro_rules | `(tactic| get_elem_tactic_trivial) => `(tactic| (repeat first | exact Wk.nil | exact Wk'.nil | refine Wk.same ?_ | refine Wk'.same ?_ | refine Wk.un (fun _ z => nomatch z) ?_ | refine Wk'.un ?_))
/-! level 2: reading
-/
/-! what level 1 reads -/
end
section
variable {P : Program} {w : World} {K : PySem.W.Frag} {mg : Str → Option Value} {base : Heap}
local macro_rules | `(tactic| get_elem_tactic_trivial) => `(tactic| (repeat first | exact Wk.nil | exact Wk'.nil | refine Wk.same ?_ | refine Wk'.same ?_ | refine Wk.un (fun _ z => nomatch z) ?_ | refine Wk'.un ?_))
/-! arguments, tuples -/
/-! statements -/

end
section
variable {P : Program} {w : World} {K : PySem.W.Frag} {mg : Str → Option Value} {base : Heap}
local macro_rules | `(tactic| get_elem_tactic_trivial) => `(tactic| (repeat first | exact Wk.nil | exact Wk'.nil | refine Wk.same ?_ | refine Wk'.same ?_ | refine Wk.un (fun _ z => nomatch z) ?_ | refine Wk'.un ?_))
/-! level 2: lists changed, defs that tell such lists, reading all as it stands -/
end
section
variable {P : Program} {w : World} {K : PySem.W.Frag} {mg : Str → Option Value} {base : Heap}
local macro_rules | `(tactic| get_elem_tactic_trivial) => `(tactic| (repeat first | exact Wk.nil | exact Wk'.nil | refine Wk.same ?_ | refine Wk'.same ?_ | refine Wk.un (fun _ z => nomatch z) ?_ | refine Wk'.un ?_))
/-- many new lists at once -/
theorem Sep.hangAll {B : Bs} {C H U U' : Hp} {σ : L2.St} {ρ : List Sl} (S : Sep K (B.hang U) C H σ ρ) (h : ∀ a o, U' a = some o → H a = some o ∧ C a = none ∧ (B.hang U).H0 a = none ∧ ∀ (j : Nat) (t : Sl), ρ[j]? = some t → t.mut = true → σ[j]? ≠ some (some (V.ref a))) :
    Sep K (B.hang fun a => match U' a with | some o => some o | none => U a) C H σ ρ := by
  have at_ : ∀ {a : Addr} {o : HO}, U' a = some o → (B.hang fun a => match U' a with | some o => some o | none => U a).H0 a = some o := fun {a o} e => by
    show (match (match U' a with | some o => some o | none => U a) with | some o => some o | none => B.H0 a) = _
    rw [e]
  have off : ∀ {a : Addr}, U' a = none → (B.hang fun a => match U' a with | some o => some o | none => U a).H0 a = (B.hang U).H0 a := fun {a} e => by
    show (match (match U' a with | some o => some o | none => U a) with | some o => some o | none => B.H0 a) = (match U a with | some o => some o | none => B.H0 a)
    rw [e]
  have no : ∀ {a : Addr}, (∀ o, U' a ≠ some o) → U' a = none := fun {a} z => by
    cases q : U' a with
    | none => rfl
    | some o => exact absurd q (z o)
  refine ⟨S.cold, S.len, S.sl, S.ne, S.grow, fun a x e n => ?_, fun a g => ?_, fun a x g n => ?_, fun i a ds g e => ?_, fun i a n g e => ?_, S.par, S.pz⟩
  · rw [off (no fun o q => by rw [(h a o q).2.1] at e; cases e)]
    exact S.new a x e n
  · cases q : U' a with
    | some o => rw [(h a o q).1]; exact fun z => nomatch z
    | none => rw [off q] at g; exact S.dom a g
  · cases q : U' a with
    | some o =>
      rw [at_ q] at g
      cases g
      exact (h a _ q).1
    | none => rw [off q] at g; exact S.keep a x g n
  · rw [off (no fun o q => (h a o q).2.2.2 i _ g rfl e)]
    exact S.loc i a ds g e
  · rw [off (no fun o q => (h a o q).2.2.2 i _ g rfl e)]
    exact S.lob i a n g e

end
section
variable {P : Program} {w : World} {K : PySem.W.Frag} {mg : Str → Option Value} {base : Heap}
local macro_rules | `(tactic| get_elem_tactic_trivial) => `(tactic| (repeat first | exact Wk.nil | exact Wk'.nil | refine Wk.same ?_ | refine Wk'.same ?_ | refine Wk.un (fun _ z => nomatch z) ?_ | refine Wk'.un ?_))
/-! level 2: all read as it stands -/
end
section
variable {P : Program} {w : World} {K : PySem.W.Frag} {mg : Str → Option Value} {base : Heap}
local macro_rules | `(tactic| get_elem_tactic_trivial) => `(tactic| (repeat first | exact Wk.nil | exact Wk'.nil | refine Wk.same ?_ | refine Wk'.same ?_ | refine Wk.un (fun _ z => nomatch z) ?_ | refine Wk'.un ?_))
/-! level 2: bodies -/

end
section
variable {P : Program} {w : World} {K : PySem.W.Frag} {mg : Str → Option Value} {base : Heap}
local macro_rules | `(tactic| get_elem_tactic_trivial) => `(tactic| (repeat first | exact Wk.nil | exact Wk'.nil | refine Wk.same ?_ | refine Wk'.same ?_ | refine Wk.un (fun _ z => nomatch z) ?_ | refine Wk'.un ?_))
/-! level 2: lists that are only read from here on -/
def orU (U C : Hp) : Hp := fun a => match U a with | some o => some o | none => C a
theorem orU_at {U C : Hp} {a : Addr} {o : HO} (e : U a = some o) : orU U C a = some o := by
  unfold orU
  rw [e]
theorem orU_off {U C : Hp} {a : Addr} (e : U a = none) : orU U C a = C a := by
  unfold orU
  rw [e]
/-! a try whose body never raises -/
end
section
variable {P : Program} {w : World} {K : PySem.W.Frag} {mg : Str → Option Value} {base : Heap}
local macro_rules | `(tactic| get_elem_tactic_trivial) => `(tactic| (repeat first | exact Wk.nil | exact Wk'.nil | refine Wk.same ?_ | refine Wk'.same ?_ | refine Wk.un (fun _ z => nomatch z) ?_ | refine Wk'.un ?_))
/-! C(), C(k=..): what is left out as the def has it -/
theorem made_run {c : Str} {Cl : Addr} {ns : List Str} {ok : List Dt → Prop} {B : Bs} {C2 H2 : Hp} {σ : L2.St} {ρ2 : List Sl} {us : List V} {ds : List Dt} {Q : VK} {E : XK} {Ψ : Rs → List Sl → Prop} (S2 : Sep K B C2 H2 σ ρ2) (r : RpL K C2 us ds) (okd : ok ds) (ln : ns.length = ds.length) (ec : He.ga K c = Cl) (h2 : Ψ (.dat (.obj c ns ds)) ρ2)
    (k : ∀ C' G v r ρ', Sep K B C' G σ ρ' → Same C2 C' → RsOk K C' σ ρ' v r → Ψ r ρ' → Q v G) : ∀ x dx, H2 x = none → H2 dx = none → dx ≠ x → spIni K c ns ok (.ref x :: us) (upd (upd H2 dx (.own x)) x (.ins Cl dx [])) (fun v G => v = .non ∧ Q (.ref x) G) E := by
  intro x dx hx hdx ne
  refine ⟨x, dx, us, ds, C2, rfl, by rw [ec]; exact upd_same, r, okd, by rw [r.len]; exact ln, fun G hG bt => ⟨rfl, ?_⟩⟩
  have hx2 : upd H2 dx (.own x) x = none := by rw [upd_ne (Ne.symm ne)]; exact hx
  have Sa := S2.alloc (o := .own x) hdx
  have Sb := Sa.alloc (o := .ins (He.ga K c) dx (ns.zip us)) hx2
  have sm : Same (upd (upd H2 dx (.own x)) x (.ins (He.ga K c) dx (ns.zip us))) G := fun y o e => by
    by_cases z : y = x
    · subst z
      rw [upd_same] at e
      cases e
      exact hG
    · rw [upd_ne z] at e
      exact bt y o (by rw [upd_ne z]; exact e) z
  have g1 : Same C2 (upd C2 dx (.own x)) := same_new (S2.cold.free hdx)
  have g2 : Same (upd C2 dx (.own x)) (upd (upd C2 dx (.own x)) x (.ins (He.ga K c) dx (ns.zip us))) := same_new (Sa.cold.free hx2)
  exact k _ _ _ (.dat (.obj c ns ds)) _ (Sb.same sm) (g1.trans g2) (.obj upd_same (g2 _ _ upd_same) (by rw [r.len]; exact ln) (r.same (g1.trans g2))) h2
def wMake0 (K : PySem.W.Frag) (c : Str) (Cl : Addr) (ns : List Str) (ok : List Dt → Prop) (dd : List Dt) : WE := fun ρ Ψ => (ok dd ∧ ns.length = dd.length ∧ He.ga K c = Cl) ∧ Ψ (.dat (.obj c ns dd)) ρ
instance sd_make0 {c : Str} {Cl : Addr} {ns : List Str} {ok : List Dt → Prop} {dvs : List V} {dd : List Dt} {E : XK} [v : Dv dvs dd] : Sd K (tMake Cl (spIni K c ns ok) dvs E tNil) (wMake0 K c Cl ns ok dd) where
  run B C H σ ρ Q Ψ S h k := by
    obtain ⟨⟨okd, ln, ec⟩, h2⟩ := h
    exact made_run S (v.run K C) okd ln ec h2 k

end
section
variable {P : Program} {w : World} {K : PySem.W.Frag} {mg : Str → Option Value} {base : Heap}
local macro_rules | `(tactic| get_elem_tactic_trivial) => `(tactic| (repeat first | exact Wk.nil | exact Wk'.nil | refine Wk.same ?_ | refine Wk'.same ?_ | refine Wk.un (fun _ z => nomatch z) ?_ | refine Wk'.un ?_))
/-! statements that are never reached -/
def tNoS : TS := fun _ _ _ => False
theorem ps_no {X : Cx} {s : Stmt} : PS X s tNoS := ⟨fun _ _ _ _ _ _ h => h.elim⟩
def wNo : WS := fun _ _ => False
instance ss_no : Ss K tNoS wNo where
  run B C H σ ρ D Φ S h m := h.elim
/-! level 2: a number read with all lists as they stand -/
/-! divmod of numbers of any size -/

end
section
variable {P : Program} {w : World} {K : PySem.W.Frag} {mg : Str → Option Value} {base : Heap}
local macro_rules | `(tactic| get_elem_tactic_trivial) => `(tactic| (repeat first | exact Wk.nil | exact Wk'.nil | refine Wk.same ?_ | refine Wk'.same ?_ | refine Wk.un (fun _ z => nomatch z) ?_ | refine Wk'.un ?_))
/-! wide numbers shown -/
end
section
variable {P : Program} {w : World} {K : PySem.W.Frag} {mg : Str → Option Value} {base : Heap}
local macro_rules | `(tactic| get_elem_tactic_trivial) => `(tactic| (repeat first | exact Wk.nil | exact Wk'.nil | refine Wk.same ?_ | refine Wk'.same ?_ | refine Wk.un (fun _ z => nomatch z) ?_ | refine Wk'.un ?_))

end
section
variable {P : Program} {w : World} {K : PySem.W.Frag} {mg : Str → Option Value} {base : Heap}
local macro_rules | `(tactic| get_elem_tactic_trivial) => `(tactic| (repeat first | exact Wk.nil | exact Wk'.nil | refine Wk.same ?_ | refine Wk'.same ?_ | refine Wk.un (fun _ z => nomatch z) ?_ | refine Wk'.un ?_))
/-! level 2: chunks read, copied, changed, walked -/
/-! for x in a chunk: it keeps its length N -/
/-! a new list of numbers, read with all chunks as they stand -/

end
section
variable {P : Program} {w : World} {K : PySem.W.Frag} {mg : Str → Option Value} {base : Heap}
local macro_rules | `(tactic| get_elem_tactic_trivial) => `(tactic| (repeat first | exact Wk.nil | exact Wk'.nil | refine Wk.same ?_ | refine Wk'.same ?_ | refine Wk.un (fun _ z => nomatch z) ?_ | refine Wk'.un ?_))
/-! level 2: defs that tell lists of their own, called by keywords; chunks in another order -/

end
section
variable {P : Program} {w : World} {K : PySem.W.Frag} {mg : Str → Option Value} {base : Heap}
local macro_rules | `(tactic| get_elem_tactic_trivial) => `(tactic| (repeat first | exact Wk.nil | exact Wk'.nil | refine Wk.same ?_ | refine Wk'.same ?_ | refine Wk.un (fun _ z => nomatch z) ?_ | refine Wk'.un ?_))
/-! level 2 left: all chunks grow cold, the rest is read at level 1 -/

end
section
variable {P : Program} {w : World} {K : PySem.W.Frag} {mg : Str → Option Value} {base : Heap}
local macro_rules | `(tactic| get_elem_tactic_trivial) => `(tactic| (repeat first | exact Wk.nil | exact Wk'.nil | refine Wk.same ?_ | refine Wk'.same ?_ | refine Wk.un (fun _ z => nomatch z) ?_ | refine Wk'.un ?_))
/-! level 2: comprehensions whose parts are chunks, clear, either of two, a try that never raises -/
theorem FnOk.or {k : Nat} {CX : CXT} {f : Addr} {fd : FuncData} {ps : List Str} {sp sp' : Sp} (F : FnOk P w K mg base CX k f fd ps sp) (F' : FnOk P w K mg base CX k f fd ps sp') : FnOk P w K mg base CX k f fd ps (fun vs H Q E => sp vs H Q E ∨ sp' vs H Q E) :=
  ⟨fun vs H Q E q => q.elim (F.len vs H Q E) (F'.len vs H Q E), fun A outer s H args us vs Q E hr he hb hv hs => hs.elim (F.run A outer s H args us vs Q E hr he hb hv) (F'.run A outer s H args us vs Q E hr he hb hv)⟩
/-! a test that only reads leaves lists changeable -/

end
section
variable {P : Program} {w : World} {K : PySem.W.Frag} {mg : Str → Option Value} {base : Heap}
local macro_rules | `(tactic| get_elem_tactic_trivial) => `(tactic| (repeat first | exact Wk.nil | exact Wk'.nil | refine Wk.same ?_ | refine Wk'.same ?_ | refine Wk.un (fun _ z => nomatch z) ?_ | refine Wk'.un ?_))
/-! enumerate over zip: the zip's tuples stay out -/
section
variable {prog : Program} {w : World} {A : Around} {E : Value → Shared → Prop} {s : Shared}
variable {z TI TO i1 i2 : Addr} {fp1 fp2 : List Addr} {n1 n2 i : Nat} {P1 P2 : Nat → Value → Prop} {St1 St2 : Nat → Heap → Prop}
end
end
section
variable {P : Program} {w : World} {K : PySem.W.Frag} {mg : Str → Option Value} {base : Heap}
local macro_rules | `(tactic| get_elem_tactic_trivial) => `(tactic| (repeat first | exact Wk.nil | exact Wk'.nil | refine Wk.same ?_ | refine Wk'.same ?_ | refine Wk.un (fun _ z => nomatch z) ?_ | refine Wk'.un ?_))
section
variable {prog : Program} {w : World} {A : Around} {E : Value → Shared → Prop} {s : Shared} {z TI TO i1 i2 : Addr} {fp1 fp2 : List Addr} {n1 n2 i : Nat} {P1 P2 : Nat → Value → Prop} {St1 St2 : Nat → Heap → Prop}
end

end
section
variable {P : Program} {w : World} {K : PySem.W.Frag} {mg : Str → Option Value} {base : Heap}
local macro_rules | `(tactic| get_elem_tactic_trivial) => `(tactic| (repeat first | exact Wk.nil | exact Wk'.nil | refine Wk.same ?_ | refine Wk'.same ?_ | refine Wk.un (fun _ z => nomatch z) ?_ | refine Wk'.un ?_))
/-! the turn -/
section
variable {X : Cx} {pins : List (Addr × Obj)} {σ : L2.St} {H : Hp} {s : Shared}
end

end
section
variable {P : Program} {w : World} {K : PySem.W.Frag} {mg : Str → Option Value} {base : Heap}
local macro_rules | `(tactic| get_elem_tactic_trivial) => `(tactic| (repeat first | exact Wk.nil | exact Wk'.nil | refine Wk.same ?_ | refine Wk'.same ?_ | refine Wk.un (fun _ z => nomatch z) ?_ | refine Wk'.un ?_))
/-! enumerate(zip(..)) walked -/

end
section
variable {P : Program} {w : World} {K : PySem.W.Frag} {mg : Str → Option Value} {base : Heap}
local macro_rules | `(tactic| get_elem_tactic_trivial) => `(tactic| (repeat first | exact Wk.nil | exact Wk'.nil | refine Wk.same ?_ | refine Wk'.same ?_ | refine Wk.un (fun _ z => nomatch z) ?_ | refine Wk'.un ?_))
/-! a += b, break, continue -/

end
section
variable {P : Program} {w : World} {K : PySem.W.Frag} {mg : Str → Option Value} {base : Heap}
local macro_rules | `(tactic| get_elem_tactic_trivial) => `(tactic| (repeat first | exact Wk.nil | exact Wk'.nil | refine Wk.same ?_ | refine Wk'.same ?_ | refine Wk.un (fun _ z => nomatch z) ?_ | refine Wk'.un ?_))
/-! comprehensions whose parts may raise; promises of defs that raise now and then -/
theorem FnOk.orD {k : Nat} {CX : CXT} {f : Addr} {fd : FuncData} {ps : List Str} {n : Nat} {wf wf' : WF} (F : FnOk P w K mg base CX k f fd ps (spD K n wf)) (F' : FnOk P w K mg base CX k f fd ps (spD K n wf')) : FnOk P w K mg base CX k f fd ps (spD K n (fun ps Ψ => wf ps Ψ ∨ wf' ps Ψ)) :=
  (FnOk.or F F').imp fun vs H Q E h => by
    obtain ⟨l, C, bx, ps, Ψ, S, hw, k⟩ := h
    rcases hw with hw | hw
    · exact .inl ⟨l, C, bx, ps, Ψ, S, hw, k⟩
    · exact .inr ⟨l, C, bx, ps, Ψ, S, hw, k⟩

/-! x.append(..) of what may raise -/

end
section
variable {P : Program} {w : World} {K : PySem.W.Frag} {mg : Str → Option Value} {base : Heap}
local macro_rules | `(tactic| get_elem_tactic_trivial) => `(tactic| (repeat first | exact Wk.nil | exact Wk'.nil | refine Wk.same ?_ | refine Wk'.same ?_ | refine Wk.un (fun _ z => nomatch z) ?_ | refine Wk'.un ?_))
/-! level 2: x.pop(i) of a chunk -/
/-! {..}[x] of three texts -/

end
section
variable {P : Program} {w : World} {K : PySem.W.Frag} {mg : Str → Option Value} {base : Heap}
local macro_rules | `(tactic| get_elem_tactic_trivial) => `(tactic| (repeat first | exact Wk.nil | exact Wk'.nil | refine Wk.same ?_ | refine Wk'.same ?_ | refine Wk.un (fun _ z => nomatch z) ?_ | refine Wk'.un ?_))
/-! x != y of two things with an own ==, where no own != stands -/
section
variable {prog : Program} {A : Around} {E : Value → Shared → Prop} {s : Shared} {x y C f : Addr} {ox : Obj} {od : Option Obj}
end

end
section
variable {P : Program} {w : World} {K : PySem.W.Frag} {mg : Str → Option Value} {base : Heap}
local macro_rules | `(tactic| get_elem_tactic_trivial) => `(tactic| (repeat first | exact Wk.nil | exact Wk'.nil | refine Wk.same ?_ | refine Wk'.same ?_ | refine Wk.un (fun _ z => nomatch z) ?_ | refine Wk'.un ?_))
/-- what is looked up of a class with an own == -/
structure IsF (K : PySem.W.Frag) (C : Addr) : Prop where
  ne : PySem.W.findIn K (.ref C) "__ne__" = some (some (.builtin "object.__ne__"))
  ob : PySem.W.subIn K (.ref C) (.type "object") = some true
  ha : PySem.W.findIn K (.ref C) "__class__" = some (some (.builtin "object.__class__"))
  hn : PySem.W.specialIn K (.builtin "object.__class__") "__get__" = some (some (.builtin "getset_descriptor.__get__"))
  ht : PySem.W.takesIn K (.builtin "object.__class__") = some true
  hm : PySem.W.mroIn K C (.type "object") = some true
theorem neD_is {c : Str} (h : neD K c = true) : IsF K (He.ga K c) := by
  unfold neD at h
  simp only [Bool.and_eq_true] at h
  obtain ⟨⟨⟨⟨⟨h1, h2⟩, h3⟩, h4⟩, h5⟩, h6⟩ := h
  exact ⟨eq_of_beq h1, eq_of_beq h2, eq_of_beq h3, eq_of_beq h4, eq_of_beq h5, eq_of_beq h6⟩
/-! isinstance of a thing of one's own, of its very class -/
class IsO (K : PySem.W.Frag) (c : Str) : Prop where
  cl : Cls K (He.ga K c)
  fs : IsF K (He.ga K c)
theorem kit_same {C : Addr} : PySem.W.kitOne K (.ref C) (.ref C) = some true := by
  unfold PySem.W.kitOne
  simp
def wIsiO (c : Str) (wa : WE) : WE := fun ρ Ψ => wa ρ fun r ρ1 => match r with
  | .dat (.obj c' _ _) => c' = c ∧ Ψ (.dat (.bl true)) ρ1
  | _ => False
instance sd_isiO {c : Str} {ta : TE} {wa : WE} [io : IsO K c] [a : Sd K ta wa] : Sd K (tCB (rIsi K) (tCons ta (tCons (tC (.ref (He.ga K c))) tNil))) (wIsiO c wa) where
  run B C H σ ρ Q Ψ S h k := a.run B C H σ ρ _ _ S h fun C1 H1 v1 r1 ρ1 S1 s1 ok1 h1 => by
    cases r1 with
    | hot i ds => exact False.elim h1
    | box i n => exact False.elim h1
    | dat x =>
      cases x <;> try exact False.elim h1
      obtain ⟨rfl, h1⟩ := h1
      cases ok1 with
      | obj a1 a2 a3 a4 =>
        exact ⟨_, _, _, _, true, rfl, .own _, .base (.ins (S1.cold _ _ a1) io.cl io.fs.ha io.fs.hn io.fs.ht io.fs.hm), kit_same, k _ _ _ (.dat _) _ S1 s1 (.bl _) h1⟩
/-! o.m(k=..) with its names in any order; C(k=..) turned -/

end
section
variable {P : Program} {w : World} {K : PySem.W.Frag} {mg : Str → Option Value} {base : Heap}
local macro_rules | `(tactic| get_elem_tactic_trivial) => `(tactic| (repeat first | exact Wk.nil | exact Wk'.nil | refine Wk.same ?_ | refine Wk'.same ?_ | refine Wk.un (fun _ z => nomatch z) ?_ | refine Wk'.un ?_))
/-! comprehensions whose element may raise: the block's exception is noted by the def's own frame, the block's names are let go, and it flies on -/
end
end Sl
namespace L2
open PySem PySem.Spec PyProof.Rows
theorem note_env (e : Value) {ce env : Env} (h : ce.frame = env.frame) : noteFrame e ce = noteFrame e env := by
  have q : PySem.frameOf ce = PySem.frameOf env := by unfold PySem.frameOf; rw [h]
  unfold noteFrame; rw [h, q]
theorem ns_up {h h' : Heap} {L : Addr} {m : Str → Option Value} (hn : h.Ns L m) (hk : h.UpToSlots h') : h'.Ns L m := by
  obtain ⟨o, es, ep, e, d, r⟩ := hn
  obtain ⟨sl, q⟩ := hk L o e fun vs z => by rw [d] at z; cases z
  exact ⟨_, es, ep, q, d, r⟩
theorem frames_but {h h' bg : Heap} {L : Addr} {m : Str → Option Value} (hs : Heap.SameBut L h h') (hn : h'.Ns L m) : ∀ {l : List Env}, h.FunFrames bg l → h'.FunFrames bg l
  | [], _ => trivial
  | _ :: _, ⟨k, ⟨L', o, f, b, ho, d⟩, r⟩ => by
    refine ⟨k, ?_, frames_but hs hn r⟩
    rcases Classical.em (L' = L) with q | q
    · obtain ⟨u, es, ep, hu, du, _⟩ := hn
      exact ⟨L', u, f, b, by rw [q]; exact hu, fun vs z => by rw [du] at z; cases z⟩
    · exact ⟨L', o, f, b, (hs.2 L' q).trans ho, d⟩
theorem traced_but {h h' bg : Heap} {e L : Addr} {Z : Obj → Prop} {fl : Value} {m : Str → Option Value} (x : HandSPX.TracedZ h bg e Z fl) (hn : h.Ns L m) (hs : Heap.SameBut L h h') : HandSPX.TracedZ h' bg e Z fl := by
  obtain ⟨oe, vs, T, oT, ts, he, hz, d, h1, hb, hT, eT, dT, h3⟩ := x
  obtain ⟨o, es, ep, ho, dd, _⟩ := hn
  have ne : ∀ b u, h.get? b = some u → (∃ vs, u.data = .fields vs) → b ≠ L := fun b u q ⟨vs, z⟩ w => by
    rw [w, ho] at q
    cases q
    rw [dd] at z
    cases z
  exact ⟨oe, vs, T, oT, ts, (hs.2 _ (ne _ _ he ⟨_, d⟩)).trans he, hz, d, h1, hb, hT, (hs.2 _ (ne _ _ eT ⟨_, dT⟩)).trans eT, dT, h3⟩
section
variable {M : Model} {A : Around} {E : Value → Shared → Prop} {s' : Shared} {bg : Heap} {env ce : Env} {outer : List Env} {e L : Addr} {Z : Obj → Prop} {m : Str → Option Value}
theorem noted_lc (hZ : HandSPX.Steady Z) (hfr : A.frames = some (env :: outer)) (hcf : ce.frame = env.frame) (hf : env.frame = some L) (hb : bg.get? ce.locals = none) (hn : s'.heap.Ns ce.locals m) (fl : HandSPX.FlyingZ bg (env :: outer) e Z s'.heap)
    (hQ : ∀ h', HandSPX.HeldZ bg (env :: outer) e Z L h' → (∀ b o, s'.heap.get? b = some o → b ≠ ce.locals → (∀ vs, o.data ≠ .fields vs) → ∃ sl, h'.get? b = some { o with slots := sl }) → E (.ref e) { s' with heap := h' }) :
    notedBy M A ce (CompFails M A E ce) (.ref e) s' := by
  show wpAny M A (noteFrame (.ref e) ce) _ _ s'
  rw [note_env _ hcf]
  refine HandSPX.looks_onZ hZ hfr hf fl fun h1 ⟨b1, b0, f1, t1⟩ k1 => ⟨m, ns_up hn k1, fun h2 m2 n2 sb => ?_⟩
  have st : bg.StaysIn h2 := fun b o q => (sb.2 b fun z => by rw [z, hb] at q; cases q).trans (b1 b o q)
  have t2 := traced_but t1 (ns_up hn k1) sb
  have f2 := frames_but sb n2 f1
  obtain ⟨oe, vs, T, oT, ts, he, _, d, h1', _⟩ := id t2
  unfold PySem.passOn
  refine wpAny_bind (wpAny_field he d h1' ?_)
  rw [if_neg (show ¬ ((Value.ref T == Value.none) = true) from by simp), hcf, hf]
  refine wpAny_bind (HandSPX.setFlight_onZ ⟨st, b0, f2, t2⟩ fun h3 hh k3 => wpAny_throw (hQ h3 hh fun b o q n nf => ?_))
  obtain ⟨sl, q1⟩ := k1 b o q nf
  obtain ⟨sl', q2⟩ := k3 b _ ((sb.2 b n).trans q1) nf
  exact ⟨sl', q2⟩
end
/-- an exception of a call in flight over the block -/
def XEF (X : Cx) (W : WX) (u : Value) (s' : Shared) : Prop :=
  ∃ (a : Addr) (B : Heap) (sI : Shared) (pins : List (Addr × Obj)) (σ : St) (H : Hp) (cls : Value) (d : Option Addr), u = .ref a ∧ Inv X pins σ H sI ∧ (∀ b o, sI.heap.get? b = some o → b ∉ frs X.stack → B.get? b = some o) ∧ sI.heap.UpToSlots s'.heap ∧
    HandSPX.FlyingZ B X.stack a (Zc cls d) s'.heap ∧ H a = none ∧ s'.os = sI.os ∧ AllBare s'.gens ∧ W cls d σ H
section
variable {X : Cx} {pins : List (Addr × Obj)} {σ : St} {H : Hp} {s s' : Shared} {W : WX} {E : XK}
theorem XEF.of_call (I : Inv X pins σ H s) (hW : ∀ cls d H', E cls d H' → W cls d σ H') {u : Value} (c : CX X.prog X.w X.stack H s E u s') : XEF X W u s' := by
  obtain ⟨a, B, H', cls, d, rfl, fl, hok, ub, na, os, ag, hE⟩ := c
  obtain ⟨G, g1, g2⟩ := restrict s'.heap fun b => (B.get? b).isSome || decide (b ∈ frs X.stack)
  have gB : ∀ b o, B.get? b = some o → G.get? b = some o := fun b o q => (g1 b (by simp [q])).trans (fl.1 b o q)
  have gF : ∀ b, b ∈ frs X.stack → G.get? b = s'.heap.get? b := fun b hb => g1 b (by simp [hb])
  have og : ∀ b o, G.get? b = some o → s'.heap.get? b = some o ∧ ((B.get? b).isSome = true ∨ b ∈ frs X.stack) := fun b o q => by
    by_cases z : ((B.get? b).isSome || decide (b ∈ frs X.stack)) = true
    · rw [g1 b z] at q
      exact ⟨q, by simpa [Bool.or_eq_true] using z⟩
    · rw [g2 b (Bool.not_eq_true _ ▸ z)] at q
      cases q
  have J : Inv X pins σ H' { s with heap := G, gens := s'.gens, drawn := s'.drawn, toks := s'.toks } :=
    I.call (ch := []) ⟨fun b o q n hb _ => gB b o (ub.keep b o q n hb), fun b o q _ hb _ => (ub.slot b o q hb).imp fun sl z => (gF b hb).trans z, fun b o q n _ => ub.free b o q n, fun b o q _ => by
      rcases Classical.em (b ∈ frs X.stack) with hb | hb
      · obtain ⟨sl, z⟩ := ub.slot b o q hb
        exact ⟨_, (gF b hb).trans z⟩
      · obtain ⟨o', z⟩ := ub.there b o q hb
        exact ⟨o', gB b o' z⟩, ub.tups, ub.frzs, ub.tbls⟩ (hok.kept gB) ag (fun _ z => nomatch z)
  refine ⟨a, B, _, pins, σ, H', cls, d, rfl, J, fun b o q hb => ?_, Heap.UpToSlots.of_keeps fun b o q => (og b o q).1, fl, na, os, ag, hW _ _ _ hE⟩
  obtain ⟨q', z⟩ := og b o q
  rcases z with z | z
  · obtain ⟨o', z⟩ := Option.isSome_iff_exists.mp z
    have y := fl.1 b o' z
    rw [q'] at y
    cases y
    exact z
  · exact absurd z hb
/-- the block, where its exceptions are told -/
abbrev Cx.blkX (X : Cx) (W : WX) (s : Shared) (H : Hp) (scope : Scope) (ce : Env) (fp : List Addr) : Cx := (X.blk s H scope ce fp).wish (XEF (X.blk s H scope ce fp) W)
theorem passB {W : WX} {s0 : Shared} {H0 : Hp} {scope : Scope} {ce : Env} {fp : List Addr} (σ : St) : PassesAt (L2.CX (X.blkX W s0 H0 scope ce fp).prog (X.blkX W s0 H0 scope ce fp).w) (X.blkX W s0 H0 scope ce fp) σ (WE W σ) :=
  fun _ _ _ _ _ I c => XEF.of_call (X := X.blk s0 H0 scope ce fp) (Inv.unwish I) (fun _ _ _ h => h) c
/-- the block's exception, in the def's air -/
theorem blk_out {s3 : Shared} {H3 : Hp} {scope : Scope} {ce : Env} {fp : List Addr} {u : Value} (I3 : Inv X pins σ H3 s3) (f3 : ∀ b ∈ fp, FpOk X pins H3 b ∧ b < s3.heap.objs.size) (hC : ce.locals = s3.heap.objs.size) (hcf : ce.frame = X.env.frame)
    (hst : X.stack = X.env :: X.outer) (hf : X.env.frame = some X.env.locals) {E : XK} (tk : Takes X (fun cls d _ H => E cls d H)) (x : XEF (X.blk s3 H3 scope ce fp) (fun cls d _ H => E cls d H) u s') : notedBy (model X.prog X.w) X.A ce (CompFails (model X.prog X.w) X.A X.xe ce) u s' := by
  obtain ⟨a, B, sI, pi, σ', H', cls, d, rfl, I, nb, up, fl, na, os, ag, w⟩ := x
  obtain ⟨m, hn, _⟩ := I.loc
  have hn : sI.heap.Ns ce.locals m := hn
  have hid : ∀ (h : Heap) b o, (PySem.W.hideAll h [ce.locals]).get? b = some o → h.get? b = some o ∧ b ≠ ce.locals := fun h b o q => ⟨PySem.W.of_hideAll _ q, fun z => by
    rw [PySem.W.hideAll_none [ce.locals] (by simp [z])] at q
    cases q⟩
  have sh : ∀ (h : Heap) b o, h.get? b = some o → b ≠ ce.locals → (PySem.W.hideAll h [ce.locals]).get? b = some o := fun h b o q n => PySem.W.hideAll_get _ q (by simpa using n)
  have no : ∀ b, B.get? b = none → (PySem.W.hideAll B [ce.locals]).get? b = none := fun b q => by
    cases z : (PySem.W.hideAll B [ce.locals]).get? b with
    | none => rfl
    | some o => rw [(hid _ _ _ z).1] at q; cases q
  have fl' : HandSPX.FlyingZ (PySem.W.hideAll B [ce.locals]) (X.env :: X.outer) a (Zc cls d) s'.heap := by
    obtain ⟨x1, x2, x3, oe, vs, T, oT, ts, y1, y2, y3, y4, y5, y6⟩ := fl
    rw [← hst]
    exact ⟨fun b o q => x1 b o (hid _ _ _ q).1, no a x2, funFrames_none x3 fun b hb => no b (x3.mem hb).1, oe, vs, T, oT, ts, y1, y2, y3, y4, no T y5, y6⟩
  have nC : ∀ b o, s3.heap.get? b = some o → b ≠ ce.locals := fun b o q z => absurd (Heap.lt_size q) (by rw [z, hC]; exact Nat.lt_irrefl _)
  refine noted_lc (Z := Zc cls d) Zc.steady (by rw [I3.ok.frames, hst]) hcf hf (PySem.W.hideAll_none _ (by simp)) (ns_up hn up) fl' fun h' hh k => tk _ _ ⟨a, PySem.W.hideAll B [ce.locals], { sI with heap := PySem.W.hideAll sI.heap [ce.locals] }, pins, σ, H', cls, d, rfl, ?_, fun b o q hb => ?_, fun b o q nf => ?_, .inr (.inr (by rw [hst]; exact hh)), na, os, ag, w⟩
  · have U : Un (frs X.stack) fp H3 H' s3.heap sI.heap := I.base
    refine I3.call' (ch := fp) I.os ⟨fun b o q n hb hx => sh _ _ _ (U.keep b o q n hb hx) (nC b o q), fun b o q n hb hx => (U.slot b o q n hb hx).imp fun sl z => sh _ _ _ z (nC b o q), U.free, fun b o q hx => (U.there b o q hx).imp fun o' z => sh _ _ _ z (nC b o q), U.tups, U.frzs, U.tbls⟩ (fun b o q => ?_) I.bare fun b hb => ⟨(f3 b hb).1.2.2.2.1, (f3 b hb).1.2.1, (f3 b hb).1.2.2.2.2.1, (f3 b hb).1.2.2.2.2.2⟩
    have fr : H' ce.locals = none := I.free
    exact (I.hok b o q).stay (fun c u hc r => sh _ _ _ r fun z => by
      rw [z] at hc
      rcases hc with hc | hc
      · rw [← hc, fr] at q; cases q
      · rw [fr] at hc; cases hc) (fun _ r => r) fun _ _ r => r
  · obtain ⟨q1, q2⟩ := hid _ _ _ q
    exact sh _ _ _ (nb b o q1 hb) q2
  · obtain ⟨q1, q2⟩ := hid _ _ _ q
    obtain ⟨sl, e1⟩ := up b o q1 nf
    obtain ⟨sl', e2⟩ := k b _ e1 q2 nf
    exact ⟨sl', e2⟩
end
end L2
namespace Sl
open PySem PySem.Spec PyProof.Rows L2
section
variable {P : Program} {w : World} {K : PySem.W.Frag} {mg : Str → Option Value} {base : Heap}

end
section
variable {P : Program} {w : World} {K : PySem.W.Frag} {mg : Str → Option Value} {base : Heap}
local macro_rules | `(tactic| get_elem_tactic_trivial) => `(tactic| (repeat first | exact Wk.nil | exact Wk'.nil | refine Wk.same ?_ | refine Wk'.same ?_ | refine Wk.un (fun _ z => nomatch z) ?_ | refine Wk'.un ?_))
/-! [elt for .. in ..] whose element may raise, as a value and stored -/
end
end Sl
namespace L2
open PySem PySem.Spec PyProof.Rows
section
variable {X : Cx} {pins : List (Addr × Obj)} {σ : St} {H : Hp} {s : Shared} {E : XK}
theorem blk_back {s3 s' : Shared} {H3 H' : Hp} {scope : Scope} {ce : Env} {fp : List Addr} {pi : List (Addr × Obj)} {σ' : St} (I3 : Inv X pins σ H3 s3) (f3 : ∀ b ∈ fp, FpOk X pins H3 b ∧ b < s3.heap.objs.size) (I : Inv (X.blk s3 H3 scope ce fp) pi σ' H' s') : Inv X pins σ H' s' :=
  I3.call' (ch := fp) I.os I.base I.hok I.bare fun b hb => ⟨(f3 b hb).1.2.2.2.1, (f3 b hb).1.2.1, (f3 b hb).1.2.2.2.2.1, (f3 b hb).1.2.2.2.2.2⟩
/-- the loop, the block having begun -/
theorem lcX_loop {Q : VK} {elt tg iter : Expr} {ifs : List Expr} {scope : Scope} {vs : List Nat} {pos : Pos} {g : TG} {tt : TT} {te : TE} {use : Option (Value → Sem Unit)} {Qf : Value → Shared → Prop} {s3 s4 : Shared} {H3 : Hp} {ce : Env} {fp : List Addr} {tn : Nat → Heap → Prop} {J : It} {it D : Addr}
    (hc : X.calm = true) (I3 : Inv X pins σ H3 s3) (f3 : ∀ b ∈ fp, FpOk X pins H3 b ∧ b < s3.heap.objs.size) (I4 : Inv (X.blk s3 H3 scope ce fp) [] (wipe σ vs) H3 s4) (T : Turn X.prog X.w X.K tg J fp it tn) (st4 : tn 0 s4.heap)
    (hC : ce.locals = s3.heap.objs.size) (hcf : ce.frame = X.env.frame) (hst : X.stack = X.env :: X.outer) (hf : X.env.frame = some X.env.locals) (tk : Takes X (fun cls d _ H => E cls d H))
    (pg : PG (X.blk s3 H3 scope ce fp) tg g) (pt : PTs (X.blk s3 H3 scope ce fp) ifs tt) (pe : PE (X.blkX (fun cls d _ H => E cls d H) s3 H3 scope ce fp) elt te)
    {W : Nat → Nat → Hp → Prop} {m0 : Nat} (w0 : W 0 m0 H3) (turn : ∀ i m H, W i m H → (J.stop i H ∧ Q (.ref D) H) ∨ (J.go i H ∧ ∃ Nx : Hp → Prop, (∀ H', Nx H' → ∃ m', m' < m ∧ W (i + 1) m' H') ∧ ∀ x H', J.yld i H x H' → g x (wipe σ vs) H' fun σ2 H2 => wipe σ2 vs = wipe σ vs ∧ tt σ2 H2 fun b H3 =>
      if b = true then te σ2 H3 fun y H4 => ∃ acc, H4 D = some (.lst acc) ∧ acc.length < sizeLine ∧ Nx (upd H4 D (.lst (acc ++ [y]))) else Nx H3))
    (hRR : ∀ s' m H', Inv X pins σ H' s' → Q (.ref D) H' → s'.heap.Ns ce.locals m → FpOk X pins H' ce.locals → compEnds (model X.prog X.w) X.A X.xe use Qf (.ref D) ce (.ok .next) s') :
    codeAny (model X.prog X.w) X.A (.compLoop (.ListComp elt [⟨tg, iter, ifs, 0⟩] scope pos) 0 (.ref it) (.ref D) ce) (compEnds (model X.prog X.w) X.A X.xe use Qf (.ref D) ce) s4 := by
  have nfp : ∀ b ∈ fp, H3 b = none := fun b hb => (f3 b hb).1.1
  have stat : ∀ {σ' : St} {H' : Hp} {s' : Shared}, Inv (X.blk s3 H3 scope ce fp) [] σ' H' s' → (∀ b ∈ fp, H' b = none) → ∀ b ∈ fp, FpOk (X.blk s3 H3 scope ce fp) [] H' b := fun I' hn b hb =>
    ⟨hn b hb, (I'.ok.exf b hb).1, I'.ok.exfs b hb, .inl hb, fun x c e => (I'.ok.exf b hb).2 x c e, fun p hp => by simp at hp⟩
  refine compLoop_any (fun n s' => ∃ i H', Inv (X.blk s3 H3 scope ce fp) [] (wipe σ vs) H' s' ∧ tn i s'.heap ∧ (∀ b ∈ fp, H' b = none) ∧ W i n H') ?_ m0 ⟨0, H3, I4, st4, nfp, w0⟩
  rintro n s5 ⟨i, H5, I5, st5, n5, w5⟩
  rcases turn i n H5 w5 with ⟨stop, qq⟩ | ⟨go, Nx, hNx, step⟩
  · refine thnF (T.done (X.blk s3 H3 scope ce fp) rfl rfl rfl hc i [] s5 _ H5 (fun _ _ => False) I5 (stat I5 n5) st5 stop) ?_
    rintro _ s6 ⟨rfl, I6⟩
    obtain ⟨m, hn, _⟩ := I6.loc
    exact hRR s6 m H5 (blk_back I3 f3 I6) qq hn (I3.fpOk (Nat.le_of_eq hC.symm) I6.free)
  · refine thnF (T.item (X.blk s3 H3 scope ce fp) rfl rfl rfl hc i [] s5 _ H5 (fun _ _ => False) I5 (stat I5 n5) st5 go) ?_
    rintro _ s6 ⟨u, rfl, h6⟩
    refine thnF h6 fun _ s7 ⟨x, H7, I7, r7, y7, st7, n7⟩ => ?_
    refine thnF (pg.run _ s7 _ H7 x u _ (I7.pinned (stat I7 n7) (T.obj _ _ st7)) r7 (step x H7 y7)) fun _ s8 ⟨σ8, H8, I8, hw8, q8⟩ => ?_
    have next : ∀ {s' : Shared} {H' : Hp}, Inv (X.blk s3 H3 scope ce fp) ([] ++ pinsAt fp s7.heap) σ8 H' s' → Nx H' → ∃ m, m < n ∧ ∃ i H', Inv (X.blk s3 H3 scope ce fp) [] (wipe σ vs) H' s' ∧ tn i s'.heap ∧ (∀ b ∈ fp, H' b = none) ∧ W i m H' := fun {s' H'} I' nx => by
      obtain ⟨m', hm, w'⟩ := hNx H' nx
      have kept : ∀ b ∈ fp, ∀ o, s7.heap.get? b = some o → s'.heap.get? b = some o ∧ H' b = none := fun b hb o e =>
        have z := I'.pin (b, o) (List.mem_append_right _ (List.mem_append_right _ (mem_pinsAt hb e)))
        ⟨z.1, z.2.1⟩
      refine ⟨m', hm, i + 1, H', (I'.unpinned (pins := [])).weak (by rw [← hw8, wipe_length]) (fun j v e => (wipe_some (hw8 ▸ e)).1), T.keep _ _ _ st7 fun b hb o e => (kept b hb o e).1, fun b hb => ?_, w'⟩
      obtain ⟨o, e, _⟩ := T.obj _ _ st7 b hb
      exact (kept b hb o e).2
    refine thnF (pt.run _ s8 σ8 H8 _ I8 q8) fun b s9 ⟨H9, I9, q9⟩ => ?_
    cases b with
    | false =>
      simp only [Bool.false_eq_true, if_false] at q9 ⊢
      exact next I9 q9
    | true =>
      simp only [if_true] at q9 ⊢
      refine wpAny_mono (pe.run _ s9 σ8 H9 _ (I9.wish _) q9) (fun z s10 ⟨yv, H10, I10, r10, acc, hD10, hz10, nx⟩ => ?_) fun e s' x => ?_
      · exact app_ok (X := X.blk s3 H3 scope ce fp) (Inv.unwish I10) hD10 hz10 r10 fun s11 I11 => next I11 nx
      · have z := blk_out I3 f3 hC hcf hst hf tk x
        cases use <;> exact z
theorem lcX_core {Q : VK} {elt tg iter : Expr} {ifs : List Expr} {scope : Scope} {own : List (Str × Nat)} {pos pos' : Pos} {wi : TI} {g : TG} {tt : TT} {te : TE} {use : Option (Value → Sem Unit)} {Qf : Value → Shared → Prop}
    (hc : X.calm = true) (hN : X.N.Nodup) (hst : X.stack = X.env :: X.outer) (hf : X.env.frame = some X.env.locals) (tk : Takes X (fun cls d _ H => E cls d H)) (I : Inv X pins σ H s) (hi : PI X tg iter wi) (ok : BlkOk X.N X.env.scope scope own)
    (hg : ∀ (s : Shared) (H : Hp) (C : Addr) (cl : List (Str × Addr)) (fp : List Addr), PG (X.blk s H scope (compEnvC scope cl C X.env) fp) tg g) (ht : ∀ (s : Shared) (H : Hp) (C : Addr) (cl : List (Str × Addr)) (fp : List Addr), PTs (X.blk s H scope (compEnvC scope cl C X.env) fp) ifs tt)
    (he : ∀ (s : Shared) (H : Hp) (C : Addr) (cl : List (Str × Addr)) (fp : List Addr), PE (X.blkX (fun cls d _ H => E cls d H) s H scope (compEnvC scope cl C X.env) fp) elt te) (hs : ∀ x, foldedSetIterable iter X.env x = pure x)
    (h : tLc wi g tt te (own.map (·.2)) σ H Q)
    (hRR : ∀ D ce s' m H', Inv X pins σ H' s' → Q (.ref D) H' → s'.heap.Ns ce.locals m → FpOk X pins H' ce.locals → compEnds (model X.prog X.w) X.A X.xe use Qf (.ref D) ce (.ok .next) s') :
    wpAny (model X.prog X.w) X.A (comprehension (.ListComp elt [⟨tg, iter, ifs, 0⟩] scope pos) scope X.env pos' (newList []) false (eval iter X.env) use) Qf X.xe s := by
  refine comprehension_at (use := use) rfl hs (closure_ok fun y hy e => (ok.free y hy e).elim (fun k => I.ok.has _ (.inl k)) fun k => I.ok.has _ (.inr k)) ok.kind (fun y hy e => by rw [ok.uniq y hy, e])
    (thn (hi.run pins s σ H _ I h) fun _ s1 hx => thn hx ?_)
  rintro _ s2 ⟨it, fp, tn, J, H2, rfl, I2, T, st2, f2, q⟩
  refine wpAny_newObj_type (newEnv_comp ?_) (by show 0 ≤ sizeLine; decide)
  obtain ⟨W, ⟨m0, w0⟩, turn⟩ := q s2.heap.objs.size (I2.hok.fresh (Nat.le_refl _))
  generalize hs3 : ({ s2 with heap := s2.heap.push { cls := .type "list", data := .seq ([] : List Value).toArray } } : Shared) = s3
  have push : ∀ b o, s2.heap.get? b = some o → s3.heap.get? b = some o := fun b o e => by rw [← hs3]; exact Heap.get?_push_of_some _ e
  have I3 : Inv X pins σ (upd H2 s2.heap.objs.size (.lst [])) s3 := by
    rw [← hs3]
    exact I2.laid (t' := s2.toks) (fun b o e => Heap.get?_push_of_some _ e) (Nat.le_refl _) ⟨Nat.zero_le _, [], 0, .nil, Heap.get?_push_size _ rfl⟩
  have f3 : ∀ b ∈ fp, FpOk X pins (upd H2 s2.heap.objs.size (.lst [])) b ∧ b < s3.heap.objs.size := fun b hb => by
    obtain ⟨o, e, _⟩ := T.obj _ _ st2 b hb
    exact ⟨⟨by rw [upd_ne (Nat.ne_of_lt (Heap.lt_size e))]; exact (f2 b hb).1, (f2 b hb).2⟩, Heap.lt_size (push b o e)⟩
  have I4 := block_start I3 ok hN f3
  have st4 : tn 0 (pushCells (s3.heap.push { cls := .type "dict", data := .dict #[] }) scope.names) := T.keep _ _ _ st2 fun b _ o e => pushCells_keeps _ _ _ _ (Heap.get?_push_of_some _ (push b o e))
  have loop := lcX_loop (Q := Q) (elt := elt) (iter := iter) (pos := pos) (use := use) (Qf := Qf) (m0 := m0) hc I3 f3 I4 T st4 rfl rfl hst hf tk (hg _ _ _ _ _) (ht _ _ _ _ _) (he _ _ _ _ _) w0 turn fun s' m H' => hRR _ _ s' m H'
  exact codeAny_compStart_list loop (T.self X.A 0 _ _ _ st4 loop)
/-- as a value -/
theorem pe_lcX {elt tg iter : Expr} {ifs : List Expr} {scope : Scope} {own : List (Str × Nat)} {pos : Pos} {wi : TI} {g : TG} {tt : TT} {te : TE} (hc : X.calm = true) (hN : X.N.Nodup) (hst : X.stack = X.env :: X.outer) (hf : X.env.frame = some X.env.locals) (tk : Takes X (fun cls d _ H => E cls d H)) (hi : PI X tg iter wi) (ok : BlkOk X.N X.env.scope scope own)
    (hg : ∀ (s : Shared) (H : Hp) (C : Addr) (cl : List (Str × Addr)) (fp : List Addr), PG (X.blk s H scope (compEnvC scope cl C X.env) fp) tg g) (ht : ∀ (s : Shared) (H : Hp) (C : Addr) (cl : List (Str × Addr)) (fp : List Addr), PTs (X.blk s H scope (compEnvC scope cl C X.env) fp) ifs tt)
    (he : ∀ (s : Shared) (H : Hp) (C : Addr) (cl : List (Str × Addr)) (fp : List Addr), PE (X.blkX (fun cls d _ H => E cls d H) s H scope (compEnvC scope cl C X.env) fp) elt te) (hs : ∀ x, foldedSetIterable iter X.env x = pure x := by intro _; rfl) :
    PE X (.ListComp elt [⟨tg, iter, ifs, 0⟩] scope pos) (tLc wi g tt te (own.map (·.2))) := ⟨fun pins s σ H Q I h => by
  rw [eval_ListComp]
  exact lcX_core hc hN hst hf tk I hi ok hg ht he hs h fun D ce s' m H' I' q hn ⟨f0, f1, f2, f3, f4, f5⟩ => ⟨m, hn, fun h'' sb => ⟨.ref D, H', I'.turned (t' := s'.toks) (fun b o hb e => (sb.2 b hb).trans e) f0 f1 f3 f4 f5, rfl, q⟩⟩⟩
/-- y = [..] on one line, y a local -/
theorem ps_setLcX {i : Nat} {y : Str} {py : Pos} {elt tg iter : Expr} {ifs : List Expr} {scope : Scope} {own : List (Str × Nat)} {pos spos : Pos} {wi : TI} {g : TG} {tt : TT} {te : TE} (hc : X.calm = true) (hN : X.N.Nodup) (hst : X.stack = X.env :: X.outer) (hf : X.env.frame = some X.env.locals) (tk : Takes X (fun cls d _ H => E cls d H))
    (hy : X.N[i]? = some y) (hyl : X.env.scope.names.lookup y = some .local) (hsw : swapsWith (.ListComp elt [⟨tg, iter, ifs, 0⟩] scope pos) (some (.Name y py)) spos.line X.env = pure true) (hi : PI X tg iter wi) (ok : BlkOk X.N X.env.scope scope own)
    (hg : ∀ (s : Shared) (H : Hp) (C : Addr) (cl : List (Str × Addr)) (fp : List Addr), PG (X.blk s H scope (compEnvC scope cl C X.env) fp) tg g) (ht : ∀ (s : Shared) (H : Hp) (C : Addr) (cl : List (Str × Addr)) (fp : List Addr), PTs (X.blk s H scope (compEnvC scope cl C X.env) fp) ifs tt)
    (he : ∀ (s : Shared) (H : Hp) (C : Addr) (cl : List (Str × Addr)) (fp : List Addr), PE (X.blkX (fun cls d _ H => E cls d H) s H scope (compEnvC scope cl C X.env) fp) elt te) (hs : ∀ x, foldedSetIterable iter X.env x = pure x := by intro _; rfl) :
    PS X (.Assign [.Name y py] (.ListComp elt [⟨tg, iter, ifs, 0⟩] scope pos) spos) (tAsg (tLc wi g tt te (own.map (·.2))) (gName i)) := ⟨fun pins s σ H D I h => by
  rw [exec_Assign_Name_used _ _ _ _ hsw]
  refine wpAny_bind (wpAny_standAt (wpAny_bind ?_))
  show wpAny _ X.A (do let _ ← comprehension (.ListComp elt [⟨tg, iter, ifs, 0⟩] scope pos) scope X.env (firstIterPos [⟨tg, iter, ifs, 0⟩] pos) (newList []) false (eval iter X.env) (some (assign (.Name y py) X.env))) _ _ s
  refine wpAny_bind (thn (lcX_core (Qf := fun _ s' => SP X pins D .next s') (Q := fun x H1 => gName i x σ H1 D.nx) hc hN hst hf tk I hi ok hg ht he hs h fun L ce s' m H' I' q hn ⟨f0, f1, f2, f3, f4, f5⟩ => ?_) fun _ s' hq => wpAny_pure (wpAny_pure hq))
  show wpAny _ _ (assign (.Name y py) X.env (.ref L)) _ _ _
  refine wpAny_assign_Name (store_ok2 (v := V.ref L) I' hN hy (.inl hyl) rfl (fun s2 I2 ⟨a, sb, ha⟩ => ?_) (.inr hyl))
  have ne : ce.locals ≠ a := ha.elim (fun z => by rw [z]; exact f1) fun z e => f4 y a z e.symm
  exact ⟨m, hn.sameBut sb ne, fun h3 sb3 => ⟨_, H', I2.turned (t' := s2.toks) (fun b o hb e => (sb3.2 b hb).trans e) f0 f1 f3 f4 f5, q⟩⟩⟩
end
end L2
namespace Sl
open PySem PySem.Spec PyProof.Rows L2
section
variable {P : Program} {w : World} {K : PySem.W.Frag} {mg : Str → Option Value} {base : Heap}

end
section
variable {P : Program} {w : World} {K : PySem.W.Frag} {mg : Str → Option Value} {base : Heap}
local macro_rules | `(tactic| get_elem_tactic_trivial) => `(tactic| (repeat first | exact Wk.nil | exact Wk'.nil | refine Wk.same ?_ | refine Wk'.same ?_ | refine Wk.un (fun _ z => nomatch z) ?_ | refine Wk'.un ?_))
/-! level 2: a new list of scalars, told with all chunks as they stand, grown cold at once -/

end
section
variable {P : Program} {w : World} {K : PySem.W.Frag} {mg : Str → Option Value} {base : Heap}
local macro_rules | `(tactic| get_elem_tactic_trivial) => `(tactic| (repeat first | exact Wk.nil | exact Wk'.nil | refine Wk.same ?_ | refine Wk'.same ?_ | refine Wk.un (fun _ z => nomatch z) ?_ | refine Wk'.un ?_))
/-! texts put together; wide numbers as texts; partition; wide numbers shown at any depth -/
/-! str of a text or a number of any size -/
/-! partition -/
end
section
variable {P : Program} {w : World} {K : PySem.W.Frag} {mg : Str → Option Value} {base : Heap}
local macro_rules | `(tactic| get_elem_tactic_trivial) => `(tactic| (repeat first | exact Wk.nil | exact Wk'.nil | refine Wk.same ?_ | refine Wk'.same ?_ | refine Wk.un (fun _ z => nomatch z) ?_ | refine Wk'.un ?_))
/-! shown, numbers of any size -/
end
section
variable {P : Program} {w : World} {K : PySem.W.Frag} {mg : Str → Option Value} {base : Heap}
local macro_rules | `(tactic| get_elem_tactic_trivial) => `(tactic| (repeat first | exact Wk.nil | exact Wk'.nil | refine Wk.same ?_ | refine Wk'.same ?_ | refine Wk.un (fun _ z => nomatch z) ?_ | refine Wk'.un ?_))
/-! what may be shown so -/
/-! a list taken apart -/

end
section
variable {P : Program} {w : World} {K : PySem.W.Frag} {mg : Str → Option Value} {base : Heap}
local macro_rules | `(tactic| get_elem_tactic_trivial) => `(tactic| (repeat first | exact Wk.nil | exact Wk'.nil | refine Wk.same ?_ | refine Wk'.same ?_ | refine Wk.un (fun _ z => nomatch z) ?_ | refine Wk'.un ?_))
/-! level 3: lists, instances, dicts that are changed wherever they stand, and packs of such, by their addresses -/
inductive Fl where
  | lst (ds : List Dt) | ins (c : Str) (ns : List Str) (ds : List Dt) | dic (ks : List Key) (ds : List Dt) | lck (ks : List Key) (ds : List Dt)
abbrev Fm := List (Addr × Fl)
inductive Ob where
  | fl (f : Fl) | pk (I : Addr → Fm → Prop)
abbrev My := List (Addr × Ob)
def FlOk (K : PySem.W.Frag) (C U : Hp) (a : Addr) : Fl → Prop
  | .lst ds => ∃ vs, U a = some (.lst vs) ∧ RpL K C vs ds
  | .ins c ns ds => ∃ dx vs, U a = some (.ins (He.ga K c) dx (ns.zip vs)) ∧ U dx = some (.own a) ∧ ns.length = vs.length ∧ RpL K C vs ds ∧ ∀ f, f ∈ ns → FldOk K c f
  | .dic ks ds => ∃ vs, U a = some (.dK (ks.zip vs)) ∧ ks.length = vs.length ∧ ks.Nodup ∧ RpL K C vs ds
  | .lck ks ds => ∃ o vs, U a = some (.frz o (.dK (ks.zip vs))) ∧ ks.length = vs.length ∧ ks.Nodup ∧ RpL K C vs ds
structure Mf (K : PySem.W.Frag) (B : Bs) (C U : Hp) (m : Fm) : Prop where
  nd : (m.map (·.1)).Nodup
  at_ : ∀ a f, (a, f) ∈ m → FlOk K C U a f
  all : ∀ a o, U a = some o → (∃ f, (a, f) ∈ m) ∨ ∃ x f, o = .own x ∧ (x, f) ∈ m
  fr : ∀ a o, U a = some o → C a = none ∧ B.H0 a = none ∧ ∀ i, B.bx ≠ some (i, a)
def SepF (K : PySem.W.Frag) (B : Bs) (C H : Hp) (σ : L2.St) (ρ : List Sl) (m : Fm) : Prop := ∃ U, Mf K B C U m ∧ Sep K (B.hang U) C H σ ρ
def NoSlot (σ : L2.St) (ρ : List Sl) (a : Addr) : Prop := ∀ (j : Nat) (t : Sl), ρ[j]? = some t → t.mut = true → σ[j]? ≠ some (some (V.ref a))
section
variable {B : Bs} {C C' H G U U' : Hp} {σ σ' : L2.St} {ρ ρ' : List Sl} {m m1 m2 : Fm} {a : Addr} {f : Fl}
theorem FlOk.root (h : FlOk K C U a f) : ∃ o, U a = some o ∧ ∀ x, o ≠ .own x := by
  cases f with
  | lst ds => obtain ⟨vs, e, _⟩ := h; exact ⟨_, e, fun _ z => nomatch z⟩
  | ins c ns ds => obtain ⟨dx, vs, e, _⟩ := h; exact ⟨_, e, fun _ z => nomatch z⟩
  | dic ks ds => obtain ⟨vs, e, _⟩ := h; exact ⟨_, e, fun _ z => nomatch z⟩
  | lck ks ds => obtain ⟨o, vs, e, _⟩ := h; exact ⟨_, e, fun _ z => nomatch z⟩
theorem FlOk.same (h : FlOk K C U a f) (s : Same C C') : FlOk K C' U a f := by
  cases f with
  | lst ds => obtain ⟨vs, e, r⟩ := h; exact ⟨vs, e, r.same s⟩
  | ins c ns ds => obtain ⟨dx, vs, e, e2, l, r, ff⟩ := h; exact ⟨dx, vs, e, e2, l, r.same s, ff⟩
  | dic ks ds => obtain ⟨vs, e, l, n, r⟩ := h; exact ⟨vs, e, l, n, r.same s⟩
  | lck ks ds => obtain ⟨o, vs, e, l, n, r⟩ := h; exact ⟨o, vs, e, l, n, r.same s⟩
theorem FlOk.heap (h : FlOk K C U a f) (k : ∀ b o, (b = a ∨ o = .own a) → U b = some o → U' b = some o) : FlOk K C U' a f := by
  cases f with
  | lst ds => obtain ⟨vs, e, r⟩ := h; exact ⟨vs, k _ _ (.inl rfl) e, r⟩
  | ins c ns ds => obtain ⟨dx, vs, e, e2, l, r, ff⟩ := h; exact ⟨dx, vs, k _ _ (.inl rfl) e, k _ _ (.inr rfl) e2, l, r, ff⟩
  | dic ks ds => obtain ⟨vs, e, l, r⟩ := h; exact ⟨vs, k _ _ (.inl rfl) e, l, r⟩
  | lck ks ds => obtain ⟨o, vs, e, l, r⟩ := h; exact ⟨o, vs, k _ _ (.inl rfl) e, l, r⟩
theorem Mf.ne (M : Mf K B C U m) (h : (a, f) ∈ m) : U a ≠ none := fun z => by
  obtain ⟨o, e, _⟩ := (M.at_ a f h).root
  rw [z] at e
  cases e
theorem Mf.on (M : Mf K B C U m) (g : Same B.C0 C) (s : Same C C') (S : Sep K (B.hang U) C' G σ' ρ') : Mf K B C' U m :=
  ⟨M.nd, fun a f h => (M.at_ a f h).same s, M.all, fun a o h => by
    obtain ⟨c, b, x⟩ := M.fr a o h
    refine ⟨?_, b, x⟩
    cases q : C' a with
    | none => rfl
    | some u =>
      have := S.new a u q (g.free c)
      rw [hang_at h] at this
      cases this⟩
theorem Mf.bound (M : Mf K B C U m) (S : Sep K (B.hang U) C H σ ρ) {o : HO} (h : U a = some o) : H a = some o := S.keep a o (hang_at h) (M.fr a o h).2.2
theorem Mf.noSlot (M : Mf K B C U m) (S : Sep K (B.hang U) C H σ ρ) {o : HO} (h : U a = some o) : NoSlot σ ρ a := fun j t hj mt e => by
  obtain ⟨_, b0, bx⟩ := M.fr a o h
  cases t with
  | un => cases mt
  | dat d => cases mt
  | hot ds =>
    have := S.loc j a ds hj e
    rw [hang_at h] at this
    cases this
  | box n =>
    rcases S.lob j a n hj e with z | z
    · rw [hang_at h] at z
      cases z
    · exact absurd z (bx j)
/-- fewer are hung -/
theorem Sep.hangLe (S : Sep K (B.hang U) C H σ ρ) (le : ∀ a o, U' a = some o → U a = some o) (fr : ∀ a o, U a = some o → B.H0 a = none) : Sep K (B.hang U') C H σ ρ := by
  have off : ∀ {a : Addr}, (B.hang U).H0 a = none → (B.hang U').H0 a = none := fun {a} h => by
    obtain ⟨h1, h2⟩ := hang_no h
    have h3 : U' a = none := by
      cases q : U' a with
      | none => rfl
      | some o => rw [le a o q] at h1; cases h1
    rw [hang_off h3]
    exact h2
  have b0 : ∀ {a : Addr}, U' a = none → ∀ {x : HO}, B.H0 a = some x → (B.hang U).H0 a = some x := fun {a} e {x} h => by
    cases q : U a with
    | some o => rw [fr a o q] at h; cases h
    | none => rw [hang_off q]; exact h
  refine ⟨S.cold, S.len, S.sl, S.ne, S.grow, fun a x e n => off (S.new a x e n), fun a h => ?_, fun a x h n => ?_, fun i a ds h e => off (S.loc i a ds h e), fun i a n h e => (S.lob i a n h e).imp off id, S.par, S.pz⟩
  · cases q : U' a with
    | some o => exact S.dom a (by rw [hang_at (le a o q)]; exact fun z => nomatch z)
    | none =>
      rw [hang_off q] at h
      cases q2 : B.H0 a with
      | none => exact absurd q2 h
      | some x => exact S.dom a (by rw [b0 q q2]; exact fun z => nomatch z)
  · cases q : U' a with
    | some o =>
      rw [hang_at q] at h
      cases h
      exact S.keep a _ (hang_at (le a _ q)) n
    | none =>
      rw [hang_off q] at h
      exact S.keep a x (b0 q h) n
theorem Sep.unhang (S : Sep K (B.hang U) C H σ ρ) (M : Mf K B C U m) : Sep K B C H σ ρ := by
  have := S.hangLe (U' := fun _ => none) (fun a o h => nomatch h) fun a o h => (M.fr a o h).2.1
  rwa [hang_nil] at this
/-- a part of what is hung -/
noncomputable def partU (U : Hp) (m : Fm) : Hp := fun a => by
  classical
  exact if (∃ f, (a, f) ∈ m) ∨ ∃ x f, U a = some (.own x) ∧ (x, f) ∈ m then U a else none
theorem partU_le {o : HO} (h : partU U m a = some o) : U a = some o ∧ ((∃ f, (a, f) ∈ m) ∨ ∃ x f, o = .own x ∧ (x, f) ∈ m) := by
  unfold partU at h
  split at h
  · next q =>
    refine ⟨h, q.imp id ?_⟩
    rintro ⟨x, f, e, k⟩
    rw [h] at e
    cases e
    exact ⟨x, f, rfl, k⟩
  · cases h
theorem partU_in {o : HO} (h : U a = some o) (q : (∃ f, (a, f) ∈ m) ∨ ∃ x f, o = .own x ∧ (x, f) ∈ m) : partU U m a = some o := by
  unfold partU
  rw [if_pos]
  · exact h
  · refine q.imp id ?_
    rintro ⟨x, f, rfl, k⟩
    exact ⟨x, f, h, k⟩
theorem Mf.part {M' : Fm} (M : Mf K B C U M') (sub : ∀ x, x ∈ m → x ∈ M') (nd : (m.map (·.1)).Nodup) : Mf K B C (partU U m) m :=
  ⟨nd, fun a f h => (M.at_ a f (sub _ h)).heap fun b o q e => partU_in e (q.imp (fun z => ⟨f, by rw [z]; exact h⟩) fun z => ⟨a, f, z, h⟩), fun a o h => (partU_le h).2, fun a o h => M.fr a o (partU_le h).1⟩
theorem SepF.split (S : SepF K B C H σ ρ (m1 ++ m2)) : ∃ U1 U2, Mf K B C U1 m1 ∧ Mf K B C U2 m2 ∧ Sep K (B.hang U2) C H σ ρ ∧ ∀ a o, U1 a = some o → H a = some o ∧ U2 a = none ∧ NoSlot σ ρ a := by
  obtain ⟨U, M, S⟩ := S
  have nd := M.nd
  rw [List.map_append] at nd
  obtain ⟨n1, n2, n3⟩ := List.nodup_append.mp nd
  have dis : ∀ a f g, (a, f) ∈ m1 → (a, g) ∈ m2 → False := fun a f g h1 h2 => n3 a (List.mem_map.mpr ⟨_, h1, rfl⟩) a (List.mem_map.mpr ⟨_, h2, rfl⟩) rfl
  refine ⟨partU U m1, partU U m2, M.part (fun x h => List.mem_append_left _ h) n1, M.part (fun x h => List.mem_append_right _ h) n2, S.hangLe (fun a o h => (partU_le h).1) fun a o h => (M.fr a o h).2.1, fun a o h => ?_⟩
  obtain ⟨e, k⟩ := partU_le h
  refine ⟨M.bound S e, ?_, M.noSlot S e⟩
  cases q : partU U m2 a with
  | none => rfl
  | some u =>
    obtain ⟨e2, k2⟩ := partU_le q
    rw [e] at e2
    cases e2
    have nown : ∀ {g : Fl} {x : Addr}, (a, g) ∈ m1 ++ m2 → o ≠ .own x := fun {g x} z => by
      obtain ⟨o', e', ne⟩ := (M.at_ a g z).root
      rw [e] at e'
      cases e'
      exact ne x
    rcases k with ⟨f, k⟩ | ⟨x, f, k, k'⟩
    · rcases k2 with ⟨g, k2⟩ | ⟨y, g, k2, _⟩
      · exact (dis a f g k k2).elim
      · exact absurd k2 (nown (List.mem_append_left _ k))
    · rcases k2 with ⟨g, k2⟩ | ⟨y, g, k2, k2'⟩
      · exact absurd k (nown (List.mem_append_right _ k2))
      · rw [k] at k2
        cases k2
        exact (dis x f g k' k2').elim
theorem SepF.join {U1 U2 : Hp} (M1 : Mf K B C U1 m1) (M2 : Mf K B C U2 m2) (S : Sep K (B.hang U2) C H σ ρ) (hh : ∀ a o, U1 a = some o → H a = some o ∧ U2 a = none ∧ NoSlot σ ρ a) : SepF K B C H σ ρ (m1 ++ m2) := by
  have l1 : ∀ {b : Addr} {o : HO}, U1 b = some o → (fun a => match U1 a with | some o => some o | none => U2 a) b = some o := fun {b o} e => by
    show (match U1 b with | some o => some o | none => U2 b) = _
    rw [e]
  have l2 : ∀ {b : Addr} {o : HO}, U2 b = some o → (fun a => match U1 a with | some o => some o | none => U2 a) b = some o := fun {b o} e => by
    show (match U1 b with | some o => some o | none => U2 b) = _
    cases q : U1 b with
    | none => exact e
    | some u =>
      have := (hh b u q).2.1
      rw [e] at this
      cases this
  have un : ∀ {b : Addr} {o : HO}, (fun a => match U1 a with | some o => some o | none => U2 a) b = some o → U1 b = some o ∨ U2 b = some o := fun {b o} e => by
    have e : (match U1 b with | some o => some o | none => U2 b) = some o := e
    cases q : U1 b with
    | none => rw [q] at e; exact .inr e
    | some u => rw [q] at e; cases e; exact .inl rfl
  refine ⟨_, ⟨?_, fun a f h => ?_, fun a o h => ?_, fun a o h => ?_⟩, S.hangAll (U' := U1) fun a o h => ⟨(hh a o h).1, (M1.fr a o h).1, by rw [hang_off (hh a o h).2.1]; exact (M1.fr a o h).2.1, (hh a o h).2.2⟩⟩
  · rw [List.map_append]
    refine List.nodup_append.mpr ⟨M1.nd, M2.nd, fun a h1 b h2 z => ?_⟩
    subst z
    obtain ⟨⟨x, f⟩, g1, rfl⟩ := List.mem_map.mp h1
    obtain ⟨⟨y, g⟩, g2, e2⟩ := List.mem_map.mp h2
    have e3 : y = x := e2
    subst e3
    cases q : U1 y with
    | none => exact M1.ne g1 q
    | some o => exact M2.ne g2 (hh y o q).2.1
  · rcases List.mem_append.mp h with h | h
    · exact (M1.at_ a f h).heap fun b o _ e => l1 e
    · exact (M2.at_ a f h).heap fun b o _ e => l2 e
  · rcases un h with h | h
    · exact (M1.all a o h).imp (fun ⟨f, z⟩ => ⟨f, List.mem_append_left _ z⟩) fun ⟨x, f, e, z⟩ => ⟨x, f, e, List.mem_append_left _ z⟩
    · exact (M2.all a o h).imp (fun ⟨f, z⟩ => ⟨f, List.mem_append_right _ z⟩) fun ⟨x, f, e, z⟩ => ⟨x, f, e, List.mem_append_right _ z⟩
  · rcases un h with h | h
    · exact M1.fr a o h
    · exact M2.fr a o h
theorem Mf.perm (M : Mf K B C U m1) (p : m1.Perm m2) : Mf K B C U m2 :=
  ⟨(p.map _).nodup_iff.mp M.nd, fun a f h => M.at_ a f (p.mem_iff.mpr h), fun a o h => (M.all a o h).imp (fun ⟨f, z⟩ => ⟨f, p.mem_iff.mp z⟩) fun ⟨x, f, e, z⟩ => ⟨x, f, e, p.mem_iff.mp z⟩, M.fr⟩
theorem SepF.perm (S : SepF K B C H σ ρ m1) (p : m1.Perm m2) : SepF K B C H σ ρ m2 := by
  obtain ⟨U, M, S⟩ := S
  exact ⟨U, M.perm p, S⟩
theorem SepF.right (S : SepF K B C H σ ρ (m1 ++ m2)) : SepF K B C H σ ρ m2 := by
  obtain ⟨U1, U2, M1, M2, S, _⟩ := S.split
  exact ⟨U2, M2, S⟩
theorem SepF.left (S : SepF K B C H σ ρ (m1 ++ m2)) : SepF K B C H σ ρ m1 := (S.perm List.perm_append_comm).right
theorem SepF.sep (S : SepF K B C H σ ρ m) : Sep K B C H σ ρ := by
  obtain ⟨U, M, S⟩ := S
  exact S.unhang M
theorem SepF.has (S : SepF K B C H σ ρ m) (h : (a, f) ∈ m) : FlOk K C H a f := by
  obtain ⟨U, M, S⟩ := S
  exact (M.at_ a f h).heap fun b o _ e => M.bound S e
def oneU (a : Addr) (o : HO) : Hp := fun b => if b = a then some o else none
theorem oneU_at {o : HO} : oneU a o a = some o := if_pos rfl
theorem oneU_eq {o u : HO} {b : Addr} (h : oneU a o b = some u) : b = a ∧ u = o := by
  unfold oneU at h
  split at h
  · next e => exact ⟨e, (Option.some.inj h).symm⟩
  · cases h
theorem Mf.one {o : HO} (ok : FlOk K C (oneU a o) a f) (c : C a = none) (b : B.H0 a = none) (x : ∀ i, B.bx ≠ some (i, a)) : Mf K B C (oneU a o) [(a, f)] :=
  ⟨List.nodup_cons.mpr ⟨by simp, .nil⟩, fun b g h => by
    obtain ⟨rfl, rfl⟩ := Prod.mk.inj (List.mem_singleton.mp h)
    exact ok, fun b u h => .inl ⟨f, by rw [(oneU_eq h).1]; exact List.mem_cons_self ..⟩, fun b' u h => by
    rw [(oneU_eq h).1]
    exact ⟨c, b, x⟩⟩
/-- a thing of its own is hung -/
theorem Sep.nobx (S : Sep K B C H σ ρ) (ns : NoSlot σ ρ a) (i : Nat) : B.bx ≠ some (i, a) := fun e => by
  obtain ⟨e1, n, e2⟩ := S.par i a e
  exact ns i _ e2 rfl e1
theorem SepF.push (S : Sep K (B.hang U) C H σ ρ) (M : Mf K B C U m) {o : HO} (ha : H a = some o) (ca : C a = none) (h0 : (B.hang U).H0 a = none) (ns : NoSlot σ ρ a) (ok : FlOk K C (oneU a o) a f) : SepF K B C H σ ρ ((a, f) :: m) := by
  obtain ⟨u0, b0⟩ := hang_no h0
  refine SepF.join (m1 := [(a, f)]) (Mf.one ok ca b0 (S.nobx ns)) M S fun b u h => ?_
  obtain ⟨rfl, rfl⟩ := oneU_eq h
  exact ⟨ha, u0, ns⟩
theorem SepF.fresh {ds : List Dt} (S : Sep K (B.hang U) C H σ ρ) (M : Mf K B C U m) (f : Fr K (B.hang U) C H σ ρ a ds) : SepF K B C H σ ρ ((a, .lst ds) :: m) := by
  obtain ⟨⟨vs, ha, r⟩, ca, h0, ns⟩ := f
  exact SepF.push S M ha ca h0 ns ⟨vs, oneU_at, r⟩
/-- a new object is laid and kept cold -/
theorem SepF.alloc {p : Addr} {o : HO} (S : SepF K B C H σ ρ m) (hp : H p = none) : SepF K B (upd C p o) (upd H p o) σ ρ m ∧ Same C (upd C p o) := by
  obtain ⟨U, M, S⟩ := S
  have cp := S.cold.free hp
  exact ⟨⟨U, M.on S.grow (same_new cp) (S.alloc hp), S.alloc hp⟩, same_new cp⟩
theorem Sep.wr {o' : HO} (S : Sep K B C H σ ρ) (ca : C a = none) (h0 : B.H0 a = none) (ns : NoSlot σ ρ a) : Sep K B C (upd H a o') σ ρ := by
  have nC : ∀ b x, C b = some x → b ≠ a := fun b x h z => by rw [z, ca] at h; cases h
  have nB : ∀ b x, B.H0 b = some x → b ≠ a := fun b x h z => by rw [z, h0] at h; cases h
  refine ⟨fun b x e => by rw [upd_ne (nC b x e)]; exact S.cold _ _ e, S.len, fun i s h => ?_, S.ne, S.grow, S.new, fun b h => ?_, fun b x h n => by rw [upd_ne (nB b x h)]; exact S.keep b x h n, S.loc, S.lob, S.par, S.pz⟩
  · have q := S.sl i s h
    cases s with
    | un => trivial
    | dat d => exact q
    | hot ds =>
      obtain ⟨b, vs, e, h2, r, h3⟩ := q
      exact ⟨b, vs, e, by rw [upd_ne (fun z : b = a => ns i _ h rfl (by rw [← z]; exact e))]; exact h2, r, h3⟩
    | box n =>
      obtain ⟨b, e, ⟨x, y, z, h2, h4⟩, h3⟩ := q
      exact ⟨b, e, ⟨x, y, z, by rw [upd_ne (fun z : b = a => ns i _ h rfl (by rw [← z]; exact e))]; exact h2, h4⟩, h3⟩
  · by_cases z : b = a
    · rw [z, upd_same]
      exact fun q => nomatch q
    · rw [upd_ne z]
      exact S.dom b h
/-- one of them is changed -/
theorem SepF.set {f' : Fl} {o' : HO} (S : SepF K B C H σ ρ ((a, f) :: m)) (ok : ∀ U1 : Hp, FlOk K C U1 a f → (∀ b o, U1 b = some o → H b = some o) → FlOk K C (upd U1 a o') a f') : SepF K B C (upd H a o') σ ρ ((a, f') :: m) := by
  obtain ⟨U1, U2, M1, M2, S, hh⟩ := SepF.split (m1 := [(a, f)]) S
  have f1 := M1.at_ a f (List.mem_cons_self ..)
  obtain ⟨o, e1, no⟩ := f1.root
  obtain ⟨ca, b0, bx⟩ := M1.fr a o e1
  obtain ⟨ha, u2, ns⟩ := hh a o e1
  refine SepF.join (m1 := [(a, f')]) (U1 := upd U1 a o') ⟨List.nodup_cons.mpr ⟨by simp, .nil⟩, fun b g h => ?_, fun b u h => ?_, fun b u h => ?_⟩ M2 (S.wr ca (by rw [hang_off u2]; exact b0) ns) fun b u h => ?_
  · obtain ⟨rfl, rfl⟩ := Prod.mk.inj (List.mem_singleton.mp h)
    exact ok U1 f1 fun b o e => (hh b o e).1
  · by_cases z : b = a
    · exact .inl ⟨f', by rw [z]; exact List.mem_cons_self ..⟩
    · rw [upd_ne z] at h
      rcases M1.all b u h with ⟨g, k⟩ | ⟨x, g, k, k2⟩
      · exact absurd (Prod.mk.inj (List.mem_singleton.mp k)).1 z
      · exact .inr ⟨x, f', k, by rw [(Prod.mk.inj (List.mem_singleton.mp k2)).1]; exact List.mem_cons_self ..⟩
  · by_cases z : b = a
    · rw [z]
      exact ⟨ca, b0, bx⟩
    · rw [upd_ne z] at h
      exact M1.fr b u h
  · by_cases z : b = a
    · rw [z]
      rw [z, upd_same] at h
      cases h
      exact ⟨upd_same, u2, ns⟩
    · rw [upd_ne z] at h
      rw [upd_ne z]
      exact hh b u h
theorem Sep.coolU {U1 : Hp} (S : Sep K B C H σ ρ) (h : ∀ a o, U1 a = some o → H a = some o ∧ C a = none ∧ B.H0 a = none ∧ NoSlot σ ρ a) : Sep K B (orU U1 C) H σ ρ ∧ Same C (orU U1 C) := by
  have sC : Same C (orU U1 C) := fun a o e => by
    cases q : U1 a with
    | some u =>
      rw [(h a u q).2.1] at e
      cases e
    | none => rw [orU_off q]; exact e
  have off : ∀ (i : Nat) (t : Sl) (a : Addr), ρ[i]? = some t → t.mut = true → σ[i]? = some (some (V.ref a)) → U1 a = none := fun i t a ht m e => by
    cases q : U1 a with
    | none => rfl
    | some u => exact absurd e ((h a u q).2.2.2 i t ht m)
  refine ⟨⟨fun a o e => ?_, S.len, fun i s hs => ?_, S.ne, S.grow.trans sC, fun a o e n => ?_, S.dom, S.keep, S.loc, S.lob, S.par, S.pz⟩, sC⟩
  · cases q : U1 a with
    | some u =>
      rw [orU_at q] at e
      cases e
      exact (h a _ q).1
    | none => rw [orU_off q] at e; exact S.cold _ _ e
  · have q := S.sl i s hs
    cases s with
    | un => trivial
    | dat d =>
      obtain ⟨v, e, r⟩ := q
      exact ⟨v, e, r.same sC⟩
    | hot ds =>
      obtain ⟨a, vs, e, h2, r, h3⟩ := q
      exact ⟨a, vs, e, h2, r.same sC, by rw [orU_off (off i _ a hs rfl e)]; exact h3⟩
    | box n =>
      obtain ⟨a, e, b, h3⟩ := q
      exact ⟨a, e, b, by rw [orU_off (off i _ a hs rfl e)]; exact h3⟩
  · cases q : U1 a with
    | some u => exact (h a u q).2.2.1
    | none => rw [orU_off q] at e; exact S.new a o e n
def Fl.cold : Fl → Dt
  | .lst ds => .lst ds
  | .ins c ns ds => .obj c ns ds
  | .dic ks ds => .dic ks ds
  | .lck ks ds => .dic ks ds
/-- one of them grows cold -/
theorem SepF.cool (S : SepF K B C H σ ρ ((a, f) :: m)) : ∃ C', SepF K B C' H σ ρ m ∧ Same C C' ∧ Rp K C' (.ref a) f.cold := by
  obtain ⟨U1, U2, M1, M2, S, hh⟩ := SepF.split (m1 := [(a, f)]) S
  obtain ⟨S', sC⟩ := S.coolU (U1 := U1) fun b o e => ⟨(hh b o e).1, (M1.fr b o e).1, by rw [hang_off (hh b o e).2.1]; exact (M1.fr b o e).2.1, (hh b o e).2.2⟩
  refine ⟨_, ⟨U2, M2.on S.grow sC S', S'⟩, sC, ?_⟩
  have ok := (M1.at_ a f (List.mem_cons_self ..)).same sC
  cases f with
  | lst ds =>
    obtain ⟨vs, e, r⟩ := ok
    exact .lst (orU_at e) r
  | ins c ns ds =>
    obtain ⟨dx, vs, e, e2, l, r, _⟩ := ok
    exact .obj (orU_at e) (orU_at e2) l r
  | dic ks ds =>
    obtain ⟨vs, e, l, n, r⟩ := ok
    exact .dic (.inl (orU_at e)) l n r
  | lck ks ds =>
    obtain ⟨o, vs, e, l, n, r⟩ := ok
    exact .dic (.inr ⟨o, orU_at e⟩) l n r
theorem SepF.put {i : Nat} {v : V} {d : Dt} (S : SepF K B C H σ ρ m) (hb : i = 0 → ∀ n, ρ[i]? ≠ some (.box n)) (r : Rp K C v d) : SepF K B C H (σ.set i (some v)) (ρ.set i (.dat d)) m := by
  obtain ⟨U, M, S⟩ := S
  exact ⟨U, M, S.dat hb r⟩
/-- a list becomes a name's own -/
theorem SepF.toHot {i : Nat} {ds : List Dt} (S : SepF K B C H σ ρ ((a, .lst ds) :: m)) (hb : i = 0 → ∀ n, ρ[i]? ≠ some (.box n)) : SepF K B C H (σ.set i (some (.ref a))) (ρ.set i (.hot ds)) m := by
  obtain ⟨U1, U2, M1, M2, S, hh⟩ := SepF.split (m1 := [(a, .lst ds)]) S
  obtain ⟨vs, e, r⟩ := M1.at_ a _ (List.mem_cons_self ..)
  obtain ⟨ca, b0, bx⟩ := M1.fr a _ e
  obtain ⟨ha, u2, ns⟩ := hh a _ e
  refine ⟨U2, M2, S.put hb (fun _ => ⟨a, vs, rfl, ha, r, ca⟩) fun _ b eb => ?_⟩
  cases eb
  exact ⟨fun j t _ hj mt => ns j t hj mt, by rw [hang_off u2]; exact b0⟩
end

end
section
variable {P : Program} {w : World} {K : PySem.W.Frag} {mg : Str → Option Value} {base : Heap}
local macro_rules | `(tactic| get_elem_tactic_trivial) => `(tactic| (repeat first | exact Wk.nil | exact Wk'.nil | refine Wk.same ?_ | refine Wk'.same ?_ | refine Wk.un (fun _ z => nomatch z) ?_ | refine Wk'.un ?_))
/-! level 3: packs opened and closed -/
def Ex1 : Addr × Ob → Fm → Prop
  | (a, .fl f), m => m = [(a, f)]
  | (a, .pk I), m => I a m
def Exp : My → Fm → Prop
  | [], m => m = []
  | c :: μ, m => ∃ m1 m2, m = m1 ++ m2 ∧ Ex1 c m1 ∧ Exp μ m2
def flat (m : Fm) : My := m.map fun x => (x.1, .fl x.2)
theorem Exp.app : ∀ {μ1 μ2 : My} {m1 m2 : Fm}, Exp μ1 m1 → Exp μ2 m2 → Exp (μ1 ++ μ2) (m1 ++ m2)
  | [], _, _, _, h, k => by cases h; exact k
  | c :: μ1, μ2, m1, m2, ⟨x, y, e, h1, h2⟩, k => ⟨x, y ++ m2, by rw [e, List.append_assoc], h1, Exp.app h2 k⟩
theorem Exp.unapp : ∀ {μ1 μ2 : My} {m : Fm}, Exp (μ1 ++ μ2) m → ∃ m1 m2, m = m1 ++ m2 ∧ Exp μ1 m1 ∧ Exp μ2 m2
  | [], _, m, h => ⟨[], m, rfl, rfl, h⟩
  | c :: μ1, μ2, m, ⟨x, y, e, h1, h2⟩ => by
    obtain ⟨m1, m2, e2, k1, k2⟩ := Exp.unapp h2
    exact ⟨x ++ m1, m2, by rw [e, e2, List.append_assoc], ⟨x, m1, rfl, h1, k1⟩, k2⟩
theorem Exp.perm {μ μ' : My} (p : μ.Perm μ') : ∀ {m : Fm}, Exp μ m → ∃ m', Exp μ' m' ∧ m.Perm m' := by
  induction p with
  | nil => exact fun {m} h => ⟨m, h, .refl _⟩
  | cons c p ih =>
    rintro m ⟨x, y, rfl, h1, h2⟩
    obtain ⟨y', k, q⟩ := ih h2
    exact ⟨x ++ y', ⟨x, y', rfl, h1, k⟩, q.append_left x⟩
  | swap c d μ =>
    rintro m ⟨x, _, rfl, h1, y, z, rfl, h2, h3⟩
    exact ⟨y ++ (x ++ z), ⟨y, x ++ z, rfl, h2, x, z, rfl, h1, h3⟩, by
      rw [← List.append_assoc, ← List.append_assoc]
      exact List.Perm.append_right _ List.perm_append_comm⟩
  | trans p q ih1 ih2 =>
    intro m h
    obtain ⟨m1, h1, q1⟩ := ih1 h
    obtain ⟨m2, h2, q2⟩ := ih2 h1
    exact ⟨m2, h2, q1.trans q2⟩
theorem Exp.flat : ∀ m : Fm, Exp (flat m) m
  | [] => rfl
  | x :: m => ⟨[x], m, rfl, rfl, Exp.flat m⟩
theorem Exp.ofFlat : ∀ {m m' : Fm}, Exp (Sl.flat m) m' → m' = m
  | [], _, h => h
  | x :: m, _, ⟨y, z, e, h1, h2⟩ => by
    have h1 : y = [x] := h1
    rw [e, h1, Exp.ofFlat h2]
    rfl
/-- what may be had instead -/
def Ent (μ μ' : My) : Prop := ∀ m, Exp μ m → ∃ m' r, Exp μ' m' ∧ m.Perm (m' ++ r)
theorem Ent.refl (μ : My) : Ent μ μ := fun m h => ⟨m, [], h, by rw [List.append_nil]⟩
theorem Ent.trans {μ1 μ2 μ3 : My} (h : Ent μ1 μ2) (k : Ent μ2 μ3) : Ent μ1 μ3 := fun m e => by
  obtain ⟨m2, r2, e2, p2⟩ := h m e
  obtain ⟨m3, r3, e3, p3⟩ := k m2 e2
  exact ⟨m3, r3 ++ r2, e3, p2.trans (by rw [← List.append_assoc]; exact p3.append_right _)⟩
theorem Ent.perm {μ μ' : My} (p : μ.Perm μ') : Ent μ μ' := fun m e => by
  obtain ⟨m', e', q⟩ := e.perm p
  exact ⟨m', [], e', by rw [List.append_nil]; exact q⟩
theorem Ent.drop {μ μ' r : My} (p : μ.Perm (μ' ++ r)) : Ent μ μ' := (Ent.perm p).trans fun m e => by
  obtain ⟨m1, m2, rfl, e1, e2⟩ := e.unapp
  exact ⟨m1, m2, e1, .refl _⟩
theorem Ent.left {μ1 μ2 : My} : Ent (μ1 ++ μ2) μ1 := Ent.drop (.refl _)
theorem Ent.right {μ1 μ2 : My} : Ent (μ1 ++ μ2) μ2 := Ent.drop List.perm_append_comm
theorem Ent.tail {c : Addr × Ob} {μ : My} : Ent (c :: μ) μ := Ent.right (μ1 := [c])
theorem Ent.app {μ1 μ1' μ2 μ2' : My} (h : Ent μ1 μ1') (k : Ent μ2 μ2') : Ent (μ1 ++ μ2) (μ1' ++ μ2') := fun m e => by
  obtain ⟨m1, m2, rfl, e1, e2⟩ := e.unapp
  obtain ⟨n1, r1, f1, p1⟩ := h m1 e1
  obtain ⟨n2, r2, f2, p2⟩ := k m2 e2
  refine ⟨n1 ++ n2, r1 ++ r2, f1.app f2, ((p1.append p2).trans ?_)⟩
  rw [List.append_assoc, List.append_assoc]
  refine List.Perm.append_left _ ?_
  rw [← List.append_assoc, ← List.append_assoc]
  exact List.Perm.append_right _ List.perm_append_comm
theorem Ent.cons {c : Addr × Ob} {μ μ' : My} (h : Ent μ μ') : Ent (c :: μ) (c :: μ') := Ent.app (μ1 := [c]) (μ1' := [c]) (Ent.refl _) h
theorem Ent.close {a : Addr} {I : Addr → Fm → Prop} {m : Fm} {μ : My} (h : I a m) : Ent (flat m ++ μ) ((a, .pk I) :: μ) := fun m2 e => by
  obtain ⟨x, y, rfl, e1, e2⟩ := e.unapp
  rw [e1.ofFlat]
  exact ⟨m ++ y, [], ⟨m, y, rfl, h, e2⟩, by rw [List.append_nil]⟩
/-- some of them ahead of the others -/
def pick : Nat → My → Option ((Addr × Ob) × My)
  | _, [] => none
  | 0, c :: μ => some (c, μ)
  | n + 1, c :: μ => match pick n μ with
    | some (d, r) => some (d, c :: r)
    | none => none
def picks : List Nat → My → Option (My × My)
  | [], μ => some ([], μ)
  | i :: is, μ => match pick i μ with
    | some (c, r) => match picks is r with
      | some (cs, r') => some (c :: cs, r')
      | none => none
    | none => none
theorem pick_perm : ∀ {n : Nat} {μ : My} {c : Addr × Ob} {r : My}, pick n μ = some (c, r) → μ.Perm (c :: r)
  | n, [], c, r, h => by cases n <;> cases h
  | 0, d :: μ, c, r, h => by
    cases h
    exact .refl _
  | n + 1, d :: μ, c, r, h => by
    unfold pick at h
    cases q : pick n μ with
    | none => rw [q] at h; cases h
    | some p =>
      obtain ⟨e, s⟩ := p
      rw [q] at h
      cases h
      exact (List.Perm.cons _ (pick_perm q)).trans (.swap _ _ _)
theorem picks_perm : ∀ {is : List Nat} {μ μ1 μ2 : My}, picks is μ = some (μ1, μ2) → μ.Perm (μ1 ++ μ2)
  | [], μ, μ1, μ2, h => by cases h; exact .refl _
  | i :: is, μ, μ1, μ2, h => by
    unfold picks at h
    cases q : pick i μ with
    | none => rw [q] at h; cases h
    | some p =>
      obtain ⟨c, r⟩ := p
      rw [q] at h
      have h : (match picks is r with | some (cs, r') => some (c :: cs, r') | none => none) = some (μ1, μ2) := h
      cases q2 : picks is r with
      | none => rw [q2] at h; cases h
      | some p2 =>
        obtain ⟨cs, r'⟩ := p2
        rw [q2] at h
        cases h
        exact (pick_perm q).trans (List.Perm.cons _ (picks_perm q2))
theorem Ent.pick {is : List Nat} {μ μ1 μ2 : My} (h : picks is μ = some (μ1, μ2)) : Ent μ (μ1 ++ μ2) := Ent.perm (picks_perm h)
def Sep3 (K : PySem.W.Frag) (B : Bs) (C H : Hp) (σ : L2.St) (ρ : List Sl) (μ : My) : Prop := ∃ m, Exp μ m ∧ SepF K B C H σ ρ m
section
variable {B : Bs} {C C' H G : Hp} {σ σ' : L2.St} {ρ ρ' : List Sl} {μ μ' μ1 μ2 : My} {a : Addr} {f : Fl}
theorem Sep3.ent (S : Sep3 K B C H σ ρ μ) (h : Ent μ μ') : Sep3 K B C H σ ρ μ' := by
  obtain ⟨m, e, S⟩ := S
  obtain ⟨m', r, e', p⟩ := h m e
  exact ⟨m', e', (S.perm p).left⟩
theorem Sep3.open_ {I : Addr → Fm → Prop} (S : Sep3 K B C H σ ρ ((a, .pk I) :: μ)) : ∃ m, I a m ∧ Sep3 K B C H σ ρ (flat m ++ μ) := by
  obtain ⟨m, ⟨x, y, rfl, h1, h2⟩, S⟩ := S
  exact ⟨x, h1, x ++ y, (Exp.flat x).app h2, S⟩
theorem Sep3.sep (S : Sep3 K B C H σ ρ μ) : Sep K B C H σ ρ := by
  obtain ⟨m, e, S⟩ := S
  exact S.sep
theorem at_split {α : Type} : ∀ {l : List α} {i : Nat} {x : α}, l[i]? = some x → ∃ r, l.Perm (x :: r) ∧ ∀ y, (l.set i y).Perm (y :: r)
  | [], i, x, h => by simp at h
  | z :: l, 0, x, h => by
    cases h
    exact ⟨l, .refl _, fun y => .refl _⟩
  | z :: l, i + 1, x, h => by
    obtain ⟨r, p, q⟩ := at_split (l := l) (i := i) h
    exact ⟨z :: r, (List.Perm.cons _ p).trans (.swap _ _ _), fun y => (List.Perm.cons _ (q y)).trans (.swap _ _ _)⟩
theorem Sep3.has {i : Nat} (S : Sep3 K B C H σ ρ μ) (h : μ[i]? = some (a, .fl f)) : FlOk K C H a f := by
  obtain ⟨r, p, _⟩ := at_split h
  obtain ⟨m, ⟨x, y, rfl, h1, _⟩, S⟩ := S.ent (Ent.perm p)
  cases h1
  exact S.has (List.mem_append_left _ (List.mem_cons_self ..))
theorem Sep3.set {i : Nat} {f' : Fl} {o' : HO} (S : Sep3 K B C H σ ρ μ) (h : μ[i]? = some (a, .fl f)) (ok : ∀ U1 : Hp, FlOk K C U1 a f → (∀ b o, U1 b = some o → H b = some o) → FlOk K C (upd U1 a o') a f') : Sep3 K B C (upd H a o') σ ρ (μ.set i (a, .fl f')) := by
  obtain ⟨r, p, q⟩ := at_split h
  obtain ⟨m, ⟨x, y, rfl, h1, h2⟩, S⟩ := S.ent (Ent.perm p)
  cases h1
  exact (show Sep3 K B C (upd H a o') σ ρ ((a, .fl f') :: r) from ⟨_, ⟨[(a, f')], y, rfl, rfl, h2⟩, SepF.set S ok⟩).ent (Ent.perm (q _).symm)
theorem Sep3.alloc {p : Addr} {o : HO} (S : Sep3 K B C H σ ρ μ) (hp : H p = none) : Sep3 K B (upd C p o) (upd H p o) σ ρ μ ∧ Same C (upd C p o) := by
  obtain ⟨m, e, S⟩ := S
  exact ⟨⟨m, e, (S.alloc hp).1⟩, (S.alloc (o := o) hp).2⟩
theorem Sep3.cool (S : Sep3 K B C H σ ρ ((a, .fl f) :: μ)) : ∃ C', Sep3 K B C' H σ ρ μ ∧ Same C C' ∧ Rp K C' (.ref a) f.cold := by
  obtain ⟨m, ⟨x, y, rfl, h1, h2⟩, S⟩ := S
  cases h1
  obtain ⟨C', S, s, r⟩ := SepF.cool (m := y) S
  exact ⟨C', ⟨y, h2, S⟩, s, r⟩
theorem Sep3.put {i : Nat} {v : V} {d : Dt} (S : Sep3 K B C H σ ρ μ) (hb : i = 0 → ∀ n, ρ[i]? ≠ some (.box n)) (r : Rp K C v d) : Sep3 K B C H (σ.set i (some v)) (ρ.set i (.dat d)) μ := by
  obtain ⟨m, e, S⟩ := S
  exact ⟨m, e, S.put hb r⟩
theorem Sep3.toHot {i : Nat} {ds : List Dt} (S : Sep3 K B C H σ ρ ((a, .fl (.lst ds)) :: μ)) (hb : i = 0 → ∀ n, ρ[i]? ≠ some (.box n)) : Sep3 K B C H (σ.set i (some (.ref a))) (ρ.set i (.hot ds)) μ := by
  obtain ⟨m, ⟨x, y, rfl, h1, h2⟩, S⟩ := S
  cases h1
  exact ⟨y, h2, SepF.toHot (m := y) S hb⟩
/-- a new list -/
theorem Sep3.new {p : Addr} {vs : List V} {ds : List Dt} (S : Sep3 K B C H σ ρ μ) (hp : H p = none) (r : RpL K C vs ds) : Sep3 K B C (upd H p (.lst vs)) σ ρ ((p, .fl (.lst ds)) :: μ) := by
  obtain ⟨m, e, U, M, S⟩ := S
  exact ⟨_, ⟨[(p, .lst ds)], m, rfl, rfl, e⟩, SepF.fresh (S.allocN hp) M (S.frN hp r)⟩
/-- any new thing at one address -/
theorem Sep3.newU {p : Addr} {o : HO} (S : Sep3 K B C H σ ρ μ) (hp : H p = none) (ok : FlOk K C (oneU p o) p f) : Sep3 K B C (upd H p o) σ ρ ((p, .fl f) :: μ) := by
  obtain ⟨m, e, U, M, S⟩ := S
  exact ⟨_, ⟨[(p, f)], m, rfl, rfl, e⟩, SepF.push (S.allocN hp) M upd_same (S.cold.free hp) (S.free0 hp) (S.nohot hp) ok⟩
theorem Sep3.weakS (S : Sep3 K B C H σ ρ μ) (w : Wk ρ ρ') : Sep3 K B C H σ ρ' μ := by
  obtain ⟨m, e, U, M, S⟩ := S
  exact ⟨m, e, U, M, S.weak w⟩
theorem Sep3.swap {vs : List Nat} (S : Sep3 K B C H σ ρ μ) (nb : noBox ρ vs = true) (e : wipe σ' vs = wipe σ vs) : Sep3 K B C H σ' (wipeR ρ vs) μ := by
  obtain ⟨m, x, U, M, S⟩ := S
  exact ⟨m, x, U, M, S.swap nb e⟩
end

end
section
variable {P : Program} {w : World} {K : PySem.W.Frag} {mg : Str → Option Value} {base : Heap}
local macro_rules | `(tactic| get_elem_tactic_trivial) => `(tactic| (repeat first | exact Wk.nil | exact Wk'.nil | refine Wk.same ?_ | refine Wk'.same ?_ | refine Wk.un (fun _ z => nomatch z) ?_ | refine Wk'.un ?_))
/-! level 3: readings -/
abbrev XE3 := Str → Dt → List Sl → My → Prop
abbrev WE3 := List Sl → My → (Ro → List Sl → My → Prop) → XE3 → Prop
abbrev WA3 := List Sl → My → (List Ar → List Sl → My → Prop) → XE3 → Prop
abbrev WR3 := List Sl → My → (Ar → List Sl → My → Prop) → XE3 → Prop
abbrev WT3 := List Sl → My → (Bool → List Sl → My → Prop) → XE3 → Prop
structure Fs3 where
  nx : List Sl → My → Prop
  rt : Ro → List Sl → My → Prop
  bk : List Sl → My → Prop
  ct : List Sl → My → Prop
abbrev WS3 := List Sl → My → Fs3 → XE3 → Prop
def Ok3 (K : PySem.W.Frag) (B : Bs) (C H : Hp) (σ : L2.St) (ρ : List Sl) (μ : My) (v : V) : Ro → Prop
  | .dat d => Sep3 K B C H σ ρ μ ∧ Rp K C v d
  | .new ds => ∃ a, v = .ref a ∧ Sep3 K B C H σ ρ ((a, .fl (.lst ds)) :: μ)
def MeetsX3 (K : PySem.W.Frag) (B : Bs) (Ξ : XE3) (W : WX) : Prop := ∀ (C' G : Hp) (σ : L2.St) (ρ : List Sl) (μ : My) (cls : Value) (dd : Option Addr) (c : Str) (d : Dt), Sep3 K B C' G σ ρ μ → ExAt K C' cls dd c d → Ξ c d ρ μ → W cls dd σ G
structure Meets3 (K : PySem.W.Frag) (B : Bs) (Φ : Fs3) (D : Ends) : Prop where
  nx : ∀ C H σ ρ μ, Sep3 K B C H σ ρ μ → Φ.nx ρ μ → D.nx σ H
  rt : ∀ C H σ ρ μ v r, Ok3 K B C H σ ρ μ v r → Φ.rt r ρ μ → D.rt v H
  bk : ∀ C H σ ρ μ, Sep3 K B C H σ ρ μ → Φ.bk ρ μ → D.bk σ H
  ct : ∀ C H σ ρ μ, Sep3 K B C H σ ρ μ → Φ.ct ρ μ → D.ct σ H
class E3 (K : PySem.W.Frag) (W : WX) (t : TE) (w : outParam WE3) : Prop where
  run : ∀ (B : Bs) (C H : Hp) (σ : L2.St) (ρ : List Sl) (μ : My) (Q : VK) (Ψ : Ro → List Sl → My → Prop) (Ξ : XE3), Sep3 K B C H σ ρ μ → w ρ μ Ψ Ξ → (∀ C' G v r ρ' μ', Ok3 K B C' G σ ρ' μ' v r → Same C C' → Ψ r ρ' μ' → Q v G) → MeetsX3 K B Ξ W → t σ H Q
class R3 (K : PySem.W.Frag) (W : WX) (t : TE) (w : outParam WR3) : Prop where
  run : ∀ (B : Bs) (C H : Hp) (σ : L2.St) (ρ : List Sl) (μ : My) (Q : VK) (Ψ : Ar → List Sl → My → Prop) (Ξ : XE3), Sep3 K B C H σ ρ μ → w ρ μ Ψ Ξ → (∀ C' G v a ρ' μ', Sep3 K B C' G σ ρ' μ' → Same C C' → ArOk K C' σ v a → Ψ a ρ' μ' → Q v G) → MeetsX3 K B Ξ W → t σ H Q
class A3 (K : PySem.W.Frag) (W : WX) (t : TA) (w : outParam WA3) : Prop where
  run : ∀ (B : Bs) (C H : Hp) (σ : L2.St) (ρ : List Sl) (μ : My) (Q : List V → Hp → Prop) (Ψ : List Ar → List Sl → My → Prop) (Ξ : XE3), Sep3 K B C H σ ρ μ → w ρ μ Ψ Ξ → (∀ C' G vs as ρ' μ', Sep3 K B C' G σ ρ' μ' → Same C C' → ArL K C' σ vs as → Ψ as ρ' μ' → Q vs G) → MeetsX3 K B Ξ W → t σ H Q
class C3 (K : PySem.W.Frag) (W : WX) (t : TT) (w : outParam WT3) : Prop where
  run : ∀ (B : Bs) (C H : Hp) (σ : L2.St) (ρ : List Sl) (μ : My) (Q : Bool → Hp → Prop) (Ψ : Bool → List Sl → My → Prop) (Ξ : XE3), Sep3 K B C H σ ρ μ → w ρ μ Ψ Ξ → (∀ C' G b ρ' μ', Sep3 K B C' G σ ρ' μ' → Same C C' → Ψ b ρ' μ' → Q b G) → MeetsX3 K B Ξ W → t σ H Q
class S3 (K : PySem.W.Frag) (W : WX) (t : TS) (w : outParam WS3) : Prop where
  run : ∀ (B : Bs) (C H : Hp) (σ : L2.St) (ρ : List Sl) (μ : My) (D : Ends) (Φ : Fs3) (Ξ : XE3), Sep3 K B C H σ ρ μ → w ρ μ Φ Ξ → Meets3 K B Φ D → MeetsX3 K B Ξ W → t D σ H
section
variable {B : Bs} {C C' H G : Hp} {σ σ' : L2.St} {ρ ρ' : List Sl} {μ μ' : My} {v : V} {r : Ro}
theorem Ok3.cool (h : Ok3 K B C H σ ρ μ v r) : ∃ C', Sep3 K B C' H σ ρ μ ∧ Same C C' ∧ Rp K C' v r.val := by
  cases r with
  | dat d => exact ⟨C, h.1, Same.refl _, h.2⟩
  | new ds =>
    obtain ⟨a, rfl, S⟩ := h
    exact Sep3.cool S
/-- level 1 goes on from here -/
theorem Sep3.lift (S : Sep3 K B C H σ ρ μ) : ∃ B1 : Bs, Sep K B1 C H σ ρ ∧ (∀ {C' G : Hp} {σ' : L2.St} {ρ' : List Sl}, Sep K B1 C' G σ' ρ' → Sep3 K B C' G σ' ρ' μ ∧ Same C C') ∧ ∀ {C' G : Hp} {σ' : L2.St} {ρ' : List Sl} {a : Addr} {ds : List Dt}, Sep K B1 C' G σ' ρ' → Fr K B1 C' G σ' ρ' a ds → Sep3 K B C' G σ' ρ' ((a, .fl (.lst ds)) :: μ) := by
  obtain ⟨m, e, U, M, S⟩ := S
  refine ⟨⟨C, (B.hang U).H0, B.bx⟩, S.rebase, fun {C' G σ' ρ'} z => ?_, fun {C' G σ' ρ' a ds} z f => ?_⟩
  · obtain ⟨z1, z2⟩ := sep_back (B := B.hang U) S.grow S.new z
    exact ⟨⟨m, e, U, M.on S.grow z2 z1, z1⟩, z2⟩
  · obtain ⟨z1, z2⟩ := sep_back (B := B.hang U) S.grow S.new z
    exact ⟨_, ⟨[(a, .lst ds)], m, rfl, rfl, e⟩, SepF.fresh z1 (M.on S.grow z2 z1) f⟩
theorem MeetsX3.on {Ξ : XE3} {W : WX} {B1 : Bs} (mx : MeetsX3 K B Ξ W) (back : ∀ {C' G : Hp} {σ' : L2.St} {ρ' : List Sl}, Sep K B1 C' G σ' ρ' → Sep3 K B C' G σ' ρ' μ ∧ Same C C') : MeetsX K B1 (fun c d ρ' => Ξ c d ρ' μ) W := fun C' G σ ρ cls dd c d S ex z => mx _ _ _ _ _ _ _ _ _ (back S).1 ex z
end
/-! what level 1 reads -/
def lf3 (w : WEX) : WE3 := fun ρ μ Ψ Ξ => w ρ (fun r ρ1 => store r ρ1 fun a ρ2 => isD a fun d => Ψ (.dat d) ρ2 μ) fun c d ρ' => Ξ c d ρ' μ
instance (priority := 50) e3_lf {W : WX} {t : TE} {w : WEX} [a : Xd K W t w] : E3 K W t (lf3 w) where
  run B C H σ ρ μ Q Ψ Ξ S h k mx := by
    obtain ⟨B1, S1, back, _⟩ := S.lift
    refine a.run B1 C H σ ρ _ _ _ S1 h (fun C1 G v r ρ1 S2 s2 ok z => ?_) (mx.on back)
    obtain ⟨C2, x, ρ2, S3, s3, rx, z⟩ := S2.stored ok z
    cases x with
    | b i => exact False.elim z
    | d d => exact k _ _ _ (.dat d) _ _ ⟨(back S3).1, rx⟩ (back S3).2 z
def lf3N (w : WNX) : WE3 := fun ρ μ Ψ Ξ => w ρ (fun ds ρ1 => Ψ (.new ds) ρ1 μ) fun c d ρ' => Ξ c d ρ' μ
instance (priority := 60) e3_lfN {W : WX} {t : TE} {w : WNX} [a : Xn K W t w] : E3 K W t (lf3N w) where
  run B C H σ ρ μ Q Ψ Ξ S h k mx := by
    obtain ⟨B1, S1, back, fr⟩ := S.lift
    exact a.run B1 C H σ ρ _ _ _ S1 h (fun C1 G x ds ρ1 S2 s2 f z => k _ _ _ (.new ds) _ _ ⟨x, rfl, fr S2 f⟩ (back S2).2 z) (mx.on back)
def lr3 (w : WEX) : WR3 := fun ρ μ Ψ Ξ => w ρ (fun r ρ1 => store r ρ1 fun a ρ2 => Ψ a ρ2 μ) fun c d ρ' => Ξ c d ρ' μ
instance (priority := 50) r3_lf {W : WX} {t : TE} {w : WEX} [a : Xd K W t w] : R3 K W t (lr3 w) where
  run B C H σ ρ μ Q Ψ Ξ S h k mx := by
    obtain ⟨B1, S1, back, _⟩ := S.lift
    refine a.run B1 C H σ ρ _ _ _ S1 h (fun C1 G v r ρ1 S2 s2 ok z => ?_) (mx.on back)
    obtain ⟨C2, x, ρ2, S3, s3, rx, z⟩ := S2.stored ok z
    exact k _ _ _ _ _ _ (back S3).1 (back S3).2 rx z
def le3 (w : WE3) : WR3 := fun ρ μ Ψ Ξ => w ρ μ (fun r ρ1 μ1 => Ψ (.d r.val) ρ1 μ1) Ξ
instance (priority := 40) r3_e3 {W : WX} {t : TE} {w : WE3} [a : E3 K W t w] : R3 K W t (le3 w) where
  run B C H σ ρ μ Q Ψ Ξ S h k mx := a.run B C H σ ρ μ _ _ _ S h (fun C1 G v r ρ1 μ1 ok s1 z => by
    obtain ⟨C2, S2, s2, r2⟩ := ok.cool
    exact k _ _ _ (.d r.val) _ _ S2 (s1.trans s2) r2 z) mx
def lc3 (w : WT) : WT3 := fun ρ μ Ψ _ => w ρ fun b ρ1 => Ψ b ρ1 μ
instance (priority := 50) c3_lf {W : WX} {t : TT} {w : WT} [a : Sc K t w] : C3 K W t (lc3 w) where
  run B C H σ ρ μ Q Ψ Ξ S h k mx := by
    obtain ⟨B1, S1, back, _⟩ := S.lift
    exact a.run B1 C H σ ρ _ _ S1 h fun C1 G b ρ1 S2 s2 z => k _ _ _ _ _ (back S2).1 (back S2).2 z
def ls3 (w : WSX) : WS3 := fun ρ μ Φ Ξ => w ρ ⟨fun ρ' => Φ.nx ρ' μ, fun r ρ' => Φ.rt r ρ' μ, fun ρ' => Φ.bk ρ' μ, fun ρ' => Φ.ct ρ' μ⟩ fun c d ρ' => Ξ c d ρ' μ
instance (priority := 50) s3_lf {W : WX} {t : TS} {w : WSX} [a : Xs K W t w] : S3 K W t (ls3 w) where
  run B C H σ ρ μ D Φ Ξ S h m mx := by
    obtain ⟨B1, S1, back, fr⟩ := S.lift
    refine a.run B1 C H σ ρ _ _ _ S1 h ⟨fun C1 G σ1 ρ1 S2 z => m.nx _ _ _ _ _ (back S2).1 z, fun C1 G σ1 ρ1 v r S2 ok z => m.rt C1 G σ1 ρ1 μ v r ?_ z, fun C1 G σ1 ρ1 S2 z => m.bk _ _ _ _ _ (back S2).1 z, fun C1 G σ1 ρ1 S2 z => m.ct _ _ _ _ _ (back S2).1 z⟩ (mx.on back)
    cases r with
    | dat d => exact ⟨(back S2).1, ok⟩
    | new ds =>
      obtain ⟨x, rfl, f⟩ := ok
      exact ⟨x, rfl, fr S2 f⟩
/-! arguments -/
def wA3Nil : WA3 := fun ρ μ Ψ _ => Ψ [] ρ μ
instance a3_nil {W : WX} : A3 K W tNil wA3Nil where run B C H σ ρ μ Q Ψ Ξ S h k mx := k _ _ _ _ _ _ S (Same.refl _) .nil h
def wA3Cons (wa : WR3) (wr : WA3) : WA3 := fun ρ μ Ψ Ξ => wa ρ μ (fun a ρ1 μ1 => wr ρ1 μ1 (fun as ρ2 μ2 => Ψ (a :: as) ρ2 μ2) Ξ) Ξ
instance a3_cons {W : WX} {ta : TE} {tr : TA} {wa : WR3} {wr : WA3} [a : R3 K W ta wa] [b : A3 K W tr wr] : A3 K W (tCons ta tr) (wA3Cons wa wr) where
  run B C H σ ρ μ Q Ψ Ξ S h k mx := a.run B C H σ ρ μ _ _ _ S h (fun C1 H1 v d ρ1 μ1 S1 s1 r1 h1 => b.run B C1 H1 σ ρ1 μ1 _ _ _ S1 h1 (fun C2 H2 vs ds ρ2 μ2 S2 s2 r2 h2 => k _ _ _ _ _ _ S2 (s1.trans s2) (.cons (r1.same s2) r2) h2) mx) mx
/-! statements -/
def wSeq3 (wt wu : WS3) : WS3 := fun ρ μ Φ Ξ => wt ρ μ { Φ with nx := fun ρ' μ' => wu ρ' μ' Φ Ξ } Ξ
instance s3_seq {W : WX} {t u : TS} {wt wu : WS3} [a : S3 K W t wt] [b : S3 K W u wu] : S3 K W (tSeq t u) (wSeq3 wt wu) where
  run B C H σ ρ μ D Φ Ξ S h m mx := a.run B C H σ ρ μ _ _ _ S h ⟨fun C1 H1 σ1 ρ1 μ1 S1 z => b.run B C1 H1 σ1 ρ1 μ1 _ _ _ S1 z m mx, m.rt, m.bk, m.ct⟩ mx
def wIf3 (wc : WT3) (wt wu : WS3) : WS3 := fun ρ μ Φ Ξ => wc ρ μ (fun b ρ1 μ1 => if b = true then wt ρ1 μ1 Φ Ξ else wu ρ1 μ1 Φ Ξ) Ξ
instance (priority := 40) s3_if {W : WX} {tc : TT} {t u : TS} {wc : WT3} {wt wu : WS3} [c : C3 K W tc wc] [a : S3 K W t wt] [b : S3 K W u wu] : S3 K W (tIfS tc t u) (wIf3 wc wt wu) where
  run B C H σ ρ μ D Φ Ξ S h m mx := c.run B C H σ ρ μ _ _ _ S h (fun C1 H1 e ρ1 μ1 S1 s1 h1 => by
    cases e with
    | true => exact a.run B C1 H1 σ ρ1 μ1 _ _ _ S1 h1 m mx
    | false => exact b.run B C1 H1 σ ρ1 μ1 _ _ _ S1 h1 m mx) mx
def wDrop3 (w : WE3) : WS3 := fun ρ μ Φ Ξ => w ρ μ (fun _ ρ1 μ1 => Φ.nx ρ1 μ1) Ξ
instance (priority := 40) s3_drop {W : WX} {te : TE} {w : WE3} [a : E3 K W te w] : S3 K W (tDrop te) (wDrop3 w) where
  run B C H σ ρ μ D Φ Ξ S h m mx := a.run B C H σ ρ μ _ _ _ S h (fun C1 H1 v r ρ1 μ1 ok s1 z => by
    obtain ⟨C2, S2, _, _⟩ := ok.cool
    exact m.nx _ _ _ _ _ S2 z) mx
def wRet3 (w : WE3) : WS3 := fun ρ μ Φ Ξ => w ρ μ (fun r ρ1 μ1 => Φ.rt r ρ1 μ1) Ξ
instance (priority := 40) s3_ret {W : WX} {te : TE} {w : WE3} [a : E3 K W te w] : S3 K W (tRet te) (wRet3 w) where
  run B C H σ ρ μ D Φ Ξ S h m mx := a.run B C H σ ρ μ _ _ _ S h (fun C1 H1 v r ρ1 μ1 ok s1 z => m.rt _ _ _ _ _ v r ok z) mx
/-- a slot is put, a new list as the name's own -/
def wAsg3 (i : Nat) (w : WE3) : WS3 := fun ρ μ Φ Ξ => w ρ μ (fun r ρ1 μ1 => put i (slotOf r) ρ1 fun ρ2 => Φ.nx ρ2 μ1) Ξ
instance (priority := 40) s3_asg {W : WX} {te : TE} {i : Nat} {w : WE3} [a : E3 K W te w] : S3 K W (tAsg te (gName i)) (wAsg3 i w) where
  run B C H σ ρ μ D Φ Ξ S h m mx := a.run B C H σ ρ μ _ _ _ S h (fun C1 H1 v r ρ1 μ1 ok s1 z => by
    obtain ⟨hb, z⟩ := put_run z
    cases r with
    | dat d => exact m.nx _ _ _ _ _ (ok.1.put hb ok.2) z
    | new ds =>
      obtain ⟨x, rfl, S1⟩ := ok
      exact m.nx _ _ _ _ _ (S1.toHot hb) z) mx
/-- any target of names -/
def wAsgG3 (w : WE3) (wg : WG) : WS3 := fun ρ μ Φ Ξ => w ρ μ (fun r ρ1 μ1 => wg r.val ρ1 fun ρ2 => Φ.nx ρ2 μ1) Ξ
instance (priority := 30) s3_asgG {W : WX} {te : TE} {g : TG} {w : WE3} {wg : WG} [a : E3 K W te w] [b : Sg K g wg] : S3 K W (tAsg te g) (wAsgG3 w wg) where
  run B C H σ ρ μ D Φ Ξ S h m mx := a.run B C H σ ρ μ _ _ _ S h (fun C1 H1 v r ρ1 μ1 ok s1 z => by
    obtain ⟨C2, S2, s2, r2⟩ := ok.cool
    obtain ⟨B1, S3, back, _⟩ := S2.lift
    exact b.run B1 C2 H1 σ ρ1 v _ _ _ S3 r2 z fun σ' ρ' S4 z => m.nx _ _ _ _ _ (back S4).1 z) mx
def two (as : List Ar) (k : Dt → Dt → Prop) : Prop := match as with
  | [.d x, .d y] => k x y
  | _ => False
theorem two_run {as : List Ar} {k : Dt → Dt → Prop} (h : two as k) : ∃ x y, as = [.d x, .d y] ∧ k x y := by
  unfold two at h
  split at h
  · exact ⟨_, _, rfl, h⟩
  · exact h.elim
def wPar3' (i j : Nat) (wa : WA3) : WS3 := fun ρ μ Φ Ξ => wa ρ μ (fun as ρ1 μ1 => two as fun x y => put i (.dat x) ρ1 fun ρ2 => put j (.dat y) ρ2 fun ρ3 => Φ.nx ρ3 μ1) Ξ
theorem ar_two {C : Hp} {σ : L2.St} {vs : List V} {x y : Dt} (h : ArL K C σ vs [.d x, .d y]) : ∃ v w, vs = [v, w] ∧ Rp K C v x ∧ Rp K C w y := by
  cases h with
  | cons a t =>
    cases t with
    | cons b u =>
      cases u
      exact ⟨_, _, rfl, a, b⟩
instance (priority := 30) s3_par {W : WX} {i j : Nat} {ta : TA} {wa : WA3} [a : A3 K W ta wa] : S3 K W (tPar i j ta) (wPar3' i j wa) where
  run B C H σ ρ μ D Φ Ξ S h m mx := a.run B C H σ ρ μ _ _ _ S h (fun C1 H1 vs as ρ1 μ1 S1 s1 ok z => by
    obtain ⟨x, y, e, z1⟩ := two_run z
    subst e
    obtain ⟨v, w, rfl, rx, ry⟩ := ar_two ok
    obtain ⟨hb, z2⟩ := put_run z1
    obtain ⟨hb2, z3⟩ := put_run z2
    exact ⟨v, w, rfl, m.nx _ _ _ _ _ ((S1.put hb rx).put hb2 ry) z3⟩) mx
/-! to a state that is known less of -/
def To3 (I : List Sl → My → Prop) (ρ : List Sl) (μ : My) : Prop := ∃ ρ' μ', Wk ρ ρ' ∧ Ent μ μ' ∧ I ρ' μ'
theorem To3.of {I : List Sl → My → Prop} {ρ ρ' : List Sl} {μ : My} (h : I ρ' μ) (w : Wk ρ ρ') : To3 I ρ μ := ⟨ρ', μ, w, Ent.refl _, h⟩
theorem To3.by_ {I : List Sl → My → Prop} {ρ ρ' : List Sl} {μ μ' : My} (e : Ent μ μ') (h : I ρ' μ') (w : Wk ρ ρ') : To3 I ρ μ := ⟨ρ', μ', w, e, h⟩
theorem Sep3.to {B : Bs} {C H : Hp} {σ : L2.St} {ρ : List Sl} {μ : My} {I : List Sl → My → Prop} (S : Sep3 K B C H σ ρ μ) (h : To3 I ρ μ) : ∃ ρ' μ', Sep3 K B C H σ ρ' μ' ∧ I ρ' μ' := by
  obtain ⟨ρ', μ', w, e, h⟩ := h
  exact ⟨ρ', μ', (S.weakS w).ent e, h⟩
theorem Sep3.rebase {B : Bs} {C H : Hp} {σ : L2.St} {ρ : List Sl} {μ : My} (S : Sep3 K B C H σ ρ μ) : Sep3 K ⟨C, B.H0, B.bx⟩ C H σ ρ μ ∧ ∀ {C' G : Hp} {σ' : L2.St} {ρ' : List Sl} {μ' : My}, Sep3 K ⟨C, B.H0, B.bx⟩ C' G σ' ρ' μ' → Sep3 K B C' G σ' ρ' μ' ∧ Same C C' := by
  obtain ⟨m, e, U, M, S⟩ := S
  refine ⟨⟨m, e, U, ⟨M.nd, M.at_, M.all, M.fr⟩, S.rebase⟩, fun {C' G σ' ρ' μ'} z => ?_⟩
  obtain ⟨m', e', U', M', S'⟩ := z
  have s : Same C C' := S'.grow
  have z1 : Sep K (B.hang U') C' G σ' ρ' := by
    refine ⟨S'.cold, S'.len, S'.sl, S'.ne, S.grow.trans s, fun a o h n => ?_, S'.dom, S'.keep, S'.loc, S'.lob, S'.par, S'.pz⟩
    cases q : C a with
    | none => exact S'.new a o h q
    | some u =>
      have := hang_no (S.new a u q n)
      have h2 : U' a = none := by
        cases q2 : U' a with
        | none => rfl
        | some x => rw [(M'.fr a x q2).1] at h; cases h
      rw [hang_off h2]
      exact this.2
  exact ⟨⟨m', e', U', ⟨M'.nd, M'.at_, M'.all, M'.fr⟩, z1⟩, s⟩

end
section
variable {P : Program} {w : World} {K : PySem.W.Frag} {mg : Str → Option Value} {base : Heap}
local macro_rules | `(tactic| get_elem_tactic_trivial) => `(tactic| (repeat first | exact Wk.nil | exact Wk'.nil | refine Wk.same ?_ | refine Wk'.same ?_ | refine Wk.un (fun _ z => nomatch z) ?_ | refine Wk'.un ?_))
/-! level 3: defs and calls -/
abbrev W3F := List Sl → My → (Ro → List Sl → My → Prop) → XE3 → Prop
def subU (H U : Hp) : Hp := fun a => match U a with
  | some _ => none
  | none => H a
theorem subU_at {H U : Hp} {a : Addr} {o : HO} (h : U a = some o) : subU H U a = none := by
  unfold subU
  rw [h]
theorem subU_off {H U : Hp} {a : Addr} (h : U a = none) : subU H U a = H a := by
  unfold subU
  rw [h]
theorem subU_hang {C H U : Hp} {bx : Option (Nat × Addr)} (h : ∀ a o, U a = some o → H a = some o) : (⟨C, subU H U, bx⟩ : Bs).hang U = ⟨C, H, bx⟩ := by
  unfold Bs.hang
  congr 1
  funext a
  show (match U a with | some o => some o | none => subU H U a) = H a
  cases q : U a with
  | some o => exact (h a o q).symm
  | none => exact subU_off q
def sp3 (K : PySem.W.Frag) (n : Nat) (wf : W3F) : Sp := fun vs H Q E => vs.length = n ∧ ∃ (C U : Hp) (bx : Option (Nat × Addr)) (ps : List Sl) (μ : My) (m : Fm) (Ψ : Ro → List Sl → My → Prop) (Ξ : XE3),
  Sep K ⟨C, H, bx⟩ C H (vs.map some) ps ∧ Exp μ m ∧ Mf K ⟨C, subU H U, bx⟩ C U m ∧ (∀ a o, U a = some o → H a = some o) ∧ wf ps μ Ψ Ξ ∧
  (∀ C' G v r ps' μ', Ok3 K ⟨C, subU H U, bx⟩ C' G (vs.map some) ps' μ' v r → Ψ r ps' μ' → Q v G) ∧
  ∀ C' G cls dd c d ps' μ', Sep3 K ⟨C, subU H U, bx⟩ C' G (vs.map some) ps' μ' → ExAt K C' cls dd c d → Ξ c d ps' μ' → E cls dd G
theorem Sep.args' {B' : Bs} {C H C' G : Hp} {bx : Option (Nat × Addr)} {vs : List V} {ps ρ : List Sl} {σ : L2.St} (hC : B'.C0 = C) (hb : B'.bx = bx) (S0 : Sep K ⟨C, H, bx⟩ C H (vs.map some) ps) (S : Sep K B' C' G σ ρ) : Sep K B' C' G (vs.map some) (mrg ps ρ) := by
  subst hC hb
  have nohot : ∀ (i : Nat) (ds : List Dt), ps[i]? ≠ some (.hot ds) := fun i ds e => by
    obtain ⟨a, us, e2, ha, _⟩ := S0.sl i _ e
    have := S0.loc i a ds e e2
    rw [show (⟨B'.C0, H, B'.bx⟩ : Bs).H0 a = H a from rfl, ha] at this
    cases this
  have box : ∀ (i : Nat) (n : Int), ps[i]? = some (.box n) → ∃ a m, B'.bx = some (i, a) ∧ (vs.map some)[i]? = some (some (V.ref a)) ∧ σ[i]? = some (some (V.ref a)) ∧ ρ[i]? = some (.box m) := fun i n e => by
    obtain ⟨a, e2, ⟨x, y, z, ha, _⟩, _⟩ := S0.sl i _ e
    rcases S0.lob i a n e e2 with q | q
    · rw [show (⟨B'.C0, H, B'.bx⟩ : Bs).H0 a = H a from rfl, ha] at q
      cases q
    · obtain ⟨g1, m, g2⟩ := S.par i a q
      exact ⟨a, m, q, e2, g1, g2⟩
  have case_ : ∀ (i : Nat) (s : Sl), (mrg ps ρ)[i]? = some s → (∃ a m, s = .box m ∧ B'.bx = some (i, a) ∧ (vs.map some)[i]? = some (some (V.ref a)) ∧ σ[i]? = some (some (V.ref a)) ∧ ρ[i]? = some (.box m)) ∨ (ps[i]? = some s ∧ s.mut = false) := fun i s h => by
    rcases mrg_at ps ρ i s h with ⟨n, e, q⟩ | ⟨e, q⟩
    · obtain ⟨a, m, g1, g2, g3, g4⟩ := box i n e
      rcases q with q | ⟨q, _⟩
      · rw [g4] at q
        cases q
        exact .inl ⟨a, m, rfl, g1, g2, g3, g4⟩
      · rw [g4] at q
        cases q
    · cases s with
      | un => exact .inr ⟨e, rfl⟩
      | dat d => exact .inr ⟨e, rfl⟩
      | hot ds => exact absurd e (nohot i ds)
      | box n => exact absurd rfl (q n)
  refine ⟨S.cold, by rw [mrg_len]; exact S0.len, fun i s h => ?_, fun i j a s t n h1 h2 m1 m2 e1 e2 => ?_, S.grow, S.new, S.dom, S.keep, fun i a ds h e => ?_, fun i a n h e => ?_, fun i a h => ?_, S.pz⟩
  · rcases case_ i s h with ⟨a, m, rfl, g1, g2, g3, g4⟩ | ⟨g1, g2⟩
    · obtain ⟨b, e, q⟩ := S.sl i _ g4
      rw [g3] at e
      cases e
      exact ⟨a, g2, q⟩
    · have q := S0.sl i s g1
      cases s with
      | un => trivial
      | dat d =>
        obtain ⟨v, e, r⟩ := q
        exact ⟨v, e, r.same S.grow⟩
      | hot ds => cases g2
      | box n => cases g2
  · rcases case_ i s h1 with ⟨b, m, rfl, g1, _⟩ | ⟨_, g2⟩
    · rcases case_ j t h2 with ⟨c, m', rfl, k1, _⟩ | ⟨_, g2⟩
      · rw [g1] at k1
        cases k1
        exact n rfl
      · rw [g2] at m2
        cases m2
    · rw [g2] at m1
      cases m1
  · rcases case_ i _ h with ⟨b, m, z, g1, _⟩ | ⟨_, g2⟩
    · cases z
    · cases g2
  · rcases case_ i _ h with ⟨b, m, z, g1, g2, _⟩ | ⟨_, g2⟩
    · rw [g2] at e
      cases e
      exact .inr g1
    · cases g2
  · obtain ⟨h1, n, h2⟩ := S0.par i a h
    obtain ⟨g1, m, g2⟩ := S.par i a h
    exact ⟨h1, m, mrg_box ps ρ i n m h2 g2⟩
/-- what is asked at the end: the things hung may be told otherwise -/
def fin3 (ps : List Sl) (Ψ : Ro → List Sl → My → Prop) : Fs3 := ⟨fun ρ μ => ∃ μ2, Ent μ μ2 ∧ Ψ (.dat .non) (mrg ps ρ) μ2, fun r ρ μ => ∃ μ2, Ent μ μ2 ∧ Ψ r (mrg ps ρ) μ2, fun _ _ => False, fun _ _ => False⟩
def finX3 (ps : List Sl) (Ξ : XE3) : XE3 := fun c d ρ μ => ∃ μ2, Ent μ μ2 ∧ Ξ c d (mrg ps ρ) μ2
theorem fin3_ok {C H0 : Hp} {bx : Option (Nat × Addr)} {vs : List V} {ps : List Sl} {Q : VK} {E : XK} {Ψ : Ro → List Sl → My → Prop} {Ξ : XE3} (ar : ∀ {C' G : Hp} {σ : L2.St} {ρ : List Sl} {μ : My}, Sep3 K ⟨C, H0, bx⟩ C' G σ ρ μ → Sep3 K ⟨C, H0, bx⟩ C' G (vs.map some) (mrg ps ρ) μ)
    (k : ∀ C' G v r ps' μ', Ok3 K ⟨C, H0, bx⟩ C' G (vs.map some) ps' μ' v r → Ψ r ps' μ' → Q v G) (kx : ∀ C' G cls dd c d ps' μ', Sep3 K ⟨C, H0, bx⟩ C' G (vs.map some) ps' μ' → ExAt K C' cls dd c d → Ξ c d ps' μ' → E cls dd G) :
    Meets3 K ⟨C, H0, bx⟩ (fin3 ps Ψ) { nx := fun _ H' => Q .non H', rt := Q } ∧ MeetsX3 K ⟨C, H0, bx⟩ (finX3 ps Ξ) (fun cls d _ H => E cls d H) := by
  refine ⟨⟨fun C1 H1 σ1 ρ1 μ1 S2 z => ?_, fun C1 H1 σ1 ρ1 μ1 v r ok z => ?_, fun C1 H1 σ1 ρ1 μ1 S2 z => False.elim z, fun C1 H1 σ1 ρ1 μ1 S2 z => False.elim z⟩, fun C1 H1 σ1 ρ1 μ1 cls dd c d S2 ex z => ?_⟩
  · obtain ⟨μ2, en, z⟩ := z
    exact k _ _ _ (.dat .non) _ _ ⟨ar (S2.ent en), .non⟩ z
  · obtain ⟨μ2, en, z⟩ := z
    refine k C1 H1 v r (mrg ps ρ1) μ2 ?_ z
    cases r with
    | dat d => exact ⟨ar (ok.1.ent en), ok.2⟩
    | new ds =>
      obtain ⟨x, rfl, S2⟩ := ok
      exact ⟨x, rfl, ar (S2.ent en.cons)⟩
  · obtain ⟨μ2, en, z⟩ := z
    exact kx _ _ _ _ _ _ _ _ (ar (S2.ent en)) ex z
theorem Sep3.args {C H C' G H0 : Hp} {bx : Option (Nat × Addr)} {vs : List V} {ps ρ : List Sl} {σ : L2.St} {μ : My} (S0 : Sep K ⟨C, H, bx⟩ C H (vs.map some) ps) (S : Sep3 K ⟨C, H0, bx⟩ C' G σ ρ μ) : Sep3 K ⟨C, H0, bx⟩ C' G (vs.map some) (mrg ps ρ) μ := by
  obtain ⟨m, e, U, M, S⟩ := S
  exact ⟨m, e, U, M, S0.args' rfl rfl S⟩
theorem body3 {E : XK} {t : TS} {w : WS3} [s : S3 K (fun cls d _ H => E cls d H) t w] {N : List Str} {vs : List V} {H : Hp} {Q : VK} {n : Nat} {wf : W3F} (h : sp3 K n wf vs H Q E) (hw : ∀ ps μ Ψ Ξ, wf ps μ Ψ Ξ → ps.length = n → w (ps ++ List.replicate (N.length - n) .un) μ (fin3 ps Ψ) (finX3 ps Ξ)) :
    t { nx := fun _ H' => Q .non H', rt := Q } (start N vs) H := by
  obtain ⟨hl, C, U, bx, ps, μ, m, Ψ, Ξ, S, e, M, hU, hf, k, kx⟩ := h
  have lp : ps.length = n := by have := S.len; rw [List.length_map] at this; omega
  have S1 : Sep3 K ⟨C, subU H U, bx⟩ C H (start N vs) (ps ++ List.replicate (N.length - vs.length) .un) μ := ⟨m, e, U, M, by rw [subU_hang hU]; exact start_sep (N := N) S⟩
  have h1 := hw ps μ Ψ Ξ hf lp
  rw [← hl] at h1
  obtain ⟨m3, x3⟩ := fin3_ok (ps := ps) (fun z => Sep3.args S z) k kx
  exact s.run _ C H _ _ _ _ _ _ S1 h1 m3 x3
/-! behind a call that was handed some of what is hung -/
section
variable {B : Bs} {C H G C' H0 : Hp} {σ : L2.St} {ρ : List Sl}
theorem Sep.after' (S : Sep K B C H σ ρ) {τ : L2.St} {π : List Sl} (S' : Sep K ⟨C, H0, none⟩ C' G τ π) (hy : ∀ a o, H a = some o → H0 a = some o ∨ (H0 a = none ∧ B.H0 a = none ∧ NoSlot σ ρ a)) (hz : ∀ a o, H0 a = some o → H a = some o) : Sep K B C' G σ ρ := by
  have kp : ∀ a o, H0 a = some o → G a = some o := fun a o h => S'.keep a o h fun i z => nomatch z
  have cn : ∀ a o, H0 a = some o → C a = none → C' a = none := fun a o h c => by
    cases q : C' a with
    | none => rfl
    | some u =>
      have : H0 a = none := S'.new a u q c
      rw [h] at this
      cases this
  have slot : ∀ {i : Nat} {t : Sl} {a : Addr} {o : HO}, ρ[i]? = some t → t.mut = true → σ[i]? = some (some (V.ref a)) → H a = some o → H0 a = some o := fun {i t a o} h m e ha => by
    rcases hy a o ha with z | ⟨_, _, z⟩
    · exact z
    · exact absurd e (z i t h m)
  have old : ∀ {a : Addr} {o : HO}, B.H0 a ≠ none → H a = some o → H0 a = some o := fun {a o} h ha => by
    rcases hy a o ha with z | ⟨_, z, _⟩
    · exact z
    · exact absurd z h
  refine ⟨S'.cold, S.len, fun i s h => ?_, S.ne, S.grow.trans S'.grow, fun a o e n => ?_, fun a h => ?_, fun a o h n => ?_, S.loc, S.lob, S.par, S.pz⟩
  · have q := S.sl i s h
    cases s with
    | un => trivial
    | dat d =>
      obtain ⟨v, e, r⟩ := q
      exact ⟨v, e, r.same S'.grow⟩
    | hot ds =>
      obtain ⟨a, vs, e, ha, r, ca⟩ := q
      have h0 := slot h rfl e ha
      exact ⟨a, vs, e, kp _ _ h0, r.same S'.grow, cn _ _ h0 ca⟩
    | box n =>
      obtain ⟨a, e, ⟨x, y, z, ha, hh⟩, ca⟩ := q
      have h0 := slot h rfl e ha
      exact ⟨a, e, ⟨x, y, z, kp _ _ h0, hh⟩, cn _ _ h0 ca⟩
  · cases q : C a with
    | some u => exact S.new a u q n
    | none =>
      have h0 : H0 a = none := S'.new a o e q
      cases q2 : H a with
      | none => exact S.free0 q2
      | some u =>
        rcases hy a u q2 with z | ⟨_, z, _⟩
        · rw [h0] at z; cases z
        · exact z
  · have := S.dom a h
    cases q : H a with
    | none => exact absurd q this
    | some u => exact S'.dom a (by show H0 a ≠ none; rw [old h q]; exact fun z => nomatch z)
  · exact kp a o (old (by rw [h]; exact fun z => nomatch z) (S.keep a o h n))
theorem Sep.afterB' (S : Sep K B C H σ ρ) {p : Addr} {i : Nat} {m n : Int} {τ : L2.St} {π : List Sl} (hi : ρ[i]? = some (.box m)) (ei : σ[i]? = some (some (V.ref p))) (S' : Sep K ⟨C, H0, some (0, p)⟩ C' G τ π) (hn : π[0]? = some (.box n)) (hy : ∀ a o, H a = some o → H0 a = some o ∨ (H0 a = none ∧ B.H0 a = none ∧ NoSlot σ ρ a)) (hz : ∀ a o, H0 a = some o → H a = some o) : Sep K B C' G σ (ρ.set i (.box n)) := by
  have kp : ∀ a o, H0 a = some o → a ≠ p → G a = some o := fun a o h z => S'.keep a o h fun i q => by cases q; exact z rfl
  have cn : ∀ a o, H0 a = some o → C a = none → C' a = none := fun a o h c => by
    cases q : C' a with
    | none => rfl
    | some u =>
      have : H0 a = none := S'.new a u q c
      rw [h] at this
      cases this
  have slot : ∀ {i : Nat} {t : Sl} {a : Addr} {o : HO}, ρ[i]? = some t → t.mut = true → σ[i]? = some (some (V.ref a)) → H a = some o → H0 a = some o := fun {i t a o} h m e ha => by
    rcases hy a o ha with z | ⟨_, _, z⟩
    · exact z
    · exact absurd e (z i t h m)
  have old : ∀ {a : Addr} {o : HO}, B.H0 a ≠ none → H a = some o → H0 a = some o := fun {a o} h ha => by
    rcases hy a o ha with z | ⟨_, z, _⟩
    · exact z
    · exact absurd z h
  obtain ⟨e0, m', e1⟩ := S'.par 0 p rfl
  obtain ⟨p', e2, bG, cp⟩ := S'.sl 0 _ hn
  rw [e0] at e2
  cases e2
  have back : ∀ {j : Nat} {t : Sl}, (ρ.set i (.box n))[j]? = some t → t.mut = true → ∃ t', ρ[j]? = some t' ∧ t'.mut = true := fun {j t} z y => by
    rcases get_set z with ⟨rfl, rfl, l⟩ | ⟨_, z⟩
    · exact ⟨_, hi, rfl⟩
    · exact ⟨t, z, y⟩
  refine ⟨S'.cold, by rw [List.length_set]; exact S.len, fun j s h => ?_, fun j k a t u q h1 h2 m1 m2 e1 e2 => ?_, S.grow.trans S'.grow, fun a o e n => ?_, fun a h => ?_, fun a o h n => ?_, fun j a ds h e => ?_, fun j a n h e => ?_, fun j a h => ?_, S.pz⟩
  · rcases get_set h with ⟨rfl, rfl, l⟩ | ⟨nj, h⟩
    · exact ⟨p, ei, bG, cp⟩
    · have q := S.sl j s h
      cases s with
      | un => trivial
      | dat d =>
        obtain ⟨v, e, r⟩ := q
        exact ⟨v, e, r.same S'.grow⟩
      | hot ds =>
        obtain ⟨a, vs, e, ha, r, ca⟩ := q
        have h0 := slot h rfl e ha
        exact ⟨a, vs, e, kp _ _ h0 (fun z => S.ne i j p _ _ nj hi h rfl rfl ei (z ▸ e)), r.same S'.grow, cn _ _ h0 ca⟩
      | box n =>
        obtain ⟨a, e, ⟨x, y, z, ha, hh⟩, ca⟩ := q
        have h0 := slot h rfl e ha
        have na : a ≠ p := fun z => S.ne i j p _ _ nj hi h rfl rfl ei (z ▸ e)
        exact ⟨a, e, ⟨x, y, z, kp _ _ h0 na, hh⟩, cn _ _ h0 ca⟩
  · obtain ⟨t', h1, m1⟩ := back h1 m1
    obtain ⟨u', h2, m2⟩ := back h2 m2
    exact S.ne j k a t' u' q h1 h2 m1 m2 e1 e2
  · cases q : C a with
    | some u => exact S.new a u q n
    | none =>
      have h0 : H0 a = none := S'.new a o e q
      cases q2 : H a with
      | none => exact S.free0 q2
      | some u =>
        rcases hy a u q2 with z | ⟨_, z, _⟩
        · rw [h0] at z; cases z
        · exact z
  · have := S.dom a h
    cases q : H a with
    | none => exact absurd q this
    | some u => exact S'.dom a (by show H0 a ≠ none; rw [old h q]; exact fun z => nomatch z)
  · refine kp a o (old (by rw [h]; exact fun z => nomatch z) (S.keep a o h n)) fun z => ?_
    subst z
    rcases S.lob i a m hi ei with q | q
    · rw [h] at q
      cases q
    · exact n i q
  · rcases get_set h with ⟨rfl, z, l⟩ | ⟨nj, h⟩
    · cases z
    · exact S.loc j a ds h e
  · rcases get_set h with ⟨rfl, z, l⟩ | ⟨nj, h⟩
    · exact S.lob i a m hi e
    · exact S.lob j a n h e
  · obtain ⟨h1, n', h2⟩ := S.par j a h
    by_cases z : i = j
    · subst z
      refine ⟨h1, n, set_at ?_⟩
      cases Nat.lt_or_ge i ρ.length with
      | inl h => exact h
      | inr g => rw [List.getElem?_eq_none g] at hi; cases hi
    · exact ⟨h1, n', by rw [set_off z]; exact h2⟩
/-- the parts put together again -/
theorem SepF.rejoin {U1 U2 U' : Hp} {bx : Option (Nat × Addr)} {m1 m2 m' : Fm} {τ : L2.St} {π ρ' : List Sl} (M1 : Mf K B C U1 m1) (M2 : Mf K B C U2 m2) (S : Sep K (B.hang U2) C H σ ρ) (hh : ∀ a o, U1 a = some o → H a = some o ∧ U2 a = none ∧ NoSlot σ ρ a) (M' : Mf K ⟨C, subU H U1, bx⟩ C' U' m') (S' : Sep K ((⟨C, subU H U1, bx⟩ : Bs).hang U') C' G τ π) (Sa : Sep K (B.hang U2) C' G σ ρ') (ns' : ∀ a, NoSlot σ ρ a → NoSlot σ ρ' a) (s : Same C C') : SepF K B C' G σ ρ' (m' ++ m2) := by
  have fr0 : ∀ a o, U' a = some o → (U1 a = none ∧ H a = none) ∨ ∃ u, U1 a = some u := fun a o h => by
    have := (M'.fr a o h).2.1
    cases q : U1 a with
    | some u => exact .inr ⟨u, rfl⟩
    | none =>
      have this : subU H U1 a = none := this
      rw [subU_off q] at this
      exact .inl ⟨rfl, this⟩
  refine SepF.join ⟨M'.nd, M'.at_, M'.all, fun a o h => ⟨(M'.fr a o h).1, ?_, ?_⟩⟩ (M2.on S.grow s Sa) Sa fun a o h => ⟨M'.bound S' h, ?_, ns' a ?_⟩
  · rcases fr0 a o h with ⟨q1, q2⟩ | ⟨u, q⟩
    · exact (hang_no (S.free0 q2)).2
    · exact (M1.fr a u q).2.1
  · rcases fr0 a o h with ⟨q1, q2⟩ | ⟨u, q⟩
    · exact fun i e => by
        obtain ⟨e1, n, e2⟩ := S.par i a e
        exact (S.mutH e2 rfl e1).2 q2
    · exact (M1.fr a u q).2.2
  · rcases fr0 a o h with ⟨q1, q2⟩ | ⟨u, q⟩
    · cases q3 : U2 a with
      | none => rfl
      | some x =>
        have := M2.bound S q3
        rw [q2] at this
        cases this
    · exact (hh a u q).2.1
  · rcases fr0 a o h with ⟨q1, q2⟩ | ⟨u, q⟩
    · exact fun j t h m e2 => (S.mutH h m e2).2 q2
    · exact (hh a u q).2.2
end

end
section
variable {P : Program} {w : World} {K : PySem.W.Frag} {mg : Str → Option Value} {base : Heap}
local macro_rules | `(tactic| get_elem_tactic_trivial) => `(tactic| (repeat first | exact Wk.nil | exact Wk'.nil | refine Wk.same ?_ | refine Wk'.same ?_ | refine Wk.un (fun _ z => nomatch z) ?_ | refine Wk'.un ?_))
/-! level 3: calls, their arguments by place and by name, what is left out -/
def gB (is : List Nat) (dv : List V) (vs zs : List V) : List V := gP is vs (zs ++ dv)
theorem pass0S {X : Cx} (W : WX) (σ : L2.St) : PassesAt CX0 X σ (L2.WE W σ) := fun _ _ _ _ _ _ h => h.elim
/-- some of those by name alone are left out -/
theorem kbKw {x qual : Str} {params : Arguments} {body : List Stmt} {scope : Scope} {kws : List (Str × V)} {f : Addr} {fd : FuncData} {ps : List Str} (F : FunD K x qual params body scope [] kws f fd) (n : Nat) (ks : List Str) (is : List Nat) (ms : List (Str × V)) (hk : kws ≠ []) (hms : ∀ q ∈ ms, q ∈ kws)
    (h : ∀ (D : Addr) (doc pm : Value) (an : Option Addr) (cdv ct : Value) (us mv ws : List Value), us.length = n → mv.length = ms.length → ws.length = ks.length →
      KwChain D ((ms.map (·.1)).zip mv) (bindArgs (PySem.W.fnOf x qual params body scope .none (.ref D) doc pm an cdv ct) ⟨us, ks.zip ws⟩) (ps.zip (gP is us (ws ++ mv)))) :
    ∃ g : List Value → List Value → List Value, KBn K fd ps n ks g (gB is (ms.map (·.2))) := by
  obtain ⟨mv, z⟩ := F.kbinds0 n ks ms (fun {α} us mv ws => gP is us (ws ++ mv)) hk hms (fun a b c => gP_vals is a (c.append b)) h
  exact ⟨_, z⟩
/-- f(e, ..), o.m(e, ..), C(e, ..) -/
def tCall3 (n m : Nat) (sp : Sp) (gV : List V → List V → List V) (E : L2.St → XK) (t tk : TA) : TE := tCallNS n m sp gV E t tk
def tMeth3 (C : Addr) (mm : Str) (n m : Nat) (sp : Sp) (gV : List V → List V → List V) (E : L2.St → XK) (ta : TE) (t tk : TA) : TE := fun σ H Q => ta σ H fun x H1 => ∃ a dx fs, x = .ref a ∧ H1 a = some (.ins C dx fs) ∧ fs.lookup mm = none ∧
  t σ H1 fun vs H2 => tk σ H2 fun zs H3 => vs.length = n ∧ zs.length = m ∧ sp (gV (x :: vs) zs) H3 Q (E σ)
def tMake3 (C : Addr) (n m : Nat) (sp : Sp) (gV : List V → List V → List V) (E : L2.St → XK) (t tk : TA) : TE := fun σ H Q => t σ H fun vs H1 => tk σ H1 fun zs H2 => vs.length = n ∧ zs.length = m ∧ ∀ x dx, H2 x = none → H2 dx = none → dx ≠ x →
  sp (gV (.ref x :: vs) zs) (upd (upd H2 dx (.own x)) x (.ins C dx [])) (fun v H3 => v = .non ∧ Q (.ref x) H3) (E σ)
section
variable {X : Cx} {CX : CXT} {k n : Nat} {f C : Addr} {fd : FuncData} {ps ks : List Str} {sp : Sp} {E : L2.St → XK} {x mm : Str} {p pos apos : Pos} {e o : Expr} {es : List Expr} {kws : List Keyword} {ta : TE} {t tk : TA} {g : List Value → List Value → List Value} {gV : List V → List V → List V} {pl : Sem Bool}
theorem pe_call3 (F : FnOk X.prog X.w X.K X.mg X.base CX k f fd ps sp) (hr : Room k X.A) (hg : Gl X x) (hm : X.mg x = some (.ref f)) (hk : PySem.W.keepIn X.K (.ref f) = true) (hb : KBn X.K fd ps n ks g gV) (hx : ∀ σ, PassesAt CX X σ (E σ))
    (ha : PA X (e :: es) t) (hkw : PK X kws tk) (hall : (backToKw pos (keywordEach kws X.env)).all (·.1.isSome) = true := by rfl) (hks : (backToKw pos (keywordEach kws X.env)).filterMap (·.1) = ks := by rfl)
    (hdb : (x == ("__debug__" : Str)) = false := by decide) (he : starEach (e :: es) X.env = (false, eval e X.env) :: starEach es X.env := by rfl)
    (hpl : ((backTo pos (starEach (e :: es) X.env)).any (·.1) || (backToKw pos (keywordEach kws X.env)).any (·.1.isNone)) = false := by rfl) :
    PE X (.Call (.Name x p) (e :: es) kws pos) (tCall3 n ks.length sp gV E t tk) := pe_callNS F hr hg hm hk hb hx ha hkw hall hks hdb he hpl
theorem pe_meth3 (he : PE X o ta) (c : Cls X.K C) (hm : Meth X.K C mm f) (F : FnOk X.prog X.w X.K X.mg X.base CX k f fd ps sp) (hr : Room k X.A) (hb : KBn X.K fd ps (n + 1) ks g gV) (hx : ∀ σ, PassesAt CX X σ (E σ)) (ha : PA X (e :: es) t) (hkw : PK X kws tk)
    (hall : (backToKw pos (keywordEach kws X.env)).all (·.1.isSome) = true := by rfl) (hks : (backToKw pos (keywordEach kws X.env)).filterMap (·.1) = ks := by rfl)
    (hst : starEach (e :: es) X.env = (false, eval e X.env) :: starEach es X.env := by rfl) (hpl : ((backTo pos (starEach (e :: es) X.env)).any (·.1) || (backToKw pos (keywordEach kws X.env)).any (·.1.isNone)) = false := by rfl)
    (ht : eval (.Call (.Attribute o mm apos) (e :: es) kws pos) X.env = (do
      let ov ← eval o X.env
      standAt apos.atName
      let (f, first) ← holding [ov] (getMethod ov mm pl)
      callWith pos f first (backTo pos (starEach (e :: es) X.env)) (backToKw pos (keywordEach kws X.env))) := by rfl) :
    PE X (.Call (.Attribute o mm apos) (e :: es) kws pos) (tMeth3 C mm n ks.length sp gV E ta t tk) := by
  refine ⟨fun pins s σ H Q I h => ?_⟩
  refine PySem.W.methodCall_KW (pl := pl) (thn (he.run pins s σ H _ I h) fun u s1 ⟨x, H1, I1, rx, a, dx, fs, ex, ea, l, q⟩ => ?_) ht
  subst ex
  obtain rfl : u = Value.ref a := rx
  refine getmeth_ok I1 ea c hm l ?_
  refine PySem.W.callWith_KW (first := [.ref a]) (h₀ := X.base) I1.ok.mod.kin hm.kp hall (thn (ha.run pos pins s1 σ H1 _ I1 q) fun us s2 ⟨vs, H2, I2, r, q2⟩ => ?_) hpl hst
  refine thn (hkw.run pos pins s2 σ H2 _ I2 q2) fun ws s3 ⟨zs, H3, I3, rz, l1, l2, q3⟩ => ⟨I3.kIn, ?_⟩
  rw [hks]
  exact run_fnNS (us := .ref a :: us) (vs := .ref a :: vs) F hr hb (hx σ) I3 (.cons rfl r) rz (by rw [List.length_cons, l1]) l2 q3
theorem pe_meth30 (he : PE X o ta) (c : Cls X.K C) (hm : Meth X.K C mm f) (F : FnOk X.prog X.w X.K X.mg X.base CX k f fd ps sp) (hr : Room k X.A) (hb : KBn X.K fd ps 1 ks g gV) (hx : ∀ σ, PassesAt CX X σ (E σ)) (hkw : PK X kws tk)
    (hall : (backToKw pos (keywordEach kws X.env)).all (·.1.isSome) = true := by rfl) (hks : (backToKw pos (keywordEach kws X.env)).filterMap (·.1) = ks := by rfl)
    (hpl : ((backTo pos (starEach [] X.env)).any (·.1) || (backToKw pos (keywordEach kws X.env)).any (·.1.isNone)) = false := by rfl)
    (ht : eval (.Call (.Attribute o mm apos) [] kws pos) X.env = (do
      let ov ← eval o X.env
      standAt apos.atName
      let (f, first) ← holding [ov] (getMethod ov mm pl)
      callWith pos f first (backTo pos (starEach [] X.env)) (backToKw pos (keywordEach kws X.env))) := by rfl) :
    PE X (.Call (.Attribute o mm apos) [] kws pos) (tMeth3 C mm 0 ks.length sp gV E ta tNil tk) := by
  refine ⟨fun pins s σ H Q I h => ?_⟩
  refine PySem.W.methodCall_KW (pl := pl) (thn (he.run pins s σ H _ I h) fun u s1 ⟨x, H1, I1, rx, a, dx, fs, ex, ea, l, q⟩ => ?_) ht
  subst ex
  obtain rfl : u = Value.ref a := rx
  refine getmeth_ok I1 ea c hm l ?_
  refine PySem.W.callWith_KW0 (first := [.ref a]) I1.kIn hm.kp hall ?_ hpl
  refine thn (hkw.run pos pins s1 σ H1 _ I1 q) fun ws s3 ⟨zs, H3, I3, rz, l1, l2, q3⟩ => ⟨I3.kIn, ?_⟩
  rw [hks]
  exact run_fnNS (us := [.ref a]) (vs := [.ref a]) F hr hb (hx σ) I3 (.cons rfl .nil) rz rfl l2 q3
theorem run_make3 {pins : List (Addr × Obj)} {σ : L2.St} {H : Hp} {s : Shared} {Q : VK} {us ws : List Value} {vs zs : List V} (M : Mk X.K C f) (F : FnOk X.prog X.w X.K X.mg X.base CX k f fd ps sp) (hr : Room (k + 1) X.A) (hb : KBn X.K fd ps (n + 1) ks g gV) (hx : PassesAt CX X σ (E σ))
    (I : Inv X pins σ H s) (r : Vals vs us) (rz : Vals zs ws) (l1 : vs.length = n) (l2 : zs.length = ks.length)
    (h : ∀ x dx, H x = none → H dx = none → dx ≠ x → sp (gV (.ref x :: vs) zs) (upd (upd H dx (.own x)) x (.ins C dx [])) (fun v H2 => v = .non ∧ Q (.ref x) H2) (E σ)) :
    wpAny (model X.prog X.w) X.A (call (.ref C) us (ks.zip ws)) (EP X pins σ Q) X.xe s := by
  have hq := h (s.heap.objs.size + 1) s.heap.objs.size (I.hok.fresh (Nat.le_succ _)) (I.hok.fresh (Nat.le_refl _)) (Nat.ne_of_lt (Nat.lt_succ_self _))
  have I2 := Inv.made (C := C) I
  have r1 : Vals (V.ref (s.heap.objs.size + 1) :: vs) (Value.ref (s.heap.objs.size + 1) :: us) := .cons rfl r
  have r2 := hb.rel r1 rz
  have n1 : (Value.ref (s.heap.objs.size + 1) :: us).length = n + 1 := by
    rw [List.length_cons, ← r.length, l1]
  refine wpAny_call (make_map (f := f) I.kIn M.makes M.init (beq_iff_eq.mp M.fn) (codeAny_mono (F.run _ X.stack _ _ ⟨Value.ref (s.heap.objs.size + 1) :: us, ks.zip ws⟩ (g (Value.ref (s.heap.objs.size + 1) :: us) ws) _ _ (E σ) (hr.make C us (ks.zip ws))
    (I2.env0.make C us (ks.zip ws)) (hb.to _ (Value.ref (s.heap.objs.size + 1) :: us) ws I2.kIn n1 (rz.length.symm.trans l2)) r2 hq) fun r s' hq' => ?_))
  cases r with
  | error e => exact hx pins _ _ e s' I2 hq'
  | ok fl =>
    cases fl with
    | ret u =>
      obtain ⟨v, H', I3, rv, ev, q3⟩ := I2.after hq'
      subst ev
      exact ⟨rv, ⟨V.ref (s.heap.objs.size + 1), H', I3, rfl, q3⟩⟩
    | next => exact False.elim hq'
    | brk => exact False.elim hq'
    | cont => exact False.elim hq'
theorem pe_make3 (M : Mk X.K C f) (F : FnOk X.prog X.w X.K X.mg X.base CX k f fd ps sp) (hr : Room (k + 1) X.A) (hg : Gl X x) (hm : X.mg x = some (.ref C)) (hb : KBn X.K fd ps (n + 1) ks g gV) (hx : ∀ σ, PassesAt CX X σ (E σ)) (ha : PA X (e :: es) t) (hkw : PK X kws tk)
    (hall : (backToKw pos (keywordEach kws X.env)).all (·.1.isSome) = true := by rfl) (hks : (backToKw pos (keywordEach kws X.env)).filterMap (·.1) = ks := by rfl) (hdb : (x == ("__debug__" : Str)) = false := by decide)
    (he : starEach (e :: es) X.env = (false, eval e X.env) :: starEach es X.env := by rfl) (hpl : ((backTo pos (starEach (e :: es) X.env)).any (·.1) || (backToKw pos (keywordEach kws X.env)).any (·.1.isNone)) = false := by rfl) :
    PE X (.Call (.Name x p) (e :: es) kws pos) (tMake3 C n ks.length sp gV E t tk) := by
  refine ⟨fun pins s σ H Q I h => ?_⟩
  refine wpAny_Call_Name_kw (ld_glob I hg hm ?_ hdb)
  refine PySem.W.callWith_KW (h₀ := X.base) I.ok.mod.kin M.kp hall (thn (ha.run pos pins s σ H _ I h) fun us s1 ⟨vs, H1, I1, r, q⟩ => ?_) hpl he
  refine thn (hkw.run pos pins s1 σ H1 _ I1 q) fun ws s2 ⟨zs, H2, I2, rz, l1, l2, q2⟩ => ⟨I2.kIn, ?_⟩
  rw [hks]
  exact run_make3 M F hr hb (hx σ) I2 r rz l1 l2 q2
end

end
section
variable {P : Program} {w : World} {K : PySem.W.Frag} {mg : Str → Option Value} {base : Heap}
local macro_rules | `(tactic| get_elem_tactic_trivial) => `(tactic| (repeat first | exact Wk.nil | exact Wk'.nil | refine Wk.same ?_ | refine Wk'.same ?_ | refine Wk.un (fun _ z => nomatch z) ?_ | refine Wk'.un ?_))
/-! level 3: what a call asks, and tells -/
theorem ArL.at {C : Hp} {σ : L2.St} : ∀ {vs : List V} {as : List Ar} {i : Nat} {a : Ar}, ArL K C σ vs as → as[i]? = some a → ∃ v, vs[i]? = some v ∧ ArOk K C σ v a
  | _, _, i, a, .nil, h => by simp at h
  | _, _, 0, a, .cons x t, h => by
    have e := Option.some.inj h
    subst e
    exact ⟨_, rfl, x⟩
  | _, _, i + 1, a, .cons x t, h => ArL.at (i := i) t h
theorem ArL.gP (is : List Nat) {C : Hp} {σ : L2.St} {vs zs : List V} {as bs : List Ar} (h1 : ArL K C σ vs as) (h2 : ArL K C σ zs bs) : ArL K C σ (Sl.gP is vs zs) (Sl.gP is as bs) := by
  have h := h1.app h2
  have hl := h.len
  unfold Sl.gP
  induction is with
  | nil => exact .nil
  | cons i is ih =>
    rw [List.filterMap_cons, List.filterMap_cons]
    cases q : (as ++ bs)[i]? with
    | none =>
      have : (vs ++ zs)[i]? = none := by
        rw [List.getElem?_eq_none_iff] at q ⊢
        omega
      rw [this]
      exact ih
    | some a =>
      obtain ⟨v, e, r⟩ := h.at q
      rw [e]
      exact .cons r ih
def two3 (i : Nat) (ρ : List Sl) (μr : My) (Ψ : Ro → List Sl → My → Prop) (r : Ro) (ps : List Sl) (μ' : My) : Prop := match ps with
  | .box n :: _ => Ψ r (ρ.set i (.box n)) (μ' ++ μr)
  | _ => False
def twoX3 (i : Nat) (ρ : List Sl) (μr : My) (Ξ : XE3) (c : Str) (d : Dt) (ps : List Sl) (μ' : My) : Prop := match ps with
  | .box n :: _ => Ξ c d (ρ.set i (.box n)) (μ' ++ μr)
  | _ => False
def call3 (wf : W3F) (as : List Ar) (ρ : List Sl) (μ1 μr : My) (Ψ : Ro → List Sl → My → Prop) (Ξ : XE3) : Prop := match as with
  | .b i :: as => match ρ[i]?, dats as with
    | some (.box n), some ds => wf (.box n :: ds.map .dat) μ1 (two3 i ρ μr Ψ) (twoX3 i ρ μr Ξ)
    | _, _ => False
  | as => match dats as with
    | some ds => wf (ds.map .dat) μ1 (fun r _ μ' => Ψ r ρ (μ' ++ μr)) fun c d _ μ' => Ξ c d ρ (μ' ++ μr)
    | none => False
section
variable {B : Bs} {C H : Hp} {σ : L2.St} {ρ : List Sl} {μ μ1 μr : My} {n : Nat} {wf : W3F} {Q : VK} {E : XK} {Ψ : Ro → List Sl → My → Prop} {Ξ : XE3}
theorem Sep3.handD {vs : List V} {ds : List Dt} (S : Sep3 K B C H σ ρ (μ1 ++ μr)) (r : RpL K C vs ds) (ln : ds.length = n) (h : wf (ds.map .dat) μ1 (fun r _ μ' => Ψ r ρ (μ' ++ μr)) fun c d _ μ' => Ξ c d ρ (μ' ++ μr))
    (k : ∀ C' G v r ρ' μ', Ok3 K B C' G σ ρ' μ' v r → Same C C' → Ψ r ρ' μ' → Q v G) (kx : ∀ C' G cls d2 c d ρ' μ', Sep3 K B C' G σ ρ' μ' → ExAt K C' cls d2 c d → Ξ c d ρ' μ' → E cls d2 G) : sp3 K n wf vs H Q E := by
  obtain ⟨m, e, SF⟩ := S
  obtain ⟨m1, mr, rfl, e1, er⟩ := e.unapp
  obtain ⟨U1, U2, M1, M2, S2, hh⟩ := SF.split
  have hy : ∀ a o, H a = some o → subU H U1 a = some o ∨ (subU H U1 a = none ∧ (B.hang U2).H0 a = none ∧ NoSlot σ ρ a) := fun a o ha => by
    cases q : U1 a with
    | none => exact .inl (by rw [subU_off q]; exact ha)
    | some u =>
      obtain ⟨_, u2, ns⟩ := hh a u q
      exact .inr ⟨subU_at q, by rw [hang_off u2]; exact (M1.fr a u q).2.1, ns⟩
  have hz : ∀ a o, subU H U1 a = some o → H a = some o := fun a o h => by
    cases q : U1 a with
    | none => rwa [subU_off q] at h
    | some u => rw [subU_at q] at h; cases h
  have back : ∀ {C' G : Hp} {τ : L2.St} {π : List Sl} {μ' : My}, Sep3 K ⟨C, subU H U1, none⟩ C' G τ π μ' → Sep3 K B C' G σ ρ (μ' ++ μr) ∧ Same C C' := fun {C' G τ π μ'} z => by
    obtain ⟨m', e', U', M', S'⟩ := z
    have Sd := S'.unhang M'
    have Sa := S2.after' Sd hy hz
    exact ⟨⟨_, e'.app er, SepF.rejoin M1 M2 S2 hh M' S' Sa (fun _ z => z) Sd.grow⟩, Sd.grow⟩
  refine ⟨by rw [r.len]; exact ln, C, U1, none, ds.map .dat, μ1, m1, _, _, sep_dats S2 r, e1, ⟨M1.nd, M1.at_, M1.all, fun a o h => ⟨(M1.fr a o h).1, subU_at h, fun i z => nomatch z⟩⟩, fun a o h => (hh a o h).1, h, fun C' G v r ps' μ' ok z => ?_, fun C' G cls dd c d ps' μ' S' ex z => kx _ _ _ _ _ _ _ _ (back S').1 ex z⟩
  cases r with
  | dat d => exact k _ _ _ (.dat d) _ _ ⟨(back ok.1).1, ok.2⟩ (back ok.1).2 z
  | new ds =>
    obtain ⟨x, rfl, S'⟩ := ok
    exact k _ _ _ (.new ds) _ _ ⟨x, rfl, (back S').1⟩ (back S').2 z
theorem Sep3.handB {vs : List V} {ds : List Dt} {p : Addr} {i : Nat} {m0 : Int} (S : Sep3 K B C H σ ρ (μ1 ++ μr)) (hi : ρ[i]? = some (.box m0)) (ei : σ[i]? = some (some (V.ref p))) (r : RpL K C vs ds) (ln : ds.length + 1 = n) (h : wf (.box m0 :: ds.map .dat) μ1 (two3 i ρ μr Ψ) (twoX3 i ρ μr Ξ))
    (k : ∀ C' G v r ρ' μ', Ok3 K B C' G σ ρ' μ' v r → Same C C' → Ψ r ρ' μ' → Q v G) (kx : ∀ C' G cls d2 c d ρ' μ', Sep3 K B C' G σ ρ' μ' → ExAt K C' cls d2 c d → Ξ c d ρ' μ' → E cls d2 G) : sp3 K n wf (V.ref p :: vs) H Q E := by
  obtain ⟨m, e, SF⟩ := S
  obtain ⟨m1, mr, rfl, e1, er⟩ := e.unapp
  obtain ⟨U1, U2, M1, M2, S2, hh⟩ := SF.split
  have hy : ∀ a o, H a = some o → subU H U1 a = some o ∨ (subU H U1 a = none ∧ (B.hang U2).H0 a = none ∧ NoSlot σ ρ a) := fun a o ha => by
    cases q : U1 a with
    | none => exact .inl (by rw [subU_off q]; exact ha)
    | some u =>
      obtain ⟨_, u2, ns⟩ := hh a u q
      exact .inr ⟨subU_at q, by rw [hang_off u2]; exact (M1.fr a u q).2.1, ns⟩
  have hz : ∀ a o, subU H U1 a = some o → H a = some o := fun a o h => by
    cases q : U1 a with
    | none => rwa [subU_off q] at h
    | some u => rw [subU_at q] at h; cases h
  have back : ∀ {C' G : Hp} {τ : L2.St} {π : List Sl} {μ' : My} {n' : Int}, Sep3 K ⟨C, subU H U1, some (0, p)⟩ C' G τ π μ' → π[0]? = some (.box n') → Sep3 K B C' G σ (ρ.set i (.box n')) (μ' ++ μr) ∧ Same C C' := fun {C' G τ π μ' n'} z hn => by
    obtain ⟨m', e', U', M', S'⟩ := z
    have Sd := S'.unhang M'
    have Sa := S2.afterB' hi ei Sd hn hy hz
    refine ⟨⟨_, e'.app er, SepF.rejoin M1 M2 S2 hh M' S' Sa (fun a ns j t hj mt => ?_) Sd.grow⟩, Sd.grow⟩
    rcases get_set hj with ⟨rfl, rfl, _⟩ | ⟨nj, hj⟩
    · exact ns i _ hi rfl
    · exact ns j t hj mt
  have npu : ∀ a o, U1 a = some o → ∀ j : Nat, some (0, p) ≠ some (j, a) := fun a o h j z => by
    cases z
    exact (hh _ _ h).2.2 i _ hi rfl ei
  refine ⟨by rw [List.length_cons, r.len]; exact ln, C, U1, some (0, p), .box m0 :: ds.map .dat, μ1, m1, _, _, sep_box S2 hi ei r, e1, ⟨M1.nd, M1.at_, M1.all, fun a o h => ⟨(M1.fr a o h).1, subU_at h, npu a o h⟩⟩, fun a o h => (hh a o h).1, h, fun C' G v r ps' μ' ok z => ?_, fun C' G cls dd c d ps' μ' S' ex z => ?_⟩
  · unfold two3 at z
    split at z
    · next n' t =>
      cases r with
      | dat d => exact k _ _ _ (.dat d) _ _ ⟨(back ok.1 rfl).1, ok.2⟩ (back ok.1 rfl).2 z
      | new ds =>
        obtain ⟨x, rfl, S'⟩ := ok
        exact k _ _ _ (.new ds) _ _ ⟨x, rfl, (back S' rfl).1⟩ (back S' rfl).2 z
    · exact z.elim
  · unfold twoX3 at z
    split at z
    · next n' t => exact kx _ _ _ _ _ _ _ _ (back S' rfl).1 ex z
    · exact z.elim
theorem Sep3.calls {vs : List V} {as : List Ar} (S : Sep3 K B C H σ ρ μ) (en : Ent μ (μ1 ++ μr)) (ok : ArL K C σ vs as) (hn : as.length = n) (h : call3 wf as ρ μ1 μr Ψ Ξ)
    (k : ∀ C' G v r ρ' μ', Ok3 K B C' G σ ρ' μ' v r → Same C C' → Ψ r ρ' μ' → Q v G) (kx : ∀ C' G cls d2 c d ρ' μ', Sep3 K B C' G σ ρ' μ' → ExAt K C' cls d2 c d → Ξ c d ρ' μ' → E cls d2 G) : sp3 K n wf vs H Q E := by
  have S1 := S.ent en
  unfold call3 at h
  split at h
  · next i as' =>
    split at h
    · next m0 ds h1 h2 =>
      cases ok with
      | cons x t =>
        have x : σ[i]? = some (some _) := x
        obtain ⟨p, e, _⟩ := S1.sep.sl i _ h1
        rw [x] at e
        cases e
        exact Sep3.handB S1 h1 x (t.dats h2) (by rw [← hn, List.length_cons, ← t.len, ← (t.dats h2).len]) h k kx
    · exact h.elim
  · next _ =>
    split at h
    · next ds h2 => exact Sep3.handD S1 (ok.dats h2) (by rw [← hn, ← ok.len, ← (ok.dats h2).len]) h k kx
    · exact h.elim
end
class Dw (K : PySem.W.Frag) (vs : List V) (ds : outParam (List Dt)) : Prop where
  run : ∀ (C : Hp), RpL K C vs ds
instance (priority := 40) dw_dv {vs : List V} {ds : List Dt} [a : Dv vs ds] : Dw K vs ds := ⟨a.run K⟩
def wCall3 (n a m : Nat) (wf : W3F) (is : List Nat) (dd : List Dt) (wa wk : WA3) : WE3 := fun ρ μ Ψ Ξ => wa ρ μ (fun as ρ1 μ1 => wk ρ1 μ1 (fun bs ρ2 μ2 => (as.length = a ∧ bs.length = m ∧ (gP is as (bs ++ dd.map .d)).length = n) ∧ ∃ ν νr, Ent μ2 (ν ++ νr) ∧ call3 wf (gP is as (bs ++ dd.map .d)) ρ2 ν νr Ψ Ξ) Ξ) Ξ
instance (priority := 45) e3_call {W : WX} {n a m : Nat} {wf : W3F} {is : List Nat} {dv : List V} {dd : List Dt} {ta tk : TA} {wa wk : WA3} [v : Dw K dv dd] [x : A3 K W ta wa] [y : A3 K W tk wk] : E3 K W (tCall3 a m (sp3 K n wf) (gB is dv) (L2.WE W) ta tk) (wCall3 n a m wf is dd wa wk) where
  run B C H σ ρ μ Q Ψ Ξ S h k mx := x.run B C H σ ρ μ _ _ _ S h (fun C1 H1 vs as ρ1 μ1 S1 s1 ok1 h1 => y.run B C1 H1 σ ρ1 μ1 _ _ _ S1 h1 (fun C2 H2 zs bs ρ2 μ2 S2 s2 ok2 h2 => by
    obtain ⟨⟨l1, l2, l3⟩, ν, νr, en, h2⟩ := h2
    refine ⟨by rw [ok1.len]; exact l1, by rw [ok2.len]; exact l2, ?_⟩
    exact Sep3.calls S2 en (ArL.gP is (ok1.same s2) (ok2.app (.ofRp (v.run C2)))) l3 h2 (fun C' G v r ρ' μ' ok s z => k C' G v r ρ' μ' ok ((s1.trans s2).trans s) z) fun C' G cls d2 c d ρ' μ' S' ex z => mx _ _ _ _ _ _ _ _ _ S' ex z) mx) mx
/-- at a, for certain, an instance -/
def HdAt (μ : My) (a : Addr) (c : Str) (ns : List Str) : Prop := ∀ m, Exp μ m → ∃ ds, (a, .ins c ns ds) ∈ m
class PkIns (I : Addr → Fm → Prop) (c : outParam Str) (ns : outParam (List Str)) : Prop where
  hd : ∀ a m, I a m → ∃ ds, (a, .ins c ns ds) ∈ m
theorem HdAt.fl {μ : My} {a : Addr} {c : Str} {ns : List Str} {ds : List Dt} : HdAt ((a, .fl (.ins c ns ds)) :: μ) a c ns := by
  rintro m ⟨m1, m2, rfl, e1, e⟩
  cases e1
  exact ⟨ds, List.mem_append_left _ (List.mem_cons_self ..)⟩
theorem HdAt.pk {μ : My} {a : Addr} {I : Addr → Fm → Prop} {c : Str} {ns : List Str} [p : PkIns I c ns] : HdAt ((a, .pk I) :: μ) a c ns := by
  rintro m ⟨m1, m2, rfl, e1, e⟩
  obtain ⟨ds, h⟩ := p.hd a m1 e1
  exact ⟨ds, List.mem_append_left _ h⟩
theorem HdAt.at {B : Bs} {C H : Hp} {σ : L2.St} {ρ : List Sl} {μ : My} {a : Addr} {c : Str} {ns : List Str} (S : Sep3 K B C H σ ρ μ) (h : HdAt μ a c ns) : ∃ ds, FlOk K C H a (.ins c ns ds) := by
  obtain ⟨m, e, S⟩ := S
  obtain ⟨ds, h⟩ := h m e
  exact ⟨ds, S.has h⟩
theorem zip_no {α : Type} {f : Str} : ∀ {ns : List Str} {vs : List α}, ns.contains f = false → (ns.zip vs).lookup f = none
  | [], _, _ => by simp
  | n :: ns, [], _ => by simp
  | n :: ns, v :: vs, h => by
    rw [List.contains_cons, Bool.or_eq_false_iff] at h
    rw [List.zip_cons_cons, List.lookup_cons, h.1]
    exact zip_no h.2
/-- o.m(..): o an instance that is changed, or one that is not -/
def wMeth3 (K : PySem.W.Frag) (Cl : Addr) (mm : Str) (n a m : Nat) (wf : W3F) (is : List Nat) (dd : List Dt) (wo : WE3) (wa wk : WA3) : WE3 := fun ρ μ Ψ Ξ => wo ρ μ (fun r ρ0 μ0 => match r with
  | .dat (.adr x) => (∃ c ns, HdAt μ0 x c ns ∧ He.ga K c = Cl ∧ ns.contains mm = false) ∧ wa ρ0 μ0 (fun as ρ1 μ1 => wk ρ1 μ1 (fun bs ρ2 μ2 => (as.length = a ∧ bs.length = m ∧ (gP is (.d (.adr x) :: as) (bs ++ dd.map .d)).length = n) ∧ ∃ ν νr, Ent μ2 (ν ++ νr) ∧ call3 wf (gP is (.d (.adr x) :: as) (bs ++ dd.map .d)) ρ2 ν νr Ψ Ξ) Ξ) Ξ
  | .dat (.obj c ns ds) => (He.ga K c = Cl ∧ ns.contains mm = false) ∧ wa ρ0 μ0 (fun as ρ1 μ1 => wk ρ1 μ1 (fun bs ρ2 μ2 => (as.length = a ∧ bs.length = m ∧ (gP is (.d (.obj c ns ds) :: as) (bs ++ dd.map .d)).length = n) ∧ ∃ ν νr, Ent μ2 (ν ++ νr) ∧ call3 wf (gP is (.d (.obj c ns ds) :: as) (bs ++ dd.map .d)) ρ2 ν νr Ψ Ξ) Ξ) Ξ
  | _ => False) Ξ
instance (priority := 45) e3_meth {W : WX} {Cl : Addr} {mm : Str} {n a m : Nat} {wf : W3F} {is : List Nat} {dv : List V} {dd : List Dt} {to : TE} {ta tk : TA} {wo : WE3} {wa wk : WA3} [v : Dw K dv dd] [o : E3 K W to wo] [x : A3 K W ta wa] [y : A3 K W tk wk] : E3 K W (tMeth3 Cl mm a m (sp3 K n wf) (gB is dv) (L2.WE W) to ta tk) (wMeth3 K Cl mm n a m wf is dd wo wa wk) where
  run B C H σ ρ μ Q Ψ Ξ S h k mx := o.run B C H σ ρ μ _ _ _ S h (fun C0 H0 v0 r0 ρ0 μ0 ok0 s0 h0 => by
    cases r0 with
    | new ds => exact False.elim h0
    | dat d0 =>
      obtain ⟨S0, rp0⟩ := ok0
      cases d0 <;> try exact False.elim h0
      · rename_i c ns ds
        obtain ⟨⟨ec, el⟩, h0⟩ := h0
        have rp0' : Rp K C0 v0 (.obj c ns ds) := rp0
        cases rp0 with
        | @obj _ p0 dx _ vs0 _ hx hdx hl rl =>
          refine ⟨p0, dx, _, rfl, by rw [← ec]; exact S0.sep.cold _ _ hx, zip_no el, ?_⟩
          refine x.run B C0 H0 σ ρ0 μ0 _ _ _ S0 h0 (fun C1 H1 vs as ρ1 μ1 S1 s1 ok1 h1 => y.run B C1 H1 σ ρ1 μ1 _ _ _ S1 h1 (fun C2 H2 zs bs ρ2 μ2 S2 s2 ok2 h2 => ?_) mx) mx
          obtain ⟨⟨l1, l2, l3⟩, ν, νr, en, h2⟩ := h2
          refine ⟨by rw [ok1.len]; exact l1, by rw [ok2.len]; exact l2, ?_⟩
          exact Sep3.calls S2 en (ArL.gP is (.cons (show ArOk K C2 σ (V.ref p0) (.d (.obj c ns ds)) from rp0'.same (s1.trans s2)) (ok1.same s2)) (ok2.app (.ofRp (v.run C2)))) l3 h2 (fun C' G v r ρ' μ' ok s z => k C' G v r ρ' μ' ok (s0.trans ((s1.trans s2).trans s)) z) fun C' G cls d2 c d ρ' μ' S' ex z => mx _ _ _ _ _ _ _ _ _ S' ex z
      · rename_i xx
        obtain ⟨⟨c, ns, hd, ec, el⟩, h0⟩ := h0
        cases rp0
        obtain ⟨ds, dx, vs0, e1, _⟩ := hd.at S0
        refine ⟨xx, dx, _, rfl, by rw [← ec]; exact e1, zip_no el, ?_⟩
        refine x.run B C0 H0 σ ρ0 μ0 _ _ _ S0 h0 (fun C1 H1 vs as ρ1 μ1 S1 s1 ok1 h1 => y.run B C1 H1 σ ρ1 μ1 _ _ _ S1 h1 (fun C2 H2 zs bs ρ2 μ2 S2 s2 ok2 h2 => ?_) mx) mx
        obtain ⟨⟨l1, l2, l3⟩, ν, νr, en, h2⟩ := h2
        refine ⟨by rw [ok1.len]; exact l1, by rw [ok2.len]; exact l2, ?_⟩
        exact Sep3.calls S2 en (ArL.gP is (.cons (show ArOk K C2 σ (V.ref xx) (.d (.adr xx)) from Rp.adr xx) (ok1.same s2)) (ok2.app (.ofRp (v.run C2)))) l3 h2 (fun C' G v r ρ' μ' ok s z => k C' G v r ρ' μ' ok (s0.trans ((s1.trans s2).trans s)) z) fun C' G cls d2 c d ρ' μ' S' ex z => mx _ _ _ _ _ _ _ _ _ S' ex z) mx
/-- a new instance is hung -/
theorem Sep3.newIns {B : Bs} {C H : Hp} {σ : L2.St} {ρ : List Sl} {μ : My} {x dx : Addr} {c : Str} (S : Sep3 K B C H σ ρ μ) (hx : H x = none) (hdx : H dx = none) (ne : dx ≠ x) : Sep3 K B C (upd (upd H dx (.own x)) x (.ins (He.ga K c) dx [])) σ ρ ((x, .fl (.ins c [] [])) :: μ) := by
  obtain ⟨m, e, U, M, S⟩ := S
  have hx2 : upd H dx (.own x) x = none := by rw [upd_ne (Ne.symm ne)]; exact hx
  have Sa := S.allocN (o := .own x) hdx
  have Sb := Sa.allocN (o := .ins (He.ga K c) dx []) hx2
  have nx := S.nohot hx
  have nd := S.nohot hdx
  obtain ⟨ux, bx⟩ := hang_no (S.free0 hx)
  obtain ⟨ud, bd⟩ := hang_no (S.free0 hdx)
  refine ⟨_, ⟨[(x, .ins c [] [])], m, rfl, rfl, e⟩, SepF.join (U1 := fun b => if b = x then some (.ins (He.ga K c) dx []) else if b = dx then some (.own x) else none) ⟨List.nodup_cons.mpr ⟨by simp, .nil⟩, fun b g h => ?_, fun b u h => ?_, fun b u h => ?_⟩ (M.on S.grow (Same.refl _) Sb) Sb fun b u h => ?_⟩
  · obtain ⟨rfl, rfl⟩ := Prod.mk.inj (List.mem_singleton.mp h)
    exact ⟨dx, [], if_pos rfl, (if_neg ne).trans (if_pos rfl), rfl, .nil, fun f h => nomatch h⟩
  · split at h
    · next z => exact .inl ⟨_, by rw [z]; exact List.mem_cons_self ..⟩
    · split at h
      · next z => exact .inr ⟨x, _, (Option.some.inj h).symm, List.mem_cons_self ..⟩
      · cases h
  · split at h
    · next z =>
      rw [z]
      exact ⟨S.cold.free hx, bx, fun i e => S.nobx nx i e⟩
    · split at h
      · next z =>
        rw [z]
        exact ⟨S.cold.free hdx, bd, fun i e => S.nobx nd i e⟩
      · cases h
  · split at h
    · next z =>
      rw [z]
      cases h
      exact ⟨upd_same, ux, nx⟩
    · next nz =>
      split at h
      · next z =>
        rw [z]
        cases h
        exact ⟨by rw [upd_ne ne, upd_same], ud, nd⟩
      · cases h
def non3 (x : Addr) (Ψ : Ro → List Sl → My → Prop) (r : Ro) (ρ : List Sl) (μ : My) : Prop := match r with
  | .dat .non => Ψ (.dat (.adr x)) ρ μ
  | _ => False
def wMake3 (K : PySem.W.Frag) (Cl : Addr) (n a m : Nat) (wf : W3F) (is : List Nat) (dd : List Dt) (wa wk : WA3) : WE3 := fun ρ μ Ψ Ξ => wa ρ μ (fun as ρ1 μ1 => wk ρ1 μ1 (fun bs ρ2 μ2 => (as.length = a ∧ bs.length = m) ∧ ∃ c, He.ga K c = Cl ∧ ∀ x, (gP is (.d (.adr x) :: as) (bs ++ dd.map .d)).length = n ∧ ∃ ν νr, Ent μ2 (ν ++ νr) ∧ call3 wf (gP is (.d (.adr x) :: as) (bs ++ dd.map .d)) ρ2 ((x, .fl (.ins c [] [])) :: ν) νr (non3 x Ψ) Ξ) Ξ) Ξ
instance (priority := 45) e3_make {W : WX} {Cl : Addr} {n a m : Nat} {wf : W3F} {is : List Nat} {dv : List V} {dd : List Dt} {ta tk : TA} {wa wk : WA3} [v : Dw K dv dd] [x : A3 K W ta wa] [y : A3 K W tk wk] : E3 K W (tMake3 Cl a m (sp3 K n wf) (gB is dv) (L2.WE W) ta tk) (wMake3 K Cl n a m wf is dd wa wk) where
  run B C H σ ρ μ Q Ψ Ξ S h k mx := x.run B C H σ ρ μ _ _ _ S h (fun C1 H1 vs as ρ1 μ1 S1 s1 ok1 h1 => y.run B C1 H1 σ ρ1 μ1 _ _ _ S1 h1 (fun C2 H2 zs bs ρ2 μ2 S2 s2 ok2 h2 => by
    obtain ⟨⟨l1, l2⟩, c, ec, h2⟩ := h2
    refine ⟨by rw [ok1.len]; exact l1, by rw [ok2.len]; exact l2, fun p dx hp hdx ne => ?_⟩
    obtain ⟨l3, ν, νr, en, h2⟩ := h2 p
    have S3 := S2.newIns (c := c) hp hdx ne
    rw [ec] at S3
    refine Sep3.calls S3 (μ1 := (p, .fl (.ins c [] [])) :: ν) (μr := νr) en.cons (ArL.gP is (.cons (show ArOk K C2 σ (V.ref p) (.d (.adr p)) from Rp.adr p) (ok1.same s2)) (ok2.app (.ofRp (v.run C2)))) l3 h2 (fun C' G v r ρ' μ' ok s z => ?_) fun C' G cls d2 c d ρ' μ' S' ex z => mx _ _ _ _ _ _ _ _ _ S' ex z
    unfold non3 at z
    split at z
    · obtain ⟨S', rp⟩ := ok
      cases rp
      exact ⟨rfl, k _ _ _ (.dat (.adr p)) _ _ ⟨S', .adr p⟩ ((s1.trans s2).trans s) z⟩
    · exact z.elim) mx) mx
/-! what level 1 promises -/
def up3 (wf : WF) : W3F := fun ps μ Ψ _ => wf ps fun r ps' => Ψ r ps' μ
theorem sp3_D {n : Nat} {wf : WF} {vs : List V} {H : Hp} {Q : VK} {E : XK} (h : sp3 K n (up3 wf) vs H Q E) : spD K n wf vs H Q E := by
  obtain ⟨hl, C, U, bx, ps, μ, m, Ψ, Ξ, S, e, M, hU, hf, k, kx⟩ := h
  have eB := subU_hang (C := C) (bx := bx) hU
  refine ⟨hl, C, bx, ps, _, S, hf, fun C' G v r ps' S' ok z => k C' G v r ps' μ ?_ z⟩
  have S'' : Sep K ((⟨C, subU H U, bx⟩ : Bs).hang U) C' G (vs.map some) ps' := by rw [eB]; exact S'
  have S0 : Sep K ((⟨C, subU H U, bx⟩ : Bs).hang U) C H (vs.map some) ps := by rw [eB]; exact S
  have M' := M.on S0.grow S'.grow S''
  cases r with
  | dat d => exact ⟨⟨m, e, U, M', S''⟩, ok⟩
  | new ds =>
    obtain ⟨x, rfl, f⟩ := ok
    refine ⟨x, rfl, _, ⟨[(x, .lst ds)], m, rfl, rfl, e⟩, SepF.fresh S'' M' ?_⟩
    rw [eB]
    exact f
theorem FnOk.up3 {k : Nat} {CX : CXT} {f : Addr} {fd : FuncData} {ps : List Str} {n : Nat} {wf : WF} (F : FnOk P w K mg base CX k f fd ps (spD K n wf)) : FnOk P w K mg base CX k f fd ps (sp3 K n (Sl.up3 wf)) := F.imp fun _ _ _ _ h => sp3_D h

end
section
variable {P : Program} {w : World} {K : PySem.W.Frag} {mg : Str → Option Value} {base : Heap}
local macro_rules | `(tactic| get_elem_tactic_trivial) => `(tactic| (repeat first | exact Wk.nil | exact Wk'.nil | refine Wk.same ?_ | refine Wk'.same ?_ | refine Wk.un (fun _ z => nomatch z) ?_ | refine Wk'.un ?_))
/-! level 3: expressions -/
/-- a list that is hung, seen as it stands -/
def vwK (μ : My) (d : Dt) (k : Dt → Prop) : Prop := match d with
  | .adr a => ∃ (i : Nat) (ds : List Dt), μ[i]? = some (a, Ob.fl (.lst ds)) ∧ k (.lst ds)
  | d => k d
theorem vwK_run {B : Bs} {C H : Hp} {σ : L2.St} {ρ : List Sl} {μ : My} {v : V} {d : Dt} {k : Dt → Prop} (S : Sep3 K B C H σ ρ μ) (r : Rp K C v d) (h : vwK μ d k) : ∃ e, Rt K C H v e ∧ k e := by
  cases d <;> try exact ⟨_, .inl r, h⟩
  rename_i a
  cases r
  obtain ⟨i, ds, hi, h⟩ := h
  obtain ⟨vs, hx, rx⟩ := S.has hi
  exact ⟨_, .inr ⟨a, vs, ds, rfl, rfl, hx, rx⟩, h⟩
def wOp3 (op : Dt → Dt → (Dt → Prop) → Prop) (wa wb : WE3) : WE3 := fun ρ μ Ψ Ξ => wa ρ μ (fun r1 ρ1 μ1 => wb ρ1 μ1 (fun r2 ρ2 μ2 => vwK μ2 r1.val fun d1 => vwK μ2 r2.val fun d2 => op d1 d2 fun d => Ψ (.dat d) ρ2 μ2) Ξ) Ξ
instance (priority := 40) e3_op {W : WX} {r : R2} {op : Dt → Dt → (Dt → Prop) → Prop} {ta tb : TE} {wa wb : WE3} [o : So K r op] [a : E3 K W ta wa] [b : E3 K W tb wb] : E3 K W (tOp r ta tb) (wOp3 op wa wb) where
  run B C H σ ρ μ Q Ψ Ξ S h k mx := a.run B C H σ ρ μ _ _ _ S h (fun C1 H1 v1 r1 ρ1 μ1 ok1 s1 h1 => by
    obtain ⟨C1', S1, s1', q1⟩ := ok1.cool
    refine b.run B C1' H1 σ ρ1 μ1 _ _ _ S1 h1 (fun C2 H2 v2 r2 ρ2 μ2 ok2 s2 h2 => ?_) mx
    obtain ⟨C2', S2, s2', q2⟩ := ok2.cool
    obtain ⟨d1, t1, h3⟩ := vwK_run S2 (q1.same (s2.trans s2')) h2
    obtain ⟨d2, t2, h4⟩ := vwK_run S2 q2 h3
    obtain ⟨B1, S3, back, _⟩ := S2.lift
    exact o.run B1 C2' H2 σ ρ2 _ _ _ _ _ _ S3 t1 t2 h4 fun C' G v d S' s' r' z => k _ _ _ (.dat d) _ _ ⟨(back S').1, r'⟩ ((s1.trans s1').trans ((s2.trans s2').trans s')) z) mx
def wOpN3 (op : Dt → Dt → (List Dt → Prop) → Prop) (wa wb : WE3) : WE3 := fun ρ μ Ψ Ξ => wa ρ μ (fun r1 ρ1 μ1 => wb ρ1 μ1 (fun r2 ρ2 μ2 => vwK μ2 r1.val fun d1 => vwK μ2 r2.val fun d2 => op d1 d2 fun ds => Ψ (.new ds) ρ2 μ2) Ξ) Ξ
instance (priority := 40) e3_opN {W : WX} {r : R2} {op : Dt → Dt → (List Dt → Prop) → Prop} {ta tb : TE} {wa wb : WE3} [o : Sno K r op] [a : E3 K W ta wa] [b : E3 K W tb wb] : E3 K W (tOp r ta tb) (wOpN3 op wa wb) where
  run B C H σ ρ μ Q Ψ Ξ S h k mx := a.run B C H σ ρ μ _ _ _ S h (fun C1 H1 v1 r1 ρ1 μ1 ok1 s1 h1 => by
    obtain ⟨C1', S1, s1', q1⟩ := ok1.cool
    refine b.run B C1' H1 σ ρ1 μ1 _ _ _ S1 h1 (fun C2 H2 v2 r2 ρ2 μ2 ok2 s2 h2 => ?_) mx
    obtain ⟨C2', S2, s2', q2⟩ := ok2.cool
    obtain ⟨d1, t1, h3⟩ := vwK_run S2 (q1.same (s2.trans s2')) h2
    obtain ⟨d2, t2, h4⟩ := vwK_run S2 q2 h3
    obtain ⟨B1, S3, back, fr⟩ := S2.lift
    exact o.run B1 C2' H2 σ ρ2 _ _ _ _ _ _ S3 t1 t2 h4 fun C' G a ds S' s' f z => k _ _ _ (.new ds) _ _ ⟨a, rfl, fr S' f⟩ ((s1.trans s1').trans ((s2.trans s2').trans s')) z) mx
/-! tests -/
def blK (r : Ro) (k : Bool → Prop) : Prop := match r with
  | .dat (.bl b) => k b
  | _ => False
def wTest3 (w : WE3) : WT3 := fun ρ μ Ψ Ξ => w ρ μ (fun r ρ1 μ1 => blK r fun b => Ψ b ρ1 μ1) Ξ
theorem test3_run {B : Bs} {C H : Hp} {σ : L2.St} {ρ : List Sl} {μ : My} {v : V} {r : Ro} {k : Bool → Prop} (ok : Ok3 K B C H σ ρ μ v r) (h : blK r k) : ∃ b, v = .bl b ∧ Sep3 K B C H σ ρ μ ∧ k b := by
  cases r with
  | new ds => exact False.elim h
  | dat d =>
    cases d <;> try exact False.elim h
    obtain ⟨S, r⟩ := ok
    cases r
    exact ⟨_, rfl, S, h⟩
instance (priority := 40) c3_b {W : WX} {t : TE} {w : WE3} [a : E3 K W t w] : C3 K W (tB t) (wTest3 w) where
  run B C H σ ρ μ Q Ψ Ξ S h k mx := a.run B C H σ ρ μ _ _ _ S h (fun C1 H1 v r ρ1 μ1 ok s1 z => by
    obtain ⟨b, rfl, S1, z⟩ := test3_run ok z
    exact ⟨b, rfl, k _ _ _ _ _ S1 s1 z⟩) mx
instance (priority := 40) c3_test {W : WX} {t : TE} {w : WE3} [a : E3 K W t w] : C3 K W (tTest t) (wTest3 w) where
  run B C H σ ρ μ Q Ψ Ξ S h k mx := a.run B C H σ ρ μ _ _ _ S h (fun C1 H1 v r ρ1 μ1 ok s1 z => by
    obtain ⟨b, rfl, S1, z⟩ := test3_run ok z
    exact ⟨b, rfl, k _ _ _ _ _ S1 s1 z⟩) mx
def wNot3 (wa : WT3) : WT3 := fun ρ μ Ψ Ξ => wa ρ μ (fun b ρ1 μ1 => Ψ (!b) ρ1 μ1) Ξ
instance (priority := 40) c3_not {W : WX} {ta : TT} {wa : WT3} [a : C3 K W ta wa] : C3 K W (tNot ta) (wNot3 wa) where
  run B C H σ ρ μ Q Ψ Ξ S h k mx := a.run B C H σ ρ μ _ _ _ S h (fun C1 H1 c ρ1 μ1 S1 s1 z => k _ _ _ _ _ S1 s1 z) mx
def wAndV3 (wa : WT3) (wb : WE3) : WE3 := fun ρ μ Ψ Ξ => wa ρ μ (fun b ρ1 μ1 => if b = true then wb ρ1 μ1 Ψ Ξ else Ψ (.dat (.bl false)) ρ1 μ1) Ξ
instance (priority := 40) e3_and {W : WX} {ta tb : TE} {wa wb : WE3} [a : E3 K W ta wa] [b : E3 K W tb wb] : E3 K W (tAndV ta tb) (wAndV3 (wTest3 wa) wb) where
  run B C H σ ρ μ Q Ψ Ξ S h k mx := a.run B C H σ ρ μ _ _ _ S h (fun C1 H1 v r ρ1 μ1 ok s1 z => by
    obtain ⟨c, rfl, S1, z⟩ := test3_run ok z
    refine ⟨c, rfl, ?_⟩
    cases c with
    | true => exact b.run B C1 H1 σ ρ1 μ1 _ _ _ S1 z (fun C2 H2 v r ρ2 μ2 ok s2 z => k _ _ _ r _ _ ok (s1.trans s2) z) mx
    | false => exact k _ _ _ (.dat (.bl false)) _ _ ⟨S1, .bl _⟩ s1 z) mx
def wIfE3 (wc : WT3) (wa wb : WE3) : WE3 := fun ρ μ Ψ Ξ => wc ρ μ (fun b ρ1 μ1 => if b = true then wa ρ1 μ1 Ψ Ξ else wb ρ1 μ1 Ψ Ξ) Ξ
instance (priority := 40) e3_if {W : WX} {tc : TT} {ta tb : TE} {wc : WT3} {wa wb : WE3} [c : C3 K W tc wc] [a : E3 K W ta wa] [b : E3 K W tb wb] : E3 K W (tIf tc ta tb) (wIfE3 wc wa wb) where
  run B C H σ ρ μ Q Ψ Ξ S h k mx := c.run B C H σ ρ μ _ _ _ S h (fun C1 H1 e ρ1 μ1 S1 s1 z => by
    cases e with
    | true => exact a.run B C1 H1 σ ρ1 μ1 _ _ _ S1 z (fun C2 H2 v r ρ2 μ2 ok s2 z => k _ _ _ r _ _ ok (s1.trans s2) z) mx
    | false => exact b.run B C1 H1 σ ρ1 μ1 _ _ _ S1 z (fun C2 H2 v r ρ2 μ2 ok s2 z => k _ _ _ r _ _ ok (s1.trans s2) z) mx) mx
/-! displays -/
def wTup3 (wa : WA3) : WE3 := fun ρ μ Ψ Ξ => wa ρ μ (fun as ρ1 μ1 => match dats as with
  | some ds => ds.length ≤ sizeLine ∧ Ψ (.dat (.tup ds)) ρ1 μ1
  | none => False) Ξ
instance (priority := 40) e3_tup {W : WX} {ta : TA} {wa : WA3} [a : A3 K W ta wa] : E3 K W (tTup ta) (wTup3 wa) where
  run B C H σ ρ μ Q Ψ Ξ S h k mx := a.run B C H σ ρ μ _ _ _ S h (fun C1 H1 vs as ρ1 μ1 S1 s1 ok z => by
    cases q : dats as with
    | none => simp only [q] at z
    | some ds =>
      simp only [q] at z
      have r := ok.dats q
      refine ⟨by rw [r.len]; exact z.1, fun p hp => ?_⟩
      obtain ⟨S2, s2⟩ := S1.alloc (o := .tup vs) hp
      exact k _ _ _ (.dat (.tup ds)) _ _ ⟨S2, .tup (SqT.of upd_same) (r.same s2)⟩ (s1.trans s2) z.2) mx
def wLst3 (wa : WA3) : WE3 := fun ρ μ Ψ Ξ => wa ρ μ (fun as ρ1 μ1 => match dats as with
  | some ds => ds.length ≤ sizeLine ∧ Ψ (.new ds) ρ1 μ1
  | none => False) Ξ
instance (priority := 40) e3_lst {W : WX} {ta : TA} {wa : WA3} [a : A3 K W ta wa] : E3 K W (tLst ta) (wLst3 wa) where
  run B C H σ ρ μ Q Ψ Ξ S h k mx := a.run B C H σ ρ μ _ _ _ S h (fun C1 H1 vs as ρ1 μ1 S1 s1 ok z => by
    cases q : dats as with
    | none => simp only [q] at z
    | some ds =>
      simp only [q] at z
      have r := ok.dats q
      exact ⟨by rw [r.len]; exact z.1, fun p hp => k _ _ _ (.new ds) _ _ ⟨p, rfl, S1.new hp r⟩ s1 z.2⟩) mx
/-! a new list that is hung -/
def tNew3 (t : TE) : TE := t
theorem peNew3 {X : Cx} {e : Expr} {t : TE} (h : PE X e t) : PE X e (tNew3 t) := h
def wNew3 (w : WE3) : WE3 := fun ρ μ Ψ Ξ => w ρ μ (fun r ρ1 μ1 => match r with
  | .new ds => ∀ a, Ψ (.dat (.adr a)) ρ1 ((a, .fl (.lst ds)) :: μ1)
  | _ => False) Ξ
instance (priority := 70) e3_new {W : WX} {t : TE} {w : WE3} [a : E3 K W t w] : E3 K W (tNew3 t) (wNew3 w) where
  run B C H σ ρ μ Q Ψ Ξ S h k mx := a.run B C H σ ρ μ _ _ _ S h (fun C1 H1 v r ρ1 μ1 ok s1 z => by
    cases r with
    | dat d => exact False.elim z
    | new ds =>
      obtain ⟨x, rfl, S1⟩ := ok
      exact k _ _ _ (.dat (.adr x)) _ _ ⟨S1, .adr x⟩ s1 (z x)) mx
/-! builtins -/
def wCB13 (f : Dt → (Dt → Prop) → Prop) (wa : WE3) : WE3 := fun ρ μ Ψ Ξ => wa ρ μ (fun r ρ1 μ1 => vwK μ1 r.val fun d => f d fun e => Ψ (.dat e) ρ1 μ1) Ξ
instance (priority := 45) e3_cb1 {W : WX} {r : List V → Hp → VK → Prop} {f : Dt → (Dt → Prop) → Prop} {ta : TE} {wa : WE3} [b : Sb1 K r f] [a : E3 K W ta wa] : E3 K W (tCB r (tCons ta tNil)) (wCB13 f wa) where
  run B C H σ ρ μ Q Ψ Ξ S h k mx := a.run B C H σ ρ μ _ _ _ S h (fun C1 H1 v1 r1 ρ1 μ1 ok1 s1 h1 => by
    obtain ⟨C2, S2, s2, q⟩ := ok1.cool
    obtain ⟨e, t, h2⟩ := vwK_run S2 q h1
    obtain ⟨B1, S3, back, _⟩ := S2.lift
    exact b.run B1 C2 H1 σ ρ1 _ _ _ _ S3 t h2 fun C' G v d S' s' r' z => k _ _ _ (.dat d) _ _ ⟨(back S').1, r'⟩ ((s1.trans s2).trans s') z) mx
def wCB1n3 (f : Dt → (List Dt → Prop) → Prop) (wa : WE3) : WE3 := fun ρ μ Ψ Ξ => wa ρ μ (fun r ρ1 μ1 => vwK μ1 r.val fun d => f d fun e => Ψ (.new e) ρ1 μ1) Ξ
instance (priority := 46) e3_cb1n {W : WX} {r : List V → Hp → VK → Prop} {f : Dt → (List Dt → Prop) → Prop} {ta : TE} {wa : WE3} [b : Sb1n K r f] [a : E3 K W ta wa] : E3 K W (tCB r (tCons ta tNil)) (wCB1n3 f wa) where
  run B C H σ ρ μ Q Ψ Ξ S h k mx := a.run B C H σ ρ μ _ _ _ S h (fun C1 H1 v1 r1 ρ1 μ1 ok1 s1 h1 => by
    obtain ⟨C2, S2, s2, q⟩ := ok1.cool
    obtain ⟨e, t, h2⟩ := vwK_run S2 q h1
    obtain ⟨B1, S3, back, fr⟩ := S2.lift
    exact b.run B1 C2 H1 σ ρ1 _ _ _ _ S3 t h2 fun C' G x ds S' s' f z => k _ _ _ (.new ds) _ _ ⟨x, rfl, fr S' f⟩ ((s1.trans s2).trans s') z) mx

end
section
variable {P : Program} {w : World} {K : PySem.W.Frag} {mg : Str → Option Value} {base : Heap}
local macro_rules | `(tactic| get_elem_tactic_trivial) => `(tactic| (repeat first | exact Wk.nil | exact Wk'.nil | refine Wk.same ?_ | refine Wk'.same ?_ | refine Wk.un (fun _ z => nomatch z) ?_ | refine Wk'.un ?_))
/-! level 3: fields -/
theorem zip_rp {C : Hp} {f : Str} : ∀ {ns : List Str} {vs : List V} {ds : List Dt} {d : Dt}, RpL K C vs ds → (ns.zip ds).lookup f = some d → ∃ v, (ns.zip vs).lookup f = some v ∧ Rp K C v d ∧ f ∈ ns
  | [], _, _, _, _, h => by simp at h
  | n :: ns, _, _, _, .nil, h => by simp at h
  | n :: ns, v :: vs, d :: ds, e, .cons r t, h => by
    rw [List.zip_cons_cons, List.lookup_cons] at h
    by_cases q : (f == n) = true
    · rw [q] at h
      cases h
      exact ⟨v, by rw [List.zip_cons_cons, List.lookup_cons, q], r, by rw [beq_iff_eq.mp q]; exact List.mem_cons_self ..⟩
    · rw [Bool.not_eq_true] at q
      rw [q] at h
      obtain ⟨u, e, r', m⟩ := zip_rp t h
      exact ⟨u, by rw [List.zip_cons_cons, List.lookup_cons, q]; exact e, r', List.mem_cons_of_mem _ m⟩
def wFld3 (K : PySem.W.Frag) (w : WE3) (f : Str) : WE3 := fun ρ μ Ψ Ξ => w ρ μ (fun r ρ1 μ1 => match r with
  | .dat (.adr a) => ∃ (i : Nat) (c : Str) (ns : List Str) (ds : List Dt), μ1[i]? = some (a, Ob.fl (.ins c ns ds)) ∧ ∃ d, (ns.zip ds).lookup f = some d ∧ Ψ (.dat d) ρ1 μ1
  | .dat (.obj c ns ds) => FldOk K c f ∧ ∃ d, (ns.zip ds).lookup f = some d ∧ Ψ (.dat d) ρ1 μ1
  | _ => False) Ξ
def tFld3 (K : PySem.W.Frag) (ta : TE) (f : Str) : TE := tFld K ta f
instance (priority := 40) e3_fld {W : WX} {ta : TE} {f : Str} {wa : WE3} [a : E3 K W ta wa] : E3 K W (tFld3 K ta f) (wFld3 K wa f) where
  run B C H σ ρ μ Q Ψ Ξ S h k mx := a.run B C H σ ρ μ _ _ _ S h (fun C1 H1 v1 r1 ρ1 μ1 ok1 s1 h1 => by
    cases r1 with
    | new ds => exact False.elim h1
    | dat x =>
      obtain ⟨S1, rp⟩ := ok1
      cases x <;> try exact False.elim h1
      · rename_i c ns ds
        obtain ⟨fo, d, hl, h1⟩ := h1
        cases rp with
        | @obj _ x dx _ vs _ hx hdx hn rl =>
          obtain ⟨v, hv, rv, _⟩ := zip_rp rl hl
          exact ⟨x, _, dx, _, v, rfl, S1.sep.cold _ _ hx, fo.cls, fo.no, hv, k _ _ _ (.dat d) _ _ ⟨S1, rv⟩ s1 h1⟩
      · rename_i x
        cases rp
        obtain ⟨i, c, ns, ds, hi, d, hl, h1⟩ := h1
        obtain ⟨dx, vs, hx, hdx, hn, rl, ff⟩ := S1.has hi
        obtain ⟨v, hv, rv, m⟩ := zip_rp rl hl
        exact ⟨x, _, dx, _, v, rfl, hx, (ff f m).cls, (ff f m).no, hv, k _ _ _ (.dat d) _ _ ⟨S1, rv⟩ s1 h1⟩) mx
/-- a field is put -/
def putN (f : Str) (d : Dt) : List Str → List Dt → List Str × List Dt
  | n :: ns, x :: ds => if n = f then (n :: ns, d :: ds) else (n :: (putN f d ns ds).1, x :: (putN f d ns ds).2)
  | _, _ => ([f], [d])
theorem putN_ok {C : Hp} {f : Str} {v : V} {d : Dt} (r : Rp K C v d) : ∀ {ns : List Str} {vs : List V} {ds : List Dt}, RpL K C vs ds → ns.length = vs.length → ∃ vs', putF f v (ns.zip vs) = (putN f d ns ds).1.zip vs' ∧ (putN f d ns ds).1.length = vs'.length ∧ RpL K C vs' (putN f d ns ds).2 ∧ ∀ g, g ∈ (putN f d ns ds).1 → g ∈ ns ∨ g = f
  | [], _, _, .nil, _ => ⟨[v], rfl, rfl, .cons r .nil, fun g h => .inr (List.mem_singleton.mp h)⟩
  | [], _, _, .cons _ _, h => by simp at h
  | n :: ns, _, _, .nil, h => by simp at h
  | n :: ns, u :: vs, e :: ds, .cons a t, h => by
    by_cases q : n = f
    · refine ⟨v :: vs, ?_, ?_, ?_, ?_⟩
      · unfold putN putF
        rw [List.zip_cons_cons]
        simp only [if_pos q]
        rfl
      · unfold putN
        rw [if_pos q]
        exact h
      · unfold putN
        rw [if_pos q]
        exact .cons r t
      · unfold putN
        rw [if_pos q]
        exact fun g m => .inl m
    · obtain ⟨vs', e1, e2, e3, e4⟩ := putN_ok r (f := f) t (ns := ns) (by simpa using h)
      refine ⟨u :: vs', ?_, ?_, ?_, ?_⟩
      · unfold putN
        rw [if_neg q, List.zip_cons_cons, List.zip_cons_cons]
        show (if n = f then _ else (n, u) :: putF f v (ns.zip vs)) = _
        rw [if_neg q, e1]
      · unfold putN
        rw [if_neg q]
        exact congrArg Nat.succ e2
      · unfold putN
        rw [if_neg q]
        exact .cons a e3
      · unfold putN
        rw [if_neg q]
        exact fun g m => (List.mem_cons.mp m).elim (fun z => .inl (z ▸ List.mem_cons_self ..)) fun z => (e4 g z).imp (List.mem_cons_of_mem _) id
def wSetFld (K : PySem.W.Frag) (f : Str) (wv wo : WE3) : WS3 := fun ρ μ Φ Ξ => wv ρ μ (fun rv ρ1 μ1 => wo ρ1 μ1 (fun ro ρ2 μ2 => match ro with
  | .dat (.adr a) => ∃ (i : Nat) (c : Str) (ns : List Str) (ds : List Dt), μ2[i]? = some (a, Ob.fl (.ins c ns ds)) ∧ ((ns.contains f = true ∨ FldOk K c f) ∧ ns.length < 1000) ∧ ∃ ns' ds', putN f rv.val ns ds = (ns', ds') ∧ Φ.nx ρ2 (μ2.set i (a, Ob.fl (.ins c ns' ds')))
  | _ => False) Ξ) Ξ
theorem Sep3.setFld {B : Bs} {C H : Hp} {σ : L2.St} {ρ : List Sl} {μ : My} {a : Addr} {i : Nat} {c f : Str} {ns ns' : List Str} {ds ds' : List Dt} {v : V} {d : Dt} {dx : Addr} {vs : List V} (S : Sep3 K B C H σ ρ μ) (hi : μ[i]? = some (a, Ob.fl (.ins c ns ds))) (r : Rp K C v d) (hx : H a = some (.ins (He.ga K c) dx (ns.zip vs))) (hl : ns.length = vs.length) (rl : RpL K C vs ds) (hf : ∀ g, g ∈ ns ∨ g = f → FldOk K c g) (e : putN f d ns ds = (ns', ds')) : Sep3 K B C (upd H a (.ins (He.ga K c) dx (putF f v (ns.zip vs)))) σ ρ (μ.set i (a, Ob.fl (.ins c ns' ds'))) := by
  obtain ⟨vs', e1, e2, e3, e4⟩ := putN_ok (f := f) r rl hl
  rw [e] at e1 e2 e3 e4
  rw [e1]
  refine S.set hi fun U1 ok sub => ?_
  obtain ⟨dx', vs1, h1, h2, _, _, _⟩ := ok
  have h3 := sub _ _ h1
  rw [hx] at h3
  have h4 := Option.some.inj h3
  injection h4 with _ h5 _
  subst h5
  have nd : dx ≠ a := fun z => by
    rw [z, h1] at h2
    exact nomatch h2
  exact ⟨dx, vs', upd_same, by rw [upd_ne nd]; exact h2, e2, e3, fun g m => hf g (e4 g m)⟩
instance (priority := 40) s3_fld {W : WX} {ta tv : TE} {f : Str} {wa wv : WE3} [v : E3 K W tv wv] [a : E3 K W ta wa] : S3 K W (sFld K ta tv f) (wSetFld K f wv wa) where
  run B C H σ ρ μ D Φ Ξ S h m mx := v.run B C H σ ρ μ _ _ _ S h (fun C1 H1 v1 r1 ρ1 μ1 ok1 s1 h1 => by
    obtain ⟨C1', S1, s1', q1⟩ := ok1.cool
    refine a.run B C1' H1 σ ρ1 μ1 _ _ _ S1 h1 (fun C2 H2 v2 r2 ρ2 μ2 ok2 s2 h2 => ?_) mx
    cases r2 with
    | new ds => exact False.elim h2
    | dat x =>
      obtain ⟨S2, rp⟩ := ok2
      cases x <;> try exact False.elim h2
      rename_i x
      cases rp
      obtain ⟨i, c, ns, ds, hi, ⟨ff, lt⟩, ns', ds', e, z⟩ := h2
      obtain ⟨dx, vs, hx, hdx, hn, rl, fo⟩ := S2.has hi
      have all : ∀ g, g ∈ ns ∨ g = f → FldOk K c g := fun g hg => by
        rcases hg with hg | rfl
        · exact fo g hg
        · exact ff.elim (fun z => fo g (List.contains_iff_mem.mp z)) id
      refine ⟨x, _, dx, _, rfl, hx, (all f (.inr rfl)).cls, (all f (.inr rfl)).no, ?_, m.nx _ _ _ _ _ (S2.setFld hi (q1.same s2) hx hn rl all e) z⟩
      rw [List.length_zip]
      omega) mx
/-- o.f += e, of numbers -/
def wFldAug (K : PySem.W.Frag) (f : Str) (op : Dt → Dt → (Dt → Prop) → Prop) (wo wv : WE3) : WS3 := fun ρ μ Φ Ξ => wo ρ μ (fun ro ρ1 μ1 => match ro with
  | .dat (.adr a) => (∃ (i : Nat) (c : Str) (ns : List Str) (ds : List Dt), μ1[i]? = some (a, Ob.fl (.ins c ns ds)) ∧ ∃ d, (ns.zip ds).lookup f = some d ∧ wv ρ1 μ1 (fun rv ρ2 μ2 => op d rv.val fun e => ∃ (j : Nat) (ns2 : List Str) (ds2 : List Dt), μ2[j]? = some (a, Ob.fl (.ins c ns2 ds2)) ∧ (ns2.contains f = true ∧ ns2.length < 1000) ∧ ∃ ns' ds', putN f e ns2 ds2 = (ns', ds') ∧ Φ.nx ρ2 (μ2.set j (a, Ob.fl (.ins c ns' ds')))) Ξ)
  | _ => False) Ξ
instance (priority := 40) s3_fldAug {W : WX} {ta tv : TE} {f : Str} {rd : R2} {op : Dt → Dt → (Dt → Prop) → Prop} {wa wv : WE3} [o : So K rd op] [a : E3 K W ta wa] [v : E3 K W tv wv] : S3 K W (sFldAug K ta tv rd f) (wFldAug K f op wa wv) where
  run B C H σ ρ μ D Φ Ξ S h m mx := a.run B C H σ ρ μ _ _ _ S h (fun C1 H1 v1 r1 ρ1 μ1 ok1 s1 h1 => by
    cases r1 with
    | new ds => exact False.elim h1
    | dat x =>
      obtain ⟨S1, rp⟩ := ok1
      cases x <;> try exact False.elim h1
      rename_i x
      cases rp
      obtain ⟨i, c, ns, ds, hi, d, hl, h1⟩ := h1
      obtain ⟨dx, vs, hx, hdx, hn, rl, fo⟩ := S1.has hi
      obtain ⟨v0, hv, rv, mf⟩ := zip_rp rl hl
      refine ⟨x, _, dx, _, v0, rfl, hx, (fo f mf).cls, (fo f mf).no, hv, ?_⟩
      refine v.run B C1 H1 σ ρ1 μ1 _ _ _ S1 h1 (fun C2 H2 v2 r2 ρ2 μ2 ok2 s2 h2 => ?_) mx
      obtain ⟨C2', S2, s2', q2⟩ := ok2.cool
      obtain ⟨B1, S3, back, _⟩ := S2.lift
      refine o.run B1 C2' H2 σ ρ2 _ _ _ _ _ _ S3 (.inl (rv.same (s2.trans s2'))) (.inl q2) h2 fun C3 H3 z e S4 s3 rz h3 => ?_
      obtain ⟨j, ns2, ds2, hj, ⟨ct, lt⟩, ns', ds', e', z⟩ := h3
      have S5 := (back S4).1
      obtain ⟨dx2, vs2, hx2, _, hn2, rl2, fo2⟩ := S5.has hj
      have all : ∀ g, g ∈ ns2 ∨ g = f → FldOk K c g := fun g hg => by
        rcases hg with hg | rfl
        · exact fo2 g hg
        · exact fo2 g (List.contains_iff_mem.mp ct)
      refine ⟨dx2, _, hx2, ?_, m.nx _ _ _ _ _ (S5.setFld hj rz hx2 hn2 rl2 all e') z⟩
      rw [List.length_zip]
      omega) mx
/-! targets -/
abbrev WG3 := Dt → List Sl → My → (List Sl → My → Prop) → XE3 → Prop
class G3 (K : PySem.W.Frag) (W : WX) (g : TG) (w : outParam WG3) : Prop where
  run : ∀ (B : Bs) (C H : Hp) (σ : L2.St) (ρ : List Sl) (μ : My) (v : V) (d : Dt) (Q : L2.St → Hp → Prop) (Ψ : List Sl → My → Prop) (Ξ : XE3), Sep3 K B C H σ ρ μ → Rp K C v d → w d ρ μ Ψ Ξ → (∀ C' G σ' ρ' μ', Sep3 K B C' G σ' ρ' μ' → Same C C' → Ψ ρ' μ' → Q σ' G) → MeetsX3 K B Ξ W → g v σ H Q
def wSubL (wo wi : WE3) : WG3 := fun d ρ μ Ψ Ξ => wo ρ μ (fun r1 ρ1 μ1 => wi ρ1 μ1 (fun r2 ρ2 μ2 => match r1, r2 with
  | .dat (.adr a), .dat (.int k) => ∃ (i : Nat) (ds : List Dt) (j : Nat), μ2[i]? = some (a, Ob.fl (.lst ds)) ∧ ixN ds.length k = some j ∧ Ψ ρ2 (μ2.set i (a, Ob.fl (.lst (ds.set j d))))
  | _, _ => False) Ξ) Ξ
theorem Sep3.setL {B : Bs} {C H : Hp} {σ : L2.St} {ρ : List Sl} {μ : My} {a : Addr} {i : Nat} {ds es : List Dt} {ws : List V} (S : Sep3 K B C H σ ρ μ) (hi : μ[i]? = some (a, Ob.fl (.lst ds))) (r : RpL K C ws es) : Sep3 K B C (upd H a (.lst ws)) σ ρ (μ.set i (a, Ob.fl (.lst es))) := S.set hi fun U1 _ _ => ⟨ws, upd_same, r⟩
instance (priority := 40) g3_subL {W : WX} {to ti : TE} {wo wi : WE3} [a : E3 K W to wo] [b : E3 K W ti wi] : G3 K W (gSub to ti rSetL) (wSubL wo wi) where
  run B C H σ ρ μ v d Q Ψ Ξ S r h k mx := a.run B C H σ ρ μ _ _ _ S h (fun C1 H1 v1 r1 ρ1 μ1 ok1 s1 h1 => by
    obtain ⟨C1', S1, s1', q1⟩ := ok1.cool
    refine b.run B C1' H1 σ ρ1 μ1 _ _ _ S1 h1 (fun C2 H2 v2 r2 ρ2 μ2 ok2 s2 h2 => ?_) mx
    cases r1 with
    | new ds => exact False.elim h2
    | dat x =>
      cases x <;> try exact False.elim h2
      rename_i x
      cases r2 with
      | new ds => exact False.elim h2
      | dat y =>
        cases y <;> try exact False.elim h2
        rename_i kk
        obtain ⟨S2, rp⟩ := ok2
        cases rp
        cases q1
        obtain ⟨i, ds, j, hi, hj, z⟩ := h2
        obtain ⟨vs, hx, rx⟩ := S2.has hi
        exact ⟨x, vs, kk, j, rfl, rfl, hx, by rw [rx.len]; exact hj, k _ _ _ _ _ (S2.setL hi (rx.set (r.same (s1.trans (s1'.trans s2))) j)) (s1.trans (s1'.trans s2)) z⟩) mx
def wAsgT3 (w : WE3) (wg : WG3) : WS3 := fun ρ μ Φ Ξ => w ρ μ (fun r ρ1 μ1 => wg r.val ρ1 μ1 (fun ρ2 μ2 => Φ.nx ρ2 μ2) Ξ) Ξ
instance (priority := 20) s3_asgT {W : WX} {te : TE} {g : TG} {w : WE3} {wg : WG3} [a : E3 K W te w] [b : G3 K W g wg] : S3 K W (tAsg te g) (wAsgT3 w wg) where
  run B C H σ ρ μ D Φ Ξ S h m mx := a.run B C H σ ρ μ _ _ _ S h (fun C1 H1 v r ρ1 μ1 ok s1 z => by
    obtain ⟨C2, S2, s2, r2⟩ := ok.cool
    exact b.run B C2 H1 σ ρ1 μ1 v _ _ _ _ S2 r2 z (fun C3 H3 σ3 ρ3 μ3 S3 _ z => m.nx _ _ _ _ _ S3 z) mx) mx
/-! lists that are hung, changed -/
def wApp3 (wo we : WE3) : WE3 := fun ρ μ Ψ Ξ => wo ρ μ (fun r ρ1 μ1 => match r with
  | .dat (.adr a) => (∃ (i : Nat) (ds : List Dt), μ1[i]? = some (a, Ob.fl (.lst ds))) ∧ we ρ1 μ1 (fun e ρ2 μ2 => ∃ (i : Nat) (ds : List Dt), μ2[i]? = some (a, Ob.fl (.lst ds)) ∧ ds.length < sizeLine ∧ Ψ (.dat .non) ρ2 (μ2.set i (a, Ob.fl (.lst (ds ++ [e.val]))))) Ξ
  | _ => False) Ξ
instance (priority := 45) e3_app {W : WX} {to te : TE} {wo we : WE3} [a : E3 K W to wo] [b : E3 K W te we] : E3 K W (tBM K "list" rAppend to (tCons te tNil)) (wApp3 wo we) where
  run B C H σ ρ μ Q Ψ Ξ S h k mx := a.run B C H σ ρ μ _ _ _ S h (fun C1 H1 v r ρ1 μ1 ok s1 z => by
    cases r with
    | new ds => exact False.elim z
    | dat x =>
      cases x <;> try exact False.elim z
      rename_i x
      obtain ⟨S1, rp⟩ := ok
      cases rp
      obtain ⟨⟨i0, ds0, hi0⟩, z⟩ := z
      obtain ⟨vs0, hx0, rx0⟩ := S1.has hi0
      refine ⟨Or.inl ⟨rfl, _, SqL.of hx0⟩, ?_⟩
      refine b.run B C1 H1 σ ρ1 μ1 _ _ _ S1 z (fun C2 H2 v2 r2 ρ2 μ2 ok2 s2 h2 => ?_) mx
      obtain ⟨C3, S3, s3, r3⟩ := ok2.cool
      obtain ⟨i, ds, hi, lt, h2⟩ := h2
      obtain ⟨vs, hx, rx⟩ := S3.has hi
      exact ⟨x, vs, _, rfl, rfl, hx, by rw [rx.len]; exact lt, k _ _ _ (.dat .non) _ _ ⟨S3.setL hi (rx.append (.cons r3 .nil)), .non⟩ (s1.trans (s2.trans s3)) h2⟩) mx
/-! read at level 3 -/

end
section
variable {P : Program} {w : World} {K : PySem.W.Frag} {mg : Str → Option Value} {base : Heap}
local macro_rules | `(tactic| get_elem_tactic_trivial) => `(tactic| (repeat first | exact Wk.nil | exact Wk'.nil | refine Wk.same ?_ | refine Wk'.same ?_ | refine Wk.un (fun _ z => nomatch z) ?_ | refine Wk'.un ?_))
/-! level 3: a thing held aside -/
theorem Sep3.hold {B : Bs} {C H : Hp} {σ : L2.St} {ρ : List Sl} {μ : My} {a : Addr} {f : Fl} (S : Sep3 K B C H σ ρ ((a, .fl f) :: μ)) (hf : ∀ c ns ds, f ≠ .ins c ns ds) : ∃ o, H a = some o ∧ FlOk K C (oneU a o) a f ∧ Sep3 K (B.hold a o) C H σ ρ μ ∧ B.H0 a = none ∧ B.C0 a = none ∧ ∀ i, B.bx ≠ some (i, a) := by
  obtain ⟨m, ⟨x, y, rfl, e1, e2⟩, SF⟩ := S
  cases e1
  obtain ⟨U1, U2, M1, M2, S2, hh⟩ := SepF.split (m1 := [(a, f)]) SF
  have ok := M1.at_ a f (List.mem_cons_self ..)
  obtain ⟨o, ho, _⟩ := ok.root
  obtain ⟨ha, u2, ns⟩ := hh a o ho
  obtain ⟨ca, b0, bx⟩ := M1.fr a o ho
  have ok1 : FlOk K C (oneU a o) a f := by
    cases f with
    | ins c ns ds => exact absurd rfl (hf c ns ds)
    | lst ds =>
      obtain ⟨vs, e, r⟩ := ok
      rw [ho] at e
      cases e
      exact ⟨vs, oneU_at, r⟩
    | dic ks ds =>
      obtain ⟨vs, e, r⟩ := ok
      rw [ho] at e
      cases e
      exact ⟨vs, oneU_at, r⟩
    | lck ks ds =>
      obtain ⟨q, vs, e, r⟩ := ok
      rw [ho] at e
      cases e
      exact ⟨q, vs, oneU_at, r⟩
  have eB : (B.hang U2).hold a o = (B.hold a o).hang U2 := by
    unfold Bs.hold Bs.hang
    congr 1
    funext b
    by_cases z : b = a
    · rw [z, upd_same, u2]
      exact upd_same.symm
    · rw [upd_ne z]
      show _ = (match U2 b with | some o => some o | none => upd B.H0 a o b)
      rw [upd_ne z]
      all_goals rfl
  have Sh := S2.hold ha ca ns
  rw [eB] at Sh
  refine ⟨o, ha, ok1, ⟨y, e2, U2, ⟨M2.nd, M2.at_, M2.all, fun b u h => ?_⟩, Sh⟩, b0, S2.grow.free ca, bx⟩
  obtain ⟨h1, h2, h3⟩ := M2.fr b u h
  have z : b ≠ a := fun z => by rw [z, u2] at h; cases h
  exact ⟨h1, by show upd B.H0 a o b = none; rw [upd_ne z]; exact h2, h3⟩
theorem Sep3.unhold {B : Bs} {C H : Hp} {σ : L2.St} {ρ : List Sl} {μ : My} {a : Addr} {f : Fl} {o : HO} (S : Sep3 K (B.hold a o) C H σ ρ μ) (h0 : B.H0 a = none) (c0 : B.C0 a = none) (bx : ∀ i, B.bx ≠ some (i, a)) (ok : FlOk K C (oneU a o) a f) : Sep3 K B C H σ ρ ((a, .fl f) :: μ) ∧ H a = some o := by
  obtain ⟨m, e, U, M, S⟩ := S
  have ua : U a = none := by
    cases q : U a with
    | none => rfl
    | some u =>
      have h : upd B.H0 a o a = none := (M.fr a u q).2.1
      rw [upd_same] at h
      cases h
  have eB : (B.hang U).hold a o = (B.hold a o).hang U := by
    unfold Bs.hold Bs.hang
    congr 1
    funext b
    by_cases z : b = a
    · rw [z, upd_same, ua]
      exact upd_same.symm
    · rw [upd_ne z]
      show _ = (match U b with | some o => some o | none => upd B.H0 a o b)
      rw [upd_ne z]
      all_goals rfl
  rw [← eB] at S
  obtain ⟨S1, ha, ca, ns⟩ := S.unhold (by rw [hang_off ua]; exact h0) c0 bx
  refine ⟨⟨_, ⟨[(a, f)], m, rfl, rfl, e⟩, SepF.push S1 ⟨M.nd, M.at_, M.all, fun b u h => ?_⟩ ha ca (by rw [hang_off ua]; exact h0) ns ok⟩, ha⟩
  obtain ⟨h1, h2, h3⟩ := M.fr b u h
  have z : b ≠ a := fun z => by rw [z, ua] at h; cases h
  have h2 : upd B.H0 a o b = none := h2
  rw [upd_ne z] at h2
  exact ⟨h1, h2, h3⟩
/-! what a for walks -/
abbrev WI3 := List Sl → My → (List Dt → List Sl → My → Prop) → XE3 → Prop
class I3 (K : PySem.W.Frag) (W : WX) (t : TI) (w : outParam WI3) : Prop where
  run : ∀ (B : Bs) (C H : Hp) (σ : L2.St) (ρ : List Sl) (μ : My) (R : It → Hp → Prop) (Ψ : List Dt → List Sl → My → Prop) (Ξ : XE3), Sep3 K B C H σ ρ μ → w ρ μ Ψ Ξ → (∀ C' G J items ρ' μ', Sep3 K B C' G σ ρ' μ' → Same C C' → ItD K J C' items → Ψ items ρ' μ' → R J G) → MeetsX3 K B Ξ W → t σ H R
def li3 (w : WI) : WI3 := fun ρ μ Ψ _ => w ρ fun items ρ1 => Ψ items ρ1 μ
instance (priority := 50) i3_lf {W : WX} {t : TI} {w : WI} [a : Si K t w] : I3 K W t (li3 w) where
  run B C H σ ρ μ R Ψ Ξ S h k mx := by
    obtain ⟨B1, S1, back, _⟩ := S.lift
    exact a.run B1 C H σ ρ _ _ S1 h fun C1 G J items ρ1 S2 s2 hJ z => k _ _ _ _ _ _ (back S2).1 (back S2).2 hJ z
def seqK (d : Dt) (k : List Dt → Prop) : Prop := match d with
  | .lst ds => k ds
  | .tup ds => k ds
  | _ => False
def wiAny3 (w : WE3) : WI3 := fun ρ μ Ψ Ξ => w ρ μ (fun r ρ1 μ1 => seqK r.val fun ds => Ψ ds ρ1 μ1) Ξ
instance (priority := 40) i3_any {W : WX} {te : TE} {w : WE3} [a : E3 K W te w] : I3 K W (iAny K te) (wiAny3 w) where
  run B C H σ ρ μ R Ψ Ξ S h k mx := a.run B C H σ ρ μ _ _ _ S h (fun C1 H1 v r ρ1 μ1 ok s1 z => by
    obtain ⟨C2, S2, s2, r2⟩ := ok.cool
    generalize r.val = d at r2 z
    cases d <;> try exact False.elim z
    · cases r2 with
      | @lst x xs _ hs rl => exact ⟨x, rfl, .inl ⟨⟨xs, SqL.of (S2.sep.cold _ _ hs)⟩, k _ _ _ _ _ _ S2 (s1.trans s2) (itd_list hs rl) z⟩⟩
    · cases r2 with
      | @tup x xs _ hs rl => exact ⟨x, rfl, .inr ⟨⟨xs, seqT_same S2.sep.cold hs⟩, k _ _ _ _ _ _ S2 (s1.trans s2) (itd_tup hs rl) z⟩⟩) mx
/-! loops -/
theorem Ok3.keep {B B' : Bs} {C H : Hp} {σ : L2.St} {ρ : List Sl} {μ : My} {v : V} {r : Ro} (h : Ok3 K B' C H σ ρ μ v r) (f : ∀ {μ' : My}, Sep3 K B' C H σ ρ μ' → Sep3 K B C H σ ρ μ') : Ok3 K B C H σ ρ μ v r := by
  cases r with
  | dat d => exact ⟨f h.1, h.2⟩
  | new ds =>
    obtain ⟨a, e, S⟩ := h
    exact ⟨a, e, f S⟩
def wFor3 (wi : WI3) (wg : WG) (wb : WS3) : WS3 := fun ρ μ Φ Ξ => wi ρ μ (fun items ρ1 μ1 => ∃ I : Nat → List Sl → My → Prop, To3 (I 0) ρ1 μ1 ∧
  (∀ k ρ μ d, items[k]? = some d → I k ρ μ → wg d ρ fun ρ2 => wb ρ2 μ { Φ with nx := To3 (I (k + 1)), ct := To3 (I (k + 1)), bk := Φ.nx } Ξ) ∧ ∀ ρ μ, I items.length ρ μ → Φ.nx ρ μ) Ξ
instance (priority := 40) s3_for {W : WX} {ti : TI} {g : TG} {tb : TS} {wi : WI3} {wg : WG} {wb : WS3} [i : I3 K W ti wi] [a : Sg K g wg] [b : S3 K W tb wb] : S3 K W (tFor ti g tb) (wFor3 wi wg wb) where
  run B C H σ ρ μ D Φ Ξ S h m mx := i.run B C H σ ρ μ _ _ _ S h (fun C1 H1 J items ρ1 μ1 S1 s1 hJ h1 => by
    obtain ⟨I, t0, step, fin⟩ := h1
    obtain ⟨ρ0, μ0, S0, i0⟩ := S1.to t0
    refine ⟨fun k n σ2 H2 => n = items.length - k ∧ k ≤ items.length ∧ ∃ C2 ρ2 μ2, Sep3 K B C2 H2 σ2 ρ2 μ2 ∧ Same C1 C2 ∧ I k ρ2 μ2, ⟨_, rfl, Nat.zero_le _, C1, ρ0, μ0, S0, Same.refl _, i0⟩, ?_⟩
    rintro k n σ2 H2 ⟨rfl, hk, C2, ρ2, μ2, S2, s2, hI⟩
    obtain ⟨B1, T2, back, _⟩ := S2.lift
    obtain ⟨go, stop, yld⟩ := hJ B1 C2 H2 σ2 ρ2 T2 s2
    by_cases hlt : k < items.length
    · refine .inr ⟨go k hlt, fun σ3 H3 => ∃ C3 ρ3 μ3, Sep3 K B C3 H3 σ3 ρ3 μ3 ∧ Same C1 C3 ∧ I (k + 1) ρ3 μ3, fun σ3 H3 ⟨C3, ρ3, μ3, S3, s3, h3⟩ => ⟨items.length - (k + 1), by omega, rfl, hlt, C3, ρ3, μ3, S3, s3, h3⟩, fun x H' y => ?_⟩
      obtain ⟨C3, T3, s3, r3⟩ := yld k x H' items[k] (List.getElem?_eq_getElem hlt) y
      obtain ⟨S3, s3'⟩ := back T3
      obtain ⟨S3', keep⟩ := S3.rebase
      obtain ⟨B2, T4, back2, _⟩ := S3'.lift
      refine a.run B2 C3 H' σ2 ρ2 _ _ _ _ T4 r3 (step k ρ2 μ2 _ (List.getElem?_eq_getElem hlt) hI) fun σ4 ρ4 T5 h4 => ?_
      refine b.run ⟨C3, B.H0, B.bx⟩ C3 H' σ4 ρ4 μ2 _ _ _ (back2 T5).1 h4 ⟨fun C5 H5 σ5 ρ5 μ5 z h5 => ?_, fun C5 H5 σ5 ρ5 μ5 v r ok h5 => m.rt _ _ _ _ _ v r (ok.keep fun z => (keep z).1) h5, fun C5 H5 σ5 ρ5 μ5 z h5 => m.nx _ _ _ _ _ (keep z).1 h5, fun C5 H5 σ5 ρ5 μ5 z h5 => ?_⟩ fun C5 H5 σ5 ρ5 μ5 cls dd c d z ex q => mx _ _ _ _ _ _ _ _ _ (keep z).1 ex q
      · obtain ⟨ρ6, μ6, z6, h6⟩ := (keep z).1.to h5
        exact ⟨C5, ρ6, μ6, z6, s2.trans (s3.trans (keep z).2), h6⟩
      · obtain ⟨ρ6, μ6, z6, h6⟩ := (keep z).1.to h5
        exact ⟨C5, ρ6, μ6, z6, s2.trans (s3.trans (keep z).2), h6⟩
    · have e : k = items.length := by omega
      subst e
      exact .inl ⟨stop, m.nx _ _ _ _ _ S2 (fin _ _ hI)⟩) mx
/-! the ways of an if joined -/
/-! raise C(e) -/
def wRaise3 (K : PySem.W.Frag) (C : Addr) (wa : WA3) : WS3 := fun ρ μ Φ Ξ => wa ρ μ (fun as ρ1 μ1 => match as with
  | [.d d] => ∃ c : Str, C = He.ga K c ∧ Ξ c d ρ1 μ1
  | _ => False) Ξ
instance (priority := 40) s3_raise {W : WX} {Cl : Addr} {ta : TA} {wa : WA3} [a : A3 K W ta wa] : S3 K W (tRaiseD Cl ta W) (wRaise3 K Cl wa) where
  run B C H σ ρ μ D Φ Ξ S h m mx := a.run B C H σ ρ μ _ _ _ S h (fun C1 H1 vs as ρ1 μ1 S1 s1 ok1 h1 => by
    cases ok1 with
    | nil => exact False.elim h1
    | @cons v vs x as o1 o2 =>
      cases x with
      | b i => cases as <;> exact False.elim h1
      | d x =>
        cases o2 with
        | cons _ _ => exact False.elim h1
        | nil =>
          obtain ⟨c, rfl, z⟩ := h1
          refine ⟨v, rfl, fun dd hd => ?_⟩
          obtain ⟨S2, s2⟩ := S1.alloc (o := .xd [(("what" : Str), v)]) hd
          exact mx _ _ _ _ _ _ _ _ _ S2 ⟨rfl, dd, v, rfl, upd_same, Rp.same o1 s2⟩ z) mx
/-! try .. except .. as .. -/
def wTry3 (K : PySem.W.Frag) (cv : Value) (wb : WS3) (wsu : Str → Dt → WS) : WS3 := fun ρ μ Φ _ => wb ρ μ Φ fun c d ρ1 μ1 => PySem.W.exmOne K (.ref (He.ga K c)) cv = some true ∧ wsu c d ρ1 ⟨fun ρ' => Φ.nx ρ' μ1, fun r ρ' => Φ.rt r ρ' μ1, fun ρ' => Φ.bk ρ' μ1, fun ρ' => Φ.ct ρ' μ1⟩
instance (priority := 40) s3_try {W : WX} {cv : Value} {i : Nat} {tb : WX → TS} {ts : Addr → Value → Option Addr → TS} {Wo : WX} {wb : WS3} {wsu : Str → Dt → WS} [a : ∀ W, S3 K W (tb W) wb] [su : Su K i ts wsu] : S3 K W (tTry K cv i tb ts Wo) (wTry3 K cv wb wsu) where
  run B C H σ ρ μ D Φ Ξ S h m mx := (a _).run B C H σ ρ μ D Φ _ S h m fun C' G σ' ρ' μ' cls dd c d S' ex z =>
    ⟨true, by rw [ex.1]; exact z.1, fun _ b hb => by
      obtain ⟨B1, S1, back, fr⟩ := S'.lift
      refine su.run B1 C' G σ' ρ' D _ b cls dd c d S1 hb ex z.2 ⟨fun C1 G σ1 ρ1 S2 z => m.nx _ _ _ _ _ (back S2).1 z, fun C1 G σ1 ρ1 v r S2 ok z => m.rt C1 G σ1 ρ1 μ' v r ?_ z, fun C1 G σ1 ρ1 S2 z => m.bk _ _ _ _ _ (back S2).1 z, fun C1 G σ1 ρ1 S2 z => m.ct _ _ _ _ _ (back S2).1 z⟩
      cases r with
      | dat d => exact ⟨(back S2).1, ok⟩
      | new ds =>
        obtain ⟨x, rfl, f⟩ := ok
        exact ⟨x, rfl, fr S2 f⟩, fun q => nomatch q⟩
/-! [e for x in it if t] -/
def noX3 : XE3 := fun _ _ _ _ => False
theorem noX3_ok {B : Bs} {W : WX} : MeetsX3 K B noX3 W := fun _ _ _ _ _ _ _ _ _ _ _ z => z.elim
def wLc3 (is : List Nat) (wi : WI3) (wg : WG) (wt : WT3) (we : WE3) (vs : List Nat) : WE3 := fun ρ μ Ψ Ξ => wi ρ μ (fun items ρ1 μ1 => (noBox ρ1 vs = true ∧ subB is vs = true) ∧ ∃ I : Nat → List Dt → List Sl → My → Prop, I 0 [] (wipeR ρ1 vs) μ1 ∧
  (∀ k acc ρ μ d, items[k]? = some d → I k acc ρ μ → wg d ρ fun ρ2 => wt ρ2 μ (fun b ρ3 μ3 => if b = true then we ρ3 μ3 (fun r ρ4 μ4 => noBox ρ4 vs = true ∧ acc.length < sizeLine ∧ I (k + 1) (acc ++ [r.val]) (wipeR ρ4 vs) μ4) noX3
    else noBox ρ3 vs = true ∧ I (k + 1) acc (wipeR ρ3 vs) μ3) noX3) ∧ ∀ acc ρ μ, I items.length acc ρ μ → noBox ρ vs = true ∧ Ψ (.new acc) (wipeR ρ vs) μ) Ξ
instance (priority := 40) e3_lc {W : WX} {ti : TI} {g : TG} {tt : TT} {te : TE} {vs is : List Nat} {wi : WI3} {wg : WG} {wt : WT3} {we : WE3} [i : I3 K W ti wi] [a : Sg K g wg] [s : Sw g is] [c : C3 K W tt wt] [b : E3 K W te we] : E3 K W (tLc ti g tt te vs) (wLc3 is wi wg wt we vs) where
  run B C H σ ρ μ Q Ψ Ξ S h kk mx := i.run B C H σ ρ μ _ _ _ S h (fun C1 H1 J items ρ1 μ1 S1 s1 hJ h1 => by
    obtain ⟨⟨nb1, sub⟩, I, i0, step, fin⟩ := h1
    intro D hD
    refine ⟨fun k n H2 => n = items.length - k ∧ k ≤ items.length ∧ ∃ C2 ρ2 μ2 acc, Sep3 K B C2 H2 (wipe σ vs) ρ2 ((D, .fl (.lst acc)) :: μ2) ∧ Same C1 C2 ∧ I k acc ρ2 μ2, ⟨_, rfl, Nat.zero_le _, C1, wipeR ρ1 vs, μ1, [], (S1.new hD .nil).swap nb1 (wipe2 vs), Same.refl _, i0⟩, ?_⟩
    rintro k n H2 ⟨rfl, hk, C2, ρ2, μ2, acc, S2, s2, hI⟩
    obtain ⟨B1, T2, back, _⟩ := S2.lift
    obtain ⟨go, stop, yld⟩ := hJ B1 C2 H2 _ ρ2 T2 s2
    by_cases hlt : k < items.length
    · refine .inr ⟨go k hlt, fun H3 => ∃ C3 ρ3 μ3 acc, Sep3 K B C3 H3 (wipe σ vs) ρ3 ((D, .fl (.lst acc)) :: μ3) ∧ Same C1 C3 ∧ I (k + 1) acc ρ3 μ3, fun H3 ⟨C3, ρ3, μ3, acc, q⟩ => ⟨items.length - (k + 1), by omega, rfl, hlt, C3, ρ3, μ3, acc, q⟩, fun x H' y => ?_⟩
      obtain ⟨C3, T3, s3, r3⟩ := yld k x H' items[k] (List.getElem?_eq_getElem hlt) y
      have st := step k acc ρ2 μ2 _ (List.getElem?_eq_getElem hlt) hI
      obtain ⟨o, hDo, okD, Sh, h0, c0, bx⟩ := (back T3).1.hold (fun c ns ds z => nomatch z)
      obtain ⟨B2, T4, back2, _⟩ := Sh.lift
      refine s.run _ _ _ _ _ (a.run B2 C3 H' _ ρ2 _ _ (fun σ4 H4 => ∃ ρ4, H4 = H' ∧ Sep K B2 C3 H' σ4 ρ4 ∧ wt ρ4 μ2 (fun b ρ3 μ3 => if b = true then we ρ3 μ3 (fun r ρ4 μ4 => noBox ρ4 vs = true ∧ acc.length < sizeLine ∧ I (k + 1) (acc ++ [r.val]) (wipeR ρ4 vs) μ4) noX3 else noBox ρ3 vs = true ∧ I (k + 1) acc (wipeR ρ3 vs) μ3) noX3) _ T4 r3 st fun σ4 ρ4 S4 h4 => ⟨ρ4, rfl, S4, h4⟩) fun σ4 H4 ⟨l4, o4⟩ ⟨ρ4, e4, S4, h4⟩ => ?_
      subst e4
      have w4 : wipe σ4 vs = wipe σ vs := (wipe_eq l4 o4 (subB_at sub)).trans (wipe2 vs)
      have w4' : wipe (wipe σ vs) vs = wipe σ4 vs := (wipe2 vs).trans w4.symm
      refine ⟨w4, c.run _ C3 _ σ4 ρ4 μ2 _ _ _ (back2 S4).1 h4 (fun C5 H5 e ρ5 μ5 S5 s5 h5 => ?_) noX3_ok⟩
      cases e with
      | false =>
        obtain ⟨n5, z5⟩ := h5
        obtain ⟨S6, _⟩ := S5.unhold h0 c0 bx (okD.same s5)
        exact ⟨C5, _, _, acc, S6.swap n5 w4', s2.trans (s3.trans s5), z5⟩
      | true =>
        refine b.run _ C5 H5 σ4 ρ5 μ5 _ _ _ S5 h5 (fun C6 H6 v6 r6 ρ6 μ6 ok6 s6 h6 => ?_) noX3_ok
        obtain ⟨C7, S7, s7, q7⟩ := ok6.cool
        obtain ⟨n6, z6, z7⟩ := h6
        have sx : Same C3 C7 := s5.trans (s6.trans s7)
        obtain ⟨S8, _⟩ := S7.unhold h0 c0 bx (okD.same sx)
        obtain ⟨ws, hw, rw6⟩ := S8.has (i := 0) rfl
        exact ⟨ws, hw, by rw [rw6.len]; exact z6, C7, _, _, acc ++ [r6.val], (S8.setL (i := 0) rfl (rw6.append (.cons q7 .nil))).swap n6 w4', s2.trans (s3.trans sx), z7⟩
    · have e : k = items.length := by omega
      subst e
      obtain ⟨nf, z⟩ := fin _ _ _ hI
      exact .inl ⟨stop, kk C2 H2 _ (.new acc) _ _ ⟨D, rfl, S2.swap nf (wipe2 vs).symm⟩ (s1.trans s2) z⟩) mx
/-! some hung thing grows cold -/
def tCool3 (t : TE) : TE := t
theorem peCool3 {X : Cx} {e : Expr} {t : TE} (h : PE X e t) : PE X e (tCool3 t) := h
def wCool3 (w : WE3) : WE3 := fun ρ μ Ψ Ξ => w ρ μ (fun r ρ1 μ1 => match r with
  | .dat (.adr a) => ∃ (f : Fl) (μ2 : My), Ent μ1 ((a, Ob.fl f) :: μ2) ∧ Ψ (.dat f.cold) ρ1 μ2
  | _ => False) Ξ
instance (priority := 70) e3_cool {W : WX} {t : TE} {w : WE3} [a : E3 K W t w] : E3 K W (tCool3 t) (wCool3 w) where
  run B C H σ ρ μ Q Ψ Ξ S h k mx := a.run B C H σ ρ μ _ _ _ S h (fun C1 H1 v r ρ1 μ1 ok s1 z => by
    cases r with
    | new ds => exact False.elim z
    | dat d =>
      cases d <;> try exact False.elim z
      obtain ⟨S1, rp⟩ := ok
      cases rp
      obtain ⟨f, μ2, en, z⟩ := z
      obtain ⟨C2, S2, s2, r2⟩ := (S1.ent en).cool
      exact k _ _ _ (.dat f.cold) _ _ ⟨S2, r2⟩ (s1.trans s2) z) mx
/-! ghosts: packs opened and closed ahead of a statement -/
/-- a def's body, all its packs open -/
theorem body3o {E : XK} {t : TS} {w : WS3} [s : S3 K (fun cls d _ H => E cls d H) t w] {N : List Str} {vs : List V} {H : Hp} {Q : VK} {n : Nat} {wf : W3F} (h : sp3 K n wf vs H Q E) (hw : ∀ ps μ Ψ Ξ, wf ps μ Ψ Ξ → ps.length = n → ∀ m, Exp μ m → w (ps ++ List.replicate (N.length - n) .un) (flat m) (fin3 ps Ψ) (finX3 ps Ξ)) :
    t { nx := fun _ H' => Q .non H', rt := Q } (start N vs) H := by
  obtain ⟨hl, C, U, bx, ps, μ, m, Ψ, Ξ, S, e, M, hU, hf, k, kx⟩ := h
  have lp : ps.length = n := by have := S.len; rw [List.length_map] at this; omega
  have S1 : Sep3 K ⟨C, subU H U, bx⟩ C H (start N vs) (ps ++ List.replicate (N.length - vs.length) .un) (flat m) := ⟨m, Exp.flat m, U, M, by rw [subU_hang hU]; exact start_sep (N := N) S⟩
  have h1 := hw ps μ Ψ Ξ hf lp m e
  rw [← hl] at h1
  obtain ⟨m3, x3⟩ := fin3_ok (ps := ps) (fun z => Sep3.args S z) k kx
  exact s.run _ C H _ _ _ _ _ _ S1 h1 m3 x3

end
section
variable {P : Program} {w : World} {K : PySem.W.Frag} {mg : Str → Option Value} {base : Heap}
local macro_rules | `(tactic| get_elem_tactic_trivial) => `(tactic| (repeat first | exact Wk.nil | exact Wk'.nil | refine Wk.same ?_ | refine Wk'.same ?_ | refine Wk.un (fun _ z => nomatch z) ?_ | refine Wk'.un ?_))
/-! level 3: dicts -/
def getK : List Key → List Dt → Key → Option Dt
  | k :: ks, d :: ds, j => if k = j then some d else getK ks ds j
  | _, _, _ => none
def putKD (j : Key) (e : Dt) : List Key → List Dt → List Key × List Dt
  | k :: ks, d :: ds => if k = j then (k :: ks, e :: ds) else (k :: (putKD j e ks ds).1, d :: (putKD j e ks ds).2)
  | _, _ => ([j], [e])
def keyOf : Dt → Option Key
  | .int i => some (.inl i)
  | .str x => some (.inr x)
  | _ => none
theorem keyOf_ok {C : Hp} {v : V} {d : Dt} {k : Key} (r : Rp K C v d) (h : keyOf d = some k) : v = kV k := by
  cases d with
  | int i =>
    cases r
    cases h
    rfl
  | str x =>
    cases r
    cases h
    rfl
  | _ => cases h
theorem getK_ok {C : Hp} {j : Key} : ∀ {ks : List Key} {vs : List V} {ds : List Dt}, RpL K C vs ds → ks.length = vs.length → (∀ d, getK ks ds j = some d → ∃ v, valV (ks.zip vs) j = some v ∧ Rp K C v d) ∧ (getK ks ds j = none → valV (ks.zip vs) j = none)
  | [], _, _, .nil, _ => ⟨fun d h => (nomatch h), fun _ => rfl⟩
  | [], _, _, .cons _ _, h => by simp at h
  | k :: ks, _, _, .nil, h => by simp at h
  | k :: ks, v :: vs, d :: ds, .cons r t, h => by
    obtain ⟨i1, i2⟩ := getK_ok (j := j) t (ks := ks) (by simpa using h)
    by_cases q : k = j
    · refine ⟨fun e z => ?_, fun z => ?_⟩
      · unfold getK at z
        rw [if_pos q] at z
        cases z
        exact ⟨v, valV_pos (p := (k, v)) q, r⟩
      · unfold getK at z
        rw [if_pos q] at z
        cases z
    · refine ⟨fun e z => ?_, fun z => ?_⟩
      · unfold getK at z
        rw [if_neg q] at z
        obtain ⟨u, e1, e2⟩ := i1 e z
        exact ⟨u, by rw [List.zip_cons_cons, valV_neg (p := (k, v)) q]; exact e1, e2⟩
      · unfold getK at z
        rw [if_neg q] at z
        rw [List.zip_cons_cons, valV_neg (p := (k, v)) q]
        exact i2 z
theorem putK_cons {p : Key × V} {r : List (Key × V)} {j : Key} {v : V} (hn : ¬ p.1 ∈ r.map (·.1)) : putK (p :: r) j v = if p.1 = j then (p.1, v) :: r else p :: putK r j v := by
  by_cases q : p.1 = j
  · rw [if_pos q]
    unfold putK
    rw [List.any_cons, decide_eq_true q, Bool.true_or, if_pos rfl, List.map_cons, if_pos q]
    congr 1
    have : ∀ x ∈ r, (if x.1 = j then (x.1, v) else x) = x := fun x hx => if_neg fun z => hn (List.mem_map.mpr ⟨x, hx, z.trans q.symm⟩)
    exact (List.map_congr_left this).trans (List.map_id _)
  · rw [if_neg q]
    unfold putK
    rw [List.any_cons, decide_eq_false q, Bool.false_or]
    by_cases z : (r.any fun kv => decide (kv.1 = j)) = true
    · rw [if_pos z, if_pos z, List.map_cons, if_neg q]
    · rw [if_neg z, if_neg z]
      rfl
theorem putKD_mem {j : Key} {e : Dt} : ∀ {ks : List Key} {ds : List Dt} {x : Key}, x ∈ (putKD j e ks ds).1 → x ∈ ks ∨ x = j
  | [], ds, x, h => by
    unfold putKD at h
    exact .inr (List.mem_singleton.mp h)
  | k :: ks, [], x, h => by
    unfold putKD at h
    exact .inr (List.mem_singleton.mp h)
  | k :: ks, d :: ds, x, h => by
    unfold putKD at h
    split at h
    · exact .inl h
    · rcases List.mem_cons.mp h with z | z
      · exact .inl (z ▸ List.mem_cons_self ..)
      · exact (putKD_mem z).imp (List.mem_cons_of_mem _) id
theorem putKD_ok {C : Hp} {j : Key} {v : V} {e : Dt} (re : Rp K C v e) : ∀ {ks : List Key} {vs : List V} {ds : List Dt}, RpL K C vs ds → ks.length = vs.length → ks.Nodup → ∃ vs', putK (ks.zip vs) j v = (putKD j e ks ds).1.zip vs' ∧ (putKD j e ks ds).1.length = vs'.length ∧ (putKD j e ks ds).1.Nodup ∧ RpL K C vs' (putKD j e ks ds).2
  | [], _, _, .nil, _, _ => ⟨[v], rfl, rfl, by simp [putKD], .cons re .nil⟩
  | [], _, _, .cons _ _, h, _ => by simp at h
  | k :: ks, _, _, .nil, h, _ => by simp at h
  | k :: ks, u :: vs, d :: ds, .cons r t, h, n => by
    obtain ⟨n1, n2⟩ := List.nodup_cons.mp n
    have hl : ks.length = vs.length := by simpa using h
    have hk : (ks.zip vs).map (·.1) = ks := by rw [List.map_fst_zip]; omega
    have pc := putK_cons (p := (k, u)) (r := ks.zip vs) (j := j) (v := v) (by rw [hk]; exact n1)
    by_cases q : k = j
    · refine ⟨v :: vs, ?_, ?_, ?_, ?_⟩
      · unfold putKD
        rw [if_pos q, List.zip_cons_cons, pc, if_pos q]
        rfl
      · unfold putKD
        rw [if_pos q]
        exact h
      · unfold putKD
        rw [if_pos q]
        exact n
      · unfold putKD
        rw [if_pos q]
        exact .cons re t
    · obtain ⟨vs', e1, e2, e3, e4⟩ := putKD_ok re (j := j) t hl n2
      refine ⟨u :: vs', ?_, ?_, ?_, ?_⟩
      · unfold putKD
        rw [if_neg q, List.zip_cons_cons, pc, if_neg q, e1]
        rfl
      · unfold putKD
        rw [if_neg q]
        exact congrArg Nat.succ e2
      · unfold putKD
        rw [if_neg q]
        exact List.nodup_cons.mpr ⟨fun z => (putKD_mem z).elim n1 q, e3⟩
      · unfold putKD
        rw [if_neg q]
        exact .cons r e4
def mrgK (ks : List Key) (ds : List Dt) : List Key → List Dt → List Key × List Dt
  | k :: js, e :: es => mrgK (putKD k e ks ds).1 (putKD k e ks ds).2 js es
  | _, _ => (ks, ds)
theorem mrgK_ok {C : Hp} : ∀ {js : List Key} {ws : List V} {es : List Dt} {ks : List Key} {vs : List V} {ds : List Dt}, RpL K C ws es → js.length = ws.length → RpL K C vs ds → ks.length = vs.length → ks.Nodup → ∃ vs', mergeK (ks.zip vs) (js.zip ws) = (mrgK ks ds js es).1.zip vs' ∧ (mrgK ks ds js es).1.length = vs'.length ∧ (mrgK ks ds js es).1.Nodup ∧ RpL K C vs' (mrgK ks ds js es).2
  | [], _, _, ks, vs, ds, .nil, _, r, l, n => ⟨vs, rfl, l, n, r⟩
  | [], _, _, _, _, _, .cons _ _, h, _, _, _ => by simp at h
  | k :: js, _, _, _, _, _, .nil, h, _, _, _ => by simp at h
  | k :: js, w :: ws, e :: es, ks, vs, ds, .cons a t, h, r, l, n => by
    obtain ⟨vs1, e1, e2, e3, e4⟩ := putKD_ok (j := k) a r l n
    obtain ⟨vs2, f1, f2, f3, f4⟩ := mrgK_ok (js := js) t (by simpa using h) e4 e2 e3
    refine ⟨vs2, ?_, f2, f3, f4⟩
    show mergeK (putK (ks.zip vs) k w) (js.zip ws) = _
    rw [e1]
    exact f1
/-- what is seen as a dict: one that is hung, or a cold one -/
def dvM (μ : My) (d : Dt) (ks : List Key) (ds : List Dt) : Prop := d = .dic ks ds ∨ ∃ (a : Addr) (i : Nat), d = .adr a ∧ (μ[i]? = some (a, Ob.fl (.dic ks ds)) ∨ μ[i]? = some (a, Ob.fl (.lck ks ds)))
theorem dvM.cold {μ : My} {ks : List Key} {ds : List Dt} : dvM μ (.dic ks ds) ks ds := .inl rfl
theorem dvM.run {B : Bs} {C H : Hp} {σ : L2.St} {ρ : List Sl} {μ : My} {v : V} {d : Dt} {ks : List Key} {ds : List Dt} (S : Sep3 K B C H σ ρ μ) (r : Rp K C v d) (h : dvM μ d ks ds) : ∃ a vs, v = .ref a ∧ Rd H a (.dK (ks.zip vs)) ∧ ks.length = vs.length ∧ ks.Nodup ∧ RpL K C vs ds := by
  rcases h with rfl | ⟨a, i, rfl, h⟩
  · cases r with
    | @dic a _ vs _ e l n rl => exact ⟨a, vs, rfl, e.imp (S.sep.cold _ _) fun ⟨o, q⟩ => ⟨o, S.sep.cold _ _ q⟩, l, n, rl⟩
  · cases r
    rcases h with h | h
    · obtain ⟨vs, e, l, n, rl⟩ := S.has h
      exact ⟨a, vs, rfl, .inl e, l, n, rl⟩
    · obtain ⟨o, vs, e, l, n, rl⟩ := S.has h
      exact ⟨a, vs, rfl, .inr ⟨o, e⟩, l, n, rl⟩
def wDGet3 (wo wi : WE3) : WE3 := fun ρ μ Ψ Ξ => wo ρ μ (fun r1 ρ1 μ1 => wi ρ1 μ1 (fun r2 ρ2 μ2 => ∃ ks ds k e, dvM μ2 r1.val ks ds ∧ keyOf r2.val = some k ∧ getK ks ds k = some e ∧ Ψ (.dat e) ρ2 μ2) Ξ) Ξ
instance (priority := 40) e3_dget {W : WX} {td ty : TE} {wo wi : WE3} [a : E3 K W td wo] [b : E3 K W ty wi] : E3 K W (tDGet td ty) (wDGet3 wo wi) where
  run B C H σ ρ μ Q Ψ Ξ S h k mx := a.run B C H σ ρ μ _ _ _ S h (fun C1 H1 v1 r1 ρ1 μ1 ok1 s1 h1 => by
    obtain ⟨C1', S1, s1', q1⟩ := ok1.cool
    refine b.run B C1' H1 σ ρ1 μ1 _ _ _ S1 h1 (fun C2 H2 v2 r2 ρ2 μ2 ok2 s2 h2 => ?_) mx
    obtain ⟨C2', S2, s2', q2⟩ := ok2.cool
    obtain ⟨ks, ds, kk, e, dv, hk, hg, z⟩ := h2
    obtain ⟨x, vs, rfl, rd, l, n, rl⟩ := dv.run S2 (q1.same (s2.trans s2'))
    obtain ⟨v, hv, rv⟩ := (getK_ok rl l).1 e hg
    exact ⟨x, v, rfl, .inl ⟨_, kk, rd, keyOf_ok q2 hk, hv.symm⟩, k _ _ _ (.dat e) _ _ ⟨S2, rv⟩ ((s1.trans s1').trans (s2.trans s2')) z⟩) mx
theorem Sep3.setD {B : Bs} {C H : Hp} {σ : L2.St} {ρ : List Sl} {μ : My} {a : Addr} {i : Nat} {ks ks' : List Key} {ds ds' : List Dt} {vs' : List V} (S : Sep3 K B C H σ ρ μ) (hi : μ[i]? = some (a, Ob.fl (.dic ks ds))) (l : ks'.length = vs'.length) (n : ks'.Nodup) (r : RpL K C vs' ds') : Sep3 K B C (upd H a (.dK (ks'.zip vs'))) σ ρ (μ.set i (a, Ob.fl (.dic ks' ds'))) := S.set hi fun U1 _ _ => ⟨vs', upd_same, l, n, r⟩
/-! {..}, {k: v, ..} -/
theorem Sep3.newD {B : Bs} {C H : Hp} {σ : L2.St} {ρ : List Sl} {μ : My} {p : Addr} {ks : List Key} {vs : List V} {ds : List Dt} (S : Sep3 K B C H σ ρ μ) (hp : H p = none) (l : ks.length = vs.length) (n : ks.Nodup) (r : RpL K C vs ds) : Sep3 K B C (upd H p (.dK (ks.zip vs))) σ ρ ((p, Ob.fl (.dic ks ds)) :: μ) := S.newU hp ⟨vs, oneU_at, l, n, r⟩
abbrev WP3 := List Sl → My → (List Key → List Dt → List Sl → My → Prop) → XE3 → Prop
class P3 (K : PySem.W.Frag) (W : WX) (t : List (TE × TE)) (w : outParam WP3) : Prop where
  run : ∀ (B : Bs) (C H : Hp) (σ : L2.St) (ρ : List Sl) (μ : My) (Q : List (V × V) → Hp → Prop) (Ψ : List Key → List Dt → List Sl → My → Prop) (Ξ : XE3), Sep3 K B C H σ ρ μ → w ρ μ Ψ Ξ → (∀ C' G vs ks ds ρ' μ', Sep3 K B C' G σ ρ' μ' → Same C C' → RpL K C' vs ds → ks.length = vs.length → Ψ ks ds ρ' μ' → Q ((ks.map kV).zip vs) G) → MeetsX3 K B Ξ W → tPairs t σ H Q
def wPN : WP3 := fun ρ μ Ψ _ => Ψ [] [] ρ μ
def wPC (wk wv : WE3) (wr : WP3) : WP3 := fun ρ μ Ψ Ξ => wk ρ μ (fun r1 ρ1 μ1 => wv ρ1 μ1 (fun r2 ρ2 μ2 => wr ρ2 μ2 (fun ks ds ρ3 μ3 => ∃ k, keyOf r1.val = some k ∧ Ψ (k :: ks) (r2.val :: ds) ρ3 μ3) Ξ) Ξ) Ξ
instance p3_nil {W : WX} : P3 K W [] wPN where run B C H σ ρ μ Q Ψ Ξ S h k mx := k _ _ [] [] [] _ _ S (Same.refl _) .nil rfl h
instance p3_cons {W : WX} {tk tv : TE} {tr : List (TE × TE)} {wk wv : WE3} {wr : WP3} [a : E3 K W tk wk] [b : E3 K W tv wv] [c : P3 K W tr wr] : P3 K W ((tk, tv) :: tr) (wPC wk wv wr) where
  run B C H σ ρ μ Q Ψ Ξ S h k mx := a.run B C H σ ρ μ _ _ _ S h (fun C1 H1 v1 r1 ρ1 μ1 ok1 s1 h1 => by
    obtain ⟨C1', S1, s1', q1⟩ := ok1.cool
    refine b.run B C1' H1 σ ρ1 μ1 _ _ _ S1 h1 (fun C2 H2 v2 r2 ρ2 μ2 ok2 s2 h2 => ?_) mx
    obtain ⟨C2', S2, s2', q2⟩ := ok2.cool
    refine c.run B C2' H2 σ ρ2 μ2 _ _ _ S2 h2 (fun C3 H3 vs ks ds ρ3 μ3 S3 s3 rl l h3 => ?_) mx
    obtain ⟨kk, hk, z⟩ := h3
    have := k C3 H3 (v2 :: vs) (kk :: ks) (r2.val :: ds) ρ3 μ3 S3 ((s1.trans s1').trans ((s2.trans s2').trans s3)) (.cons (q2.same s3) rl) (congrArg Nat.succ l) z
    rw [List.map_cons, List.zip_cons_cons, ← keyOf_ok q1 hk] at this
    exact this) mx
def wDisp3 (wp : WP3) : WE3 := fun ρ μ Ψ Ξ => wp ρ μ (fun ks ds ρ1 μ1 => ks.length ≤ 15 ∧ ∃ ks' ds', mrgK [] [] ks ds = (ks', ds') ∧ ∀ a, Ψ (.dat (.adr a)) ρ1 ((a, Ob.fl (.dic ks' ds')) :: μ1)) Ξ
theorem emptyD {C C' U : Hp} {p : Addr} (h : FlOk K C U p (.dic [] [])) : FlOk K C' U p (.dic [] []) := by
  obtain ⟨vs, e, l, n, r⟩ := h
  cases r
  exact ⟨[], e, rfl, .nil, .nil⟩
theorem zip_kv : ∀ {ks : List Key} {vs : List V}, ks.length = vs.length → (ks.map kV).zip vs = (ks.zip vs).map fun kv => (kV kv.1, kv.2)
  | [], [], _ => rfl
  | [], _ :: _, h => by simp at h
  | _ :: _, [], h => by simp at h
  | k :: ks, v :: vs, h => by
    rw [List.map_cons, List.zip_cons_cons, List.zip_cons_cons, List.map_cons, zip_kv (by simpa using h)]
instance (priority := 40) e3_disp {W : WX} {trs : List (TE × TE)} {wp : WP3} [a : P3 K W trs wp] : E3 K W (tDisp trs) (wDisp3 wp) where
  run B C H σ ρ μ Q Ψ Ξ S h k mx := fun p hp => by
    have S0 := S.newD (ks := []) (vs := []) (ds := []) hp rfl .nil .nil
    obtain ⟨o, ho, ok, Sh, h0, c0, bx⟩ := S0.hold (fun c ns ds z => nomatch z)
    refine a.run (B.hold p o) C _ σ ρ μ _ _ Ξ Sh h (fun C1 H1 vs ks ds ρ1 μ1 S1 s1 rl l h1 => ?_) fun C1 H1 σ1 ρ1 μ1 cls dd c d S1 ex z => ?_
    · obtain ⟨l15, ks', ds', em, z⟩ := h1
      obtain ⟨S2, hH⟩ := S1.unhold (f := .dic [] []) h0 c0 bx (emptyD ok)
      obtain ⟨vs0, e0, l0, _, _⟩ := S2.has (i := 0) rfl
      obtain ⟨vs', f1, f2, f3, f4⟩ := mrgK_ok (ks := []) (vs := []) (ds := []) rl l .nil rfl .nil
      rw [em] at f1 f2 f3 f4
      refine ⟨e0, ks.zip vs, zip_kv l, by rw [List.length_zip]; omega, ?_⟩
      have f1' : mergeK [] (ks.zip vs) = ks'.zip vs' := f1
      rw [f1']
      exact k _ _ _ (.dat (.adr p)) _ _ ⟨S2.setD (i := 0) rfl f2 f3 f4, .adr p⟩ s1 (z p)
    · obtain ⟨S2, _⟩ := S1.unhold (f := .dic [] []) h0 c0 bx (emptyD ok)
      exact mx _ _ _ _ _ _ _ _ _ (S2.ent Ent.tail) ex z

end
section
variable {P : Program} {w : World} {K : PySem.W.Frag} {mg : Str → Option Value} {base : Heap}
local macro_rules | `(tactic| get_elem_tactic_trivial) => `(tactic| (repeat first | exact Wk.nil | exact Wk'.nil | refine Wk.same ?_ | refine Wk'.same ?_ | refine Wk.un (fun _ z => nomatch z) ?_ | refine Wk'.un ?_))
/-! level 3: packs -/
theorem Ent.pack {is : List Nat} {μ r : My} {I : Addr → Fm → Prop} {a : Addr} {m : Fm} (h : I a m) (e : picks is μ = some (flat m, r)) : Ent μ ((a, .pk I) :: r) := (Ent.pick e).trans (Ent.close h)
theorem Ent.keep {is : List Nat} {μ μ1 r : My} (e : picks is μ = some (μ1, r)) : Ent μ μ1 := (Ent.pick e).trans Ent.left
theorem Ent.nil {μ : My} : Ent μ [] := Ent.drop (r := μ) (.refl _)
/-! a pack opened ahead of a statement -/
def tOpen (t : TS) : TS := t
theorem psOpen {X : Cx} {s : Stmt} {t : TS} (h : PS X s t) : PS X s (tOpen t) := h
def wOpen (w : WS3) : WS3 := fun ρ μ Φ Ξ => ∃ (a : Addr) (I : Addr → Fm → Prop) (μ' : My), Ent μ ((a, .pk I) :: μ') ∧ ∀ m, I a m → w ρ (flat m ++ μ') Φ Ξ
instance (priority := 70) s3_open {W : WX} {t : TS} {w : WS3} [a : S3 K W t w] : S3 K W (tOpen t) (wOpen w) where
  run B C H σ ρ μ D Φ Ξ S h m mx := by
    obtain ⟨x, I, μ', en, h⟩ := h
    obtain ⟨m0, i0, S1⟩ := (S.ent en).open_
    exact a.run B C H σ ρ _ D Φ Ξ S1 (h m0 i0) m mx
/-! what is seen as it stands -/
/-! for x in a list that is hung: it is held meanwhile -/
def tHold (t : TE) : TE := t
theorem peHold {X : Cx} {e : Expr} {t : TE} (h : PE X e t) : PE X e (tHold t) := h
def wForH (wo : WE3) (wg : WG) (wb : WS3) : WS3 := fun ρ μ Φ Ξ => wo ρ μ (fun r ρ1 μ1 => match r with
  | .dat (.adr p) => ∃ (ds : List Dt) (μ2 : My), Ent μ1 ((p, Ob.fl (.lst ds)) :: μ2) ∧ ∃ I : Nat → List Sl → My → Prop, To3 (I 0) ρ1 μ2 ∧
    (∀ k ρ μ d, ds[k]? = some d → I k ρ μ → wg d ρ fun ρ2 => wb ρ2 μ ⟨To3 (I (k + 1)), fun r ρ' μ' => Φ.rt r ρ' ((p, Ob.fl (.lst ds)) :: μ'), fun ρ' μ' => Φ.nx ρ' ((p, Ob.fl (.lst ds)) :: μ'), To3 (I (k + 1))⟩ fun c d ρ' μ' => Ξ c d ρ' ((p, Ob.fl (.lst ds)) :: μ')) ∧ ∀ ρ μ, I ds.length ρ μ → Φ.nx ρ ((p, Ob.fl (.lst ds)) :: μ)
  | _ => False) Ξ
instance (priority := 70) s3_forH {W : WX} {te : TE} {g : TG} {tb : TS} {wo : WE3} {wg : WG} {wb : WS3} [i : E3 K W te wo] [a : Sg K g wg] [b : S3 K W tb wb] : S3 K W (tFor (iAny K (tHold te)) g tb) (wForH wo wg wb) where
  run B C H σ ρ μ D Φ Ξ S h m mx := i.run B C H σ ρ μ _ _ _ S h (fun C1 H1 v r ρ1 μ1 ok s1 h1 => by
    cases r with
    | new ds => exact False.elim h1
    | dat x =>
      cases x <;> try exact False.elim h1
      rename_i p
      obtain ⟨S1, rp⟩ := ok
      cases rp
      obtain ⟨ds, μ2, en, I, t0, step, fin⟩ := h1
      have S1 := S1.ent en
      obtain ⟨vs, hp, rv⟩ := S1.has (i := 0) rfl
      obtain ⟨o, ho, okp, Sh, h0, c0, bx⟩ := S1.hold (fun c ns ds z => nomatch z)
      rw [hp] at ho
      cases ho
      refine ⟨p, rfl, .inl ⟨⟨vs, SqL.of hp⟩, ?_⟩⟩
      obtain ⟨ρ0, μ0, S0, i0⟩ := Sh.to t0
      have un : ∀ {C' G : Hp} {σ' : L2.St} {ρ' : List Sl} {μ' : My}, Sep3 K (B.hold p (.lst vs)) C' G σ' ρ' μ' → Same C1 C' → Sep3 K B C' G σ' ρ' ((p, Ob.fl (.lst ds)) :: μ') := fun z s => (z.unhold h0 c0 bx (okp.same s)).1
      have at_ : ∀ {C' G : Hp} {σ' : L2.St} {ρ' : List Sl} {μ' : My}, Sep3 K (B.hold p (.lst vs)) C' G σ' ρ' μ' → G p = some (.lst vs) := fun z => z.sep.keep p _ upd_same bx
      refine ⟨fun k n σ2 H2 => n = ds.length - k ∧ k ≤ ds.length ∧ ∃ C2 ρ2 μ2, Sep3 K (B.hold p (.lst vs)) C2 H2 σ2 ρ2 μ2 ∧ Same C1 C2 ∧ I k ρ2 μ2, ⟨_, rfl, Nat.zero_le _, C1, ρ0, μ0, S0, Same.refl _, i0⟩, ?_⟩
      rintro k n σ2 H2 ⟨rfl, hk, C2, ρ2, μ2, S2, s2, hI⟩
      have hx := at_ S2
      have lq := rv.len
      by_cases hlt : k < ds.length
      · refine .inr ⟨⟨vs, vs[k]'(by omega), SqL.of hx, List.getElem?_eq_getElem (by omega)⟩, fun σ3 H3 => ∃ C3 ρ3 μ3, Sep3 K (B.hold p (.lst vs)) C3 H3 σ3 ρ3 μ3 ∧ Same C1 C3 ∧ I (k + 1) ρ3 μ3, fun σ3 H3 ⟨C3, ρ3, μ3, S3, s3, h3⟩ => ⟨ds.length - (k + 1), by omega, rfl, hlt, C3, ρ3, μ3, S3, s3, h3⟩, fun y H' yl => ?_⟩
        obtain ⟨rfl, yl⟩ := yl
        obtain ⟨e, he, re⟩ := (rv.same s2).at (yl vs (SqL.of hx))
        obtain ⟨S3, keep⟩ := S2.rebase
        obtain ⟨B2, T4, back2, _⟩ := S3.lift
        refine a.run B2 C2 _ σ2 ρ2 _ _ _ _ T4 re (step k ρ2 μ2 e he hI) fun σ4 ρ4 T5 h4 => ?_
        refine b.run _ C2 _ σ4 ρ4 μ2 _ _ _ (back2 T5).1 h4 ⟨fun C5 H5 σ5 ρ5 μ5 z h5 => ?_, fun C5 H5 σ5 ρ5 μ5 v r ok h5 => m.rt C5 H5 σ5 ρ5 _ v r ?_ h5, fun C5 H5 σ5 ρ5 μ5 z h5 => m.nx _ _ _ _ _ (un (keep z).1 (s2.trans (keep z).2)) h5, fun C5 H5 σ5 ρ5 μ5 z h5 => ?_⟩ fun C5 H5 σ5 ρ5 μ5 cls dd c d z ex q => mx _ _ _ _ _ _ _ _ _ (un (keep z).1 (s2.trans (keep z).2)) ex q
        · obtain ⟨ρ6, μ6, z6, h6⟩ := (keep z).1.to h5
          exact ⟨C5, ρ6, μ6, z6, s2.trans (keep z).2, h6⟩
        · cases r with
          | dat d => exact ⟨un (keep ok.1).1 (s2.trans (keep ok.1).2), ok.2⟩
          | new es =>
            obtain ⟨x, rfl, z⟩ := ok
            exact ⟨x, rfl, (un (keep z).1 (s2.trans (keep z).2)).ent (Ent.perm (.swap _ _ _))⟩
        · obtain ⟨ρ6, μ6, z6, h6⟩ := (keep z).1.to h5
          exact ⟨C5, ρ6, μ6, z6, s2.trans (keep z).2, h6⟩
      · have e : k = ds.length := by omega
        subst e
        exact .inl ⟨⟨vs, SqL.of hx, by omega⟩, m.nx _ _ _ _ _ (un S2 s2) (fin _ _ hI)⟩) mx
/-! dicts as values -/
/-! d.update(e) -/
def rDUpd : V → List V → Hp → VK → Prop := fun x vs H Q => ∃ (a b : Addr) (kvs more : List (Key × V)), x = .ref a ∧ vs = [.ref b] ∧ H a = some (.dK kvs) ∧ H b = some (.dK more) ∧ a ≠ b ∧ kvs.length + more.length ≤ sizeLine ∧ Q .non (upd H a (.dK (mergeK kvs more)))
theorem mtd_update {X : Cx} : MtR X "dict.update" rDUpd := by
  intro pins s σ H x vs v us Q I rx rv h
  obtain ⟨a, b, kvs, more, ex, ev, e, e2, ne, hz, q⟩ := h
  subst ex
  subst ev
  obtain rfl : v = Value.ref a := rx
  obtain ⟨u, rfl, ru⟩ : ∃ u, us = [u] ∧ RelV (.ref b) u := by
    cases rv with
    | cons r t =>
      cases t
      exact ⟨_, rfl, r⟩
  obtain rfl : u = Value.ref b := ru
  obtain ⟨z, hd, ws, rel, dd⟩ := dk_of I.hok e
  obtain ⟨z2, hd2, ws2, rel2, dd2⟩ := dk_of I.hok e2
  have lm := length_mergeK more kvs
  refine call_meetsIn PySem.F.slot_dict_update dd.typeIs PySem.F.entry_dict_update (PySem.F.args_dict_update_2 _ _) (meets_dict_update (mixKind X.prog X.w) a b ne hd2) ⟨ws, ws2, dd, dd2, by rw [← rel.length, ← rel2.length]; exact hz, fun h' dd' _ hs => ?_⟩
  have he : ∃ q, h'.get? a = some q := let ⟨q, _, _, hq, _⟩ := dd'; ⟨q, hq⟩
  exact ⟨.non, _, d_write (t' := s.toks) I (by rw [e]; exact True.intro) hs he (dk_new (Nat.le_trans lm hz) hd (rel2.merge rel) dd'), rfl, q⟩
def wDUpd (wo we : WE3) : WE3 := fun ρ μ Ψ Ξ => wo ρ μ (fun r1 ρ1 μ1 => (∃ (a : Addr) (i : Nat) (ks : List Key) (ds : List Dt), r1.val = .adr a ∧ μ1[i]? = some (a, Ob.fl (.dic ks ds))) ∧ we ρ1 μ1 (fun r2 ρ2 μ2 => ∃ (a b : Addr) (is : List Nat) (μ3 : My) (ks js : List Key) (ds es : List Dt), r1.val = .adr a ∧ r2.val = .adr b ∧ Ent μ2 ((a, Ob.fl (.dic ks ds)) :: (b, Ob.fl (.dic js es)) :: μ3) ∧ ks.length + js.length ≤ sizeLine ∧ ∃ ks' ds', mrgK ks ds js es = (ks', ds') ∧ Ψ (.dat .non) ρ2 ((a, Ob.fl (.dic ks' ds')) :: μ3)) Ξ) Ξ
instance (priority := 45) e3_dupd {W : WX} {to te : TE} {wo we : WE3} [a : E3 K W to wo] [b : E3 K W te we] : E3 K W (tBM K "dict" rDUpd to (tCons te tNil)) (wDUpd wo we) where
  run B C H σ ρ μ Q Ψ Ξ S h k mx := a.run B C H σ ρ μ _ _ _ S h (fun C1 H1 v r ρ1 μ1 ok s1 z => by
    obtain ⟨C1', S1, s1', q1⟩ := ok.cool
    obtain ⟨⟨x0, i0, ks0, ds0, e0, hi0⟩, z⟩ := z
    rw [e0] at q1
    cases q1
    obtain ⟨vs0, hx0, _, _, rx0⟩ := S1.has hi0
    refine ⟨Or.inr (Or.inr (Or.inl ⟨rfl, Or.inl ⟨_, hx0⟩⟩)), ?_⟩
    refine b.run B C1' H1 σ ρ1 μ1 _ _ _ S1 z (fun C2 H2 v2 r2 ρ2 μ2 ok2 s2 h2 => ?_) mx
    obtain ⟨C3, S3, s3, q2⟩ := ok2.cool
    obtain ⟨x, y, is, μ3, ks, js, ds, es, e1, e2, en, hz, ks', ds', em, h2⟩ := h2
    rw [e0] at e1
    cases e1
    rw [e2] at q2
    cases q2
    have S4 := S3.ent en
    obtain ⟨vs, hx, l, n, rl⟩ := S4.has (i := 0) rfl
    obtain ⟨ws, hy, l2, n2, rl2⟩ := S4.has (i := 1) rfl
    have ne : x0 ≠ y := fun z => by
      obtain ⟨m, ⟨m1, m2, rfl, f1, m3, m4, rfl, f2, _⟩, U, M, _⟩ := S4
      cases f1
      cases f2
      have nd := M.nd
      rw [List.map_append, List.map_append] at nd
      subst z
      simp at nd
    obtain ⟨vs', f1, f2, f3, f4⟩ := mrgK_ok rl2 l2 rl l n
    rw [em] at f1 f2 f3 f4
    refine ⟨x0, y, _, _, rfl, rfl, hx, hy, ne, ?_, ?_⟩
    · rw [List.length_zip, List.length_zip]
      omega
    · rw [f1]
      exact k _ _ _ (.dat .non) _ _ ⟨(S4.setD (i := 0) rfl f2 f3 f4).ent (Ent.cons Ent.tail), .non⟩ (s1.trans (s1'.trans (s2.trans s3))) h2) mx

end
section
variable {P : Program} {w : World} {K : PySem.W.Frag} {mg : Str → Option Value} {base : Heap}
local macro_rules | `(tactic| get_elem_tactic_trivial) => `(tactic| (repeat first | exact Wk.nil | exact Wk'.nil | refine Wk.same ?_ | refine Wk'.same ?_ | refine Wk.un (fun _ z => nomatch z) ?_ | refine Wk'.un ?_))
/-! list(enumerate(x)) -/
namespace En
section
variable {prog : Program} {w : World} {A : Around} {E : Value → Shared → Prop} {s : Shared}
end
end En
namespace En
section
variable {prog : Program} {w : World} {A : Around} {s : Shared} {R : Result → Shared → Prop}
end
end En
/-! its data -/

end
section
variable {P : Program} {w : World} {K : PySem.W.Frag} {mg : Str → Option Value} {base : Heap}
local macro_rules | `(tactic| get_elem_tactic_trivial) => `(tactic| (repeat first | exact Wk.nil | exact Wk'.nil | refine Wk.same ?_ | refine Wk'.same ?_ | refine Wk.un (fun _ z => nomatch z) ?_ | refine Wk'.un ?_))
/-! a hung thing grows cold, and a slot that names it is told as it stands -/
/-! how often a truth is in a list -/
/-! list(range(n)) at level 3 -/

end
section
variable {P : Program} {w : World} {K : PySem.W.Frag} {mg : Str → Option Value} {base : Heap}
local macro_rules | `(tactic| get_elem_tactic_trivial) => `(tactic| (repeat first | exact Wk.nil | exact Wk'.nil | refine Wk.same ?_ | refine Wk'.same ?_ | refine Wk.un (fun _ z => nomatch z) ?_ | refine Wk'.un ?_))

/-! list(d.items()) of a dict that is hung, dict(xs) of pairs -/
namespace Dc
/-! dict(xs) -/
end Dc
/-! a keyword's default that is an empty tuple -/
theorem tupA_sq {K : PySem.W.Frag} {a : Addr} (h : tupA K a = true) (H : Hp) : SqT K H a [] := by
  unfold tupA at h
  split at h
  · next o q =>
    obtain ⟨h1, h2⟩ := He.ba h
    refine .inr ?_
    have e1 : o.cls = .type "tuple" := by
      split at h1
      · next c e => rw [e, of_decide_eq_true h1]
      · cases h1
    split at h2
    · next its n e =>
      have z := of_decide_eq_true h2
      have e3 : its = #[] := Array.eq_empty_of_size_eq_zero z
      subst e3
      exact ⟨o, #[], n, q, e1, e, by decide, .nil⟩
    · cases h2
  · cases h
theorem dw_tup {K : PySem.W.Frag} {a : Addr} (h : tupA K a = true) (C : Hp) : Rp K C (.ref a) (.tup []) := .tup (tupA_sq h C) .nil
def asPE {X : Cx} {e : Expr} (t : TE) (h : PE X e t) : PE X e t := h
def asPS {X : Cx} {e : Stmt} (t : TS) (h : PS X e t) : PS X e t := h

/-! x == y of two things of one class with an own == -/
section
variable {prog : Program} {A : Around} {E : Value → Shared → Prop} {s : Shared} {x y C f : Addr} {ox : Obj} {od : Option Obj}
end
/-! try: body, except x as n: suite, where the error is tracked in the suite too -/
section
variable {X : Cx} {x n : Str} {c : Value} {i : Nat} {body rest : List Stmt} {b1 : Stmt} {np at1 at2 : Pos} {tb : WX → TS} {ts : TS} {Wo : WX}
def endT (D : Ends) (i : Nat) : Ends := { nx := fun r G => D.nx (r.set i none) G, rt := D.rt, bk := fun r G => D.bk (r.set i none) G, ct := fun r G => D.ct (r.set i none) G }
def trX (K : PySem.W.Frag) (c : Value) (i : Nat) (ts : TS) (Wo : WX) (D : Ends) : WX := fun cls d r G =>
  ∃ b, PySem.W.exmOne K cls c = some b ∧ (b = true → ∀ a, G a = none → ts (endT D i) (r.set i (some (.ref a))) (upd G a (exv a cls d))) ∧ (b = false → Wo cls d r G)
theorem inv_in {pq : List (Addr × Obj)} {r : L2.St} {G : Hp} {t : Shared} (J : Inv X pq r G t) (a : Addr) : Inv (X.suite a (X.pn ++ pq)) [] r G t :=
  ⟨J.ok.suite _ _, J.os, J.bare, J.base, J.loc, J.cell, J.free, J.freeC, fun p hp => J.pin p (by rw [List.append_nil] at hp; exact hp), J.hok, J.len⟩
theorem inv_out {pq qq : List (Addr × Obj)} {r : L2.St} {G : Hp} {t : Shared} {a : Addr} (J : Inv (X.suite a (X.pn ++ pq)) qq r G t) (ok : X.Ok) : Inv X pq r G t :=
  ⟨ok, J.os, J.bare, J.base, J.loc, J.cell, J.free, J.freeC, fun p hp => J.pin p (List.mem_append_left _ hp), J.hok, J.len⟩
theorem trk_end {pq : List (Addr × Obj)} {t : Shared} {D : Ends} {a : Addr} {f : Flow} (ok : X.Ok) (hN : X.N.Nodup) (hi : X.N[i]? = some n) (hl : X.env.kindOf n = some .local)
    (S : SP (X.suite a (X.pn ++ pq)) [] (endT D i) f t) :
    wpAny (model X.prog X.w) X.A (do bindName X.env n .none; unbindBehindTheSuite X.env n at2) (fun _ t2 => SP X pq D f t2) X.xe t := by
  cases f with
  | ret u =>
    obtain ⟨v, r, G, S, rv, q⟩ := S
    exact gone_ok (inv_out S ok) hN hi hl fun t2 J => ⟨_, _, _, J, rv, q⟩
  | next =>
    obtain ⟨r, G, S, q⟩ := S
    exact gone_ok (inv_out S ok) hN hi hl fun t2 J => ⟨_, _, J, q⟩
  | brk =>
    obtain ⟨r, G, S, q⟩ := S
    exact gone_ok (inv_out S ok) hN hi hl fun t2 J => ⟨_, _, J, q⟩
  | cont =>
    obtain ⟨r, G, S, q⟩ := S
    exact gone_ok (inv_out S ok) hN hi hl fun t2 J => ⟨_, _, J, q⟩
theorem trk_clause {pq : List (Addr × Obj)} {D : Ends} {a : Addr} {B : Heap} {tI t : Shared} {r : L2.St} {G : Hp} {cls : Value} {d : Option Addr} (hx : X.ex = []) (hs : X.stack = X.env :: X.outer) (hf : X.env.frame = some X.env.locals) (hN : X.N.Nodup) (hi : X.N[i]? = some n) (hl : X.env.kindOf n = some .local)
    (hc : Names X x c) (tk : Takes X Wo) (hsu : ∀ (a : Addr) (pn : List (Addr × Obj)), PSs (X.suite a pn) (b1 :: rest) ts)
    (J : Inv X pq r G tI) (gr : ∀ b o, tI.heap.get? b = some o → b ∉ frs X.stack → B.get? b = some o) (up : tI.heap.UpToSlots t.heap) (fl : HandSPX.FlyingZ B (X.env :: X.outer) a (Zc cls d) t.heap) (na : G a = none) (os : t.os = tI.os) (ag : AllBare t.gens) (wk : trX X.K c i ts Wo D cls d r G) :
    wpAny (model X.prog X.w) X.A (handleBy (.ref a) X.env [.ExceptHandler (some (.Name x np)) (some n) (b1 :: rest) at2]) (SP X pq D) X.xe t := by
  obtain ⟨b, is, yes, no⟩ := wk
  have nw := newAt_of hx hs hf J gr fl
  have I1 : Inv X pq r G t := J.landed gr fl.1 up os ag
  obtain ⟨o1, v1, h1, z1, d1⟩ := fl.there
  have S1 := I1.suite h1 d1 na nw.nl nw.nf
  refine wpAny_handleBy_cons (codeAny_handlers_test ?_) (fun q => nomatch q)
  have lt : PySem.W.Looks (model X.prog X.w) t.heap (typeOf (.ref a)) cls := fun _ _ _ _ k q => wpAny_typeOf_ref (k _ _ h1) (by rw [z1.1]; exact q)
  have lm := PySem.W.exm_one (M := model X.prog X.w) I1.kIn lt is
  have named : ∀ {Q : Value → Shared → Prop} {F : Value → Shared → Prop}, Q c t → wpAny (model X.prog X.w) (X.A.mark (some (.ref a))) (eval (.Name x np) X.env) Q F t := fun {Q F} q => by
    obtain ⟨g, db, m | ⟨m, bv, nn⟩⟩ := hc
    · exact ld_glob (X := X.suite a ((a, o1) :: (X.pn ++ pq))) S1 g m q db
    · exact ld_blt (X := X.suite a ((a, o1) :: (X.pn ++ pq))) S1 g m bv q nn db
  refine named (lm.here ?_)
  cases b with
  | true =>
    refine codeAny_handlers_suite_as (HandSPX.lands_againZ fl fun h2 fl2 up2 => ?_)
    have I2 : Inv X pq r G { t with heap := h2 } := J.landed gr fl2.1 (up.trans up2) os ag
    obtain ⟨o2, v2, e2, z2, d2⟩ := fl2.there
    have I3 : Inv X pq r (upd G a (exv a cls d)) { t with heap := h2 } := inv_track I2 na (exv_ok e2 z2 d2) nw.n0 nw.np nw.nl nw.nc
    refine store_ok (X := X.suite a (X.pn ++ pq)) (v := .ref a) (inv_in I3 a) hN hi (.inl hl) rfl (fun t3 S3 => ?_) (.inr hl)
    exact wpAny_mono ((hsu a (X.pn ++ pq)).run [] t3 _ _ _ S3 (yes rfl a na)) (fun f t4 sp => trk_end J.ok hN hi hl sp) fun _ _ z => z.elim
  | false =>
    show wpAny _ X.A (handleBy (.ref a) X.env []) _ _ _
    refine wpAny_handleBy_nil ?_
    obtain ⟨oe, vs, T, oT, tt, he, hz, hd, hT, _⟩ := fl.2.2.2
    unfold PySem.passOn
    refine wpAny_bind (wpAny_field he hd hT ?_)
    rw [if_neg (show ¬ ((Value.ref T == Value.none) = true) from by simp)]
    have fin : wpAny (model X.prog X.w) X.A (setFlight (.ref a) X.env.frame) (fun _ t4 => wpAny (model X.prog X.w) X.A (throw (.ref a) : Sem Flow) (SP X pq D) X.xe t4) X.xe t := by
      rw [hf]
      exact HandSPX.setFlight_upZ fl fun h4 hh up4 => wpAny_throw (tk _ _ ⟨a, B, tI, pq, r, G, cls, d, rfl, J, gr, up.trans up4, .inr (.inr (by rw [hs]; exact hh)), na, os, ag, no rfl⟩)
    first
      | exact wpAny_bind (wpAny_pure (wpAny_bind fin))
      | exact wpAny_bind fin
theorem ps_try_trk (hx : X.ex = []) (hs : X.stack = X.env :: X.outer) (hf : X.env.frame = some X.env.locals) (hN : X.N.Nodup) (hi : X.N[i]? = some n) (hl : X.env.kindOf n = some .local) (hc : Names X x c) (tk : Takes X Wo)
    (hb : ∀ (W : WX) (pn : List (Addr × Obj)) (xe : Value → Shared → Prop), Takes (X.tr pn xe) W → PassesOwn (model X.prog X.w) X.A X.env xe → PSs (X.tr pn xe) body (tb W))
    (hsu : ∀ (a : Addr) (pn : List (Addr × Obj)), PSs (X.suite a pn) (b1 :: rest) ts) :
    PS X (.Try body [.ExceptHandler (some (.Name x np)) (some n) (b1 :: rest) at2] [] [] at1) (fun D r G => tb (trX X.K c i ts Wo D) D r G) := by
  refine ⟨fun pq s r G D I h => wpAny_Try_except ?_⟩
  have fr : X.A.frames = some (X.env :: X.outer) := by rw [I.ok.frames, hs]
  refine wpAny_mono ((hb (trX X.K c i ts Wo D) (X.pn ++ pq) (fun e t1 => wpAny (model X.prog X.w) X.A (noteFrame e X.env) (fun _ t2 => wpAny (model X.prog X.w) X.A (setFlight e none) (fun _ t3 =>
    wpAny (model X.prog X.w) X.A (handleBy e X.env [.ExceptHandler (some (.Name x np)) (some n) (b1 :: rest) at2]) (SP X pq D) X.xe t3) X.xe t2) X.xe t1) (fun u t z => ?_) PassesOwn.looking).run [] s r G D (I.toTry _) h) (fun f t z => ?_) (fun _ _ z => z)
  · obtain ⟨a, B, tI, _, r', G', cls, d, rfl, J, gr, up, sky, na, os, ag, wk⟩ := z
    refine Sky.land Zc.steady fr hf (by rw [← hs]; exact sky) fun h3 fl up3 => ?_
    exact trk_clause (t := { t with heap := h3 }) hx hs hf hN hi hl hc tk hsu (J.ofTry I.ok) gr (up.trans up3) fl na os ag wk
  · cases f with
    | ret u =>
      obtain ⟨v, r', G', J, rv, q⟩ := z
      exact ⟨v, r', G', J.ofTry I.ok, rv, q⟩
    | next =>
      obtain ⟨r', G', J, q⟩ := z
      exact wpAny_execs_nil ⟨r', G', J.ofTry I.ok, q⟩
    | brk =>
      obtain ⟨r', G', J, q⟩ := z
      exact ⟨r', G', J.ofTry I.ok, q⟩
    | cont =>
      obtain ⟨r', G', J, q⟩ := z
      exact ⟨r', G', J.ofTry I.ok, q⟩
end
def tTryT (K : PySem.W.Frag) (c : Value) (i : Nat) (tb : WX → TS) (ts : TS) (Wo : WX) : TS := fun D r G => tb (trX K c i ts Wo D) D r G
def wTryT3 (K : PySem.W.Frag) (cv : Value) (i : Nat) (wb wsu : WS3) : WS3 := fun ρ μ Φ Ξ => wb ρ μ Φ fun c d ρ1 μ1 => PySem.W.exmOne K (.ref (He.ga K c)) cv = some true ∧ put i (.dat (.err c d)) ρ1 fun ρ2 => wsu ρ2 μ1 ⟨fun ρ3 μ3 => put i .un ρ3 fun ρ4 => Φ.nx ρ4 μ3, Φ.rt, fun ρ3 μ3 => put i .un ρ3 fun ρ4 => Φ.bk ρ4 μ3, fun ρ3 μ3 => put i .un ρ3 fun ρ4 => Φ.ct ρ4 μ3⟩ fun _ _ _ _ => False
theorem Sep3.un {B : Bs} {C H : Hp} {σ : L2.St} {ρ : List Sl} {μ : My} {i : Nat} (S : Sep3 K B C H σ ρ μ) (hb : i = 0 → ∀ n, ρ[i]? ≠ some (.box n)) : Sep3 K B C H (σ.set i none) (ρ.set i .un) μ := by
  obtain ⟨m, e, U, M, S⟩ := S
  exact ⟨m, e, U, M, S.un hb⟩
instance (priority := 45) s3_tryT {W : WX} {cv : Value} {i : Nat} {tb : WX → TS} {ts : TS} {Wo : WX} {wb wsu : WS3} [a : ∀ W, S3 K W (tb W) wb] [su : S3 K (fun _ _ _ _ => False) ts wsu] : S3 K W (tTryT K cv i tb ts Wo) (wTryT3 K cv i wb wsu) where
  run B C H σ ρ μ D Φ Ξ S h m mx := (a _).run B C H σ ρ μ D Φ _ S h m fun C' G σ' ρ' μ' cls dd c d S' ex z =>
    ⟨true, by rw [ex.1]; exact z.1, fun _ b hb => by
      obtain ⟨z1, z2⟩ := z
      obtain ⟨p1, z2⟩ := put_run z2
      obtain ⟨rfl, b2, v, rfl, hb2, rv⟩ := ex
      obtain ⟨S1, sC⟩ := S'.alloc (o := exv b (.ref (He.ga K c)) (some b2)) hb
      have cb : C' b = none := S'.sep.cold.free hb
      have S2 := S1.put (i := i) (v := .ref b) (d := .err c d) p1 (.err upd_same (sC _ _ hb2) (rv.same sC))
      refine su.run B _ _ _ _ _ _ _ _ S2 z2 ⟨fun C1 G1 σ1 ρ1 μ1 S3 y => ?_, fun C1 G1 σ1 ρ1 μ1 v1 r1 ok y => m.rt C1 G1 σ1 ρ1 μ1 v1 r1 ok y, fun C1 G1 σ1 ρ1 μ1 S3 y => ?_, fun C1 G1 σ1 ρ1 μ1 S3 y => ?_⟩ fun _ _ _ _ _ _ _ _ _ _ _ q => q.elim
      · have y : put i .un ρ1 (fun ρ4 => Φ.nx ρ4 μ1) := y
        obtain ⟨p2, y⟩ := put_run y
        exact m.nx _ _ _ _ _ (S3.un p2) y
      · have y : put i .un ρ1 (fun ρ4 => Φ.bk ρ4 μ1) := y
        obtain ⟨p2, y⟩ := put_run y
        exact m.bk _ _ _ _ _ (S3.un p2) y
      · have y : put i .un ρ1 (fun ρ4 => Φ.ct ρ4 μ1) := y
        obtain ⟨p2, y⟩ := put_run y
        exact m.ct _ _ _ _ _ (S3.un p2) y, fun q => nomatch q⟩

/-! isinstance of any thing and a class of one's own -/
class IsA (K : PySem.W.Frag) (c : Str) : Prop where
  cl : Cls K (He.ga K c)
  fs : IsF K (He.ga K c)
  no : isoD K c = true
theorem IsA.of {K : PySem.W.Frag} {c : Str} (i : IsA K c) {s : String} (h : s ∈ IK) : PySem.W.kitOne K (.type s) (.ref (He.ga K c)) = some false := by
  have z := i.no
  unfold isoD at z
  exact eq_of_beq (List.all_eq_true.mp z s h)
def isOb (c : Str) : Dt → Bool
  | .obj c' _ _ => decide (c' = c)
  | _ => false
def obK (c : Str) (d : Dt) (k : Prop) : Prop := match d with
  | .obj c' _ _ => c' = c ∧ k
  | .err _ _ => False
  | .adr _ => False
  | .dic _ _ => False
  | _ => k
def wIsA (c : Str) (wa : WE) : WE := fun ρ Ψ => wa ρ fun r ρ1 => match r.val ρ1 with
  | some d => obK c d (Ψ (.dat (.bl (isOb c d))) ρ1)
  | none => False
theorem isA_run {B : Bs} {C H : Hp} {σ : L2.St} {ρ : List Sl} {c : Str} {v : V} {d : Dt} {k : Prop} (io : IsA K c) (S : Sep K B C H σ ρ) (r : Rt K C H v d) (h : obK c d k) : (∃ t : Value, TyX K H v t ∧ PySem.W.kitOne K t (.ref (He.ga K c)) = some (isOb c d)) ∧ k := by
  cases d with
  | obj c' ns ds =>
    obtain ⟨rfl, h⟩ := h
    rcases r with r | ⟨_, _, _, _, e, _⟩
    · cases r with
      | obj a1 a2 a3 a4 =>
        refine ⟨⟨_, .base (.ins (S.cold _ _ a1) io.cl io.fs.ha io.fs.hn io.fs.ht io.fs.hm), ?_⟩, h⟩
        rw [show isOb c' (.obj c' ns ds) = true from decide_eq_true rfl]
        exact kit_same
    · cases e
  | err _ _ => exact h.elim
  | adr _ => exact h.elim
  | dic _ _ => exact h.elim
  | _ =>
    refine ⟨⟨_, kind_ty S r rfl, ?_⟩, h⟩
    exact io.of (by decide)
instance (priority := 1100) sd_isA {c : Str} {ta : TE} {wa : WE} [io : IsA K c] [a : Sd K ta wa] : Sd K (tCB (rIsi K) (tCons ta (tCons (tC (.ref (He.ga K c))) tNil))) (wIsA c wa) where
  run B C H σ ρ Q Ψ S h k := a.run B C H σ ρ _ _ S h fun C1 H1 v1 r1 ρ1 S1 s1 ok1 h1 => by
    cases q : r1.val ρ1 with
    | none => simp only [q] at h1
    | some d =>
      simp only [q] at h1
      obtain ⟨⟨t, ty, kt⟩, z⟩ := isA_run io S1 (S1.valOf ok1 (Same.refl _) q) h1
      exact ⟨v1, _, t, _, isOb c d, rfl, .own _, ty, kt, k _ _ _ (.dat _) _ S1 s1 (.bl _) z⟩



end
section
variable {P : Program} {w : World} {K : PySem.W.Frag} {mg : Str → Option Value} {base : Heap}
local macro_rules | `(tactic| get_elem_tactic_trivial) => `(tactic| (repeat first | exact Wk.nil | exact Wk'.nil | refine Wk.same ?_ | refine Wk'.same ?_ | refine Wk.un (fun _ z => nomatch z) ?_ | refine Wk'.un ?_))
theorem scIsNumber : FnScope ["thing"] ["thing"] (defScope sIsNumber) := ⟨rfl, rfl, rfl, by decide +kernel, rfl, by decide +kernel, by decide +kernel⟩
theorem scIsWithin : FnScope ["thing", "least", "greatest"] ["thing", "least", "greatest"] (defScope sIsWithin) := ⟨rfl, rfl, rfl, by decide +kernel, rfl, by decide +kernel, by decide +kernel⟩
theorem scCommonDivisor : FnScope ["number", "other"] ["number", "other"] (defScope sCommonDivisor) := ⟨rfl, rfl, rfl, by decide +kernel, rfl, by decide +kernel, by decide +kernel⟩
theorem scMeasure : FnScope ["body"] ["body"] (defScope sMeasure) := ⟨rfl, rfl, rfl, by decide +kernel, rfl, by decide +kernel, by decide +kernel⟩
theorem scIsName : FnScope ["thing", "letter"] ["thing"] (defScope sIsName) := ⟨rfl, rfl, rfl, by decide +kernel, rfl, by decide +kernel, by decide +kernel⟩
theorem scNameNumber : FnScope ["name", "number", "letter"] ["name"] (defScope sNameNumber) := ⟨rfl, rfl, rfl, by decide +kernel, rfl, by decide +kernel, by decide +kernel⟩
theorem scRowNumber : FnScope ["row", "board", "word", "name", "note"] ["row"] (defScope sRowNumber) := ⟨rfl, rfl, rfl, by decide +kernel, rfl, by decide +kernel, by decide +kernel⟩
theorem scIsPlacedBody : FnScope ["thing", "greatest", "number", "name", "body"] ["thing", "greatest"] (defScope sIsPlacedBody) := ⟨rfl, rfl, rfl, by decide +kernel, rfl, by decide +kernel, by decide +kernel⟩
theorem scAreLoads : FnScope ["thing", "load"] ["thing"] (defScope sAreLoads) := ⟨rfl, rfl, rfl, by decide +kernel, rfl, by decide +kernel, by decide +kernel⟩
theorem scAreLies : FnScope ["thing", "loads", "lie", "after"] ["thing", "loads"] (defScope sAreLies) := ⟨rfl, rfl, rfl, by decide +kernel, rfl, by decide +kernel, by decide +kernel⟩
theorem scTrueNotes : FnScope ["hand", "next_hand", "rows", "board", "name", "body"] ["hand", "next_hand"] (defScope sTrueNotes) := ⟨rfl, rfl, rfl, by decide +kernel, rfl, by decide +kernel, by decide +kernel⟩
theorem scIsWidth : FnScope ["thing"] ["thing"] (defScope sIsWidth) := ⟨rfl, rfl, rfl, by decide +kernel, rfl, by decide +kernel, by decide +kernel⟩
theorem scIsFactor : FnScope ["thing", "width"] ["thing", "width"] (defScope sIsFactor) := ⟨rfl, rfl, rfl, by decide +kernel, rfl, by decide +kernel, by decide +kernel⟩
theorem scBehindRow : FnScope ["mixing", "value", "row"] ["mixing", "value", "row"] (defScope sBehindRow) := ⟨rfl, rfl, rfl, by decide +kernel, rfl, by decide +kernel, by decide +kernel⟩
theorem scAreHands : FnScope ["thing", "many", "hand", "boards", "load", "board"] ["thing", "many"] (defScope sAreHands) := ⟨rfl, rfl, rfl, by decide +kernel, rfl, by decide +kernel, by decide +kernel⟩
theorem scLBox : FnScope ["_law_script", "_law_k", "_law_cell"] ["_law_script", "_law_k"] (defScope sLBox) := ⟨rfl, rfl, rfl, by decide +kernel, rfl, by decide +kernel, by decide +kernel⟩
theorem scLTake : FnScope ["_law_box_here", "_law_size", "_law_found", "_law_once"] ["_law_box_here", "_law_size"] (defScope sLTake) := ⟨rfl, rfl, rfl, by decide +kernel, rfl, by decide +kernel, by decide +kernel⟩
theorem scLPick : FnScope ["_law_box_here", "_law_things"] ["_law_box_here", "_law_things"] (defScope sLPick) := ⟨rfl, rfl, rfl, by decide +kernel, rfl, by decide +kernel, by decide +kernel⟩
theorem scLFolded : FnScope ["_law_script", "_law_size", "_law_cells", "_law_k", "_law_cell"] ["_law_script", "_law_size"] (defScope sLFolded) := ⟨rfl, rfl, rfl, by decide +kernel, rfl, by decide +kernel, by decide +kernel⟩
theorem scLNames : FnScope ["_law_box_here", "_law_size", "_law_letters", "_law_begun", "_law_by", "_law_tail", "_law_k", "_law_at"] ["_law_box_here", "_law_size"] (defScope sLNames) := ⟨rfl, rfl, rfl, by decide +kernel, rfl, by decide +kernel, by decide +kernel⟩
theorem scLSame : FnScope ["_law_found", "_law_due", "_law_one", "_law_two"] ["_law_found", "_law_due"] (defScope sLSame) := ⟨rfl, rfl, rfl, by decide +kernel, rfl, by decide +kernel, by decide +kernel⟩
theorem scLNameNumber : FnScope ["_law_name", "_law_found", "_law_sign"] ["_law_name"] (defScope sLNameNumber) := ⟨rfl, rfl, rfl, by decide +kernel, rfl, by decide +kernel, by decide +kernel⟩
theorem scLRowNumber : FnScope ["_law_row", "_law_place"] ["_law_row"] (defScope sLRowNumber) := ⟨rfl, rfl, rfl, by decide +kernel, rfl, by decide +kernel, by decide +kernel⟩
theorem scLMeasure : FnScope ["_law_body"] ["_law_body"] (defScope sLMeasure) := ⟨rfl, rfl, rfl, by decide +kernel, rfl, by decide +kernel, by decide +kernel⟩
theorem scLShares : FnScope ["_law_one", "_law_two", "_law_turn"] ["_law_one", "_law_two"] (defScope sLShares) := ⟨rfl, rfl, rfl, by decide +kernel, rfl, by decide +kernel, by decide +kernel⟩
theorem scLHow : FnScope ["_law_box_here", "_law_way", "_law_width", "_law_by"] ["_law_box_here"] (defScope sLHow) := ⟨rfl, rfl, rfl, by decide +kernel, rfl, by decide +kernel, by decide +kernel⟩
theorem scLMixed : FnScope ["_law_how_here", "_law_value", "_law_row", "_law_number"] ["_law_how_here", "_law_value", "_law_row"] (defScope sLMixed) := ⟨rfl, rfl, rfl, by decide +kernel, rfl, by decide +kernel, by decide +kernel⟩
theorem scLReplay : FnScope ["_law_how_here", "_law_rows", "_law_size", "_law_found", "_law_row"] ["_law_how_here", "_law_rows", "_law_size"] (defScope sLReplay) := ⟨rfl, rfl, rfl, by decide +kernel, rfl, by decide +kernel, by decide +kernel⟩
theorem scLHandRows : FnScope ["_law_hand", "_law_behind", "_law_name", "_law_body", "_law_things", "_law_told_here", "_law_rows", "_law_place", "_law_board", "_law_one", "_law_part", "_law_spot", "_law_other", "_law_own"] ["_law_hand", "_law_behind"] (defScope sLHandRows) := ⟨rfl, rfl, rfl, by decide +kernel, rfl, by decide +kernel, by decide +kernel⟩
theorem scLStartRows : FnScope ["_law_hands_here", "_law_hand", "_law_behind"] ["_law_hands_here"] (defScope sLStartRows) := ⟨rfl, rfl, rfl, by decide +kernel, rfl, by decide +kernel, by decide +kernel⟩
theorem scLHands : FnScope ["_law_box_here", "_law_names_here", "_law_size", "_law_count", "_law_liars", "_law_found", "_law_k", "_law_things", "_law_turn", "_law_part", "_law_told_here"] ["_law_box_here", "_law_names_here", "_law_size", "_law_count", "_law_liars"] (defScope sLHands) := ⟨rfl, rfl, rfl, by decide +kernel, rfl, by decide +kernel, by decide +kernel⟩
theorem scLMadeHand : FnScope ["_law_hand"] ["_law_hand"] (defScope sLMadeHand) := ⟨rfl, rfl, rfl, by decide +kernel, rfl, by decide +kernel, by decide +kernel⟩
theorem scLWorld : FnScope ["_law_box_here", "_law_liars", "_law_names_here", "_law_size", "_law_hands_here", "_law_found"] ["_law_box_here", "_law_liars"] (defScope sLWorld) := ⟨rfl, rfl, rfl, by decide +kernel, rfl, by decide +kernel, by decide +kernel⟩
theorem scLMade : FnScope ["_law_w", "_law_how_here", "_law_hands_here", "_law_hand", "_law_blend"] ["_law_w"] (defScope sLMade) := ⟨rfl, rfl, rfl, by decide +kernel, rfl, by decide +kernel, by decide +kernel⟩
theorem scLFlat : FnScope ["_law_lists", "_law_found", "_law_rows"] ["_law_lists"] (defScope sLFlat) := ⟨rfl, rfl, rfl, by decide +kernel, rfl, by decide +kernel, by decide +kernel⟩
theorem scLStands : FnScope ["_law_machine", "_law_w", "_law_state", "_law_starts", "_law_rows", "_law_told_here"] ["_law_machine", "_law_w", "_law_state", "_law_starts", "_law_rows"] (defScope sLStands) := ⟨rfl, rfl, rfl, by decide +kernel, rfl, by decide +kernel, by decide +kernel⟩
theorem scLTold : FnScope ["_law_name", "_law_key", "_law_hands_here", "_law_size", "_law_caught", "error", "_law_fine"] ["_law_name", "_law_key", "_law_hands_here", "_law_size"] (defScope sLTold) := ⟨rfl, rfl, rfl, by decide +kernel, rfl, by decide +kernel, by decide +kernel⟩
theorem scLTurned : FnScope ["_law_machine", "_law_place", "_law_hand", "_law_caught", "error"] ["_law_machine", "_law_place", "_law_hand"] (defScope sLTurned) := ⟨rfl, rfl, rfl, by decide +kernel, rfl, by decide +kernel, by decide +kernel⟩
theorem scLBadHands : FnScope ["_law_box_here", "_law_w", "_law_good", "_law_hand", "_law_liar", "_law_far", "_law_some", "_law_at"] ["_law_box_here", "_law_w"] (defScope sLBadHands) := ⟨rfl, rfl, rfl, by decide +kernel, rfl, by decide +kernel, by decide +kernel⟩
theorem scLRight : FnScope ["_law_box_here", "_law_w", "_law_good", "_law_bad", "_law_hand", "_law_names_here", "_law_keys", "_law_turn", "_law_way", "_law_name", "_law_key", "_law_hands_here", "_law_due", "_law_machine", "_law_rows", "_law_liar", "_law_far", "_law_asks", "_law_place", "_law_found"] ["_law_box_here"] (defScope sLRight) := ⟨rfl, rfl, rfl, by decide +kernel, rfl, by decide +kernel, by decide +kernel⟩
theorem scLaw : FnScope ["_law_script", "_law_cells", "_law_k"] ["_law_script"] (defScope sLaw) := ⟨rfl, rfl, rfl, by decide +kernel, rfl, by decide +kernel, by decide +kernel⟩
theorem scHandInit : FnScope ["self", "name", "body", "loads", "lies"] ["self", "name", "body", "loads", "lies"] (defScope sHandInit) := ⟨rfl, rfl, rfl, by decide +kernel, rfl, by decide +kernel, by decide +kernel⟩
theorem scHandNotes : FnScope ["self", "next_hand", "rows", "place", "name", "body", "board", "word", "true_name", "true_note"] ["self", "next_hand"] (defScope sHandNotes) := ⟨rfl, rfl, rfl, by decide +kernel, rfl, by decide +kernel, by decide +kernel⟩
theorem scMixingInit : FnScope ["self", "width", "factor"] ["self", "width", "factor"] (defScope sMixingInit) := ⟨rfl, rfl, rfl, by decide +kernel, rfl, by decide +kernel, by decide +kernel⟩
theorem scMixingBegin : FnScope ["self", "reset"] ["self", "reset"] (defScope sMixingBegin) := ⟨rfl, rfl, rfl, by decide +kernel, rfl, by decide +kernel, by decide +kernel⟩
theorem scMixingMixed : FnScope ["self", "value", "row", "more"] ["self", "value", "row"] (defScope sMixingMixed) := ⟨rfl, rfl, rfl, by decide +kernel, rfl, by decide +kernel, by decide +kernel⟩
theorem scMachineInit : FnScope ["self", "name", "key", "hands", "mixing", "many", "fixed"] ["self", "name", "key", "hands", "mixing", "many", "fixed"] (defScope sMachineInit) := ⟨rfl, rfl, rfl, by decide +kernel, rfl, by decide +kernel, by decide +kernel⟩
theorem scMachineClearBoards : FnScope ["self"] ["self"] (defScope sMachineClearBoards) := ⟨rfl, rfl, rfl, by decide +kernel, rfl, by decide +kernel, by decide +kernel⟩
theorem scMachineStart : FnScope ["self"] ["self"] (defScope sMachineStart) := ⟨rfl, rfl, rfl, by decide +kernel, rfl, by decide +kernel, by decide +kernel⟩
theorem scMachineNoteRow : FnScope ["self", "row"] ["self", "row"] (defScope sMachineNoteRow) := ⟨rfl, rfl, rfl, by decide +kernel, rfl, by decide +kernel, by decide +kernel⟩
theorem scMachineRefuseUnless : FnScope ["self", "state"] ["self", "state"] (defScope sMachineRefuseUnless) := ⟨rfl, rfl, rfl, by decide +kernel, rfl, by decide +kernel, by decide +kernel⟩
theorem scMachineStep : FnScope ["self", "hand", "noted", "row"] ["self"] (defScope sMachineStep) := ⟨rfl, rfl, rfl, by decide +kernel, rfl, by decide +kernel, by decide +kernel⟩
theorem scMachineTurn : FnScope ["self", "place", "hand", "hands"] ["self", "place", "hand"] (defScope sMachineTurn) := ⟨rfl, rfl, rfl, by decide +kernel, rfl, by decide +kernel, by decide +kernel⟩
theorem scMachineState : FnScope ["self"] ["self"] (defScope sMachineState) := ⟨rfl, rfl, rfl, by decide +kernel, rfl, by decide +kernel, by decide +kernel⟩
theorem scMachineStarts : FnScope ["self"] ["self"] (defScope sMachineStarts) := ⟨rfl, rfl, rfl, by decide +kernel, rfl, by decide +kernel, by decide +kernel⟩
theorem scMachineLog : FnScope ["self"] ["self"] (defScope sMachineLog) := ⟨rfl, rfl, rfl, by decide +kernel, rfl, by decide +kernel, by decide +kernel⟩
theorem scMachineBoards : FnScope ["self"] ["self"] (defScope sMachineBoards) := ⟨rfl, rfl, rfl, by decide +kernel, rfl, by decide +kernel, by decide +kernel⟩
theorem scStartErrorInit : FnScope ["self", "what"] ["self", "what"] (defScope sStartErrorInit) := ⟨rfl, rfl, rfl, by decide +kernel, rfl, by decide +kernel, by decide +kernel⟩
/-- the names that are the builtins' own -/
structure Bl (mg : Str → Option Value) : Prop where
  b_ValueError : mg "ValueError" = none
  b_repr : mg "repr" = none
  b_len : mg "len" = none
  b_abs : mg "abs" = none
  b_int : mg "int" = none
  b_isinstance : mg "isinstance" = none
  b_list : mg "list" = none
  b_tuple : mg "tuple" = none
  b_str : mg "str" = none
  b_bool : mg "bool" = none
  b_all : mg "all" = none
  b_zip : mg "zip" = none
  b_range : mg "range" = none
  b_max : mg "max" = none
  b_min : mg "min" = none
  b_enumerate : mg "enumerate" = none
  b_divmod : mg "divmod" = none
  b_sorted : mg "sorted" = none
  b_set : mg "set" = none
  b_any : mg "any" = none
/-- what the top has written -/
structure Tx (K : PySem.W.Frag) (mg : Str → Option Value) where
  B : Bl mg
  c_NOTES : ∃ t, mg "NOTES" = some (.int 9973 t)
  c_SPAN : ∃ t, mg "SPAN" = some (.int 26500305465 t)
  c_FACTOR : ∃ t, mg "FACTOR" = some (.int 7919 t)
  c_BOARDS : ∃ t, mg "BOARDS" = some (.int 4 t)
  c_FIXED : ∃ t, mg "FIXED" = some (.int 2 t)
  c_TIMES : ∃ t, mg "TIMES" = some (.int 48271 t)
  c_MORE : ∃ t, mg "MORE" = some (.int 11 t)
  c_LETTERS : ∃ t, mg "LETTERS" = some (.str "abcdefghijklmnopqrstuvwxyz" t)
  c_LONGEST : ∃ t, mg "LONGEST" = some (.int 4 t)
  c_BASE : ∃ t, mg "BASE" = some (.int 27 t)
  c_MOST_BOARDS : ∃ t, mg "MOST_BOARDS" = some (.int 8 t)
  c_GREATEST_BODY : ∃ t, mg "GREATEST_BODY" = some (.int 1000000 t)
  c_MOST_LOADS : ∃ t, mg "MOST_LOADS" = some (.int 3 t)
  c_LEAST_WIDTH : ∃ t, mg "LEAST_WIDTH" = some (.int 3 t)
  c_GREATEST : ∃ t, mg "GREATEST" = some (.int 1000000 t)
  c_GREATEST_KEY : ∃ t, mg "GREATEST_KEY" = some (.int 1000000 t)
  c_MOST_HANDS : ∃ t, mg "MOST_HANDS" = some (.int 6 t)
  fdWall : FuncData
  FWall : FunD K "_wall" "_wall" (defArgs sWall) (defBody sWall) (defScope sWall) [] [] (He.ga K "_wall") fdWall
  gWall : mg "_wall" = some (.ref (He.ga K "_wall"))
  fdIsNumber : FuncData
  FIsNumber : FunD K "is_number" "is_number" (defArgs sIsNumber) (defBody sIsNumber) (defScope sIsNumber) [] [] (He.ga K "is_number") fdIsNumber
  gIsNumber : mg "is_number" = some (.ref (He.ga K "is_number"))
  fdIsWithin : FuncData
  FIsWithin : FunD K "is_within" "is_within" (defArgs sIsWithin) (defBody sIsWithin) (defScope sIsWithin) [] [] (He.ga K "is_within") fdIsWithin
  gIsWithin : mg "is_within" = some (.ref (He.ga K "is_within"))
  fdCommonDivisor : FuncData
  FCommonDivisor : FunD K "common_divisor" "common_divisor" (defArgs sCommonDivisor) (defBody sCommonDivisor) (defScope sCommonDivisor) [] [] (He.ga K "common_divisor") fdCommonDivisor
  gCommonDivisor : mg "common_divisor" = some (.ref (He.ga K "common_divisor"))
  fdMeasure : FuncData
  FMeasure : FunD K "measure" "measure" (defArgs sMeasure) (defBody sMeasure) (defScope sMeasure) [] [] (He.ga K "measure") fdMeasure
  gMeasure : mg "measure" = some (.ref (He.ga K "measure"))
  fdIsName : FuncData
  FIsName : FunD K "is_name" "is_name" (defArgs sIsName) (defBody sIsName) (defScope sIsName) [] [] (He.ga K "is_name") fdIsName
  gIsName : mg "is_name" = some (.ref (He.ga K "is_name"))
  fdNameNumber : FuncData
  FNameNumber : FunD K "name_number" "name_number" (defArgs sNameNumber) (defBody sNameNumber) (defScope sNameNumber) [] [] (He.ga K "name_number") fdNameNumber
  gNameNumber : mg "name_number" = some (.ref (He.ga K "name_number"))
  fdRowNumber : FuncData
  FRowNumber : FunD K "row_number" "row_number" (defArgs sRowNumber) (defBody sRowNumber) (defScope sRowNumber) [] [] (He.ga K "row_number") fdRowNumber
  gRowNumber : mg "row_number" = some (.ref (He.ga K "row_number"))
  fdIsPlacedBody : FuncData
  FIsPlacedBody : FunD K "is_placed_body" "is_placed_body" (defArgs sIsPlacedBody) (defBody sIsPlacedBody) (defScope sIsPlacedBody) [] [] (He.ga K "is_placed_body") fdIsPlacedBody
  gIsPlacedBody : mg "is_placed_body" = some (.ref (He.ga K "is_placed_body"))
  fdAreLoads : FuncData
  FAreLoads : FunD K "are_loads" "are_loads" (defArgs sAreLoads) (defBody sAreLoads) (defScope sAreLoads) [] [] (He.ga K "are_loads") fdAreLoads
  gAreLoads : mg "are_loads" = some (.ref (He.ga K "are_loads"))
  fdAreLies : FuncData
  FAreLies : FunD K "are_lies" "are_lies" (defArgs sAreLies) (defBody sAreLies) (defScope sAreLies) [] [] (He.ga K "are_lies") fdAreLies
  gAreLies : mg "are_lies" = some (.ref (He.ga K "are_lies"))
  fdTrueNotes : FuncData
  FTrueNotes : FunD K "true_notes" "true_notes" (defArgs sTrueNotes) (defBody sTrueNotes) (defScope sTrueNotes) [] [] (He.ga K "true_notes") fdTrueNotes
  gTrueNotes : mg "true_notes" = some (.ref (He.ga K "true_notes"))
  fdIsWidth : FuncData
  FIsWidth : FunD K "is_width" "is_width" (defArgs sIsWidth) (defBody sIsWidth) (defScope sIsWidth) [] [] (He.ga K "is_width") fdIsWidth
  gIsWidth : mg "is_width" = some (.ref (He.ga K "is_width"))
  fdIsFactor : FuncData
  FIsFactor : FunD K "is_factor" "is_factor" (defArgs sIsFactor) (defBody sIsFactor) (defScope sIsFactor) [] [] (He.ga K "is_factor") fdIsFactor
  gIsFactor : mg "is_factor" = some (.ref (He.ga K "is_factor"))
  fdBehindRow : FuncData
  FBehindRow : FunD K "behind_row" "behind_row" (defArgs sBehindRow) (defBody sBehindRow) (defScope sBehindRow) [] [] (He.ga K "behind_row") fdBehindRow
  gBehindRow : mg "behind_row" = some (.ref (He.ga K "behind_row"))
  fdAreHands : FuncData
  FAreHands : FunD K "are_hands" "are_hands" (defArgs sAreHands) (defBody sAreHands) (defScope sAreHands) [] [] (He.ga K "are_hands") fdAreHands
  gAreHands : mg "are_hands" = some (.ref (He.ga K "are_hands"))
  fdLBox : FuncData
  FLBox : FunD K "_law_box" "_law_box" (defArgs sLBox) (defBody sLBox) (defScope sLBox) [] [] (He.ga K "_law_box") fdLBox
  gLBox : mg "_law_box" = some (.ref (He.ga K "_law_box"))
  fdLTake : FuncData
  FLTake : FunD K "_law_take" "_law_take" (defArgs sLTake) (defBody sLTake) (defScope sLTake) [] [] (He.ga K "_law_take") fdLTake
  gLTake : mg "_law_take" = some (.ref (He.ga K "_law_take"))
  fdLPick : FuncData
  FLPick : FunD K "_law_pick" "_law_pick" (defArgs sLPick) (defBody sLPick) (defScope sLPick) [] [] (He.ga K "_law_pick") fdLPick
  gLPick : mg "_law_pick" = some (.ref (He.ga K "_law_pick"))
  fdLFolded : FuncData
  FLFolded : FunD K "_law_folded" "_law_folded" (defArgs sLFolded) (defBody sLFolded) (defScope sLFolded) [] [] (He.ga K "_law_folded") fdLFolded
  gLFolded : mg "_law_folded" = some (.ref (He.ga K "_law_folded"))
  fdLNames : FuncData
  FLNames : FunD K "_law_names" "_law_names" (defArgs sLNames) (defBody sLNames) (defScope sLNames) [] [] (He.ga K "_law_names") fdLNames
  gLNames : mg "_law_names" = some (.ref (He.ga K "_law_names"))
  fdLSame : FuncData
  FLSame : FunD K "_law_same" "_law_same" (defArgs sLSame) (defBody sLSame) (defScope sLSame) [] [] (He.ga K "_law_same") fdLSame
  gLSame : mg "_law_same" = some (.ref (He.ga K "_law_same"))
  fdLNameNumber : FuncData
  FLNameNumber : FunD K "_law_name_number" "_law_name_number" (defArgs sLNameNumber) (defBody sLNameNumber) (defScope sLNameNumber) [] [] (He.ga K "_law_name_number") fdLNameNumber
  gLNameNumber : mg "_law_name_number" = some (.ref (He.ga K "_law_name_number"))
  fdLRowNumber : FuncData
  FLRowNumber : FunD K "_law_row_number" "_law_row_number" (defArgs sLRowNumber) (defBody sLRowNumber) (defScope sLRowNumber) [] [] (He.ga K "_law_row_number") fdLRowNumber
  gLRowNumber : mg "_law_row_number" = some (.ref (He.ga K "_law_row_number"))
  fdLMeasure : FuncData
  FLMeasure : FunD K "_law_measure" "_law_measure" (defArgs sLMeasure) (defBody sLMeasure) (defScope sLMeasure) [] [] (He.ga K "_law_measure") fdLMeasure
  gLMeasure : mg "_law_measure" = some (.ref (He.ga K "_law_measure"))
  fdLShares : FuncData
  FLShares : FunD K "_law_shares" "_law_shares" (defArgs sLShares) (defBody sLShares) (defScope sLShares) [] [] (He.ga K "_law_shares") fdLShares
  gLShares : mg "_law_shares" = some (.ref (He.ga K "_law_shares"))
  fdLHow : FuncData
  FLHow : FunD K "_law_how" "_law_how" (defArgs sLHow) (defBody sLHow) (defScope sLHow) [] [] (He.ga K "_law_how") fdLHow
  gLHow : mg "_law_how" = some (.ref (He.ga K "_law_how"))
  fdLMixed : FuncData
  FLMixed : FunD K "_law_mixed" "_law_mixed" (defArgs sLMixed) (defBody sLMixed) (defScope sLMixed) [] [] (He.ga K "_law_mixed") fdLMixed
  gLMixed : mg "_law_mixed" = some (.ref (He.ga K "_law_mixed"))
  fdLReplay : FuncData
  FLReplay : FunD K "_law_replay" "_law_replay" (defArgs sLReplay) (defBody sLReplay) (defScope sLReplay) [] [] (He.ga K "_law_replay") fdLReplay
  gLReplay : mg "_law_replay" = some (.ref (He.ga K "_law_replay"))
  fdLHandRows : FuncData
  FLHandRows : FunD K "_law_hand_rows" "_law_hand_rows" (defArgs sLHandRows) (defBody sLHandRows) (defScope sLHandRows) [] [] (He.ga K "_law_hand_rows") fdLHandRows
  gLHandRows : mg "_law_hand_rows" = some (.ref (He.ga K "_law_hand_rows"))
  fdLStartRows : FuncData
  FLStartRows : FunD K "_law_start_rows" "_law_start_rows" (defArgs sLStartRows) (defBody sLStartRows) (defScope sLStartRows) [] [] (He.ga K "_law_start_rows") fdLStartRows
  gLStartRows : mg "_law_start_rows" = some (.ref (He.ga K "_law_start_rows"))
  fdLHands : FuncData
  FLHands : FunD K "_law_hands" "_law_hands" (defArgs sLHands) (defBody sLHands) (defScope sLHands) [] [] (He.ga K "_law_hands") fdLHands
  gLHands : mg "_law_hands" = some (.ref (He.ga K "_law_hands"))
  fdLMadeHand : FuncData
  FLMadeHand : FunD K "_law_made_hand" "_law_made_hand" (defArgs sLMadeHand) (defBody sLMadeHand) (defScope sLMadeHand) [] [] (He.ga K "_law_made_hand") fdLMadeHand
  gLMadeHand : mg "_law_made_hand" = some (.ref (He.ga K "_law_made_hand"))
  fdLWorld : FuncData
  FLWorld : FunD K "_law_world" "_law_world" (defArgs sLWorld) (defBody sLWorld) (defScope sLWorld) [] [] (He.ga K "_law_world") fdLWorld
  gLWorld : mg "_law_world" = some (.ref (He.ga K "_law_world"))
  fdLMade : FuncData
  FLMade : FunD K "_law_made" "_law_made" (defArgs sLMade) (defBody sLMade) (defScope sLMade) [] [] (He.ga K "_law_made") fdLMade
  gLMade : mg "_law_made" = some (.ref (He.ga K "_law_made"))
  fdLFlat : FuncData
  FLFlat : FunD K "_law_flat" "_law_flat" (defArgs sLFlat) (defBody sLFlat) (defScope sLFlat) [] [] (He.ga K "_law_flat") fdLFlat
  gLFlat : mg "_law_flat" = some (.ref (He.ga K "_law_flat"))
  fdLStands : FuncData
  FLStands : FunD K "_law_stands" "_law_stands" (defArgs sLStands) (defBody sLStands) (defScope sLStands) [] [] (He.ga K "_law_stands") fdLStands
  gLStands : mg "_law_stands" = some (.ref (He.ga K "_law_stands"))
  fdLTold : FuncData
  FLTold : FunD K "_law_told" "_law_told" (defArgs sLTold) (defBody sLTold) (defScope sLTold) [] [] (He.ga K "_law_told") fdLTold
  gLTold : mg "_law_told" = some (.ref (He.ga K "_law_told"))
  fdLTurned : FuncData
  FLTurned : FunD K "_law_turned" "_law_turned" (defArgs sLTurned) (defBody sLTurned) (defScope sLTurned) [] [] (He.ga K "_law_turned") fdLTurned
  gLTurned : mg "_law_turned" = some (.ref (He.ga K "_law_turned"))
  fdLBadHands : FuncData
  FLBadHands : FunD K "_law_bad_hands" "_law_bad_hands" (defArgs sLBadHands) (defBody sLBadHands) (defScope sLBadHands) [] [] (He.ga K "_law_bad_hands") fdLBadHands
  gLBadHands : mg "_law_bad_hands" = some (.ref (He.ga K "_law_bad_hands"))
  fdLRight : FuncData
  FLRight : FunD K "_law_right" "_law_right" (defArgs sLRight) (defBody sLRight) (defScope sLRight) [] [] (He.ga K "_law_right") fdLRight
  gLRight : mg "_law_right" = some (.ref (He.ga K "_law_right"))
  fdLaw : FuncData
  FLaw : FunD K "law" "law" (defArgs sLaw) (defBody sLaw) (defScope sLaw) [] [] (He.ga K "law") fdLaw
  gLaw : mg "law" = some (.ref (He.ga K "law"))
  tdHandInit_loads : tupA K (kda K ("Hand", some "__init__") "loads") = true
  tdHandInit_lies : tupA K (kda K ("Hand", some "__init__") "lies") = true
  fdHandInit : FuncData
  FHandInit : FunD K "__init__" "Hand.__init__" (defArgs sHandInit) (defBody sHandInit) (defScope sHandInit) [] [("loads", .ref (kda K ("Hand", some "__init__") "loads")), ("lies", .ref (kda K ("Hand", some "__init__") "lies"))] (He.ma K (He.ga K "Hand") "__init__") fdHandInit
  mkHand : Mk K (He.ga K "Hand") (He.ma K (He.ga K "Hand") "__init__")
  fdHandNotes : FuncData
  FHandNotes : FunD K "notes" "Hand.notes" (defArgs sHandNotes) (defBody sHandNotes) (defScope sHandNotes) [] [] (He.ma K (He.ga K "Hand") "notes") fdHandNotes
  mHandNotes : Meth K (He.ga K "Hand") "notes" (He.ma K (He.ga K "Hand") "notes")
  fdHandEq : FuncData
  FHandEq : FunD K "__eq__" "Hand.__eq__" (defArgs sHandEq) (defBody sHandEq) (defScope sHandEq) [] [] (He.ma K (He.ga K "Hand") "__eq__") fdHandEq
  mHandEq : Meth K (He.ga K "Hand") "__eq__" (He.ma K (He.ga K "Hand") "__eq__")
  fdHandStr : FuncData
  FHandStr : FunD K "__str__" "Hand.__str__" (defArgs sHandStr) (defBody sHandStr) (defScope sHandStr) [] [] (He.ma K (He.ga K "Hand") "__str__") fdHandStr
  mHandStr : Meth K (He.ga K "Hand") "__str__" (He.ma K (He.ga K "Hand") "__str__")
  fdMixingInit : FuncData
  FMixingInit : FunD K "__init__" "Mixing.__init__" (defArgs sMixingInit) (defBody sMixingInit) (defScope sMixingInit) [.non] [("factor", .int 7919)] (He.ma K (He.ga K "Mixing") "__init__") fdMixingInit
  mkMixing : Mk K (He.ga K "Mixing") (He.ma K (He.ga K "Mixing") "__init__")
  fdMixingBegin : FuncData
  FMixingBegin : FunD K "begin" "Mixing.begin" (defArgs sMixingBegin) (defBody sMixingBegin) (defScope sMixingBegin) [] [("reset", .bl false)] (He.ma K (He.ga K "Mixing") "begin") fdMixingBegin
  mMixingBegin : Meth K (He.ga K "Mixing") "begin" (He.ma K (He.ga K "Mixing") "begin")
  fdMixingMixed : FuncData
  FMixingMixed : FunD K "mixed" "Mixing.mixed" (defArgs sMixingMixed) (defBody sMixingMixed) (defScope sMixingMixed) [] [] (He.ma K (He.ga K "Mixing") "mixed") fdMixingMixed
  mMixingMixed : Meth K (He.ga K "Mixing") "mixed" (He.ma K (He.ga K "Mixing") "mixed")
  fdMixingEq : FuncData
  FMixingEq : FunD K "__eq__" "Mixing.__eq__" (defArgs sMixingEq) (defBody sMixingEq) (defScope sMixingEq) [] [] (He.ma K (He.ga K "Mixing") "__eq__") fdMixingEq
  mMixingEq : Meth K (He.ga K "Mixing") "__eq__" (He.ma K (He.ga K "Mixing") "__eq__")
  fdMixingRepr : FuncData
  FMixingRepr : FunD K "__repr__" "Mixing.__repr__" (defArgs sMixingRepr) (defBody sMixingRepr) (defScope sMixingRepr) [] [] (He.ma K (He.ga K "Mixing") "__repr__") fdMixingRepr
  mMixingRepr : Meth K (He.ga K "Mixing") "__repr__" (He.ma K (He.ga K "Mixing") "__repr__")
  fdMixingStr : FuncData
  FMixingStr : FunD K "__str__" "Mixing.__str__" (defArgs sMixingStr) (defBody sMixingStr) (defScope sMixingStr) [] [] (He.ma K (He.ga K "Mixing") "__str__") fdMixingStr
  mMixingStr : Meth K (He.ga K "Mixing") "__str__" (He.ma K (He.ga K "Mixing") "__str__")
  fdMachineInit : FuncData
  FMachineInit : FunD K "__init__" "Machine.__init__" (defArgs sMachineInit) (defBody sMachineInit) (defScope sMachineInit) [] [("mixing", .non), ("many", .int 4), ("fixed", .int 2)] (He.ma K (He.ga K "Machine") "__init__") fdMachineInit
  mkMachine : Mk K (He.ga K "Machine") (He.ma K (He.ga K "Machine") "__init__")
  fdMachineClearBoards : FuncData
  FMachineClearBoards : FunD K "clear_boards" "Machine.clear_boards" (defArgs sMachineClearBoards) (defBody sMachineClearBoards) (defScope sMachineClearBoards) [] [] (He.ma K (He.ga K "Machine") "clear_boards") fdMachineClearBoards
  mMachineClearBoards : Meth K (He.ga K "Machine") "clear_boards" (He.ma K (He.ga K "Machine") "clear_boards")
  fdMachineStart : FuncData
  FMachineStart : FunD K "start" "Machine.start" (defArgs sMachineStart) (defBody sMachineStart) (defScope sMachineStart) [] [] (He.ma K (He.ga K "Machine") "start") fdMachineStart
  mMachineStart : Meth K (He.ga K "Machine") "start" (He.ma K (He.ga K "Machine") "start")
  fdMachineNoteRow : FuncData
  FMachineNoteRow : FunD K "note_row" "Machine.note_row" (defArgs sMachineNoteRow) (defBody sMachineNoteRow) (defScope sMachineNoteRow) [] [] (He.ma K (He.ga K "Machine") "note_row") fdMachineNoteRow
  mMachineNoteRow : Meth K (He.ga K "Machine") "note_row" (He.ma K (He.ga K "Machine") "note_row")
  fdMachineRefuseUnless : FuncData
  FMachineRefuseUnless : FunD K "refuse_unless" "Machine.refuse_unless" (defArgs sMachineRefuseUnless) (defBody sMachineRefuseUnless) (defScope sMachineRefuseUnless) [] [] (He.ma K (He.ga K "Machine") "refuse_unless") fdMachineRefuseUnless
  mMachineRefuseUnless : Meth K (He.ga K "Machine") "refuse_unless" (He.ma K (He.ga K "Machine") "refuse_unless")
  fdMachineRefuseUnlessBoard : FuncData
  FMachineRefuseUnlessBoard : FunD K "refuse_unless_board" "Machine.refuse_unless_board" (defArgs sMachineRefuseUnlessBoard) (defBody sMachineRefuseUnlessBoard) (defScope sMachineRefuseUnlessBoard) [] [] (He.ma K (He.ga K "Machine") "refuse_unless_board") fdMachineRefuseUnlessBoard
  mMachineRefuseUnlessBoard : Meth K (He.ga K "Machine") "refuse_unless_board" (He.ma K (He.ga K "Machine") "refuse_unless_board")
  fdMachineStep : FuncData
  FMachineStep : FunD K "step" "Machine.step" (defArgs sMachineStep) (defBody sMachineStep) (defScope sMachineStep) [] [] (He.ma K (He.ga K "Machine") "step") fdMachineStep
  mMachineStep : Meth K (He.ga K "Machine") "step" (He.ma K (He.ga K "Machine") "step")
  fdMachineLate : FuncData
  FMachineLate : FunD K "late" "Machine.late" (defArgs sMachineLate) (defBody sMachineLate) (defScope sMachineLate) [] [] (He.ma K (He.ga K "Machine") "late") fdMachineLate
  mMachineLate : Meth K (He.ga K "Machine") "late" (He.ma K (He.ga K "Machine") "late")
  fdMachineReset : FuncData
  FMachineReset : FunD K "reset" "Machine.reset" (defArgs sMachineReset) (defBody sMachineReset) (defScope sMachineReset) [] [] (He.ma K (He.ga K "Machine") "reset") fdMachineReset
  mMachineReset : Meth K (He.ga K "Machine") "reset" (He.ma K (He.ga K "Machine") "reset")
  fdMachineTurn : FuncData
  FMachineTurn : FunD K "turn" "Machine.turn" (defArgs sMachineTurn) (defBody sMachineTurn) (defScope sMachineTurn) [] [] (He.ma K (He.ga K "Machine") "turn") fdMachineTurn
  mMachineTurn : Meth K (He.ga K "Machine") "turn" (He.ma K (He.ga K "Machine") "turn")
  fdMachineState : FuncData
  FMachineState : FunD K "state" "Machine.state" (defArgs sMachineState) (defBody sMachineState) (defScope sMachineState) [] [] (He.ma K (He.ga K "Machine") "state") fdMachineState
  mMachineState : Meth K (He.ga K "Machine") "state" (He.ma K (He.ga K "Machine") "state")
  fdMachineStarts : FuncData
  FMachineStarts : FunD K "starts" "Machine.starts" (defArgs sMachineStarts) (defBody sMachineStarts) (defScope sMachineStarts) [] [] (He.ma K (He.ga K "Machine") "starts") fdMachineStarts
  mMachineStarts : Meth K (He.ga K "Machine") "starts" (He.ma K (He.ga K "Machine") "starts")
  fdMachineLog : FuncData
  FMachineLog : FunD K "log" "Machine.log" (defArgs sMachineLog) (defBody sMachineLog) (defScope sMachineLog) [] [] (He.ma K (He.ga K "Machine") "log") fdMachineLog
  mMachineLog : Meth K (He.ga K "Machine") "log" (He.ma K (He.ga K "Machine") "log")
  fdMachineBoards : FuncData
  FMachineBoards : FunD K "boards" "Machine.boards" (defArgs sMachineBoards) (defBody sMachineBoards) (defScope sMachineBoards) [] [] (He.ma K (He.ga K "Machine") "boards") fdMachineBoards
  mMachineBoards : Meth K (He.ga K "Machine") "boards" (He.ma K (He.ga K "Machine") "boards")
  fdStartErrorInit : FuncData
  FStartErrorInit : FunD K "__init__" "StartError.__init__" (defArgs sStartErrorInit) (defBody sStartErrorInit) (defScope sStartErrorInit) [] [] (He.ma K (He.ga K "StartError") "__init__") fdStartErrorInit
  clHand : Cls K (He.ga K "Hand")
  gHand : mg "Hand" = some (.ref (He.ga K "Hand"))
  nHand_name : NoAttr K (He.ga K "Hand") "name"
  nHand_body : NoAttr K (He.ga K "Hand") "body"
  nHand_loads : NoAttr K (He.ga K "Hand") "loads"
  nHand_lies : NoAttr K (He.ga K "Hand") "lies"
  is_Hand : IsF K (He.ga K "Hand")
  io_Hand : isoD K "Hand" = true
  clMixing : Cls K (He.ga K "Mixing")
  gMixing : mg "Mixing" = some (.ref (He.ga K "Mixing"))
  nMixing_width : NoAttr K (He.ga K "Mixing") "width"
  nMixing_factor : NoAttr K (He.ga K "Mixing") "factor"
  is_Mixing : IsF K (He.ga K "Mixing")
  io_Mixing : isoD K "Mixing" = true
  clMachine : Cls K (He.ga K "Machine")
  gMachine : mg "Machine" = some (.ref (He.ga K "Machine"))
  nMachine_name : NoAttr K (He.ga K "Machine") "name"
  nMachine_key : NoAttr K (He.ga K "Machine") "key"
  nMachine_mixing : NoAttr K (He.ga K "Machine") "mixing"
  nMachine_many : NoAttr K (He.ga K "Machine") "many"
  nMachine_fixed : NoAttr K (He.ga K "Machine") "fixed"
  nMachine_hands : NoAttr K (He.ga K "Machine") "hands"
  nMachine_working : NoAttr K (He.ga K "Machine") "working"
  nMachine_place : NoAttr K (He.ga K "Machine") "place"
  nMachine_times : NoAttr K (He.ga K "Machine") "times"
  nMachine_numbers : NoAttr K (He.ga K "Machine") "numbers"
  nMachine_rows : NoAttr K (He.ga K "Machine") "rows"
  gStartError : mg "StartError" = some (.ref (He.ga K "StartError"))
  gBadMixing : mg "BadMixing" = some (.ref (He.ga K "BadMixing"))
  gNoBoard : mg "NoBoard" = some (.ref (He.ga K "NoBoard"))
  gBadHand : mg "BadHand" = some (.ref (He.ga K "BadHand"))
  gBadMachine : mg "BadMachine" = some (.ref (He.ga K "BadMachine"))
  gNotYet : mg "NotYet" = some (.ref (He.ga K "NotYet"))
  gFixed : mg "Fixed" = some (.ref (He.ga K "Fixed"))
  er : errOk K "StartError" ERRS = true
  c_WORDS : mg "WORDS" = some (.ref (He.ga K "WORDS"))
  t_WORDS : tupD K "WORDS" [.str "load", .str "set", .str "end", .str "late", .str "reset"] = true
theorem Tx.bIsNumber {K : PySem.W.Frag} {mg : Str → Option Value} (T : Tx K mg) : Binds K T.fdIsNumber ["thing"] [] := T.FIsNumber.bindsN fun _ _ _ _ _ _ us hl => match us, hl with | [_], _ => rfl
theorem Tx.bIsWithin {K : PySem.W.Frag} {mg : Str → Option Value} (T : Tx K mg) : Binds K T.fdIsWithin ["thing", "least", "greatest"] [] := T.FIsWithin.bindsN fun _ _ _ _ _ _ us hl => match us, hl with | [_, _, _], _ => rfl
theorem Tx.bCommonDivisor {K : PySem.W.Frag} {mg : Str → Option Value} (T : Tx K mg) : Binds K T.fdCommonDivisor ["number", "other"] [] := T.FCommonDivisor.bindsN fun _ _ _ _ _ _ us hl => match us, hl with | [_, _], _ => rfl
theorem Tx.bMeasure {K : PySem.W.Frag} {mg : Str → Option Value} (T : Tx K mg) : Binds K T.fdMeasure ["body"] [] := T.FMeasure.bindsN fun _ _ _ _ _ _ us hl => match us, hl with | [_], _ => rfl
theorem Tx.bIsName {K : PySem.W.Frag} {mg : Str → Option Value} (T : Tx K mg) : Binds K T.fdIsName ["thing"] [] := T.FIsName.bindsN fun _ _ _ _ _ _ us hl => match us, hl with | [_], _ => rfl
theorem Tx.bNameNumber {K : PySem.W.Frag} {mg : Str → Option Value} (T : Tx K mg) : Binds K T.fdNameNumber ["name"] [] := T.FNameNumber.bindsN fun _ _ _ _ _ _ us hl => match us, hl with | [_], _ => rfl
theorem Tx.bRowNumber {K : PySem.W.Frag} {mg : Str → Option Value} (T : Tx K mg) : Binds K T.fdRowNumber ["row"] [] := T.FRowNumber.bindsN fun _ _ _ _ _ _ us hl => match us, hl with | [_], _ => rfl
theorem Tx.bIsPlacedBody {K : PySem.W.Frag} {mg : Str → Option Value} (T : Tx K mg) : Binds K T.fdIsPlacedBody ["thing", "greatest"] [] := T.FIsPlacedBody.bindsN fun _ _ _ _ _ _ us hl => match us, hl with | [_, _], _ => rfl
theorem Tx.bAreLoads {K : PySem.W.Frag} {mg : Str → Option Value} (T : Tx K mg) : Binds K T.fdAreLoads ["thing"] [] := T.FAreLoads.bindsN fun _ _ _ _ _ _ us hl => match us, hl with | [_], _ => rfl
theorem Tx.bAreLies {K : PySem.W.Frag} {mg : Str → Option Value} (T : Tx K mg) : Binds K T.fdAreLies ["thing", "loads"] [] := T.FAreLies.bindsN fun _ _ _ _ _ _ us hl => match us, hl with | [_, _], _ => rfl
theorem Tx.bTrueNotes {K : PySem.W.Frag} {mg : Str → Option Value} (T : Tx K mg) : Binds K T.fdTrueNotes ["hand", "next_hand"] [] := T.FTrueNotes.bindsN fun _ _ _ _ _ _ us hl => match us, hl with | [_, _], _ => rfl
theorem Tx.bIsWidth {K : PySem.W.Frag} {mg : Str → Option Value} (T : Tx K mg) : Binds K T.fdIsWidth ["thing"] [] := T.FIsWidth.bindsN fun _ _ _ _ _ _ us hl => match us, hl with | [_], _ => rfl
theorem Tx.bIsFactor {K : PySem.W.Frag} {mg : Str → Option Value} (T : Tx K mg) : Binds K T.fdIsFactor ["thing", "width"] [] := T.FIsFactor.bindsN fun _ _ _ _ _ _ us hl => match us, hl with | [_, _], _ => rfl
theorem Tx.bBehindRow {K : PySem.W.Frag} {mg : Str → Option Value} (T : Tx K mg) : Binds K T.fdBehindRow ["mixing", "value", "row"] [] := T.FBehindRow.bindsN fun _ _ _ _ _ _ us hl => match us, hl with | [_, _, _], _ => rfl
theorem Tx.bAreHands {K : PySem.W.Frag} {mg : Str → Option Value} (T : Tx K mg) : Binds K T.fdAreHands ["thing", "many"] [] := T.FAreHands.bindsN fun _ _ _ _ _ _ us hl => match us, hl with | [_, _], _ => rfl
theorem Tx.bLBox {K : PySem.W.Frag} {mg : Str → Option Value} (T : Tx K mg) : Binds K T.fdLBox ["_law_script", "_law_k"] [] := T.FLBox.bindsN fun _ _ _ _ _ _ us hl => match us, hl with | [_, _], _ => rfl
theorem Tx.bLTake {K : PySem.W.Frag} {mg : Str → Option Value} (T : Tx K mg) : Binds K T.fdLTake ["_law_box_here", "_law_size"] [] := T.FLTake.bindsN fun _ _ _ _ _ _ us hl => match us, hl with | [_, _], _ => rfl
theorem Tx.bLPick {K : PySem.W.Frag} {mg : Str → Option Value} (T : Tx K mg) : Binds K T.fdLPick ["_law_box_here", "_law_things"] [] := T.FLPick.bindsN fun _ _ _ _ _ _ us hl => match us, hl with | [_, _], _ => rfl
theorem Tx.bLFolded {K : PySem.W.Frag} {mg : Str → Option Value} (T : Tx K mg) : Binds K T.fdLFolded ["_law_script", "_law_size"] [] := T.FLFolded.bindsN fun _ _ _ _ _ _ us hl => match us, hl with | [_, _], _ => rfl
theorem Tx.bLNames {K : PySem.W.Frag} {mg : Str → Option Value} (T : Tx K mg) : Binds K T.fdLNames ["_law_box_here", "_law_size"] [] := T.FLNames.bindsN fun _ _ _ _ _ _ us hl => match us, hl with | [_, _], _ => rfl
theorem Tx.bLSame {K : PySem.W.Frag} {mg : Str → Option Value} (T : Tx K mg) : Binds K T.fdLSame ["_law_found", "_law_due"] [] := T.FLSame.bindsN fun _ _ _ _ _ _ us hl => match us, hl with | [_, _], _ => rfl
theorem Tx.bLNameNumber {K : PySem.W.Frag} {mg : Str → Option Value} (T : Tx K mg) : Binds K T.fdLNameNumber ["_law_name"] [] := T.FLNameNumber.bindsN fun _ _ _ _ _ _ us hl => match us, hl with | [_], _ => rfl
theorem Tx.bLRowNumber {K : PySem.W.Frag} {mg : Str → Option Value} (T : Tx K mg) : Binds K T.fdLRowNumber ["_law_row"] [] := T.FLRowNumber.bindsN fun _ _ _ _ _ _ us hl => match us, hl with | [_], _ => rfl
theorem Tx.bLMeasure {K : PySem.W.Frag} {mg : Str → Option Value} (T : Tx K mg) : Binds K T.fdLMeasure ["_law_body"] [] := T.FLMeasure.bindsN fun _ _ _ _ _ _ us hl => match us, hl with | [_], _ => rfl
theorem Tx.bLShares {K : PySem.W.Frag} {mg : Str → Option Value} (T : Tx K mg) : Binds K T.fdLShares ["_law_one", "_law_two"] [] := T.FLShares.bindsN fun _ _ _ _ _ _ us hl => match us, hl with | [_, _], _ => rfl
theorem Tx.bLHow {K : PySem.W.Frag} {mg : Str → Option Value} (T : Tx K mg) : Binds K T.fdLHow ["_law_box_here"] [] := T.FLHow.bindsN fun _ _ _ _ _ _ us hl => match us, hl with | [_], _ => rfl
theorem Tx.bLMixed {K : PySem.W.Frag} {mg : Str → Option Value} (T : Tx K mg) : Binds K T.fdLMixed ["_law_how_here", "_law_value", "_law_row"] [] := T.FLMixed.bindsN fun _ _ _ _ _ _ us hl => match us, hl with | [_, _, _], _ => rfl
theorem Tx.bLReplay {K : PySem.W.Frag} {mg : Str → Option Value} (T : Tx K mg) : Binds K T.fdLReplay ["_law_how_here", "_law_rows", "_law_size"] [] := T.FLReplay.bindsN fun _ _ _ _ _ _ us hl => match us, hl with | [_, _, _], _ => rfl
theorem Tx.bLHandRows {K : PySem.W.Frag} {mg : Str → Option Value} (T : Tx K mg) : Binds K T.fdLHandRows ["_law_hand", "_law_behind"] [] := T.FLHandRows.bindsN fun _ _ _ _ _ _ us hl => match us, hl with | [_, _], _ => rfl
theorem Tx.bLStartRows {K : PySem.W.Frag} {mg : Str → Option Value} (T : Tx K mg) : Binds K T.fdLStartRows ["_law_hands_here"] [] := T.FLStartRows.bindsN fun _ _ _ _ _ _ us hl => match us, hl with | [_], _ => rfl
theorem Tx.bLHands {K : PySem.W.Frag} {mg : Str → Option Value} (T : Tx K mg) : Binds K T.fdLHands ["_law_box_here", "_law_names_here", "_law_size", "_law_count", "_law_liars"] [] := T.FLHands.bindsN fun _ _ _ _ _ _ us hl => match us, hl with | [_, _, _, _, _], _ => rfl
theorem Tx.bLMadeHand {K : PySem.W.Frag} {mg : Str → Option Value} (T : Tx K mg) : Binds K T.fdLMadeHand ["_law_hand"] [] := T.FLMadeHand.bindsN fun _ _ _ _ _ _ us hl => match us, hl with | [_], _ => rfl
theorem Tx.bLWorld {K : PySem.W.Frag} {mg : Str → Option Value} (T : Tx K mg) : Binds K T.fdLWorld ["_law_box_here", "_law_liars"] [] := T.FLWorld.bindsN fun _ _ _ _ _ _ us hl => match us, hl with | [_, _], _ => rfl
theorem Tx.bLMade {K : PySem.W.Frag} {mg : Str → Option Value} (T : Tx K mg) : Binds K T.fdLMade ["_law_w"] [] := T.FLMade.bindsN fun _ _ _ _ _ _ us hl => match us, hl with | [_], _ => rfl
theorem Tx.bLFlat {K : PySem.W.Frag} {mg : Str → Option Value} (T : Tx K mg) : Binds K T.fdLFlat ["_law_lists"] [] := T.FLFlat.bindsN fun _ _ _ _ _ _ us hl => match us, hl with | [_], _ => rfl
theorem Tx.bLStands {K : PySem.W.Frag} {mg : Str → Option Value} (T : Tx K mg) : Binds K T.fdLStands ["_law_machine", "_law_w", "_law_state", "_law_starts", "_law_rows"] [] := T.FLStands.bindsN fun _ _ _ _ _ _ us hl => match us, hl with | [_, _, _, _, _], _ => rfl
theorem Tx.bLTold {K : PySem.W.Frag} {mg : Str → Option Value} (T : Tx K mg) : Binds K T.fdLTold ["_law_name", "_law_key", "_law_hands_here", "_law_size"] [] := T.FLTold.bindsN fun _ _ _ _ _ _ us hl => match us, hl with | [_, _, _, _], _ => rfl
theorem Tx.bLTurned {K : PySem.W.Frag} {mg : Str → Option Value} (T : Tx K mg) : Binds K T.fdLTurned ["_law_machine", "_law_place", "_law_hand"] [] := T.FLTurned.bindsN fun _ _ _ _ _ _ us hl => match us, hl with | [_, _, _], _ => rfl
theorem Tx.bLBadHands {K : PySem.W.Frag} {mg : Str → Option Value} (T : Tx K mg) : Binds K T.fdLBadHands ["_law_box_here", "_law_w"] [] := T.FLBadHands.bindsN fun _ _ _ _ _ _ us hl => match us, hl with | [_, _], _ => rfl
theorem Tx.bLRight {K : PySem.W.Frag} {mg : Str → Option Value} (T : Tx K mg) : Binds K T.fdLRight ["_law_box_here"] [] := T.FLRight.bindsN fun _ _ _ _ _ _ us hl => match us, hl with | [_], _ => rfl
theorem Tx.bHandNotes {K : PySem.W.Frag} {mg : Str → Option Value} (T : Tx K mg) : Binds K T.fdHandNotes ["self", "next_hand"] [] := T.FHandNotes.bindsN fun _ _ _ _ _ _ us hl => match us, hl with | [_, _], _ => rfl
theorem Tx.bMixingMixed {K : PySem.W.Frag} {mg : Str → Option Value} (T : Tx K mg) : Binds K T.fdMixingMixed ["self", "value", "row"] [] := T.FMixingMixed.bindsN fun _ _ _ _ _ _ us hl => match us, hl with | [_, _, _], _ => rfl
theorem Tx.bMachineClearBoards {K : PySem.W.Frag} {mg : Str → Option Value} (T : Tx K mg) : Binds K T.fdMachineClearBoards ["self"] [] := T.FMachineClearBoards.bindsN fun _ _ _ _ _ _ us hl => match us, hl with | [_], _ => rfl
theorem Tx.bMachineStart {K : PySem.W.Frag} {mg : Str → Option Value} (T : Tx K mg) : Binds K T.fdMachineStart ["self"] [] := T.FMachineStart.bindsN fun _ _ _ _ _ _ us hl => match us, hl with | [_], _ => rfl
theorem Tx.bMachineNoteRow {K : PySem.W.Frag} {mg : Str → Option Value} (T : Tx K mg) : Binds K T.fdMachineNoteRow ["self", "row"] [] := T.FMachineNoteRow.bindsN fun _ _ _ _ _ _ us hl => match us, hl with | [_, _], _ => rfl
theorem Tx.bMachineRefuseUnless {K : PySem.W.Frag} {mg : Str → Option Value} (T : Tx K mg) : Binds K T.fdMachineRefuseUnless ["self", "state"] [] := T.FMachineRefuseUnless.bindsN fun _ _ _ _ _ _ us hl => match us, hl with | [_, _], _ => rfl
theorem Tx.bMachineStep {K : PySem.W.Frag} {mg : Str → Option Value} (T : Tx K mg) : Binds K T.fdMachineStep ["self"] [] := T.FMachineStep.bindsN fun _ _ _ _ _ _ us hl => match us, hl with | [_], _ => rfl
theorem Tx.bMachineTurn {K : PySem.W.Frag} {mg : Str → Option Value} (T : Tx K mg) : Binds K T.fdMachineTurn ["self", "place", "hand"] [] := T.FMachineTurn.bindsN fun _ _ _ _ _ _ us hl => match us, hl with | [_, _, _], _ => rfl
theorem Tx.bMachineState {K : PySem.W.Frag} {mg : Str → Option Value} (T : Tx K mg) : Binds K T.fdMachineState ["self"] [] := T.FMachineState.bindsN fun _ _ _ _ _ _ us hl => match us, hl with | [_], _ => rfl
theorem Tx.bMachineStarts {K : PySem.W.Frag} {mg : Str → Option Value} (T : Tx K mg) : Binds K T.fdMachineStarts ["self"] [] := T.FMachineStarts.bindsN fun _ _ _ _ _ _ us hl => match us, hl with | [_], _ => rfl
theorem Tx.bMachineLog {K : PySem.W.Frag} {mg : Str → Option Value} (T : Tx K mg) : Binds K T.fdMachineLog ["self"] [] := T.FMachineLog.bindsN fun _ _ _ _ _ _ us hl => match us, hl with | [_], _ => rfl
theorem Tx.bMachineBoards {K : PySem.W.Frag} {mg : Str → Option Value} (T : Tx K mg) : Binds K T.fdMachineBoards ["self"] [] := T.FMachineBoards.bindsN fun _ _ _ _ _ _ us hl => match us, hl with | [_], _ => rfl
theorem Tx.bStartErrorInit {K : PySem.W.Frag} {mg : Str → Option Value} (T : Tx K mg) : Binds K T.fdStartErrorInit ["self", "what"] [] := T.FStartErrorInit.bindsN fun _ _ _ _ _ _ us hl => match us, hl with | [_, _], _ => rfl



end
section
variable {P : Program} {w : World} {K : PySem.W.Frag} {mg : Str → Option Value} {base : Heap}
local macro_rules | `(tactic| get_elem_tactic_trivial) => `(tactic| (repeat first | exact Wk.nil | exact Wk'.nil | refine Wk.same ?_ | refine Wk'.same ?_ | refine Wk.un (fun _ z => nomatch z) ?_ | refine Wk'.un ?_))
theorem hob_eq (s : PySem.W.SharedT) : hob s = hk.obs s.abs := obsE_eq (HandSHeadRun.getT_eq s)
theorem tx_of {K : PySem.W.Frag} {h : Heap} {mg : Str → Option Value} (X : K.In h) (G : h.Ns mainGlobals mg) (c : He.SaysD hfa hfn K) (cx : hex K = true) : ∃ T : Tx K mg, True := by
  obtain ⟨f0, F0⟩ := c.def_ 0 (d := ddWall) rfl
  obtain ⟨f1, F1⟩ := c.def_ 1 (d := ddIsNumber) rfl
  obtain ⟨f2, F2⟩ := c.def_ 2 (d := ddIsWithin) rfl
  obtain ⟨f3, F3⟩ := c.def_ 3 (d := ddCommonDivisor) rfl
  obtain ⟨f4, F4⟩ := c.def_ 4 (d := ddMeasure) rfl
  obtain ⟨f5, F5⟩ := c.def_ 5 (d := ddIsName) rfl
  obtain ⟨f6, F6⟩ := c.def_ 6 (d := ddNameNumber) rfl
  obtain ⟨f7, F7⟩ := c.def_ 7 (d := ddRowNumber) rfl
  obtain ⟨f8, F8⟩ := c.def_ 8 (d := ddIsPlacedBody) rfl
  obtain ⟨f9, F9⟩ := c.def_ 9 (d := ddAreLoads) rfl
  obtain ⟨f10, F10⟩ := c.def_ 10 (d := ddAreLies) rfl
  obtain ⟨f11, F11⟩ := c.def_ 11 (d := ddTrueNotes) rfl
  obtain ⟨f12, F12⟩ := c.def_ 12 (d := ddIsWidth) rfl
  obtain ⟨f13, F13⟩ := c.def_ 13 (d := ddIsFactor) rfl
  obtain ⟨f14, F14⟩ := c.def_ 14 (d := ddBehindRow) rfl
  obtain ⟨f15, F15⟩ := c.def_ 15 (d := ddAreHands) rfl
  obtain ⟨f16, F16⟩ := c.def_ 16 (d := ddLBox) rfl
  obtain ⟨f17, F17⟩ := c.def_ 17 (d := ddLTake) rfl
  obtain ⟨f18, F18⟩ := c.def_ 18 (d := ddLPick) rfl
  obtain ⟨f19, F19⟩ := c.def_ 19 (d := ddLFolded) rfl
  obtain ⟨f20, F20⟩ := c.def_ 20 (d := ddLNames) rfl
  obtain ⟨f21, F21⟩ := c.def_ 21 (d := ddLSame) rfl
  obtain ⟨f22, F22⟩ := c.def_ 22 (d := ddLNameNumber) rfl
  obtain ⟨f23, F23⟩ := c.def_ 23 (d := ddLRowNumber) rfl
  obtain ⟨f24, F24⟩ := c.def_ 24 (d := ddLMeasure) rfl
  obtain ⟨f25, F25⟩ := c.def_ 25 (d := ddLShares) rfl
  obtain ⟨f26, F26⟩ := c.def_ 26 (d := ddLHow) rfl
  obtain ⟨f27, F27⟩ := c.def_ 27 (d := ddLMixed) rfl
  obtain ⟨f28, F28⟩ := c.def_ 28 (d := ddLReplay) rfl
  obtain ⟨f29, F29⟩ := c.def_ 29 (d := ddLHandRows) rfl
  obtain ⟨f30, F30⟩ := c.def_ 30 (d := ddLStartRows) rfl
  obtain ⟨f31, F31⟩ := c.def_ 31 (d := ddLHands) rfl
  obtain ⟨f32, F32⟩ := c.def_ 32 (d := ddLMadeHand) rfl
  obtain ⟨f33, F33⟩ := c.def_ 33 (d := ddLWorld) rfl
  obtain ⟨f34, F34⟩ := c.def_ 34 (d := ddLMade) rfl
  obtain ⟨f35, F35⟩ := c.def_ 35 (d := ddLFlat) rfl
  obtain ⟨f36, F36⟩ := c.def_ 36 (d := ddLStands) rfl
  obtain ⟨f37, F37⟩ := c.def_ 37 (d := ddLTold) rfl
  obtain ⟨f38, F38⟩ := c.def_ 38 (d := ddLTurned) rfl
  obtain ⟨f39, F39⟩ := c.def_ 39 (d := ddLBadHands) rfl
  obtain ⟨f40, F40⟩ := c.def_ 40 (d := ddLRight) rfl
  obtain ⟨f41, F41⟩ := c.def_ 41 (d := ddLaw) rfl
  obtain ⟨f42, F42⟩ := c.def_ 42 (d := ddHandInit) rfl
  obtain ⟨f43, F43⟩ := c.def_ 43 (d := ddHandNotes) rfl
  obtain ⟨f44, F44⟩ := c.def_ 44 (d := ddHandEq) rfl
  obtain ⟨f45, F45⟩ := c.def_ 45 (d := ddHandStr) rfl
  obtain ⟨f46, F46⟩ := c.def_ 46 (d := ddMixingInit) rfl
  obtain ⟨f47, F47⟩ := c.def_ 47 (d := ddMixingBegin) rfl
  obtain ⟨f48, F48⟩ := c.def_ 48 (d := ddMixingMixed) rfl
  obtain ⟨f49, F49⟩ := c.def_ 49 (d := ddMixingEq) rfl
  obtain ⟨f50, F50⟩ := c.def_ 50 (d := ddMixingRepr) rfl
  obtain ⟨f51, F51⟩ := c.def_ 51 (d := ddMixingStr) rfl
  obtain ⟨f52, F52⟩ := c.def_ 52 (d := ddMachineInit) rfl
  obtain ⟨f53, F53⟩ := c.def_ 53 (d := ddMachineClearBoards) rfl
  obtain ⟨f54, F54⟩ := c.def_ 54 (d := ddMachineStart) rfl
  obtain ⟨f55, F55⟩ := c.def_ 55 (d := ddMachineNoteRow) rfl
  obtain ⟨f56, F56⟩ := c.def_ 56 (d := ddMachineRefuseUnless) rfl
  obtain ⟨f57, F57⟩ := c.def_ 57 (d := ddMachineRefuseUnlessBoard) rfl
  obtain ⟨f58, F58⟩ := c.def_ 58 (d := ddMachineStep) rfl
  obtain ⟨f59, F59⟩ := c.def_ 59 (d := ddMachineLate) rfl
  obtain ⟨f60, F60⟩ := c.def_ 60 (d := ddMachineReset) rfl
  obtain ⟨f61, F61⟩ := c.def_ 61 (d := ddMachineTurn) rfl
  obtain ⟨f62, F62⟩ := c.def_ 62 (d := ddMachineState) rfl
  obtain ⟨f63, F63⟩ := c.def_ 63 (d := ddMachineStarts) rfl
  obtain ⟨f64, F64⟩ := c.def_ 64 (d := ddMachineLog) rfl
  obtain ⟨f65, F65⟩ := c.def_ 65 (d := ddMachineBoards) rfl
  obtain ⟨f66, F66⟩ := c.def_ 66 (d := ddStartErrorInit) rfl
  obtain ⟨cz0, zi1⟩ := He.ba cx
  obtain ⟨cz1, zi0⟩ := He.ba cz0
  obtain ⟨cz2, zt1⟩ := He.ba cz1
  obtain ⟨cz3, zt0⟩ := He.ba cz2
  obtain ⟨cz4, q1⟩ := He.ba cz3
  obtain ⟨cz5, q0⟩ := He.ba cz4
  obtain ⟨cz6, t0⟩ := He.ba cz5
  have e0 := cz6
  exact ⟨⟨⟨He.free_ok X G (c.fact 0 (f := .free "ValueError") rfl), He.free_ok X G (c.fact 1 (f := .free "repr") rfl), He.free_ok X G (c.fact 2 (f := .free "len") rfl), He.free_ok X G (c.fact 3 (f := .free "abs") rfl), He.free_ok X G (c.fact 4 (f := .free "int") rfl), He.free_ok X G (c.fact 5 (f := .free "isinstance") rfl), He.free_ok X G (c.fact 6 (f := .free "list") rfl), He.free_ok X G (c.fact 7 (f := .free "tuple") rfl), He.free_ok X G (c.fact 8 (f := .free "str") rfl), He.free_ok X G (c.fact 9 (f := .free "bool") rfl), He.free_ok X G (c.fact 10 (f := .free "all") rfl), He.free_ok X G (c.fact 11 (f := .free "zip") rfl), He.free_ok X G (c.fact 12 (f := .free "range") rfl), He.free_ok X G (c.fact 13 (f := .free "max") rfl), He.free_ok X G (c.fact 14 (f := .free "min") rfl), He.free_ok X G (c.fact 15 (f := .free "enumerate") rfl), He.free_ok X G (c.fact 16 (f := .free "divmod") rfl), He.free_ok X G (c.fact 17 (f := .free "sorted") rfl), He.free_ok X G (c.fact 18 (f := .free "set") rfl), He.free_ok X G (c.fact 19 (f := .free "any") rfl)⟩,
    He.int_ok X G (c.fact 62 (f := .int "NOTES" 9973) rfl),
    He.int_ok X G (c.fact 63 (f := .int "SPAN" 26500305465) rfl),
    He.int_ok X G (c.fact 64 (f := .int "FACTOR" 7919) rfl),
    He.int_ok X G (c.fact 65 (f := .int "BOARDS" 4) rfl),
    He.int_ok X G (c.fact 66 (f := .int "FIXED" 2) rfl),
    He.int_ok X G (c.fact 67 (f := .int "TIMES" 48271) rfl),
    He.int_ok X G (c.fact 68 (f := .int "MORE" 11) rfl),
    He.str_ok X G (c.fact 69 (f := .str "LETTERS" "abcdefghijklmnopqrstuvwxyz") rfl),
    He.int_ok X G (c.fact 70 (f := .int "LONGEST" 4) rfl),
    He.int_ok X G (c.fact 71 (f := .int "BASE" 27) rfl),
    He.int_ok X G (c.fact 72 (f := .int "MOST_BOARDS" 8) rfl),
    He.int_ok X G (c.fact 73 (f := .int "GREATEST_BODY" 1000000) rfl),
    He.int_ok X G (c.fact 74 (f := .int "MOST_LOADS" 3) rfl),
    He.int_ok X G (c.fact 75 (f := .int "LEAST_WIDTH" 3) rfl),
    He.int_ok X G (c.fact 76 (f := .int "GREATEST" 1000000) rfl),
    He.int_ok X G (c.fact 77 (f := .int "GREATEST_KEY" 1000000) rfl),
    He.int_ok X G (c.fact 78 (f := .int "MOST_HANDS" 6) rfl),
    f0,
    F0,
    He.glo_ok X G (c.fact 20 (f := .glo "_wall") rfl),
    f1,
    F1,
    He.glo_ok X G (c.fact 21 (f := .glo "is_number") rfl),
    f2,
    F2,
    He.glo_ok X G (c.fact 22 (f := .glo "is_within") rfl),
    f3,
    F3,
    He.glo_ok X G (c.fact 23 (f := .glo "common_divisor") rfl),
    f4,
    F4,
    He.glo_ok X G (c.fact 24 (f := .glo "measure") rfl),
    f5,
    F5,
    He.glo_ok X G (c.fact 25 (f := .glo "is_name") rfl),
    f6,
    F6,
    He.glo_ok X G (c.fact 26 (f := .glo "name_number") rfl),
    f7,
    F7,
    He.glo_ok X G (c.fact 27 (f := .glo "row_number") rfl),
    f8,
    F8,
    He.glo_ok X G (c.fact 28 (f := .glo "is_placed_body") rfl),
    f9,
    F9,
    He.glo_ok X G (c.fact 29 (f := .glo "are_loads") rfl),
    f10,
    F10,
    He.glo_ok X G (c.fact 30 (f := .glo "are_lies") rfl),
    f11,
    F11,
    He.glo_ok X G (c.fact 31 (f := .glo "true_notes") rfl),
    f12,
    F12,
    He.glo_ok X G (c.fact 32 (f := .glo "is_width") rfl),
    f13,
    F13,
    He.glo_ok X G (c.fact 33 (f := .glo "is_factor") rfl),
    f14,
    F14,
    He.glo_ok X G (c.fact 34 (f := .glo "behind_row") rfl),
    f15,
    F15,
    He.glo_ok X G (c.fact 35 (f := .glo "are_hands") rfl),
    f16,
    F16,
    He.glo_ok X G (c.fact 36 (f := .glo "_law_box") rfl),
    f17,
    F17,
    He.glo_ok X G (c.fact 37 (f := .glo "_law_take") rfl),
    f18,
    F18,
    He.glo_ok X G (c.fact 38 (f := .glo "_law_pick") rfl),
    f19,
    F19,
    He.glo_ok X G (c.fact 39 (f := .glo "_law_folded") rfl),
    f20,
    F20,
    He.glo_ok X G (c.fact 40 (f := .glo "_law_names") rfl),
    f21,
    F21,
    He.glo_ok X G (c.fact 41 (f := .glo "_law_same") rfl),
    f22,
    F22,
    He.glo_ok X G (c.fact 42 (f := .glo "_law_name_number") rfl),
    f23,
    F23,
    He.glo_ok X G (c.fact 43 (f := .glo "_law_row_number") rfl),
    f24,
    F24,
    He.glo_ok X G (c.fact 44 (f := .glo "_law_measure") rfl),
    f25,
    F25,
    He.glo_ok X G (c.fact 45 (f := .glo "_law_shares") rfl),
    f26,
    F26,
    He.glo_ok X G (c.fact 46 (f := .glo "_law_how") rfl),
    f27,
    F27,
    He.glo_ok X G (c.fact 47 (f := .glo "_law_mixed") rfl),
    f28,
    F28,
    He.glo_ok X G (c.fact 48 (f := .glo "_law_replay") rfl),
    f29,
    F29,
    He.glo_ok X G (c.fact 49 (f := .glo "_law_hand_rows") rfl),
    f30,
    F30,
    He.glo_ok X G (c.fact 50 (f := .glo "_law_start_rows") rfl),
    f31,
    F31,
    He.glo_ok X G (c.fact 51 (f := .glo "_law_hands") rfl),
    f32,
    F32,
    He.glo_ok X G (c.fact 52 (f := .glo "_law_made_hand") rfl),
    f33,
    F33,
    He.glo_ok X G (c.fact 53 (f := .glo "_law_world") rfl),
    f34,
    F34,
    He.glo_ok X G (c.fact 54 (f := .glo "_law_made") rfl),
    f35,
    F35,
    He.glo_ok X G (c.fact 55 (f := .glo "_law_flat") rfl),
    f36,
    F36,
    He.glo_ok X G (c.fact 56 (f := .glo "_law_stands") rfl),
    f37,
    F37,
    He.glo_ok X G (c.fact 57 (f := .glo "_law_told") rfl),
    f38,
    F38,
    He.glo_ok X G (c.fact 58 (f := .glo "_law_turned") rfl),
    f39,
    F39,
    He.glo_ok X G (c.fact 59 (f := .glo "_law_bad_hands") rfl),
    f40,
    F40,
    He.glo_ok X G (c.fact 60 (f := .glo "_law_right") rfl),
    f41,
    F41,
    He.glo_ok X G (c.fact 61 (f := .glo "law") rfl),
    zt0,
    zt1,
    f42,
    F42,
    He.mkr_ok (c.fact 81 (f := .mkr "Hand") rfl),
    f43,
    F43,
    He.meth_ok (c.fact 86 (f := .meth "Hand" "notes") rfl),
    f44,
    F44,
    He.meth_ok (c.fact 87 (f := .meth "Hand" "__eq__") rfl),
    f45,
    F45,
    He.meth_ok (c.fact 88 (f := .meth "Hand" "__str__") rfl),
    f46,
    F46,
    He.mkr_ok (c.fact 91 (f := .mkr "Mixing") rfl),
    f47,
    F47,
    He.meth_ok (c.fact 94 (f := .meth "Mixing" "begin") rfl),
    f48,
    F48,
    He.meth_ok (c.fact 95 (f := .meth "Mixing" "mixed") rfl),
    f49,
    F49,
    He.meth_ok (c.fact 96 (f := .meth "Mixing" "__eq__") rfl),
    f50,
    F50,
    He.meth_ok (c.fact 97 (f := .meth "Mixing" "__repr__") rfl),
    f51,
    F51,
    He.meth_ok (c.fact 98 (f := .meth "Mixing" "__str__") rfl),
    f52,
    F52,
    He.mkr_ok (c.fact 101 (f := .mkr "Machine") rfl),
    f53,
    F53,
    He.meth_ok (c.fact 113 (f := .meth "Machine" "clear_boards") rfl),
    f54,
    F54,
    He.meth_ok (c.fact 114 (f := .meth "Machine" "start") rfl),
    f55,
    F55,
    He.meth_ok (c.fact 115 (f := .meth "Machine" "note_row") rfl),
    f56,
    F56,
    He.meth_ok (c.fact 116 (f := .meth "Machine" "refuse_unless") rfl),
    f57,
    F57,
    He.meth_ok (c.fact 117 (f := .meth "Machine" "refuse_unless_board") rfl),
    f58,
    F58,
    He.meth_ok (c.fact 118 (f := .meth "Machine" "step") rfl),
    f59,
    F59,
    He.meth_ok (c.fact 119 (f := .meth "Machine" "late") rfl),
    f60,
    F60,
    He.meth_ok (c.fact 120 (f := .meth "Machine" "reset") rfl),
    f61,
    F61,
    He.meth_ok (c.fact 121 (f := .meth "Machine" "turn") rfl),
    f62,
    F62,
    He.meth_ok (c.fact 122 (f := .meth "Machine" "state") rfl),
    f63,
    F63,
    He.meth_ok (c.fact 123 (f := .meth "Machine" "starts") rfl),
    f64,
    F64,
    He.meth_ok (c.fact 124 (f := .meth "Machine" "log") rfl),
    f65,
    F65,
    He.meth_ok (c.fact 125 (f := .meth "Machine" "boards") rfl),
    f66,
    F66,
    He.cls_ok (c.fact 79 (f := .cls "Hand") rfl),
    He.glo_ok X G (c.fact 80 (f := .glo "Hand") rfl),
    He.noat_ok (c.fact 82 (f := .noat "Hand" "name") rfl),
    He.noat_ok (c.fact 83 (f := .noat "Hand" "body") rfl),
    He.noat_ok (c.fact 84 (f := .noat "Hand" "loads") rfl),
    He.noat_ok (c.fact 85 (f := .noat "Hand" "lies") rfl),
    neD_is q0,
    zi0,
    He.cls_ok (c.fact 89 (f := .cls "Mixing") rfl),
    He.glo_ok X G (c.fact 90 (f := .glo "Mixing") rfl),
    He.noat_ok (c.fact 92 (f := .noat "Mixing" "width") rfl),
    He.noat_ok (c.fact 93 (f := .noat "Mixing" "factor") rfl),
    neD_is q1,
    zi1,
    He.cls_ok (c.fact 99 (f := .cls "Machine") rfl),
    He.glo_ok X G (c.fact 100 (f := .glo "Machine") rfl),
    He.noat_ok (c.fact 102 (f := .noat "Machine" "name") rfl),
    He.noat_ok (c.fact 103 (f := .noat "Machine" "key") rfl),
    He.noat_ok (c.fact 104 (f := .noat "Machine" "mixing") rfl),
    He.noat_ok (c.fact 105 (f := .noat "Machine" "many") rfl),
    He.noat_ok (c.fact 106 (f := .noat "Machine" "fixed") rfl),
    He.noat_ok (c.fact 107 (f := .noat "Machine" "hands") rfl),
    He.noat_ok (c.fact 108 (f := .noat "Machine" "working") rfl),
    He.noat_ok (c.fact 109 (f := .noat "Machine" "place") rfl),
    He.noat_ok (c.fact 110 (f := .noat "Machine" "times") rfl),
    He.noat_ok (c.fact 111 (f := .noat "Machine" "numbers") rfl),
    He.noat_ok (c.fact 112 (f := .noat "Machine" "rows") rfl),
    He.glo_ok X G (c.fact 126 (f := .glo "StartError") rfl),
    He.glo_ok X G (c.fact 127 (f := .glo "BadMixing") rfl),
    He.glo_ok X G (c.fact 128 (f := .glo "NoBoard") rfl),
    He.glo_ok X G (c.fact 129 (f := .glo "BadHand") rfl),
    He.glo_ok X G (c.fact 130 (f := .glo "BadMachine") rfl),
    He.glo_ok X G (c.fact 131 (f := .glo "NotYet") rfl),
    He.glo_ok X G (c.fact 132 (f := .glo "Fixed") rfl),
    e0,
    He.glo_ok X G (c.fact 133 (f := .glo "WORDS") rfl),
    t0⟩, trivial⟩

end
section
variable {P : Program} {w : World} {K : PySem.W.Frag} {mg : Str → Option Value} {base : Heap}
local macro_rules | `(tactic| get_elem_tactic_trivial) => `(tactic| (repeat first | exact Wk.nil | exact Wk'.nil | refine Wk.same ?_ | refine Wk'.same ?_ | refine Wk.un (fun _ z => nomatch z) ?_ | refine Wk'.un ?_))

end
section
variable {P : Program} {w : World} {K : PySem.W.Frag} {mg : Str → Option Value} {base : Heap}
local macro_rules | `(tactic| get_elem_tactic_trivial) => `(tactic| (repeat first | exact Wk.nil | exact Wk'.nil | refine Wk.same ?_ | refine Wk'.same ?_ | refine Wk.un (fun _ z => nomatch z) ?_ | refine Wk'.un ?_))
theorem okLBox (T : Tx K mg) : FnOk P w K mg base CX0 1 (He.ga K "_law_box") T.fdLBox ["_law_script", "_law_k"] (spLBox K) := by
  have B := T.B
  refine T.FLBox.ok scLBox (fun vs H Q E h => ?_) (fun cdv A outer s H vs Q E hr h => ?_)
  · obtain ⟨a, ns, k, rfl, _⟩ := h
    rfl
  · obtain ⟨a, ns, k, rfl, hS, hk, q⟩ := h
    refine ⟨_, PSs.nox (pss_cons (ps_set (i := 2) scLBox.nd rfl (.inl rfl) pe_int)
        (pss_cons (ps_if (pt_cmpR op_lt (pv 1) (pe_callB call_len_seq (by rfl) B.b_len PySem.boot_len (pa_cons (pv 0) pa_nil)) (nomark _)) (pss_one (ps_set (i := 2) scLBox.nd rfl (.inl rfl) (pe_ix ix_list (pv 0) (pv 1) (fun _ _ => rfl)))) pss_nil)
        (pss_one (ps_ret (pe_lst (pa_cons (pe_op op_mul (pe_callB call_abs (by rfl) B.b_abs boot_abs (pa_cons (pv 2) pa_nil)) (pe_callTy call_int1 (by rfl) B.b_int PyProof.Rows.boot_int (pa_cons (pe_cmpR op_ge (pe_callB call_abs (by rfl) B.b_abs boot_abs (pa_cons (pv 2) pa_nil)) (pe_op op_pow pe_int pe_int) (nomark _)) pa_nil))) (pa_cons (pe_op op_add (pe_op op_add (pe_op op_mod (pv 2) pe_int) (pe_op op_mul pe_int (pv 1))) pe_int) (pa_cons pe_int pa_nil)))))))), ?_⟩
    have fin : ∀ c : Int, tRet (tLst (tCons (tOp (rI CMul fun i j => .int (i * j)) (tCB (fun xs H Q => ∃ i, xs = [.int i] ∧ Q (.int (if i < 0 then -i else i)) H) (tCons (tVar 2) tNil))
        (tCB (fun xs H Q => (∃ i, xs = [.int i] ∧ Q (.int i) H) ∨ ∃ k, xs = [.bl k] ∧ Q (.int (if k then 1 else 0)) H) (tCons (tOp (rI0 fun i j => .bl (decide (j ≤ i))) (tCB (fun xs H Q => ∃ i, xs = [.int i] ∧ Q (.int (if i < 0 then -i else i)) H) (tCons (tVar 2) tNil)) (tOp (rI CPow fun i j => .int (i ^ j.toNat)) (tC (.int 10)) (tC (.int 18)))) tNil)))
        (tCons (tOp (rI0 fun i j => .int (i + j)) (tOp (rI0 fun i j => .int (i + j)) (tOp (rI (fun _ j => 0 < j) fun i j => .int (i % j)) (tVar 2) (tC (.int 2147483629))) (tOp (rI CMul fun i j => .int (i * j)) (tC (.int 7919)) (tVar 1))) (tC (.int 11))) (tCons (tC (.int 0)) tNil))))
        { nx := fun _ H' => Q .non H', rt := Q } [some (.ref a), some (.int k), some (.int c)] H := by
      intro c
      have hb : ∀ b : Bool, (0 : Int) ≤ (if c < 0 then -c else c) * (if b = true then 1 else 0) := by
        intro b
        cases b <;> simp <;> split <;> omega
      have h1 := Int.emod_nonneg c (b := 2147483629) (by decide)
      have h2 := Int.emod_lt_of_pos c (b := 2147483629) (by decide)
      refine ⟨_, rfl, c, rfl, _, rfl, c, rfl, _, _, rfl, rfl, ⟨by decide, by decide, by decide⟩, _, _, rfl, rfl, .inr ⟨_, rfl, _, _, rfl, rfl, .inr ⟨?_, ?_⟩, ?_⟩⟩
      · exact bit_lo _
      · exact bit_hi _
      · refine ⟨_, rfl, _, _, rfl, rfl, (show (0 : Int) < 2147483629 by decide), _, rfl, _, _, rfl, rfl, .inl ⟨by decide, by decide⟩, _, _, rfl, rfl, _, _, rfl, rfl, by show 3 ≤ sizeLine; decide, fun p hp => ?_⟩
        exact q p _ _ hp (hb _) (by omega) (by omega)
    refine ⟨_, rfl, _, rfl, a, _, rfl, .inl hS, _, _, rfl, rfl, _, rfl, ite2 (fun e => ?_) (fun e => ?_)⟩
    · have hlt : k < ns.length := by
        have := of_decide_eq_true e
        rw [List.length_map] at this
        omega
      refine ⟨_, rfl, _, rfl, a, _, _, _, rfl, rfl, hS, at_of (j := k) (v := .int ns[k]) rfl (by rw [List.getElem?_map, List.getElem?_eq_getElem hlt]; rfl), ?_⟩
      exact fin _
    · exact fin _
theorem okLTake (T : Tx K mg) : FnOk P w K mg base CX0 1 (He.ga K "_law_take") T.fdLTake ["_law_box_here", "_law_size"] spLTake := by
  have B := T.B
  refine T.FLTake.ok scLTake (fun vs H Q E h => ?_) (fun cdv A outer s H vs Q E hr h => ?_)
  · obtain ⟨p, m, n, rfl, _⟩ := h
    rfl
  · obtain ⟨p, m, n, rfl, hB, hn, hm, hm2, q⟩ := h
    refine ⟨_, PSs.nox (pss_cons (ps_if (pt_cmpR op_gt (pe_ix ix_list (pv 0) pe_int (fun _ _ => rfl)) pe_int (nomark _)) (pss_cons (ps_set (i := 2) scLTake.nd rfl (.inl rfl) (pe_op op_mod (pe_ix ix_list (pv 0) pe_int (fun _ _ => rfl)) (pv 1)))
        (pss_cons (ps_asg (pe_op op_fdivW (pe_ix ix_list (pv 0) pe_int (fun _ _ => rfl)) (pv 1)) (pg_sub (pv 0) pe_int set_list))
        (pss_one (ps_ret (pv 2))))) pss_nil)
        (pss_cons (ps_asg (pe_op op_add (pe_ix ix_list (pv 0) pe_int (fun _ _ => rfl)) pe_int) (pg_sub (pv 0) pe_int set_list))
        (pss_cons (ps_set (i := 3) scLTake.nd rfl (.inl rfl) (pe_op op_mod (pe_op op_pow (pe_op op_add (pe_ix ix_list (pv 0) pe_int (fun _ _ => rfl)) (pe_op op_mul pe_int (pe_ix ix_list (pv 0) pe_int (fun _ _ => rfl)))) pe_int) pe_int))
        (pss_one (ps_ret (pe_op op_mod (pe_op op_fdiv (pe_op op_mod (pe_op op_add (pe_op op_mul (pv 3) (pe_op op_add (pe_op op_mod (pv 3) pe_int) pe_int)) (pe_op op_mul (pe_ix ix_list (pv 0) pe_int (fun _ _ => rfl)) pe_int)) pe_int) pe_int) (pv 1))))))), ?_⟩
    obtain ⟨x, y, z, hp, hx, hy, hy2, hz, hzn⟩ := hB
    have hm3 : m.natAbs < 340282366920938463463374607431768211456 := by omega
    refine ⟨_, rfl, p, _, 0, .int x, rfl, rfl, SqL.of hp, atI_nat (j := 0) rfl, _, _, rfl, rfl, _, rfl, ite2 (fun e => ?_) (fun e => ?_)⟩
    · refine ⟨_, rfl, p, _, 0, .int x, rfl, rfl, SqL.of hp, atI_nat (j := 0) rfl, _, rfl, _, _, rfl, rfl, hm, ?_⟩
      refine ⟨_, rfl, p, _, 0, .int x, rfl, rfl, SqL.of hp, atI_nat (j := 0) rfl, _, rfl, _, _, rfl, rfl, wide_div (b := 128) hm hm3 (by decide) (by decide), ?_⟩
      refine ⟨_, rfl, p, _, 0, 0, rfl, rfl, hp, rfl, _, rfl, ?_⟩
      exact q _ _ But.upd ⟨_, y, z, upd_same, Int.ediv_nonneg hx (Int.le_of_lt hm), hy, hy2, hz, by omega⟩ (Int.emod_nonneg _ (by omega)) (Int.emod_lt_of_pos _ hm)
    · refine ⟨_, rfl, p, _, 2, .int z, rfl, rfl, SqL.of hp, atI_nat (j := 2) rfl, _, _, rfl, rfl, _, rfl, p, _, 2, 2, rfl, rfl, hp, rfl, ?_⟩
      have hp2 : upd H p (.lst [.int x, .int y, .int (z + 1)]) p = some (.lst [.int x, .int y, .int (z + 1)]) := upd_same
      refine ⟨_, rfl, p, _, 1, .int y, rfl, rfl, SqL.of hp2, atI_nat (j := 1) rfl, _, rfl, p, _, 2, .int (z + 1), rfl, rfl, SqL.of hp2, atI_nat (j := 2) rfl, _, _, rfl, rfl, .inl ⟨by decide, by decide⟩, _, _, rfl, rfl, _, _, rfl, rfl, ⟨by decide, by decide, ?_⟩, _, _, rfl, rfl, (show (0 : Int) < 2147483647 by decide), ?_⟩
      · have : (y + 39373 * (z + 1)).natAbs < 18446744073709551616 := by omega
        exact this
      · refine ⟨_, rfl, _, rfl, _, _, rfl, rfl, (show (0 : Int) < 40009 by decide), _, _, rfl, rfl, _, _, rfl, rfl, .inr ⟨?_, ?_⟩, _, rfl, p, _, 2, .int (z + 1), rfl, rfl, SqL.of hp2, atI_nat (j := 2) rfl, _, _, rfl, rfl, .inr ⟨by decide, by decide⟩, _, _, rfl, rfl, _, _, rfl, rfl, (show (0 : Int) < 2147483629 by decide), _, _, rfl, rfl, ⟨by decide, by decide⟩, _, rfl, _, _, rfl, rfl, hm, ?_⟩
        · have h1 := Int.emod_nonneg ((y + 39373 * (z + 1)) ^ 5 % 2147483647) (b := 40009) (by decide)
          have : -18446744073709551616 < ((y + 39373 * (z + 1)) ^ 5 % 2147483647) % 40009 + 7 := by omega
          exact this
        · have h1 := Int.emod_lt_of_pos ((y + 39373 * (z + 1)) ^ 5 % 2147483647) (b := 40009) (by decide)
          have : ((y + 39373 * (z + 1)) ^ 5 % 2147483647) % 40009 + 7 < 18446744073709551616 := by omega
          exact this
        · exact q _ _ But.upd ⟨x, y, z + 1, hp2, hx, hy, hy2, by omega, by omega⟩ (Int.emod_nonneg _ (by omega)) (Int.emod_lt_of_pos _ hm)
theorem okTakeD (T : Tx K mg) : FnOk P w K mg base CX0 1 (He.ga K "_law_take") T.fdLTake ["_law_box_here", "_law_size"] (spD K 2 wTake) := (okLTake T).imp fun vs H Q E h => take_imp h

end
section
variable {P : Program} {w : World} {K : PySem.W.Frag} {mg : Str → Option Value} {base : Heap}
local macro_rules | `(tactic| get_elem_tactic_trivial) => `(tactic| (repeat first | exact Wk.nil | exact Wk'.nil | refine Wk.same ?_ | refine Wk'.same ?_ | refine Wk.un (fun _ z => nomatch z) ?_ | refine Wk'.un ?_))
theorem okStartErrorInit (T : Tx K mg) : FnOk P w K mg base CX0 1 (He.ma K (He.ga K "StartError") "__init__") T.fdStartErrorInit ["self", "what"] (spInitE K) := by
  have B := T.B
  refine T.FStartErrorInit.ok scStartErrorInit (fun vs H Q E h => ?_) (fun cdv A outer s H vs Q E hr h => ?_)
  · obtain ⟨a, C, fI, v, rfl, _⟩ := h
    rfl
  · obtain ⟨a, C, fI, v, rfl, ha, T1, q⟩ := h
    refine ⟨_, PSs.nox (pss_one (ps_ost (pv 0) (pv 1))), ?_⟩
    refine ⟨_, rfl, _, rfl, a, C, rfl, T1.ox, T1.wh, .inl ⟨ha, fun dx hd ne => ?_⟩⟩
    exact q dx hd ne
theorem exRoot (T : Tx K mg) {c : Str} (hc : c ∈ ERRS) : PySem.W.exmOne K (.ref (He.ga K c)) (.ref (He.ga K "StartError")) = some true := by
  rw [err_ex T.er hc (by decide +kernel), decide_eq_true (rfl : ("StartError" : Str) = "StartError"), Bool.or_true]
theorem exOwn (T : Tx K mg) {c : Str} (hc : c ∈ ERRS) : PySem.W.exmOne K (.ref (He.ga K c)) (.ref (He.ga K c)) = some true := by
  rw [err_ex T.er hc hc, decide_eq_true (rfl : c = c), Bool.true_or]
theorem evOne (T : Tx K mg) {c e : Str} (hc : c ∈ ERRS) (he : e ∈ ERRS) {b : Bool} (h : (decide (e = c) || decide (e = ("StartError" : Str))) = b) : IsEv K c (.ref (He.ga K e)) b := by
  rw [← h]
  exact isE T.er hc he
theorem evV (T : Tx K mg) {c : Str} (hc : c ∈ ERRS) : IsEv K c (.ty "ValueError") true := isV T.er hc
theorem evW (T : Tx K mg) {c : Str} (hc : c ∈ ERRS) : ∃ fI, ECl K (He.ga K c) fI := ⟨_, err_cl T.er hc⟩

end
section
variable {P : Program} {w : World} {K : PySem.W.Frag} {mg : Str → Option Value} {base : Heap}
local macro_rules | `(tactic| get_elem_tactic_trivial) => `(tactic| (repeat first | exact Wk.nil | exact Wk'.nil | refine Wk.same ?_ | refine Wk'.same ?_ | refine Wk.un (fun _ z => nomatch z) ?_ | refine Wk'.un ?_))
/-! a mixing made: the old layer's promises, told over data -/
def Cop (a b : Int) : Prop := ∀ c : Int, 0 < c → c ∣ a → c ∣ b → c = 1
theorem cop_mod {a m : Int} (h : Cop a m) : Cop m (a % m) := fun c hc h1 h2 => by
  refine h c hc ?_ h1
  have e := Int.mul_ediv_add_emod a m
  rw [← e]
  exact Int.dvd_add (Int.dvd_trans h1 (Int.dvd_mul_right _ _)) h2
theorem cop_back {a m : Int} (h : Cop m (a % m)) : Cop a m := fun c hc h1 h2 => by
  refine h c hc h2 ?_
  have e := Int.mul_ediv_add_emod a m
  have e2 : a % m = a - m * (a / m) := by omega
  rw [e2]
  exact Int.dvd_sub h1 (Int.dvd_trans h2 (Int.dvd_mul_right _ _))
theorem Cop.symm {a b : Int} (h : Cop a b) : Cop b a := fun c hc h1 h2 => h c hc h2 h1
theorem cop_one (b : Int) : Cop 1 b := fun c hc h1 _ => Int.eq_one_of_dvd_one (Int.le_of_lt hc) h1
structure OkMix (w : Option Int) (f : Int) : Prop where
  f1 : 1 ≤ f
  f2 : f ≤ 1000000
  w_ : ∀ n, w = some n → 3 ≤ n ∧ n ≤ 1000000 ∧ Cop f n
def wV : Option Int → V
  | none => .non
  | some n => .int n
def wDt : Option Int → Dt
  | none => .non
  | some n => .int n
theorem rp_w {C : Hp} {v : V} {w : Option Int} (h : Rp K C v (wDt w)) : v = wV w := by
  cases w <;> cases h <;> rfl
abbrev mixD (w : Option Int) (f : Int) : Dt := .obj "Mixing" ["width", "factor"] [wDt w, .int f]
def okMixD : List Dt → Prop := fun ds => ∃ (w : Option Int) (f : Int), OkMix w f ∧ ds = [wDt w, .int f]
theorem mxf_zip (w : Option Int) (f : Int) : putF "factor" (.int f) (putF "width" (wV w) []) = (["width", "factor"] : List Str).zip [wV w, .int f] := by
  show (if ("width" : Str) = "factor" then _ else _) = _
  rw [if_neg (by decide +kernel)]
  rfl
namespace OlN
def spIsNumber : Sp := fun vs H Q _ => ∃ i : Int, vs = [.int i] ∧ Q (.bl true) H
def spIsWidth : Sp := fun vs H Q _ => ∃ w : Option Int, vs = [wV w] ∧ (∀ n, w = some n → 3 ≤ n ∧ n ≤ 1000000) ∧ Q (.bl true) H
def spIsFactor : Sp := fun vs H Q _ => ∃ (w : Option Int) (f : Int), vs = [.int f, wV w] ∧ OkMix w f ∧ Q (.bl true) H
def spCommonDivisor : Sp := fun vs H Q _ => ∃ a b : Int, vs = [.int a, .int b] ∧ 0 < a ∧ 0 ≤ b ∧ Cop a b ∧ Q (.int 1) H
def spMixingInit (K : PySem.W.Frag) : Sp := fun vs H Q _ => ∃ (p dx : Addr) (w : Option Int) (f : Int), vs = [.ref p, wV w, .int f] ∧ H p = some (.ins (He.ga K "Mixing") dx []) ∧ OkMix w f ∧
  ∀ G : Hp, G p = some (.ins (He.ga K "Mixing") dx ((["width", "factor"] : List Str).zip [wV w, .int f])) → But p H G → Q .non G
theorem okIsNumber (T : Tx K mg) : FnOk P w K mg base CX0 1 (He.ga K "is_number") T.fdIsNumber ["thing"] spIsNumber := by
  have B := T.B
  refine T.FIsNumber.ok scIsNumber (fun vs H Q E h => ?_) (fun cdv A outer s H vs Q E hr h => ?_)
  · obtain ⟨i, rfl, _⟩ := h
    rfl
  · obtain ⟨i, rfl, q⟩ := h
    refine ⟨_, PSs.nox (pss_one (ps_ret (pe_and (pe_callB call_isi (by rfl) B.b_isinstance boot_isinstance (pa_cons (pv 0) (pa_cons (pe_bltn (v := .ty "int") (by rfl) B.b_int PyProof.Rows.boot_int rfl) pa_nil))) (pe_one (pe_not (pe_callB call_isi (by rfl) B.b_isinstance boot_isinstance (pa_cons (pv 0) (pa_cons (pe_bltn (v := .ty "bool") (by rfl) B.b_bool PyProof.Rows.boot_bool rfl) pa_nil)))))))), ?_⟩
    refine ⟨_, rfl, _, _, _, _, _, rfl, .ty _, .base (.int i), kit_ty (r := true) (by decide +kernel), _, rfl, iteT ?_⟩
    exact ⟨_, rfl, _, _, _, _, _, rfl, .ty _, .base (.int i), kit_ty (r := false) (by decide +kernel), _, rfl, q⟩
theorem okCommonDivisor (T : Tx K mg) : FnOk P w K mg base CX0 1 (He.ga K "common_divisor") T.fdCommonDivisor ["number", "other"] spCommonDivisor := by
  have B := T.B
  refine T.FCommonDivisor.ok scCommonDivisor (fun vs H Q E h => ?_) (fun cdv A outer s H vs Q E hr h => ?_)
  · obtain ⟨a, b, rfl, _⟩ := h
    rfl
  · obtain ⟨a, b, rfl, ha, hb, hc, q⟩ := h
    refine ⟨_, PSs.nox (pss_cons (ps_while PassesOwn.never (pt_cmpR op_ne (pv 1) pe_int (nomark _))
        (pss_one (ps_par (i := 0) (j := 1) (by rfl) scCommonDivisor.nd rfl rfl (by decide) rfl rfl (pa_cons (pv 1) (pa_cons (pe_op op_mod (pv 0) (pv 1)) pa_nil)) (by rfl))))
        (pss_one (ps_ret (pv 0)))), ?_⟩
    refine while_by (fun σ G => G = H ∧ ∃ (x y : Int), σ = [some (.int x), some (.int y)] ∧ 0 < x ∧ 0 ≤ y ∧ Cop x y) (fun σ _ => match σ with | [_, some (.int y)] => y.toNat | _ => 0) ⟨rfl, a, b, rfl, ha, hb, hc⟩ ?_ ?_
    · rintro σ G ⟨rfl, x, y, rfl, hx, hy, hxy⟩
      refine ⟨_, rfl, rfl, _, rfl, ?_⟩
      by_cases e : y = 0
      · subst e
        rw [decide_eq_true rfl]
        refine iteF ?_
        have e1 := hxy x hx (Int.dvd_refl _) (Int.dvd_zero _)
        subst e1
        exact ⟨_, rfl, q⟩
      · rw [decide_eq_false fun z => e (V.int.inj z)]
        refine iteT ?_
        have hy1 : 0 < y := by omega
        have h1 := Int.emod_nonneg x (b := y) (by omega)
        have h2 := Int.emod_lt_of_pos x hy1
        refine ⟨_, rfl, _, rfl, _, rfl, _, _, rfl, rfl, hy1, _, _, rfl, ?_⟩
        refine ⟨⟨rfl, _, _, rfl, hy1, h1, cop_mod hxy⟩, ?_⟩
        show (x % y).toNat < y.toNat
        omega
    · intro σ G Q1 Q2 hq h
      obtain ⟨v, e1, e2, k, e3, z⟩ := h
      exact ⟨v, e1, e2, k, e3, hq _ _ z⟩
theorem okIsWidth (T : Tx K mg) : FnOk P w K mg base CX0 2 (He.ga K "is_width") T.fdIsWidth ["thing"] spIsWidth := by
  have B := T.B
  have GIsNumber : FnOk P w K mg base CX0 1 (He.ga K "is_number") T.fdIsNumber ["thing"] spIsNumber := okIsNumber T
  have bIsNumber := T.bIsNumber
  refine T.FIsWidth.ok scIsWidth (fun vs H Q E h => ?_) (fun cdv A outer s H vs Q E hr h => ?_)
  · obtain ⟨w, rfl, _⟩ := h
    rfl
  · obtain ⟨w, rfl, hw, q⟩ := h
    refine ⟨_, PSs.nox (pss_one (ps_ret (pe_or (pe_cmpR op_isN (pv 0) pe_non (nomark _)) (pe_one (pe_and (pe_call GIsNumber (hr.mono (by decide)) (by rfl) T.gIsNumber T.FIsNumber.kp bIsNumber .nil pass0 (pa_cons (pv 0) pa_nil)) (pe_one (pe_chain op_le op_le (pe_glob (v := .int 3) (by rfl) T.c_LEAST_WIDTH.choose_spec ⟨_, rfl⟩) (pv 0) (pe_glob (v := .int 1000000) (by rfl) T.c_GREATEST.choose_spec ⟨_, rfl⟩)))))))), ?_⟩
    cases w with
    | none => exact ⟨_, rfl, rfl, _, rfl, iteT q⟩
    | some n =>
      obtain ⟨h1, h2⟩ := hw n rfl
      refine ⟨_, rfl, rfl, _, rfl, iteF ?_⟩
      refine ⟨_, rfl, n, rfl, _, rfl, iteT ?_⟩
      refine ⟨_, rfl, _, _, rfl, rfl, _, rfl, ?_⟩
      rw [decide_eq_true h1]
      refine iteT ?_
      refine ⟨_, _, rfl, rfl, ?_⟩
      exact qt h2 q
theorem okIsFactor (T : Tx K mg) : FnOk P w K mg base CX0 2 (He.ga K "is_factor") T.fdIsFactor ["thing", "width"] spIsFactor := by
  have B := T.B
  have GIsNumber : FnOk P w K mg base CX0 1 (He.ga K "is_number") T.fdIsNumber ["thing"] spIsNumber := okIsNumber T
  have bIsNumber := T.bIsNumber
  have GCommonDivisor : FnOk P w K mg base CX0 1 (He.ga K "common_divisor") T.fdCommonDivisor ["number", "other"] spCommonDivisor := okCommonDivisor T
  have bCommonDivisor := T.bCommonDivisor
  refine T.FIsFactor.ok scIsFactor (fun vs H Q E h => ?_) (fun cdv A outer s H vs Q E hr h => ?_)
  · obtain ⟨w, f, rfl, _⟩ := h
    rfl
  · obtain ⟨w, f, rfl, ok, q⟩ := h
    refine ⟨_, PSs.nox (pss_cons (ps_if (PW.pt (pw_or (pt_not (pt_val (pe_call GIsNumber (hr.mono (by decide)) (by rfl) T.gIsNumber T.FIsNumber.kp bIsNumber .nil pass0 (pa_cons (pv 0) pa_nil)))) (pw_or1 (pt_not (pt_chain op_le op_le pe_int (pv 0) (pe_glob (v := .int 1000000) (by rfl) T.c_GREATEST.choose_spec ⟨_, rfl⟩)))))) (pss_one (ps_ret pe_bl)) pss_nil)
        (pss_one (ps_ret (pe_or (pe_cmpR op_isN (pv 1) pe_non (nomark _)) (pe_one (pe_cmpR op_eq (pe_call GCommonDivisor (hr.mono (by decide)) (by rfl) T.gCommonDivisor T.FCommonDivisor.kp bCommonDivisor .nil pass0 (pa_cons (pv 0) (pa_cons (pv 1) pa_nil))) pe_int (nomark _))))))), ?_⟩
    have f1 := ok.f1
    have f2 := ok.f2
    refine ⟨_, rfl, f, rfl, _, rfl, iteF ?_⟩
    refine ⟨_, rfl, _, _, rfl, rfl, _, rfl, ?_⟩
    rw [decide_eq_true f1]
    refine iteT ?_
    refine ⟨_, _, rfl, rfl, _, rfl, ?_⟩
    rw [decide_eq_true f2]
    refine iteF ?_
    cases w with
    | none => exact ⟨_, rfl, rfl, _, rfl, iteT q⟩
    | some n =>
      obtain ⟨h1, h2, h3⟩ := ok.w_ n rfl
      refine ⟨_, rfl, rfl, _, rfl, iteF ?_⟩
      exact ⟨_, rfl, _, rfl, f, n, rfl, by omega, by omega, h3, rfl, q⟩
theorem okMixingInit (T : Tx K mg) : FnOk P w K mg base CX0 3 (He.ma K (He.ga K "Mixing") "__init__") T.fdMixingInit ["self", "width", "factor"] (spMixingInit K) := by
  have B := T.B
  have GIsWidth : FnOk P w K mg base CX0 2 (He.ga K "is_width") T.fdIsWidth ["thing"] spIsWidth := okIsWidth T
  have bIsWidth := T.bIsWidth
  have GStartErrorInit : FnOk P w K mg base CX0 1 (He.ma K (He.ga K "StartError") "__init__") T.fdStartErrorInit ["self", "what"] (spInitE K) := okStartErrorInit T
  have bStartErrorInit := T.bStartErrorInit
  have GIsFactor : FnOk P w K mg base CX0 2 (He.ga K "is_factor") T.fdIsFactor ["thing", "width"] spIsFactor := okIsFactor T
  have bIsFactor := T.bIsFactor
  refine T.FMixingInit.ok scMixingInit (fun vs H Q E h => ?_) (fun cdv A outer s H vs Q E hr h => ?_)
  · obtain ⟨p, dx, w, f, rfl, _⟩ := h
    rfl
  · obtain ⟨p, dx, w, f, rfl, hp, ok, q⟩ := h
    refine ⟨_, PSs.nox (pss_cons (ps_if (pt_not (pt_val (pe_call GIsWidth (hr.mono (by decide)) (by rfl) T.gIsWidth T.FIsWidth.kp bIsWidth .nil pass0 (pa_cons (pv 1) pa_nil)))) (pss_one ps_never) pss_nil)
        (pss_cons (ps_if (pt_not (pt_val (pe_call GIsFactor (hr.mono (by decide)) (by rfl) T.gIsFactor T.FIsFactor.kp bIsFactor .nil pass0 (pa_cons (pv 2) (pa_cons (pv 1) pa_nil))))) (pss_one ps_never) pss_nil)
        (pss_cons (ps_fld (pv 0) (pv 1) rfl)
        (pss_one (ps_fld (pv 0) (pv 2) rfl))))), ?_⟩
    refine ⟨_, rfl, w, rfl, fun n e => ⟨(ok.w_ n e).1, (ok.w_ n e).2.1⟩, _, rfl, iteF ?_⟩
    refine ⟨_, rfl, _, rfl, w, f, rfl, ok, _, rfl, iteF ?_⟩
    refine ⟨_, rfl, _, rfl, p, _, dx, [], rfl, hp, T.clMixing, T.nMixing_width, by show 0 < 1000; decide, ?_⟩
    refine ⟨_, rfl, _, rfl, p, _, dx, _, rfl, upd_same, T.clMixing, T.nMixing_factor, by show 1 < 1000; decide, ?_⟩
    refine q _ (by rw [upd_same, mxf_zip]) fun b o e hb => ?_
    rw [upd_ne hb, upd_ne hb]
    exact e
theorem okMixingD (T : Tx K mg) : FnOk P w K mg base CX0 3 (He.ma K (He.ga K "Mixing") "__init__") T.fdMixingInit ["self", "width", "factor"] (spIni K "Mixing" ["width", "factor"] okMixD) := (okMixingInit T).imp fun vs H Q E h => by
  obtain ⟨p, dx, us, ds, C, rfl, hp, rl, ⟨w, f, ok, rfl⟩, _, q⟩ := h
  cases rl with
  | cons r1 rl =>
    cases rl with
    | cons r2 rl =>
      cases rl
      cases rp_w r1
      cases r2
      exact ⟨p, dx, w, f, rfl, hp, ok, q⟩
end OlN
theorem mk2 (T : Tx K mg) : ∃ its mv : List Value, KBn K T.fdMixingInit ["self", "width", "factor"] 2 ["factor"] (fun us ws => us ++ ws) (fun vs zs => vs ++ zs) :=
  T.FMixingInit.kbinds 2 ["factor"] [] (fun us its mv ws => us ++ ws) (by decide) (by decide) (by simp) (fun a b c d => a.append d) fun TT D doc pm an cdv ct us its mv ws h1 h2 h3 h4 => match us, its, mv, ws, h1, h2, h3, h4 with
    | [u, v], [i], [], [w], _, _, _, _ => ⟨_, rfl, rfl⟩

end
section
variable {P : Program} {w : World} {K : PySem.W.Frag} {mg : Str → Option Value} {base : Heap}
local macro_rules | `(tactic| get_elem_tactic_trivial) => `(tactic| (repeat first | exact Wk.nil | exact Wk'.nil | refine Wk.same ?_ | refine Wk'.same ?_ | refine Wk.un (fun _ z => nomatch z) ?_ | refine Wk'.un ?_))
theorem okLSame (T : Tx K mg) : ∀ n : Nat, FnOk P w K mg base CX0 n (He.ga K "_law_same") T.fdLSame ["_law_found", "_law_due"] (spLSame K n)
  | 0 => ⟨fun vs H Q E h => by obtain ⟨x, y, d, _, _, _, h, _, _⟩ := h; exact absurd h (Nat.not_lt_zero _), fun A outer s H args us vs Q E _ _ _ _ h => by obtain ⟨x, y, d, _, _, _, h, _, _⟩ := h; exact absurd h (Nat.not_lt_zero _)⟩
  | n + 1 => by
    have GLSame : FnOk P w K mg base CX0 n (He.ga K "_law_same") T.fdLSame ["_law_found", "_law_due"] (spLSame K n) := okLSame T n
    have B := T.B
    have bLSame := T.bLSame
    refine T.FLSame.ok scLSame (fun vs H Q E h => ?_) (fun cdv A outer s H vs Q E hr h => ?_)
    · obtain ⟨x, y, d, rfl, _⟩ := h
      rfl
    · obtain ⟨x, y, d, rfl, hx, hy, hd, hw, q⟩ := h
      refine ⟨_, PSs.nox (pss_cons (ps_if (pt_val (pe_callB call_isiT (by rfl) B.b_isinstance boot_isinstance (pa_cons (pv 1) (pa_cons (pe_tup (pa_cons (pe_bltn (v := .ty "list") (by rfl) B.b_list PyProof.Rows.boot_list rfl) (pa_cons (pe_bltn (v := .ty "tuple") (by rfl) B.b_tuple PyProof.Rows.boot_tuple rfl) pa_nil))) pa_nil)))) (pss_cons (ps_if (PW.pt (pw_or (pt_cmpR op_ne (pe_callB call_isi (by rfl) B.b_isinstance boot_isinstance (pa_cons (pv 0) (pa_cons (pe_bltn (v := .ty "list") (by rfl) B.b_list PyProof.Rows.boot_list rfl) pa_nil))) (pe_callB call_isi (by rfl) B.b_isinstance boot_isinstance (pa_cons (pv 1) (pa_cons (pe_bltn (v := .ty "list") (by rfl) B.b_list PyProof.Rows.boot_list rfl) pa_nil))) (nomark _)) (pw_or1 (pt_cmpR op_ne (pe_callB call_isi (by rfl) B.b_isinstance boot_isinstance (pa_cons (pv 0) (pa_cons (pe_bltn (v := .ty "tuple") (by rfl) B.b_tuple PyProof.Rows.boot_tuple rfl) pa_nil))) (pe_callB call_isi (by rfl) B.b_isinstance boot_isinstance (pa_cons (pv 1) (pa_cons (pe_bltn (v := .ty "tuple") (by rfl) B.b_tuple PyProof.Rows.boot_tuple rfl) pa_nil))) (nomark _))))) (pss_one (ps_ret pe_bl)) pss_nil)
        (pss_cons (ps_if (pt_cmpR op_ne (pe_callB call_len_seq (by rfl) B.b_len PySem.boot_len (pa_cons (pv 0) pa_nil)) (pe_callB call_len_seq (by rfl) B.b_len PySem.boot_len (pa_cons (pv 1) pa_nil)) (nomark _)) (pss_one (ps_ret pe_bl)) pss_nil)
        (pss_one (ps_ret (pe_callB (cr_all rfl) (by rfl) B.b_all boot_all (pa_cons (pe_lc (own := [("_law_one", 2), ("_law_two", 3)]) (g := gTup K 2 (gCons (gName 2) (gCons (gName 3) gNil))) (tt := tYes) (by rfl) scLSame.nd (RZ.pi_zipA (by rfl) B.b_zip (pa_cons (pv 0) (pa_cons (pv 1) pa_nil))) (blkOk_by (own := [("_law_one", 2), ("_law_two", 3)]) (N := ["_law_found", "_law_due", "_law_one", "_law_two"]) (sc := defScope sLSame) (by decide +kernel)) (fun _ _ _ _ _ => by exact (pg_tup rfl (pgs_cons (pg_name (i := 2) scLSame.nd rfl (Or.inl rfl)) (pgs_cons (pg_name (i := 3) scLSame.nd rfl (Or.inl rfl)) pgs_nil)))) (fun _ _ _ _ _ => pts_nil) (fun _ _ _ _ _ => (pe_call GLSame hr (by rfl) T.gLSame T.FLSame.kp bLSame .nil pass0 (pa_cons (pv 2) (pa_cons (pv 3) pa_nil))))) pa_nil)))))) pss_nil)
        (pss_cons (ps_if (PW.pt (pw_or (pt_cmpR op_isN (pv 1) pe_non (nomark _)) (pw_or1 (pt_val (pe_callB call_isi (by rfl) B.b_isinstance boot_isinstance (pa_cons (pv 1) (pa_cons (pe_bltn (v := .ty "str") (by rfl) B.b_str PyProof.Rows.boot_str rfl) pa_nil))))))) (pss_one (ps_ret (pe_and (pe_cmpR op_eq (pv 0) (pv 1) (nomark _)) (pe_one (pe_cmpR op_eq (pe_callB call_isi (by rfl) B.b_isinstance boot_isinstance (pa_cons (pv 0) (pa_cons (pe_bltn (v := .ty "str") (by rfl) B.b_str PyProof.Rows.boot_str rfl) pa_nil))) (pe_callB call_isi (by rfl) B.b_isinstance boot_isinstance (pa_cons (pv 1) (pa_cons (pe_bltn (v := .ty "str") (by rfl) B.b_str PyProof.Rows.boot_str rfl) pa_nil))) (nomark _)))))) pss_nil)
        (pss_one (ps_ret (pe_and (pe_callB call_isi (by rfl) B.b_isinstance boot_isinstance (pa_cons (pv 0) (pa_cons (pe_bltn (v := .ty "int") (by rfl) B.b_int PyProof.Rows.boot_int rfl) pa_nil))) (pe_and (pe_cmpR op_eq (pe_callB call_isi (by rfl) B.b_isinstance boot_isinstance (pa_cons (pv 0) (pa_cons (pe_bltn (v := .ty "bool") (by rfl) B.b_bool PyProof.Rows.boot_bool rfl) pa_nil))) (pe_callB call_isi (by rfl) B.b_isinstance boot_isinstance (pa_cons (pv 1) (pa_cons (pe_bltn (v := .ty "bool") (by rfl) B.b_bool PyProof.Rows.boot_bool rfl) pa_nil))) (nomark _)) (pe_one (pe_cmpR op_eq (pv 0) (pv 1) (nomark _))))))))), ?_⟩
      refine ⟨_, rfl, (by show 2 ≤ sizeLine; decide), fun tp htp => ?_⟩
      have s1 : Same H (upd H tp (.tup [.ty "list", .ty "tuple"])) := same_new htp
      have hx1 := dp_same s1 d x hx
      have hy1 := dp_same s1 d y hy
      cases d with
      | none =>
        cases hx1; cases hy1
        refine ⟨_, tp, _, _, _, _, rfl, upd_same, cls2, .base .non, kit_none K _ (by decide +kernel) (by decide +kernel), _, rfl, iteF ?_⟩
        refine ⟨_, rfl, rfl, _, rfl, iteT ?_⟩
        refine iteT ?_
        refine ⟨_, rfl, _, rfl, rfl, _, rfl, iteT ?_⟩
        refine ⟨_, rfl, _, _, _, _, _, rfl, .ty _, .base .non, kit_ty (r := false) (by decide +kernel), _, rfl, _, _, _, _, _, rfl, .ty _, .base .non, kit_ty (r := false) (by decide +kernel), rfl, ?_⟩
        exact q _ s1
      | bool z =>
        cases hx1; cases hy1
        refine ⟨_, tp, _, _, _, _, rfl, upd_same, cls2, .base (.bl z), kit_none K _ (by decide +kernel) (by decide +kernel), _, rfl, iteF ?_⟩
        refine ⟨_, rfl, rfl, _, rfl, iteF ?_⟩
        refine ⟨_, rfl, _, _, _, _, _, rfl, .ty _, .base (.bl z), kit_ty (r := false) (by decide +kernel), _, rfl, iteF ?_⟩
        refine ⟨_, rfl, _, _, _, _, _, rfl, .ty _, .base (.bl z), kit_ty (r := true) (by decide +kernel), _, rfl, iteT ?_⟩
        refine ⟨_, rfl, _, _, _, _, _, rfl, .ty _, .base (.bl z), kit_ty (r := true) (by decide +kernel), _, rfl, _, _, _, _, _, rfl, .ty _, .base (.bl z), kit_ty (r := true) (by decide +kernel), rfl, _, rfl, iteT ?_⟩
        refine ⟨_, rfl, _, rfl, rfl, ?_⟩
        rw [decide_eq_true rfl]
        exact q _ s1
      | int z =>
        cases hx1; cases hy1
        refine ⟨_, tp, _, _, _, _, rfl, upd_same, cls2, .base (.int z), kit_none K _ (by decide +kernel) (by decide +kernel), _, rfl, iteF ?_⟩
        refine ⟨_, rfl, rfl, _, rfl, iteF ?_⟩
        refine ⟨_, rfl, _, _, _, _, _, rfl, .ty _, .base (.int z), kit_ty (r := false) (by decide +kernel), _, rfl, iteF ?_⟩
        refine ⟨_, rfl, _, _, _, _, _, rfl, .ty _, .base (.int z), kit_ty (r := true) (by decide +kernel), _, rfl, iteT ?_⟩
        refine ⟨_, rfl, _, _, _, _, _, rfl, .ty _, .base (.int z), kit_ty (r := false) (by decide +kernel), _, rfl, _, _, _, _, _, rfl, .ty _, .base (.int z), kit_ty (r := false) (by decide +kernel), rfl, _, rfl, iteT ?_⟩
        refine ⟨_, rfl, _, rfl, rfl, ?_⟩
        rw [decide_eq_true rfl]
        exact q _ s1
      | str z =>
        cases hx1; cases hy1
        refine ⟨_, tp, _, _, _, _, rfl, upd_same, cls2, .base (.str z), kit_none K _ (by decide +kernel) (by decide +kernel), _, rfl, iteF ?_⟩
        refine ⟨_, rfl, rfl, _, rfl, iteF ?_⟩
        refine ⟨_, rfl, _, _, _, _, _, rfl, .ty _, .base (.str z), kit_ty (r := true) (by decide +kernel), _, rfl, iteT ?_⟩
        refine ⟨_, rfl, _, rfl, rfl, _, rfl, ?_⟩
        rw [decide_eq_true rfl]
        refine iteT ?_
        refine ⟨_, rfl, _, _, _, _, _, rfl, .ty _, .base (.str z), kit_ty (r := true) (by decide +kernel), _, rfl, _, _, _, _, _, rfl, .ty _, .base (.str z), kit_ty (r := true) (by decide +kernel), rfl, ?_⟩
        exact q _ s1
      | list ds =>
        cases hx1 with
        | @lst a xs _ ha da =>
        cases hy1 with
        | @lst c ys _ hc dc =>
        refine ⟨_, tp, _, _, _, _, rfl, upd_same, cls2, ty_list hc, kit_list K, _, rfl, iteT ?_⟩
        refine ⟨_, rfl, _, _, _, _, _, rfl, .ty _, ty_list ha, kit_ty (r := true) (by decide +kernel), _, rfl, _, _, _, _, _, rfl, .ty _, ty_list hc, kit_ty (r := true) (by decide +kernel), rfl, _, rfl, iteF ?_⟩
        refine ⟨_, rfl, _, _, _, _, _, rfl, .ty _, ty_list ha, kit_ty (r := false) (by decide +kernel), _, rfl, _, _, _, _, _, rfl, .ty _, ty_list hc, kit_ty (r := false) (by decide +kernel), rfl, _, rfl, iteF ?_⟩
        have hl : xs.length = ys.length := (dpa_len da).trans (dpa_len dc).symm
        refine ⟨_, rfl, a, xs, rfl, .inl ha, _, rfl, c, ys, rfl, .inl hc, rfl, _, rfl, ?_⟩
        rw [decide_eq_true (by rw [hl])]
        refine iteF ?_
        refine ⟨_, rfl, _, rfl, a, c, xs, ys, rfl, .inl ⟨ha, hc, fun D hD => ?_⟩⟩
        refine lc_it (walk_zip (n := xs.length) (by omega)) (fun i G => Same (upd H tp (.tup [.ty "list", .ty "tuple"])) G ∧ G D = some (.lst (List.replicate i (.bl true)))) ⟨same_new hD, upd_same⟩ (fun i G _ h => ⟨Same.seq h.1 ha, Same.seq h.1 hc⟩) ?_ ?_
        · intro i v G G1 hi hP hy
          obtain ⟨sG, hDG⟩ := hP
          obtain ⟨T, u, v2, rfl, hT, rfl, hu, hv⟩ := hy
          obtain ⟨d1, e1, p1⟩ := dpa_at da hu
          obtain ⟨d2, e2, p2⟩ := dpa_at dc hv
          have ed : d1 = d2 := Option.some.inj (e1.symm.trans e2)
          subst ed
          have sT : Same (upd H tp (.tup [.ty "list", .ty "tuple"])) (upd G T (.tup [u, v2])) := sG.trans (same_new hT)
          have hdep : dep d1 < n := by
            have h1 := deps_at e1
            have h2 : dep.deps ds + 1 < n + 1 := hd
            omega
          have hwid : wid d1 ≤ 1000000 := by
            have h1 := wids_at e1
            have h2 : max ds.length (wid.wids ds) ≤ 1000000 := hw
            omega
          refine ⟨T, [u, v2], rfl, .inl (.inl upd_same), rfl, u, [v2], rfl, v2, [], rfl, rfl, ?_⟩
          refine ⟨rfl, ?_⟩
          unfold tYes
          refine iteT ?_
          refine ⟨_, rfl, _, rfl, u, v2, d1, rfl, dp_same sT _ _ p1, dp_same sT _ _ p2, hdep, hwid, fun G2 s2 => ?_⟩
          have hD2 : G2 D = some (.lst (List.replicate i (.bl true))) := s2 _ _ (same_new hT _ _ hDG)
          refine ⟨_, hD2, ?_, ?_, ?_⟩
          · rw [List.length_replicate]
            exact small6 (by have h1 : max ds.length (wid.wids ds) ≤ 1000000 := hw; have h2 := dpa_len da; omega)
          · intro b o e
            have hb : b ≠ D := ne_of_none e hD
            rw [upd_ne hb]
            exact s2 _ _ (sT _ _ e)
          · rw [upd_same, List.replicate_succ']
        · intro G hP
          obtain ⟨sG, hDG⟩ := hP
          have eb : List.replicate xs.length (V.bl true) = (List.replicate xs.length true).map V.bl := by rw [List.map_replicate]
          rw [eb] at hDG
          refine ⟨D, _, rfl, .inl (.inl hDG), ?_⟩
          rw [all_rep]
          exact q _ (s1.trans sG)
      | tuple ds =>
        cases hx1 with
        | @tup a xs _ ha da =>
        cases hy1 with
        | @tup c ys _ hc dc =>
        refine ⟨_, tp, _, _, _, _, rfl, upd_same, cls2, ty_tup hc, kit_tup K, _, rfl, iteT ?_⟩
        refine ⟨_, rfl, _, _, _, _, _, rfl, .ty _, ty_tup ha, kit_ty (r := false) (by decide +kernel), _, rfl, _, _, _, _, _, rfl, .ty _, ty_tup hc, kit_ty (r := false) (by decide +kernel), rfl, _, rfl, iteF ?_⟩
        refine ⟨_, rfl, _, _, _, _, _, rfl, .ty _, ty_tup ha, kit_ty (r := true) (by decide +kernel), _, rfl, _, _, _, _, _, rfl, .ty _, ty_tup hc, kit_ty (r := true) (by decide +kernel), rfl, _, rfl, iteF ?_⟩
        have hl : xs.length = ys.length := (dpa_len da).trans (dpa_len dc).symm
        refine ⟨_, rfl, a, xs, rfl, .inr ha, _, rfl, c, ys, rfl, .inr hc, rfl, _, rfl, ?_⟩
        rw [decide_eq_true (by rw [hl])]
        refine iteF ?_
        refine ⟨_, rfl, _, rfl, a, c, xs, ys, rfl, .inr ⟨ha, hc, fun D hD => ?_⟩⟩
        refine lc_it (walk_zipT hl) (fun i G => Same (upd H tp (.tup [.ty "list", .ty "tuple"])) G ∧ G D = some (.lst (List.replicate i (.bl true)))) ⟨same_new hD, upd_same⟩ (fun i G _ h => ⟨seqT_same h.1 ha, seqT_same h.1 hc⟩) ?_ ?_
        · intro i v G G1 hi hP hy
          obtain ⟨sG, hDG⟩ := hP
          obtain ⟨T, u, v2, rfl, hT, rfl, hu, hv⟩ := hy
          obtain ⟨d1, e1, p1⟩ := dpa_at da hu
          obtain ⟨d2, e2, p2⟩ := dpa_at dc hv
          have ed : d1 = d2 := Option.some.inj (e1.symm.trans e2)
          subst ed
          have sT : Same (upd H tp (.tup [.ty "list", .ty "tuple"])) (upd G T (.tup [u, v2])) := sG.trans (same_new hT)
          have hdep : dep d1 < n := by
            have h1 := deps_at e1
            have h2 : dep.deps ds + 1 < n + 1 := hd
            omega
          have hwid : wid d1 ≤ 1000000 := by
            have h1 := wids_at e1
            have h2 : max ds.length (wid.wids ds) ≤ 1000000 := hw
            omega
          refine ⟨T, [u, v2], rfl, .inl (.inl upd_same), rfl, u, [v2], rfl, v2, [], rfl, rfl, ?_⟩
          refine ⟨rfl, ?_⟩
          unfold tYes
          refine iteT ?_
          refine ⟨_, rfl, _, rfl, u, v2, d1, rfl, dp_same sT _ _ p1, dp_same sT _ _ p2, hdep, hwid, fun G2 s2 => ?_⟩
          have hD2 : G2 D = some (.lst (List.replicate i (.bl true))) := s2 _ _ (same_new hT _ _ hDG)
          refine ⟨_, hD2, ?_, ?_, ?_⟩
          · rw [List.length_replicate]
            exact small6 (by have h1 : max ds.length (wid.wids ds) ≤ 1000000 := hw; have h2 := dpa_len da; omega)
          · intro b o e
            have hb : b ≠ D := ne_of_none e hD
            rw [upd_ne hb]
            exact s2 _ _ (sT _ _ e)
          · rw [upd_same, List.replicate_succ']
        · intro G hP
          obtain ⟨sG, hDG⟩ := hP
          have eb : List.replicate xs.length (V.bl true) = (List.replicate xs.length true).map V.bl := by rw [List.map_replicate]
          rw [eb] at hDG
          refine ⟨D, _, rfl, .inl (.inl hDG), ?_⟩
          rw [all_rep]
          exact q _ (s1.trans sG)
      | dict ds => cases hx1
theorem okSameD (T : Tx K mg) (n : Nat) : FnOk P w K mg base CX0 n (He.ga K "_law_same") T.fdLSame ["_law_found", "_law_due"] (spD K 2 (wSame n)) := (okLSame T n).imp fun vs H Q E h => same_imp h

end
section
variable {P : Program} {w : World} {K : PySem.W.Frag} {mg : Str → Option Value} {base : Heap}
local macro_rules | `(tactic| get_elem_tactic_trivial) => `(tactic| (repeat first | exact Wk.nil | exact Wk'.nil | refine Wk.same ?_ | refine Wk'.same ?_ | refine Wk.un (fun _ z => nomatch z) ?_ | refine Wk'.un ?_))
def LT : Str := "abcdefghijklmnopqrstuvwxyz"
def sg (d : Nat) : Str := ⟨#[97 + d]⟩
def nm (l : List Nat) : Str := ⟨(l.map (97 + ·)).toArray⟩
def num : List Nat → Int := fun l => l.foldl (fun (a : Int) (d : Nat) => a * 27 + (d : Int) + 1) 0
structure Gd (l : List Nat) : Prop where
  lt : ∀ d ∈ l, d < 26
  lo : 1 ≤ l.length
  hi : l.length ≤ 4
theorem occ_at : ∀ d, d < 26 → Builtin.Str.occurrences LT (sg d) 0 LT.length 1 = d :: [] := by decide +kernel
theorem lt_at : ∀ d, d < 26 → LT.cps.toList[d]? = some (97 + d) := by decide +kernel
theorem lt_in {c : Nat} : c ∈ LT.cps.toList ↔ 97 ≤ c ∧ c < 123 := by
  have e : LT.cps.toList = [97, 98, 99, 100, 101, 102, 103, 104, 105, 106, 107, 108, 109, 110, 111, 112, 113, 114, 115, 116, 117, 118, 119, 120, 121, 122] := by decide +kernel
  rw [e]
  simp only [List.mem_cons, List.not_mem_nil, or_false]
  omega
theorem nm_len (l : List Nat) : (nm l).length = l.length := by
  show (l.map (97 + ·)).toArray.size = l.length
  simp
theorem nm_size (l : List Nat) : (nm l).cps.size = l.length := nm_len l
theorem nm_cons (d : Nat) (l : List Nat) : sg d ++ nm l = nm (d :: l) := by
  show (⟨(sg d).cps ++ (nm l).cps⟩ : Str) = nm (d :: l)
  unfold nm sg
  simp
theorem num_nil : num [] = 0 := rfl
theorem num_snoc (l : List Nat) (d : Nat) : num (l ++ [d]) = num l * 27 + d + 1 := by
  unfold num
  rw [List.foldl_append]
  rfl
theorem snoc_ind {P : List Nat → Prop} (h0 : P []) (hs : ∀ l d, P l → P (l ++ [d])) (l : List Nat) : P l := by
  have h : ∀ n (l : List Nat), l.length = n → P l := by
    intro n
    induction n with
    | zero =>
      intro l e
      have : l = [] := List.eq_nil_of_length_eq_zero e
      rw [this]; exact h0
    | succ n ih =>
      intro l e
      have hne : l ≠ [] := fun z => by rw [z] at e; cases e
      rw [← List.dropLast_concat_getLast hne]
      exact hs _ _ (ih _ (by rw [List.length_dropLast, e]; rfl))
  exact h _ l rfl
theorem num_nonneg (l : List Nat) : 0 ≤ num l := snoc_ind (P := fun l => 0 ≤ num l) (by rw [num_nil]; exact Int.le_refl _) (fun l d ih => by rw [num_snoc]; omega) l
theorem num_hi (l : List Nat) (h : ∀ d ∈ l, d < 26) : num l < 27 ^ l.length :=
  snoc_ind (P := fun l => (∀ d ∈ l, d < 26) → num l < 27 ^ l.length) (fun _ => by rw [num_nil]; decide) (fun l d ih h => by
    rw [num_snoc, List.length_append, List.length_singleton, Int.pow_succ]
    have h1 := ih fun e he => h e (List.mem_append_left _ he)
    have h2 := h d (List.mem_append_right _ (List.mem_singleton.mpr rfl))
    omega) l h
def isNm (z : Str) : Bool := decide (1 ≤ z.length) && (decide (z.length ≤ 4) && z.cps.toList.all fun c => decide (c ∈ LT.cps.toList))
theorem isNm_nm {l : List Nat} (h : Gd l) : isNm (nm l) = true := by
  unfold isNm
  rw [nm_len, decide_eq_true h.lo, decide_eq_true h.hi]
  have e : (nm l).cps.toList = l.map (97 + ·) := by simp [nm]
  rw [e, List.all_map]
  show l.all _ = true
  rw [List.all_eq_true]
  intro d hd
  have := h.lt d hd
  show decide (97 + d ∈ LT.cps.toList) = true
  exact decide_eq_true (lt_in.mpr ⟨by omega, by omega⟩)
theorem join_sg (l : List Nat) : Txt.join (Str.ofString "") (l.map sg) = nm l := by
  show Builtin.Str.glued _ _ = _
  rw [StrLaws.glued_eq_join]
  have go : ∀ l : List Nat, Str.join (Str.ofString "") (l.map sg) = nm l := by
    intro l
    induction l with
    | nil => rfl
    | cons d l ih =>
      cases l with
      | nil =>
        show sg d = nm [d]
        unfold sg nm
        simp
      | cons e l =>
        show sg d ++ Str.ofString "" ++ Str.join (Str.ofString "") ((e :: l).map sg) = nm (d :: e :: l)
        rw [ih, ← nm_cons d]
        show (⟨((sg d).cps ++ (Str.ofString "").cps) ++ (nm (e :: l)).cps⟩ : Str) = ⟨(sg d).cps ++ (nm (e :: l)).cps⟩
        have z : (Str.ofString "").cps = #[] := by decide +kernel
        rw [z, Array.append_empty]
  exact go l

end
section
variable {P : Program} {w : World} {K : PySem.W.Frag} {mg : Str → Option Value} {base : Heap}
local macro_rules | `(tactic| get_elem_tactic_trivial) => `(tactic| (repeat first | exact Wk.nil | exact Wk'.nil | refine Wk.same ?_ | refine Wk'.same ?_ | refine Wk.un (fun _ z => nomatch z) ?_ | refine Wk'.un ?_))
/-! what is a name, a number -/
def isNameD : Dt → Bool
  | .str z => isNm z
  | _ => false
def isNumD : Dt → Bool
  | .int _ => true
  | _ => false
def wB (f : Dt → Bool) : WF := fun ps Ψ => ∃ d : Dt, ps = [.dat d] ∧ Nice 60 8000 d ∧ Ψ (.dat (.bl (f d))) ps
theorem nice_size {n b : Nat} {z : Str} (h : Nice n b (.str z)) : z.length ≤ b := by
  have := h.bk
  simp only [Dt.py, PyData.bulk] at this
  exact this
theorem signs_at {z : Str} {j : Nat} {d : Dt} (h : (signs z)[j]? = some d) : ∃ c, z.cps.toList[j]? = some c ∧ d = .str ⟨#[c]⟩ := by
  unfold signs at h
  rw [List.getElem?_map] at h
  cases q : z.cps.toList[j]? with
  | none => rw [q] at h; cases h
  | some c => rw [q] at h; cases h; exact ⟨c, rfl, rfl⟩
theorem signs_len (z : Str) : (signs z).length = z.length := by
  unfold signs
  rw [List.length_map]
  simp [Str.length]
theorem bls_map : ∀ bs : List Bool, bls (bs.map .bl) = some bs
  | [] => rfl
  | b :: bs => by
    show (match bls (bs.map .bl) with | some cs => some (b :: cs) | none => none) = _
    rw [bls_map bs]
/-- the signs that are letters -/
def lets (l : List Nat) : List Bool := l.map fun c => decide (c ∈ LT.cps.toList)
theorem lets_take {z : Str} {j c : Nat} (h : z.cps.toList[j]? = some c) : (lets (z.cps.toList.take j)).map Dt.bl ++ [.bl (decide (c ∈ LT.cps.toList))] = (lets (z.cps.toList.take (j + 1))).map Dt.bl := by
  rw [List.take_add_one, h]
  unfold lets
  rw [List.map_append, List.map_append]
  rfl
theorem isNm_lets {z : Str} (h1 : 1 ≤ z.length) (h4 : z.length ≤ 4) : isNm z = (lets z.cps.toList).all id := by
  unfold isNm lets
  rw [decide_eq_true h1, decide_eq_true h4, List.all_map]
  rfl
theorem okIsName (T : Tx K mg) : FnOk P w K mg base CX0 1 (He.ga K "is_name") T.fdIsName ["thing"] (spD K 1 (wB isNameD)) := by
  have B := T.B
  refine T.FIsName.ok scIsName (fun vs H Q E h => h.1) (fun cdv A outer s H vs Q E hr h => ?_)
  refine ⟨_, PSs.nox (pss_cons (ps_if (PW.pt (pw_or (pt_not (pt_val (pe_callB (show CallR _ _ (rIsi K) from call_isi) (by rfl) B.b_isinstance boot_isinstance (pa_cons (pv 0) (pa_cons (pe_bltn (v := .ty "str") (by rfl) B.b_str PyProof.Rows.boot_str rfl) pa_nil))))) (pw_or1 (pt_not (pt_chain op_le op_le pe_int (pe_callB (show CallR _ _ (rLen K) from call_len) (by rfl) B.b_len PySem.boot_len (pa_cons (pv 0) pa_nil)) (pe_glob (v := .int 4) (by rfl) T.c_LONGEST.choose_spec ⟨_, rfl⟩)))))) (pss_one (ps_ret pe_bl)) pss_nil)
        (pss_one (ps_ret (pe_callB (show CallR _ _ (rAll K) from cr_all rfl) (by rfl) B.b_all boot_all (pa_cons (pe_lc (own := [("letter", 1)]) (g := gName 1) (tt := tYes) (by rfl) scIsName.nd (pi_str (pv 0)) (blkOk_by (own := [("letter", 1)]) (N := ["thing", "letter"]) (sc := defScope sIsName) (by decide +kernel)) (fun _ _ _ _ _ => by exact (pg_name (i := 1) scIsName.nd rfl (Or.inl rfl))) (fun _ _ _ _ _ => pts_nil) (fun _ _ _ _ _ => (pe_cmpR (show OpR _ _ rSgn from op_in_sign) (pv 1) (pe_glob (v := .str "abcdefghijklmnopqrstuvwxyz") (by rfl) T.c_LETTERS.choose_spec ⟨_, rfl⟩) (by rfl)))) pa_nil))))), ?_⟩
  refine bodyD h (fun ps Ψ hw hl => ?_)
  obtain ⟨d, rfl, hn, q⟩ := hw
  cases d with
  | str z =>
    have hz := nice_size hn
    have sz : sizeLine = 16777216 := by decide
    refine ⟨by rw [sz]; omega, ite2 (fun e => ?_) (fun e => ?_)⟩
    · have l1 : (1 : Int) ≤ (z.length : Nat) := of_decide_eq_true e
      by_cases l4 : ((z.length : Nat) : Int) ≤ 4
      · refine ifF (by show (!decide (((z.length : Nat) : Int) ≤ 4)) = false; rw [decide_eq_true l4]; rfl) ?_
        refine ⟨⟨rfl, rfl⟩, fun j acc ρ => acc = (lets (z.cps.toList.take j)).map .bl ∧ ρ = [.dat (.str z), .un] ∧ j ≤ z.length, ⟨rfl, rfl, Nat.zero_le _⟩, ?_, ?_⟩
        · rintro j acc ρ d hd ⟨rfl, rfl, hj⟩
          obtain ⟨c, hc, rfl⟩ := signs_at hd
          have hj2 : j < z.length := by
            have := (List.getElem?_eq_some_iff.mp hd).1
            rw [signs_len] at this
            exact this
          refine ⟨c, rfl, rfl, ?_, lets_take hc, rfl, hj2⟩
          rw [List.length_map]
          unfold lets
          rw [List.length_map, List.length_take, sz]
          omega
        · rintro acc ρ ⟨rfl, rfl, hj⟩
          have el : z.cps.toList.take (signs z).length = z.cps.toList := by
            rw [signs_len]
            exact List.take_of_length_le (by simp [Str.length])
          rw [el]
          refine ⟨rfl, _, bls_map _, ?_⟩
          have e9 := isNm_lets (z := z) (by omega) (by omega)
          have q2 : Ψ (.dat (.bl (isNm z))) [.dat (.str z)] := q
          rw [e9] at q2
          exact q2
      · refine ifT (by show (!decide (((z.length : Nat) : Int) ≤ 4)) = true; rw [decide_eq_false l4]; rfl) ?_
        have en : isNm z = false := by
          unfold isNm
          rw [decide_eq_false (show ¬ z.length ≤ 4 by omega)]
          cases decide (1 ≤ z.length) <;> rfl
        have q2 : Ψ (.dat (.bl (isNm z))) [.dat (.str z)] := q
        rw [en] at q2
        exact q2
    · have l1 : ¬ (1 : Int) ≤ (z.length : Nat) := fun y => e (decide_eq_true y)
      have en : isNm z = false := by
        unfold isNm
        rw [decide_eq_false (show ¬ 1 ≤ z.length by omega)]
        rfl
      have q2 : Ψ (.dat (.bl (isNm z))) [.dat (.str z)] := q
      rw [en] at q2
      exact q2
  | obj c ns ds => exact nomatch hn.pu
  | err c d => exact nomatch hn.pu
  | adr a_ => exact nomatch hn.pu
  | dic _ _ => exact nomatch hn.pu
  | scr ns => exact nomatch hn.pu
  | _ => exact q
theorem okIsNumber (T : Tx K mg) : FnOk P w K mg base CX0 1 (He.ga K "is_number") T.fdIsNumber ["thing"] (spD K 1 (wB isNumD)) := by
  have B := T.B
  refine T.FIsNumber.ok scIsNumber (fun vs H Q E h => h.1) (fun cdv A outer s H vs Q E hr h => ?_)
  refine ⟨_, PSs.nox (pss_one (ps_ret (pe_and (pe_callB (show CallR _ _ (rIsi K) from call_isi) (by rfl) B.b_isinstance boot_isinstance (pa_cons (pv 0) (pa_cons (pe_bltn (v := .ty "int") (by rfl) B.b_int PyProof.Rows.boot_int rfl) pa_nil))) (pe_one (pe_not (pe_callB (show CallR _ _ (rIsi K) from call_isi) (by rfl) B.b_isinstance boot_isinstance (pa_cons (pv 0) (pa_cons (pe_bltn (v := .ty "bool") (by rfl) B.b_bool PyProof.Rows.boot_bool rfl) pa_nil)))))))), ?_⟩
  refine bodyD h (fun ps Ψ hw hl => ?_)
  obtain ⟨d, rfl, hn, q⟩ := hw
  cases d with
  | obj c ns ds => exact nomatch hn.pu
  | err c d => exact nomatch hn.pu
  | adr a_ => exact nomatch hn.pu
  | dic _ _ => exact nomatch hn.pu
  | _ => exact q

end
section
variable {P : Program} {w : World} {K : PySem.W.Frag} {mg : Str → Option Value} {base : Heap}
local macro_rules | `(tactic| get_elem_tactic_trivial) => `(tactic| (repeat first | exact Wk.nil | exact Wk'.nil | refine Wk.same ?_ | refine Wk'.same ?_ | refine Wk.un (fun _ z => nomatch z) ?_ | refine Wk'.un ?_))
/-! names cut, names that are shown -/
theorem nm_ok {l : List Nat} (h : ∀ d ∈ l, d < 26) : PyData.strOk (nm l) = true := by
  unfold PyData.strOk nm
  rw [List.all_toArray, List.all_eq_true]
  intro c hc
  obtain ⟨d, hd, rfl⟩ := List.mem_map.mp hc
  have := h d hd
  exact decide_eq_true (by omega)
theorem nm_app (a b : List Nat) : nm a ++ nm b = nm (a ++ b) := by
  show (⟨(nm a).cps ++ (nm b).cps⟩ : Str) = nm (a ++ b)
  unfold nm
  simp
theorem nm_one (d : Nat) : sg d = nm [d] := rfl
theorem nm_cps (l : List Nat) : (nm l).cps.toList = l.map (97 + ·) := by simp [nm]
theorem nm_cutT {l : List Nat} {i : Int} (h0 : 0 ≤ i) : cutS (nm l) none (some i) = nm (l.take i.toNat) := by
  unfold cutS
  rw [nm_len, nm_cps]
  have e : HT.sIx l.length 0 none = 0 := rfl
  have e2 : HT.sIx l.length l.length (some i) = min i.toNat l.length := by
    show (if i < 0 then (i + (l.length : Int)).toNat else min i.toNat l.length) = _
    rw [if_neg (by omega)]
  rw [e, e2, List.drop_zero, Nat.sub_zero, ← List.map_take]
  unfold nm
  rw [show l.take (min i.toNat l.length) = l.take i.toNat by
    rcases Nat.le_total i.toNat l.length with h | h
    · rw [Nat.min_eq_left h]
    · rw [Nat.min_eq_right h, List.take_of_length_le h, List.take_of_length_le (Nat.le_refl _)]]
theorem nm_cutD {l : List Nat} {i : Int} (h0 : 0 ≤ i) : cutS (nm l) (some i) none = nm (l.drop i.toNat) := by
  unfold cutS
  rw [nm_len, nm_cps]
  have e : HT.sIx l.length 0 (some i) = min i.toNat l.length := by
    show (if i < 0 then (i + (l.length : Int)).toNat else min i.toNat l.length) = _
    rw [if_neg (by omega)]
  have e2 : HT.sIx l.length l.length none = l.length := rfl
  rw [e, e2, ← List.map_drop, List.take_of_length_le (by rw [List.length_map, List.length_drop]; omega)]
  unfold nm
  rw [show l.drop (min i.toNat l.length) = l.drop i.toNat by
    rcases Nat.le_total i.toNat l.length with h | h
    · rw [Nat.min_eq_left h]
    · rw [Nat.min_eq_right h, List.drop_of_length_le h, List.drop_of_length_le (Nat.le_refl _)]]
def nD (l : List Nat) : Dt := .str (nm l)
theorem nice_nm {l : List Nat} (h : Gd l) : Nice 0 4 (nD l) := nice_str (nm_ok h.lt) (b := 4) (by rw [nm_size]; exact h.hi)
end
section
variable {P : Program} {w : World} {K : PySem.W.Frag} {mg : Str → Option Value} {base : Heap}
local macro_rules | `(tactic| get_elem_tactic_trivial) => `(tactic| (repeat first | exact Wk.nil | exact Wk'.nil | refine Wk.same ?_ | refine Wk'.same ?_ | refine Wk.un (fun _ z => nomatch z) ?_ | refine Wk'.un ?_))
theorem nice_small {i : Int} (h0 : -10000000000 < i) (h1 : i < 10000000000) : Nice 0 0 (.int i) := nice_int (by
  have h2 : i.natAbs < 2 ^ 40 := by omega
  exact Nat.lt_of_lt_of_le h2 (Nat.pow_le_pow_right (by decide) (by decide)))
theorem nice_word {x : Str} (h : PyData.strOk x = true) (h2 : x.cps.size ≤ 5) : Nice 0 5 (.str x) := nice_str h h2
end
section
variable {P : Program} {w : World} {K : PySem.W.Frag} {mg : Str → Option Value} {base : Heap}
local macro_rules | `(tactic| get_elem_tactic_trivial) => `(tactic| (repeat first | exact Wk.nil | exact Wk'.nil | refine Wk.same ?_ | refine Wk'.same ?_ | refine Wk.un (fun _ z => nomatch z) ?_ | refine Wk'.un ?_))
/-! draws -/
def wPick : WF := fun ps Ψ => ∃ (n : Int) (ds : List Dt), ps = [.box n, .dat (.lst ds)] ∧ n < 900000000 ∧ ds ≠ [] ∧ ds.length ≤ 1000 ∧ ∀ d ∈ ds, Ψ (.dat d) [.box (n + 1), .dat (.lst ds)]
theorem okLPick (T : Tx K mg) : FnOk P w K mg base CX0 2 (He.ga K "_law_pick") T.fdLPick ["_law_box_here", "_law_things"] (spD K 2 wPick) := by
  have B := T.B
  have GLTake : FnOk P w K mg base CX0 1 (He.ga K "_law_take") T.fdLTake ["_law_box_here", "_law_size"] (spD K 2 wTake) := okTakeD T
  have bLTake := T.bLTake
  refine T.FLPick.ok scLPick (fun vs H Q E h => h.1) (fun cdv A outer s H vs Q E hr h => ?_)
  refine ⟨_, PSs.nox (pss_one (ps_ret (pe_ix (show IxR _ (rIx K) from ix_seq) (pv 1) (pe_call GLTake (hr.mono (by decide)) (by rfl) T.gLTake T.FLTake.kp bLTake .nil pass0 (pa_cons (pv 0) (pa_cons (pe_callB (show CallR _ _ (rLen K) from call_len) (by rfl) B.b_len PySem.boot_len (pa_cons (pv 1) pa_nil)) pa_nil))) (fun _ _ => rfl)))), ?_⟩
  refine bodyD h (fun ps Ψ hw hl => ?_)
  obtain ⟨n, ds, rfl, hn, h0, hl, q⟩ := hw
  have hp : 0 < ds.length := List.length_pos_iff.mpr h0
  refine ⟨rfl, ⟨by omega, by omega, by omega⟩, fun r r0 r1 => ?_⟩
  obtain ⟨d, ed, md⟩ := atD r0 r1
  exact ⟨d, ed, q d md⟩
def wNames : List Sl → (List Dt → List Sl → Prop) → Prop := fun ps Ψ => ∃ (n k : Int), ps = [.box n, .dat (.int k)] ∧ n < 800000000 ∧ 0 ≤ k ∧ k ≤ 100 ∧ ∀ (ls : List (List Nat)) (m : Int), (∀ l ∈ ls, Gd l) → (ls.length : Int) = k → m ≤ n + 7 → Ψ (ls.map nD) [.box m, .dat (.int k)]
theorem sum_sg : ∀ l : List Nat, ((l.map sg).map (·.length)).sum = l.length
  | [] => rfl
  | d :: l => by
    show (sg d).length + ((l.map sg).map (·.length)).sum = _
    rw [sum_sg l]
    show 1 + l.length = l.length + 1
    omega
theorem okLNames (T : Tx K mg) : FnOk P w K mg base CX0 2 (He.ga K "_law_names") T.fdLNames ["_law_box_here", "_law_size"] (spN K 2 wNames) := by
  have B := T.B
  have GLTake : FnOk P w K mg base CX0 1 (He.ga K "_law_take") T.fdLTake ["_law_box_here", "_law_size"] (spD K 2 wTake) := okTakeD T
  have bLTake := T.bLTake
  refine T.FLNames.ok scLNames (fun vs H Q E h => h.1) (fun cdv A outer s H vs Q E hr h => ?_)
  refine ⟨_, PSs.nox (pss_cons (ps_asg (pe_tup (pa_cons pe_str (pa_cons (pe_call GLTake (hr.mono (by decide)) (by rfl) T.gLTake T.FLTake.kp bLTake .nil pass0 (pa_cons (pv 0) (pa_cons pe_int pa_nil))) (pa_cons (pe_ix (show IxR _ (rIx K) from ix_seq) (pe_lst (pa_cons pe_int (pa_cons pe_int (pa_cons pe_int (pa_cons pe_int pa_nil))))) (pe_call GLTake (hr.mono (by decide)) (by rfl) T.gLTake T.FLTake.kp bLTake .nil pass0 (pa_cons (pv 0) (pa_cons pe_int pa_nil))) (fun _ _ => rfl)) pa_nil)))) (show PG _ _ (gTup K 3 _) from pg_tup rfl (pgs_cons (pg_name (i := 2) scLNames.nd rfl (Or.inr rfl)) (pgs_cons (pg_name (i := 3) scLNames.nd rfl (Or.inr rfl)) (pgs_cons (pg_name (i := 4) scLNames.nd rfl (Or.inr rfl)) pgs_nil)))))
        (pss_cons (ps_set (i := 5) scLNames.nd rfl (.inr rfl) (show PE _ _ (tM1 (cJoin K) _ _) from pe_join pe_str (pe_lc (own := [("_law_k", 6)]) (g := gName 6) (tt := tYes) (by rfl) scLNames.nd (pi_range1 (by rfl) B.b_range (pa_cons (pe_call GLTake (hr.mono (by decide)) (by rfl) T.gLTake T.FLTake.kp bLTake .nil pass0 (pa_cons (pv 0) (pa_cons pe_int pa_nil))) pa_nil)) (blkOk_by (own := [("_law_k", 6)]) (N := ["_law_box_here", "_law_size", "_law_letters", "_law_begun", "_law_by", "_law_tail", "_law_k", "_law_at"]) (sc := defScope sLNames) (by decide +kernel)) (fun _ _ _ _ _ => by exact (pg_name (i := 6) scLNames.nd rfl (Or.inl rfl))) (fun _ _ _ _ _ => pts_nil) (fun _ _ _ _ _ => (pe_ix (show IxR _ (rIx K) from ix_seq) (pv 2) (pe_call GLTake (hr.mono (by decide)) (by rfl) T.gLTake T.FLTake.kp bLTake .nil pass0 (pa_cons (pv 0) (pa_cons pe_int pa_nil))) (fun _ _ => rfl))))))
        (pss_cons (ps_set (i := 7) scLNames.nd rfl (.inr rfl) (pe_call GLTake (hr.mono (by decide)) (by rfl) T.gLTake T.FLTake.kp bLTake .nil pass0 (pa_cons (pv 0) (pa_cons (pe_op op_add (pe_callB (show CallR _ _ (rLen K) from call_len) (by rfl) B.b_len PySem.boot_len (pa_cons (pv 5) pa_nil)) pe_int) pa_nil))))
        (pss_one (ps_ret (pe_lc (own := [("_law_k", 6)]) (g := gName 6) (tt := tYes) (by rfl) scLNames.nd (pi_range1 (by rfl) B.b_range (pa_cons (pv 1) pa_nil)) (blkOk_by (own := [("_law_k", 6)]) (N := ["_law_box_here", "_law_size", "_law_letters", "_law_begun", "_law_by", "_law_tail", "_law_k", "_law_at"]) (sc := defScope sLNames) (by decide +kernel)) (fun _ _ _ _ _ => by exact (pg_name (i := 6) scLNames.nd rfl (Or.inl rfl))) (fun _ _ _ _ _ => pts_nil) (fun _ _ _ _ _ => (pe_op (show OpR _ _ rAddS from op_add_str) (pe_op (show OpR _ _ rAddS from op_add_str) (pe_slice (show SlR _ rSlS from sl_str) (pv 5) po_none (po_some (pv 7))) (pe_ix (show IxR _ (rIx K) from ix_seq) (pv 2) (pe_op op_mod (pe_op op_add (pv 3) (pe_op op_mul (pv 4) (pv 6))) pe_int) (fun _ _ => rfl))) (pe_slice (show SlR _ rSlS from sl_str) (pv 5) (po_some (pv 7)) po_none))))))))), ?_⟩
  refine bodyD h (fun ps Ψ hw hl => ?_)
  obtain ⟨n, k, rfl, hn, h0, h1, q⟩ := hw
  refine ⟨rfl, ⟨by omega, by decide, by decide⟩, fun b b0 b1 => ⟨by show 4 ≤ sizeLine; decide, rfl, ⟨by omega, by decide, by decide⟩, fun c c0 c1 => ?_⟩⟩
  obtain ⟨v, ev, mv⟩ := atD (xs := [Dt.int 1, .int 3, .int 7, .int 25]) c0 c1
  obtain ⟨y, rfl, y0, y1⟩ : ∃ y : Int, v = .int y ∧ 0 ≤ y ∧ y ≤ 25 := by
    simp only [List.mem_cons, List.mem_nil_iff, or_false] at mv
    rcases mv with rfl | rfl | rfl | rfl <;> exact ⟨_, rfl, by decide, by decide⟩
  have sz : sizeLine = 16777216 := by decide
  refine ⟨_, ev, by show 3 ≤ sizeLine; decide, rfl, rfl, ⟨by omega, by decide, by decide⟩, fun r r0 r1 => ?_⟩
  refine ⟨by omega, by omega, ⟨rfl, rfl⟩, fun j acc ρ => ∃ (l : List Nat) (m : Int), acc = (l.map sg).map .str ∧ ρ = [.box m, .dat (.int k), .dat (.str LT), .dat (.int b), .dat (.int y), .un, .un, .un] ∧ l.length = j ∧ (∀ d ∈ l, d < 26) ∧ m ≤ n + 3 + j, ⟨[], _, rfl, rfl, rfl, (fun _ z => nomatch z), by omega⟩, ?_, ?_⟩
  · rintro j acc ρ d hd ⟨l, m, rfl, rfl, hlen, hl, hm⟩
    obtain ⟨hj, rfl⟩ := rng_at hd
    refine ⟨rfl, ⟨by omega, by decide, by decide⟩, fun c c0 c1 => ?_⟩
    have hc : c.toNat < 26 := by omega
    refine ⟨by decide, 97 + c.toNat, atD_of c0 (lt_at _ hc), rfl, ?_, l ++ [c.toNat], _, ?_, rfl, ?_, ?_, ?_⟩
    · rw [List.length_map, List.length_map]
      exact small6 (by omega)
    · rw [List.map_append, List.map_append]
      rfl
    · rw [List.length_append, hlen]
      rfl
    · intro k hk
      rcases List.mem_append.mp hk with z | z
      · exact hl k z
      · rw [List.mem_singleton.mp z]
        exact hc
    · omega
  · rintro acc ρ ⟨l, m, rfl, rfl, hlen, hl, hm⟩
    rw [rng_len] at hlen hm
    refine ⟨rfl, l.map sg, txts_map _, ?_, ?_⟩
    · rw [sum_sg, List.length_map]
      show l.length + l.length * 0 ≤ _
      omega
    rw [join_sg]
    refine ⟨by rw [nm_len]; omega, rfl, ⟨by omega, by rw [nm_len]; omega, by rw [nm_len]; omega⟩, fun t t0 t1 => ?_⟩
    rw [nm_len] at t1
    refine ⟨by omega, by omega, ⟨rfl, rfl⟩, fun j acc ρ => ∃ ls : List (List Nat), acc = ls.map nD ∧ (∀ x ∈ ls, Gd x) ∧ ls.length = j ∧ ρ = [.box (m + 1), .dat (.int k), .dat (.str LT), .dat (.int b), .dat (.int y), .dat (.str (nm l)), .un, .dat (.int t)], ⟨[], rfl, (fun _ z => nomatch z), rfl, rfl⟩, ?_, ?_⟩
    · rintro j acc ρ d hd ⟨ls, rfl, gls, hlj, rfl⟩
      obtain ⟨hj, rfl⟩ := rng_at hd
      have hm26 : 0 ≤ (b + y * ((0 : Int) + (j : Nat))) % 26 ∧ (b + y * ((0 : Int) + (j : Nat))) % 26 < 26 := ⟨Int.emod_nonneg _ (by decide), Int.emod_lt_of_pos _ (by decide)⟩
      have hc : ((b + y * ((0 : Int) + (j : Nat))) % 26).toNat < 26 := by omega
      have lT : (nm l).length ≤ sizeLine := by rw [nm_len]; omega
      have e1 : cutS (nm l) none (some t) ++ (⟨#[97 + ((b + y * ((0 : Int) + (j : Nat))) % 26).toNat]⟩ : Str) ++ cutS (nm l) (some t) none = nm (l.take t.toNat ++ [((b + y * ((0 : Int) + (j : Nat))) % 26).toNat] ++ l.drop t.toNat) := by
        rw [nm_cutT t0, nm_cutD t0, ← nm_app, ← nm_app]
        rfl
      have c1 : (cutS (nm l) none (some t)).length ≤ 3 := by rw [nm_cutT t0, nm_len, List.length_take]; omega
      have c2 : (cutS (nm l) (some t) none).length ≤ 3 := by rw [nm_cutD t0, nm_len, List.length_drop]; omega
      refine ⟨lT, .inl ⟨by omega, by omega⟩, (show (0 : Int) < 26 by decide), by decide, 97 + ((b + y * ((0 : Int) + (j : Nat))) % 26).toNat, atD_of hm26.1 (lt_at _ hc), ?_⟩
      have l12 : (cutS (nm l) none (some t) ++ (⟨#[97 + ((b + y * ((0 : Int) + (j : Nat))) % 26).toNat]⟩ : Str)).length ≤ 4 := by
        rw [nm_cutT t0]
        show (nm _ ++ sg _).length ≤ 4
        rw [nm_one, nm_app, nm_len, List.length_append, List.length_take]
        show _ + 1 ≤ 4
        omega
      refine ⟨by show _ + 1 ≤ sizeLine; omega, lT, by omega, rfl, ?_, ls ++ [l.take t.toNat ++ [((b + y * ((0 : Int) + (j : Nat))) % 26).toNat] ++ l.drop t.toNat], ?_, ?_, ?_, rfl⟩
      · rw [List.length_map]
        exact small6 (by omega)
      · rw [List.map_append]
        show _ ++ [Dt.str _] = _ ++ [nD _]
        rw [e1]
        rfl
      · intro x hx
        rcases List.mem_append.mp hx with z | z
        · exact gls x z
        · rw [List.mem_singleton.mp z]
          refine ⟨fun d hd => ?_, ?_, ?_⟩
          · rcases List.mem_append.mp hd with z | z
            · rcases List.mem_append.mp z with z | z
              · exact hl d (List.mem_of_mem_take z)
              · rw [List.mem_singleton.mp z]
                exact hc
            · exact hl d (List.mem_of_mem_drop z)
          · rw [List.length_append, List.length_append]
            show 1 ≤ _ + 1 + _
            omega
          · rw [List.length_append, List.length_append, List.length_take, List.length_drop]
            show _ + 1 + _ ≤ 4
            omega
      · rw [List.length_append, hlj]
        rfl
    · rintro acc ρ ⟨ls, rfl, gls, hlj, rfl⟩
      rw [rng_len] at hlj
      refine ⟨rfl, ?_⟩
      exact q ls _ gls (by omega) (by omega)
end
section
variable {P : Program} {w : World} {K : PySem.W.Frag} {mg : Str → Option Value} {base : Heap}
local macro_rules | `(tactic| get_elem_tactic_trivial) => `(tactic| (repeat first | exact Wk.nil | exact Wk'.nil | refine Wk.same ?_ | refine Wk'.same ?_ | refine Wk.un (fun _ z => nomatch z) ?_ | refine Wk'.un ?_))
def rwD (b : Int) (w : Str) (l : List Nat) (t : Int) : Dt := .tup [.int b, .str w, nD l, .int t]
def W5 : List Str := ["load", "set", "end", "late", "reset"]
theorem small_word {w : Str} (h : w ∈ W5) : PyData.strOk w = true ∧ w.cps.size ≤ 5 := by
  simp only [W5, List.mem_cons, List.mem_nil_iff, or_false] at h
  rcases h with rfl | rfl | rfl | rfl | rfl <;> decide +kernel
/-! rows, and how rules stand to them -/
structure Rw where
  b : Int
  w : Str
  l : List Nat
  t : Int
def Rw.d (x : Rw) : Dt := rwD x.b x.w x.l x.t
structure Rw.ok (x : Rw) : Prop where
  b0 : 0 ≤ x.b
  b1 : x.b < 100
  hw : x.w ∈ W5
  g : Gd x.l
  t0 : 0 ≤ x.t
  t1 : x.t < 9973
theorem nice_rw {x : Rw} (h : x.ok) : Nice 1 24 x.d := by
  refine (nice_tup (n := 0) (b := 5) (ds := [.int x.b, .str x.w, nD x.l, .int x.t]) fun e he => ?_).mono (Nat.le_refl _) (by show 4 * 6 ≤ 24; decide)
  simp only [List.mem_cons, List.mem_nil_iff, or_false] at he
  rcases he with rfl | rfl | rfl | rfl
  · exact (nice_small (by have := h.b0; omega) (by have := h.b1; omega)).mono (by decide) (by decide)
  · exact nice_word (small_word h.hw).1 (small_word h.hw).2
  · exact (nice_nm h.g).mono (by decide) (by decide)
  · exact (nice_small (by have := h.t0; omega) (by have := h.t1; omega)).mono (by decide) (by decide)
theorem nice_rws {xs : List Rw} {n : Nat} (h : ∀ x ∈ xs, x.ok) (l : xs.length ≤ n) : Nice 2 (n * 25) (.lst (xs.map Rw.d)) := by
  refine (nice_lst (n := 1) (b := 24) fun d hd => ?_).mono (Nat.le_refl _) (by rw [List.length_map]; exact Nat.mul_le_mul_right _ l)
  obtain ⟨r, hr, rfl⟩ := List.mem_map.mp hd
  exact nice_rw (h r hr)
theorem take_at {α : Type} {l : List α} {j : Nat} {x : α} (h : l[j]? = some x) : l.take (j + 1) = l.take j ++ [x] := by
  rw [List.take_add_one, h]
  rfl

end
section
variable {P : Program} {w : World} {K : PySem.W.Frag} {mg : Str → Option Value} {base : Heap}
local macro_rules | `(tactic| get_elem_tactic_trivial) => `(tactic| (repeat first | exact Wk.nil | exact Wk'.nil | refine Wk.same ?_ | refine Wk'.same ?_ | refine Wk.un (fun _ z => nomatch z) ?_ | refine Wk'.un ?_))
/-! steps of a log -/
def numW (lo hi : Int) : Dt → Bool
  | .int i => decide (lo ≤ i) && decide (i ≤ hi)
  | _ => false
def wWithin : WF := fun ps Ψ => ∃ (d : Dt) (lo hi : Int), ps = [.dat d, .dat (.int lo), .dat (.int hi)] ∧ Nice 60 8000 d ∧ Ψ (.dat (.bl (numW lo hi d))) ps
theorem okIsWithin (T : Tx K mg) : FnOk P w K mg base CX0 2 (He.ga K "is_within") T.fdIsWithin ["thing", "least", "greatest"] (spD K 3 wWithin) := by
  have B := T.B
  have GIsNumber : FnOk P w K mg base CX0 1 (He.ga K "is_number") T.fdIsNumber ["thing"] (spD K 1 (wB isNumD)) := okIsNumber T
  have bIsNumber := T.bIsNumber
  refine T.FIsWithin.ok scIsWithin (fun vs H Q E h => h.1) (fun cdv A outer s H vs Q E hr h => ?_)
  refine ⟨_, PSs.nox (pss_one (ps_ret (pe_and (pe_call GIsNumber (hr.mono (by decide)) (by rfl) T.gIsNumber T.FIsNumber.kp bIsNumber .nil pass0 (pa_cons (pv 0) pa_nil)) (pe_one (pe_chain op_le op_le (pv 1) (pv 0) (pv 2)))))), ?_⟩
  refine bodyD h (fun ps Ψ hw hl => ?_)
  obtain ⟨d, lo, hi, rfl, hn, q⟩ := hw
  refine ⟨rfl, d, rfl, hn, ?_⟩
  cases d with
  | int i =>
    have q2 : Ψ (.dat (.bl (decide (lo ≤ i) && decide (i ≤ hi)))) [.dat (.int i), .dat (.int lo), .dat (.int hi)] := q
    by_cases h0 : lo ≤ i
    · rw [decide_eq_true h0] at q2
      exact ifT (decide_eq_true h0) q2
    · rw [decide_eq_false h0] at q2
      exact ifF (decide_eq_false h0) q2
  | obj c ns ds => exact nomatch hn.pu
  | err c d => exact nomatch hn.pu
  | adr a_ => exact nomatch hn.pu
  | dic _ _ => exact nomatch hn.pu
  | _ => exact q

end
section
variable {P : Program} {w : World} {K : PySem.W.Frag} {mg : Str → Option Value} {base : Heap}
local macro_rules | `(tactic| get_elem_tactic_trivial) => `(tactic| (repeat first | exact Wk.nil | exact Wk'.nil | refine Wk.same ?_ | refine Wk'.same ?_ | refine Wk.un (fun _ z => nomatch z) ?_ | refine Wk'.un ?_))

end
section
variable {P : Program} {w : World} {K : PySem.W.Frag} {mg : Str → Option Value} {base : Heap}
local macro_rules | `(tactic| get_elem_tactic_trivial) => `(tactic| (repeat first | exact Wk.nil | exact Wk'.nil | refine Wk.same ?_ | refine Wk'.same ?_ | refine Wk.un (fun _ z => nomatch z) ?_ | refine Wk'.un ?_))
/-! a row's number, mixings over data -/
def wk (w : Str) : Nat := W5.idxOf w
theorem wk_at {w : Str} (h : w ∈ W5) : W5[wk w]? = some w ∧ ∀ m, m < wk w → W5[m]? ≠ some w := by
  simp only [W5, List.mem_cons, List.mem_nil_iff, or_false] at h
  rcases h with rfl | rfl | rfl | rfl | rfl <;> decide +kernel
theorem wk_lt {w : Str} (h : w ∈ W5) : wk w < 5 := by
  have := (List.getElem?_eq_some_iff.mp (wk_at h).1).1
  exact this
def rn (x : Rw) : Int := (num x.l * 5 + (wk x.w : Nat)) * 9973 + x.t
theorem sgn_at {l : List Nat} {j : Nat} {d : Dt} (h : (signs (nm l))[j]? = some d) : ∃ c, l[j]? = some c ∧ d = .str (sg c) := by
  unfold signs at h
  rw [List.getElem?_map, nm_cps, List.getElem?_map] at h
  cases q : l[j]? with
  | none => rw [q] at h; cases h
  | some c => rw [q] at h; cases h; exact ⟨c, rfl, rfl⟩
theorem sgn_len (l : List Nat) : (signs (nm l)).length = l.length := by
  unfold signs
  rw [List.length_map, nm_cps, List.length_map]
theorem num_tk {l : List Nat} {j c : Nat} (h : l[j]? = some c) : num (l.take (j + 1)) = num (l.take j) * 27 + (c : Int) + 1 := by
  rw [take_at h]
  unfold num
  rw [List.foldl_append]
  rfl
def wNn : WF := fun ps Ψ => ∃ l : List Nat, ps = [.dat (nD l)] ∧ Gd l ∧ Ψ (.dat (.int (num l))) ps
theorem okNameNumber (T : Tx K mg) : FnOk P w K mg base CX0 1 (He.ga K "name_number") T.fdNameNumber ["name"] (spD K 1 wNn) := by
  have B := T.B
  refine T.FNameNumber.ok scNameNumber (fun vs H Q E h => h.1) (fun cdv A outer s H vs Q E hr h => ?_)
  refine ⟨_, PSs.nox (pss_cons (ps_set (i := 1) scNameNumber.nd rfl (.inl rfl) pe_int)
        (pss_cons (ps_for PassesOwn.never rfl (pi_str (pv 0)) (pg_name (i := 2) scNameNumber.nd rfl (Or.inl rfl))
        (pss_one (ps_set (i := 1) scNameNumber.nd rfl (.inl rfl) (pe_op op_add (pe_op op_add (pe_op op_mul (pv 1) (pe_glob (v := .int 27) (by rfl) T.c_BASE.choose_spec ⟨_, rfl⟩)) (show PE _ _ (tM1 cIndS _ _) from (pe_m1 PySem.F.slot_str_index PySem.F.type_str_index mt_sindex (pe_glob (v := .str "abcdefghijklmnopqrstuvwxyz") (by rfl) T.c_LETTERS.choose_spec ⟨_, rfl⟩) (pv 2)))) pe_int))))
        (pss_one (ps_ret (pv 1))))), ?_⟩
  refine bodyD h (fun ps Ψ hw hl => ?_)
  obtain ⟨l, rfl, g, q⟩ := hw
  refine ⟨fun j ρ => ρ = [.dat (nD l), .dat (.int (num (l.take j))), .un], To.of rfl (by get_elem_tactic_trivial), ?_, ?_⟩
  · rintro j ρ d hd rfl
    obtain ⟨c, hc, rfl⟩ := sgn_at hd
    have c26 := g.lt c (List.mem_of_getElem? hc)
    refine ⟨.inr ⟨by decide, by decide⟩, c, [], occ_at c c26, ?_⟩
    show To _ [.dat (nD l), .dat (.int (num (l.take j) * 27 + (c : Int) + 1)), .dat (.str (sg c))]
    rw [← num_tk hc]
    exact To.of rfl (by get_elem_tactic_trivial)
  · rintro ρ rfl
    rw [sgn_len, List.take_length]
    exact q
end
section
variable {P : Program} {w : World} {K : PySem.W.Frag} {mg : Str → Option Value} {base : Heap}
local macro_rules | `(tactic| get_elem_tactic_trivial) => `(tactic| (repeat first | exact Wk.nil | exact Wk'.nil | refine Wk.same ?_ | refine Wk'.same ?_ | refine Wk.un (fun _ z => nomatch z) ?_ | refine Wk'.un ?_))
theorem gcW5 (T : Tx K mg) : Gc K (He.ga K "WORDS") (.tup (W5.map .str)) := ⟨fun C => .tup (tupD_seq T.t_WORDS C) (rp_strs W5)⟩
theorem giW5 (T : Tx K mg) : Gi K (He.ga K "WORDS") W5 := ⟨fun H => tupD_seq T.t_WORDS H, tupD_ty T.t_WORDS⟩
def wRn : WF := fun ps Ψ => ∃ x : Rw, ps = [.dat x.d] ∧ x.ok ∧ Ψ (.dat (.int (rn x))) ps
theorem okRowNumber (T : Tx K mg) : FnOk P w K mg base CX0 2 (He.ga K "row_number") T.fdRowNumber ["row"] (spD K 1 wRn) := by
  have B := T.B
  have GNameNumber : FnOk P w K mg base CX0 1 (He.ga K "name_number") T.fdNameNumber ["name"] (spD K 1 wNn) := okNameNumber T
  have bNameNumber := T.bNameNumber
  haveI := gcW5 T
  haveI := giW5 T
  refine T.FRowNumber.ok scRowNumber (fun vs H Q E h => h.1) (fun cdv A outer s H vs Q E hr h => ?_)
  refine ⟨_, PSs.nox (pss_cons (ps_asg (pv 0) (show PG _ _ (gTup K 4 _) from pg_tup rfl (pgs_cons (pg_name (i := 1) scRowNumber.nd rfl (Or.inl rfl)) (pgs_cons (pg_name (i := 2) scRowNumber.nd rfl (Or.inl rfl)) (pgs_cons (pg_name (i := 3) scRowNumber.nd rfl (Or.inl rfl)) (pgs_cons (pg_name (i := 4) scRowNumber.nd rfl (Or.inl rfl)) pgs_nil))))))
        (pss_one (ps_ret (pe_op op_add (pe_op op_mul (pe_op op_add (pe_op op_mul (pe_call GNameNumber (hr.mono (by decide)) (by rfl) T.gNameNumber T.FNameNumber.kp bNameNumber .nil pass0 (pa_cons (pv 3) pa_nil)) (pe_callB (show CallR _ _ (rLen K) from call_len) (by rfl) B.b_len PySem.boot_len (pa_cons (pe_glob (v := .ref (He.ga K "WORDS")) (by rfl) T.c_WORDS rfl) pa_nil))) (show PE _ _ (tBM K "tuple" (rIdxT K) _ _) from (pe_bm PySem.F.plainAttrs_tuple PySem.F.slot_tuple_index PySem.F.type_tuple_index mt_tup_index (pe_glob (v := .ref (He.ga K "WORDS")) (by rfl) T.c_WORDS rfl) (pa_cons (pv 2) pa_nil)))) (pe_glob (v := .int 9973) (by rfl) T.c_NOTES.choose_spec ⟨_, rfl⟩)) (pv 4))))), ?_⟩
  refine bodyD h (fun ps Ψ hw hl => ?_)
  obtain ⟨x, rfl, ok, q⟩ := hw
  refine ⟨rfl, rfl, x.l, rfl, ok.g, .inr ⟨by decide, by decide⟩, wk x.w, wk_at ok.hw, .inr ⟨by decide, by decide⟩, ?_⟩
  exact q
end
section
variable {P : Program} {w : World} {K : PySem.W.Frag} {mg : Str → Option Value} {base : Heap}
local macro_rules | `(tactic| get_elem_tactic_trivial) => `(tactic| (repeat first | exact Wk.nil | exact Wk'.nil | refine Wk.same ?_ | refine Wk'.same ?_ | refine Wk.un (fun _ z => nomatch z) ?_ | refine Wk'.un ?_))
theorem fldW (T : Tx K mg) : FldOk K "Mixing" "width" := ⟨T.clMixing, T.nMixing_width⟩
theorem fldF (T : Tx K mg) : FldOk K "Mixing" "factor" := ⟨T.clMixing, T.nMixing_factor⟩
def mxd (w : Option Int) (f v : Int) (r : Int) : Int := match w with
  | none => v * 26500305465 + (r + 1)
  | some n => (v * f + (r + 1)) % n
def wMixed : WF := fun ps Ψ => ∃ (w : Option Int) (f v : Int) (x : Rw), ps = [.dat (mixD w f), .dat (.int v), .dat x.d] ∧ OkMix w f ∧ x.ok ∧ Ψ (.dat (.int (mxd w f v (rn x)))) ps
theorem okMixingMixed (T : Tx K mg) : FnOk P w K mg base CX0 3 (He.ma K (He.ga K "Mixing") "mixed") T.fdMixingMixed ["self", "value", "row"] (spD K 3 wMixed) := by
  have B := T.B
  have GRowNumber : FnOk P w K mg base CX0 2 (He.ga K "row_number") T.fdRowNumber ["row"] (spD K 1 wRn) := okRowNumber T
  have bRowNumber := T.bRowNumber
  refine T.FMixingMixed.ok scMixingMixed (fun vs H Q E h => h.1) (fun cdv A outer s H vs Q E hr h => ?_)
  refine ⟨_, PSs.nox (pss_cons (ps_set (i := 3) scMixingMixed.nd rfl (.inl rfl) (pe_op op_add (pe_call GRowNumber (hr.mono (by decide)) (by rfl) T.gRowNumber T.FRowNumber.kp bRowNumber .nil pass0 (pa_cons (pv 2) pa_nil)) pe_int))
        (pss_cons (ps_if (pt_cmpR (show OpR _ _ rIsNone from op_isN) (show PE _ _ (tFld K _ "width") from pe_fld (pv 0) rfl) pe_non (nomark _)) (pss_one (ps_ret (pe_op op_add (pe_op op_mul (pv 1) (pe_glob (v := .int 26500305465) (by rfl) T.c_SPAN.choose_spec ⟨_, rfl⟩)) (pv 3)))) pss_nil)
        (pss_one (ps_ret (pe_op op_mod (pe_op op_add (pe_op op_mul (pv 1) (show PE _ _ (tFld K _ "factor") from pe_fld (pv 0) rfl)) (pv 3)) (show PE _ _ (tFld K _ "width") from pe_fld (pv 0) rfl)))))), ?_⟩
  refine bodyD h (fun ps Ψ hw hl => ?_)
  obtain ⟨w, f, v, x, rfl, om, ox, q⟩ := hw
  refine ⟨rfl, x, rfl, ox, 0, _, by decide +kernel, rfl, fldW T, ?_⟩
  cases w with
  | none => exact ⟨rfl, .inr ⟨by decide, by decide⟩, q⟩
  | some n =>
    obtain ⟨h1, h2, h3⟩ := om.w_ n rfl
    have g1 := om.f1
    have g2 := om.f2
    have b1 : -18446744073709551616 < f := by omega
    have b2 : f < 18446744073709551616 := by omega
    exact ⟨rfl, 1, _, by decide +kernel, rfl, fldF T, .inr ⟨b1, b2⟩, 0, _, by decide +kernel, rfl, fldW T, (show 0 < n by omega), q⟩

end
section
variable {P : Program} {w : World} {K : PySem.W.Frag} {mg : Str → Option Value} {base : Heap}
local macro_rules | `(tactic| get_elem_tactic_trivial) => `(tactic| (repeat first | exact Wk.nil | exact Wk'.nil | refine Wk.same ?_ | refine Wk'.same ?_ | refine Wk.un (fun _ z => nomatch z) ?_ | refine Wk'.un ?_))
theorem okLNameNumber (T : Tx K mg) : FnOk P w K mg base CX0 1 (He.ga K "_law_name_number") T.fdLNameNumber ["_law_name"] (spD K 1 wNn) := by
  have B := T.B
  refine T.FLNameNumber.ok scLNameNumber (fun vs H Q E h => h.1) (fun cdv A outer s H vs Q E hr h => ?_)
  refine ⟨_, PSs.nox (pss_cons (ps_set (i := 1) scLNameNumber.nd rfl (.inl rfl) pe_int)
        (pss_cons (ps_for PassesOwn.never rfl (pi_str (pv 0)) (pg_name (i := 2) scLNameNumber.nd rfl (Or.inl rfl))
        (pss_one (ps_set (i := 1) scLNameNumber.nd rfl (.inl rfl) (pe_op op_add (pe_op op_add (pe_op op_mul (pv 1) pe_int) (show PE _ _ (tM1 cIndS _ _) from (pe_m1 PySem.F.slot_str_index PySem.F.type_str_index mt_sindex pe_str (pv 2)))) pe_int))))
        (pss_one (ps_ret (pv 1))))), ?_⟩
  refine bodyD h (fun ps Ψ hw hl => ?_)
  obtain ⟨l, rfl, g, q⟩ := hw
  refine ⟨fun j ρ => ρ = [.dat (nD l), .dat (.int (num (l.take j))), .un], To.of rfl (by get_elem_tactic_trivial), ?_, ?_⟩
  · rintro j ρ d hd rfl
    obtain ⟨c, hc, rfl⟩ := sgn_at hd
    have c26 := g.lt c (List.mem_of_getElem? hc)
    refine ⟨.inr ⟨by decide, by decide⟩, c, [], occ_at c c26, ?_⟩
    show To _ [.dat (nD l), .dat (.int (num (l.take j) * 27 + (c : Int) + 1)), .dat (.str (sg c))]
    rw [← num_tk hc]
    exact To.of rfl (by get_elem_tactic_trivial)
  · rintro ρ rfl
    rw [sgn_len, List.take_length]
    exact q
theorem okLRowNumber (T : Tx K mg) : FnOk P w K mg base CX0 2 (He.ga K "_law_row_number") T.fdLRowNumber ["_law_row"] (spD K 1 wRn) := by
  have B := T.B
  have GLNameNumber : FnOk P w K mg base CX0 1 (He.ga K "_law_name_number") T.fdLNameNumber ["_law_name"] (spD K 1 wNn) := okLNameNumber T
  have bLNameNumber := T.bLNameNumber
  refine T.FLRowNumber.ok scLRowNumber (fun vs H Q E h => h.1) (fun cdv A outer s H vs Q E hr h => ?_)
  refine ⟨_, PSs.nox (pss_cons (ps_set (i := 1) scLRowNumber.nd rfl (.inl rfl) (show PE _ _ (tBM K "list" (rIndex K) _ _) from (pe_bm PySem.F.plainAttrs_list PySem.F.slot_list_index PySem.F.type_list_index mt_index (pe_lst (pa_cons pe_str (pa_cons pe_str (pa_cons pe_str (pa_cons pe_str (pa_cons pe_str pa_nil)))))) (pa_cons (pe_ix (show IxR _ (rIx K) from ix_seq) (pv 0) pe_int (fun _ _ => rfl)) pa_nil))))
        (pss_one (ps_ret (pe_op op_add (pe_op op_mul (pe_op op_add (pe_op op_mul (pe_call GLNameNumber (hr.mono (by decide)) (by rfl) T.gLNameNumber T.FLNameNumber.kp bLNameNumber .nil pass0 (pa_cons (pe_ix (show IxR _ (rIx K) from ix_seq) (pv 0) pe_int (fun _ _ => rfl)) pa_nil)) pe_int) (pv 1)) pe_int) (pe_ix (show IxR _ (rIx K) from ix_seq) (pv 0) pe_int (fun _ _ => rfl)))))), ?_⟩
  refine bodyD h (fun ps Ψ hw hl => ?_)
  obtain ⟨x, rfl, ok, q⟩ := hw
  refine ⟨by show 5 ≤ sizeLine; decide, _, rfl, W5, wk x.w, ⟨rfl, wk_at ok.hw⟩, ?_⟩
  refine ⟨_, rfl, rfl, x.l, rfl, ok.g, .inr ⟨by decide, by decide⟩, .inr ⟨by decide, by decide⟩, _, rfl, ?_⟩
  exact q
def wShares : WF := fun ps Ψ => ∃ a b : Int, ps = [.dat (.int a), .dat (.int b)] ∧ 0 < a ∧ 0 ≤ b ∧ ∀ r : Bool, (r = false → Cop a b) → Ψ (.dat (.bl r)) ps
theorem okLShares (T : Tx K mg) : FnOk P w K mg base CX0 1 (He.ga K "_law_shares") T.fdLShares ["_law_one", "_law_two"] (spD K 2 wShares) := by
  have B := T.B
  refine T.FLShares.ok scLShares (fun vs H Q E h => h.1) (fun cdv A outer s H vs Q E hr h => ?_)
  refine ⟨_, PSs.nox (pss_cons (ps_for PassesOwn.never rfl (pi_range1 (by rfl) B.b_range (pa_cons pe_int pa_nil)) (pg_name (i := 2) scLShares.nd rfl (Or.inl rfl))
        (pss_cons (ps_if (pt_cmpR (opEqA (K := K) rfl hr.units) (pv 1) pe_int (nomark _)) (pss_one (ps_ret (pe_cmpR op_gt (pv 0) pe_int (nomark _)))) pss_nil)
        (pss_one (ps_par (i := 0) (j := 1) (by rfl) scLShares.nd rfl rfl (by decide) rfl rfl (pa_cons (pv 1) (pa_cons (pe_op op_mod (pv 0) (pv 1)) pa_nil)) (by rfl)))))
        (pss_one (ps_ret pe_bl))), ?_⟩
  refine bodyD h (fun ps Ψ hw hl => ?_)
  obtain ⟨a, b, rfl, ha, hb, q⟩ := hw
  refine ⟨by decide, by decide, fun j ρ => ∃ x y : Int, ρ = [.dat (.int x), .dat (.int y), .un] ∧ 0 < x ∧ 0 ≤ y ∧ (Cop x y → Cop a b), To.of ⟨a, b, rfl, ha, hb, id⟩ (by get_elem_tactic_trivial), ?_, ?_⟩
  · rintro j ρ d hd ⟨x, y, rfl, hx, hy, hc⟩
    by_cases e : y = 0
    · refine ifT (eqSame e) ?_
      refine q (decide (1 < x)) fun e2 => hc ?_
      have : ¬ 1 < x := of_decide_eq_false e2
      have : x = 1 := by omega
      rw [this]
      exact cop_one y
    · have hy1 : 0 < y := by omega
      refine ifF (eqDiff e) ⟨hy1, ?_⟩
      exact To.of ⟨y, x % y, rfl, hy1, Int.emod_nonneg x e, fun z => hc (cop_back z)⟩ (by get_elem_tactic_trivial)
  · rintro ρ ⟨x, y, rfl, hx, hy, hc⟩
    exact q true (fun z => nomatch z)
abbrev howD (w : Option Int) (f : Int) : Dt := .tup [wDt w, .int f]
def wHow : WF := fun ps Ψ => ∃ n : Int, ps = [.box n] ∧ n < 900000000 ∧ ∀ (w : Option Int) (f m : Int), OkMix w f → m ≤ n + 5 → Ψ (.dat (howD w f)) [.box m]
theorem okLHow (T : Tx K mg) : FnOk P w K mg base CX0 2 (He.ga K "_law_how") T.fdLHow ["_law_box_here"] (spD K 1 wHow) := by
  have B := T.B
  have GLTake : FnOk P w K mg base CX0 1 (He.ga K "_law_take") T.fdLTake ["_law_box_here", "_law_size"] (spD K 2 wTake) := okTakeD T
  have bLTake := T.bLTake
  have GLShares : FnOk P w K mg base CX0 1 (He.ga K "_law_shares") T.fdLShares ["_law_one", "_law_two"] (spD K 2 wShares) := okLShares T
  have bLShares := T.bLShares
  refine T.FLHow.ok scLHow (fun vs H Q E h => h.1) (fun cdv A outer s H vs Q E hr h => ?_)
  refine ⟨_, PSs.nox (pss_cons (ps_par3 (i := 1) (j := 2) (l := 3) (by rfl) scLHow.nd rfl rfl rfl (by decide) (by decide) (by decide) rfl rfl rfl (pa_cons (pe_call GLTake (hr.mono (by decide)) (by rfl) T.gLTake T.FLTake.kp bLTake .nil pass0 (pa_cons (pv 0) (pa_cons pe_int pa_nil))) (pa_cons pe_int (pa_cons pe_int pa_nil))) (by rfl))
        (pss_cons (ps_if (pt_cmpR (opEqA (K := K) rfl hr.units) (pv 1) pe_int (nomark _)) (pss_one (ps_ret (pe_tup (pa_cons pe_non (pa_cons (pe_ix (show IxR _ (rIx K) from ix_seq) (pe_lst (pa_cons pe_int (pa_cons pe_int (pa_cons pe_int (pa_cons pe_int pa_nil))))) (pe_call GLTake (hr.mono (by decide)) (by rfl) T.gLTake T.FLTake.kp bLTake .nil pass0 (pa_cons (pv 0) (pa_cons pe_int pa_nil))) (fun _ _ => rfl)) pa_nil))))) pss_nil)
        (pss_cons (ps_set (i := 2) scLHow.nd rfl (.inl rfl) (pe_op op_add pe_int (pe_call GLTake (hr.mono (by decide)) (by rfl) T.gLTake T.FLTake.kp bLTake .nil pass0 (pa_cons (pv 0) (pa_cons (pe_ix (show IxR _ (rIx K) from ix_seq) (pe_lst (pa_cons pe_int (pa_cons pe_int (pa_cons pe_int (pa_cons pe_int pa_nil))))) (pe_call GLTake (hr.mono (by decide)) (by rfl) T.gLTake T.FLTake.kp bLTake .nil pass0 (pa_cons (pv 0) (pa_cons pe_int pa_nil))) (fun _ _ => rfl)) pa_nil)))))
        (pss_cons (ps_set (i := 3) scLHow.nd rfl (.inl rfl) (pe_op op_add pe_int (pe_call GLTake (hr.mono (by decide)) (by rfl) T.gLTake T.FLTake.kp bLTake .nil pass0 (pa_cons (pv 0) (pa_cons (pe_ix (show IxR _ (rIx K) from ix_seq) (pe_lst (pa_cons pe_int (pa_cons (pe_op op_pow pe_int pe_int) pa_nil))) (pe_call GLTake (hr.mono (by decide)) (by rfl) T.gLTake T.FLTake.kp bLTake .nil pass0 (pa_cons (pv 0) (pa_cons pe_int pa_nil))) (fun _ _ => rfl)) pa_nil)))))
        (pss_one (ps_ret (pe_tup (pa_cons (pv 2) (pa_cons (pe_ifExp (pt_val (pe_call GLShares (hr.mono (by decide)) (by rfl) T.gLShares T.FLShares.kp bLShares .nil pass0 (pa_cons (pv 2) (pa_cons (pv 3) pa_nil)))) pe_int (pv 3)) pa_nil))))))))), ?_⟩
  refine bodyD h (fun ps Ψ hw hl => ?_)
  obtain ⟨n, rfl, hn, q⟩ := hw
  refine ⟨rfl, ⟨by omega, by decide, by decide⟩, fun t t0 t1 => ?_⟩
  refine ite2 (fun e => ?_) (fun e => ?_)
  · refine ⟨by show 4 ≤ sizeLine; decide, rfl, ⟨by omega, by decide, by decide⟩, fun i i0 i1 => ?_⟩
    obtain ⟨v, ev, mv⟩ := atD (xs := [Dt.int 7919, .int 7919, .int 7, .int 1]) i0 i1
    obtain ⟨f, rfl, f1, f2⟩ : ∃ f : Int, v = .int f ∧ 1 ≤ f ∧ f ≤ 1000000 := by
      simp only [List.mem_cons, List.mem_nil_iff, or_false] at mv
      rcases mv with rfl | rfl | rfl | rfl <;> exact ⟨_, rfl, by decide, by decide⟩
    refine ⟨_, ev, by show 2 ≤ sizeLine; decide, ?_⟩
    exact q none f _ ⟨f1, f2, fun n z => nomatch z⟩ (by omega)
  · refine ⟨by show 4 ≤ sizeLine; decide, rfl, ⟨by omega, by decide, by decide⟩, fun i i0 i1 => ?_⟩
    obtain ⟨v, ev, mv⟩ := atD (xs := [Dt.int 8, .int 98, .int 498, .int 999998]) i0 i1
    obtain ⟨c, rfl, c1, c2⟩ : ∃ c : Int, v = .int c ∧ 0 < c ∧ c ≤ 999998 := by
      simp only [List.mem_cons, List.mem_nil_iff, or_false] at mv
      rcases mv with rfl | rfl | rfl | rfl <;> exact ⟨_, rfl, by decide, by decide⟩
    refine ⟨_, ev, rfl, ⟨by omega, c1, by omega⟩, fun d d0 d1 => ?_⟩
    refine ⟨⟨by decide, by decide, by decide⟩, by show 2 ≤ sizeLine; decide, rfl, ⟨by omega, by decide, by decide⟩, fun i2 i20 i21 => ?_⟩
    obtain ⟨v2, ev2, mv2⟩ := atD (xs := [Dt.int 12, .int (10 ^ 6)]) i20 i21
    obtain ⟨c', rfl, c1', c2'⟩ : ∃ c : Int, v2 = .int c ∧ 0 < c ∧ c ≤ 1000000 := by
      simp only [List.mem_cons, List.mem_nil_iff, or_false] at mv2
      rcases mv2 with rfl | rfl <;> exact ⟨_, rfl, by decide, by decide⟩
    refine ⟨_, ev2, rfl, ⟨by omega, c1', by omega⟩, fun b b0 b1 => ?_⟩
    refine ⟨rfl, 3 + d, 1 + b, rfl, by omega, by omega, fun r hr => ?_⟩
    cases r with
    | true =>
      refine ⟨by show 2 ≤ sizeLine; decide, ?_⟩
      exact q (some (3 + d)) 1 _ ⟨by decide, by decide, fun n z => by cases z; exact ⟨by omega, by omega, cop_one _⟩⟩ (by omega)
    | false =>
      refine ⟨by show 2 ≤ sizeLine; decide, ?_⟩
      exact q (some (3 + d)) (1 + b) _ ⟨by omega, by omega, fun n z => by cases z; exact ⟨by omega, by omega, (hr rfl).symm⟩⟩ (by omega)

end
section
variable {P : Program} {w : World} {K : PySem.W.Frag} {mg : Str → Option Value} {base : Heap}
local macro_rules | `(tactic| get_elem_tactic_trivial) => `(tactic| (repeat first | exact Wk.nil | exact Wk'.nil | refine Wk.same ?_ | refine Wk'.same ?_ | refine Wk.un (fun _ z => nomatch z) ?_ | refine Wk'.un ?_))
/-! what boards a log leads to -/
theorem bMixingBegin1 (T : Tx K mg) : ∃ ds, Vals [.bl false] ds ∧ Binds K T.fdMixingBegin ["self", "reset"] ds := T.FMixingBegin.binds0 1 (by decide) rfl fun D doc pm an cdv ct us ks h1 h2 => match us, ks, h1, h2 with
  | [u0], [k0], _, _ => ⟨_, _, _, _, _, _, rfl, rfl, rfl⟩
theorem kMixingBeginR (T : Tx K mg) : ∃ mv : List Value, KBn K T.fdMixingBegin ["self", "reset"] 1 ["reset"] (fun us ws => us ++ ws) (fun vs zs => vs ++ zs) :=
  T.FMixingBegin.kbinds0 1 ["reset"] [] (fun us mv ws => us ++ ws) (by decide) (by simp) (fun a b c => a.append c) fun D doc pm an cdv ct us mv ws h1 h2 h3 => match us, mv, ws, h1, h2, h3 with
    | [u], [], [w], _, _, _ => rfl
def wBegin : WF := fun ps Ψ => ∃ (w : Option Int) (f : Int) (b : Bool), ps = [.dat (mixD w f), .dat (.bl b)] ∧ Ψ (.dat (.int (if b = true then 2 else 1))) ps
theorem okMixingBegin (T : Tx K mg) : FnOk P w K mg base CX0 1 (He.ma K (He.ga K "Mixing") "begin") T.fdMixingBegin ["self", "reset"] (spD K 2 wBegin) := by
  have B := T.B
  refine T.FMixingBegin.ok scMixingBegin (fun vs H Q E h => h.1) (fun cdv A outer s H vs Q E hr h => ?_)
  refine ⟨_, PSs.nox (pss_one (ps_ret (pe_ifExp (pt_val (pv 1)) pe_int pe_int))), ?_⟩
  refine bodyD h (fun ps Ψ hw hl => ?_)
  obtain ⟨w, f, b, rfl, q⟩ := hw
  cases b with
  | true => exact q
  | false => exact q
def brn (w : Option Int) (f v : Int) (x : Rw) : Int := if x.w = "reset" then 2 else mxd w f v (rn x)
def wBehindRow : WF := fun ps Ψ => ∃ (w : Option Int) (f v : Int) (x : Rw), ps = [.dat (mixD w f), .dat (.int v), .dat x.d] ∧ OkMix w f ∧ x.ok ∧ Ψ (.dat (.int (brn w f v x))) ps
theorem okBehindRow (T : Tx K mg) : FnOk P w K mg base CX0 4 (He.ga K "behind_row") T.fdBehindRow ["mixing", "value", "row"] (spD K 3 wBehindRow) := by
  have B := T.B
  have GMixingMixed : FnOk P w K mg base CX0 3 (He.ma K (He.ga K "Mixing") "mixed") T.fdMixingMixed ["self", "value", "row"] (spD K 3 wMixed) := okMixingMixed T
  have bMixingMixed := T.bMixingMixed
  have GMixingBegin : FnOk P w K mg base CX0 1 (He.ma K (He.ga K "Mixing") "begin") T.fdMixingBegin ["self", "reset"] (spD K 2 wBegin) := okMixingBegin T
  obtain ⟨_, kMixingBegin_reset⟩ := kMixingBeginR T
  refine T.FBehindRow.ok scBehindRow (fun vs H Q E h => h.1) (fun cdv A outer s H vs Q E hr h => ?_)
  refine ⟨_, PSs.nox (pss_cons (ps_if (pt_cmpR (opEqA (K := K) rfl hr.units) (pe_ix (show IxR _ (rIx K) from ix_seq) (pv 2) pe_int (fun _ _ => rfl)) pe_str (nomark _)) (pss_one (ps_ret (pe_methKw (pv 0) T.clMixing T.mMixingBegin GMixingBegin (hr.mono (by decide)) kMixingBegin_reset pass0 (pk_cons pe_bl pk_nil)))) pss_nil)
        (pss_one (ps_ret (pe_meth (pv 0) T.clMixing T.mMixingMixed GMixingMixed (hr.mono (by decide)) bMixingMixed .nil pass0 (pa_cons (pv 1) (pa_cons (pv 2) pa_nil)))))), ?_⟩
  refine bodyD h (fun ps Ψ hw hl => ?_)
  obtain ⟨w, f, v, x, rfl, om, ox, q⟩ := hw
  by_cases h : x.w = "reset"
  · refine ⟨_, rfl, ifT (eqSame h) ?_⟩
    refine ⟨⟨rfl, by decide +kernel⟩, ⟨rfl, rfl, rfl⟩, w, f, true, rfl, ?_⟩
    unfold brn at q
    rw [if_pos h] at q
    exact q
  · refine ⟨_, rfl, ifF (eqDiff h) ?_⟩
    refine ⟨⟨rfl, by decide +kernel⟩, rfl, w, f, v, x, rfl, om, ox, ?_⟩
    unfold brn at q
    rw [if_neg h] at q
    exact q
end
section
variable {P : Program} {w : World} {K : PySem.W.Frag} {mg : Str → Option Value} {base : Heap}
local macro_rules | `(tactic| get_elem_tactic_trivial) => `(tactic| (repeat first | exact Wk.nil | exact Wk'.nil | refine Wk.same ?_ | refine Wk'.same ?_ | refine Wk.un (fun _ z => nomatch z) ?_ | refine Wk'.un ?_))
def stp (w : Option Int) (f : Int) (vs : List Int) (x : Rw) : List Int := vs.set x.b.toNat (brn w f (vs.getD x.b.toNat 0) x)
def rpl (w : Option Int) (f : Int) (m : Nat) (xs : List Rw) : List Int := xs.foldl (stp w f) (List.replicate m 1)
theorem fold_len {w : Option Int} {f : Int} : ∀ (xs : List Rw) (vs : List Int), (xs.foldl (stp w f) vs).length = vs.length
  | [], _ => rfl
  | x :: xs, vs => by
    rw [List.foldl_cons, fold_len xs]
    unfold stp
    rw [List.length_set]
theorem rpl_len {w : Option Int} {f : Int} {m : Nat} {xs : List Rw} : (rpl w f m xs).length = m := by
  unfold rpl
  rw [fold_len, List.length_replicate]
theorem rpl_take {w : Option Int} {f : Int} {m j : Nat} {xs : List Rw} {x : Rw} (h : xs[j]? = some x) : rpl w f m (xs.take (j + 1)) = stp w f (rpl w f m (xs.take j)) x := by
  rw [take_at h]
  unfold rpl
  rw [List.foldl_append]
  rfl
theorem set_map {α β : Type} (g : α → β) : ∀ (l : List α) (i : Nat) (x : α), (l.map g).set i (g x) = (l.set i x).map g
  | [], _, _ => rfl
  | a :: l, 0, x => rfl
  | a :: l, i + 1, x => by
    show g a :: (l.map g).set i (g x) = g a :: (l.set i x).map g
    rw [set_map g l i x]
theorem rep_ones (n : Nat) : (List.replicate n [Dt.int 1]).flatten = (List.replicate n (1 : Int)).map Dt.int := by
  induction n with
  | zero => rfl
  | succ n ih =>
    rw [List.replicate_succ, List.replicate_succ, List.flatten_cons, ih]
    rfl
/-- an index of a row's board, in a list of as many numbers -/
theorem at_board {vs : List Int} {m : Nat} {b : Int} (l : vs.length = m) (b0 : 0 ≤ b) (bm : b < m) : atI (vs.map Dt.int) b = some (.int (vs.getD b.toNat 0)) := by
  refine atD_of b0 ?_
  have lt : b.toNat < vs.length := by omega
  rw [List.getElem?_map, List.getElem?_eq_getElem lt, List.getD_eq_getElem?_getD, List.getElem?_eq_getElem lt]
  rfl
theorem ix_board {n : Nat} {b : Int} (b0 : 0 ≤ b) (bm : b < n) : ixN n b = some b.toNat := by
  unfold ixN
  rw [if_pos b0]
  exact if_pos bm

end
section
variable {P : Program} {w : World} {K : PySem.W.Frag} {mg : Str → Option Value} {base : Heap}
local macro_rules | `(tactic| get_elem_tactic_trivial) => `(tactic| (repeat first | exact Wk.nil | exact Wk'.nil | refine Wk.same ?_ | refine Wk'.same ?_ | refine Wk.un (fun _ z => nomatch z) ?_ | refine Wk'.un ?_))
/-! the law's own replay -/
def wLMixed : WF := fun ps Ψ => ∃ (w : Option Int) (f v : Int) (x : Rw), ps = [.dat (howD w f), .dat (.int v), .dat x.d] ∧ OkMix w f ∧ x.ok ∧ Ψ (.dat (.int (mxd w f v (rn x)))) ps
theorem okLMixed (T : Tx K mg) : FnOk P w K mg base CX0 3 (He.ga K "_law_mixed") T.fdLMixed ["_law_how_here", "_law_value", "_law_row"] (spD K 3 wLMixed) := by
  have B := T.B
  have GLRowNumber : FnOk P w K mg base CX0 2 (He.ga K "_law_row_number") T.fdLRowNumber ["_law_row"] (spD K 1 wRn) := okLRowNumber T
  have bLRowNumber := T.bLRowNumber
  refine T.FLMixed.ok scLMixed (fun vs H Q E h => h.1) (fun cdv A outer s H vs Q E hr h => ?_)
  refine ⟨_, PSs.nox (pss_cons (ps_set (i := 3) scLMixed.nd rfl (.inl rfl) (pe_op op_add (pe_call GLRowNumber (hr.mono (by decide)) (by rfl) T.gLRowNumber T.FLRowNumber.kp bLRowNumber .nil pass0 (pa_cons (pv 2) pa_nil)) pe_int))
        (pss_one (ps_ret (pe_ifExp (pt_cmpR (show OpR _ _ rIsNone from op_isN) (pe_ix (show IxR _ (rIx K) from ix_seq) (pv 0) pe_int (fun _ _ => rfl)) pe_non (nomark _)) (pe_op op_add (pe_op op_mul (pv 1) pe_int) (pv 3)) (pe_op op_mod (pe_op op_add (pe_op op_mul (pv 1) (pe_ix (show IxR _ (rIx K) from ix_seq) (pv 0) pe_int (fun _ _ => rfl))) (pv 3)) (pe_ix (show IxR _ (rIx K) from ix_seq) (pv 0) pe_int (fun _ _ => rfl))))))), ?_⟩
  refine bodyD h (fun ps Ψ hw hl => ?_)
  obtain ⟨w, f, v, x, rfl, om, ox, q⟩ := hw
  refine ⟨rfl, x, rfl, ox, ?_⟩
  cases w with
  | none => exact ⟨_, rfl, rfl, .inr ⟨by decide, by decide⟩, q⟩
  | some n =>
    obtain ⟨h1, h2, h3⟩ := om.w_ n rfl
    have g1 := om.f1
    have g2 := om.f2
    have b1 : -18446744073709551616 < f := by omega
    have b2 : f < 18446744073709551616 := by omega
    exact ⟨_, rfl, rfl, _, rfl, .inr ⟨b1, b2⟩, _, rfl, (show 0 < n by omega), q⟩
def wLRpl : List Sl → (List Dt → List Sl → Prop) → Prop := fun ps Ψ => ∃ (w : Option Int) (f : Int) (xs : List Rw) (m : Int), ps = [.dat (howD w f), .dat (.lst (xs.map Rw.d)), .dat (.int m)] ∧ OkMix w f ∧ (∀ x ∈ xs, x.ok ∧ x.b < m) ∧ 1 ≤ m ∧ m ≤ 8 ∧ Ψ ((rpl w f m.toNat xs).map .int) ps
theorem okLReplay (T : Tx K mg) : FnOk P w K mg base CX0 4 (He.ga K "_law_replay") T.fdLReplay ["_law_how_here", "_law_rows", "_law_size"] (spN K 3 wLRpl) := by
  have B := T.B
  have GLMixed : FnOk P w K mg base CX0 3 (He.ga K "_law_mixed") T.fdLMixed ["_law_how_here", "_law_value", "_law_row"] (spD K 3 wLMixed) := okLMixed T
  have bLMixed := T.bLMixed
  refine T.FLReplay.ok scLReplay (fun vs H Q E h => h.1) (fun cdv A outer s H vs Q E hr h => ?_)
  refine ⟨_, PSs.nox (pss_cons (ps_set (i := 3) scLReplay.nd rfl (.inl rfl) (pe_op op_rep (pe_lst (pa_cons pe_int pa_nil)) (pv 2)))
        (pss_cons (ps_for PassesOwn.never rfl (piAny (K := K) rfl (pv 1)) (pg_name (i := 4) scLReplay.nd rfl (Or.inl rfl))
        (pss_one (ps_asg (pe_ifExp (pt_cmpR (opEqA (K := K) rfl hr.units) (pe_ix (show IxR _ (rIx K) from ix_seq) (pv 4) pe_int (fun _ _ => rfl)) pe_str (nomark _)) pe_int (pe_call GLMixed (hr.mono (by decide)) (by rfl) T.gLMixed T.FLMixed.kp bLMixed .nil pass0 (pa_cons (pv 0) (pa_cons (pe_ix (show IxR _ (rIx K) from ix_seq) (pv 3) (pe_ix (show IxR _ (rIx K) from ix_seq) (pv 4) pe_int (fun _ _ => rfl)) (fun _ _ => rfl)) (pa_cons (pv 4) pa_nil))))) (pg_sub (pv 3) (pe_ix (show IxR _ (rIx K) from ix_seq) (pv 4) pe_int (fun _ _ => rfl)) set_list))))
        (pss_one (ps_ret (pv 3))))), ?_⟩
  refine bodyD h (fun ps Ψ hw hl => ?_)
  obtain ⟨w, f, xs, m, rfl, om, xo, m1, m8, q⟩ := hw
  have sz : sizeLine = 16777216 := by decide
  refine ⟨by show 1 ≤ sizeLine; decide, ⟨by omega, by omega, by show 1 * m.toNat ≤ sizeLine; omega⟩, ?_⟩
  show Fs.nx _ [.dat (howD w f), .dat (.lst (xs.map Rw.d)), .dat (.int m), .hot (List.replicate m.toNat [Dt.int 1]).flatten, .un]
  rw [rep_ones]
  refine ⟨fun j ρ => ∃ D : List Dt, D = (rpl w f m.toNat (xs.take j)).map .int ∧ ρ = [.dat (howD w f), .dat (.lst (xs.map Rw.d)), .dat (.int m), .hot D, .un], To.of ⟨_, rfl, rfl⟩ (by get_elem_tactic_trivial), ?_, ?_⟩
  · rintro j ρ d hd ⟨D, rfl, rfl⟩
    rw [List.getElem?_map] at hd
    obtain ⟨x, hx, rfl⟩ := Option.map_eq_some_iff.mp hd
    obtain ⟨ox, xb⟩ := xo x (List.mem_of_getElem? hx)
    have l1 : (rpl w f m.toNat (xs.take j)).length = m.toNat := rpl_len
    have ij : ixN ((rpl w f m.toNat (xs.take j)).map Dt.int).length x.b = some x.b.toNat := ix_board ox.b0 (by rw [List.length_map, l1]; omega)
    by_cases h : x.w = "reset"
    · refine ⟨_, rfl, ifT (eqSame h) ⟨_, rfl, _, ij, ?_⟩⟩
      exact To.of ⟨_, by rw [rpl_take hx, stp, ← set_map, brn, if_pos h], rfl⟩ (by get_elem_tactic_trivial)
    · refine ⟨_, rfl, ifF (eqDiff h) ?_⟩
      refine ⟨_, rfl, _, at_board l1 ox.b0 (by omega), rfl, w, f, _, x, rfl, om, ox, _, rfl, _, ij, ?_⟩
      exact To.of ⟨_, by rw [rpl_take hx, stp, ← set_map, brn, if_neg h], rfl⟩ (by get_elem_tactic_trivial)
  · rintro ρ ⟨D, rfl, rfl⟩
    rw [List.length_map, List.take_length]
    exact q
end
section
variable {P : Program} {w : World} {K : PySem.W.Frag} {mg : Str → Option Value} {base : Heap}
local macro_rules | `(tactic| get_elem_tactic_trivial) => `(tactic| (repeat first | exact Wk.nil | exact Wk'.nil | refine Wk.same ?_ | refine Wk'.same ?_ | refine Wk.un (fun _ z => nomatch z) ?_ | refine Wk'.un ?_))
/-! how great the numbers grow -/
def big (k : Nat) : Int := 4 * (34359738368 : Int) ^ k
theorem big_pos (k : Nat) : 4 ≤ big k := by
  unfold big
  have : (0 : Int) < 34359738368 ^ k := Int.pow_pos (by decide)
  omega
theorem big_succ (k : Nat) : big (k + 1) = big k * 34359738368 := by
  unfold big
  rw [Int.pow_succ, ← Int.mul_assoc]
theorem rn_bound {x : Rw} (h : x.ok) : 0 ≤ rn x ∧ rn x + 1 ≤ 26500305465 := by
  have h1 := num_nonneg x.l
  have h2 : num x.l < 27 ^ 4 := Int.lt_of_lt_of_le (num_hi x.l h.g.lt) (Int.ofNat_le.mpr (Nat.pow_le_pow_right (by decide) h.g.hi))
  have h3 := wk_lt h.hw
  have h4 := h.t0
  have h5 := h.t1
  have h6 : (27 : Int) ^ 4 = 531441 := by decide
  unfold rn
  omega
theorem brn_bound {w : Option Int} {f v : Int} {x : Rw} {k : Nat} (om : OkMix w f) (ox : x.ok) (v0 : 0 ≤ v) (v1 : v + 1 ≤ big k) : 0 ≤ brn w f v x ∧ brn w f v x + 1 ≤ big (k + 1) := by
  have hb := big_pos k
  have hs := big_succ k
  obtain ⟨r0, r1⟩ := rn_bound ox
  unfold brn
  split
  · exact ⟨by decide, by omega⟩
  · cases w with
    | none =>
      show 0 ≤ v * 26500305465 + (rn x + 1) ∧ v * 26500305465 + (rn x + 1) + 1 ≤ big (k + 1)
      omega
    | some n =>
      obtain ⟨h1, h2, h3⟩ := om.w_ n rfl
      have e0 := Int.emod_nonneg (v * f + (rn x + 1)) (show n ≠ 0 by omega)
      have e1 := Int.emod_lt_of_pos (v * f + (rn x + 1)) (show 0 < n by omega)
      show 0 ≤ (v * f + (rn x + 1)) % n ∧ (v * f + (rn x + 1)) % n + 1 ≤ big (k + 1)
      omega
theorem rpl_bound {w : Option Int} {f : Int} {m : Nat} {xs : List Rw} (om : OkMix w f) (xo : ∀ x ∈ xs, x.ok) : ∀ j, j ≤ xs.length → ∀ v ∈ rpl w f m (xs.take j), 0 ≤ v ∧ v + 1 ≤ big j
  | 0, _ => fun v hv => by
    have e : v = 1 := by
      have h : v ∈ List.replicate m (1 : Int) := hv
      exact (List.mem_replicate.mp h).2
    subst e
    decide
  | j + 1, h => fun v hv => by
    have hx := List.getElem?_eq_getElem (show j < xs.length by omega)
    rw [rpl_take hx] at hv
    unfold stp at hv
    have ih := rpl_bound (m := m) om xo j (by omega)
    have hs := big_succ j
    have hp := big_pos j
    rcases List.mem_or_eq_of_mem_set hv with z | z
    · have := ih v z
      omega
    · rw [z]
      have ox := xo _ (List.getElem_mem (show j < xs.length by omega))
      by_cases q : (xs[j]'(by omega)).b.toNat < (rpl w f m (xs.take j)).length
      · have mem : (rpl w f m (xs.take j)).getD (xs[j]'(by omega)).b.toNat 0 ∈ rpl w f m (xs.take j) := by
          rw [List.getD_eq_getElem?_getD, List.getElem?_eq_getElem q]
          exact List.getElem_mem q
        have := ih _ mem
        exact brn_bound om ox this.1 this.2
      · have e : (rpl w f m (xs.take j)).getD (xs[j]'(by omega)).b.toNat 0 = 0 := by
          rw [List.getD_eq_getElem?_getD, List.getElem?_eq_none (by omega)]
          rfl
        rw [e]
        exact brn_bound om ox (Int.le_refl _) (by omega)
theorem rpl_big {w : Option Int} {f : Int} {m : Nat} {xs : List Rw} (om : OkMix w f) (xo : ∀ x ∈ xs, x.ok) : ∀ v ∈ rpl w f m xs, 0 ≤ v ∧ v + 1 ≤ big xs.length := by
  have h := rpl_bound (m := m) om xo xs.length (Nat.le_refl _)
  rw [List.take_length] at h
  exact h
theorem big_le {k n : Nat} (h : k ≤ n) : big k ≤ big n := by
  unfold big
  have : (34359738368 : Int) ^ k ≤ 34359738368 ^ n := Int.ofNat_le.mpr (Nat.pow_le_pow_right (by decide) h)
  omega

end
section
variable {P : Program} {w : World} {K : PySem.W.Frag} {mg : Str → Option Value} {base : Heap}
local macro_rules | `(tactic| get_elem_tactic_trivial) => `(tactic| (repeat first | exact Wk.nil | exact Wk'.nil | refine Wk.same ?_ | refine Wk'.same ?_ | refine Wk.un (fun _ z => nomatch z) ?_ | refine Wk'.un ?_))
theorem len_bulkS : ∀ ds : List Dt, ds.length ≤ PyData.bulkAll (pys ds)
  | [] => Nat.le_refl _
  | d :: ds => by
    have := len_bulkS ds
    simp only [pys, PyData.bulkAll, List.length_cons]
    omega
mutual
theorem dep_le : ∀ d : Dt, dep d.py ≤ d.py.depth
  | .lst ds => by
    show dep.deps (pys ds) + 1 ≤ PyData.depthAll (pys ds) + 1
    exact Nat.succ_le_succ (deps_le ds)
  | .tup ds => by
    show dep.deps (pys ds) + 1 ≤ PyData.depthAll (pys ds) + 1
    exact Nat.succ_le_succ (deps_le ds)
  | .non => Nat.zero_le _
  | .bl _ => Nat.zero_le _
  | .int _ => Nat.zero_le _
  | .str _ => Nat.zero_le _
  | .obj _ _ _ => Nat.zero_le _
  | .err _ _ => Nat.zero_le _
  | .adr _ => Nat.zero_le _
  | .dic _ _ => Nat.zero_le _
  | .scr _ => Nat.zero_le _
theorem deps_le : ∀ ds : List Dt, dep.deps (pys ds) ≤ PyData.depthAll (pys ds)
  | [] => Nat.le_refl _
  | d :: ds => by
    have h1 := dep_le d
    have h2 := deps_le ds
    show max (dep d.py) (dep.deps (pys ds)) ≤ max d.py.depth (PyData.depthAll (pys ds))
    omega
end
theorem pys_len : ∀ ds : List Dt, (pys ds).length = ds.length
  | [] => rfl
  | _ :: ds => congrArg Nat.succ (pys_len ds)
mutual
theorem wid_le : ∀ d : Dt, wid d.py ≤ d.py.bulk
  | .lst ds => by
    have h1 := wids_le ds
    have h2 := len_bulkS ds
    have h3 := pys_len ds
    show max (pys ds).length (wid.wids (pys ds)) ≤ PyData.bulkAll (pys ds)
    omega
  | .tup ds => by
    have h1 := wids_le ds
    have h2 := len_bulkS ds
    have h3 := pys_len ds
    show max (pys ds).length (wid.wids (pys ds)) ≤ PyData.bulkAll (pys ds)
    omega
  | .non => Nat.zero_le _
  | .bl _ => Nat.zero_le _
  | .int _ => Nat.zero_le _
  | .str _ => Nat.zero_le _
  | .obj _ _ _ => Nat.zero_le _
  | .err _ _ => Nat.zero_le _
  | .adr _ => Nat.zero_le _
  | .dic _ _ => Nat.zero_le _
  | .scr _ => Nat.zero_le _
theorem wids_le : ∀ ds : List Dt, wid.wids (pys ds) ≤ PyData.bulkAll (pys ds)
  | [] => Nat.le_refl _
  | d :: ds => by
    have h1 := wid_le d
    have h2 := wids_le ds
    show max (wid d.py) (wid.wids (pys ds)) ≤ d.py.bulk + 1 + PyData.bulkAll (pys ds)
    omega
end
theorem Nice.same {n b k : Nat} {d : Dt} (h : Nice n b d) (hn : n < k) (hb : b ≤ 1000000) : d.pure = true ∧ dep d.py < k ∧ wid d.py ≤ 1000000 := ⟨h.pu, Nat.lt_of_le_of_lt (Nat.le_trans (dep_le d) h.dp) hn, Nat.le_trans (Nat.le_trans (wid_le d) h.bk) hb⟩

end
section
variable {P : Program} {w : World} {K : PySem.W.Frag} {mg : Str → Option Value} {base : Heap}
local macro_rules | `(tactic| get_elem_tactic_trivial) => `(tactic| (repeat first | exact Wk.nil | exact Wk'.nil | refine Wk.same ?_ | refine Wk'.same ?_ | refine Wk.un (fun _ z => nomatch z) ?_ | refine Wk'.un ?_))
/-! cells folded -/
theorem cut_hi (xs : List V) (k : Nat) : cutV xs none (some (k : Int)) = xs.take k := by
  unfold cutV
  rw [show HT.sIx xs.length xs.length (some (k : Int)) = min k xs.length from HT.sIx_nat xs.length xs.length k, HT.sIx_none, Nat.sub_zero, List.drop_zero]
  by_cases h : k ≤ xs.length
  · rw [Nat.min_eq_left h]
  · rw [Nat.min_eq_right (by omega), List.take_length, List.take_of_length_le (by omega)]
theorem cut_intsM (ns : List Int) (m : Nat) : ∃ rs : List Int, cutV (ns.map V.int) (some (m : Int)) (some 63) = rs.map V.int ∧ (rs ≠ [] → m ≤ ns.length) ∧ rs.length ≤ 63 := by
  refine ⟨(ns.drop (min m ns.length)).take (min 63 ns.length - min m ns.length), ?_, fun h => ?_, ?_⟩
  · unfold cutV
    rw [show HT.sIx (ns.map V.int).length 0 (some (m : Int)) = min m (ns.map V.int).length from HT.sIx_nat _ 0 m, show HT.sIx (ns.map V.int).length (ns.map V.int).length (some (63 : Int)) = min 63 (ns.map V.int).length from HT.sIx_nat _ _ 63, List.length_map, List.map_take, List.map_drop]
  · by_cases h3 : m ≤ ns.length
    · exact h3
    · refine absurd ?_ h
      rw [show min m ns.length = ns.length by omega, List.drop_length, List.take_nil]
  · exact Nat.le_trans (List.length_take_le _ _) (by omega)
theorem lay_ints : ∀ cs : List Int, PyData.canLayAll0 (cs.map PyData.int) = true ∧ PyData.depthAll (cs.map PyData.int) = 0
  | [] => ⟨rfl, rfl⟩
  | c :: cs => by
    obtain ⟨h1, h2⟩ := lay_ints cs
    refine ⟨?_, ?_⟩
    · show (PyData.canLay0 (.int c) && PyData.canLayAll0 (cs.map PyData.int)) = true
      rw [h1]
      rfl
    · show max (PyData.depth (.int c)) (PyData.depthAll (cs.map PyData.int)) = 0
      rw [h2]
      rfl
theorem shapedM (cs : List Int) : SeqAt.shaped (.list (cs.map PyData.int)) = true := by
  obtain ⟨h1, h2⟩ := lay_ints cs
  unfold SeqAt.shaped
  show (PyData.canLayAll0 (cs.map PyData.int) && decide (PyData.depthAll (cs.map PyData.int) + 1 ≤ 64)) = true
  rw [h1, h2]
  rfl
def spLFolded (K : PySem.W.Frag) : Sp := fun vs H Q _ => ∃ (a : Addr) (ns : List Int) (m : Nat), vs = [.ref a, .int (m : Int)] ∧ SqL K H a (ns.map V.int) ∧ ns.length ≤ 63 ∧ 1 ≤ m ∧ m ≤ 9 ∧ ∀ (l : Addr) (cs : List Int) (G : Hp), Same H G → H l = none → G l = some (.lst (cs.map V.int)) → cs.length ≤ m → Q (.ref l) G
def wFolded : WF := fun ps Ψ => ∃ (ns : List Int) (m : Nat), ps = [.dat (.scr ns), .dat (.int (m : Int))] ∧ ns.length ≤ 63 ∧ 1 ≤ m ∧ m ≤ 9 ∧ ∀ cs : List Int, cs.length ≤ m → Ψ (.dat (.scr cs)) ps
theorem okLFolded (T : Tx K mg) : FnOk P w K mg base CX0 1 (He.ga K "_law_folded") T.fdLFolded ["_law_script", "_law_size"] (spLFolded K) := by
  have B := T.B
  refine T.FLFolded.ok scLFolded (fun vs H Q E h => ?_) (fun cdv A outer s H vs Q E hr h => ?_)
  · obtain ⟨a, ns, m, rfl, _⟩ := h
    rfl
  · obtain ⟨a, ns, m, rfl, hS, hlen, m1, m9, q⟩ := h
    refine ⟨_, PSs.nox (pss_cons (ps_set (i := 2) scLFolded.nd rfl (.inl rfl) (pe_callTy call_list_of (by rfl) B.b_list PyProof.Rows.boot_list (pa_cons (pe_slice sl_list (pv 0) po_none (po_some (pv 1))) pa_nil)))
        (pss_cons (ps_for PassesOwn.never rfl (pi_enum (by rfl) B.b_enumerate (pa_cons (pe_slice sl_list (pv 0) (po_some (pv 1)) (po_some pe_int)) pa_nil)) (pg_tup rfl (pgs_cons (pg_name (i := 3) scLFolded.nd rfl (Or.inl rfl)) (pgs_cons (pg_name (i := 4) scLFolded.nd rfl (Or.inl rfl)) pgs_nil)))
        (pss_one (ps_asg (pe_op op_add (pe_ix ix_list (pv 2) (pe_op op_mod (pv 3) (pv 1)) (fun _ _ => rfl)) (pe_op op_mul (pv 4) (pe_op op_add (pv 3) pe_int))) (pg_sub (pv 2) (pe_op op_mod (pv 3) (pv 1)) set_list))))
        (pss_one (ps_ret (pe_ifExp (pt_cmpR (op_neD hr.units) (pv 2) (pe_lst pa_nil) (nomark _)) (pv 2) (pe_lst (pa_cons pe_int pa_nil))))))), ?_⟩
    refine ⟨_, rfl, _, rfl, (m : Int), rfl, a, _, rfl, hS, fun l0 h0 => ⟨l0, _, rfl, .inl (SqL.of upd_same), fun l hl => ?_⟩⟩
    have s0 := same_new (o := .lst (cutV (ns.map V.int) none (some (m : Int)))) h0
    have s1 := same_new (o := .lst (cutV (ns.map V.int) none (some (m : Int)))) hl
    have ec : cutV (ns.map V.int) none (some (m : Int)) = (ns.take m).map V.int := by rw [cut_hi, List.map_take]
    obtain ⟨rs, hrs, hrs3, hrs63⟩ := cut_intsM ns m
    refine ⟨_, rfl, _, rfl, (m : Int), rfl, 63, rfl, a, _, rfl, (s0.trans s1).seq hS, fun ls hls => ?_⟩
    have s2 := same_new (o := .lst (cutV (ns.map V.int) (some (m : Int)) (some 63))) hls
    have nlH : H l = none := s0.free hl
    have nls : ls ≠ l := fun z => by rw [z, upd_same] at hls; cases hls
    refine ⟨ls, rs.map V.int, rfl, SqL.of (by rw [hrs]; exact upd_same), for_it (walk_enum (xs := rs.map V.int)) (fun j σ G => Same H G ∧ SqL K G ls (rs.map V.int) ∧ ∃ (cs : List Int) (x3 x4 : Option V), G l = some (.lst (cs.map V.int)) ∧ cs.length = (ns.take m).length ∧ σ = [some (.ref a), some (.int (m : Int)), some (.ref l), x3, x4]) ⟨s0.trans (s1.trans s2), SqL.of (by rw [hrs]; exact upd_same), ns.take m, none, none, (s2 _ _ upd_same).trans (by rw [ec]), rfl, rfl⟩ (fun _ _ _ _ h => h.2.1) ?_ ?_⟩
    · rintro j x σ G G1 hj ⟨sG, hLG, cs, x3, x4, hc, hcl, rfl⟩ ⟨T1, y1, y2, rfl, hT, rfl, hy1, hy2⟩
      have e1 : V.int (j : Int) = y1 := Option.some.inj hy1
      subst e1
      obtain ⟨z, rfl⟩ : ∃ z, y2 = V.int z := by
        have hy2 : (rs.map V.int)[j]? = some y2 := hy2
        rw [List.getElem?_map] at hy2
        cases e : rs[j]? with
        | none => rw [e] at hy2; cases hy2
        | some b => rw [e] at hy2; exact ⟨b, (Option.some.inj hy2).symm⟩
      have hj2 : j < rs.length := by rw [List.length_map] at hj; exact hj
      have h3 := hrs3 (fun e => by rw [e] at hj2; cases hj2)
      have hc3 : cs.length = m := by rw [hcl, List.length_take]; omega
      have sT := same_new (o := .tup [V.int (j : Int), V.int z]) hT
      have hc2 := sT _ _ hc
      have hm0 := Int.emod_nonneg (j : Int) (b := (m : Int)) (by omega)
      have hm1 := Int.emod_lt_of_pos (j : Int) (b := (m : Int)) (by omega)
      obtain ⟨r, hr'⟩ : ∃ r : Nat, (j : Int) % (m : Int) = (r : Int) := ⟨((j : Int) % (m : Int)).toNat, (Int.toNat_of_nonneg hm0).symm⟩
      have r3 : r < cs.length := by rw [hr'] at hm1; omega
      have ej : ixN (cs.map V.int).length ((j : Int) % (m : Int)) = some r := by
        rw [hr']
        unfold ixN
        rw [if_pos (by omega), if_pos (by rw [List.length_map]; omega)]
        simp
      refine ⟨T1, _, rfl, .inl (.inl upd_same), rfl, _, _, rfl, _, _, rfl, rfl, ?_⟩
      refine ⟨_, rfl, _, rfl, _, rfl, _, _, rfl, rfl, (show (0 : Int) < (m : Int) by omega), l, _, _, .int cs[r], rfl, rfl, SqL.of hc2, at_of hr' (by rw [List.getElem?_map, List.getElem?_eq_getElem r3]; rfl), _, rfl, _, rfl, _, _, rfl, rfl, _, _, rfl, rfl, .inr ⟨?_, ?_⟩, _, _, rfl, rfl, ?_⟩
      · have : -18446744073709551616 < (j : Int) + 2 := by omega
        exact this
      · have : (j : Int) + 2 < 18446744073709551616 := by omega
        exact this
      · refine ⟨_, rfl, _, rfl, _, rfl, _, _, rfl, rfl, (show (0 : Int) < (m : Int) by omega), l, _, _, r, rfl, rfl, hc2, ej, ?_⟩
        refine ⟨fun b o e => ?_, ?_, cs.set r (cs[r] + z * ((j : Int) + 2)), _, _, ?_, by rw [List.length_set]; exact hcl, rfl⟩
        · rw [upd_ne (ne_of_none e nlH)]
          exact sT _ _ (sG _ _ e)
        · exact seqL_but But.upd (sT.seq hLG) nls
        · rw [upd_same, List.map_set]
    · rintro σ G ⟨sG, hLG, cs, x3, x4, hc, hcl, rfl⟩
      have hc3 : cs.length ≤ m := by rw [hcl, List.length_take]; omega
      refine ⟨_, rfl, Nat.zero_le _, fun e0 he0 => ?_⟩
      have s3 := same_new (o := .lst []) he0
      refine ⟨.list (cs.map PyData.int), .list [], .lst (SqL.of (s3 _ _ hc)) (dpa_ints cs), .lst (SqL.of upd_same) .nil, shapedM cs, rfl, _, rfl, ifx (fun v G2 => ∃ (l2 : Addr) (cs2 : List Int), v = .ref l2 ∧ Same H G2 ∧ H l2 = none ∧ G2 l2 = some (.lst (cs2.map V.int)) ∧ cs2.length ≤ m) (fun e C k => ?_) (fun e C k => ?_) ?_⟩
      · exact ⟨_, rfl, k _ _ ⟨l, cs, rfl, sG.trans s3, nlH, s3 _ _ hc, hc3⟩⟩
      · refine ⟨(by show 1 ≤ sizeLine; decide), fun l2 hl2 => k _ _ ⟨l2, [0], rfl, sG.trans (s3.trans (same_new hl2)), (sG.trans s3).free hl2, upd_same, by show 1 ≤ m; omega⟩⟩
      · rintro v G2 ⟨l2, cs2, rfl, s4, hl2, h4, h5⟩
        exact q l2 cs2 G2 s4 hl2 h4 h5
theorem folded_imp {vs : List V} {H : Hp} {Q : VK} {E : XK} (h : spD K 2 wFolded vs H Q E) : spLFolded K vs H Q E := by
  obtain ⟨hl, C, bx, ps, Ψ, S, ⟨ns, m, rfl, l63, m1, m9, q⟩, k⟩ := h
  match vs, hl with
  | [a, b], _ =>
    obtain ⟨v, e1, r1⟩ := S.sl 0 _ rfl
    obtain ⟨u, e2, r2⟩ := S.sl 1 _ rfl
    cases (Option.some.inj (Option.some.inj e1))
    cases (Option.some.inj (Option.some.inj e2))
    cases r2
    cases r1 with
    | @scr a _ hs =>
      refine ⟨a, ns, m, rfl, S.cold.seq hs, l63, m1, m9, fun l cs G sG h0 hG lc => ?_⟩
      have S2 := (S.alloc (o := .lst (cs.map V.int)) h0).same (G := G) fun y o e => by
        by_cases z : y = l
        · subst z
          rw [upd_same] at e
          cases e
          exact hG
        · rw [upd_ne z] at e
          exact sG _ _ e
      exact k _ G (.ref l) (.dat (.scr cs)) _ S2 (.scr (SqL.of upd_same)) (q cs lc)
theorem okFoldedD (T : Tx K mg) : FnOk P w K mg base CX0 1 (He.ga K "_law_folded") T.fdLFolded ["_law_script", "_law_size"] (spD K 2 wFolded) := (okLFolded T).imp fun vs H Q E h => folded_imp h

end
section
variable {P : Program} {w : World} {K : PySem.W.Frag} {mg : Str → Option Value} {base : Heap}
local macro_rules | `(tactic| get_elem_tactic_trivial) => `(tactic| (repeat first | exact Wk.nil | exact Wk'.nil | refine Wk.same ?_ | refine Wk'.same ?_ | refine Wk.un (fun _ z => nomatch z) ?_ | refine Wk'.un ?_))
/-! hands -/
/-- a place, a name, a body -/
structure Tr where
  p : Nat
  l : List Nat
  b : Int
def Tr.d (t : Tr) : Dt := .tup [.int (t.p : Nat), nD t.l, .int t.b]
structure Tr.ok (t : Tr) (k : Nat) : Prop where
  pk : t.p ≤ k
  g : Gd t.l
  b0 : 0 ≤ t.b
  b1 : t.b ≤ 1000000
structure Hd where
  l : List Nat
  b : Int
  ls : List Tr
  ys : List Tr
structure Hd.ok (h : Hd) : Prop where
  g : Gd h.l
  b0 : 0 ≤ h.b
  b1 : h.b ≤ 1000000
  l3 : h.ls.length ≤ 3
  y4 : h.ys.length ≤ 4
  lk : ∀ t ∈ h.ls, t.ok 7
  yk : ∀ t ∈ h.ys, t.ok h.ls.length
  up : ∀ (i : Nat) (a b : Tr), h.ys[i]? = some a → h.ys[i + 1]? = some b → a.p < b.p
abbrev HF : List Str := ["name", "body", "loads", "lies"]
def Hd.fs (h : Hd) : List Dt := [nD h.l, .int h.b, .tup (h.ls.map Tr.d), .tup (h.ys.map Tr.d)]
def Hd.d (h : Hd) : Dt := .obj "Hand" HF h.fs
def sqD (k : Bool) (ds : List Dt) : Dt := if k then .tup ds else .lst ds
theorem isNm_ok {l : List Nat} (h : Gd l) : isNameD (nD l) = true := isNm_nm h
def ms (b : Int) : Int := (b * 48271 + 11) % 9973
def wMeasure : WF := fun ps Ψ => ∃ b : Int, ps = [.dat (.int b)] ∧ 0 ≤ b ∧ b ≤ 1000000 ∧ Ψ (.dat (.int (ms b))) ps
theorem okMeasure (T : Tx K mg) : FnOk P w K mg base CX0 1 (He.ga K "measure") T.fdMeasure ["body"] (spD K 1 wMeasure) := by
  have B := T.B
  refine T.FMeasure.ok scMeasure (fun vs H Q E h => h.1) (fun cdv A outer s H vs Q E hr h => ?_)
  refine ⟨_, PSs.nox (pss_one (ps_ret (pe_op op_mod (pe_op op_add (pe_op op_mul (pv 0) (pe_glob (v := .int 48271) (by rfl) T.c_TIMES.choose_spec ⟨_, rfl⟩)) (pe_glob (v := .int 11) (by rfl) T.c_MORE.choose_spec ⟨_, rfl⟩)) (pe_glob (v := .int 9973) (by rfl) T.c_NOTES.choose_spec ⟨_, rfl⟩)))), ?_⟩
  refine bodyD h (fun ps Ψ hw hl => ?_)
  obtain ⟨b, rfl, b0, b1, q⟩ := hw
  exact ⟨.inr ⟨by omega, by omega⟩, (show (0 : Int) < 9973 by decide), q⟩
theorem okLMeasure (T : Tx K mg) : FnOk P w K mg base CX0 1 (He.ga K "_law_measure") T.fdLMeasure ["_law_body"] (spD K 1 wMeasure) := by
  have B := T.B
  refine T.FLMeasure.ok scLMeasure (fun vs H Q E h => h.1) (fun cdv A outer s H vs Q E hr h => ?_)
  refine ⟨_, PSs.nox (pss_one (ps_ret (pe_op op_mod (pe_op op_add (pe_op op_mul (pv 0) pe_int) pe_int) pe_int))), ?_⟩
  refine bodyD h (fun ps Ψ hw hl => ?_)
  obtain ⟨b, rfl, b0, b1, q⟩ := hw
  exact ⟨.inr ⟨by omega, by omega⟩, (show (0 : Int) < 9973 by decide), q⟩
end
section
variable {P : Program} {w : World} {K : PySem.W.Frag} {mg : Str → Option Value} {base : Heap}
local macro_rules | `(tactic| get_elem_tactic_trivial) => `(tactic| (repeat first | exact Wk.nil | exact Wk'.nil | refine Wk.same ?_ | refine Wk'.same ?_ | refine Wk.un (fun _ z => nomatch z) ?_ | refine Wk'.un ?_))
theorem numW_yes {lo hi i : Int} (h0 : lo ≤ i) (h1 : i ≤ hi) : numW lo hi (.int i) = true := by
  show (decide (lo ≤ i) && decide (i ≤ hi)) = true
  rw [decide_eq_true h0, decide_eq_true h1]
  rfl
def wPlaced : WF := fun ps Ψ => ∃ (t : Tr) (k : Nat), ps = [.dat t.d, .dat (.int (k : Nat))] ∧ t.ok k ∧ k ≤ 100 ∧ Ψ (.dat (.bl true)) ps
theorem okIsPlacedBody (T : Tx K mg) : FnOk P w K mg base CX0 3 (He.ga K "is_placed_body") T.fdIsPlacedBody ["thing", "greatest"] (spD K 2 wPlaced) := by
  have B := T.B
  have GIsWithin : FnOk P w K mg base CX0 2 (He.ga K "is_within") T.fdIsWithin ["thing", "least", "greatest"] (spD K 3 wWithin) := okIsWithin T
  have bIsWithin := T.bIsWithin
  have GIsName : FnOk P w K mg base CX0 1 (He.ga K "is_name") T.fdIsName ["thing"] (spD K 1 (wB isNameD)) := okIsName T
  have bIsName := T.bIsName
  refine T.FIsPlacedBody.ok scIsPlacedBody (fun vs H Q E h => h.1) (fun cdv A outer s H vs Q E hr h => ?_)
  refine ⟨_, PSs.nox (pss_cons (ps_if (PW.pt (pw_or (pt_not (pt_val (pe_callB (show CallR _ _ (rIsi K) from call_isi) (by rfl) B.b_isinstance boot_isinstance (pa_cons (pv 0) (pa_cons (pe_bltn (v := .ty "tuple") (by rfl) B.b_tuple PyProof.Rows.boot_tuple rfl) pa_nil))))) (pw_or1 (pt_cmpR (opNeA (K := K) rfl hr.units) (pe_callB (show CallR _ _ (rLen K) from call_len) (by rfl) B.b_len PySem.boot_len (pa_cons (pv 0) pa_nil)) pe_int (nomark _))))) (pss_one (ps_ret pe_bl)) pss_nil)
        (pss_cons (ps_asg (pv 0) (show PG _ _ (gTup K 3 _) from pg_tup rfl (pgs_cons (pg_name (i := 2) scIsPlacedBody.nd rfl (Or.inl rfl)) (pgs_cons (pg_name (i := 3) scIsPlacedBody.nd rfl (Or.inl rfl)) (pgs_cons (pg_name (i := 4) scIsPlacedBody.nd rfl (Or.inl rfl)) pgs_nil)))))
        (pss_one (ps_ret (pe_and (pe_call GIsWithin (hr.mono (by decide)) (by rfl) T.gIsWithin T.FIsWithin.kp bIsWithin .nil pass0 (pa_cons (pv 2) (pa_cons pe_int (pa_cons (pv 1) pa_nil)))) (pe_and (pe_call GIsName (hr.mono (by decide)) (by rfl) T.gIsName T.FIsName.kp bIsName .nil pass0 (pa_cons (pv 3) pa_nil)) (pe_one (pe_call GIsWithin (hr.mono (by decide)) (by rfl) T.gIsWithin T.FIsWithin.kp bIsWithin .nil pass0 (pa_cons (pv 4) (pa_cons pe_int (pa_cons (pe_glob (v := .int 1000000) (by rfl) T.c_GREATEST_BODY.choose_spec ⟨_, rfl⟩) pa_nil))))))))))), ?_⟩
  refine bodyD h (fun ps Ψ hw hl => ?_)
  obtain ⟨t, k, rfl, ok, hk, q⟩ := hw
  have n0 : Nice 60 8000 (.int (t.p : Nat)) := (nice_small (by omega) (by have := ok.pk; omega)).mono (by decide) (by decide)
  have n1 : Nice 60 8000 (nD t.l) := (nice_nm ok.g).mono (by decide) (by decide)
  have n2 : Nice 60 8000 (.int t.b) := (nice_small (by have := ok.b0; omega) (by have := ok.b1; omega)).mono (by decide) (by decide)
  refine ⟨rfl, rfl, .int (t.p : Nat), 0, (k : Nat), rfl, n0, ifT (numW_yes (by omega) (by have := ok.pk; omega)) ⟨rfl, nD t.l, rfl, n1, ifT (isNm_ok ok.g) ⟨rfl, .int t.b, 0, 1000000, rfl, n2, ?_⟩⟩⟩
  show Ψ (.dat (.bl (numW 0 1000000 (.int t.b)))) _
  rw [numW_yes ok.b0 ok.b1]
  exact q
theorem all_true (n : Nat) : ((List.replicate n true).all id) = true := by
  rw [List.all_eq_true]
  intro b hb
  exact (List.mem_replicate.mp hb).2
def wLoads : WF := fun ps Ψ => ∃ (k : Bool) (ls : List Tr), ps = [.dat (sqD k (ls.map Tr.d))] ∧ (∀ t ∈ ls, t.ok 7) ∧ ls.length ≤ 3 ∧ Ψ (.dat (.bl true)) ps
theorem okAreLoads (T : Tx K mg) : FnOk P w K mg base CX0 4 (He.ga K "are_loads") T.fdAreLoads ["thing"] (spD K 1 wLoads) := by
  have B := T.B
  have GIsPlacedBody : FnOk P w K mg base CX0 3 (He.ga K "is_placed_body") T.fdIsPlacedBody ["thing", "greatest"] (spD K 2 wPlaced) := okIsPlacedBody T
  have bIsPlacedBody := T.bIsPlacedBody
  refine T.FAreLoads.ok scAreLoads (fun vs H Q E h => h.1) (fun cdv A outer s H vs Q E hr h => ?_)
  refine ⟨_, PSs.nox (pss_cons (ps_if (PW.pt (pw_or (pt_not (pt_val (pe_callB (show CallR _ _ (rIsiT K) from call_isiT) (by rfl) B.b_isinstance boot_isinstance (pa_cons (pv 0) (pa_cons (pe_tup (pa_cons (pe_bltn (v := .ty "list") (by rfl) B.b_list PyProof.Rows.boot_list rfl) (pa_cons (pe_bltn (v := .ty "tuple") (by rfl) B.b_tuple PyProof.Rows.boot_tuple rfl) pa_nil))) pa_nil))))) (pw_or1 (pt_cmpR op_gt (pe_callB (show CallR _ _ (rLen K) from call_len) (by rfl) B.b_len PySem.boot_len (pa_cons (pv 0) pa_nil)) (pe_glob (v := .int 3) (by rfl) T.c_MOST_LOADS.choose_spec ⟨_, rfl⟩) (nomark _))))) (pss_one (ps_ret pe_bl)) pss_nil)
        (pss_one (ps_ret (pe_callB (show CallR _ _ (rAll K) from cr_all rfl) (by rfl) B.b_all boot_all (pa_cons (pe_lc (own := [("load", 1)]) (g := gName 1) (tt := tYes) (by rfl) scAreLoads.nd (piAny (K := K) rfl (pv 0)) (blkOk_by (own := [("load", 1)]) (N := ["thing", "load"]) (sc := defScope sAreLoads) (by decide +kernel)) (fun _ _ _ _ _ => by exact (pg_name (i := 1) scAreLoads.nd rfl (Or.inl rfl))) (fun _ _ _ _ _ => pts_nil) (fun _ _ _ _ _ => (pe_call GIsPlacedBody (hr.mono (by decide)) (by rfl) T.gIsPlacedBody T.FIsPlacedBody.kp bIsPlacedBody .nil pass0 (pa_cons (pv 1) (pa_cons (pe_op op_sub (pe_glob (v := .int 8) (by rfl) T.c_MOST_BOARDS.choose_spec ⟨_, rfl⟩) pe_int) pa_nil))))) pa_nil))))), ?_⟩
  refine bodyD h (fun ps Ψ hw hl => ?_)
  obtain ⟨k, ls, rfl, ol, l3, q⟩ := hw
  cases k with
  | true =>
    have q : Ψ (.dat (.bl true)) [.dat (.tup (ls.map Tr.d))] := q
    refine ifF (decide_eq_false (by rw [List.length_map]; omega)) ?_
    refine ⟨⟨rfl, rfl⟩, fun j acc ρ => acc = (List.replicate j true).map .bl ∧ ρ = [.dat (.tup (ls.map Tr.d)), .un], ⟨rfl, rfl⟩, ?_, ?_⟩
    · rintro j acc ρ d hd ⟨rfl, rfl⟩
      rw [List.getElem?_map] at hd
      obtain ⟨t, ht, rfl⟩ := Option.map_eq_some_iff.mp hd
      have hj := (List.getElem?_eq_some_iff.mp ht).1
      exact ⟨rfl, t, 7, rfl, ol t (List.mem_of_getElem? ht), by decide, rfl, by rw [List.length_map, List.length_replicate]; exact small6 (by omega), by rw [List.replicate_succ', List.map_append]; rfl, rfl⟩
    · rintro acc ρ ⟨rfl, rfl⟩
      refine ⟨rfl, _, bls_map _, ?_⟩
      rw [all_true]
      exact q
  | false =>
    have q : Ψ (.dat (.bl true)) [.dat (.lst (ls.map Tr.d))] := q
    refine ifF (decide_eq_false (by rw [List.length_map]; omega)) ?_
    refine ⟨⟨rfl, rfl⟩, fun j acc ρ => acc = (List.replicate j true).map .bl ∧ ρ = [.dat (.lst (ls.map Tr.d)), .un], ⟨rfl, rfl⟩, ?_, ?_⟩
    · rintro j acc ρ d hd ⟨rfl, rfl⟩
      rw [List.getElem?_map] at hd
      obtain ⟨t, ht, rfl⟩ := Option.map_eq_some_iff.mp hd
      have hj := (List.getElem?_eq_some_iff.mp ht).1
      exact ⟨rfl, t, 7, rfl, ol t (List.mem_of_getElem? ht), by decide, rfl, by rw [List.length_map, List.length_replicate]; exact small6 (by omega), by rw [List.replicate_succ', List.map_append]; rfl, rfl⟩
    · rintro acc ρ ⟨rfl, rfl⟩
      refine ⟨rfl, _, bls_map _, ?_⟩
      rw [all_true]
      exact q
end
section
variable {P : Program} {w : World} {K : PySem.W.Frag} {mg : Str → Option Value} {base : Heap}
local macro_rules | `(tactic| get_elem_tactic_trivial) => `(tactic| (repeat first | exact Wk.nil | exact Wk'.nil | refine Wk.same ?_ | refine Wk'.same ?_ | refine Wk.un (fun _ z => nomatch z) ?_ | refine Wk'.un ?_))
def wLies : WF := fun ps Ψ => ∃ (m : Bool) (ls ys : List Tr), ps = [.dat (.lst (ys.map Tr.d)), .dat (sqD m (ls.map Tr.d))] ∧ (∀ t ∈ ys, t.ok ls.length) ∧ ys.length ≤ 4 ∧ ls.length ≤ 3 ∧ (∀ (i : Nat) (a b : Tr), ys[i]? = some a → ys[i + 1]? = some b → a.p < b.p) ∧ Ψ (.dat (.bl true)) ps
theorem okAreLies (T : Tx K mg) : FnOk P w K mg base CX0 4 (He.ga K "are_lies") T.fdAreLies ["thing", "loads"] (spD K 2 wLies) := by
  have B := T.B
  have GIsPlacedBody : FnOk P w K mg base CX0 3 (He.ga K "is_placed_body") T.fdIsPlacedBody ["thing", "greatest"] (spD K 2 wPlaced) := okIsPlacedBody T
  have bIsPlacedBody := T.bIsPlacedBody
  refine T.FAreLies.ok scAreLies (fun vs H Q E h => h.1) (fun cdv A outer s H vs Q E hr h => ?_)
  refine ⟨_, PSs.nox (pss_cons (ps_if (pt_not (pt_val (pe_callB (show CallR _ _ (rIsiT K) from call_isiT) (by rfl) B.b_isinstance boot_isinstance (pa_cons (pv 0) (pa_cons (pe_tup (pa_cons (pe_bltn (v := .ty "list") (by rfl) B.b_list PyProof.Rows.boot_list rfl) (pa_cons (pe_bltn (v := .ty "tuple") (by rfl) B.b_tuple PyProof.Rows.boot_tuple rfl) pa_nil))) pa_nil))))) (pss_one (ps_ret pe_bl)) pss_nil)
        (pss_cons (ps_if (pt_not (pt_val (pe_callB (show CallR _ _ (rAll K) from cr_all rfl) (by rfl) B.b_all boot_all (pa_cons (pe_lc (own := [("lie", 2)]) (g := gName 2) (tt := tYes) (by rfl) scAreLies.nd (piAny (K := K) rfl (pv 0)) (blkOk_by (own := [("lie", 2)]) (N := ["thing", "loads", "lie", "after"]) (sc := defScope sAreLies) (by decide +kernel)) (fun _ _ _ _ _ => by exact (pg_name (i := 2) scAreLies.nd rfl (Or.inl rfl))) (fun _ _ _ _ _ => pts_nil) (fun _ _ _ _ _ => (pe_call GIsPlacedBody (hr.mono (by decide)) (by rfl) T.gIsPlacedBody T.FIsPlacedBody.kp bIsPlacedBody .nil pass0 (pa_cons (pv 2) (pa_cons (pe_callB (show CallR _ _ (rLen K) from call_len) (by rfl) B.b_len PySem.boot_len (pa_cons (pv 1) pa_nil)) pa_nil))))) pa_nil)))) (pss_one (ps_ret pe_bl)) pss_nil)
        (pss_one (ps_ret (pe_callB (show CallR _ _ (rAll K) from cr_all rfl) (by rfl) B.b_all boot_all (pa_cons (pe_lc (own := [("lie", 2), ("after", 3)]) (g := gTup K 2 (gCons (gName 2) (gCons (gName 3) gNil))) (tt := tYes) (by rfl) scAreLies.nd (show PI _ _ _ (iZipB K _) from (RZ.pi_zipA (by rfl) B.b_zip (pa_cons (pv 0) (pa_cons (pe_slice (show SlR _ (rSlL K) from sl_list) (pv 0) (po_some pe_int) po_none) pa_nil)))) (blkOk_by (own := [("lie", 2), ("after", 3)]) (N := ["thing", "loads", "lie", "after"]) (sc := defScope sAreLies) (by decide +kernel)) (fun _ _ _ _ _ => by exact (show PG _ _ (gTup K 2 _) from pg_tup rfl (pgs_cons (pg_name (i := 2) scAreLies.nd rfl (Or.inl rfl)) (pgs_cons (pg_name (i := 3) scAreLies.nd rfl (Or.inl rfl)) pgs_nil)))) (fun _ _ _ _ _ => pts_nil) (fun _ _ _ _ _ => (pe_cmpR op_lt (pe_ix (show IxR _ (rIx K) from ix_seq) (pv 2) pe_int (fun _ _ => rfl)) (pe_ix (show IxR _ (rIx K) from ix_seq) (pv 3) pe_int (fun _ _ => rfl)) (nomark _)))) pa_nil)))))), ?_⟩
  refine bodyD h (fun ps Ψ hw hl => ?_)
  obtain ⟨m, ls, ys, rfl, oy, l4, l3, up, q⟩ := hw
  have cD : cutD (ys.map Tr.d) (some 1) none = (ys.drop 1).map Tr.d := by
    rw [cut_drop (by decide), List.map_drop]
    rfl
  cases m with
  | true =>
    have q : Ψ (.dat (.bl true)) [.dat (.lst (ys.map Tr.d)), .dat (.tup (ls.map Tr.d))] := q
    refine ⟨⟨rfl, rfl⟩, fun j acc ρ => acc = (List.replicate j true).map .bl ∧ ρ = [.dat (.lst (ys.map Tr.d)), .dat (.tup (ls.map Tr.d)), .un, .un], ⟨rfl, rfl⟩, ?_, ?_⟩
    · rintro j acc ρ d hd ⟨rfl, rfl⟩
      rw [List.getElem?_map] at hd
      obtain ⟨t, ht, rfl⟩ := Option.map_eq_some_iff.mp hd
      have hj := (List.getElem?_eq_some_iff.mp ht).1
      exact ⟨rfl, t, ls.length, by rw [List.length_map]; rfl, oy t (List.mem_of_getElem? ht), by omega, rfl, by rw [List.length_map, List.length_replicate]; exact small6 (by omega), by rw [List.replicate_succ', List.map_append]; rfl, rfl⟩
    · rintro acc ρ ⟨rfl, rfl⟩
      refine ⟨rfl, _, bls_map _, ?_⟩
      rw [all_true]
      refine ⟨⟨rfl, rfl⟩, fun j acc ρ => acc = (List.replicate j true).map .bl ∧ ρ = [.dat (.lst (ys.map Tr.d)), .dat (.tup (ls.map Tr.d)), .un, .un], ⟨rfl, rfl⟩, ?_, ?_⟩
      · rintro j acc ρ d hd ⟨rfl, rfl⟩
        obtain ⟨x, y, hx, hy, rfl⟩ := zipD_at hd
        rw [cD, List.getElem?_map] at hy
        rw [List.getElem?_map] at hx
        obtain ⟨a, ha, rfl⟩ := Option.map_eq_some_iff.mp hx
        obtain ⟨b, hb, rfl⟩ := Option.map_eq_some_iff.mp hy
        rw [List.getElem?_drop, Nat.add_comm] at hb
        have hj := (List.getElem?_eq_some_iff.mp ha).1
        have lt := up j a b ha hb
        refine ⟨rfl, _, rfl, _, rfl, rfl, by rw [List.length_map, List.length_replicate]; exact small6 (by omega), ?_, rfl⟩
        rw [List.replicate_succ', List.map_append]
        show _ ++ [Dt.bl (decide ((a.p : Int) < (b.p : Int)))] = _
        rw [decide_eq_true (by omega)]
        rfl
      · rintro acc ρ ⟨rfl, rfl⟩
        refine ⟨rfl, _, bls_map _, ?_⟩
        rw [all_true]
        exact q
  | false =>
    have q : Ψ (.dat (.bl true)) [.dat (.lst (ys.map Tr.d)), .dat (.lst (ls.map Tr.d))] := q
    refine ⟨⟨rfl, rfl⟩, fun j acc ρ => acc = (List.replicate j true).map .bl ∧ ρ = [.dat (.lst (ys.map Tr.d)), .dat (.lst (ls.map Tr.d)), .un, .un], ⟨rfl, rfl⟩, ?_, ?_⟩
    · rintro j acc ρ d hd ⟨rfl, rfl⟩
      rw [List.getElem?_map] at hd
      obtain ⟨t, ht, rfl⟩ := Option.map_eq_some_iff.mp hd
      have hj := (List.getElem?_eq_some_iff.mp ht).1
      exact ⟨rfl, t, ls.length, by rw [List.length_map]; rfl, oy t (List.mem_of_getElem? ht), by omega, rfl, by rw [List.length_map, List.length_replicate]; exact small6 (by omega), by rw [List.replicate_succ', List.map_append]; rfl, rfl⟩
    · rintro acc ρ ⟨rfl, rfl⟩
      refine ⟨rfl, _, bls_map _, ?_⟩
      rw [all_true]
      refine ⟨⟨rfl, rfl⟩, fun j acc ρ => acc = (List.replicate j true).map .bl ∧ ρ = [.dat (.lst (ys.map Tr.d)), .dat (.lst (ls.map Tr.d)), .un, .un], ⟨rfl, rfl⟩, ?_, ?_⟩
      · rintro j acc ρ d hd ⟨rfl, rfl⟩
        obtain ⟨x, y, hx, hy, rfl⟩ := zipD_at hd
        rw [cD, List.getElem?_map] at hy
        rw [List.getElem?_map] at hx
        obtain ⟨a, ha, rfl⟩ := Option.map_eq_some_iff.mp hx
        obtain ⟨b, hb, rfl⟩ := Option.map_eq_some_iff.mp hy
        rw [List.getElem?_drop, Nat.add_comm] at hb
        have hj := (List.getElem?_eq_some_iff.mp ha).1
        have lt := up j a b ha hb
        refine ⟨rfl, _, rfl, _, rfl, rfl, by rw [List.length_map, List.length_replicate]; exact small6 (by omega), ?_, rfl⟩
        rw [List.replicate_succ', List.map_append]
        show _ ++ [Dt.bl (decide ((a.p : Int) < (b.p : Int)))] = _
        rw [decide_eq_true (by omega)]
        rfl
      · rintro acc ρ ⟨rfl, rfl⟩
        refine ⟨rfl, _, bls_map _, ?_⟩
        rw [all_true]
        exact q
end
section
variable {P : Program} {w : World} {K : PySem.W.Frag} {mg : Str → Option Value} {base : Heap}
local macro_rules | `(tactic| get_elem_tactic_trivial) => `(tactic| (repeat first | exact Wk.nil | exact Wk'.nil | refine Wk.same ?_ | refine Wk'.same ?_ | refine Wk.un (fun _ z => nomatch z) ?_ | refine Wk'.un ?_))
/-! the rows that a hand notes -/
def tn (h : Hd) (n : Option Hd) : List Rw := h.ls.map (fun t => (⟨(t.p : Nat), "set", t.l, ms t.b⟩ : Rw)) ++ [match n with
  | none => ⟨0, "end", h.l, 0⟩
  | some g => ⟨0, "load", g.l, ms g.b⟩]
def oHd : Option Hd → Dt
  | none => .non
  | some g => g.d
def wTn : List Sl → (List Dt → List Sl → Prop) → Prop := fun ps Ψ => ∃ (h : Hd) (n : Option Hd), ps = [.dat h.d, .dat (oHd n)] ∧ h.ok ∧ (∀ g, n = some g → g.ok) ∧ Ψ ((tn h n).map Rw.d) ps
theorem dats_d : ∀ (ds es : List Dt), dats (ds.map Ar.d ++ es.map Ar.d) = some (ds ++ es)
  | [], [] => rfl
  | [], e :: es => by
    have h := dats_d [] es
    show dats (Ar.d e :: es.map Ar.d) = some (e :: es)
    rw [dats, show dats (es.map Ar.d) = some es from h]
  | d :: ds, es => by
    show dats (Ar.d d :: (ds.map Ar.d ++ es.map Ar.d)) = some (d :: (ds ++ es))
    rw [dats, dats_d ds es]
theorem fldN (T : Tx K mg) : FldOk K "Hand" "name" := ⟨T.clHand, T.nHand_name⟩
theorem fldB (T : Tx K mg) : FldOk K "Hand" "body" := ⟨T.clHand, T.nHand_body⟩
theorem fldLo (T : Tx K mg) : FldOk K "Hand" "loads" := ⟨T.clHand, T.nHand_loads⟩
theorem fldLi (T : Tx K mg) : FldOk K "Hand" "lies" := ⟨T.clHand, T.nHand_lies⟩
theorem okTrueNotes (T : Tx K mg) : FnOk P w K mg base CX0 2 (He.ga K "true_notes") T.fdTrueNotes ["hand", "next_hand"] (spN K 2 wTn) := by
  have B := T.B
  have GMeasure : FnOk P w K mg base CX0 1 (He.ga K "measure") T.fdMeasure ["body"] (spD K 1 wMeasure) := okMeasure T
  have bMeasure := T.bMeasure
  refine T.FTrueNotes.ok scTrueNotes (fun vs H Q E h => h.1) (fun cdv A outer s H vs Q E hr h => ?_)
  refine ⟨_, PSs.nox (pss_cons (show PS _ _ (tAsg (tColdE (tLc _ _ _ _ _)) (gName 2)) from (ps_setLc (i := 2) (own := [("board", 3), ("name", 4), ("body", 5)]) (g := gTup K 3 (gCons (gName 3) (gCons (gName 4) (gCons (gName 5) gNil)))) (tt := tYes) (by rfl) scTrueNotes.nd rfl rfl (sw_true rfl rfl rfl (by decide +kernel)) (piAny (K := K) rfl (show PE _ _ (tFld K _ "loads") from pe_fld (pv 0) rfl)) (blkOk_by (own := [("board", 3), ("name", 4), ("body", 5)]) (N := ["hand", "next_hand", "rows", "board", "name", "body"]) (sc := defScope sTrueNotes) (by decide +kernel)) (fun _ _ _ _ _ => by exact (show PG _ _ (gTup K 3 _) from pg_tup rfl (pgs_cons (pg_name (i := 3) scTrueNotes.nd rfl (Or.inl rfl)) (pgs_cons (pg_name (i := 4) scTrueNotes.nd rfl (Or.inl rfl)) (pgs_cons (pg_name (i := 5) scTrueNotes.nd rfl (Or.inl rfl)) pgs_nil))))) (fun _ _ _ _ _ => pts_nil) (fun _ _ _ _ _ => (pe_tup (pa_cons (pv 3) (pa_cons pe_str (pa_cons (pv 4) (pa_cons (pe_call GMeasure (hr.mono (by decide)) (by rfl) T.gMeasure T.FMeasure.kp bMeasure .nil pass0 (pa_cons (pv 5) pa_nil)) pa_nil))))))))
        (pss_cons (ps_if (pt_cmpR (show OpR _ _ rIsNone from op_isN) (pv 1) pe_non (nomark _)) (pss_one (ps_ret (pe_lst (show PA _ _ (StX.tStar K _ _) from StX.pa_star (pv 2) (pa_cons (pe_tup (pa_cons pe_int (pa_cons pe_str (pa_cons (show PE _ _ (tFld K _ "name") from pe_fld (pv 0) rfl) (pa_cons pe_int pa_nil))))) pa_nil))))) pss_nil)
        (pss_one (ps_ret (pe_lst (show PA _ _ (StX.tStar K _ _) from StX.pa_star (pv 2) (pa_cons (pe_tup (pa_cons pe_int (pa_cons pe_str (pa_cons (show PE _ _ (tFld K _ "name") from pe_fld (pv 1) rfl) (pa_cons (pe_call GMeasure (hr.mono (by decide)) (by rfl) T.gMeasure T.FMeasure.kp bMeasure .nil pass0 (pa_cons (show PE _ _ (tFld K _ "body") from pe_fld (pv 1) rfl) pa_nil)) pa_nil))))) pa_nil))))))), ?_⟩
  refine bodyD h (fun ps Ψ hw hl => ?_)
  obtain ⟨h, n, rfl, ho, no, q⟩ := hw
  refine ⟨2, _, by decide +kernel, rfl, fldLo T, ⟨rfl, rfl⟩, fun j acc ρ => acc = (h.ls.take j).map (fun t => Rw.d ⟨(t.p : Nat), "set", t.l, ms t.b⟩) ∧ ρ = [.dat h.d, .dat (oHd n), .un, .un, .un, .un], ⟨rfl, rfl⟩, ?_, ?_⟩
  · rintro j acc ρ d hd ⟨rfl, rfl⟩
    rw [List.getElem?_map] at hd
    obtain ⟨t, ht, rfl⟩ := Option.map_eq_some_iff.mp hd
    have hj := (List.getElem?_eq_some_iff.mp ht).1
    have ok := ho.lk t (List.mem_of_getElem? ht)
    have l3 := ho.l3
    refine ⟨rfl, rfl, t.b, rfl, ok.b0, ok.b1, by show 4 ≤ sizeLine; decide, rfl, by rw [List.length_map, List.length_take]; exact small6 (by omega), ?_, rfl⟩
    rw [take_at ht, List.map_append]
    rfl
  · rintro acc ρ ⟨rfl, rfl⟩
    rw [List.length_map, List.take_length]
    have l3 := ho.l3
    have sz : sizeLine = 16777216 := by decide
    refine ⟨rfl, ?_⟩
    show Fs.nx _ [.dat h.d, .dat (oHd n), .dat (.lst (h.ls.map (fun t => Rw.d ⟨(t.p : Nat), "set", t.l, ms t.b⟩))), .un, .un, .un]
    cases n with
    | none =>
      refine ⟨rfl, 0, _, by decide +kernel, rfl, fldN T, by show 4 ≤ sizeLine; decide, ?_⟩
      have eD : dats ((h.ls.map (fun t => Rw.d ⟨(t.p : Nat), "set", t.l, ms t.b⟩)).map Ar.d ++ [Ar.d (Rw.d ⟨0, "end", h.l, 0⟩)]) = some ((tn h none).map Rw.d) := by
        rw [show [Ar.d (Rw.d ⟨0, "end", h.l, 0⟩)] = [Rw.d ⟨0, "end", h.l, 0⟩].map Ar.d from rfl, dats_d]
        unfold tn
        rw [List.map_append, List.map_map]
        rfl
      show (match dats ((h.ls.map (fun t => Rw.d ⟨(t.p : Nat), "set", t.l, ms t.b⟩)).map Ar.d ++ [Ar.d (Rw.d ⟨0, "end", h.l, 0⟩)]) with | some ds => _ | none => False)
      rw [eD]
      refine ⟨?_, q⟩
      unfold tn
      rw [List.length_map, List.length_append, List.length_map]
      show _ + 1 ≤ _
      omega
    | some g =>
      have og := no g rfl
      refine ⟨rfl, 0, _, by decide +kernel, rfl, fldN T, 1, _, by decide +kernel, rfl, fldB T, rfl, g.b, rfl, og.b0, og.b1, by show 4 ≤ sizeLine; decide, ?_⟩
      have eD : dats ((h.ls.map (fun t => Rw.d ⟨(t.p : Nat), "set", t.l, ms t.b⟩)).map Ar.d ++ [Ar.d (Rw.d ⟨0, "load", g.l, ms g.b⟩)]) = some ((tn h (some g)).map Rw.d) := by
        rw [show [Ar.d (Rw.d ⟨0, "load", g.l, ms g.b⟩)] = [Rw.d ⟨0, "load", g.l, ms g.b⟩].map Ar.d from rfl, dats_d]
        unfold tn
        rw [List.map_append, List.map_map]
        rfl
      show (match dats ((h.ls.map (fun t => Rw.d ⟨(t.p : Nat), "set", t.l, ms t.b⟩)).map Ar.d ++ [Ar.d (Rw.d ⟨0, "load", g.l, ms g.b⟩)]) with | some ds => _ | none => False)
      rw [eD]
      refine ⟨?_, q⟩
      unfold tn
      rw [List.length_map, List.length_append, List.length_map]
      show _ + 1 ≤ _
      omega
end
section
variable {P : Program} {w : World} {K : PySem.W.Frag} {mg : Str → Option Value} {base : Heap}
local macro_rules | `(tactic| get_elem_tactic_trivial) => `(tactic| (repeat first | exact Wk.nil | exact Wk'.nil | refine Wk.same ?_ | refine Wk'.same ?_ | refine Wk.un (fun _ z => nomatch z) ?_ | refine Wk'.un ?_))
/-! the hand's own words -/
/-- the rows behind lies -/
def lied : List Rw → List Tr → List Rw
  | rs, [] => rs
  | rs, y :: ys => lied (match rs[y.p]? with
    | some r => if r.w = "end" then rs else rs.set y.p ⟨r.b, r.w, y.l, ms y.b⟩
    | none => rs) ys
theorem lied_len : ∀ (ys : List Tr) (rs : List Rw), (lied rs ys).length = rs.length
  | [], _ => rfl
  | y :: ys, rs => by
    unfold lied
    rw [lied_len ys]
    cases rs[y.p]? with
    | none => rfl
    | some r =>
      by_cases e : r.w = "end"
      · show (if r.w = "end" then rs else _).length = _
        rw [if_pos e]
      · show (if r.w = "end" then rs else _).length = _
        rw [if_neg e, List.length_set]
theorem lied_app : ∀ (xs ys : List Tr) (rs : List Rw), lied rs (xs ++ ys) = lied (lied rs xs) ys
  | [], _, _ => rfl
  | x :: xs, ys, rs => by
    show lied (match rs[x.p]? with | some r => _ | none => rs) (xs ++ ys) = _
    rw [lied_app xs]
    rfl
theorem tkN (n : Nat) : ((n : Nat) : Int).toNat = n := by omega
theorem ixN_nat {m p : Nat} (h : p < m) : ixN m (p : Int) = some p := by
  unfold ixN
  rw [if_pos (by omega), if_pos (by omega)]
  simp
def nts (h : Hd) (n : Option Hd) : List Rw := lied (tn h n) h.ys
def wNotes : List Sl → (List Dt → List Sl → Prop) → Prop := fun ps Ψ => ∃ (h : Hd) (n : Option Hd), ps = [.dat h.d, .dat (oHd n)] ∧ h.ok ∧ (∀ g, n = some g → g.ok) ∧ Ψ ((nts h n).map Rw.d) ps
theorem okHandNotes (T : Tx K mg) : FnOk P w K mg base CX0 3 (He.ma K (He.ga K "Hand") "notes") T.fdHandNotes ["self", "next_hand"] (spN K 2 wNotes) := by
  have B := T.B
  have GTrueNotes : FnOk P w K mg base CX0 2 (He.ga K "true_notes") T.fdTrueNotes ["hand", "next_hand"] (spN K 2 wTn) := okTrueNotes T
  have bTrueNotes := T.bTrueNotes
  have GMeasure : FnOk P w K mg base CX0 1 (He.ga K "measure") T.fdMeasure ["body"] (spD K 1 wMeasure) := okMeasure T
  have bMeasure := T.bMeasure
  refine T.FHandNotes.ok scHandNotes (fun vs H Q E h => h.1) (fun cdv A outer s H vs Q E hr h => ?_)
  refine ⟨_, PSs.nox (pss_cons (ps_set (i := 2) scHandNotes.nd rfl (.inl rfl) (pe_call GTrueNotes (hr.mono (by decide)) (by rfl) T.gTrueNotes T.FTrueNotes.kp bTrueNotes .nil pass0 (pa_cons (pv 0) (pa_cons (pv 1) pa_nil))))
        (pss_cons (ps_for PassesOwn.never rfl (piAny (K := K) rfl (show PE _ _ (tFld K _ "lies") from pe_fld (pv 0) rfl)) (show PG _ _ (gTup K 3 _) from pg_tup rfl (pgs_cons (pg_name (i := 3) scHandNotes.nd rfl (Or.inl rfl)) (pgs_cons (pg_name (i := 4) scHandNotes.nd rfl (Or.inl rfl)) (pgs_cons (pg_name (i := 5) scHandNotes.nd rfl (Or.inl rfl)) pgs_nil))))
        (pss_cons (ps_asg (pe_ix (show IxR _ (rIx K) from ix_seq) (pv 2) (pv 3) (fun _ _ => rfl)) (show PG _ _ (gTup K 4 _) from pg_tup rfl (pgs_cons (pg_name (i := 6) scHandNotes.nd rfl (Or.inl rfl)) (pgs_cons (pg_name (i := 7) scHandNotes.nd rfl (Or.inl rfl)) (pgs_cons (pg_name (i := 8) scHandNotes.nd rfl (Or.inl rfl)) (pgs_cons (pg_name (i := 9) scHandNotes.nd rfl (Or.inl rfl)) pgs_nil))))))
        (pss_one (ps_if (pt_cmpR (opNeA (K := K) rfl hr.units) (pv 7) pe_str (nomark _)) (pss_one (ps_asg (pe_tup (pa_cons (pv 6) (pa_cons (pv 7) (pa_cons (pv 4) (pa_cons (pe_call GMeasure (hr.mono (by decide)) (by rfl) T.gMeasure T.FMeasure.kp bMeasure .nil pass0 (pa_cons (pv 5) pa_nil)) pa_nil))))) (pg_sub (pv 2) (pv 3) set_list))) pss_nil))))
        (pss_one (ps_ret (pv 2))))), ?_⟩
  refine bodyD h (fun ps Ψ hw hl => ?_)
  obtain ⟨h, n, rfl, ho, no, q⟩ := hw
  have l3 := ho.l3
  have tl : (tn h n).length = h.ls.length + 1 := by
    unfold tn
    rw [List.length_append, List.length_map]
    rfl
  refine ⟨rfl, h, n, rfl, ho, no, ?_⟩
  show Fs.nx _ [.dat h.d, .dat (oHd n), .hot ((tn h n).map Rw.d), .un, .un, .un, .un, .un, .un, .un]
  refine ⟨3, _, by decide +kernel, rfl, fldLi T, fun j ρ => ∃ D, D = (lied (tn h n) (h.ys.take j)).map Rw.d ∧ ρ = [.dat h.d, .dat (oHd n), .hot D, .un, .un, .un, .un, .un, .un, .un], To.of ⟨_, rfl, rfl⟩ (by get_elem_tactic_trivial), ?_, ?_⟩
  · rintro j ρ d hd ⟨D, rfl, rfl⟩
    rw [List.getElem?_map] at hd
    obtain ⟨y, hy, rfl⟩ := Option.map_eq_some_iff.mp hd
    have ok := ho.yk y (List.mem_of_getElem? hy)
    have pk := ok.pk
    have hp : y.p < (lied (tn h n) (h.ys.take j)).length := by rw [lied_len, tl]; omega
    obtain ⟨r, hr⟩ : ∃ r, (lied (tn h n) (h.ys.take j))[y.p]? = some r := ⟨_, List.getElem?_eq_getElem hp⟩
    have e1 : lied (tn h n) (h.ys.take (j + 1)) = if r.w = "end" then lied (tn h n) (h.ys.take j) else (lied (tn h n) (h.ys.take j)).set y.p ⟨r.b, r.w, y.l, ms y.b⟩ := by
      rw [take_at hy, lied_app]
      show lied (match (lied (tn h n) (h.ys.take j))[y.p]? with | some r => _ | none => _) [] = _
      rw [hr]
      rfl
    have aD : atI ((lied (tn h n) (h.ys.take j)).map Rw.d) (y.p : Nat) = some r.d := atD_of (by omega) (by rw [tkN, List.getElem?_map, hr]; rfl)
    refine ⟨rfl, _, aD, rfl, ?_⟩
    by_cases h : r.w = "end"
    · rw [if_pos h] at e1
      refine ifF (by show (!decide (r.w = "end")) = false; rw [decide_eq_true h]; rfl) ?_
      exact To.of ⟨_, by rw [e1], rfl⟩ (by get_elem_tactic_trivial)
    · rw [if_neg h] at e1
      refine ifT (by show (!decide (r.w = "end")) = true; rw [decide_eq_false h]; rfl) ?_
      refine ⟨rfl, y.b, rfl, ok.b0, ok.b1, by show 4 ≤ sizeLine; decide, y.p, ixN_nat (by rw [List.length_map]; exact hp), To.of ⟨_, ?_, rfl⟩ (by get_elem_tactic_trivial)⟩
      rw [e1, List.map_set]
      rfl
  · rintro ρ ⟨D, rfl, rfl⟩
    rw [List.length_map, List.take_length]
    exact q
end
section
variable {P : Program} {w : World} {K : PySem.W.Frag} {mg : Str → Option Value} {base : Heap}
local macro_rules | `(tactic| get_elem_tactic_trivial) => `(tactic| (repeat first | exact Wk.nil | exact Wk'.nil | refine Wk.same ?_ | refine Wk'.same ?_ | refine Wk.un (fun _ z => nomatch z) ?_ | refine Wk'.un ?_))
/-! a hand made -/
def spNm : WMk := fun ds Ψ => ∃ (h : Hd) (k : Bool), ds = [nD h.l, .int h.b, sqD k (h.ls.map Tr.d), .lst (h.ys.map Tr.d)] ∧ h.ok ∧ Ψ h.fs
theorem same_off {C H : Hp} {p : Addr} {o : HO} (s : Same C H) (h : C p = none) : Same C (upd H p o) := fun a u e => by
  have ne : a ≠ p := fun z => by rw [z, h] at e; cases e
  rw [upd_ne ne]
  exact s _ _ e
theorem cTuple_run {C H : Hp} {v : V} {ds : List Dt} {k : Bool} {Q : VK} (s : Same C H) (r : Rp K C v (sqD k ds)) (h : ∀ C' G w, Same C C' → Same C' G → Same H G → (∀ a o, C' a = some o → C a = none → H a = none) → Rp K C' w (.tup ds) → Q w G) : cTuple K [v] H Q := by
  cases k with
  | true =>
    have r : Rp K C v (.tup ds) := r
    have r0 := r
    cases r with
    | tup hs rl => exact ⟨_, _, rfl, .inr ⟨seqT_same s hs, h C H _ (Same.refl _) s (Same.refl _) (fun a o e n => by rw [e] at n; cases n) r0⟩⟩
  | false =>
    have r : Rp K C v (.lst ds) := r
    cases r with
    | @lst _ xs _ hc rl =>
      refine ⟨_, _, rfl, .inl ⟨SqL.of (s _ _ hc), fun l hl => ?_⟩⟩
      have s1 := same_new (o := .tup xs) (s.free hl)
      refine h (upd C l (.tup xs)) (upd H l (.tup xs)) (.ref l) s1 (fun a u e => ?_) (same_new hl) (fun a u e n => ?_) (.tup (.inl (.inl upd_same)) (rl.same s1))
      · by_cases z : a = l
        · subst z
          rw [upd_same] at e ⊢
          exact e
        · rw [upd_ne z] at e ⊢
          exact s _ _ e
      · by_cases z : a = l
        · rw [z]
          exact hl
        · rw [upd_ne z, n] at e
          cases e
def spHandI (K : PySem.W.Frag) : Sp := fun vs H Q _ => ∃ (p dx : Addr) (a b c d : V) (C : Hp) (h : Hd) (k : Bool), vs = [.ref p, a, b, c, d] ∧ H p = some (.ins (He.ga K "Hand") dx []) ∧ C p = none ∧ Same C H ∧ RpL K C [a, b, c, d] [nD h.l, .int h.b, sqD k (h.ls.map Tr.d), .lst (h.ys.map Tr.d)] ∧ h.ok ∧
  ∀ (C' G : Hp) (ws : List V), Same C C' → Same C' G → (∀ a o, C' a = some o → C a = none → H a = none) → RpL K C' ws h.fs → HF.length = ws.length → G p = some (.ins (He.ga K "Hand") dx (HF.zip ws)) → But p H G → Q .non G
theorem okHandInit (T : Tx K mg) : FnOk P w K mg base CX0 5 (He.ma K (He.ga K "Hand") "__init__") T.fdHandInit ["self", "name", "body", "loads", "lies"] (spHandI K) := by
  have B := T.B
  have GIsName : FnOk P w K mg base CX0 1 (He.ga K "is_name") T.fdIsName ["thing"] (spD K 1 (wB isNameD)) := okIsName T
  have bIsName := T.bIsName
  have GStartErrorInit : FnOk P w K mg base CX0 1 (He.ma K (He.ga K "StartError") "__init__") T.fdStartErrorInit ["self", "what"] (spInitE K) := okStartErrorInit T
  have bStartErrorInit := T.bStartErrorInit
  have GIsWithin : FnOk P w K mg base CX0 2 (He.ga K "is_within") T.fdIsWithin ["thing", "least", "greatest"] (spD K 3 wWithin) := okIsWithin T
  have bIsWithin := T.bIsWithin
  have GAreLoads : FnOk P w K mg base CX0 4 (He.ga K "are_loads") T.fdAreLoads ["thing"] (spD K 1 wLoads) := okAreLoads T
  have bAreLoads := T.bAreLoads
  have GAreLies : FnOk P w K mg base CX0 4 (He.ga K "are_lies") T.fdAreLies ["thing", "loads"] (spD K 2 wLies) := okAreLies T
  have bAreLies := T.bAreLies
  refine T.FHandInit.ok scHandInit (fun vs H Q E h => ?_) (fun cdv A outer s H vs Q E hr h => ?_)
  · obtain ⟨p, dx, a, b, c, d, C, h, k, rfl, _⟩ := h
    rfl
  · obtain ⟨p, dx, a, b, c, d, C, h, k, rfl, hp, cp, sC, ru, ok, q⟩ := h
    refine ⟨_, PSs.nox (pss_cons (ps_if (pt_not (pt_val (pe_call GIsName (hr.mono (by decide)) (by rfl) T.gIsName T.FIsName.kp bIsName .nil pass0 (pa_cons (pv 1) pa_nil)))) (pss_one ps_never) pss_nil)
        (pss_cons (ps_if (pt_not (pt_val (pe_call GIsWithin (hr.mono (by decide)) (by rfl) T.gIsWithin T.FIsWithin.kp bIsWithin .nil pass0 (pa_cons (pv 2) (pa_cons pe_int (pa_cons (pe_glob (v := .int 1000000) (by rfl) T.c_GREATEST_BODY.choose_spec ⟨_, rfl⟩) pa_nil)))))) (pss_one ps_never) pss_nil)
        (pss_cons (ps_if (pt_not (pt_val (pe_call GAreLoads (hr.mono (by decide)) (by rfl) T.gAreLoads T.FAreLoads.kp bAreLoads .nil pass0 (pa_cons (pv 3) pa_nil)))) (pss_one ps_never) pss_nil)
        (pss_cons (ps_if (pt_not (pt_val (pe_call GAreLies (hr.mono (by decide)) (by rfl) T.gAreLies T.FAreLies.kp bAreLies .nil pass0 (pa_cons (pv 4) (pa_cons (pv 3) pa_nil))))) (pss_one ps_never) pss_nil)
        (pss_cons (ps_fld (pv 0) (pv 1) rfl)
        (pss_cons (ps_fld (pv 0) (pv 2) rfl)
        (pss_cons (ps_fld (pv 0) (pe_callTy (show CallR _ _ (cTuple K) from call_tuple_of) (by rfl) B.b_tuple PyProof.Rows.boot_tuple (pa_cons (pv 3) pa_nil)) rfl)
        (pss_one (ps_fld (pv 0) (pe_callTy (show CallR _ _ (cTuple K) from call_tuple_of) (by rfl) B.b_tuple PyProof.Rows.boot_tuple (pa_cons (pv 4) pa_nil)) rfl))))))))), ?_⟩
    cases ru with | cons ra ru =>
    cases ru with | cons rb ru =>
    cases ru with | cons rc ru =>
    cases ru with | cons rd ru =>
    have n0 : Nice 60 8000 (nD h.l) := (nice_nm ok.g).mono (by decide) (by decide)
    have n1 : Nice 60 8000 (.int h.b) := (nice_small (by have := ok.b0; omega) (by have := ok.b1; omega)).mono (by decide) (by decide)
    refine ⟨_, rfl, old_true (b := true) (E := fun _ _ _ => False) rfl sC (.cons ra .nil) ⟨nD h.l, rfl, n0, by rw [isNm_ok ok.g]⟩ fun C1 G1 g1 s1 h1 w1 => ⟨_, rfl, iteF ?_⟩⟩
    refine ⟨_, rfl, old_true (b := true) (E := fun _ _ _ => False) (ds := [.int h.b, .int 0, .int 1000000]) rfl s1 (.cons (rb.same g1) (.cons (.int 0) (.cons (.int 1000000) .nil))) ⟨.int h.b, 0, 1000000, rfl, n1, by rw [numW_yes ok.b0 ok.b1]⟩ fun C2 G2 g2 s2 h2 w2 => ⟨_, rfl, iteF ?_⟩⟩
    refine ⟨_, rfl, old_true (b := true) (E := fun _ _ _ => False) rfl s2 (.cons (rc.same (g1.trans g2)) .nil) ⟨k, h.ls, rfl, ok.lk, ok.l3, rfl⟩ fun C3 G3 g3 s3 h3 w3 => ⟨_, rfl, iteF ?_⟩⟩
    have c13 := g1.trans (g2.trans g3)
    refine ⟨_, rfl, _, rfl, old_true (b := true) (E := fun _ _ _ => False) rfl s3 (.cons (rd.same c13) (.cons (rc.same c13) .nil)) ⟨k, h.ls, h.ys, rfl, ok.yk, ok.y4, ok.l3, ok.up, rfl⟩ fun C4 G4 g4 s4 h4 w4 => ⟨_, rfl, iteF ?_⟩⟩
    have c4 := c13.trans g4
    have hG : Same H G4 := h1.trans (h2.trans (h3.trans h4))
    have w14 : ∀ x o, C4 x = some o → C x = none → H x = none := fun x o e n => by
      cases e1 : C1 x with
      | some o1 => exact w1 x o1 e1 n
      | none =>
        refine h1.free ?_
        cases e2 : C2 x with
        | some o2 => exact w2 x o2 e2 e1
        | none =>
          refine h2.free ?_
          cases e3 : C3 x with
          | some o3 => exact w3 x o3 e3 e2
          | none => exact h3.free (w4 x o e e3)
    have off : ∀ {D : Hp}, (∀ x o, D x = some o → C x = none → H x = none) → D p = none := fun {D} z => by
      cases e : D p with
      | none => rfl
      | some o =>
        have := z p o e cp
        rw [hp] at this
        cases this
    have cp4 := off w14
    have gp4 := hG _ _ hp
    refine ⟨_, rfl, _, rfl, p, _, dx, [], rfl, gp4, T.clHand, T.nHand_name, by show 0 < 1000; decide, ?_⟩
    refine ⟨_, rfl, _, rfl, p, _, dx, _, rfl, upd_same, T.clHand, T.nHand_body, by show 1 < 1000; decide, ?_⟩
    refine ⟨_, rfl, ?_⟩
    dsimp only [tNil]
    refine cTuple_run (C := C4) (same_off (same_off s4 cp4) cp4) (rc.same c4) fun C5 G5 v5 g5 s5 h5 w5 r5 => ?_
    have cp5 : C5 p = none := by
      cases e : C5 p with
      | none => rfl
      | some o =>
        have := w5 p o e cp4
        rw [upd_same] at this
        cases this
    refine ⟨_, rfl, p, _, dx, _, rfl, h5 _ _ upd_same, T.clHand, T.nHand_loads, by show 2 < 1000; decide, ?_⟩
    refine ⟨_, rfl, ?_⟩
    dsimp only [tNil]
    refine cTuple_run (C := C5) (k := false) (same_off s5 cp5) (rd.same (c4.trans g5)) fun C6 G6 v6 g6 s6 h6 w6 r6 => ?_
    have cp6 : C6 p = none := by
      cases e : C6 p with
      | none => rfl
      | some o =>
        have := w6 p o e cp5
        rw [upd_same] at this
        cases this
    refine ⟨_, rfl, p, _, dx, _, rfl, h6 _ _ upd_same, T.clHand, T.nHand_lies, by show 3 < 1000; decide, ?_⟩
    refine q C6 _ [a, b, v5, v6] (c4.trans (g5.trans g6)) (same_off s6 cp6) (fun x o e n => ?_) (.cons (ra.same (c4.trans (g5.trans g6))) (.cons (rb.same (c4.trans (g5.trans g6))) (.cons (r5.same g6) (.cons r6 .nil)))) rfl (by rw [upd_same]; rfl) fun x o e ne => ?_
    · cases e5 : C5 x with
      | none =>
        have z := w6 x o e e5
        have ne : x ≠ p := fun y => by rw [y, upd_same] at z; cases z
        rw [upd_ne ne] at z
        have z2 := h5.free z
        rw [upd_ne ne, upd_ne ne] at z2
        exact hG.free z2
      | some o5 =>
        cases e4 : C4 x with
        | some o4 => exact w14 x o4 e4 n
        | none =>
          have z := w5 x o5 e5 e4
          have ne : x ≠ p := fun y => by rw [y, upd_same] at z; cases z
          rw [upd_ne ne, upd_ne ne] at z
          exact hG.free z
    · rw [upd_ne ne]
      refine h6 _ _ ?_
      rw [upd_ne ne]
      refine h5 _ _ ?_
      rw [upd_ne ne, upd_ne ne]
      exact hG _ _ e
theorem handI_imp {vs : List V} {H : Hp} {Q : VK} {E : XK} (z : spMk K "Hand" HF 4 spNm vs H Q E) : spHandI K vs H Q E := by
  obtain ⟨p, dx, us, ds, C, Ψ, rfl, lu, hp, cp, sC, ru, ⟨h, k, rfl, ok, hΨ⟩, q⟩ := z
  match us, lu with
  | [a, b, c, d], _ => exact ⟨p, dx, a, b, c, d, C, h, k, rfl, hp, cp, sC, ru, ok, fun C' G ws h1 h2 h3 h4 h5 h6 h7 => q C' G ws h.fs h1 h2 h3 h4 h5 hΨ h6 h7⟩
theorem okHandD (T : Tx K mg) : FnOk P w K mg base CX0 5 (He.ma K (He.ga K "Hand") "__init__") T.fdHandInit ["self", "name", "body", "loads", "lies"] (spMk K "Hand" HF 4 spNm) := (okHandInit T).imp fun vs H Q E h => handI_imp h
theorem kbHand (T : Tx K mg) : KBn K T.fdHandInit ["self", "name", "body", "loads", "lies"] 3 ["lies", "loads"] (gS [0, 1, 3, 2]) (gS [0, 1, 3, 2]) := kbS T.FHandInit 3 ["lies", "loads"] [0, 1, 3, 2] fun kV doc pm an cdv ct us ws h1 h2 => match us, ws, h1, h2 with
  | [u0, u1, u2], [w0, w1], _, _ => rfl

end
section
variable {P : Program} {w : World} {K : PySem.W.Frag} {mg : Str → Option Value} {base : Heap}
local macro_rules | `(tactic| get_elem_tactic_trivial) => `(tactic| (repeat first | exact Wk.nil | exact Wk'.nil | refine Wk.same ?_ | refine Wk'.same ?_ | refine Wk.un (fun _ z => nomatch z) ?_ | refine Wk'.un ?_))
/-! the law's own rows of a hand -/
def Hd.t (h : Hd) : Dt := .tup h.fs
def oHt : Option Hd → Dt
  | none => .non
  | some g => g.t
def ly (p : Nat) : List Nat × Int → List Tr → List Nat × Int
  | x, [] => x
  | x, y :: ys => ly p (if y.p = p then (y.l, y.b) else x) ys
theorem ly_app (p : Nat) : ∀ (a b : List Tr) (x : List Nat × Int), ly p x (a ++ b) = ly p (ly p x a) b
  | [], _, _ => rfl
  | y :: a, b, x => by
    show ly p (if y.p = p then (y.l, y.b) else x) (a ++ b) = _
    rw [ly_app p a b]
    rfl
theorem ly_ok {p k : Nat} : ∀ (ys : List Tr) (x : List Nat × Int), (∀ y ∈ ys, y.ok k) → Gd x.1 ∧ 0 ≤ x.2 ∧ x.2 ≤ 1000000 → Gd (ly p x ys).1 ∧ 0 ≤ (ly p x ys).2 ∧ (ly p x ys).2 ≤ 1000000
  | [], _, _, h => h
  | y :: ys, x, hy, h => by
    refine ly_ok ys _ (fun z hz => hy z (List.mem_cons_of_mem _ hz)) ?_
    by_cases e : y.p = p
    · rw [if_pos e]
      have := hy y (List.mem_cons_self ..)
      exact ⟨this.g, this.b0, this.b1⟩
    · rw [if_neg e]
      exact h
def lyR (k : Nat) : Rw → List Tr → Rw
  | r, [] => r
  | r, y :: ys => lyR k (if y.p = k then (if r.w = "end" then r else ⟨r.b, r.w, y.l, ms y.b⟩) else r) ys
theorem lied_at : ∀ (ys : List Tr) (rs : List Rw) (k : Nat), (lied rs ys)[k]? = rs[k]?.map (lyR k · ys)
  | [], rs, k => by
    show rs[k]? = rs[k]?.map fun r => r
    simp
  | y :: ys, rs, k => by
    unfold lied
    rw [lied_at ys]
    show _ = rs[k]?.map fun r : Rw => lyR k (if y.p = k then (if r.w = "end" then r else ⟨r.b, r.w, y.l, ms y.b⟩) else r) ys
    by_cases e : y.p = k
    · subst e
      cases h : rs[y.p]? with
      | none => rw [h]; rfl
      | some r =>
        show (if r.w = "end" then rs else rs.set y.p ⟨r.b, r.w, y.l, ms y.b⟩)[y.p]?.map _ = some (lyR y.p (if y.p = y.p then _ else r) ys)
        rw [if_pos rfl]
        by_cases e2 : r.w = "end"
        · rw [if_pos e2, if_pos e2, h]
          rfl
        · rw [if_neg e2, if_neg e2, List.getElem?_set, if_pos rfl, if_pos (List.getElem?_eq_some_iff.mp h).1]
          rfl
    · have e3 : ∀ r : Rw, (if y.p = k then (if r.w = "end" then r else ⟨r.b, r.w, y.l, ms y.b⟩) else r) = r := fun r => if_neg e
      simp only [e3]
      cases h : rs[y.p]? with
      | none => rfl
      | some r =>
        show (if r.w = "end" then rs else rs.set y.p ⟨r.b, r.w, y.l, ms y.b⟩)[k]?.map _ = _
        by_cases e2 : r.w = "end"
        · rw [if_pos e2]
        · rw [if_neg e2, List.getElem?_set, if_neg e]
theorem lyR_end (k : Nat) : ∀ (ys : List Tr) (b : Int) (l : List Nat), lyR k ⟨b, "end", l, 0⟩ ys = ⟨b, "end", l, 0⟩
  | [], _, _ => rfl
  | y :: ys, b, l => by
    unfold lyR
    have e : (if y.p = k then (if (⟨b, "end", l, 0⟩ : Rw).w = "end" then (⟨b, "end", l, 0⟩ : Rw) else ⟨b, "end", y.l, ms y.b⟩) else ⟨b, "end", l, 0⟩) = ⟨b, "end", l, 0⟩ := by
      by_cases z : y.p = k
      · rw [if_pos z, if_pos rfl]
      · rw [if_neg z]
    rw [e]
    exact lyR_end k ys b l
theorem lyR_ly (k : Nat) {w : Str} (hw : w ≠ "end") : ∀ (ys : List Tr) (b : Int) (l : List Nat) (c : Int), lyR k ⟨b, w, l, ms c⟩ ys = ⟨b, w, (ly k (l, c) ys).1, ms (ly k (l, c) ys).2⟩
  | [], _, _, _ => rfl
  | y :: ys, b, l, c => by
    unfold lyR ly
    by_cases z : y.p = k
    · rw [if_pos z, if_pos z, if_neg hw]
      exact lyR_ly k hw ys b y.l y.b
    · rw [if_neg z, if_neg z]
      exact lyR_ly k hw ys b l c
/-- the row of a place -/
def hrAt (h : Hd) (n : Option Hd) (j : Nat) : Rw := match h.ls[j]? with
  | some t => ⟨(t.p : Nat), "set", (ly j (t.l, t.b) h.ys).1, ms (ly j (t.l, t.b) h.ys).2⟩
  | none => (match n with
    | none => ⟨0, "end", h.l, 0⟩
    | some g => ⟨0, "load", (ly j (g.l, g.b) h.ys).1, ms (ly j (g.l, g.b) h.ys).2⟩)
theorem hrAt_lt {h : Hd} {n : Option Hd} {j : Nat} {t : Tr} (e : h.ls[j]? = some t) : hrAt h n j = ⟨(t.p : Nat), "set", (ly j (t.l, t.b) h.ys).1, ms (ly j (t.l, t.b) h.ys).2⟩ := by
  unfold hrAt
  rw [e]
theorem hrAt_end {h : Hd} : hrAt h none h.ls.length = ⟨0, "end", h.l, 0⟩ := by
  unfold hrAt
  rw [List.getElem?_eq_none (Nat.le_refl _)]
theorem hrAt_load {h g : Hd} : hrAt h (some g) h.ls.length = ⟨0, "load", (ly h.ls.length (g.l, g.b) h.ys).1, ms (ly h.ls.length (g.l, g.b) h.ys).2⟩ := by
  unfold hrAt
  rw [List.getElem?_eq_none (Nat.le_refl _)]
theorem nts_hr (h : Hd) (n : Option Hd) : nts h n = (List.range (h.ls.length + 1)).map (hrAt h n) := by
  refine List.ext_getElem? fun k => ?_
  unfold nts
  rw [lied_at, List.getElem?_map]
  unfold tn
  by_cases hk : k < h.ls.length
  · have e := List.getElem?_eq_getElem hk
    rw [List.getElem?_append_left (by rw [List.length_map]; exact hk), List.getElem?_map, List.getElem?_range (by omega), e]
    show some (lyR k ⟨_, "set", _, ms _⟩ h.ys) = some (hrAt h n k)
    rw [lyR_ly k (by decide), hrAt_lt e]
  · by_cases hk2 : k = h.ls.length
    · subst hk2
      rw [List.getElem?_append_right (by rw [List.length_map]; exact Nat.le_refl _), List.length_map, Nat.sub_self, List.getElem?_range (by omega)]
      show some (lyR _ _ h.ys) = some (hrAt h n h.ls.length)
      cases n with
      | none =>
        rw [hrAt_end]
        exact congrArg some (lyR_end _ _ _ _)
      | some g =>
        rw [hrAt_load]
        exact congrArg some (lyR_ly _ (by decide) _ _ _ _)
    · rw [List.getElem?_eq_none (by rw [List.length_append, List.length_map]; show _ + 1 ≤ _; omega), List.getElem?_eq_none (by rw [List.length_range]; omega)]
      rfl
end
section
variable {P : Program} {w : World} {K : PySem.W.Frag} {mg : Str → Option Value} {base : Heap}
local macro_rules | `(tactic| get_elem_tactic_trivial) => `(tactic| (repeat first | exact Wk.nil | exact Wk'.nil | refine Wk.same ?_ | refine Wk'.same ?_ | refine Wk.un (fun _ z => nomatch z) ?_ | refine Wk'.un ?_))
def wHr : List Sl → (List Dt → List Sl → Prop) → Prop := fun ps Ψ => ∃ (h : Hd) (n : Option Hd), ps = [.dat h.t, .dat (oHt n)] ∧ h.ok ∧ (∀ g, n = some g → g.ok) ∧ Ψ ((nts h n).map Rw.d) ps
theorem okLHandRows (T : Tx K mg) : FnOk P w K mg base CX0 2 (He.ga K "_law_hand_rows") T.fdLHandRows ["_law_hand", "_law_behind"] (spN K 2 wHr) := by
  have B := T.B
  have GLMeasure : FnOk P w K mg base CX0 1 (He.ga K "_law_measure") T.fdLMeasure ["_law_body"] (spD K 1 wMeasure) := okLMeasure T
  have bLMeasure := T.bLMeasure
  refine T.FLHandRows.ok scLHandRows (fun vs H Q E h => h.1) (fun cdv A outer s H vs Q E hr h => ?_)
  refine ⟨_, PSs.nox (pss_cons (ps_asg (pv 0) (show PG _ _ (gTup K 4 _) from pg_tup rfl (pgs_cons (pg_name (i := 2) scLHandRows.nd rfl (Or.inl rfl)) (pgs_cons (pg_name (i := 3) scLHandRows.nd rfl (Or.inl rfl)) (pgs_cons (pg_name (i := 4) scLHandRows.nd rfl (Or.inl rfl)) (pgs_cons (pg_name (i := 5) scLHandRows.nd rfl (Or.inl rfl)) pgs_nil))))))
        (pss_cons (ps_set (i := 6) scLHandRows.nd rfl (.inl rfl) (pe_lst pa_nil))
        (pss_cons (ps_for PassesOwn.never rfl (show PI _ _ _ (iEnumA K _) from (pi_enumA rfl (by rfl) B.b_enumerate (pa_cons (pe_op op_cat (pe_callTy (show CallR _ _ (cList K) from call_list_of) (by rfl) B.b_list PyProof.Rows.boot_list (pa_cons (pv 4) pa_nil)) (pe_lst (pa_cons (pe_tup (pa_cons pe_int (pa_cons pe_str (pa_cons pe_int pa_nil)))) pa_nil))) pa_nil))) (show PG _ _ (gTup K 2 _) from pg_tup rfl (pgs_cons (pg_name (i := 7) scLHandRows.nd rfl (Or.inl rfl)) (pgs_cons (show PG _ _ (gTup K 3 _) from pg_tup rfl (pgs_cons (pg_name (i := 8) scLHandRows.nd rfl (Or.inl rfl)) (pgs_cons (pg_name (i := 9) scLHandRows.nd rfl (Or.inl rfl)) (pgs_cons (pg_name (i := 10) scLHandRows.nd rfl (Or.inl rfl)) pgs_nil)))) pgs_nil)))
        (pss_one (ps_if (ptPure (PW.pt (pw_and (pt_cmpR (opEqA (K := K) rfl hr.units) (pv 7) (pe_callB (show CallR _ _ (rLen K) from call_len) (by rfl) B.b_len PySem.boot_len (pa_cons (pv 4) pa_nil)) (nomark _)) (pw_and1 (pt_cmpR (show OpR _ _ rIsNone from op_isN) (pv 1) pe_non (nomark _)))))) (pss_one (ps_expr (show PE _ _ (tBM K "list" rAppend _ _) from (pe_bm PySem.F.plainAttrs_list PySem.F.slot_list_append PySem.F.type_list_append mt_append (pv 6) (pa_cons (pe_tup (pa_cons pe_int (pa_cons pe_str (pa_cons (pv 2) (pa_cons pe_int pa_nil))))) pa_nil))))) (pss_cons (ps_asg (pePure (pe_ifExp (pt_cmpR op_lt (pv 7) (pe_callB (show CallR _ _ (rLen K) from call_len) (by rfl) B.b_len PySem.boot_len (pa_cons (pv 4) pa_nil)) (nomark _)) (pe_tup (pa_cons (pv 9) (pa_cons (pv 10) pa_nil))) (pe_slice (show SlR _ (rSlA K) from sl_tupA) (pv 1) po_none (po_some pe_int)))) (show PG _ _ (gTup K 2 _) from pg_tup rfl (pgs_cons (pg_name (i := 9) scLHandRows.nd rfl (Or.inl rfl)) (pgs_cons (pg_name (i := 10) scLHandRows.nd rfl (Or.inl rfl)) pgs_nil))))
        (pss_cons (ps_for PassesOwn.never rfl (piAny (K := K) rfl (pv 5)) (show PG _ _ (gTup K 3 _) from pg_tup rfl (pgs_cons (pg_name (i := 11) scLHandRows.nd rfl (Or.inl rfl)) (pgs_cons (pg_name (i := 12) scLHandRows.nd rfl (Or.inl rfl)) (pgs_cons (pg_name (i := 13) scLHandRows.nd rfl (Or.inl rfl)) pgs_nil))))
        (pss_one (ps_asg (pePure (pe_ifExp (pt_cmpR (opEqA (K := K) rfl hr.units) (pv 11) (pv 7) (nomark _)) (pe_tup (pa_cons (pv 12) (pa_cons (pv 13) pa_nil))) (pe_tup (pa_cons (pv 9) (pa_cons (pv 10) pa_nil))))) (show PG _ _ (gTup K 2 _) from pg_tup rfl (pgs_cons (pg_name (i := 9) scLHandRows.nd rfl (Or.inl rfl)) (pgs_cons (pg_name (i := 10) scLHandRows.nd rfl (Or.inl rfl)) pgs_nil))))))
        (pss_one (ps_expr (show PE _ _ (tBM K "list" rAppend _ _) from (pe_bm PySem.F.plainAttrs_list PySem.F.slot_list_append PySem.F.type_list_append mt_append (pv 6) (pa_cons (pe_tup (pa_cons (pv 8) (pa_cons (pePure (pe_ifExp (pt_cmpR op_lt (pv 7) (pe_callB (show CallR _ _ (rLen K) from call_len) (by rfl) B.b_len PySem.boot_len (pa_cons (pv 4) pa_nil)) (nomark _)) pe_str pe_str)) (pa_cons (pv 9) (pa_cons (pe_call GLMeasure (hr.mono (by decide)) (by rfl) T.gLMeasure T.FLMeasure.kp bLMeasure .nil pass0 (pa_cons (pv 10) pa_nil)) pa_nil))))) pa_nil))))))))))
        (pss_one (ps_ret (pv 6)))))), ?_⟩
  refine bodyD h (fun ps Ψ hw hl => ?_)
  obtain ⟨h, n, rfl, ho, no, q⟩ := hw
  have l3 := ho.l3
  have sz : sizeLine = 16777216 := by decide
  have lL : (h.ls.map Tr.d).length = h.ls.length := List.length_map ..
  have q : Ψ (.new ((nts h n).map Rw.d)) [.dat h.t, .dat (oHt n)] := q
  refine ⟨rfl, by show 0 ≤ sizeLine; decide, by show 3 ≤ sizeLine; decide, by show 1 ≤ sizeLine; decide, by rw [lL]; show _ + 1 ≤ _; omega, ?_⟩
  refine ⟨fun j ρ => ∃ D, D = ((List.range j).map (hrAt h n)).map Rw.d ∧ ρ = [.dat h.t, .dat (oHt n), .dat (nD h.l), .dat (.int h.b), .dat (.tup (h.ls.map Tr.d)), .dat (.tup (h.ys.map Tr.d)), .hot D, .un, .un, .un, .un, .un, .un, .un], To.of ⟨_, rfl, rfl⟩ (by get_elem_tactic_trivial), ?_, ?_⟩
  · rintro j ρ d hd ⟨D, rfl, rfl⟩
    obtain ⟨it, hit, rfl⟩ := enumD_at hd
    rw [Nat.zero_add]
    have hj : j ≤ h.ls.length := by
      have := (List.getElem?_eq_some_iff.mp hit).1
      rw [List.length_append, lL] at this
      have : j < h.ls.length + 1 := this
      omega
    have sit : (j = h.ls.length ∧ n = none ∧ it = .tup [.int 0, .str "", .int 0]) ∨ ∃ (b : Int) (o p : Dt) (x : List Nat × Int), it = .tup [.int b, o, p] ∧ (decide ((j : Int) = (h.ls.length : Int)) && isNon (oHt n)) = false ∧ (Gd x.1 ∧ 0 ≤ x.2 ∧ x.2 ≤ 1000000) ∧
        hrAt h n j = ⟨b, if j < h.ls.length then "set" else "load", (ly j x h.ys).1, ms (ly j x h.ys).2⟩ ∧ ((j < h.ls.length ∧ o = nD x.1 ∧ p = .int x.2) ∨ (j = h.ls.length ∧ ∃ g, n = some g ∧ x = (g.l, g.b))) := by
      by_cases hlt : j < h.ls.length
      · right
        rw [List.getElem?_append_left (by rw [lL]; exact hlt), List.getElem?_map, List.getElem?_eq_getElem hlt] at hit
        have e := Option.some.inj hit
        have ok := ho.lk _ (List.getElem_mem hlt)
        refine ⟨(h.ls[j].p : Nat), nD h.ls[j].l, .int h.ls[j].b, (h.ls[j].l, h.ls[j].b), e.symm, ?_, ⟨ok.g, ok.b0, ok.b1⟩, ?_, .inl ⟨hlt, rfl, rfl⟩⟩
        · rw [decide_eq_false (by omega)]
          rfl
        · rw [hrAt_lt (List.getElem?_eq_getElem hlt), if_pos hlt]
      · have hl2 : j = h.ls.length := by omega
        subst hl2
        rw [List.getElem?_append_right (by rw [lL]; exact Nat.le_refl _), lL, Nat.sub_self] at hit
        have e := Option.some.inj hit
        cases n with
        | none => exact .inl ⟨rfl, rfl, e.symm⟩
        | some g =>
          have og := no g rfl
          exact .inr ⟨0, .str "", .int 0, (g.l, g.b), e.symm, by rw [decide_eq_true rfl]; rfl, ⟨og.g, og.b0, og.b1⟩, by rw [hrAt_load, if_neg hlt], .inr ⟨rfl, g, rfl, rfl⟩⟩
    have e1 : ((List.range (j + 1)).map (hrAt h n)).map Rw.d = ((List.range j).map (hrAt h n)).map Rw.d ++ [(hrAt h n j).d] := by
      rw [List.range_succ, List.map_append, List.map_append]
      rfl
    have lR : (((List.range j).map (hrAt h n)).map Rw.d).length < sizeLine := by
      rw [List.length_map, List.length_map, List.length_range]
      omega
    rcases sit with ⟨rfl, rfl, rfl⟩ | ⟨b, o, p, x, rfl, hc, ⟨gx, x0, x1⟩, ehr, hx⟩
    · refine ⟨rfl, rfl, true, ifT (decide_eq_true (by rw [lL])) ⟨rfl, rfl, rfl⟩, ?_⟩
      refine ⟨by show 4 ≤ sizeLine; decide, lR, To.of ⟨_, ?_, rfl⟩ (by get_elem_tactic_trivial)⟩
      rw [e1, hrAt_end]
      rfl
    · refine ⟨rfl, rfl, false, ?_, ?_⟩
      · by_cases e : (j : Int) = ((h.ls.map Tr.d).length : Nat)
        · refine ifT (decide_eq_true e) ⟨rfl, ?_, rfl⟩
          rw [lL] at e
          rw [decide_eq_true e] at hc
          exact hc
        · exact ifF (decide_eq_false e) ⟨rfl, rfl⟩
      refine ⟨.tup [nD x.1, .int x.2], ?_, ?_⟩
      · rcases hx with ⟨hlt, rfl, rfl⟩ | ⟨rfl, g, rfl, rfl⟩
        · exact ifT (decide_eq_true (by rw [lL]; omega)) ⟨by show 2 ≤ sizeLine; decide, rfl, rfl⟩
        · exact ifF (decide_eq_false (by rw [lL]; omega)) ⟨rfl, rfl⟩
      refine ⟨rfl, ?_⟩
      show Fs.nx _ [.dat h.t, .dat (oHt n), .dat (nD h.l), .dat (.int h.b), .dat (.tup (h.ls.map Tr.d)), .dat (.tup (h.ys.map Tr.d)), .hot (((List.range j).map (hrAt h n)).map Rw.d), .dat (.int (j : Nat)), .dat (.int b), .dat (nD x.1), .dat (.int x.2), .un, .un, .un]
      refine ⟨fun i ρ => ρ = [.dat h.t, .dat (oHt n), .dat (nD h.l), .dat (.int h.b), .dat (.tup (h.ls.map Tr.d)), .dat (.tup (h.ys.map Tr.d)), .hot (((List.range j).map (hrAt h n)).map Rw.d), .dat (.int (j : Nat)), .dat (.int b), .dat (nD (ly j x (h.ys.take i)).1), .dat (.int (ly j x (h.ys.take i)).2), .un, .un, .un], To.of rfl (by get_elem_tactic_trivial), ?_, ?_⟩
      · rintro i ρ d hd rfl
        rw [List.getElem?_map] at hd
        obtain ⟨y, hy, rfl⟩ := Option.map_eq_some_iff.mp hd
        have e2 : ly j x (h.ys.take (i + 1)) = if y.p = j then (y.l, y.b) else ly j x (h.ys.take i) := by
          rw [take_at hy, ly_app]
          rfl
        refine ⟨rfl, .tup [nD (ly j x (h.ys.take (i + 1))).1, .int (ly j x (h.ys.take (i + 1))).2], ?_, rfl, To.of rfl (by get_elem_tactic_trivial)⟩
        rw [e2]
        by_cases e : y.p = j
        · rw [if_pos e]
          exact ifT (decide_eq_true (by rw [e])) ⟨by show 2 ≤ sizeLine; decide, rfl, rfl⟩
        · rw [if_neg e]
          exact ifF (decide_eq_false (by omega)) ⟨by show 2 ≤ sizeLine; decide, rfl, rfl⟩
      · rintro ρ rfl
        rw [List.length_map, List.take_length]
        obtain ⟨og, o0, o1⟩ := ly_ok (p := j) h.ys x ho.yk ⟨gx, x0, x1⟩
        refine ⟨.str (if j < h.ls.length then "set" else "load"), ?_, rfl, _, rfl, o0, o1, by show 4 ≤ sizeLine; decide, lR, To.of ⟨_, ?_, rfl⟩ (by get_elem_tactic_trivial)⟩
        · by_cases e : j < h.ls.length
          · rw [if_pos e]
            exact ifT (decide_eq_true (by rw [lL]; omega)) ⟨rfl, rfl⟩
          · rw [if_neg e]
            exact ifF (decide_eq_false (by rw [lL]; omega)) ⟨rfl, rfl⟩
        · rw [e1, ehr]
          rfl
  · rintro ρ ⟨D, rfl, rfl⟩
    rw [enumD_len, List.length_append, lL]
    show Ψ (.new (((List.range (h.ls.length + 1)).map (hrAt h n)).map Rw.d)) _
    rw [← nts_hr]
    exact q
end
section
variable {P : Program} {w : World} {K : PySem.W.Frag} {mg : Str → Option Value} {base : Heap}
local macro_rules | `(tactic| get_elem_tactic_trivial) => `(tactic| (repeat first | exact Wk.nil | exact Wk'.nil | refine Wk.same ?_ | refine Wk'.same ?_ | refine Wk.un (fun _ z => nomatch z) ?_ | refine Wk'.un ?_))
/-! hands made, their fields -/
def wMadeHand : WF := fun ps Ψ => ∃ h : Hd, ps = [.dat h.t] ∧ h.ok ∧ Ψ (.dat h.d) ps
theorem okLMadeHand (T : Tx K mg) : FnOk P w K mg base CX0 7 (He.ga K "_law_made_hand") T.fdLMadeHand ["_law_hand"] (spD K 1 wMadeHand) := by
  have B := T.B
  have GHandInit : FnOk P w K mg base CX0 5 (He.ma K (He.ga K "Hand") "__init__") T.fdHandInit ["self", "name", "body", "loads", "lies"] (spMk K "Hand" HF 4 spNm) := okHandD T
  have kHandInit_2_lies_loads := kbHand T
  refine T.FLMadeHand.ok scLMadeHand (fun vs H Q E h => h.1) (fun cdv A outer s H vs Q E hr h => ?_)
  refine ⟨_, PSs.nox (pss_one (ps_ret (pe_makeK T.mkHand GHandInit (hr.mono (by decide)) (by rfl) T.gHand kHandInit_2_lies_loads pass0 (pa_cons (pe_ix (show IxR _ (rIx K) from ix_seq) (pv 0) pe_int (fun _ _ => rfl)) (pa_cons (pe_ix (show IxR _ (rIx K) from ix_seq) (pv 0) pe_int (fun _ _ => rfl)) pa_nil)) (pk_cons (pe_callTy (show CallR _ _ (cList K) from call_list_of) (by rfl) B.b_list PyProof.Rows.boot_list (pa_cons (pe_ix (show IxR _ (rIx K) from ix_seq) (pv 0) pe_int (fun _ _ => rfl)) pa_nil)) (pk_cons (pe_callTy (show CallR _ _ (cList K) from call_list_of) (by rfl) B.b_list PyProof.Rows.boot_list (pa_cons (pe_ix (show IxR _ (rIx K) from ix_seq) (pv 0) pe_int (fun _ _ => rfl)) pa_nil)) pk_nil))))), ?_⟩
  refine bodyD h (fun ps Ψ hw hl => ?_)
  obtain ⟨h, rfl, ho, q⟩ := hw
  exact ⟨_, rfl, _, rfl, _, rfl, _, rfl, ⟨rfl, rfl, rfl, rfl⟩, h, false, rfl, ho, q⟩

end
section
variable {P : Program} {w : World} {K : PySem.W.Frag} {mg : Str → Option Value} {base : Heap}
local macro_rules | `(tactic| get_elem_tactic_trivial) => `(tactic| (repeat first | exact Wk.nil | exact Wk'.nil | refine Wk.same ?_ | refine Wk'.same ?_ | refine Wk.un (fun _ z => nomatch z) ?_ | refine Wk'.un ?_))
/-! machines -/
structure Mst where
  nm : List Nat
  key : Int
  w : Option Int
  f : Int
  m : Nat
  k : Int
  hs : List Hd
  wk : List Hd
  pl : Option Nat
  st : Int
  xs : List Rw
structure Mst.ok (M : Mst) : Prop where
  g : Gd M.nm
  k0 : 0 ≤ M.key
  k1 : M.key ≤ 1000000
  om : OkMix M.w M.f
  m1 : 1 ≤ M.m
  m8 : M.m ≤ 8
  f0 : 0 ≤ M.k
  f1 : M.k ≤ M.m
  hn : M.hs ≠ []
  h6 : M.hs.length ≤ 6
  ho : ∀ h ∈ M.hs, h.ok
  hb : ∀ h ∈ M.hs, ∀ t ∈ h.ls, t.p < M.m
  hl : ∀ h, M.hs[0]? = some h → h.ys = []
  w6 : M.wk.length ≤ 6
  wo : ∀ h ∈ M.wk, h.ok
  wb : ∀ h ∈ M.wk, ∀ t ∈ h.ls, t.p < M.m
  p6 : ∀ p, M.pl = some p → p ≤ M.wk.length
  s0 : 0 ≤ M.st
  s1 : M.st ≤ 100000
  xo : ∀ x ∈ M.xs, x.ok ∧ x.b < M.m
  xl : M.xs.length ≤ 100000
abbrev MF9 : List Str := ["name", "key", "mixing", "many", "fixed", "hands", "working", "place", "times"]
abbrev MF : List Str := ["name", "key", "mixing", "many", "fixed", "hands", "working", "place", "times", "numbers", "rows"]
def plD : Option Nat → Dt
  | none => .non
  | some p => .int (p : Nat)
def hdsD (hs : List Hd) : Dt := .lst (hs.map Hd.d)
def bds (M : Mst) : List Int := rpl M.w M.f M.m M.xs
def Mst.d9 (M : Mst) : List Dt := [nD M.nm, .int M.key, mixD M.w M.f, .int (M.m : Nat), .int M.k, hdsD M.hs, hdsD M.wk, plD M.pl, .int M.st]
/-- a machine at a -/
def mcI (M : Mst) : Addr → Fm → Prop := fun a m => ∃ n r : Addr, m = [(a, .ins "Machine" MF (M.d9 ++ [.adr n, .adr r])), (n, .lst ((bds M).map .int)), (r, .lst (M.xs.map Rw.d))] ∧ M.ok
instance mc_ins {M : Mst} : PkIns (mcI M) "Machine" MF := ⟨fun a m ⟨n, r, e, _⟩ => by
  subst e
  exact ⟨_, List.mem_cons_self ..⟩⟩
def mcS (M : Mst) : String := match M.pl with
  | none => "off"
  | some p => if p < M.wk.length then "going" else "up"
def mcs (M : Mst) : Str := mcS M
theorem mcs_off {M : Mst} (h : M.pl = none) : mcs M = Str.ofString "off" := congrArg Str.ofString (by unfold mcS; rw [h])
theorem mcs_going {M : Mst} {p : Nat} (h : M.pl = some p) (l : p < M.wk.length) : mcs M = Str.ofString "going" := congrArg Str.ofString (by unfold mcS; rw [h]; exact if_pos l)
theorem mcs_up {M : Mst} {p : Nat} (h : M.pl = some p) (l : M.wk.length ≤ p) : mcs M = Str.ofString "up" := congrArg Str.ofString (by unfold mcS; rw [h]; exact if_neg (by omega))
theorem fldMc (T : Tx K mg) : ∀ f, f ∈ MF → FldOk K "Machine" f := fun f h => by
  simp only [List.mem_cons, List.mem_nil_iff, or_false] at h
  rcases h with rfl | rfl | rfl | rfl | rfl | rfl | rfl | rfl | rfl | rfl | rfl
  · exact ⟨T.clMachine, T.nMachine_name⟩
  · exact ⟨T.clMachine, T.nMachine_key⟩
  · exact ⟨T.clMachine, T.nMachine_mixing⟩
  · exact ⟨T.clMachine, T.nMachine_many⟩
  · exact ⟨T.clMachine, T.nMachine_fixed⟩
  · exact ⟨T.clMachine, T.nMachine_hands⟩
  · exact ⟨T.clMachine, T.nMachine_working⟩
  · exact ⟨T.clMachine, T.nMachine_place⟩
  · exact ⟨T.clMachine, T.nMachine_times⟩
  · exact ⟨T.clMachine, T.nMachine_numbers⟩
  · exact ⟨T.clMachine, T.nMachine_rows⟩
theorem mc_open {a : Addr} {M : Mst} {m : Fm} (h : Exp [(a, .pk (mcI M))] m) : ∃ n r : Addr, flat m = [(a, .fl (.ins "Machine" MF (M.d9 ++ [.adr n, .adr r]))), (n, .fl (.lst ((bds M).map .int))), (r, .fl (.lst (M.xs.map Rw.d)))] ∧ M.ok := by
  obtain ⟨m1, m2, rfl, ⟨n, r, rfl, ok⟩, rfl⟩ := h
  exact ⟨n, r, rfl, ok⟩
theorem mc_close {a n r : Addr} {M : Mst} {μ : My} {is : List Nat} {x : My} (ok : M.ok) (e : picks is μ = some ([(a, .fl (.ins "Machine" MF (M.d9 ++ [.adr n, .adr r]))), (n, .fl (.lst ((bds M).map .int))), (r, .fl (.lst (M.xs.map Rw.d)))], x)) : Ent μ ((a, .pk (mcI M)) :: x) := Ent.pack (I := mcI M) (m := [(a, .ins "Machine" MF (M.d9 ++ [.adr n, .adr r])), (n, .lst ((bds M).map .int)), (r, .lst (M.xs.map Rw.d))]) ⟨n, r, rfl, ok⟩ e
def oAddI : Dt → Dt → (Dt → Prop) → Prop
  | .int i, .int j, Φ => Φ (.int (i + j))
  | _, _, _ => False
instance so_addI : So K rAdd oAddI where
  run B C H σ ρ x y dx dy Q Φ S hx hy h k := by
    cases dx <;> cases dy <;> try exact False.elim h
    exact ⟨_, _, hx.int, hy.int, k _ _ _ _ S (Same.refl _) (.int _) h⟩
theorem mc_close1 {a n r : Addr} {M : Mst} {μ : My} {is : List Nat} {x : My} (ok : M.ok) (e : picks is μ = some ([(a, .fl (.ins "Machine" MF (M.d9 ++ [.adr n, .adr r]))), (n, .fl (.lst ((bds M).map .int))), (r, .fl (.lst (M.xs.map Rw.d)))], x)) : Ent μ [(a, .pk (mcI M))] := (mc_close ok e).trans (Ent.left (μ1 := [_]))
end
section
variable {P : Program} {w : World} {K : PySem.W.Frag} {mg : Str → Option Value} {base : Heap}
local macro_rules | `(tactic| get_elem_tactic_trivial) => `(tactic| (repeat first | exact Wk.nil | exact Wk'.nil | refine Wk.same ?_ | refine Wk'.same ?_ | refine Wk.un (fun _ z => nomatch z) ?_ | refine Wk'.un ?_))
/-! what a machine tells -/
def wMcState : W3F := fun ps μ Ψ _ => ∃ (a : Addr) (M : Mst), ps = [.dat (.adr a)] ∧ μ = [(a, .pk (mcI M))] ∧ Ψ (.dat (.str (mcs M))) ps μ
theorem okMachineState (T : Tx K mg) : FnOk P w K mg base CX0 1 (He.ma K (He.ga K "Machine") "state") T.fdMachineState ["self"] (sp3 K 1 wMcState) := by
  have B := T.B
  refine T.FMachineState.ok scMachineState (fun vs H Q E h => h.1) (fun cdv A outer s H vs Q E hr h => ?_)
  refine ⟨_, PSs.nox (pss_cons (ps_if (pt_cmpR (show OpR _ _ rIsNone from op_isN) (asPE (tFld3 K _ "place") (pe_fld (pv 0) rfl)) pe_non (nomark _)) (pss_one (ps_ret pe_str)) pss_nil)
        (pss_one (ps_ret (pe_ifExp (pt_cmpR op_lt (asPE (tFld3 K _ "place") (pe_fld (pv 0) rfl)) (pe_callB (show CallR _ _ (rLen K) from call_len) (by rfl) B.b_len PySem.boot_len (pa_cons (asPE (tFld3 K _ "working") (pe_fld (pv 0) rfl)) pa_nil)) (nomark _)) pe_str pe_str)))), ?_⟩
  refine body3o h (fun ps μ Ψ Ξ hw hl m em => ?_)
  obtain ⟨a, M, rfl, rfl, q⟩ := hw
  obtain ⟨n, r, em, ok⟩ := mc_open em
  rw [em]
  obtain ⟨nm, key, w, f, mm, k, hs, wk, pl, st, xs⟩ := M
  cases pl with
  | none => exact ⟨0, _, _, _, rfl, _, rfl, rfl, _, mc_close (is := [0, 0, 0]) ok rfl, q⟩
  | some p =>
    refine ⟨0, _, _, _, rfl, _, rfl, rfl, 0, _, _, _, rfl, _, rfl, 0, _, _, _, rfl, _, rfl, ?_⟩
    by_cases hlt : p < wk.length
    · refine ifT (decide_eq_true (by rw [List.length_map]; exact Int.ofNat_lt.mpr hlt)) ⟨_, mc_close (is := [0, 0, 0]) ok rfl, ?_⟩
      have e : mcs ⟨nm, key, w, f, mm, k, hs, wk, some p, st, xs⟩ = Str.ofString "going" := congrArg Str.ofString (if_pos hlt)
      rw [e] at q
      exact q
    · refine ifF (decide_eq_false (by rw [List.length_map]; exact fun z => hlt (Int.ofNat_lt.mp z))) ⟨_, mc_close (is := [0, 0, 0]) ok rfl, ?_⟩
      have e : mcs ⟨nm, key, w, f, mm, k, hs, wk, some p, st, xs⟩ = Str.ofString "up" := congrArg Str.ofString (if_neg hlt)
      rw [e] at q
      exact q
def wMcStarts : W3F := fun ps μ Ψ _ => ∃ (a : Addr) (M : Mst), ps = [.dat (.adr a)] ∧ μ = [(a, .pk (mcI M))] ∧ Ψ (.dat (.int M.st)) ps μ
theorem okMachineStarts (T : Tx K mg) : FnOk P w K mg base CX0 1 (He.ma K (He.ga K "Machine") "starts") T.fdMachineStarts ["self"] (sp3 K 1 wMcStarts) := by
  have B := T.B
  refine T.FMachineStarts.ok scMachineStarts (fun vs H Q E h => h.1) (fun cdv A outer s H vs Q E hr h => ?_)
  refine ⟨_, PSs.nox (pss_one (ps_ret (asPE (tFld3 K _ "times") (pe_fld (pv 0) rfl)))), ?_⟩
  refine body3o h (fun ps μ Ψ Ξ hw hl m em => ?_)
  obtain ⟨a, M, rfl, rfl, q⟩ := hw
  obtain ⟨n, r, em, ok⟩ := mc_open em
  rw [em]
  exact ⟨0, _, _, _, rfl, _, rfl, _, mc_close (is := [0, 0, 0]) ok rfl, q⟩
def wMcLog : W3F := fun ps μ Ψ _ => ∃ (a : Addr) (M : Mst), ps = [.dat (.adr a)] ∧ μ = [(a, .pk (mcI M))] ∧ Ψ (.new (M.xs.map Rw.d)) ps μ
theorem okMachineLog (T : Tx K mg) : FnOk P w K mg base CX0 1 (He.ma K (He.ga K "Machine") "log") T.fdMachineLog ["self"] (sp3 K 1 wMcLog) := by
  have B := T.B
  refine T.FMachineLog.ok scMachineLog (fun vs H Q E h => h.1) (fun cdv A outer s H vs Q E hr h => ?_)
  refine ⟨_, PSs.nox (pss_one (ps_ret (pe_callTy (show CallR _ _ (cList K) from call_list_of) (by rfl) B.b_list PyProof.Rows.boot_list (pa_cons (asPE (tFld3 K _ "rows") (pe_fld (pv 0) rfl)) pa_nil)))), ?_⟩
  refine body3o h (fun ps μ Ψ Ξ hw hl m em => ?_)
  obtain ⟨a, M, rfl, rfl, q⟩ := hw
  obtain ⟨n, r, em, ok⟩ := mc_open em
  rw [em]
  exact ⟨0, _, _, _, rfl, _, rfl, 2, _, rfl, _, mc_close (is := [0, 0, 0]) ok rfl, q⟩
def wMcBoards : W3F := fun ps μ Ψ _ => ∃ (a : Addr) (M : Mst), ps = [.dat (.adr a)] ∧ μ = [(a, .pk (mcI M))] ∧ Ψ (.new ((bds M).map .int)) ps μ
theorem okMachineBoards (T : Tx K mg) : FnOk P w K mg base CX0 1 (He.ma K (He.ga K "Machine") "boards") T.fdMachineBoards ["self"] (sp3 K 1 wMcBoards) := by
  have B := T.B
  refine T.FMachineBoards.ok scMachineBoards (fun vs H Q E h => h.1) (fun cdv A outer s H vs Q E hr h => ?_)
  refine ⟨_, PSs.nox (pss_one (ps_ret (pe_callTy (show CallR _ _ (cList K) from call_list_of) (by rfl) B.b_list PyProof.Rows.boot_list (pa_cons (asPE (tFld3 K _ "numbers") (pe_fld (pv 0) rfl)) pa_nil)))), ?_⟩
  refine body3o h (fun ps μ Ψ Ξ hw hl m em => ?_)
  obtain ⟨a, M, rfl, rfl, q⟩ := hw
  obtain ⟨n, r, em, ok⟩ := mc_open em
  rw [em]
  exact ⟨0, _, _, _, rfl, _, rfl, 1, _, rfl, _, mc_close (is := [0, 0, 0]) ok rfl, q⟩
end
section
variable {P : Program} {w : World} {K : PySem.W.Frag} {mg : Str → Option Value} {base : Heap}
local macro_rules | `(tactic| get_elem_tactic_trivial) => `(tactic| (repeat first | exact Wk.nil | exact Wk'.nil | refine Wk.same ?_ | refine Wk'.same ?_ | refine Wk.un (fun _ z => nomatch z) ?_ | refine Wk'.un ?_))
/-! what a machine does -/
def wMcClear : W3F := fun ps μ Ψ _ => ∃ (a : Addr) (M : Mst) (gs : List Str) (es : List Dt), ps = [.dat (.adr a)] ∧ μ = [(a, .fl (.ins "Machine" (MF9 ++ gs) (M.d9 ++ es)))] ∧ ((gs = [] ∧ es = []) ∨ ∃ x y, gs = (["numbers", "rows"] : List Str) ∧ es = [x, y]) ∧ M.m ≤ 8 ∧
  ∀ n r, Ψ (.dat .non) ps [(a, .fl (.ins "Machine" MF (M.d9 ++ [.adr n, .adr r]))), (n, .fl (.lst ((List.replicate M.m (1 : Int)).map .int))), (r, .fl (.lst []))]
theorem kbAllN {K : PySem.W.Frag} {x qual : Str} {params : Arguments} {body : List Stmt} {scope : Scope} {kws : List (Str × V)} {f : Addr} {fd : FuncData} {ps : List Str} (F : FunD K x qual params body scope [] kws f fd) (n : Nat) (ks : List Str) (is : List Nat)
    (h : ∀ (kV doc pm : Value) (an : Option Addr) (cdv ct : Value) (us ws : List Value), us.length = n → ws.length = ks.length → bindArgs (PySem.W.fnOf x qual params body scope .none kV doc pm an cdv ct) ⟨us, ks.zip ws⟩ = pure (ps.zip (gP is us ws))) :
    ∃ g : List Value → List Value → List Value, KBn K fd ps n ks g (gB is []) := by
  obtain ⟨oc, od, dV, kV, doc, pm, an, cdv, ct, osl, rfl, lk, hcd, hD, hK⟩ := F.ex
  rcases hD with ⟨_, rfl⟩ | ⟨e, _⟩
  · exact ⟨gP is, ⟨fun s us ws _ l1 l2 => .of_eq (h kV doc pm an cdv ct us ws l1 l2), fun r1 r2 => by
      unfold gB
      rw [List.append_nil]
      exact gP_vals is r1 r2⟩⟩
  · exact absurd rfl e

theorem Tx.kbMixingBegin_1 {K : PySem.W.Frag} {mg : Str → Option Value} (T : Tx K mg) : ∃ g : List Value → List Value → List Value, KBn K T.fdMixingBegin ["self", "reset"] 1 [] g (gB [0, 1] [.bl false]) := kbKw T.FMixingBegin 1 [] [0, 1] [("reset", .bl false)] (by simp) (by simp) fun D doc pm an cdv ct us mv ws h1 h2 h3 => match us, mv, ws, h1, h2, h3 with
  | [u0], [m0], [], _, _, _ => ⟨_, _, _, _, _, _, rfl, rfl, rfl⟩
theorem okMachineClearBoards (T : Tx K mg) : FnOk P w K mg base CX0 3 (He.ma K (He.ga K "Machine") "clear_boards") T.fdMachineClearBoards ["self"] (sp3 K 1 wMcClear) := by
  have B := T.B
  have GMixingBegin : FnOk P w K mg base CX0 1 (He.ma K (He.ga K "Mixing") "begin") T.fdMixingBegin ["self", "reset"] _ := FnOk.up3 (okMixingBegin T)
  obtain ⟨_, rMixingBegin_1, bMixingBegin_1⟩ := bMixingBegin1 T
  obtain ⟨_, kbMixingBegin_1⟩ := T.kbMixingBegin_1
  refine T.FMachineClearBoards.ok scMachineClearBoards (fun vs H Q E h => h.1) (fun cdv A outer s H vs Q E hr h => ?_)
  refine ⟨_, PSs.nox (pss_cons (asPS (sFld K _ _ "numbers") (ps_fld (pv 0) (peNew3 (pe_op op_rep (pe_lst (pa_cons (asPE (tMeth3 _ _ 0 0 _ _ _ _ _ _) (pe_meth30 (ks := []) (asPE (tFld3 K _ "mixing") (pe_fld (pv 0) rfl)) T.clMixing T.mMixingBegin GMixingBegin (hr.mono (by decide)) kbMixingBegin_1 (pass0S (fun cls d _ H => E cls d H)) pk_nil)) pa_nil)) (asPE (tFld3 K _ "many") (pe_fld (pv 0) rfl)))) rfl))
        (pss_one (asPS (sFld K _ _ "rows") (ps_fld (pv 0) (peNew3 (pe_lst pa_nil)) rfl)))), ?_⟩
  refine body3 h (fun ps μ Ψ Ξ hw hl => ?_)
  obtain ⟨a, M, gs, es, rfl, rfl, hc, m8, q⟩ := hw
  have m8' : M.m * 1 ≤ 8 := by omega
  have lm : (1 : Nat) * (Int.toNat (M.m : Nat)) ≤ sizeLine := by
    have : sizeLine = 16777216 := by decide
    rw [Int.toNat_natCast]
    omega
  have er : (List.replicate (Int.toNat (M.m : Nat)) [Dt.int (if false = true then 2 else 1)]).flatten = (List.replicate M.m (1 : Int)).map .int := by
    rw [Int.toNat_natCast]
    exact (rep_ones M.m).trans (by rw [List.map_replicate])
  rcases hc with ⟨rfl, rfl⟩ | ⟨x0, y0, rfl, rfl⟩
  · refine ⟨0, _, _, _, rfl, _, rfl, ⟨rfl, rfl⟩, ⟨rfl, rfl, rfl⟩, [], _, .refl _, M.w, M.f, false, rfl, by show 1 ≤ sizeLine; decide, 0, _, _, _, rfl, _, rfl, ⟨by omega, by omega, lm⟩, fun x => ?_⟩
    refine ⟨1, _, _, _, rfl, ⟨.inr (fldMc T _ (by simp)), by decide⟩, _, _, rfl, by show 0 ≤ sizeLine; decide, fun y => ?_⟩
    refine ⟨2, "Machine", MF9 ++ ([("numbers" : Str)] : List Str), M.d9 ++ [.adr x], rfl, ⟨.inr (fldMc T _ (by simp)), by decide⟩, _, _, rfl, _, Ent.keep (is := [2, 1, 0]) rfl, ?_⟩
    have z := q x y
    rw [← er] at z
    exact z
  · refine ⟨0, _, _, _, rfl, _, rfl, ⟨rfl, rfl⟩, ⟨rfl, rfl, rfl⟩, [], _, .refl _, M.w, M.f, false, rfl, by show 1 ≤ sizeLine; decide, 0, _, _, _, rfl, _, rfl, ⟨by omega, by omega, lm⟩, fun x => ?_⟩
    refine ⟨1, _, _, _, rfl, ⟨.inr (fldMc T _ (by simp)), by decide⟩, _, _, rfl, by show 0 ≤ sizeLine; decide, fun y => ?_⟩
    refine ⟨2, "Machine", MF, M.d9 ++ [.adr x, y0], rfl, ⟨.inr (fldMc T _ (by simp)), by decide⟩, _, _, rfl, _, Ent.keep (is := [2, 1, 0]) rfl, ?_⟩
    have z := q x y
    rw [← er] at z
    exact z
def Mst.started (M : Mst) : Mst := { M with wk := M.hs, pl := some 0, st := M.st + 1, xs := [] }
theorem Mst.ok.started {M : Mst} (h : M.ok) (hs : M.st < 100000) : M.started.ok := ⟨h.g, h.k0, h.k1, h.om, h.m1, h.m8, h.f0, h.f1, h.hn, h.h6, h.ho, h.hb, h.hl, h.h6, h.ho, h.hb, fun p e => by
  cases e
  exact Nat.zero_le _, by show 0 ≤ M.st + 1; have := h.s0; omega, by show M.st + 1 ≤ 100000; omega, (fun x hx => nomatch hx), Nat.zero_le _⟩
def wMcStart : W3F := fun ps μ Ψ _ => ∃ (a : Addr) (M : Mst), ps = [.dat (.adr a)] ∧ μ = [(a, .pk (mcI M))] ∧ M.st < 100000 ∧ Ψ (.dat .non) ps [(a, .pk (mcI M.started))]
theorem Tx.kbMachineClearBoards_1 {K : PySem.W.Frag} {mg : Str → Option Value} (T : Tx K mg) : ∃ g : List Value → List Value → List Value, KBn K T.fdMachineClearBoards ["self"] 1 [] g (gB [0] []) := kbAllN T.FMachineClearBoards 1 [] [0] fun kV doc pm an cdv ct us ws h1 h2 => match us, ws, h1, h2 with
  | [u0], [], _, _ => rfl
theorem okMachineStart (T : Tx K mg) : FnOk P w K mg base CX0 4 (He.ma K (He.ga K "Machine") "start") T.fdMachineStart ["self"] (sp3 K 1 wMcStart) := by
  have B := T.B
  have GMachineClearBoards : FnOk P w K mg base CX0 3 (He.ma K (He.ga K "Machine") "clear_boards") T.fdMachineClearBoards ["self"] (sp3 K 1 wMcClear) := okMachineClearBoards T
  have bMachineClearBoards := T.bMachineClearBoards
  obtain ⟨_, kbMachineClearBoards_1⟩ := T.kbMachineClearBoards_1
  refine T.FMachineStart.ok scMachineStart (fun vs H Q E h => h.1) (fun cdv A outer s H vs Q E hr h => ?_)
  refine ⟨_, PSs.nox (pss_cons (ps_expr (asPE (tMeth3 _ _ 0 0 _ _ _ _ _ _) (pe_meth30 (ks := []) (pv 0) T.clMachine T.mMachineClearBoards GMachineClearBoards (hr.mono (by decide)) kbMachineClearBoards_1 (pass0S (fun cls d _ H => E cls d H)) pk_nil)))
        (pss_cons (asPS (sFld K _ _ "working") (ps_fld (pv 0) (pe_callTy (show CallR _ _ (cList K) from call_list_of) (by rfl) B.b_list PyProof.Rows.boot_list (pa_cons (asPE (tFld3 K _ "hands") (pe_fld (pv 0) rfl)) pa_nil)) rfl))
        (pss_cons (asPS (sFld K _ _ "place") (ps_fld (pv 0) pe_int rfl))
        (pss_one (asPS (sFldAug K _ _ rAdd "times") (ps_fldaug (pv 0) pe_int in_add)))))), ?_⟩
  refine body3o h (fun ps μ Ψ Ξ hw hl m em => ?_)
  obtain ⟨a, M, rfl, rfl, sl, q⟩ := hw
  obtain ⟨n, r, em, ok⟩ := mc_open em
  rw [em]
  refine ⟨⟨_, _, .fl, rfl, rfl⟩, ⟨rfl, rfl, rfl⟩, [_], _, .refl _, a, M, ["numbers", "rows"], [.adr n, .adr r], rfl, rfl, .inr ⟨_, _, rfl, rfl⟩, ok.m8, fun n2 r2 => ?_⟩
  refine ⟨0, _, _, _, rfl, _, rfl, 0, _, _, _, rfl, ⟨.inl rfl, by decide⟩, _, _, rfl, ?_⟩
  refine ⟨0, "Machine", MF, ({ M with wk := M.hs } : Mst).d9 ++ [.adr n2, .adr r2], rfl, ⟨.inl rfl, by decide⟩, _, _, rfl, ?_⟩
  refine ⟨0, "Machine", MF, ({ M with wk := M.hs, pl := some 0 } : Mst).d9 ++ [.adr n2, .adr r2], rfl, .int M.st, rfl, 0, MF, ({ M with wk := M.hs, pl := some 0 } : Mst).d9 ++ [.adr n2, .adr r2], rfl, ⟨rfl, by decide⟩, _, _, rfl, ?_⟩
  exact ⟨_, mc_close1 (M := M.started) (is := [0, 0, 0]) (ok.started sl) rfl, q⟩
def Mst.noted (M : Mst) (x : Rw) : Mst := { M with xs := M.xs ++ [x] }
theorem Mst.ok.noted {M : Mst} (h : M.ok) {x : Rw} (ox : x.ok) (xb : x.b < M.m) (xl : M.xs.length < 100000) : (M.noted x).ok := ⟨h.g, h.k0, h.k1, h.om, h.m1, h.m8, h.f0, h.f1, h.hn, h.h6, h.ho, h.hb, h.hl, h.w6, h.wo, h.wb, h.p6, h.s0, h.s1, fun y hy => by
  rcases List.mem_append.mp hy with z | z
  · exact h.xo y z
  · rw [List.mem_singleton.mp z]
    exact ⟨ox, xb⟩, by
  show (M.xs ++ [x]).length ≤ 100000
  rw [List.length_append]
  exact xl⟩
theorem bds_noted {M : Mst} {x : Rw} : bds (M.noted x) = stp M.w M.f (bds M) x := by
  unfold bds Mst.noted rpl
  rw [List.foldl_append]
  rfl
def wMcNote : W3F := fun ps μ Ψ _ => ∃ (a : Addr) (M : Mst) (x : Rw), ps = [.dat (.adr a), .dat x.d] ∧ μ = [(a, .pk (mcI M))] ∧ x.ok ∧ x.b < M.m ∧ M.xs.length < 100000 ∧ Ψ (.dat .non) ps [(a, .pk (mcI (M.noted x)))]
theorem Tx.kbBehindRow_3 {K : PySem.W.Frag} {mg : Str → Option Value} (T : Tx K mg) : ∃ g : List Value → List Value → List Value, KBn K T.fdBehindRow ["mixing", "value", "row"] 3 [] g (gB [0, 1, 2] []) := kbAllN T.FBehindRow 3 [] [0, 1, 2] fun kV doc pm an cdv ct us ws h1 h2 => match us, ws, h1, h2 with
  | [u0, u1, u2], [], _, _ => rfl
theorem okMachineNoteRow (T : Tx K mg) : FnOk P w K mg base CX0 6 (He.ma K (He.ga K "Machine") "note_row") T.fdMachineNoteRow ["self", "row"] (sp3 K 2 wMcNote) := by
  have B := T.B
  have GBehindRow : FnOk P w K mg base CX0 4 (He.ga K "behind_row") T.fdBehindRow ["mixing", "value", "row"] _ := FnOk.up3 (okBehindRow T)
  have bBehindRow := T.bBehindRow
  obtain ⟨_, kbBehindRow_3⟩ := T.kbBehindRow_3
  refine T.FMachineNoteRow.ok scMachineNoteRow (fun vs H Q E h => h.1) (fun cdv A outer s H vs Q E hr h => ?_)
  refine ⟨_, PSs.nox (pss_cons (ps_asg (asPE (tCall3 3 0 _ _ _ _ _) (pe_call3 (ks := []) GBehindRow (hr.mono (by decide)) (by rfl) T.gBehindRow T.FBehindRow.kp kbBehindRow_3 (pass0S (fun cls d _ H => E cls d H)) (pa_cons (asPE (tFld3 K _ "mixing") (pe_fld (pv 0) rfl)) (pa_cons (pe_ix (show IxR _ (rIx K) from ix_seq) (asPE (tFld3 K _ "numbers") (pe_fld (pv 0) rfl)) (pe_ix (show IxR _ (rIx K) from ix_seq) (pv 1) pe_int (fun _ _ => rfl)) (fun _ _ => rfl)) (pa_cons (pv 1) pa_nil))) pk_nil)) (pg_sub (asPE (tFld3 K _ "numbers") (pe_fld (pv 0) rfl)) (pe_ix (show IxR _ (rIx K) from ix_seq) (pv 1) pe_int (fun _ _ => rfl)) set_list))
        (pss_one (ps_expr (show PE _ _ (tBM K "list" rAppend _ _) from (pe_bm PySem.F.plainAttrs_list PySem.F.slot_list_append PySem.F.type_list_append mt_append (asPE (tFld3 K _ "rows") (pe_fld (pv 0) rfl)) (pa_cons (pv 1) pa_nil)))))), ?_⟩
  refine body3o h (fun ps μ Ψ Ξ hw hl m em => ?_)
  obtain ⟨a, M, x, rfl, rfl, ox, xb, xl, q⟩ := hw
  obtain ⟨n, r, em, ok⟩ := mc_open em
  rw [em]
  have lw : (M.xs.map Rw.d).length < sizeLine := by
    rw [List.length_map]
    have : sizeLine = 16777216 := by decide
    omega
  have lb : (bds M).length = M.m := rpl_len
  have ij : ixN ((bds M).map Dt.int).length x.b = some x.b.toNat := ix_board ox.b0 (by rw [List.length_map, lb]; omega)
  refine ⟨0, _, _, _, rfl, _, rfl, 0, _, _, _, rfl, _, rfl, _, rfl, 1, _, rfl, _, at_board lb ox.b0 (by omega), ⟨rfl, rfl, rfl⟩, [], _, .refl _, M.w, M.f, _, x, rfl, ok.om, ox, ?_⟩
  refine ⟨0, _, _, _, rfl, _, rfl, _, rfl, 1, _, _, rfl, ij, ?_⟩
  refine ⟨0, _, _, _, rfl, _, rfl, ⟨2, _, rfl⟩, 2, M.xs.map Rw.d, rfl, lw, ?_⟩
  have e1 : ((bds M).map Dt.int).set x.b.toNat (Dt.int (brn M.w M.f ((bds M).getD x.b.toNat 0) x)) = (bds (M.noted x)).map .int := by rw [bds_noted, stp, ← set_map]
  have e2 : M.xs.map Rw.d ++ [x.d] = (M.noted x).xs.map Rw.d := by
    show _ = (M.xs ++ [x]).map Rw.d
    rw [List.map_append]
    rfl
  refine ⟨_, mc_close1 (M := M.noted x) (n := n) (r := r) (is := [0, 0, 0]) (ok.noted ox xb xl) (x := []) ?_, q⟩
  show some ([_, (n, Ob.fl (.lst (((bds M).map Dt.int).set x.b.toNat (Dt.int (brn M.w M.f ((bds M).getD x.b.toNat 0) x))))), (r, Ob.fl (.lst (M.xs.map Rw.d ++ [x.d])))], _) = _
  rw [e1, e2]
  rfl
end
section
variable {P : Program} {w : World} {K : PySem.W.Frag} {mg : Str → Option Value} {base : Heap}
local macro_rules | `(tactic| get_elem_tactic_trivial) => `(tactic| (repeat first | exact Wk.nil | exact Wk'.nil | refine Wk.same ?_ | refine Wk'.same ?_ | refine Wk.un (fun _ z => nomatch z) ?_ | refine Wk'.un ?_))
/-! where a machine is in another state, or has no such board -/
def wMcUnless : W3F := fun ps μ Ψ Ξ => ∃ (a : Addr) (M : Mst) (s : Str), ps = [.dat (.adr a), .dat (.str s)] ∧ μ = [(a, .pk (mcI M))] ∧ ((mcs M = s ∧ Ψ (.dat .non) ps μ) ∨ (mcs M ≠ s ∧ Ξ "NotYet" (.str (mcs M)) ps μ))
theorem Tx.kbMachineState_1 {K : PySem.W.Frag} {mg : Str → Option Value} (T : Tx K mg) : ∃ g : List Value → List Value → List Value, KBn K T.fdMachineState ["self"] 1 [] g (gB [0] []) := kbAllN T.FMachineState 1 [] [0] fun kV doc pm an cdv ct us ws h1 h2 => match us, ws, h1, h2 with
  | [u0], [], _, _ => rfl
theorem okMachineRefuseUnless (T : Tx K mg) : FnOk P w K mg base (L2N.CX P w) 3 (He.ma K (He.ga K "Machine") "refuse_unless") T.fdMachineRefuseUnless ["self", "state"] (sp3 K 2 wMcUnless) := by
  have B := T.B
  have GMachineState : FnOk P w K mg base CX0 1 (He.ma K (He.ga K "Machine") "state") T.fdMachineState ["self"] (sp3 K 1 wMcState) := okMachineState T
  have bMachineState := T.bMachineState
  have GStartErrorInit : FnOk P w K mg base CX0 1 (He.ma K (He.ga K "StartError") "__init__") T.fdStartErrorInit ["self", "what"] (spInitE K) := okStartErrorInit T
  have bStartErrorInit := T.bStartErrorInit
  obtain ⟨_, kbMachineState_1⟩ := T.kbMachineState_1
  refine T.FMachineRefuseUnless.ok scMachineRefuseUnless (fun vs H Q E h => h.1) (fun cdv A outer s H vs Q E hr h => ?_)
  refine ⟨_, (pss_one (ps_if (pt_cmpR (opNeA (K := K) rfl hr.units) (asPE (tMeth3 _ _ 0 0 _ _ _ _ _ _) (pe_meth30 (ks := []) (pv 0) T.clMachine T.mMachineState GMachineState (hr.mono (by decide)) kbMachineState_1 (pass0S (fun cls d _ H => E cls d H)) pk_nil)) (pv 1) (nomark _)) (pss_one (ps_raiseD rfl (L2N.takes_of rfl rfl rfl rfl) (pmk_errD (err_cl T.er (c := "NotYet") (by decide +kernel)) GStartErrorInit (hr.mono (by decide)) bStartErrorInit (by rfl) T.gNotYet (by exact (pa_cons (asPE (tMeth3 _ _ 0 0 _ _ _ _ _ _) (pe_meth30 (ks := []) (pv 0) T.clMachine T.mMachineState GMachineState (hr.mono (by decide)) kbMachineState_1 (pass0S (fun cls d _ H => E cls d H)) pk_nil)) pa_nil))))) pss_nil)), ?_⟩
  refine body3 h (fun ps μ Ψ Ξ hw hl => ?_)
  obtain ⟨a, M, s, rfl, rfl, q⟩ := hw
  refine ⟨⟨_, _, .pk, rfl, rfl⟩, ⟨rfl, rfl, rfl⟩, [_], [], .refl _, a, M, rfl, rfl, ?_⟩
  rcases q with ⟨h, q⟩ | ⟨h, q⟩
  · exact ifF (by rw [if_pos rfl, h, decide_eq_true rfl]; rfl) ⟨_, .refl _, q⟩
  · exact ifT (by rw [if_pos rfl, decide_eq_false h]; rfl) ⟨⟨_, _, .pk, rfl, rfl⟩, ⟨rfl, rfl, rfl⟩, [_], [], .refl _, a, M, rfl, rfl, "NotYet", rfl, _, .refl _, q⟩
theorem Tx.kbIsWithin_3 {K : PySem.W.Frag} {mg : Str → Option Value} (T : Tx K mg) : ∃ g : List Value → List Value → List Value, KBn K T.fdIsWithin ["thing", "least", "greatest"] 3 [] g (gB [0, 1, 2] []) := kbAllN T.FIsWithin 3 [] [0, 1, 2] fun kV doc pm an cdv ct us ws h1 h2 => match us, ws, h1, h2 with
  | [u0, u1, u2], [], _, _ => rfl
end
section
variable {P : Program} {w : World} {K : PySem.W.Frag} {mg : Str → Option Value} {base : Heap}
local macro_rules | `(tactic| get_elem_tactic_trivial) => `(tactic| (repeat first | exact Wk.nil | exact Wk'.nil | refine Wk.same ?_ | refine Wk'.same ?_ | refine Wk.un (fun _ z => nomatch z) ?_ | refine Wk'.un ?_))
/-! a step -/
theorem nts_len (h : Hd) (n : Option Hd) : (nts h n).length = h.ls.length + 1 := by
  rw [nts_hr, List.length_map, List.length_range]
theorem ms_in (b : Int) : 0 ≤ ms b ∧ ms b < 9973 := ⟨Int.emod_nonneg _ (by decide), Int.emod_lt_of_pos _ (by decide)⟩
theorem nts_row {h : Hd} {n : Option Hd} {m : Nat} (ho : h.ok) (no : ∀ g, n = some g → g.ok) (m1 : 1 ≤ m) (hb : ∀ t ∈ h.ls, t.p < m) : ∀ x ∈ nts h n, x.ok ∧ x.b < m := fun x hx => by
  rw [nts_hr] at hx
  obtain ⟨j, hj, rfl⟩ := List.mem_map.mp hx
  have m0 := List.mem_range.mp hj
  have wS : Str.ofString "set" ∈ W5 := by decide
  have wE : Str.ofString "end" ∈ W5 := by decide
  have wL : Str.ofString "load" ∈ W5 := by decide
  have z1 : (0 : Int) < 100 := by decide
  have z2 : (0 : Int) < 9973 := by decide
  unfold hrAt
  cases e : h.ls[j]? with
  | some t =>
    have tm := List.mem_of_getElem? e
    have ok := ho.lk t tm
    obtain ⟨og, o0, o1⟩ := ly_ok (p := j) h.ys (t.l, t.b) ho.yk ⟨ok.g, ok.b0, ok.b1⟩
    have := ok.pk
    exact ⟨⟨by show (0 : Int) ≤ (t.p : Nat); omega, by show ((t.p : Nat) : Int) < 100; omega, wS, og, (ms_in _).1, (ms_in _).2⟩, Int.ofNat_lt.mpr (hb t tm)⟩
  | none =>
    cases n with
    | none => exact ⟨⟨Int.le_refl _, z1, wE, ho.g, Int.le_refl _, z2⟩, Int.ofNat_lt.mpr (show 0 < m by omega)⟩
    | some g =>
      have ok := no g rfl
      obtain ⟨og, o0, o1⟩ := ly_ok (p := j) h.ys (g.l, g.b) ho.yk ⟨ok.g, ok.b0, ok.b1⟩
      exact ⟨⟨Int.le_refl _, z1, wL, og, (ms_in _).1, (ms_in _).2⟩, Int.ofNat_lt.mpr (show 0 < m by omega)⟩
def Mst.stepped (M : Mst) (p : Nat) (h : Hd) : Mst := { M with pl := some (p + 1), xs := M.xs ++ nts h M.wk[p + 1]? }
def wMcStep : W3F := fun ps μ Ψ Ξ => ∃ (a : Addr) (M : Mst), ps = [.dat (.adr a)] ∧ μ = [(a, .pk (mcI M))] ∧ M.xs.length + 100 < 100000 ∧
  (∀ p h, M.pl = some p → M.wk[p]? = some h → ∀ x, Ψ (.dat (.adr x)) ps [(x, .fl (.lst ((nts h M.wk[p + 1]?).map Rw.d))), (a, .pk (mcI (M.stepped p h)))]) ∧
  ((M.pl = none ∨ ∃ p, M.pl = some p ∧ M.wk.length ≤ p) → Ξ "NotYet" (.str (mcs M)) ps μ)
theorem Tx.kbHandNotes_2 {K : PySem.W.Frag} {mg : Str → Option Value} (T : Tx K mg) : ∃ g : List Value → List Value → List Value, KBn K T.fdHandNotes ["self", "next_hand"] 2 [] g (gB [0, 1] []) := kbAllN T.FHandNotes 2 [] [0, 1] fun kV doc pm an cdv ct us ws h1 h2 => match us, ws, h1, h2 with
  | [u0, u1], [], _, _ => rfl
theorem Tx.kbMachineNoteRow_2 {K : PySem.W.Frag} {mg : Str → Option Value} (T : Tx K mg) : ∃ g : List Value → List Value → List Value, KBn K T.fdMachineNoteRow ["self", "row"] 2 [] g (gB [0, 1] []) := kbAllN T.FMachineNoteRow 2 [] [0, 1] fun kV doc pm an cdv ct us ws h1 h2 => match us, ws, h1, h2 with
  | [u0, u1], [], _, _ => rfl
theorem Tx.kbMachineRefuseUnless_2 {K : PySem.W.Frag} {mg : Str → Option Value} (T : Tx K mg) : ∃ g : List Value → List Value → List Value, KBn K T.fdMachineRefuseUnless ["self", "state"] 2 [] g (gB [0, 1] []) := kbAllN T.FMachineRefuseUnless 2 [] [0, 1] fun kV doc pm an cdv ct us ws h1 h2 => match us, ws, h1, h2 with
  | [u0, u1], [], _, _ => rfl
theorem okMachineStep (T : Tx K mg) : FnOk P w K mg base (L2N.CX P w) 7 (He.ma K (He.ga K "Machine") "step") T.fdMachineStep ["self"] (sp3 K 1 wMcStep) := by
  have B := T.B
  have GMachineRefuseUnless : FnOk P w K mg base (L2N.CX P w) 3 (He.ma K (He.ga K "Machine") "refuse_unless") T.fdMachineRefuseUnless ["self", "state"] (sp3 K 2 wMcUnless) := okMachineRefuseUnless T
  have bMachineRefuseUnless := T.bMachineRefuseUnless
  have GHandNotes : FnOk P w K mg base CX0 3 (He.ma K (He.ga K "Hand") "notes") T.fdHandNotes ["self", "next_hand"] _ := FnOk.up3 (okHandNotes T)
  have bHandNotes := T.bHandNotes
  have GMachineNoteRow : FnOk P w K mg base CX0 6 (He.ma K (He.ga K "Machine") "note_row") T.fdMachineNoteRow ["self", "row"] (sp3 K 2 wMcNote) := okMachineNoteRow T
  have bMachineNoteRow := T.bMachineNoteRow
  obtain ⟨_, kbHandNotes_2⟩ := T.kbHandNotes_2
  obtain ⟨_, kbMachineNoteRow_2⟩ := T.kbMachineNoteRow_2
  obtain ⟨_, kbMachineRefuseUnless_2⟩ := T.kbMachineRefuseUnless_2
  refine T.FMachineStep.ok scMachineStep (fun vs H Q E h => h.1) (fun cdv A outer s H vs Q E hr h => ?_)
  refine ⟨_, (pss_cons (ps_expr (asPE (tMeth3 _ _ 1 0 _ _ _ _ _ _) (pe_meth3 (ks := []) (pv 0) T.clMachine T.mMachineRefuseUnless GMachineRefuseUnless (hr.mono (by decide)) kbMachineRefuseUnless_2 (fun σ => L2N.passAt (L2N.takes_of rfl rfl rfl rfl) σ) (pa_cons pe_str pa_nil) pk_nil)))
        (pss_cons (psOpen (ps_set (i := 1) scMachineStep.nd rfl (.inl rfl) (pe_ix (show IxR _ (rIx K) from ix_seq) (asPE (tFld3 K _ "working") (pe_fld (pv 0) rfl)) (asPE (tFld3 K _ "place") (pe_fld (pv 0) rfl)) (fun _ _ => rfl))))
        (pss_cons (asPS (sFldAug K _ _ rAdd "place") (ps_fldaug (pv 0) pe_int in_add))
        (pss_cons (ps_set (i := 2) scMachineStep.nd rfl (.inl rfl) (peNew3 (asPE (tMeth3 _ _ 1 0 _ _ _ _ _ _) (pe_meth3 (ks := []) (pv 1) T.clHand T.mHandNotes GHandNotes (hr.mono (by decide)) kbHandNotes_2 (pass0S (fun cls d _ H => E cls d H)) (pa_cons (pe_ifExp (pt_cmpR (opEqA (K := K) rfl hr.units) (asPE (tFld3 K _ "place") (pe_fld (pv 0) rfl)) (pe_callB (show CallR _ _ (rLen K) from call_len) (by rfl) B.b_len PySem.boot_len (pa_cons (asPE (tFld3 K _ "working") (pe_fld (pv 0) rfl)) pa_nil)) (nomark _)) pe_non (pe_ix (show IxR _ (rIx K) from ix_seq) (asPE (tFld3 K _ "working") (pe_fld (pv 0) rfl)) (asPE (tFld3 K _ "place") (pe_fld (pv 0) rfl)) (fun _ _ => rfl))) pa_nil) pk_nil))))
        (pss_cons (ps_for (passes_of rfl) rfl (piAny (K := K) rfl (peHold (pv 2))) (pg_name (i := 3) scMachineStep.nd rfl (Or.inl rfl))
        (pss_one (ps_expr (asPE (tMeth3 _ _ 1 0 _ _ _ _ _ _) (pe_meth3 (ks := []) (pv 0) T.clMachine T.mMachineNoteRow GMachineNoteRow (hr.mono (by decide)) kbMachineNoteRow_2 (pass0S (fun cls d _ H => E cls d H)) (pa_cons (pv 3) pa_nil) pk_nil)))))
        (pss_one (ps_ret (pv 2)))))))), ?_⟩
  refine body3 h (fun ps μ Ψ Ξ hw hl => ?_)
  obtain ⟨a, M, rfl, rfl, xl, q, qx⟩ := hw
  cases hp : M.pl with
  | none => exact ⟨⟨_, _, .pk, rfl, rfl⟩, ⟨rfl, rfl, rfl⟩, [_], [], .refl _, a, M, "going", rfl, rfl, .inr ⟨by rw [mcs_off hp]; decide, _, .refl _, qx (.inl hp)⟩⟩
  | some p =>
    by_cases hlt : p < M.wk.length
    · refine ⟨⟨_, _, .pk, rfl, rfl⟩, ⟨rfl, rfl, rfl⟩, [_], [], .refl _, a, M, "going", rfl, rfl, .inl ⟨mcs_going hp hlt, ?_⟩⟩
      refine ⟨a, mcI M, [], .refl _, ?_⟩
      rintro m ⟨n, r, rfl, ok⟩
      obtain ⟨h, eh⟩ : ∃ h, M.wk[p]? = some h := ⟨_, List.getElem?_eq_getElem hlt⟩
      have hm := List.mem_of_getElem? eh
      have q := q p h hp eh
      have ep : (some (plD M.pl) : Option Dt) = some (.int (p : Nat)) := congrArg (fun o => some (plD o)) hp
      refine ⟨0, _, _, _, rfl, _, rfl, 0, _, _, _, rfl, .int (p : Nat), ep, h.d, atI_nat (by rw [List.getElem?_map, eh]; rfl), ?_⟩
      refine ⟨0, _, _, _, rfl, .int (p : Nat), ep, 0, MF, M.d9 ++ [.adr n, .adr r], rfl, ⟨rfl, by decide⟩, _, _, rfl, ?_⟩
      have ok1 : ({ M with pl := some (p + 1) } : Mst).ok := ⟨ok.g, ok.k0, ok.k1, ok.om, ok.m1, ok.m8, ok.f0, ok.f1, ok.hn, ok.h6, ok.ho, ok.hb, ok.hl, ok.w6, ok.wo, ok.wb, fun x e => by
        cases e
        exact hlt, ok.s0, ok.s1, ok.xo, ok.xl⟩
      refine ⟨⟨rfl, rfl⟩, 0, "Machine", MF, ({ M with pl := some (p + 1) } : Mst).d9 ++ [.adr n, .adr r], rfl, .int ((p + 1 : Nat) : Int), rfl, 0, "Machine", MF, ({ M with pl := some (p + 1) } : Mst).d9 ++ [.adr n, .adr r], rfl, _, rfl, ?_⟩
      obtain ⟨nx, en⟩ : ∃ nx, M.wk[p + 1]? = nx := ⟨_, rfl⟩
      have on : ∀ g, nx = some g → g.ok := fun g e => ok.wo g (List.mem_of_getElem? (en.trans e))
      rw [en] at q
      have walk : ∀ y : Addr, wSeq3 (wForH (lf3 fun ρ Ψ x => wVar 2 ρ Ψ) (fun d ρ k => put 3 (Sl.dat d) ρ k) (wDrop3 (wMeth3 K (He.ga K "Machine") "note_row" 2 1 0 wMcNote [0, 1] [] (lf3 fun ρ Ψ x => wVar 0 ρ Ψ) (wA3Cons (lr3 fun ρ Ψ x => wVar 3 ρ Ψ) wA3Nil) wA3Nil))) (ls3 fun ρ Φ x => wRet (wVar 2) ρ Φ) [.dat (.adr a), .dat h.d, .dat (.adr y), .un] [(y, .fl (.lst ((nts h nx).map Rw.d))), (a, .fl (.ins "Machine" MF (({ M with pl := some (p + 1) } : Mst).d9 ++ [.adr n, .adr r]))), (n, .fl (.lst ((bds M).map .int))), (r, .fl (.lst (M.xs.map Rw.d)))] (fin3 [Sl.dat (Dt.adr a)] Ψ) (finX3 [Sl.dat (Dt.adr a)] Ξ) := fun y => by
        have nb := nts_row (m := M.m) (ok.wo h hm) on ok.m1 (ok.wb h hm)
        have nl := nts_len h nx
        have l3 := (ok.wo h hm).l3
        refine ⟨(nts h nx).map Rw.d, _, .refl _, fun j ρ μ => ρ = [.dat (.adr a), .dat h.d, .dat (.adr y), .un] ∧ μ = [(a, .pk (mcI { M with pl := some (p + 1), xs := M.xs ++ (nts h nx).take j }))], To3.by_ (mc_close1 (n := n) (r := r) (is := [0, 0, 0]) (x := []) (M := { M with pl := some (p + 1), xs := M.xs ++ (nts h nx).take 0 }) (by rw [List.take_zero, List.append_nil]; exact ok1) (by rw [List.take_zero, List.append_nil]; rfl)) ⟨rfl, rfl⟩ (by get_elem_tactic_trivial), ?_, ?_⟩
        · rintro j ρ μ d hd ⟨rfl, rfl⟩
          rw [List.getElem?_map] at hd
          obtain ⟨x, hx, rfl⟩ := Option.map_eq_some_iff.mp hd
          obtain ⟨ox, xb⟩ := nb x (List.mem_of_getElem? hx)
          refine ⟨⟨_, _, .pk, rfl, rfl⟩, ⟨rfl, rfl, rfl⟩, [_], [], .refl _, a, _, x, rfl, rfl, ox, xb, ?_, ?_⟩
          · show (M.xs ++ (nts h nx).take j).length < 100000
            rw [List.length_append, List.length_take]
            omega
          · refine To3.by_ (.refl _) ⟨rfl, ?_⟩ (by get_elem_tactic_trivial)
            rw [take_at hx, ← List.append_assoc]
            rfl
        · rintro ρ μ ⟨rfl, rfl⟩
          refine ⟨_, .refl _, ?_⟩
          rw [List.length_map, List.take_length]
          have z := q y
          unfold Mst.stepped at z
          rw [en] at z
          exact z
      by_cases hl : p + 1 = M.wk.length
      · have e0 : nx = none := by rw [← en, hl]; exact List.getElem?_eq_none (Nat.le_refl _)
        refine ifT (decide_eq_true (by rw [List.length_map]; exact congrArg Nat.cast hl)) ?_
        refine ⟨⟨rfl, rfl, rfl⟩, [], _, .refl _, h, nx, by rw [e0]; rfl, ok.wo h hm, on, fun y => ?_⟩
        exact walk y
      · have lt : p + 1 < M.wk.length := by omega
        obtain ⟨g, eg⟩ : ∃ g, M.wk[p + 1]? = some g := ⟨_, List.getElem?_eq_getElem lt⟩
        have e0 : nx = some g := en.symm.trans eg
        refine ifF (decide_eq_false (by rw [List.length_map]; exact fun z => hl (Int.ofNat.inj z))) ?_
        refine ⟨0, "Machine", MF, ({ M with pl := some (p + 1) } : Mst).d9 ++ [.adr n, .adr r], rfl, .lst (M.wk.map Hd.d), rfl, 0, "Machine", MF, ({ M with pl := some (p + 1) } : Mst).d9 ++ [.adr n, .adr r], rfl, .int ((p + 1 : Nat) : Int), rfl, g.d, atI_nat (by rw [List.getElem?_map, eg]; rfl), ?_⟩
        refine ⟨⟨rfl, rfl, rfl⟩, [], _, .refl _, h, nx, by rw [e0]; rfl, ok.wo h hm, on, fun y => ?_⟩
        exact walk y
    · exact ⟨⟨_, _, .pk, rfl, rfl⟩, ⟨rfl, rfl, rfl⟩, [_], [], .refl _, a, M, "going", rfl, rfl, .inr ⟨by rw [mcs_up hp (by omega)]; decide, _, .refl _, qx (.inr ⟨p, hp, by omega⟩)⟩⟩
end
section
variable {P : Program} {w : World} {K : PySem.W.Frag} {mg : Str → Option Value} {base : Heap}
local macro_rules | `(tactic| get_elem_tactic_trivial) => `(tactic| (repeat first | exact Wk.nil | exact Wk'.nil | refine Wk.same ?_ | refine Wk'.same ?_ | refine Wk.un (fun _ z => nomatch z) ?_ | refine Wk'.un ?_))
/-! hands that a machine may have -/
structure HandsOk (hs : List Hd) (m : Nat) : Prop where
  hn : hs ≠ []
  h6 : hs.length ≤ 6
  ho : ∀ h ∈ hs, h.ok
  hb : ∀ h ∈ hs, ∀ t ∈ h.ls, t.p < m
  hl : ∀ h, hs[0]? = some h → h.ys = []
theorem bls_reps : ∀ n : Nat, bls (List.replicate n (Dt.bl true)) = some (List.replicate n true)
  | 0 => rfl
  | n + 1 => by
    rw [List.replicate_succ, List.replicate_succ]
    show (match bls (List.replicate n (Dt.bl true)) with | some bs => some (true :: bs) | none => none) = _
    rw [bls_reps n]
theorem all_reps (n : Nat) : (List.replicate n true).all id = true := List.all_eq_true.mpr fun b hb => (List.mem_replicate.mp hb).2
def wAreHands : WF := fun ps Ψ => ∃ (hs : List Hd) (m : Nat), ps = [.dat (hdsD hs), .dat (.int (m : Nat))] ∧ HandsOk hs m ∧ m ≤ 8 ∧ Ψ (.dat (.bl true)) ps
theorem okAreHands (T : Tx K mg) : FnOk P w K mg base CX0 1 (He.ga K "are_hands") T.fdAreHands ["thing", "many"] (spD K 2 wAreHands) := by
  have B := T.B
  haveI : IsO K "Hand" := ⟨T.clHand, T.is_Hand⟩
  refine T.FAreHands.ok scAreHands (fun vs H Q E h => h.1) (fun cdv A outer s H vs Q E hr h => ?_)
  refine ⟨_, PSs.nox (pss_cons (ps_if (PW.pt (pw_or (pt_not (pt_val (pe_callB (show CallR _ _ (rIsiT K) from call_isiT) (by rfl) B.b_isinstance boot_isinstance (pa_cons (pv 0) (pa_cons (pe_tup (pa_cons (pe_bltn (v := .ty "list") (by rfl) B.b_list PyProof.Rows.boot_list rfl) (pa_cons (pe_bltn (v := .ty "tuple") (by rfl) B.b_tuple PyProof.Rows.boot_tuple rfl) pa_nil))) pa_nil))))) (pw_or1 (pt_not (pt_chain op_le op_le pe_int (pe_callB (show CallR _ _ (rLen K) from call_len) (by rfl) B.b_len PySem.boot_len (pa_cons (pv 0) pa_nil)) (pe_glob (v := .int 6) (by rfl) T.c_MOST_HANDS.choose_spec ⟨_, rfl⟩)))))) (pss_one (ps_ret pe_bl)) pss_nil)
        (pss_cons (ps_if (pt_not (pt_val (pe_callB (show CallR _ _ (rAll K) from cr_all rfl) (by rfl) B.b_all boot_all (pa_cons (pe_lc (own := [("hand", 2)]) (g := gName 2) (tt := tYes) (by rfl) scAreHands.nd (piAny (K := K) rfl (pv 0)) (blkOk_by (own := [("hand", 2)]) (N := ["thing", "many", "hand", "boards", "load", "board"]) (sc := defScope sAreHands) (by decide +kernel)) (fun _ _ _ _ _ => by exact (pg_name (i := 2) scAreHands.nd rfl (Or.inl rfl))) (fun _ _ _ _ _ => pts_nil) (fun _ _ _ _ _ => (pe_callB (show CallR _ _ (rIsi K) from call_isi) (by rfl) B.b_isinstance boot_isinstance (pa_cons (pv 2) (pa_cons (pe_glob (v := .ref (He.ga K "Hand")) (by rfl) T.gHand rfl) pa_nil))))) pa_nil)))) (pss_one (ps_ret pe_bl)) pss_nil)
        (pss_cons (ps_setLc2 (i := 3) (own := [("hand", 2), ("load", 4)]) (vs1 := [4]) (g := gName 2) (g1 := gName 4) (tt := tYes) (tt1 := tYes) (by rfl) scAreHands.nd rfl rfl (sw_true rfl rfl rfl (by decide +kernel)) (piAny (K := K) rfl (pv 0)) (blkOk_by (own := [("hand", 2), ("load", 4)]) (N := ["thing", "many", "hand", "boards", "load", "board"]) (sc := defScope sAreHands) (by decide +kernel)) (by decide) (fun _ _ _ _ _ => by exact (pg_name (i := 2) scAreHands.nd rfl (Or.inl rfl))) (fun _ _ _ _ _ => by exact pts_nil) (fun _ _ _ _ _ => by exact (piAny (K := K) rfl (show PE _ _ (tFld K _ "loads") from pe_fld (pv 2) rfl))) (fun _ _ _ _ _ => by exact (pg_name (i := 4) scAreHands.nd rfl (Or.inl rfl))) (fun _ _ _ _ _ => by exact pts_nil) (fun _ _ _ _ _ => by exact (pe_ix (show IxR _ (rIx K) from ix_seq) (pv 4) pe_int (fun _ _ => rfl))))
        (pss_one (ps_ret (pe_and (pe_cmpR (opEqA (K := K) rfl hr.units) (pe_callB (show CallR _ _ (rLen K) from call_len) (by rfl) B.b_len PySem.boot_len (pa_cons (show PE _ _ (tFld K _ "lies") from pe_fld (pe_ix (show IxR _ (rIx K) from ix_seq) (pv 0) pe_int (fun _ _ => rfl)) rfl) pa_nil)) pe_int (nomark _)) (pe_one (pe_callB (show CallR _ _ (rAll K) from cr_all rfl) (by rfl) B.b_all boot_all (pa_cons (pe_lc (own := [("board", 5)]) (g := gName 5) (tt := tYes) (by rfl) scAreHands.nd (piAny (K := K) rfl (pv 3)) (blkOk_by (own := [("board", 5)]) (N := ["thing", "many", "hand", "boards", "load", "board"]) (sc := defScope sAreHands) (by decide +kernel)) (fun _ _ _ _ _ => by exact (pg_name (i := 5) scAreHands.nd rfl (Or.inl rfl))) (fun _ _ _ _ _ => pts_nil) (fun _ _ _ _ _ => (pe_cmpR op_lt (pv 5) (pv 1) (nomark _)))) pa_nil))))))))), ?_⟩
  refine bodyD h (fun ps Ψ hw hl => ?_)
  obtain ⟨hs, m, rfl, ok, m8, q⟩ := hw
  have p1 : 1 ≤ hs.length := List.length_pos_iff.mpr ok.hn
  have p6 := ok.h6
  have sz : sizeLine = 16777216 := by decide
  refine ifT (decide_eq_true (by rw [List.length_map]; omega)) (ifF ?_ ?_)
  · show (!decide (((hs.map Hd.d).length : Int) ≤ 6)) = false
    rw [decide_eq_true (by rw [List.length_map]; omega)]
    rfl
  refine ⟨⟨rfl, rfl⟩, fun j acc ρ => acc = List.replicate j (.bl true) ∧ j ≤ hs.length ∧ ρ = [.dat (hdsD hs), .dat (.int (m : Nat)), .un, .un, .un, .un], ⟨rfl, Nat.zero_le _, rfl⟩, ?_, ?_⟩
  · rintro j acc ρ d hd ⟨rfl, hj, rfl⟩
    rw [List.getElem?_map] at hd
    obtain ⟨h, hh, rfl⟩ := Option.map_eq_some_iff.mp hd
    have hlt := (List.getElem?_eq_some_iff.mp hh).1
    refine ⟨rfl, rfl, by rw [List.length_replicate]; omega, ?_, by omega, rfl⟩
    rw [List.replicate_succ']
  rintro acc ρ ⟨rfl, -, rfl⟩
  refine ⟨rfl, _, bls_reps _, ifF ?_ ?_⟩
  · show (!((List.replicate ((hs.map Hd.d).length) true).all id)) = false
    rw [all_reps]
    rfl
  obtain ⟨h0, e0⟩ : ∃ h0, hs[0]? = some h0 := ⟨_, List.getElem?_eq_getElem (by omega)⟩
  refine ⟨⟨rfl, rfl, rfl, rfl⟩, fun k acc ρ => (acc.length ≤ 3 * k ∧ ∀ d ∈ acc, ∃ p : Nat, p < m ∧ d = .int (p : Nat)) ∧ k ≤ hs.length ∧ ρ = [.dat (hdsD hs), .dat (.int (m : Nat)), .un, .un, .un, .un], ⟨⟨Nat.le_refl _, fun d h => nomatch h⟩, Nat.zero_le _, rfl⟩, ?_, ?_⟩
  · rintro k acc ρ d hd ⟨⟨al, ea⟩, hk, rfl⟩
    rw [List.getElem?_map] at hd
    obtain ⟨h, hh, rfl⟩ := Option.map_eq_some_iff.mp hd
    have hlt := (List.getElem?_eq_some_iff.mp hh).1
    have hm := List.mem_of_getElem? hh
    have l3 := (ok.ho h hm).l3
    refine ⟨2, .tup (h.ls.map Tr.d), by decide +kernel, rfl, fldLo T, rfl, fun j acc2 ρ => (acc2.length ≤ 3 * k + j ∧ ∀ d ∈ acc2, ∃ p : Nat, p < m ∧ d = .int (p : Nat)) ∧ j ≤ h.ls.length ∧ ρ = [.dat (hdsD hs), .dat (.int (m : Nat)), .dat h.d, .un, .un, .un], ⟨⟨al, ea⟩, Nat.zero_le _, rfl⟩, ?_, ?_⟩
    · rintro j acc2 ρ d hd ⟨⟨al2, ea2⟩, hj, rfl⟩
      rw [List.getElem?_map] at hd
      obtain ⟨t, ht, rfl⟩ := Option.map_eq_some_iff.mp hd
      have hlt2 := (List.getElem?_eq_some_iff.mp ht).1
      refine ⟨_, rfl, rfl, by omega, ⟨by rw [List.length_append]; show _ + 1 ≤ _; omega, fun d hd => ?_⟩, by omega, rfl⟩
      rcases List.mem_append.mp hd with z | z
      · exact ea2 d z
      · exact ⟨t.p, ok.hb h hm t (List.mem_of_getElem? ht), List.mem_singleton.mp z⟩
    · rintro acc2 ρ ⟨⟨al2, ea2⟩, -, rfl⟩
      rw [List.length_map] at al2
      exact ⟨rfl, ⟨by omega, ea2⟩, by omega, rfl⟩
  rintro acc ρ ⟨⟨al, ea⟩, -, rfl⟩
  refine ⟨rfl, ?_⟩
  refine ⟨h0.d, atI_nat (j := 0) (by rw [List.getElem?_map, e0]; rfl), 3, _, by decide +kernel, rfl, fldLi T, ifT (eqSame ?_) ?_⟩
  · rw [ok.hl h0 e0]
    rfl
  refine ⟨⟨rfl, rfl⟩, fun j acc3 ρ => acc3 = List.replicate j (.bl true) ∧ j ≤ acc.length ∧ ρ = [.dat (hdsD hs), .dat (.int (m : Nat)), .un, .dat (.lst acc), .un, .un], ⟨rfl, Nat.zero_le _, rfl⟩, ?_, ?_⟩
  · rintro j acc3 ρ d hd ⟨rfl, hj, rfl⟩
    obtain ⟨p, hp, rfl⟩ := ea d (List.mem_of_getElem? hd)
    have hlt := (List.getElem?_eq_some_iff.mp hd).1
    rw [List.length_map] at al
    refine ⟨rfl, by rw [List.length_replicate]; omega, ?_, by omega, rfl⟩
    rw [List.replicate_succ', decide_eq_true (Int.ofNat_lt.mpr hp)]
  rintro acc3 ρ ⟨rfl, -, rfl⟩
  refine ⟨rfl, _, bls_reps _, ?_⟩
  rw [all_reps]
  exact q
end
section
variable {P : Program} {w : World} {K : PySem.W.Frag} {mg : Str → Option Value} {base : Heap}
local macro_rules | `(tactic| get_elem_tactic_trivial) => `(tactic| (repeat first | exact Wk.nil | exact Wk'.nil | refine Wk.same ?_ | refine Wk'.same ?_ | refine Wk.un (fun _ z => nomatch z) ?_ | refine Wk'.un ?_))
/-! machines made -/
theorem mk0 (T : Tx K mg) : ∃ ds, Vals [.non, .int 7919] ds ∧ Binds K T.fdMixingInit ["self", "width", "factor"] ds := T.FMixingInit.binds (ps := ["self", "width", "factor"]) 1 0 (by decide) rfl (fun TT D doc pm an cdv ct us its ks h1 h2 h3 => match us, its, ks, h1, h2, h3 with
  | [u], [i], [k], _, _, _ => ⟨_, rfl, _, _, _, _, _, _, rfl, rfl, rfl⟩) (by decide)
def wMcInit : W3F := fun ps μ Ψ _ => ∃ (a : Addr) (M : Mst), ps = [.dat (.adr a), .dat (nD M.nm), .dat (.int M.key), .dat (hdsD M.hs), .dat (mixD M.w M.f), .dat (.int (M.m : Nat)), .dat (.int M.k)] ∧ μ = [(a, .fl (.ins "Machine" [] []))] ∧ M.ok ∧ M.wk = [] ∧ M.pl = none ∧ M.st = 0 ∧ M.xs = [] ∧ Ψ (.dat .non) ps [(a, .pk (mcI M))]
theorem Tx.kbAreHands_2 {K : PySem.W.Frag} {mg : Str → Option Value} (T : Tx K mg) : ∃ g : List Value → List Value → List Value, KBn K T.fdAreHands ["thing", "many"] 2 [] g (gB [0, 1] []) := kbAllN T.FAreHands 2 [] [0, 1] fun kV doc pm an cdv ct us ws h1 h2 => match us, ws, h1, h2 with
  | [u0, u1], [], _, _ => rfl
theorem Tx.kbIsName_1 {K : PySem.W.Frag} {mg : Str → Option Value} (T : Tx K mg) : ∃ g : List Value → List Value → List Value, KBn K T.fdIsName ["thing"] 1 [] g (gB [0] []) := kbAllN T.FIsName 1 [] [0] fun kV doc pm an cdv ct us ws h1 h2 => match us, ws, h1, h2 with
  | [u0], [], _, _ => rfl
theorem okMachineInit (T : Tx K mg) : FnOk P w K mg base CX0 6 (He.ma K (He.ga K "Machine") "__init__") T.fdMachineInit ["self", "name", "key", "hands", "mixing", "many", "fixed"] (sp3 K 7 wMcInit) := by
  have B := T.B
  have GMachineClearBoards : FnOk P w K mg base CX0 3 (He.ma K (He.ga K "Machine") "clear_boards") T.fdMachineClearBoards ["self"] (sp3 K 1 wMcClear) := okMachineClearBoards T
  have bMachineClearBoards := T.bMachineClearBoards
  have GIsName : FnOk P w K mg base CX0 1 (He.ga K "is_name") T.fdIsName ["thing"] _ := FnOk.up3 (okIsName T)
  have bIsName := T.bIsName
  have GStartErrorInit : FnOk P w K mg base CX0 1 (He.ma K (He.ga K "StartError") "__init__") T.fdStartErrorInit ["self", "what"] (spInitE K) := okStartErrorInit T
  have bStartErrorInit := T.bStartErrorInit
  have GIsWithin : FnOk P w K mg base CX0 2 (He.ga K "is_within") T.fdIsWithin ["thing", "least", "greatest"] _ := FnOk.up3 (okIsWithin T)
  have bIsWithin := T.bIsWithin
  have GAreHands : FnOk P w K mg base CX0 1 (He.ga K "are_hands") T.fdAreHands ["thing", "many"] _ := FnOk.up3 (okAreHands T)
  have bAreHands := T.bAreHands
  have GMixingInit : FnOk P w K mg base CX0 3 (He.ma K (He.ga K "Mixing") "__init__") T.fdMixingInit ["self", "width", "factor"] (spIni K "Mixing" ["width", "factor"] okMixD) := OlN.okMixingD T
  obtain ⟨_, rMixingInit_2, bMixingInit_2⟩ := mk0 T
  obtain ⟨_, kbAreHands_2⟩ := T.kbAreHands_2
  obtain ⟨_, kbIsName_1⟩ := T.kbIsName_1
  obtain ⟨_, kbIsWithin_3⟩ := T.kbIsWithin_3
  obtain ⟨_, kbMachineClearBoards_1⟩ := T.kbMachineClearBoards_1
  refine T.FMachineInit.ok scMachineInit (fun vs H Q E h => h.1) (fun cdv A outer s H vs Q E hr h => ?_)
  refine ⟨_, PSs.nox (pss_cons (ps_if (pt_not (pt_val (asPE (tCall3 1 0 _ _ _ _ _) (pe_call3 (ks := []) GIsName (hr.mono (by decide)) (by rfl) T.gIsName T.FIsName.kp kbIsName_1 (pass0S (fun cls d _ H => E cls d H)) (pa_cons (pv 1) pa_nil) pk_nil)))) (pss_one ps_no) pss_nil)
        (pss_cons (ps_if (pt_not (pt_val (asPE (tCall3 3 0 _ _ _ _ _) (pe_call3 (ks := []) GIsWithin (hr.mono (by decide)) (by rfl) T.gIsWithin T.FIsWithin.kp kbIsWithin_3 (pass0S (fun cls d _ H => E cls d H)) (pa_cons (pv 2) (pa_cons pe_int (pa_cons (pe_glob (v := .int 1000000) (by rfl) T.c_GREATEST_KEY.choose_spec ⟨_, rfl⟩) pa_nil))) pk_nil)))) (pss_one ps_no) pss_nil)
        (pss_cons (ps_if (pt_not (pt_val (asPE (tCall3 2 0 _ _ _ _ _) (pe_call3 (ks := []) GAreHands (hr.mono (by decide)) (by rfl) T.gAreHands T.FAreHands.kp kbAreHands_2 (pass0S (fun cls d _ H => E cls d H)) (pa_cons (pv 3) (pa_cons (pv 5) pa_nil)) pk_nil)))) (pss_one ps_no) pss_nil)
        (pss_cons (asPS (sFld K _ _ "name") (ps_fld (pv 0) (pv 1) rfl))
        (pss_cons (asPS (sFld K _ _ "key") (ps_fld (pv 0) (pv 2) rfl))
        (pss_cons (asPS (sFld K _ _ "mixing") (ps_fld (pv 0) (pe_ifExp (pt_cmpR (show OpR _ _ rIsNone from op_isN) (pv 4) pe_non (nomark _)) (pe_make0 T.mkMixing GMixingInit (hr.mono (by decide)) (by rfl) T.gMixing bMixingInit_2 rMixingInit_2 pass0) (pv 4)) rfl))
        (pss_cons (asPS (sFld K _ _ "many") (ps_fld (pv 0) (pv 5) rfl))
        (pss_cons (asPS (sFld K _ _ "fixed") (ps_fld (pv 0) (pv 6) rfl))
        (pss_cons (asPS (sFld K _ _ "hands") (ps_fld (pv 0) (pe_callTy (show CallR _ _ (cList K) from call_list_of) (by rfl) B.b_list PyProof.Rows.boot_list (pa_cons (pv 3) pa_nil)) rfl))
        (pss_cons (asPS (sFld K _ _ "working") (ps_fld (pv 0) (pe_lst pa_nil) rfl))
        (pss_cons (asPS (sFld K _ _ "place") (ps_fld (pv 0) pe_non rfl))
        (pss_cons (asPS (sFld K _ _ "times") (ps_fld (pv 0) pe_int rfl))
        (pss_one (ps_expr (asPE (tMeth3 _ _ 0 0 _ _ _ _ _ _) (pe_meth30 (ks := []) (pv 0) T.clMachine T.mMachineClearBoards GMachineClearBoards (hr.mono (by decide)) kbMachineClearBoards_1 (pass0S (fun cls d _ H => E cls d H)) pk_nil)))))))))))))))), ?_⟩
  refine body3 h (fun ps μ Ψ Ξ hw hl => ?_)
  obtain ⟨a, M, rfl, rfl, ok, e1, e2, e3, e4, q⟩ := hw
  obtain ⟨nm, key, w, f, mm, k, hs, wk, pl, st, xs⟩ := M
  obtain rfl : wk = [] := e1
  obtain rfl : pl = none := e2
  obtain rfl : st = 0 := e3
  obtain rfl : xs = [] := e4
  have k0 : 0 ≤ key := ok.k0
  have k1 : key ≤ 1000000 := ok.k1
  have m8 : mm ≤ 8 := ok.m8
  have en : isNameD (nD nm) = true := isNm_nm ok.g
  refine ⟨⟨rfl, rfl, rfl⟩, [], _, .refl _, nD nm, rfl, (nice_nm ok.g).mono (by decide) (by decide), ifF ?_ ?_⟩
  · show (!isNameD (nD nm)) = false
    rw [en]
    rfl
  refine ⟨⟨rfl, rfl, rfl⟩, [], _, .refl _, .int key, 0, 1000000, rfl, (nice_small (by show -10000000000 < key; omega) (by show key < 10000000000; omega)).mono (by decide) (by decide), ifF ?_ ?_⟩
  · show (!(decide (0 ≤ key) && decide (key ≤ 1000000))) = false
    rw [decide_eq_true k0, decide_eq_true k1]
    rfl
  refine ⟨⟨rfl, rfl, rfl⟩, [], _, .refl _, hs, mm, rfl, ⟨ok.hn, ok.h6, ok.ho, ok.hb, ok.hl⟩, m8, ?_⟩
  refine ⟨0, "Machine", ([] : List Str), [], rfl, ⟨.inr (fldMc T _ (by simp)), by decide⟩, _, _, rfl, ?_⟩
  refine ⟨0, "Machine", (["name"] : List Str), [nD nm], rfl, ⟨.inr (fldMc T _ (by simp)), by decide⟩, _, _, rfl, ?_⟩
  refine ⟨rfl, 0, "Machine", (["name", "key"] : List Str), [nD nm, .int key], rfl, ⟨.inr (fldMc T _ (by simp)), by decide⟩, _, _, rfl, ?_⟩
  refine ⟨0, "Machine", (["name", "key", "mixing"] : List Str), [nD nm, .int key, mixD w f], rfl, ⟨.inr (fldMc T _ (by simp)), by decide⟩, _, _, rfl, ?_⟩
  refine ⟨0, "Machine", (["name", "key", "mixing", "many"] : List Str), [nD nm, .int key, mixD w f, .int (mm : Nat)], rfl, ⟨.inr (fldMc T _ (by simp)), by decide⟩, _, _, rfl, ?_⟩
  refine ⟨0, "Machine", (["name", "key", "mixing", "many", "fixed"] : List Str), [nD nm, .int key, mixD w f, .int (mm : Nat), .int k], rfl, ⟨.inr (fldMc T _ (by simp)), by decide⟩, _, _, rfl, ?_⟩
  refine ⟨by show 0 ≤ sizeLine; decide, ?_⟩
  refine ⟨0, "Machine", (["name", "key", "mixing", "many", "fixed", "hands"] : List Str), [nD nm, .int key, mixD w f, .int (mm : Nat), .int k, .lst (hs.map Hd.d)], rfl, ⟨.inr (fldMc T _ (by simp)), by decide⟩, _, _, rfl, ?_⟩
  refine ⟨0, "Machine", (["name", "key", "mixing", "many", "fixed", "hands", "working"] : List Str), [nD nm, .int key, mixD w f, .int (mm : Nat), .int k, .lst (hs.map Hd.d), .lst []], rfl, ⟨.inr (fldMc T _ (by simp)), by decide⟩, _, _, rfl, ?_⟩
  refine ⟨0, "Machine", (["name", "key", "mixing", "many", "fixed", "hands", "working", "place"] : List Str), [nD nm, .int key, mixD w f, .int (mm : Nat), .int k, .lst (hs.map Hd.d), .lst [], .non], rfl, ⟨.inr (fldMc T _ (by simp)), by decide⟩, _, _, rfl, ?_⟩
  refine ⟨⟨_, _, .fl, rfl, rfl⟩, ⟨rfl, rfl, rfl⟩, [_], [], .refl _, a, ⟨nm, key, w, f, mm, k, hs, [], none, 0, []⟩, [], [], rfl, rfl, .inl ⟨rfl, rfl⟩, ok.m8, fun n r => ?_⟩
  exact ⟨_, mc_close1 (is := [0, 0, 0]) ok rfl, q⟩

end
section
variable {P : Program} {w : World} {K : PySem.W.Frag} {mg : Str → Option Value} {base : Heap}
local macro_rules | `(tactic| get_elem_tactic_trivial) => `(tactic| (repeat first | exact Wk.nil | exact Wk'.nil | refine Wk.same ?_ | refine Wk'.same ?_ | refine Wk.un (fun _ z => nomatch z) ?_ | refine Wk'.un ?_))
/-! hands drawn, on boards below a size -/
def wHands33 : List Sl → (List Dt → List Sl → Prop) → Prop := fun ps Ψ => ∃ (n : Int) (ls : List (List Nat)) (z c : Nat) (lr : Bool), ps = [.box n, .dat (.lst (ls.map nD)), .dat (.int (z : Nat)), .dat (.int (c : Nat)), .dat (.bl lr)] ∧ n < 700000000 ∧ (∀ l ∈ ls, Gd l) ∧ ls ≠ [] ∧ ls.length ≤ 100 ∧ 1 ≤ z ∧ z ≤ 8 ∧ 1 ≤ c ∧ c ≤ 6 ∧
  ∀ (hs : List Hd) (m : Int), HandsOk hs z → hs.length ≤ c → m ≤ n + 200 → Ψ (hs.map Hd.t) [.box m, .dat (.lst (ls.map nD)), .dat (.int (z : Nat)), .dat (.int (c : Nat)), .dat (.bl lr)]
theorem okLHands (T : Tx K mg) : FnOk P w K mg base CX0 3 (He.ga K "_law_hands") T.fdLHands ["_law_box_here", "_law_names_here", "_law_size", "_law_count", "_law_liars"] (spN K 5 wHands33) := by
  have B := T.B
  have GLTake : FnOk P w K mg base CX0 1 (He.ga K "_law_take") T.fdLTake ["_law_box_here", "_law_size"] (spD K 2 wTake) := okTakeD T
  have bLTake := T.bLTake
  have GLPick : FnOk P w K mg base CX0 2 (He.ga K "_law_pick") T.fdLPick ["_law_box_here", "_law_things"] (spD K 2 wPick) := okLPick T
  have bLPick := T.bLPick
  refine T.FLHands.ok scLHands (fun vs H Q E h => h.1) (fun cdv A outer s H vs Q E hr h => ?_)
  refine ⟨_, PSs.nox (pss_cons (ps_set (i := 5) scLHands.nd rfl (.inl rfl) (pe_lst pa_nil))
        (pss_cons (ps_for PassesOwn.never rfl (pi_range1 (by rfl) B.b_range (pa_cons (pe_op op_add pe_int (pe_call GLTake (hr.mono (by decide)) (by rfl) T.gLTake T.FLTake.kp bLTake .nil pass0 (pa_cons (pv 0) (pa_cons (pv 3) pa_nil)))) pa_nil)) (pg_name (i := 6) scLHands.nd rfl (Or.inl rfl))
        (pss_cons (ps_set (i := 7) scLHands.nd rfl (.inl rfl) (pe_lst pa_nil))
        (pss_cons (ps_for PassesOwn.never rfl (pi_range1 (by rfl) B.b_range (pa_cons (pe_ix (show IxR _ (rIx K) from ix_seq) (pe_lst (pa_cons pe_int (pa_cons pe_int (pa_cons pe_int (pa_cons pe_int pa_nil))))) (pe_call GLTake (hr.mono (by decide)) (by rfl) T.gLTake T.FLTake.kp bLTake .nil pass0 (pa_cons (pv 0) (pa_cons pe_int pa_nil))) (fun _ _ => rfl)) pa_nil)) (pg_name (i := 8) scLHands.nd rfl (Or.inl rfl))
        (pss_cons (ps_set (i := 9) scLHands.nd rfl (.inl rfl) (pe_call GLTake (hr.mono (by decide)) (by rfl) T.gLTake T.FLTake.kp bLTake .nil pass0 (pa_cons (pv 0) (pa_cons (pe_ix (show IxR _ (rIx K) from ix_seq) (pe_lst (pa_cons pe_int (pa_cons (pe_op op_add (pe_op op_pow pe_int pe_int) pe_int) pa_nil))) (pe_call GLTake (hr.mono (by decide)) (by rfl) T.gLTake T.FLTake.kp bLTake .nil pass0 (pa_cons (pv 0) (pa_cons pe_int pa_nil))) (fun _ _ => rfl)) pa_nil))))
        (pss_one (ps_expr (show PE _ _ (tBM K "list" rAppend _ _) from (pe_bm PySem.F.plainAttrs_list PySem.F.slot_list_append PySem.F.type_list_append mt_append (pv 7) (pa_cons (pe_tup (pa_cons (pe_call GLTake (hr.mono (by decide)) (by rfl) T.gLTake T.FLTake.kp bLTake .nil pass0 (pa_cons (pv 0) (pa_cons (pv 2) pa_nil))) (pa_cons (pe_call GLPick (hr.mono (by decide)) (by rfl) T.gLPick T.FLPick.kp bLPick .nil pass0 (pa_cons (pv 0) (pa_cons (pv 1) pa_nil))) (pa_cons (pv 9) pa_nil)))) pa_nil)))))))
        (pss_cons (ps_set (i := 10) scLHands.nd rfl (.inl rfl) (pe_lst pa_nil))
        (pss_cons (show PS _ _ (tJoin (tIfS _ _ _)) from ps_if (PW.pt (pw_and (pt_val (pv 4)) (pw_and (pt_cmpR op_gt (pv 6) pe_int (nomark _)) (pw_and1 (pt_cmpR (opEqA (K := K) rfl hr.units) (pe_call GLTake (hr.mono (by decide)) (by rfl) T.gLTake T.FLTake.kp bLTake .nil pass0 (pa_cons (pv 0) (pa_cons pe_int pa_nil))) pe_int (nomark _)))))) (pss_one (ps_set (i := 10) scLHands.nd rfl (.inl rfl) (pe_lst (pa_cons (pe_tup (pa_cons (pe_call GLTake (hr.mono (by decide)) (by rfl) T.gLTake T.FLTake.kp bLTake .nil pass0 (pa_cons (pv 0) (pa_cons (pe_op op_add (pe_callB (show CallR _ _ (rLen K) from call_len) (by rfl) B.b_len PySem.boot_len (pa_cons (pv 7) pa_nil)) pe_int) pa_nil))) (pa_cons (pe_call GLPick (hr.mono (by decide)) (by rfl) T.gLPick T.FLPick.kp bLPick .nil pass0 (pa_cons (pv 0) (pa_cons (pv 1) pa_nil))) (pa_cons (pe_call GLTake (hr.mono (by decide)) (by rfl) T.gLTake T.FLTake.kp bLTake .nil pass0 (pa_cons (pv 0) (pa_cons pe_int pa_nil))) pa_nil)))) pa_nil)))) pss_nil)
        (pss_cons (ps_set (i := 9) scLHands.nd rfl (.inl rfl) (pe_call GLTake (hr.mono (by decide)) (by rfl) T.gLTake T.FLTake.kp bLTake .nil pass0 (pa_cons (pv 0) (pa_cons (pe_ix (show IxR _ (rIx K) from ix_seq) (pe_lst (pa_cons pe_int (pa_cons (pe_op op_add (pe_op op_pow pe_int pe_int) pe_int) pa_nil))) (pe_call GLTake (hr.mono (by decide)) (by rfl) T.gLTake T.FLTake.kp bLTake .nil pass0 (pa_cons (pv 0) (pa_cons pe_int pa_nil))) (fun _ _ => rfl)) pa_nil))))
        (pss_one (ps_expr (show PE _ _ (tBM K "list" rAppend _ _) from (pe_bm PySem.F.plainAttrs_list PySem.F.slot_list_append PySem.F.type_list_append mt_append (pv 5) (pa_cons (pe_tup (pa_cons (pe_call GLPick (hr.mono (by decide)) (by rfl) T.gLPick T.FLPick.kp bLPick .nil pass0 (pa_cons (pv 0) (pa_cons (pv 1) pa_nil))) (pa_cons (pv 9) (pa_cons (pe_callTy (show CallR _ _ (cTuple K) from call_tuple_of) (by rfl) B.b_tuple PyProof.Rows.boot_tuple (pa_cons (pv 7) pa_nil)) (pa_cons (pe_callTy (show CallR _ _ (cTuple K) from call_tuple_of) (by rfl) B.b_tuple PyProof.Rows.boot_tuple (pa_cons (pv 10) pa_nil)) pa_nil))))) pa_nil)))))))))))
        (pss_one (ps_ret (pv 5))))), ?_⟩
  refine bodyD h (fun ps Ψ hw hl => ?_)
  obtain ⟨n, ls, z, c, lr, rfl, hn, gl, h0, hl, z1, z8, c1, c6, q⟩ := hw
  have sz : sizeLine = 16777216 := by decide
  have lne : ls.map nD ≠ [] := fun z => h0 (List.map_eq_nil_iff.mp z)
  have lle : (ls.map nD).length ≤ 1000 := by rw [List.length_map]; omega
  have pk : ∀ {d : Dt}, d ∈ ls.map nD → ∃ l, Gd l ∧ d = nD l := fun {d} h => by
    obtain ⟨l, hl, rfl⟩ := List.mem_map.mp h
    exact ⟨l, gl l hl, rfl⟩
  refine ⟨by show 0 ≤ sizeLine; decide, rfl, ⟨by omega, by omega, by omega⟩, fun r r0 r1 => ?_⟩
  refine ⟨by omega, by omega, fun j ρ => ∃ (hs : List Hd) (m : Int) (D : List Dt), D = hs.map Hd.t ∧ hs.length = j ∧ (∀ h ∈ hs, h.ok) ∧ (∀ h ∈ hs, ∀ t ∈ h.ls, t.p < z) ∧ (∀ h, hs[0]? = some h → h.ys = []) ∧ m ≤ n + 1 + 30 * j ∧ ρ = [.box m, .dat (.lst (ls.map nD)), .dat (.int (z : Nat)), .dat (.int (c : Nat)), .dat (.bl lr), .hot D, .un, .un, .un, .un, .un], To.of ⟨[], n + 1, [], rfl, rfl, fun h hh => (nomatch hh), fun h hh => (nomatch hh), fun h hh => (nomatch hh), by omega, rfl⟩ (by get_elem_tactic_trivial), ?_, ?_⟩
  · rintro j ρ d hd ⟨hs, m, D, rfl, hj, oh, bh, fh, hm, rfl⟩
    obtain ⟨hj2, rfl⟩ := rng_at hd
    refine ⟨by show 0 ≤ sizeLine; decide, ?_⟩
    refine ⟨by show 4 ≤ sizeLine; decide, rfl, ⟨by omega, by decide, by decide⟩, fun i i0 i1 => ?_⟩
    obtain ⟨v, ev, mv⟩ := atD (xs := [Dt.int 0, .int 0, .int 1, .int 3]) i0 i1
    obtain ⟨y, rfl, y0, y3⟩ : ∃ y : Int, v = .int y ∧ 0 ≤ y ∧ y ≤ 3 := by
      simp only [List.mem_cons, List.mem_nil_iff, or_false] at mv
      rcases mv with rfl | rfl | rfl | rfl
      · exact ⟨_, rfl, by decide, by decide⟩
      · exact ⟨_, rfl, by decide, by decide⟩
      · exact ⟨_, rfl, by decide, by decide⟩
      · exact ⟨_, rfl, by decide, by decide⟩
    refine ⟨_, ev, by omega, by omega, fun k ρ => ∃ (ts : List Tr) (m2 : Int) (D : List Dt), D = ts.map Tr.d ∧ ts.length = k ∧ (∀ t ∈ ts, t.ok 7 ∧ t.p < z) ∧ m2 ≤ m + 1 + 4 * k ∧ ρ = [.box m2, .dat (.lst (ls.map nD)), .dat (.int (z : Nat)), .dat (.int (c : Nat)), .dat (.bl lr), .hot (hs.map Hd.t), .dat (.int (0 + (j : Nat))), .hot D, .un, .un, .un], To.of ⟨[], m + 1, [], rfl, rfl, fun t h => (nomatch h), by omega, rfl⟩ (by get_elem_tactic_trivial), ?_, ?_⟩
    · rintro k ρ d hd ⟨ts, m2, D, rfl, hk, hts, hm2, rfl⟩
      obtain ⟨hk2, rfl⟩ := rng_at hd
      refine ⟨⟨by decide, by decide, by decide⟩, by show 2 ≤ sizeLine; decide, rfl, ⟨by omega, by decide, by decide⟩, fun i2 i20 i21 => ?_⟩
      obtain ⟨v2, ev2, mv2⟩ := atD (xs := [Dt.int 9, .int (10 ^ 6 + 1)]) i20 i21
      obtain ⟨c', rfl, c1', c2'⟩ : ∃ c : Int, v2 = .int c ∧ 0 < c ∧ c ≤ 1000001 := by
        simp only [List.mem_cons, List.mem_nil_iff, or_false] at mv2
        rcases mv2 with rfl | rfl <;> exact ⟨_, rfl, by decide, by decide⟩
      refine ⟨_, ev2, rfl, ⟨by omega, c1', by omega⟩, fun b b0 b1 => ?_⟩
      refine ⟨rfl, ⟨by omega, by omega, by omega⟩, fun p p0 p1 => ⟨rfl, _, _, rfl, by omega, lne, lle, fun e he => ?_⟩⟩
      obtain ⟨l, gl1, rfl⟩ := pk he
      refine ⟨by show 3 ≤ sizeLine; decide, by rw [List.length_map]; exact small6 (by omega), To.of ⟨ts ++ [⟨p.toNat, l, b⟩], m2 + 1 + 1 + 1 + 1, ts.map Tr.d ++ [.tup [.int p, nD l, .int b]], ?_, by rw [List.length_append, hk]; rfl, fun t ht => ?_, by omega, rfl⟩ (by get_elem_tactic_trivial)⟩
      · rw [List.map_append]
        show _ ++ [Dt.tup [.int p, nD l, .int b]] = _ ++ [Dt.tup [.int ((p.toNat : Nat) : Int), nD l, .int b]]
        rw [Int.toNat_of_nonneg p0]
      · rcases List.mem_append.mp ht with z | z
        · exact hts t z
        · rw [List.mem_singleton.mp z]
          exact ⟨⟨by show p.toNat ≤ 7; omega, gl1, b0, by show b ≤ 1000000; omega⟩, by show p.toNat < _; omega⟩
    · rintro ρ ⟨ts, m2, D, rfl, hk, hts, hm2, rfl⟩
      have lts2 : (ts.map Tr.d).length = ts.length := List.length_map ..
      have lts : ts.length ≤ 3 := by rw [hk, rng_len]; omega
      have hk3 : m2 ≤ m + 13 := by rw [← hk] at hm2; omega
      refine ⟨by show 0 ≤ sizeLine; decide, ?_⟩
      show Fs.nx _ [.box m2, .dat (.lst (ls.map nD)), .dat (.int (z : Nat)), .dat (.int (c : Nat)), .dat (.bl lr), .hot (hs.map Hd.t), .dat (.int (0 + (j : Nat))), .hot (ts.map Tr.d), .un, .un, .hot []]
      refine ⟨fun ρ => ∃ (ys : List Tr) (m3 : Int) (D : List Dt), D = ys.map Tr.d ∧ ys.length ≤ 1 ∧ (∀ y ∈ ys, y.ok ts.length) ∧ (j = 0 → ys = []) ∧ m3 ≤ m + 17 ∧ ρ = [.box m3, .dat (.lst (ls.map nD)), .dat (.int (z : Nat)), .dat (.int (c : Nat)), .dat (.bl lr), .hot (hs.map Hd.t), .dat (.int (0 + (j : Nat))), .hot (ts.map Tr.d), .un, .un, .hot D], ?_, ?_⟩
      · have no : ∀ m3 : Int, m3 ≤ m + 17 → To (fun ρ => ∃ (ys : List Tr) (m3 : Int) (D : List Dt), D = ys.map Tr.d ∧ ys.length ≤ 1 ∧ (∀ y ∈ ys, y.ok ts.length) ∧ (j = 0 → ys = []) ∧ m3 ≤ m + 17 ∧ ρ = [.box m3, .dat (.lst (ls.map nD)), .dat (.int (z : Nat)), .dat (.int (c : Nat)), .dat (.bl lr), .hot (hs.map Hd.t), .dat (.int (0 + (j : Nat))), .hot (ts.map Tr.d), .un, .un, .hot D]) [.box m3, .dat (.lst (ls.map nD)), .dat (.int (z : Nat)), .dat (.int (c : Nat)), .dat (.bl lr), .hot (hs.map Hd.t), .dat (.int (0 + (j : Nat))), .hot (ts.map Tr.d), .un, .un, .hot []] := fun m3 h => To.of ⟨[], m3, [], rfl, Nat.zero_le _, fun y hy => (nomatch hy), fun _ => rfl, h, rfl⟩ (by get_elem_tactic_trivial)
        cases lr with
        | false => exact no _ (by omega)
        | true =>
          by_cases j0 : 0 < j
          · refine ifT (decide_eq_true (by omega)) ⟨rfl, ⟨by omega, by decide, by decide⟩, fun t t0 t1 => ?_⟩
            by_cases e : t = 0
            · refine ifT (eqSame e) ?_
              refine ⟨rfl, ⟨by omega, by omega, by omega⟩, fun p p0 p1 => ⟨rfl, _, _, rfl, by omega, lne, lle, fun e he => ?_⟩⟩
              obtain ⟨l, gl1, rfl⟩ := pk he
              refine ⟨rfl, ⟨by omega, by decide, by decide⟩, fun b b0 b1 => ⟨by show 3 ≤ sizeLine; decide, by show 1 ≤ sizeLine; decide, To.of ⟨[⟨p.toNat, l, b⟩], m2 + 1 + 1 + 1 + 1, [.tup [.int p, nD l, .int b]], ?_, Nat.le_refl _, fun y hy => ?_, fun z => by omega, by omega, rfl⟩ (by get_elem_tactic_trivial)⟩⟩
              · show [Dt.tup [.int p, nD l, .int b]] = [Dt.tup [.int ((p.toNat : Nat) : Int), nD l, .int b]]
                rw [Int.toNat_of_nonneg p0]
              · rw [List.mem_singleton.mp hy]
                have b1 : b < 99 := b1
                exact ⟨by show p.toNat ≤ _; omega, gl1, b0, by show b ≤ 1000000; omega⟩
            · exact ifF (eqDiff e) (no _ (by omega))
          · exact ifF (decide_eq_false (by omega)) (no _ (by omega))
      rintro ρ ⟨ys, m3, D, rfl, ly1, oy, y0, hm3, rfl⟩
      refine ⟨⟨by decide, by decide, by decide⟩, by show 2 ≤ sizeLine; decide, rfl, ⟨by omega, by decide, by decide⟩, fun i2 i20 i21 => ?_⟩
      obtain ⟨v2, ev2, mv2⟩ := atD (xs := [Dt.int 9, .int (10 ^ 6 + 1)]) i20 i21
      obtain ⟨c', rfl, c1', c2'⟩ : ∃ c : Int, v2 = .int c ∧ 0 < c ∧ c ≤ 1000001 := by
        simp only [List.mem_cons, List.mem_nil_iff, or_false] at mv2
        rcases mv2 with rfl | rfl <;> exact ⟨_, rfl, by decide, by decide⟩
      refine ⟨_, ev2, rfl, ⟨by omega, c1', by omega⟩, fun b b0 b1 => ?_⟩
      refine ⟨rfl, _, _, rfl, by omega, lne, lle, fun e he => ?_⟩
      obtain ⟨l, gl1, rfl⟩ := pk he
      have b1 : b < c' := b1
      refine ⟨by show 4 ≤ sizeLine; decide, by rw [List.length_map]; omega, To.of ⟨hs ++ [⟨l, b, ts, ys⟩], m3 + 1 + 1 + 1, hs.map Hd.t ++ [.tup [nD l, .int b, .tup (ts.map Tr.d), .tup (ys.map Tr.d)]], ?_, by rw [List.length_append, hj]; rfl, fun h hh => ?_, fun h hh => ?_, fun h hh => ?_, by omega, rfl⟩ (by get_elem_tactic_trivial)⟩
      · rw [List.map_append]
        rfl
      · rcases List.mem_append.mp hh with z | z
        · exact oh h z
        · rw [List.mem_singleton.mp z]
          exact ⟨gl1, b0, by show b ≤ 1000000; omega, lts, by show ys.length ≤ 4; omega, fun t ht => (hts t ht).1, oy, fun i x y hx hy => by
            have h1 := (List.getElem?_eq_some_iff.mp hy).1
            have h2 : i + 1 < ys.length := h1
            omega⟩
      · rcases List.mem_append.mp hh with z | z
        · exact bh h z
        · rw [List.mem_singleton.mp z]
          exact fun t ht => (hts t ht).2
      · cases hs with
        | cons g gs => exact fh h hh
        | nil =>
          cases hh
          exact y0 (by rw [← hj]; rfl)
  · rintro ρ ⟨hs, m, D, rfl, hj, oh, bh, fh, hm, rfl⟩
    rw [rng_len] at hj hm
    have hn0 : hs ≠ [] := fun z => by rw [z] at hj; simp at hj; omega
    exact q hs m ⟨hn0, by omega, oh, bh, fh⟩ (by omega) (by omega)
end
section
variable {P : Program} {w : World} {K : PySem.W.Frag} {mg : Str → Option Value} {base : Heap}
local macro_rules | `(tactic| get_elem_tactic_trivial) => `(tactic| (repeat first | exact Wk.nil | exact Wk'.nil | refine Wk.same ?_ | refine Wk'.same ?_ | refine Wk.un (fun _ z => nomatch z) ?_ | refine Wk'.un ?_))
/-! the rows of all hands -/
def sts : List Hd → List (List Rw)
  | [] => []
  | [h] => [nts h none]
  | h :: g :: hs => nts h (some g) :: sts (g :: hs)
theorem sts_len : ∀ hs : List Hd, (sts hs).length = hs.length
  | [] => rfl
  | [h] => rfl
  | h :: g :: hs => by
    show (sts (g :: hs)).length + 1 = _
    rw [sts_len (g :: hs)]
    rfl
theorem sts_at : ∀ (hs : List Hd) (i : Nat) (h : Hd), hs[i]? = some h → (sts hs)[i]? = some (nts h hs[i + 1]?)
  | [h], 0, x, e => by
    cases e
    rfl
  | [h], i + 1, x, e => by simp at e
  | h :: g :: hs, 0, x, e => by
    cases e
    rfl
  | h :: g :: hs, i + 1, x, e => sts_at (g :: hs) i x e
theorem nxt_at : ∀ (hs : List Hd) (i : Nat), i < hs.length → ((hs.drop 1).map Hd.t ++ [Dt.non])[i]? = some (oHt hs[i + 1]?)
  | [], i, h => by simp at h
  | h :: t, i, hi => by
    show (t.map Hd.t ++ [Dt.non])[i]? = some (oHt t[i]?)
    by_cases hl : i < t.length
    · rw [List.getElem?_append_left (by rw [List.length_map]; exact hl), List.getElem?_map, List.getElem?_eq_getElem hl]
      rfl
    · have e : i = t.length := by
        have : i < t.length + 1 := hi
        omega
      subst e
      rw [List.getElem?_append_right (by rw [List.length_map]; exact Nat.le_refl _), List.length_map, Nat.sub_self, List.getElem?_eq_none (Nat.le_refl _)]
      rfl
def wStarts33 : List Sl → (List Dt → List Sl → Prop) → Prop := fun ps Ψ => ∃ hs : List Hd, ps = [.dat (.lst (hs.map Hd.t))] ∧ (∀ h ∈ hs, h.ok) ∧ hs.length ≤ 6 ∧ Ψ ((sts hs).map fun rs => .lst (rs.map Rw.d)) ps
theorem okLStartRows (T : Tx K mg) : FnOk P w K mg base CX0 3 (He.ga K "_law_start_rows") T.fdLStartRows ["_law_hands_here"] (spN K 1 wStarts33) := by
  have B := T.B
  have GLHandRows : FnOk P w K mg base CX0 2 (He.ga K "_law_hand_rows") T.fdLHandRows ["_law_hand", "_law_behind"] (spN K 2 wHr) := okLHandRows T
  have bLHandRows := T.bLHandRows
  refine T.FLStartRows.ok scLStartRows (fun vs H Q E h => h.1) (fun cdv A outer s H vs Q E hr h => ?_)
  refine ⟨_, PSs.nox (pss_one (ps_ret (pe_lc (own := [("_law_hand", 1), ("_law_behind", 2)]) (g := gTup K 2 (gCons (gName 1) (gCons (gName 2) gNil))) (tt := tYes) (by rfl) scLStartRows.nd (show PI _ _ _ (iZipB K _) from (RZ.pi_zipA (by rfl) B.b_zip (pa_cons (pv 0) (pa_cons (pe_op op_cat (pe_callTy (show CallR _ _ (cList K) from call_list_of) (by rfl) B.b_list PyProof.Rows.boot_list (pa_cons (pe_slice (show SlR _ (rSlL K) from sl_list) (pv 0) (po_some pe_int) po_none) pa_nil)) (pe_lst (pa_cons pe_non pa_nil))) pa_nil)))) (blkOk_by (own := [("_law_hand", 1), ("_law_behind", 2)]) (N := ["_law_hands_here", "_law_hand", "_law_behind"]) (sc := defScope sLStartRows) (by decide +kernel)) (fun _ _ _ _ _ => by exact (show PG _ _ (gTup K 2 _) from pg_tup rfl (pgs_cons (pg_name (i := 1) scLStartRows.nd rfl (Or.inl rfl)) (pgs_cons (pg_name (i := 2) scLStartRows.nd rfl (Or.inl rfl)) pgs_nil)))) (fun _ _ _ _ _ => pts_nil) (fun _ _ _ _ _ => (pe_call GLHandRows (hr.mono (by decide)) (by rfl) T.gLHandRows T.FLHandRows.kp bLHandRows .nil pass0 (pa_cons (pv 1) (pa_cons (pv 2) pa_nil))))))), ?_⟩
  refine bodyD h (fun ps Ψ hw hl => ?_)
  obtain ⟨hs, rfl, oh, h6, q⟩ := hw
  have sz : sizeLine = 16777216 := by decide
  have ec : cutD (hs.map Hd.t) (some 1) none ++ [Dt.non] = ((hs.drop 1).map Hd.t) ++ [.non] := by
    rw [cut_drop (by decide), List.map_drop]
    rfl
  have el : (cutD (hs.map Hd.t) (some 1) none).length ≤ 6 := by
    rw [cut_drop (by decide), List.length_drop, List.length_map]
    omega
  refine ⟨by show 1 ≤ sizeLine; decide, by show _ + 1 ≤ _; omega, ⟨rfl, rfl⟩, fun j acc ρ => acc = ((sts hs).take j).map (fun rs => Dt.lst (rs.map Rw.d)) ∧ ρ = [.dat (.lst (hs.map Hd.t)), .un, .un], ⟨rfl, rfl⟩, ?_, ?_⟩
  · rintro j acc ρ d hd ⟨rfl, rfl⟩
    rw [ec] at hd
    obtain ⟨x, y, hx, hy, rfl⟩ := zipD_at hd
    rw [List.getElem?_map] at hx
    obtain ⟨h, hh, rfl⟩ := Option.map_eq_some_iff.mp hx
    have hlt := (List.getElem?_eq_some_iff.mp hh).1
    rw [nxt_at hs j hlt] at hy
    have ey := Option.some.inj hy
    subst ey
    have e1 := sts_at hs j h hh
    refine ⟨rfl, rfl, h, hs[j + 1]?, rfl, oh h (List.mem_of_getElem? hh), fun g e => oh g (List.mem_of_getElem? e), rfl, by rw [List.length_map, List.length_take]; omega, ?_, rfl⟩
    rw [take_at e1, List.map_append]
    rfl
  · rintro acc ρ ⟨rfl, rfl⟩
    refine ⟨rfl, ?_⟩
    have e2 : (zipD (hs.map Hd.t) (cutD (hs.map Hd.t) (some 1) none ++ [Dt.non])).length = (sts hs).length := by
      rw [zipD_len, sts_len, ec, List.length_append, List.length_map, List.length_map, List.length_drop]
      show min hs.length (hs.length - 1 + 1) = _
      omega
    rw [e2, List.take_length]
    exact q
end
section
variable {P : Program} {w : World} {K : PySem.W.Frag} {mg : Str → Option Value} {base : Heap}
local macro_rules | `(tactic| get_elem_tactic_trivial) => `(tactic| (repeat first | exact Wk.nil | exact Wk'.nil | refine Wk.same ?_ | refine Wk'.same ?_ | refine Wk.un (fun _ z => nomatch z) ?_ | refine Wk'.un ?_))
/-! a machine's setting -/
structure Wd where
  ls : List (List Nat)
  nm : List Nat
  key : Int
  w : Option Int
  f : Int
  z : Nat
  k : Int
  hs : List Hd
structure Wd.ok (W : Wd) : Prop where
  lg : ∀ l ∈ W.ls, Gd l
  ln : W.ls ≠ []
  l6 : W.ls.length ≤ 100
  g : Gd W.nm
  k0 : 0 ≤ W.key
  k1 : W.key ≤ 1000000
  om : OkMix W.w W.f
  z1 : 1 ≤ W.z
  z8 : W.z ≤ 8
  f0 : 0 ≤ W.k
  f1 : W.k ≤ W.z
  hs : HandsOk W.hs W.z
abbrev WK : List Key := [.inr "name", .inr "key", .inr "how", .inr "size", .inr "kept", .inr "hands", .inr "names"]
def Wd.ds (W : Wd) : List Dt := [nD W.nm, .int W.key, howD W.w W.f, .int (W.z : Nat), .int W.k, .lst (W.hs.map Hd.t), .lst (W.ls.map nD)]
def Wd.d (W : Wd) : Dt := .dic WK W.ds
theorem mrg4 {a b c d : Dt} : mrgK [] [] [.inr "name", .inr "key", .inr "how", .inr "size"] [a, b, c, d] = ([.inr "name", .inr "key", .inr "how", .inr "size"], [a, b, c, d]) := rfl
theorem mrg3 {a b c : Dt} : mrgK [] [] [.inr "kept", .inr "hands", .inr "names"] [a, b, c] = ([.inr "kept", .inr "hands", .inr "names"], [a, b, c]) := rfl
theorem mrg7 {a b c d x y z : Dt} : mrgK [.inr "name", .inr "key", .inr "how", .inr "size"] [a, b, c, d] [.inr "kept", .inr "hands", .inr "names"] [x, y, z] = (WK, [a, b, c, d, x, y, z]) := rfl
def wWorld33 : W3F := fun ps μ Ψ _ => ∃ (n : Int) (lr : Bool), ps = [.box n, .dat (.bl lr)] ∧ μ = [] ∧ n < 600000000 ∧ ∀ (W : Wd) (m : Int) (x : Addr), W.ok → m ≤ n + 300 → Ψ (.dat (.adr x)) [.box m, .dat (.bl lr)] [(x, .fl (.dic WK W.ds))]
theorem okLWorld (T : Tx K mg) : FnOk P w K mg base CX0 5 (He.ga K "_law_world") T.fdLWorld ["_law_box_here", "_law_liars"] (sp3 K 2 wWorld33) := by
  have B := T.B
  have GLHands : FnOk P w K mg base CX0 3 (He.ga K "_law_hands") T.fdLHands ["_law_box_here", "_law_names_here", "_law_size", "_law_count", "_law_liars"] (spN K 5 wHands33) := okLHands T
  have bLHands := T.bLHands
  have GLNames : FnOk P w K mg base CX0 2 (He.ga K "_law_names") T.fdLNames ["_law_box_here", "_law_size"] (spN K 2 wNames) := okLNames T
  have bLNames := T.bLNames
  have GLTake : FnOk P w K mg base CX0 1 (He.ga K "_law_take") T.fdLTake ["_law_box_here", "_law_size"] (spD K 2 wTake) := okTakeD T
  have bLTake := T.bLTake
  have GLHow : FnOk P w K mg base CX0 2 (He.ga K "_law_how") T.fdLHow ["_law_box_here"] (spD K 1 wHow) := okLHow T
  have bLHow := T.bLHow
  refine T.FLWorld.ok scLWorld (fun vs H Q E h => h.1) (fun cdv A outer s H vs Q E hr h => ?_)
  refine ⟨_, PSs.nox (pss_cons (ps_par (i := 2) (j := 3) (by rfl) scLWorld.nd rfl rfl (by decide) rfl rfl (pa_cons (pe_call GLNames (hr.mono (by decide)) (by rfl) T.gLNames T.FLNames.kp bLNames .nil pass0 (pa_cons (pv 0) (pa_cons pe_int pa_nil))) (pa_cons (pe_op op_add pe_int (pe_call GLTake (hr.mono (by decide)) (by rfl) T.gLTake T.FLTake.kp bLTake .nil pass0 (pa_cons (pv 0) (pa_cons pe_int pa_nil)))) pa_nil)) (by rfl))
        (pss_cons (ps_set (i := 4) scLWorld.nd rfl (.inl rfl) (peCool3 (peNew3 (pe_call GLHands (hr.mono (by decide)) (by rfl) T.gLHands T.FLHands.kp bLHands .nil pass0 (pa_cons (pv 0) (pa_cons (pv 2) (pa_cons (pv 3) (pa_cons pe_int (pa_cons (pv 1) pa_nil)))))))))
        (pss_cons (ps_set (i := 5) scLWorld.nd rfl (.inl rfl) (asPE (tDisp _) (pe_disp (pps_cons pe_str (pe_ix (show IxR _ (rIx K) from ix_seq) (pv 2) pe_int (fun _ _ => rfl)) (pps_cons pe_str (pe_call GLTake (hr.mono (by decide)) (by rfl) T.gLTake T.FLTake.kp bLTake .nil pass0 (pa_cons (pv 0) (pa_cons (pe_op op_add (pe_op op_pow pe_int pe_int) pe_int) pa_nil))) (pps_cons pe_str (pe_call GLHow (hr.mono (by decide)) (by rfl) T.gLHow T.FLHow.kp bLHow .nil pass0 (pa_cons (pv 0) pa_nil)) (pps_cons pe_str (pv 3) pps_nil)))) rfl rfl (by simp) (by decide))))
        (pss_cons (ps_expr (asPE (tBM K "dict" rDUpd _ _) ((pe_bm PySem.F.plainAttrs_dict PySem.F.slot_dict_update PySem.F.type_dict_update mtd_update (pv 5) (pa_cons (asPE (tDisp _) (pe_disp (pps_cons pe_str (pe_call GLTake (hr.mono (by decide)) (by rfl) T.gLTake T.FLTake.kp bLTake .nil pass0 (pa_cons (pv 0) (pa_cons (pe_op op_add (pv 3) pe_int) pa_nil))) (pps_cons pe_str (pv 4) (pps_cons pe_str (pv 2) pps_nil))) rfl rfl (by simp) (by decide))) pa_nil)))))
        (pss_one (ps_ret (pv 5))))))), ?_⟩
  refine body3 h (fun ps μ Ψ Ξ hw hl => ?_)
  obtain ⟨n, lr, rfl, rfl, hn, q⟩ := hw
  refine ⟨rfl, n, 6, rfl, by omega, by decide, by decide, fun ls m1 gl l6 hm1 => ⟨rfl, ⟨by omega, by decide, by decide⟩, fun r r0 r1 => ?_⟩⟩
  obtain ⟨j, rfl⟩ : ∃ j : Nat, r = (j : Int) := ⟨r.toNat, by omega⟩
  have j8 : j < 8 := by
    have : (j : Int) < 8 := r1
    omega
  have ln : ls ≠ [] := fun z => by rw [z] at l6; simp at l6
  refine ⟨rfl, _, ls, 1 + j, 6, lr, rfl, by omega, gl, ln, by omega, by omega, by omega, by decide, by decide, fun hs m2 ok h6 hm2 x0 => ⟨.lst (hs.map Hd.t), _, .refl _, ?_⟩⟩
  obtain ⟨nm, e0⟩ : ∃ nm, ls[0]? = some nm := ⟨_, List.getElem?_eq_getElem (by omega)⟩
  refine ⟨nD nm, atI_nat (j := 0) (by rw [List.getElem?_map, e0]; rfl), ?_⟩
  refine ⟨⟨by decide, by decide, by decide⟩, rfl, ⟨by omega, by decide, by decide⟩, fun key k0 k1 => ?_⟩
  have k1 : key < 1000001 := k1
  refine ⟨rfl, _, rfl, by omega, fun w f m3 om hm3 => ?_⟩
  refine ⟨_, rfl, _, rfl, _, rfl, _, rfl, by decide, [.inr "name", .inr "key", .inr "how", .inr "size"], [nD nm, .int key, howD w f, .int ((1 + j : Nat) : Int)], mrg4, fun x => ?_⟩
  refine ⟨⟨x, 0, _, _, rfl, rfl⟩, rfl, ⟨by omega, by omega, by omega⟩, fun kp kp0 kp1 => ?_⟩
  refine ⟨_, rfl, _, rfl, _, rfl, by decide, [.inr "kept", .inr "hands", .inr "names"], [.int kp, .lst (hs.map Hd.t), .lst (ls.map nD)], mrg3, fun y => ?_⟩
  refine ⟨x, y, [], [], _, _, _, _, rfl, rfl, Ent.keep (is := [1, 0]) rfl, by decide, WK, [nD nm, .int key, howD w f, .int ((1 + j : Nat) : Int), .int kp, .lst (hs.map Hd.t), .lst (ls.map nD)], mrg7, ?_⟩
  have g0 := gl nm (List.mem_of_getElem? e0)
  have kp2 : kp ≤ ((1 + j : Nat) : Int) := by omega
  exact ⟨_, .refl _, q ⟨ls, nm, key, w, f, 1 + j, kp, hs⟩ _ x ⟨gl, ln, by show ls.length ≤ 100; omega, g0, k0, by show key ≤ 1000000; omega, om, by show 1 ≤ 1 + j; omega, by show 1 + j ≤ 8; omega, kp0, kp2, ok⟩ (by omega)⟩

end
section
variable {P : Program} {w : World} {K : PySem.W.Frag} {mg : Str → Option Value} {base : Heap}
local macro_rules | `(tactic| get_elem_tactic_trivial) => `(tactic| (repeat first | exact Wk.nil | exact Wk'.nil | refine Wk.same ?_ | refine Wk'.same ?_ | refine Wk.un (fun _ z => nomatch z) ?_ | refine Wk'.un ?_))
/-! the machine of a setting -/
def Wd.m (W : Wd) : Mst := ⟨W.nm, W.key, W.w, W.f, W.z, W.k, W.hs, [], none, 0, []⟩
theorem Wd.ok.m {W : Wd} (h : W.ok) : W.m.ok := ⟨h.g, h.k0, h.k1, h.om, h.z1, h.z8, h.f0, h.f1, h.hs.hn, h.hs.h6, h.hs.ho, h.hs.hb, h.hs.hl, Nat.zero_le _, fun h hh => (nomatch hh), fun h hh => (nomatch hh), fun p e => (by cases e), Int.le_refl _, by show (0 : Int) ≤ 100000; decide, fun h hh => (nomatch hh), Nat.zero_le _⟩
abbrev WK6 : List Key := [.inr "name", .inr "key", .inr "how", .inr "size", .inr "kept", .inr "hands"]
def Wd.ds6 (W : Wd) : List Dt := [nD W.nm, .int W.key, howD W.w W.f, .int (W.z : Nat), .int W.k, .lst (W.hs.map Hd.t)]
def WKb : Bool → List Key
  | true => WK
  | false => WK6
def Wd.dsb (W : Wd) : Bool → List Dt
  | true => W.ds
  | false => W.ds6
def Wd.db (W : Wd) (b : Bool) : Dt := .dic (WKb b) (W.dsb b)
section
variable {W : Wd} {b : Bool}
theorem wkName : getK (WKb b) (W.dsb b) (.inr "name") = some (nD W.nm) := by cases b <;> rfl
theorem wkKey : getK (WKb b) (W.dsb b) (.inr "key") = some (.int W.key) := by cases b <;> rfl
theorem wkHow : getK (WKb b) (W.dsb b) (.inr "how") = some (howD W.w W.f) := by cases b <;> rfl
theorem wkSize : getK (WKb b) (W.dsb b) (.inr "size") = some (.int (W.z : Nat)) := by cases b <;> rfl
theorem wkKept : getK (WKb b) (W.dsb b) (.inr "kept") = some (.int W.k) := by cases b <;> rfl
theorem wkHands : getK (WKb b) (W.dsb b) (.inr "hands") = some (.lst (W.hs.map Hd.t)) := by cases b <;> rfl
end
def wMade33 : W3F := fun ps μ Ψ _ => ∃ (W : Wd) (b : Bool), ps = [.dat (W.db b)] ∧ μ = [] ∧ W.ok ∧ ∀ x, Ψ (.dat (.adr x)) ps [(x, .pk (mcI W.m))]
theorem Tx.kbMachineInit_4_mixing_many_fixed {K : PySem.W.Frag} {mg : Str → Option Value} (T : Tx K mg) : ∃ g : List Value → List Value → List Value, KBn K T.fdMachineInit ["self", "name", "key", "hands", "mixing", "many", "fixed"] 4 ["mixing", "many", "fixed"] g (gB [0, 1, 2, 3, 4, 5, 6] []) := kbKw T.FMachineInit 4 ["mixing", "many", "fixed"] [0, 1, 2, 3, 4, 5, 6] [] (by simp) (by simp) fun D doc pm an cdv ct us mv ws h1 h2 h3 => match us, mv, ws, h1, h2, h3 with
  | [u0, u1, u2, u3], [], [w0, w1, w2], _, _, _ => rfl
theorem okLMade (T : Tx K mg) : FnOk P w K mg base CX0 8 (He.ga K "_law_made") T.fdLMade ["_law_w"] (sp3 K 1 wMade33) := by
  have B := T.B
  have GMixingInit : FnOk P w K mg base CX0 3 (He.ma K (He.ga K "Mixing") "__init__") T.fdMixingInit ["self", "width", "factor"] (spIni K "Mixing" ["width", "factor"] okMixD) := OlN.okMixingD T
  have GMachineInit : FnOk P w K mg base CX0 6 (He.ma K (He.ga K "Machine") "__init__") T.fdMachineInit ["self", "name", "key", "hands", "mixing", "many", "fixed"] (sp3 K 7 wMcInit) := okMachineInit T
  have GLMadeHand : FnOk P w K mg base CX0 7 (He.ga K "_law_made_hand") T.fdLMadeHand ["_law_hand"] (spD K 1 wMadeHand) := okLMadeHand T
  have bLMadeHand := T.bLMadeHand
  obtain ⟨_, _, kMixingInit_1_factor⟩ := mk2 T
  obtain ⟨_, kbMachineInit_4_mixing_many_fixed⟩ := T.kbMachineInit_4_mixing_many_fixed
  refine T.FLMade.ok scLMade (fun vs H Q E h => h.1) (fun cdv A outer s H vs Q E hr h => ?_)
  refine ⟨_, PSs.nox (pss_cons (ps_par (i := 1) (j := 2) (by rfl) scLMade.nd rfl rfl (by decide) rfl rfl (pa_cons (asPE (tDGet _ _) (pe_dget (Nat.lt_of_le_of_lt (Nat.add_le_add_left (by decide : 1 ≤ 64) _) hr.units) (pv 0) pe_str (fun _ _ => rfl))) (pa_cons (pe_lc (own := [("_law_hand", 3)]) (g := gName 3) (tt := tYes) (by rfl) scLMade.nd (piAny (K := K) rfl (asPE (tDGet _ _) (pe_dget (Nat.lt_of_le_of_lt (Nat.add_le_add_left (by decide : 1 ≤ 64) _) hr.units) (pv 0) pe_str (fun _ _ => rfl)))) (blkOk_by (own := [("_law_hand", 3)]) (N := ["_law_w", "_law_how_here", "_law_hands_here", "_law_hand", "_law_blend"]) (sc := defScope sLMade) (by decide +kernel)) (fun _ _ _ _ _ => by exact (pg_name (i := 3) scLMade.nd rfl (Or.inl rfl))) (fun _ _ _ _ _ => pts_nil) (fun _ _ _ _ _ => (pe_call GLMadeHand (hr.mono (by decide)) (by rfl) T.gLMadeHand T.FLMadeHand.kp bLMadeHand .nil pass0 (pa_cons (pv 3) pa_nil)))) pa_nil)) (by rfl))
        (pss_cons (ps_set (i := 4) scLMade.nd rfl (.inl rfl) (pe_makeK T.mkMixing GMixingInit (hr.mono (by decide)) (by rfl) T.gMixing kMixingInit_1_factor pass0 (pa_cons (pe_ix (show IxR _ (rIx K) from ix_seq) (pv 1) pe_int (fun _ _ => rfl)) pa_nil) (pk_cons (pe_ix (show IxR _ (rIx K) from ix_seq) (pv 1) pe_int (fun _ _ => rfl)) pk_nil)))
        (pss_one (ps_ret (asPE (tMake3 _ 3 3 _ _ _ _ _) (pe_make3 (ks := ["mixing", "many", "fixed"]) T.mkMachine GMachineInit (hr.mono (by decide)) (by rfl) T.gMachine kbMachineInit_4_mixing_many_fixed (pass0S (fun cls d _ H => E cls d H)) (pa_cons (asPE (tDGet _ _) (pe_dget (Nat.lt_of_le_of_lt (Nat.add_le_add_left (by decide : 1 ≤ 64) _) hr.units) (pv 0) pe_str (fun _ _ => rfl))) (pa_cons (asPE (tDGet _ _) (pe_dget (Nat.lt_of_le_of_lt (Nat.add_le_add_left (by decide : 1 ≤ 64) _) hr.units) (pv 0) pe_str (fun _ _ => rfl))) (pa_cons (pv 2) pa_nil))) (pk_cons (pv 4) (pk_cons (asPE (tDGet _ _) (pe_dget (Nat.lt_of_le_of_lt (Nat.add_le_add_left (by decide : 1 ≤ 64) _) hr.units) (pv 0) pe_str (fun _ _ => rfl))) (pk_cons (asPE (tDGet _ _) (pe_dget (Nat.lt_of_le_of_lt (Nat.add_le_add_left (by decide : 1 ≤ 64) _) hr.units) (pv 0) pe_str (fun _ _ => rfl))) pk_nil))))))))), ?_⟩
  refine body3 h (fun ps μ Ψ Ξ hw hl => ?_)
  obtain ⟨W, b, rfl, rfl, ok, q⟩ := hw
  have sz : sizeLine = 16777216 := by decide
  have hs := ok.hs
  have h6 := hs.h6
  refine ⟨WKb b, W.dsb b, .inr "how", howD W.w W.f, .cold, rfl, wkHow, ?_⟩
  refine ⟨WKb b, W.dsb b, .inr "hands", .lst (W.hs.map Hd.t), .cold, rfl, wkHands, ?_⟩
  refine ⟨⟨rfl, rfl⟩, fun j acc ρ μ => acc = ((W.hs.take j).map Hd.d) ∧ ρ = [.dat (W.db b), .un, .un, .un, .un] ∧ μ = [], ⟨rfl, rfl, rfl⟩, ?_, ?_⟩
  · rintro j acc ρ μ d hd ⟨rfl, rfl, rfl⟩
    rw [List.getElem?_map] at hd
    obtain ⟨h, hh, rfl⟩ := Option.map_eq_some_iff.mp hd
    have hlt := (List.getElem?_eq_some_iff.mp hh).1
    refine ⟨rfl, h, rfl, hs.ho h (List.mem_of_getElem? hh), rfl, by rw [List.length_map, List.length_take]; omega, ?_, rfl, rfl⟩
    rw [take_at hh, List.map_append]
    rfl
  · rintro acc ρ μ ⟨rfl, rfl, rfl⟩
    rw [List.length_map, List.take_length]
    refine ⟨rfl, wDt W.w, rfl, _, rfl, ⟨rfl, rfl, ⟨W.w, W.f, ok.om, rfl⟩, rfl, rfl⟩, ?_⟩
    refine ⟨WKb b, W.dsb b, .inr "name", nD W.nm, .cold, rfl, wkName, WKb b, W.dsb b, .inr "key", .int W.key, .cold, rfl, wkKey, WKb b, W.dsb b, .inr "size", .int (W.z : Nat), .cold, rfl, wkSize, WKb b, W.dsb b, .inr "kept", .int W.k, .cold, rfl, wkKept, ?_⟩
    exact ⟨⟨rfl, rfl⟩, "Machine", rfl, fun x => ⟨rfl, [], [], .refl _, x, W.m, rfl, rfl, ok.m, rfl, rfl, rfl, rfl, _, .refl _, q x⟩⟩
end
section
variable {P : Program} {w : World} {K : PySem.W.Frag} {mg : Str → Option Value} {base : Heap}
local macro_rules | `(tactic| get_elem_tactic_trivial) => `(tactic| (repeat first | exact Wk.nil | exact Wk'.nil | refine Wk.same ?_ | refine Wk'.same ?_ | refine Wk.un (fun _ z => nomatch z) ?_ | refine Wk'.un ?_))
/-! what a machine tells is what is due -/
theorem nice_mcs (M : Mst) : Nice 0 10 (.str (mcs M)) := by
  have h : ∀ x : Str, (x = Str.ofString "off" ∨ x = Str.ofString "going" ∨ x = Str.ofString "up") → Nice 0 10 (.str x) := fun x h => by
    have h2 : PyData.strOk x = true ∧ x.cps.size ≤ 5 := by rcases h with rfl | rfl | rfl <;> decide +kernel
    exact (nice_word h2.1 h2.2).mono (by decide) (by decide)
  refine h _ ?_
  cases hp : M.pl with
  | none => exact .inl (mcs_off hp)
  | some p =>
    by_cases l : p < M.wk.length
    · exact .inr (.inl (mcs_going hp l))
    · exact .inr (.inr (mcs_up hp (by omega)))
theorem nice_nums54 {n : Nat} {vs : List Int} (hv : ∀ v ∈ vs, 0 ≤ v ∧ v ≤ big 54) (l : vs.length ≤ n) : Nice 1 n (.lst (vs.map .int)) := by
  refine (nice_lst (n := 0) (b := 0) fun d hd => ?_).mono (Nat.le_refl _) (by rw [List.length_map]; omega)
  obtain ⟨v, m, rfl⟩ := List.mem_map.mp hd
  refine nice_int ?_
  obtain ⟨v0, v1⟩ := hv v m
  have h2 : big 54 < 2 ^ 1899 := by decide +kernel
  have h3 : v < 2 ^ 1899 := Int.lt_of_le_of_lt v1 h2
  have h4 : v.natAbs < 2 ^ 1899 := by
    have : ((2 ^ 1899 : Nat) : Int) = 2 ^ 1899 := by norm_cast
    omega
  exact Nat.lt_of_lt_of_le h4 (Nat.pow_le_pow_right (by decide) (by decide))
def wStands33 : W3F := fun ps μ Ψ _ => ∃ (a : Addr) (W : Wd) (M : Mst) (s : Str) (t : Int) (rs : List Rw) (b : Bool), ps = [.dat (.adr a), .dat (W.db b), .dat (.str s), .dat (.int t), .dat (.lst (rs.map Rw.d))] ∧ μ = [(a, .pk (mcI M))] ∧ W.ok ∧ M.w = W.w ∧ M.f = W.f ∧ M.m = W.z ∧ mcs M = s ∧ M.st = t ∧ M.xs = rs ∧ rs.length ≤ 54 ∧ (∀ x ∈ rs, x.ok ∧ x.b < W.z) ∧ t ≤ 100000 ∧ 0 ≤ t ∧ Ψ (.dat (.bl true)) ps μ
theorem Tx.kbLReplay_3 {K : PySem.W.Frag} {mg : Str → Option Value} (T : Tx K mg) : ∃ g : List Value → List Value → List Value, KBn K T.fdLReplay ["_law_how_here", "_law_rows", "_law_size"] 3 [] g (gB [0, 1, 2] []) := kbAllN T.FLReplay 3 [] [0, 1, 2] fun kV doc pm an cdv ct us ws h1 h2 => match us, ws, h1, h2 with
  | [u0, u1, u2], [], _, _ => rfl
theorem Tx.kbLSame_2 {K : PySem.W.Frag} {mg : Str → Option Value} (T : Tx K mg) : ∃ g : List Value → List Value → List Value, KBn K T.fdLSame ["_law_found", "_law_due"] 2 [] g (gB [0, 1] []) := kbAllN T.FLSame 2 [] [0, 1] fun kV doc pm an cdv ct us ws h1 h2 => match us, ws, h1, h2 with
  | [u0, u1], [], _, _ => rfl
theorem Tx.kbMachineBoards_1 {K : PySem.W.Frag} {mg : Str → Option Value} (T : Tx K mg) : ∃ g : List Value → List Value → List Value, KBn K T.fdMachineBoards ["self"] 1 [] g (gB [0] []) := kbAllN T.FMachineBoards 1 [] [0] fun kV doc pm an cdv ct us ws h1 h2 => match us, ws, h1, h2 with
  | [u0], [], _, _ => rfl
theorem Tx.kbMachineLog_1 {K : PySem.W.Frag} {mg : Str → Option Value} (T : Tx K mg) : ∃ g : List Value → List Value → List Value, KBn K T.fdMachineLog ["self"] 1 [] g (gB [0] []) := kbAllN T.FMachineLog 1 [] [0] fun kV doc pm an cdv ct us ws h1 h2 => match us, ws, h1, h2 with
  | [u0], [], _, _ => rfl
theorem Tx.kbMachineStarts_1 {K : PySem.W.Frag} {mg : Str → Option Value} (T : Tx K mg) : ∃ g : List Value → List Value → List Value, KBn K T.fdMachineStarts ["self"] 1 [] g (gB [0] []) := kbAllN T.FMachineStarts 1 [] [0] fun kV doc pm an cdv ct us ws h1 h2 => match us, ws, h1, h2 with
  | [u0], [], _, _ => rfl
theorem okLStands (T : Tx K mg) : FnOk P w K mg base CX0 8 (He.ga K "_law_stands") T.fdLStands ["_law_machine", "_law_w", "_law_state", "_law_starts", "_law_rows"] (sp3 K 5 wStands33) := by
  have B := T.B
  have GLSame : FnOk P w K mg base CX0 6 (He.ga K "_law_same") T.fdLSame ["_law_found", "_law_due"] _ := FnOk.up3 (okSameD T 6)
  have bLSame := T.bLSame
  have GMachineState : FnOk P w K mg base CX0 1 (He.ma K (He.ga K "Machine") "state") T.fdMachineState ["self"] (sp3 K 1 wMcState) := okMachineState T
  have bMachineState := T.bMachineState
  have GMachineStarts : FnOk P w K mg base CX0 1 (He.ma K (He.ga K "Machine") "starts") T.fdMachineStarts ["self"] (sp3 K 1 wMcStarts) := okMachineStarts T
  have bMachineStarts := T.bMachineStarts
  have GMachineLog : FnOk P w K mg base CX0 1 (He.ma K (He.ga K "Machine") "log") T.fdMachineLog ["self"] (sp3 K 1 wMcLog) := okMachineLog T
  have bMachineLog := T.bMachineLog
  have GMachineBoards : FnOk P w K mg base CX0 1 (He.ma K (He.ga K "Machine") "boards") T.fdMachineBoards ["self"] (sp3 K 1 wMcBoards) := okMachineBoards T
  have bMachineBoards := T.bMachineBoards
  have GLReplay : FnOk P w K mg base CX0 4 (He.ga K "_law_replay") T.fdLReplay ["_law_how_here", "_law_rows", "_law_size"] _ := FnOk.up3 (okLReplay T)
  have bLReplay := T.bLReplay
  obtain ⟨_, kbLReplay_3⟩ := T.kbLReplay_3
  obtain ⟨_, kbLSame_2⟩ := T.kbLSame_2
  obtain ⟨_, kbMachineBoards_1⟩ := T.kbMachineBoards_1
  obtain ⟨_, kbMachineLog_1⟩ := T.kbMachineLog_1
  obtain ⟨_, kbMachineStarts_1⟩ := T.kbMachineStarts_1
  obtain ⟨_, kbMachineState_1⟩ := T.kbMachineState_1
  refine T.FLStands.ok scLStands (fun vs H Q E h => h.1) (fun cdv A outer s H vs Q E hr h => ?_)
  refine ⟨_, PSs.nox (pss_cons (ps_set (i := 5) scLStands.nd rfl (.inl rfl) (pe_lst (pa_cons (asPE (tMeth3 _ _ 0 0 _ _ _ _ _ _) (pe_meth30 (ks := []) (pv 0) T.clMachine T.mMachineState GMachineState (hr.mono (by decide)) kbMachineState_1 (pass0S (fun cls d _ H => E cls d H)) pk_nil)) (pa_cons (asPE (tMeth3 _ _ 0 0 _ _ _ _ _ _) (pe_meth30 (ks := []) (pv 0) T.clMachine T.mMachineStarts GMachineStarts (hr.mono (by decide)) kbMachineStarts_1 (pass0S (fun cls d _ H => E cls d H)) pk_nil)) (pa_cons (asPE (tMeth3 _ _ 0 0 _ _ _ _ _ _) (pe_meth30 (ks := []) (pv 0) T.clMachine T.mMachineLog GMachineLog (hr.mono (by decide)) kbMachineLog_1 (pass0S (fun cls d _ H => E cls d H)) pk_nil)) (pa_cons (asPE (tMeth3 _ _ 0 0 _ _ _ _ _ _) (pe_meth30 (ks := []) (pv 0) T.clMachine T.mMachineBoards GMachineBoards (hr.mono (by decide)) kbMachineBoards_1 (pass0S (fun cls d _ H => E cls d H)) pk_nil)) pa_nil))))))
        (pss_one (ps_ret (asPE (tCall3 2 0 _ _ _ _ _) (pe_call3 (ks := []) GLSame (hr.mono (by decide)) (by rfl) T.gLSame T.FLSame.kp kbLSame_2 (pass0S (fun cls d _ H => E cls d H)) (pa_cons (pv 5) (pa_cons (pe_lst (pa_cons (pv 2) (pa_cons (pv 3) (pa_cons (pv 4) (pa_cons (asPE (tCall3 3 0 _ _ _ _ _) (pe_call3 (ks := []) GLReplay (hr.mono (by decide)) (by rfl) T.gLReplay T.FLReplay.kp kbLReplay_3 (pass0S (fun cls d _ H => E cls d H)) (pa_cons (asPE (tDGet _ _) (pe_dget (Nat.lt_of_le_of_lt (Nat.add_le_add_left (by decide : 1 ≤ 64) _) hr.units) (pv 1) pe_str (fun _ _ => rfl))) (pa_cons (pv 4) (pa_cons (asPE (tDGet _ _) (pe_dget (Nat.lt_of_le_of_lt (Nat.add_le_add_left (by decide : 1 ≤ 64) _) hr.units) (pv 1) pe_str (fun _ _ => rfl))) pa_nil))) pk_nil)) pa_nil))))) pa_nil)) pk_nil))))), ?_⟩
  refine body3 h (fun ps μ Ψ Ξ hw hl => ?_)
  obtain ⟨a, W, M, s, t, rs, b, rfl, rfl, ok, e1, e2, e3, e4, e5, e6, rl, ro, t1, t0, q⟩ := hw
  subst e4 e5 e6
  have z8 := ok.z8
  have z1 := ok.z1
  have eb : bds M = rpl W.w W.f W.z M.xs := by
    unfold bds
    rw [e1, e2, e3]
  refine ⟨⟨_, _, .pk, rfl, rfl⟩, ⟨rfl, rfl, rfl⟩, [_], [], .refl _, a, M, rfl, rfl, ⟨_, _, .pk, rfl, rfl⟩, ⟨rfl, rfl, rfl⟩, [_], [], .refl _, a, M, rfl, rfl, ⟨_, _, .pk, rfl, rfl⟩, ⟨rfl, rfl, rfl⟩, [_], [], .refl _, a, M, rfl, rfl, ⟨_, _, .pk, rfl, rfl⟩, ⟨rfl, rfl, rfl⟩, [_], [], .refl _, a, M, rfl, rfl, by show 4 ≤ sizeLine; decide, ?_⟩
  refine ⟨WKb b, W.dsb b, .inr "how", howD W.w W.f, .cold, rfl, wkHow, WKb b, W.dsb b, .inr "size", .int (W.z : Nat), .cold, rfl, wkSize, ⟨rfl, rfl, rfl⟩, [], [_], .refl _, W.w, W.f, M.xs, (W.z : Nat), rfl, ok.om, ro, by omega, by omega, by show 4 ≤ sizeLine; decide, ?_⟩
  refine ⟨⟨rfl, rfl, rfl⟩, [], [_], .refl _, ?_⟩
  have nl := nice_rws (n := 54) (fun x hx => (ro x hx).1) rl
  have nb : Nice 1 50 (.lst ((bds M).map .int)) := by
    rw [eb]
    exact nice_nums54 (n := 50) (fun v hv => by
      have h1 := rpl_big (m := W.z) ok.om (fun x hx => (ro x hx).1) v hv
      have h2 := big_le rl
      exact ⟨h1.1, by omega⟩) (by rw [rpl_len]; omega)
  have nd : Nice 3 (4 * 1351) (.lst [.str (mcs M), .int M.st, .lst (M.xs.map Rw.d), .lst ((bds M).map .int)]) := nice_lst (n := 2) (b := 1350) (ds := [.str (mcs M), .int M.st, .lst (M.xs.map Rw.d), .lst ((bds M).map .int)]) fun d hd => by
    simp only [List.mem_cons, List.mem_nil_iff, or_false] at hd
    rcases hd with rfl | rfl | rfl | rfl
    · exact (nice_mcs M).mono (by decide) (by decide)
    · exact (nice_small (by omega) (by omega)).mono (by decide) (by decide)
    · exact nl.mono (by decide) (by decide)
    · exact nb.mono (by decide) (by decide)
  obtain ⟨pu, dp, wd⟩ := nd.same (k := 6) (by decide) (by decide)
  exact ⟨_, _, rfl, (by rw [eb]; rfl), pu, dp, wd, _, .refl _, q⟩

end
section
variable {P : Program} {w : World} {K : PySem.W.Frag} {mg : Str → Option Value} {base : Heap}
local macro_rules | `(tactic| get_elem_tactic_trivial) => `(tactic| (repeat first | exact Wk.nil | exact Wk'.nil | refine Wk.same ?_ | refine Wk'.same ?_ | refine Wk.un (fun _ z => nomatch z) ?_ | refine Wk'.un ?_))
/-! the rows of the first hands -/
def fl (hs : List Hd) (j : Nat) : List Rw := ((sts hs).take j).flatten
theorem fl_succ {hs : List Hd} {j : Nat} {h : Hd} (e : hs[j]? = some h) : fl hs (j + 1) = fl hs j ++ nts h hs[j + 1]? := by
  unfold fl
  rw [take_at (sts_at hs j h e), List.flatten_append]
  simp
theorem fl_len {hs : List Hd} (oh : ∀ h ∈ hs, h.ok) : ∀ j, j ≤ hs.length → (fl hs j).length ≤ 4 * j
  | 0, _ => Nat.le_refl _
  | j + 1, hj => by
    obtain ⟨h, e⟩ : ∃ h, hs[j]? = some h := ⟨_, List.getElem?_eq_getElem (by omega)⟩
    have ih := fl_len oh j (by omega)
    have l3 := (oh h (List.mem_of_getElem? e)).l3
    rw [fl_succ e, List.length_append, nts_len]
    omega
theorem fl_ok {hs : List Hd} {z : Nat} (k : HandsOk hs z) (z1 : 1 ≤ z) : ∀ j, j ≤ hs.length → ∀ x ∈ fl hs j, x.ok ∧ x.b < z
  | 0, _, x, hx => (nomatch hx)
  | j + 1, hj, x, hx => by
    obtain ⟨h, e⟩ : ∃ h, hs[j]? = some h := ⟨_, List.getElem?_eq_getElem (by omega)⟩
    have hm := List.mem_of_getElem? e
    rw [fl_succ e] at hx
    rcases List.mem_append.mp hx with q | q
    · exact fl_ok k z1 j (by omega) x q
    · exact nts_row (k.ho h hm) (fun g eg => k.ho g (List.mem_of_getElem? eg)) z1 (k.hb h hm) x q
end
section
variable {P : Program} {w : World} {K : PySem.W.Frag} {mg : Str → Option Value} {base : Heap}
local macro_rules | `(tactic| get_elem_tactic_trivial) => `(tactic| (repeat first | exact Wk.nil | exact Wk'.nil | refine Wk.same ?_ | refine Wk'.same ?_ | refine Wk.un (fun _ z => nomatch z) ?_ | refine Wk'.un ?_))
/-! rows one behind the other; hands of one's own -/
def wFlat35 : List Sl → (List Dt → List Sl → Prop) → Prop := fun ps Ψ => ∃ L : List (List Rw), ps = [.dat (.lst (L.map fun rs => .lst (rs.map Rw.d)))] ∧ (∀ rs ∈ L, rs.length ≤ 4) ∧ L.length ≤ 6 ∧ Ψ (L.flatten.map Rw.d) ps
theorem okLFlat (T : Tx K mg) : FnOk P w K mg base CX0 1 (He.ga K "_law_flat") T.fdLFlat ["_law_lists"] (spN K 1 wFlat35) := by
  have B := T.B
  refine T.FLFlat.ok scLFlat (fun vs H Q E h => h.1) (fun cdv A outer s H vs Q E hr h => ?_)
  refine ⟨_, PSs.nox (pss_cons (ps_set (i := 1) scLFlat.nd rfl (.inl rfl) (pe_lst pa_nil))
        (pss_cons (ps_for PassesOwn.never rfl (piAny (K := K) rfl (pv 0)) (pg_name (i := 2) scLFlat.nd rfl (Or.inl rfl))
        (pss_one (ps_set (i := 1) scLFlat.nd rfl (.inl rfl) (pe_op op_cat (pv 1) (pv 2)))))
        (pss_one (ps_ret (pv 1))))), ?_⟩
  refine bodyD h (fun ps Ψ hw hl => ?_)
  obtain ⟨L, rfl, l4, l6, q⟩ := hw
  have sz : sizeLine = 16777216 := by decide
  refine ⟨by show 0 ≤ sizeLine; decide, fun j ρ => ∃ D, D = ((L.take j).flatten).map Rw.d ∧ ((L.take j).flatten).length ≤ 4 * j ∧ ρ = [.dat (.lst (L.map fun rs => .lst (rs.map Rw.d))), .hot D, .un], To.of ⟨_, rfl, Nat.le_refl _, rfl⟩ (by get_elem_tactic_trivial), ?_, ?_⟩
  · rintro j ρ d hd ⟨D, rfl, hl, rfl⟩
    rw [List.getElem?_map] at hd
    obtain ⟨rs, hrs, rfl⟩ := Option.map_eq_some_iff.mp hd
    have l := l4 rs (List.mem_of_getElem? hrs)
    have hj := (List.getElem?_eq_some_iff.mp hrs).1
    have e1 : (L.take (j + 1)).flatten = (L.take j).flatten ++ rs := by
      rw [take_at hrs, List.flatten_append]
      simp
    refine ⟨by rw [List.length_map, List.length_map]; omega, To.of ⟨(L.take j).flatten.map Rw.d ++ rs.map Rw.d, by rw [e1, List.map_append], by rw [e1, List.length_append]; omega, rfl⟩ (by get_elem_tactic_trivial)⟩
  · rintro ρ ⟨D, rfl, hl, rfl⟩
    rw [List.length_map, List.take_length]
    exact q
theorem sts_l4 {hs : List Hd} (oh : ∀ h ∈ hs, h.ok) : ∀ rs ∈ sts hs, rs.length ≤ 4 := fun rs h => by
  obtain ⟨i, hi⟩ := List.getElem?_of_mem h
  have lt := (List.getElem?_eq_some_iff.mp hi).1
  rw [sts_len] at lt
  obtain ⟨x, ex⟩ : ∃ x, hs[i]? = some x := ⟨_, List.getElem?_eq_getElem lt⟩
  rw [sts_at hs i x ex] at hi
  cases hi
  have := (oh x (List.mem_of_getElem? ex)).l3
  rw [nts_len]
  omega

end
section
variable {P : Program} {w : World} {K : PySem.W.Frag} {mg : Str → Option Value} {base : Heap}
local macro_rules | `(tactic| get_elem_tactic_trivial) => `(tactic| (repeat first | exact Wk.nil | exact Wk'.nil | refine Wk.same ?_ | refine Wk'.same ?_ | refine Wk.un (fun _ z => nomatch z) ?_ | refine Wk'.un ?_))
/-! a raising def where it does not raise -/
def wfN3 (wf : W3F) : W3F := fun ps μ Ψ _ => wf ps μ Ψ noX3
theorem sp3_calm {n : Nat} {wf : W3F} {vs : List V} {H : Hp} {Q : VK} {E E2 : XK} (h : sp3 K n (wfN3 wf) vs H Q E) : sp3 K n wf vs H Q E2 := by
  obtain ⟨hl, C, U, bx, ps, μ, m, Ψ, Ξ, S, e, M, hU, hf, k, kx⟩ := h
  exact ⟨hl, C, U, bx, ps, μ, m, Ψ, noX3, S, e, M, hU, hf, k, fun C' G cls dd c d ps' μ' _ _ z => False.elim z⟩
theorem FnOk.calm3 {k : Nat} {f : Addr} {fd : FuncData} {ps : List Str} {n : Nat} {wf : W3F} (F : FnOk P w K mg base (L2N.CX P w) k f fd ps (sp3 K n wf)) : FnOk P w K mg base CX0 k f fd ps (sp3 K n (wfN3 wf)) := by
  refine ⟨fun vs H Q E h => F.len vs H Q (fun _ _ _ => False) (sp3_calm (E := E) h), fun A outer s H args us vs Q E hr h0 b r h => codeAny_mono (F.run A outer s H args us vs Q (fun _ _ _ => False) hr h0 b r (sp3_calm (E := E) h)) fun r s' q => ?_⟩
  cases r with
  | ok fl => cases fl <;> exact q
  | error e =>
    obtain ⟨a, B, H', cls, d, e1, fl, rest⟩ := q
    exact rest.2.2.2.2.2.elim
/-! a value of either kind is taken as read -/
def tVal3 (t : TE) : TE := t
theorem peVal3 {X : Cx} {e : Expr} {t : TE} (h : PE X e t) : PE X e (tVal3 t) := h
def wVal3 (w : WE3) : WE3 := fun ρ μ Ψ Ξ => w ρ μ (fun r ρ1 μ1 => Ψ (.dat r.val) ρ1 μ1) Ξ
instance (priority := 70) e3_val {W : WX} {t : TE} {w : WE3} [a : E3 K W t w] : E3 K W (tVal3 t) (wVal3 w) where
  run B C H σ ρ μ Q Ψ Ξ S h k mx := a.run B C H σ ρ μ _ _ _ S h (fun C1 H1 v r ρ1 μ1 ok s1 z => by
    obtain ⟨C2, S2, s2, r2⟩ := ok.cool
    exact k _ _ _ (.dat r.val) _ _ ⟨S2, r2⟩ (s1.trans s2) z) mx

end
section
variable {P : Program} {w : World} {K : PySem.W.Frag} {mg : Str → Option Value} {base : Heap}
local macro_rules | `(tactic| get_elem_tactic_trivial) => `(tactic| (repeat first | exact Wk.nil | exact Wk'.nil | refine Wk.same ?_ | refine Wk'.same ?_ | refine Wk.un (fun _ z => nomatch z) ?_ | refine Wk'.un ?_))
/-! a new drawer given at once, at level 3 -/
def bx3 (ρ1 : List Sl) (Ψ : Ro → List Sl → My → Prop) (r : Ro) (ρ' : List Sl) (μ' : My) : Prop := (∃ n, ρ' = (ρ1 ++ [Sl.box 0]).set ρ1.length (.box n)) ∧ Ψ r ρ1 μ'
def bxX3 (ρ1 : List Sl) (Ξ : XE3) (c : Str) (d : Dt) (ρ' : List Sl) (μ' : My) : Prop := (∃ n, ρ' = (ρ1 ++ [Sl.box 0]).set ρ1.length (.box n)) ∧ Ξ c d ρ1 μ'
def wCallBox3 (wf : W3F) (wa : WA) : WE3 := fun ρ μ Ψ Ξ => wa ρ fun as ρ1 => match as with
  | [.d (.scr _), .d (.int k)] => (0 ≤ k ∧ k ≤ 1000) ∧ ∃ ν νr, Ent μ (ν ++ νr) ∧ wf [.box 0] ν (two3 ρ1.length (ρ1 ++ [Sl.box 0]) νr (bx3 ρ1 Ψ)) (twoX3 ρ1.length (ρ1 ++ [Sl.box 0]) νr (bxX3 ρ1 Ξ))
  | _ => False
theorem Sep3.cutEnd {B : Bs} {C H C0 H0 : Hp} {σ : L2.St} {ρ : List Sl} {x : Option V} {s : Sl} {μ : My} (S : Sep3 K B C H (σ ++ [x]) (ρ ++ [s]) μ) (S0 : Sep K B C0 H0 σ ρ) : Sep3 K B C H σ ρ μ := by
  obtain ⟨m, e, U, M, S⟩ := S
  have S0' : ∀ i a, (B.hang U).bx = some (i, a) → σ[i]? = some (some (V.ref a)) ∧ ∃ n, ρ[i]? = some (.box n) := S0.par
  refine ⟨m, e, U, M, ?_⟩
  have hl := S0.len
  have up : ∀ {i : Nat} {t : Sl}, ρ[i]? = some t → (ρ ++ [s])[i]? = some t ∧ (σ ++ [x])[i]? = σ[i]? := fun {i t} h => by
    have li : i < ρ.length := (List.getElem?_eq_some_iff.mp h).1
    exact ⟨by rw [List.getElem?_append_left li]; exact h, List.getElem?_append_left (by omega)⟩
  refine ⟨S.cold, hl, fun i t h => ?_, fun i j a t u n h1 h2 m1 m2 e1 e2 => ?_, S.grow, S.new, S.dom, S.keep, fun i a ds h e => ?_, fun i a n h e => ?_, fun i a h => S0' i a h, S.pz⟩
  · have z := S.sl i t (up h).1
    rw [(up h).2] at z
    exact z
  · exact S.ne i j a t u n (up h1).1 (up h2).1 m1 m2 (by rw [(up h1).2]; exact e1) (by rw [(up h2).2]; exact e2)
  · exact S.loc i a ds (up h).1 (by rw [(up h).2]; exact e)
  · exact S.lob i a n (up h).1 (by rw [(up h).2]; exact e)
instance (priority := 1200) e3_callBox {W : WX} {wf : W3F} {E2 : XK} {ta : TA} {wa : WA} [a : Sa K ta wa] : E3 K W (tCall3 1 0 (sp3 K 1 wf) (gB [0] []) (L2.WE W) (tCons (tCall (spLBox K) [] E2 ta) tNil) tNil) (wCallBox3 wf wa) where
  run B C H σ ρ μ Q Ψ Ξ S h k mx := by
    obtain ⟨B1, S1, back, _⟩ := S.lift
    refine a.run B1 C H σ ρ _ _ S1 h fun C1 H1 vs as ρ1 S2 s2 ok1 h1 => ?_
    split at h1
    · rename_i ns j
      obtain ⟨⟨k0, k1⟩, ν, νr, en, h1⟩ := h1
      match ok1 with
      | .cons (v := v1) r1 (.cons (v := v2) r2 .nil) =>
        cases r2
        cases r1 with
        | @scr b _ hs =>
          have ek : V.int j = V.int ((j.toNat : Nat) : Int) := by rw [Int.toNat_of_nonneg k0]
          refine ⟨b, ns, j.toNat, by rw [ek]; rfl, S2.cold.seq hs, by omega, fun p x y hp hx hy hy2 => ?_⟩
          have S3 := ((back S2).1).ent en
          have Sx : Sep3 K B C1 (upd H1 p (.lst [.int x, .int y, .int 0])) (σ ++ [some (.ref p)]) (ρ1 ++ [.box 0]) (ν ++ νr) := by
            obtain ⟨m, e, U, M, S4⟩ := S3
            exact ⟨m, e, U, M, S4.ext hp hx hy hy2⟩
          have q1 : (ρ1 ++ [Sl.box 0])[ρ1.length]? = some (.box 0) := by rw [List.getElem?_append_right (Nat.le_refl _), Nat.sub_self]; rfl
          have oi : (σ ++ [some (V.ref p)])[ρ1.length]? = some (some (.ref p)) := by rw [← S2.len, List.getElem?_append_right (Nat.le_refl _), Nat.sub_self]; rfl
          have cut : ∀ {C' G : Hp} {ρ' : List Sl} {μ' : My}, Sep3 K B C' G (σ ++ [some (V.ref p)]) ρ' μ' → (∃ n, ρ' = (ρ1 ++ [Sl.box 0]).set ρ1.length (.box n)) → Sep3 K B C' G σ ρ1 μ' := fun {C' G ρ' μ'} z ⟨n, e⟩ => by
            subst e
            rw [List.set_append_right _ _ (Nat.le_refl _), Nat.sub_self] at z
            exact Sep3.cutEnd (s := .box n) z S3.sep
          refine ⟨rfl, rfl, Sep3.handB (vs := []) (ds := []) Sx q1 oi .nil rfl h1 (fun C' G v r ρ' μ' ok s' z => ?_) fun C' G cls d2 c d ρ' μ' S' ex z => ?_⟩
          · obtain ⟨z1, z2⟩ := z
            refine k C' G v r ρ1 μ' ?_ (((back S2).2).trans s') z2
            cases r with
            | dat d => exact ⟨cut ok.1 z1, ok.2⟩
            | new ds =>
              obtain ⟨x, rfl, S4⟩ := ok
              exact ⟨x, rfl, cut S4 z1⟩
          · obtain ⟨z1, z2⟩ := z
            exact mx _ _ _ _ _ _ _ _ _ (cut S' z1) ex z2
    · exact h1.elim

end
section
variable {P : Program} {w : World} {K : PySem.W.Frag} {mg : Str → Option Value} {base : Heap}
local macro_rules | `(tactic| get_elem_tactic_trivial) => `(tactic| (repeat first | exact Wk.nil | exact Wk'.nil | refine Wk.same ?_ | refine Wk'.same ?_ | refine Wk.un (fun _ z => nomatch z) ?_ | refine Wk'.un ?_))
/-! no lies, handed in as () -/
namespace Lt
def wLiesT : WF := fun ps Ψ => ∃ (m : Bool) (ls : List Tr), ps = [.dat (.tup []), .dat (sqD m (ls.map Tr.d))] ∧ Ψ (.dat (.bl true)) ps
theorem okAreLies (T : Tx K mg) : FnOk P w K mg base CX0 4 (He.ga K "are_lies") T.fdAreLies ["thing", "loads"] (spD K 2 wLiesT) := by
  have B := T.B
  have GIsPlacedBody : FnOk P w K mg base CX0 3 (He.ga K "is_placed_body") T.fdIsPlacedBody ["thing", "greatest"] (spD K 2 wPlaced) := okIsPlacedBody T
  have bIsPlacedBody := T.bIsPlacedBody
  refine T.FAreLies.ok scAreLies (fun vs H Q E h => h.1) (fun cdv A outer s H vs Q E hr h => ?_)
  refine ⟨_, PSs.nox (pss_cons (ps_if (pt_not (pt_val (pe_callB (show CallR _ _ (rIsiT K) from call_isiT) (by rfl) B.b_isinstance boot_isinstance (pa_cons (pv 0) (pa_cons (pe_tup (pa_cons (pe_bltn (v := .ty "list") (by rfl) B.b_list PyProof.Rows.boot_list rfl) (pa_cons (pe_bltn (v := .ty "tuple") (by rfl) B.b_tuple PyProof.Rows.boot_tuple rfl) pa_nil))) pa_nil))))) (pss_one (ps_ret pe_bl)) pss_nil)
        (pss_cons (ps_if (pt_not (pt_val (pe_callB (show CallR _ _ (rAll K) from cr_all rfl) (by rfl) B.b_all boot_all (pa_cons (pe_lc (own := [("lie", 2)]) (g := gName 2) (tt := tYes) (by rfl) scAreLies.nd (piAny (K := K) rfl (pv 0)) (blkOk_by (own := [("lie", 2)]) (N := ["thing", "loads", "lie", "after"]) (sc := defScope sAreLies) (by decide +kernel)) (fun _ _ _ _ _ => by exact (pg_name (i := 2) scAreLies.nd rfl (Or.inl rfl))) (fun _ _ _ _ _ => pts_nil) (fun _ _ _ _ _ => (pe_call GIsPlacedBody (hr.mono (by decide)) (by rfl) T.gIsPlacedBody T.FIsPlacedBody.kp bIsPlacedBody .nil pass0 (pa_cons (pv 2) (pa_cons (pe_callB (show CallR _ _ (rLen K) from call_len) (by rfl) B.b_len PySem.boot_len (pa_cons (pv 1) pa_nil)) pa_nil))))) pa_nil)))) (pss_one (ps_ret pe_bl)) pss_nil)
        (pss_one (ps_ret (pe_callB (show CallR _ _ (rAll K) from cr_all rfl) (by rfl) B.b_all boot_all (pa_cons (pe_lc (own := [("lie", 2), ("after", 3)]) (g := gTup K 2 (gCons (gName 2) (gCons (gName 3) gNil))) (tt := tYes) (by rfl) scAreLies.nd (show PI _ _ _ (iZipB K _) from (RZ.pi_zipA (by rfl) B.b_zip (pa_cons (pv 0) (pa_cons (pe_slice (show SlR _ (rSlA K) from sl_tupA) (pv 0) (po_some pe_int) po_none) pa_nil)))) (blkOk_by (own := [("lie", 2), ("after", 3)]) (N := ["thing", "loads", "lie", "after"]) (sc := defScope sAreLies) (by decide +kernel)) (fun _ _ _ _ _ => by exact (show PG _ _ (gTup K 2 _) from pg_tup rfl (pgs_cons (pg_name (i := 2) scAreLies.nd rfl (Or.inl rfl)) (pgs_cons (pg_name (i := 3) scAreLies.nd rfl (Or.inl rfl)) pgs_nil)))) (fun _ _ _ _ _ => pts_nil) (fun _ _ _ _ _ => (pe_cmpR op_lt (pe_ix (show IxR _ (rIx K) from ix_seq) (pv 2) pe_int (fun _ _ => rfl)) (pe_ix (show IxR _ (rIx K) from ix_seq) (pv 3) pe_int (fun _ _ => rfl)) (nomark _)))) pa_nil)))))), ?_⟩
  refine bodyD h (fun ps Ψ hw hl => ?_)
  obtain ⟨m, ls, rfl, q⟩ := hw
  cases m with
  | true =>
    have q : Ψ (.dat (.bl true)) [.dat (.tup []), .dat (.tup (ls.map Tr.d))] := q
    refine ⟨⟨rfl, rfl⟩, fun j acc ρ => acc = [] ∧ ρ = [.dat (.tup []), .dat (.tup (ls.map Tr.d)), .un, .un], ⟨rfl, rfl⟩, (fun j acc ρ d hd _ => by simp at hd), ?_⟩
    rintro acc ρ ⟨rfl, rfl⟩
    refine ⟨rfl, [], rfl, ?_⟩
    refine ⟨⟨rfl, rfl⟩, fun j acc ρ => acc = [] ∧ ρ = [.dat (.tup []), .dat (.tup (ls.map Tr.d)), .un, .un], ⟨rfl, rfl⟩, (fun j acc ρ d hd _ => by simp [zipD] at hd), ?_⟩
    rintro acc ρ ⟨rfl, rfl⟩
    exact ⟨rfl, [], rfl, q⟩
  | false =>
    have q : Ψ (.dat (.bl true)) [.dat (.tup []), .dat (.lst (ls.map Tr.d))] := q
    refine ⟨⟨rfl, rfl⟩, fun j acc ρ => acc = [] ∧ ρ = [.dat (.tup []), .dat (.lst (ls.map Tr.d)), .un, .un], ⟨rfl, rfl⟩, (fun j acc ρ d hd _ => by simp at hd), ?_⟩
    rintro acc ρ ⟨rfl, rfl⟩
    refine ⟨rfl, [], rfl, ?_⟩
    refine ⟨⟨rfl, rfl⟩, fun j acc ρ => acc = [] ∧ ρ = [.dat (.tup []), .dat (.lst (ls.map Tr.d)), .un, .un], ⟨rfl, rfl⟩, (fun j acc ρ d hd _ => by simp [zipD] at hd), ?_⟩
    rintro acc ρ ⟨rfl, rfl⟩
    exact ⟨rfl, [], rfl, q⟩
end Lt
def wLiesU : WF := fun ps Ψ => wLies ps Ψ ∨ Lt.wLiesT ps Ψ
theorem okLiesU (T : Tx K mg) : FnOk P w K mg base CX0 4 (He.ga K "are_lies") T.fdAreLies ["thing", "loads"] (spD K 2 wLiesU) := FnOk.orD (okAreLies T) (Lt.okAreLies T)
end
section
variable {P : Program} {w : World} {K : PySem.W.Frag} {mg : Str → Option Value} {base : Heap}
local macro_rules | `(tactic| get_elem_tactic_trivial) => `(tactic| (repeat first | exact Wk.nil | exact Wk'.nil | refine Wk.same ?_ | refine Wk'.same ?_ | refine Wk.un (fun _ z => nomatch z) ?_ | refine Wk'.un ?_))
/-! a hand made, its loads and lies lists or tuples -/
def wHandI3 : W3F := fun ps μ Ψ _ => ∃ (a : Addr) (h : Hd) (k m : Bool), ps = [.dat (.adr a), .dat (nD h.l), .dat (.int h.b), .dat (sqD k (h.ls.map Tr.d)), .dat (sqD m (h.ys.map Tr.d))] ∧ μ = [(a, .fl (.ins "Hand" [] []))] ∧ h.ok ∧ (m = true → h.ys = []) ∧ Ψ (.dat .non) ps [(a, .fl (.ins "Hand" HF h.fs))]
namespace Hn3
theorem _root_.Sl.Tx.kbAreLies_2 {K : PySem.W.Frag} {mg : Str → Option Value} (T : Tx K mg) : ∃ g : List Value → List Value → List Value, KBn K T.fdAreLies ["thing", "loads"] 2 [] g (gB [0, 1] []) := kbAllN T.FAreLies 2 [] [0, 1] fun kV doc pm an cdv ct us ws h1 h2 => match us, ws, h1, h2 with
  | [u0, u1], [], _, _ => rfl
theorem _root_.Sl.Tx.kbAreLoads_1 {K : PySem.W.Frag} {mg : Str → Option Value} (T : Tx K mg) : ∃ g : List Value → List Value → List Value, KBn K T.fdAreLoads ["thing"] 1 [] g (gB [0] []) := kbAllN T.FAreLoads 1 [] [0] fun kV doc pm an cdv ct us ws h1 h2 => match us, ws, h1, h2 with
  | [u0], [], _, _ => rfl
theorem okHandInit (T : Tx K mg) : FnOk P w K mg base CX0 5 (He.ma K (He.ga K "Hand") "__init__") T.fdHandInit ["self", "name", "body", "loads", "lies"] (sp3 K 5 wHandI3) := by
  have B := T.B
  have GIsName : FnOk P w K mg base CX0 1 (He.ga K "is_name") T.fdIsName ["thing"] _ := FnOk.up3 (okIsName T)
  have bIsName := T.bIsName
  have GStartErrorInit : FnOk P w K mg base CX0 1 (He.ma K (He.ga K "StartError") "__init__") T.fdStartErrorInit ["self", "what"] (spInitE K) := okStartErrorInit T
  have bStartErrorInit := T.bStartErrorInit
  have GIsWithin : FnOk P w K mg base CX0 2 (He.ga K "is_within") T.fdIsWithin ["thing", "least", "greatest"] _ := FnOk.up3 (okIsWithin T)
  have bIsWithin := T.bIsWithin
  have GAreLoads : FnOk P w K mg base CX0 4 (He.ga K "are_loads") T.fdAreLoads ["thing"] _ := FnOk.up3 (okAreLoads T)
  have bAreLoads := T.bAreLoads
  have GAreLies : FnOk P w K mg base CX0 4 (He.ga K "are_lies") T.fdAreLies ["thing", "loads"] _ := FnOk.up3 (okLiesU T)
  have bAreLies := T.bAreLies
  obtain ⟨_, kbAreLies_2⟩ := T.kbAreLies_2
  obtain ⟨_, kbAreLoads_1⟩ := T.kbAreLoads_1
  obtain ⟨_, kbIsName_1⟩ := T.kbIsName_1
  obtain ⟨_, kbIsWithin_3⟩ := T.kbIsWithin_3
  refine T.FHandInit.ok scHandInit (fun vs H Q E h => h.1) (fun cdv A outer s H vs Q E hr h => ?_)
  refine ⟨_, PSs.nox (pss_cons (ps_if (pt_not (pt_val (asPE (tCall3 1 0 _ _ _ _ _) (pe_call3 (ks := []) GIsName (hr.mono (by decide)) (by rfl) T.gIsName T.FIsName.kp kbIsName_1 (pass0S (fun cls d _ H => E cls d H)) (pa_cons (pv 1) pa_nil) pk_nil)))) (pss_one ps_no) pss_nil)
        (pss_cons (ps_if (pt_not (pt_val (asPE (tCall3 3 0 _ _ _ _ _) (pe_call3 (ks := []) GIsWithin (hr.mono (by decide)) (by rfl) T.gIsWithin T.FIsWithin.kp kbIsWithin_3 (pass0S (fun cls d _ H => E cls d H)) (pa_cons (pv 2) (pa_cons pe_int (pa_cons (pe_glob (v := .int 1000000) (by rfl) T.c_GREATEST_BODY.choose_spec ⟨_, rfl⟩) pa_nil))) pk_nil)))) (pss_one ps_no) pss_nil)
        (pss_cons (ps_if (pt_not (pt_val (asPE (tCall3 1 0 _ _ _ _ _) (pe_call3 (ks := []) GAreLoads (hr.mono (by decide)) (by rfl) T.gAreLoads T.FAreLoads.kp kbAreLoads_1 (pass0S (fun cls d _ H => E cls d H)) (pa_cons (pv 3) pa_nil) pk_nil)))) (pss_one ps_no) pss_nil)
        (pss_cons (ps_if (pt_not (pt_val (asPE (tCall3 2 0 _ _ _ _ _) (pe_call3 (ks := []) GAreLies (hr.mono (by decide)) (by rfl) T.gAreLies T.FAreLies.kp kbAreLies_2 (pass0S (fun cls d _ H => E cls d H)) (pa_cons (pv 4) (pa_cons (pv 3) pa_nil)) pk_nil)))) (pss_one ps_no) pss_nil)
        (pss_cons (asPS (sFld K _ _ "name") (ps_fld (pv 0) (pv 1) rfl))
        (pss_cons (asPS (sFld K _ _ "body") (ps_fld (pv 0) (pv 2) rfl))
        (pss_cons (asPS (sFld K _ _ "loads") (ps_fld (pv 0) (pe_callTy (show CallR _ _ (cTuple K) from call_tuple_of) (by rfl) B.b_tuple PyProof.Rows.boot_tuple (pa_cons (pv 3) pa_nil)) rfl))
        (pss_one (asPS (sFld K _ _ "lies") (ps_fld (pv 0) (pe_callTy (show CallR _ _ (cTuple K) from call_tuple_of) (by rfl) B.b_tuple PyProof.Rows.boot_tuple (pa_cons (pv 4) pa_nil)) rfl)))))))))), ?_⟩
  refine body3 h (fun ps μ Ψ Ξ hw hl => ?_)
  obtain ⟨a, h, k, m, rfl, rfl, ok, hm, q⟩ := hw
  have n0 : Nice 60 8000 (nD h.l) := (nice_nm ok.g).mono (by decide) (by decide)
  have n1 : Nice 60 8000 (.int h.b) := (nice_small (by have := ok.b0; omega) (by have := ok.b1; omega)).mono (by decide) (by decide)
  refine ⟨⟨rfl, rfl, rfl⟩, [], _, .refl _, nD h.l, rfl, n0, ifF ?_ ?_⟩
  · show (!isNameD (nD h.l)) = false
    rw [isNm_ok ok.g]
    rfl
  refine ⟨⟨rfl, rfl, rfl⟩, [], _, .refl _, .int h.b, 0, 1000000, rfl, n1, ifF ?_ ?_⟩
  · show (!numW 0 1000000 (.int h.b)) = false
    rw [numW_yes ok.b0 ok.b1]
    rfl
  refine ⟨⟨rfl, rfl, rfl⟩, [], _, .refl _, k, h.ls, rfl, ok.lk, ok.l3, ?_⟩
  have ft : ∀ (b : Bool) (ds : List Dt) (Φ : Dt → Prop), Φ (.tup ds) → fTuple (sqD b ds) Φ := fun b ds Φ z => by
    cases b <;> exact z
  have lies : ∀ Φ : Ro → List Sl → Prop, Φ (.dat (.bl true)) [.dat (sqD m (h.ys.map Tr.d)), .dat (sqD k (h.ls.map Tr.d))] → wLiesU [.dat (sqD m (h.ys.map Tr.d)), .dat (sqD k (h.ls.map Tr.d))] Φ := fun Φ z => by
    cases m with
    | true =>
      have e := hm rfl
      rw [e] at z ⊢
      exact .inr ⟨k, h.ls, rfl, z⟩
    | false => exact .inl ⟨k, h.ls, h.ys, rfl, ok.yk, ok.y4, ok.l3, ok.up, z⟩
  refine ⟨⟨rfl, rfl, rfl⟩, [], _, .refl _, lies _ ?_⟩
  refine ⟨0, "Hand", ([] : List Str), [], rfl, ⟨.inr (fldN T), by decide⟩, _, _, rfl, ?_⟩
  refine ⟨0, "Hand", (["name"] : List Str), [nD h.l], rfl, ⟨.inr (fldB T), by decide⟩, _, _, rfl, ?_⟩
  refine ft _ _ _ ?_
  refine ⟨0, "Hand", (["name", "body"] : List Str), [nD h.l, .int h.b], rfl, ⟨.inr (fldLo T), by decide⟩, _, _, rfl, ?_⟩
  refine ft _ _ _ ?_
  refine ⟨0, "Hand", (["name", "body", "loads"] : List Str), [nD h.l, .int h.b, .tup (h.ls.map Tr.d)], rfl, ⟨.inr (fldLi T), by decide⟩, _, _, rfl, ?_⟩
  exact ⟨_, .refl _, q⟩
end Hn3

end
section
variable {P : Program} {w : World} {K : PySem.W.Frag} {mg : Str → Option Value} {base : Heap}
local macro_rules | `(tactic| get_elem_tactic_trivial) => `(tactic| (repeat first | exact Wk.nil | exact Wk'.nil | refine Wk.same ?_ | refine Wk'.same ?_ | refine Wk.un (fun _ z => nomatch z) ?_ | refine Wk'.un ?_))
/-! what may stand for hands -/
inductive Hx where
  | hd (h : Hd) | ot (d : Dt)
def Hx.d : Hx → Dt
  | .hd h => h.d
  | .ot d => d
def Hx.is : Hx → Bool
  | .hd _ => true
  | .ot _ => false
def otK : Dt → Bool
  | .obj _ _ _ => false
  | .err _ _ => false
  | .adr _ => false
  | .dic _ _ => false
  | .scr _ => false
  | _ => true
def Hx.ok : Hx → Prop
  | .hd h => h.ok
  | .ot d => otK d = true
inductive Ht where
  | sq (k : Bool) (xs : List Hx) | no (d : Dt)
def Ht.d : Ht → Dt
  | .sq k xs => sqD k (xs.map Hx.d)
  | .no d => d
def Ht.ok : Ht → Prop
  | .sq _ xs => (∀ x ∈ xs, x.ok) ∧ xs.length ≤ 100
  | .no d => otK d = true ∧ kList d = false ∧ kTup d = false
def hsx (xs : List Hx) : List Hd := xs.filterMap fun x => match x with
  | .hd h => some h
  | .ot _ => none
def Ht.r (m : Nat) : Ht → Bool
  | .sq _ xs => decide (1 ≤ xs.length) && decide (xs.length ≤ 6) && xs.all Hx.is && (match hsx xs with | h :: _ => decide (h.ys.length = 0) | [] => false) && (hsx xs).all fun h => h.ls.all fun t => decide (t.p < m)
  | .no _ => false
theorem hsx_all : ∀ {xs : List Hx}, xs.all Hx.is = true → xs = (hsx xs).map .hd
  | [], _ => rfl
  | .hd h :: xs, e => congrArg (Hx.hd h :: ·) (hsx_all (xs := xs) (by simpa [Hx.is] using e))
  | .ot d :: xs, e => by simp [Hx.is] at e
theorem hsx_hd : ∀ hs : List Hd, hsx (hs.map .hd) = hs
  | [] => rfl
  | h :: hs => congrArg (h :: ·) (hsx_hd hs)
theorem isOb_hx {x : Hx} (h : x.ok) : isOb "Hand" x.d = x.is := by
  cases x with
  | hd h =>
    show decide ((Str.ofString "Hand") = Str.ofString "Hand") = true
    exact decide_eq_true rfl
  | ot d =>
    have h : otK d = true := h
    cases d <;> first | rfl | exact Bool.noConfusion (show false = true from h)
theorem obK_hx {x : Hx} (h : x.ok) {k : Prop} (q : k) : obK "Hand" x.d k := by
  cases x with
  | hd h => exact ⟨rfl, q⟩
  | ot d =>
    have h : otK d = true := h
    cases d <;> first | exact q | exact Bool.noConfusion (show false = true from h)
def wAreX : WF := fun ps Ψ => ∃ (t : Ht) (m : Nat), ps = [.dat t.d, .dat (.int (m : Nat))] ∧ t.ok ∧ m ≤ 8 ∧ Ψ (.dat (.bl (t.r m))) ps
theorem bls_mapD {α : Type} (f : α → Bool) : ∀ xs : List α, bls (xs.map fun x => Dt.bl (f x)) = some (xs.map f)
  | [] => rfl
  | x :: xs => by
    show (match bls (xs.map fun x => Dt.bl (f x)) with | some bs => some (f x :: bs) | none => none) = _
    rw [bls_mapD f xs]
    rfl
theorem all_mapI {α : Type} (f : α → Bool) (xs : List α) : (xs.map f).all id = xs.all f := by
  rw [List.all_map]
  rfl
def bdl (hs : List Hd) : List Nat := hs.flatMap fun h => h.ls.map Tr.p
theorem bdl_all (m : Nat) : ∀ hs : List Hd, ((bdl hs).all fun p => decide (p < m)) = hs.all fun h => h.ls.all fun t => decide (t.p < m)
  | [] => rfl
  | h :: hs => by
    show ((h.ls.map Tr.p ++ bdl hs).all fun p => decide (p < m)) = ((h.ls.all fun t => decide (t.p < m)) && hs.all fun h => h.ls.all fun t => decide (t.p < m))
    rw [List.all_append, bdl_all m hs, List.all_map]
    rfl
theorem bdl_take {hs : List Hd} {k : Nat} {h : Hd} (e : hs[k]? = some h) : bdl (hs.take (k + 1)) = bdl (hs.take k) ++ h.ls.map Tr.p := by
  unfold bdl
  rw [List.take_add_one, e, List.flatMap_append]
  show _ ++ (h.ls.map Tr.p ++ []) = _
  rw [List.append_nil]
namespace Hx
theorem okAreHands (T : Tx K mg) : FnOk P w K mg base CX0 1 (He.ga K "are_hands") T.fdAreHands ["thing", "many"] (spD K 2 wAreX) := by
  have B := T.B
  haveI : IsA K "Hand" := ⟨T.clHand, T.is_Hand, T.io_Hand⟩
  refine T.FAreHands.ok scAreHands (fun vs H Q E h => h.1) (fun cdv A outer s H vs Q E hr h => ?_)
  refine ⟨_, PSs.nox (pss_cons (ps_if (PW.pt (pw_or (pt_not (pt_val (pe_callB (show CallR _ _ (rIsiT K) from call_isiT) (by rfl) B.b_isinstance boot_isinstance (pa_cons (pv 0) (pa_cons (pe_tup (pa_cons (pe_bltn (v := .ty "list") (by rfl) B.b_list PyProof.Rows.boot_list rfl) (pa_cons (pe_bltn (v := .ty "tuple") (by rfl) B.b_tuple PyProof.Rows.boot_tuple rfl) pa_nil))) pa_nil))))) (pw_or1 (pt_not (pt_chain op_le op_le pe_int (pe_callB (show CallR _ _ (rLen K) from call_len) (by rfl) B.b_len PySem.boot_len (pa_cons (pv 0) pa_nil)) (pe_glob (v := .int 6) (by rfl) T.c_MOST_HANDS.choose_spec ⟨_, rfl⟩)))))) (pss_one (ps_ret pe_bl)) pss_nil)
        (pss_cons (ps_if (pt_not (pt_val (pe_callB (show CallR _ _ (rAll K) from cr_all rfl) (by rfl) B.b_all boot_all (pa_cons (pe_lc (own := [("hand", 2)]) (g := gName 2) (tt := tYes) (by rfl) scAreHands.nd (piAny (K := K) rfl (pv 0)) (blkOk_by (own := [("hand", 2)]) (N := ["thing", "many", "hand", "boards", "load", "board"]) (sc := defScope sAreHands) (by decide +kernel)) (fun _ _ _ _ _ => by exact (pg_name (i := 2) scAreHands.nd rfl (Or.inl rfl))) (fun _ _ _ _ _ => pts_nil) (fun _ _ _ _ _ => (pe_callB (show CallR _ _ (rIsi K) from call_isi) (by rfl) B.b_isinstance boot_isinstance (pa_cons (pv 2) (pa_cons (pe_glob (v := .ref (He.ga K "Hand")) (by rfl) T.gHand rfl) pa_nil))))) pa_nil)))) (pss_one (ps_ret pe_bl)) pss_nil)
        (pss_cons (ps_setLc2 (i := 3) (own := [("hand", 2), ("load", 4)]) (vs1 := [4]) (g := gName 2) (g1 := gName 4) (tt := tYes) (tt1 := tYes) (by rfl) scAreHands.nd rfl rfl (sw_true rfl rfl rfl (by decide +kernel)) (piAny (K := K) rfl (pv 0)) (blkOk_by (own := [("hand", 2), ("load", 4)]) (N := ["thing", "many", "hand", "boards", "load", "board"]) (sc := defScope sAreHands) (by decide +kernel)) (by decide) (fun _ _ _ _ _ => by exact (pg_name (i := 2) scAreHands.nd rfl (Or.inl rfl))) (fun _ _ _ _ _ => by exact pts_nil) (fun _ _ _ _ _ => by exact (piAny (K := K) rfl (show PE _ _ (tFld K _ "loads") from pe_fld (pv 2) rfl))) (fun _ _ _ _ _ => by exact (pg_name (i := 4) scAreHands.nd rfl (Or.inl rfl))) (fun _ _ _ _ _ => by exact pts_nil) (fun _ _ _ _ _ => by exact (pe_ix (show IxR _ (rIx K) from ix_seq) (pv 4) pe_int (fun _ _ => rfl))))
        (pss_one (ps_ret (pe_and (pe_cmpR (opEqA (K := K) rfl hr.units) (pe_callB (show CallR _ _ (rLen K) from call_len) (by rfl) B.b_len PySem.boot_len (pa_cons (show PE _ _ (tFld K _ "lies") from pe_fld (pe_ix (show IxR _ (rIx K) from ix_seq) (pv 0) pe_int (fun _ _ => rfl)) rfl) pa_nil)) pe_int (nomark _)) (pe_one (pe_callB (show CallR _ _ (rAll K) from cr_all rfl) (by rfl) B.b_all boot_all (pa_cons (pe_lc (own := [("board", 5)]) (g := gName 5) (tt := tYes) (by rfl) scAreHands.nd (piAny (K := K) rfl (pv 3)) (blkOk_by (own := [("board", 5)]) (N := ["thing", "many", "hand", "boards", "load", "board"]) (sc := defScope sAreHands) (by decide +kernel)) (fun _ _ _ _ _ => by exact (pg_name (i := 5) scAreHands.nd rfl (Or.inl rfl))) (fun _ _ _ _ _ => pts_nil) (fun _ _ _ _ _ => (pe_cmpR op_lt (pv 5) (pv 1) (nomark _)))) pa_nil))))))))), ?_⟩
  refine bodyD h (fun ps Ψ hw hl => ?_)
  obtain ⟨t, m, rfl, ok, m8, q⟩ := hw
  have sz : sizeLine = 16777216 := by decide
  cases t with
  | no d =>
    obtain ⟨o, l, t⟩ := ok
    have q : Ψ (.dat (.bl false)) [.dat d, .dat (.int (m : Nat))] := q
    cases d <;> first | exact q | (exact absurd o Bool.false_ne_true) | (exact absurd l Bool.noConfusion) | (exact absurd t Bool.noConfusion)
  | sq k xs =>
    obtain ⟨ox, l100⟩ := ok
    let D := (Ht.sq k xs).d
    have q : Ψ (.dat (.bl ((Ht.sq k xs).r m))) [.dat D, .dat (.int (m : Nat))] := q
    by_cases hn : 1 ≤ xs.length ∧ xs.length ≤ 6
    rotate_left
    · have er : (Ht.sq k xs).r m = false := by
        show (decide (1 ≤ xs.length) && decide (xs.length ≤ 6) && _ && _ && _) = false
        by_cases h1 : 1 ≤ xs.length
        · rw [decide_eq_false (p := xs.length ≤ 6) (fun z => hn ⟨h1, z⟩)]
          simp
        · rw [decide_eq_false h1]
          simp
      rw [er] at q
      by_cases h1 : 1 ≤ xs.length
      · cases k
        all_goals
          refine ifT (decide_eq_true (by rw [List.length_map]; omega)) (ifT ?_ q)
          show (!decide (((xs.map Hx.d).length : Int) ≤ 6)) = true
          rw [decide_eq_false (by rw [List.length_map]; omega)]
          rfl
      · cases k
        all_goals
          refine ifF (decide_eq_false (by rw [List.length_map]; omega)) ?_
          exact q
    cases k
    all_goals
      refine ifT (decide_eq_true (by rw [List.length_map]; omega)) (ifF ?_ ?_)
      · show (!decide (((xs.map Hx.d).length : Int) ≤ 6)) = false
        rw [decide_eq_true (by rw [List.length_map]; omega)]
        rfl
      refine ⟨⟨rfl, rfl⟩, fun j acc ρ => acc = (xs.take j).map (fun x => .bl x.is) ∧ j ≤ xs.length ∧ ρ = [.dat D, .dat (.int (m : Nat)), .un, .un, .un, .un], ⟨rfl, Nat.zero_le _, rfl⟩, ?_, ?_⟩
      · rintro j acc ρ d hd ⟨rfl, hj, rfl⟩
        rw [List.getElem?_map] at hd
        obtain ⟨x, hx, rfl⟩ := Option.map_eq_some_iff.mp hd
        have hlt := (List.getElem?_eq_some_iff.mp hx).1
        refine obK_hx (ox x (List.mem_of_getElem? hx)) ?_
        rw [isOb_hx (ox x (List.mem_of_getElem? hx))]
        refine ⟨rfl, by rw [List.length_map, List.length_take]; omega, ?_, by omega, rfl⟩
        rw [List.take_add_one, hx, List.map_append]
        rfl
      rintro acc ρ ⟨rfl, -, rfl⟩
      rw [List.take_of_length_le (by rw [List.length_map]; exact Nat.le_refl _)]
      refine ⟨rfl, _, bls_mapD _ _, ?_⟩
      rw [all_mapI]
      cases ei : xs.all Hx.is with
      | false =>
        have er : ∀ k, (Ht.sq k xs).r m = false := fun k => by
          show (decide (1 ≤ xs.length) && decide (xs.length ≤ 6) && xs.all Hx.is && _ && _) = false
          rw [ei]
          simp
        rw [er] at q
        exact q
      | true =>
        obtain ⟨hs, rfl⟩ : ∃ hs : List Hd, xs = hs.map .hd := ⟨_, hsx_all ei⟩
        have h60 : 1 ≤ hs.length ∧ hs.length ≤ 6 := by rw [List.length_map] at hn; exact hn
        have oh : ∀ h ∈ hs, h.ok := fun h z => ox (.hd h) (List.mem_map.mpr ⟨h, z, rfl⟩)
        obtain ⟨h0, e0⟩ : ∃ h0, hs[0]? = some h0 := ⟨_, List.getElem?_eq_getElem (by omega)⟩
        obtain ⟨hr, rfl⟩ : ∃ hr, hs = h0 :: hr := by
          cases hs with
          | nil => cases e0
          | cons a b => exact ⟨b, by cases e0; rfl⟩
        have er : ∀ k, (Ht.sq k ((h0 :: hr).map Hx.hd)).r m = (decide (h0.ys.length = 0) && (bdl (h0 :: hr)).all fun p => decide (p < m)) := fun k => by
          rw [bdl_all]
          show (decide (1 ≤ ((h0 :: hr).map Hx.hd).length) && decide (((h0 :: hr).map Hx.hd).length ≤ 6) && ((h0 :: hr).map Hx.hd).all Hx.is && (match hsx ((h0 :: hr).map Hx.hd) with | h :: _ => decide (h.ys.length = 0) | [] => false) && (hsx ((h0 :: hr).map Hx.hd)).all fun h => h.ls.all fun t => decide (t.p < m)) = _
          rw [hsx_hd, ei, decide_eq_true hn.1, decide_eq_true hn.2]
          rfl
        rw [er] at q
        clear er
        refine ⟨⟨rfl, rfl, rfl, rfl⟩, fun k acc ρ => (acc.length ≤ 3 * k ∧ acc = (bdl ((h0 :: hr).take k)).map fun p => .int (p : Nat)) ∧ k ≤ (h0 :: hr).length ∧ ρ = [.dat D, .dat (.int (m : Nat)), .un, .un, .un, .un], ⟨⟨Nat.le_refl _, rfl⟩, Nat.zero_le _, rfl⟩, ?_, ?_⟩
        · rintro k acc ρ d hd ⟨⟨al, ea⟩, hk, rfl⟩
          rw [List.getElem?_map, List.getElem?_map] at hd
          obtain ⟨x, hx, rfl⟩ := Option.map_eq_some_iff.mp hd
          obtain ⟨h, hh, rfl⟩ := Option.map_eq_some_iff.mp hx
          have hlt := (List.getElem?_eq_some_iff.mp hh).1
          have hm := List.mem_of_getElem? hh
          have l3 := (oh h hm).l3
          refine ⟨2, .tup (h.ls.map Tr.d), by decide +kernel, rfl, fldLo T, rfl, fun j acc2 ρ => (acc2.length ≤ 3 * k + j ∧ acc2 = acc ++ (h.ls.take j).map fun t => .int (t.p : Nat)) ∧ j ≤ h.ls.length ∧ ρ = [.dat D, .dat (.int (m : Nat)), .dat h.d, .un, .un, .un], ⟨⟨al, (List.append_nil _).symm⟩, Nat.zero_le _, rfl⟩, ?_, ?_⟩
          · rintro j acc2 ρ d hd ⟨⟨al2, ea2⟩, hj, rfl⟩
            rw [List.getElem?_map] at hd
            obtain ⟨t, ht, rfl⟩ := Option.map_eq_some_iff.mp hd
            have hlt2 := (List.getElem?_eq_some_iff.mp ht).1
            refine ⟨_, rfl, rfl, by omega, ⟨by rw [List.length_append]; show _ + 1 ≤ _; omega, ?_⟩, by omega, rfl⟩
            rw [ea2, List.take_add_one, ht, List.map_append, List.append_assoc]
            rfl
          · rintro acc2 ρ ⟨⟨al2, ea2⟩, -, rfl⟩
            rw [List.length_map] at al2
            refine ⟨rfl, ⟨by omega, ?_⟩, by omega, rfl⟩
            have ek : h.ls.take (h.ls.map Tr.d).length = h.ls := List.take_of_length_le (by rw [List.length_map]; exact Nat.le_refl _)
            rw [ea2, ek, bdl_take hh, List.map_append, ea, List.map_map]
            rfl
        rintro acc ρ ⟨⟨al, ea⟩, -, rfl⟩
        rw [List.take_of_length_le (by rw [List.length_map, List.length_map]; exact Nat.le_refl _)] at ea
        subst ea
        refine ⟨rfl, ?_⟩
        refine ⟨h0.d, atI_nat (j := 0) rfl, 3, _, by decide +kernel, rfl, fldLi T, ?_⟩
        by_cases y0 : h0.ys.length = 0
        · refine ifT (eqSame ?_) ?_
          · rw [List.length_map, y0]
            rfl
          rw [decide_eq_true y0] at q
          refine ⟨⟨rfl, rfl⟩, fun j acc3 ρ => acc3 = ((bdl (h0 :: hr)).take j).map (fun p => .bl (decide (p < m))) ∧ j ≤ (bdl (h0 :: hr)).length ∧ ρ = [.dat D, .dat (.int (m : Nat)), .un, .dat (.lst ((bdl (h0 :: hr)).map fun p => .int (p : Nat))), .un, .un], ⟨rfl, Nat.zero_le _, rfl⟩, ?_, ?_⟩
          · rintro j acc3 ρ d hd ⟨rfl, hj, rfl⟩
            rw [List.getElem?_map] at hd
            obtain ⟨p, hp, rfl⟩ := Option.map_eq_some_iff.mp hd
            have hlt := (List.getElem?_eq_some_iff.mp hp).1
            rw [List.length_map, List.length_map, List.length_map] at al
            refine ⟨rfl, by rw [List.length_map, List.length_take]; omega, ?_, by omega, rfl⟩
            rw [List.take_add_one, hp, List.map_append]
            show _ ++ [Dt.bl (decide ((p : Int) < (m : Int)))] = _ ++ [Dt.bl (decide (p < m))]
            rw [decide_eq_decide.mpr Int.ofNat_lt]
          rintro acc3 ρ ⟨rfl, -, rfl⟩
          rw [List.take_of_length_le (by rw [List.length_map]; exact Nat.le_refl _)]
          refine ⟨rfl, _, bls_mapD _ _, ?_⟩
          rw [all_mapI]
          exact q
        · refine ifF (eqDiff ?_) ?_
          · rw [List.length_map]
            exact fun z => y0 (by omega)
          rw [decide_eq_false y0] at q
          exact q
end Hx

end
section
variable {P : Program} {w : World} {K : PySem.W.Frag} {mg : Str → Option Value} {base : Heap}
local macro_rules | `(tactic| get_elem_tactic_trivial) => `(tactic| (repeat first | exact Wk.nil | exact Wk'.nil | refine Wk.same ?_ | refine Wk'.same ?_ | refine Wk.un (fun _ z => nomatch z) ?_ | refine Wk'.un ?_))
/-! a machine made without a mixing, refused or not -/
theorem Ht.good {t : Ht} {m : Nat} (ok : t.ok) (e : t.r m = true) : ∃ (k : Bool) (hs : List Hd), t.d = sqD k (hs.map Hd.d) ∧ HandsOk hs m := by
  cases t with
  | no d => exact Bool.noConfusion (show false = true from e)
  | sq k xs =>
    obtain ⟨ox, -⟩ := ok
    have e : (decide (1 ≤ xs.length) && decide (xs.length ≤ 6) && xs.all Hx.is && (match hsx xs with | h :: _ => decide (h.ys.length = 0) | [] => false) && (hsx xs).all fun h => h.ls.all fun t => decide (t.p < m)) = true := e
    simp only [Bool.and_eq_true, decide_eq_true_eq] at e
    obtain ⟨⟨⟨⟨e1, e2⟩, e3⟩, e4⟩, e5⟩ := e
    have ex := hsx_all e3
    generalize hsx xs = hs at ex e4 e5
    subst ex
    rw [List.length_map] at e1 e2
    refine ⟨k, hs, ?_, ⟨List.length_pos_iff.mp e1, e2, fun h z => ox (.hd h) (List.mem_map.mpr ⟨h, z, rfl⟩), fun h hh t ht => of_decide_eq_true (List.all_eq_true.mp (List.all_eq_true.mp e5 h hh) t ht), fun h hh => ?_⟩⟩
    · show sqD k ((hs.map Hx.hd).map Hx.d) = _
      rw [List.map_map]
      rfl
    · cases hs with
      | nil => cases hh
      | cons a b =>
        cases hh
        exact List.length_eq_zero_iff.mp (of_decide_eq_true e4)
def wMcInitX : W3F := fun ps μ Ψ Ξ => ∃ (a : Addr) (dn dk : Dt) (t : Ht) (m : Nat) (k : Int), ps = [.dat (.adr a), .dat dn, .dat dk, .dat t.d, .dat .non, .dat (.int (m : Nat)), .dat (.int k)] ∧ μ = [(a, .fl (.ins "Machine" [] []))] ∧ Nice 60 8000 dn ∧ Nice 60 8000 dk ∧ t.ok ∧ 1 ≤ m ∧ m ≤ 8 ∧ 0 ≤ k ∧ k ≤ m ∧ ((isNameD dn = false ∧ Ξ "BadMachine" (.str "name") ps μ) ∨ (∃ nm, dn = nD nm ∧ Gd nm ∧ ((numW 0 1000000 dk = false ∧ Ξ "BadMachine" (.str "key") ps μ) ∨ ∃ key : Int, dk = .int key ∧ 0 ≤ key ∧ key ≤ 1000000 ∧ ((t.r m = false ∧ Ξ "BadMachine" (.str "hands") ps μ) ∨ (t.r m = true ∧ ∀ M : Mst, Ψ (.dat .non) ps [(a, .pk (mcI M))])))))
namespace Hx
theorem okMachineInit (T : Tx K mg) : FnOk P w K mg base (L2N.CX P w) 6 (He.ma K (He.ga K "Machine") "__init__") T.fdMachineInit ["self", "name", "key", "hands", "mixing", "many", "fixed"] (sp3 K 7 wMcInitX) := by
  have B := T.B
  have GMachineClearBoards : FnOk P w K mg base CX0 3 (He.ma K (He.ga K "Machine") "clear_boards") T.fdMachineClearBoards ["self"] (sp3 K 1 wMcClear) := okMachineClearBoards T
  have bMachineClearBoards := T.bMachineClearBoards
  have GIsName : FnOk P w K mg base CX0 1 (He.ga K "is_name") T.fdIsName ["thing"] _ := FnOk.up3 (okIsName T)
  have bIsName := T.bIsName
  have GStartErrorInit : FnOk P w K mg base CX0 1 (He.ma K (He.ga K "StartError") "__init__") T.fdStartErrorInit ["self", "what"] (spInitE K) := okStartErrorInit T
  have bStartErrorInit := T.bStartErrorInit
  have GIsWithin : FnOk P w K mg base CX0 2 (He.ga K "is_within") T.fdIsWithin ["thing", "least", "greatest"] _ := FnOk.up3 (okIsWithin T)
  have bIsWithin := T.bIsWithin
  have GAreHands : FnOk P w K mg base CX0 1 (He.ga K "are_hands") T.fdAreHands ["thing", "many"] _ := FnOk.up3 (Hx.okAreHands T)
  have bAreHands := T.bAreHands
  have GMixingInit : FnOk P w K mg base CX0 3 (He.ma K (He.ga K "Mixing") "__init__") T.fdMixingInit ["self", "width", "factor"] (spIni K "Mixing" ["width", "factor"] okMixD) := OlN.okMixingD T
  obtain ⟨_, rMixingInit_2, bMixingInit_2⟩ := mk0 T
  obtain ⟨_, kbAreHands_2⟩ := T.kbAreHands_2
  obtain ⟨_, kbIsName_1⟩ := T.kbIsName_1
  obtain ⟨_, kbIsWithin_3⟩ := T.kbIsWithin_3
  obtain ⟨_, kbMachineClearBoards_1⟩ := T.kbMachineClearBoards_1
  refine T.FMachineInit.ok scMachineInit (fun vs H Q E h => h.1) (fun cdv A outer s H vs Q E hr h => ?_)
  refine ⟨_, (pss_cons (ps_if (pt_not (pt_val (asPE (tCall3 1 0 _ _ _ _ _) (pe_call3 (ks := []) GIsName (hr.mono (by decide)) (by rfl) T.gIsName T.FIsName.kp kbIsName_1 (pass0S (fun cls d _ H => E cls d H)) (pa_cons (pv 1) pa_nil) pk_nil)))) (pss_one (ps_raiseD rfl (L2N.takes_of rfl rfl rfl rfl) (pmk_errD (err_cl T.er (c := "BadMachine") (by decide +kernel)) GStartErrorInit (hr.mono (by decide)) bStartErrorInit (by rfl) T.gBadMachine (by exact (pa_cons pe_str pa_nil))))) pss_nil)
        (pss_cons (ps_if (pt_not (pt_val (asPE (tCall3 3 0 _ _ _ _ _) (pe_call3 (ks := []) GIsWithin (hr.mono (by decide)) (by rfl) T.gIsWithin T.FIsWithin.kp kbIsWithin_3 (pass0S (fun cls d _ H => E cls d H)) (pa_cons (pv 2) (pa_cons pe_int (pa_cons (pe_glob (v := .int 1000000) (by rfl) T.c_GREATEST_KEY.choose_spec ⟨_, rfl⟩) pa_nil))) pk_nil)))) (pss_one (ps_raiseD rfl (L2N.takes_of rfl rfl rfl rfl) (pmk_errD (err_cl T.er (c := "BadMachine") (by decide +kernel)) GStartErrorInit (hr.mono (by decide)) bStartErrorInit (by rfl) T.gBadMachine (by exact (pa_cons pe_str pa_nil))))) pss_nil)
        (pss_cons (ps_if (pt_not (pt_val (asPE (tCall3 2 0 _ _ _ _ _) (pe_call3 (ks := []) GAreHands (hr.mono (by decide)) (by rfl) T.gAreHands T.FAreHands.kp kbAreHands_2 (pass0S (fun cls d _ H => E cls d H)) (pa_cons (pv 3) (pa_cons (pv 5) pa_nil)) pk_nil)))) (pss_one (ps_raiseD rfl (L2N.takes_of rfl rfl rfl rfl) (pmk_errD (err_cl T.er (c := "BadMachine") (by decide +kernel)) GStartErrorInit (hr.mono (by decide)) bStartErrorInit (by rfl) T.gBadMachine (by exact (pa_cons pe_str pa_nil))))) pss_nil)
        (pss_cons (asPS (sFld K _ _ "name") (ps_fld (pv 0) (pv 1) rfl))
        (pss_cons (asPS (sFld K _ _ "key") (ps_fld (pv 0) (pv 2) rfl))
        (pss_cons (asPS (sFld K _ _ "mixing") (ps_fld (pv 0) (pe_ifExp (pt_cmpR (show OpR _ _ rIsNone from op_isN) (pv 4) pe_non (nomark _)) (pe_make0 T.mkMixing GMixingInit (hr.mono (by decide)) (by rfl) T.gMixing bMixingInit_2 rMixingInit_2 pass0) (pv 4)) rfl))
        (pss_cons (asPS (sFld K _ _ "many") (ps_fld (pv 0) (pv 5) rfl))
        (pss_cons (asPS (sFld K _ _ "fixed") (ps_fld (pv 0) (pv 6) rfl))
        (pss_cons (asPS (sFld K _ _ "hands") (ps_fld (pv 0) (pe_callTy (show CallR _ _ (cList K) from call_list_of) (by rfl) B.b_list PyProof.Rows.boot_list (pa_cons (pv 3) pa_nil)) rfl))
        (pss_cons (asPS (sFld K _ _ "working") (ps_fld (pv 0) (pe_lst pa_nil) rfl))
        (pss_cons (asPS (sFld K _ _ "place") (ps_fld (pv 0) pe_non rfl))
        (pss_cons (asPS (sFld K _ _ "times") (ps_fld (pv 0) pe_int rfl))
        (pss_one (ps_expr (asPE (tMeth3 _ _ 0 0 _ _ _ _ _ _) (pe_meth30 (ks := []) (pv 0) T.clMachine T.mMachineClearBoards GMachineClearBoards (hr.mono (by decide)) kbMachineClearBoards_1 (pass0S (fun cls d _ H => E cls d H)) pk_nil)))))))))))))))), ?_⟩
  refine body3 h (fun ps μ Ψ Ξ hw hl => ?_)
  obtain ⟨a, dn, dk, t, mm, k, rfl, rfl, nn, nk, ok, m1, m8, f0, f1, q⟩ := hw
  refine ⟨⟨rfl, rfl, rfl⟩, [], _, .refl _, dn, rfl, nn, ?_⟩
  rcases q with ⟨e, q⟩ | ⟨nm, rfl, g, q⟩
  · exact ifT (by rw [e]; rfl) ⟨"BadMachine", rfl, _, .refl _, q⟩
  have en : isNameD (nD nm) = true := isNm_nm g
  refine ifF (by rw [en]; rfl) ?_
  refine ⟨⟨rfl, rfl, rfl⟩, [], _, .refl _, dk, 0, 1000000, rfl, nk, ?_⟩
  rcases q with ⟨e, q⟩ | ⟨key, rfl, k0, k1, q⟩
  · exact ifT (by rw [e]; rfl) ⟨"BadMachine", rfl, _, .refl _, q⟩
  refine ifF (by rw [numW_yes k0 k1]; rfl) ?_
  refine ⟨⟨rfl, rfl, rfl⟩, [], _, .refl _, t, mm, rfl, ok, m8, ?_⟩
  rcases q with ⟨e, q⟩ | ⟨e, q⟩
  · exact ifT (by rw [e]; rfl) ⟨"BadMachine", rfl, _, .refl _, q⟩
  refine ifF (by rw [e]; rfl) ?_
  have om : OkMix none 7919 := ⟨by decide, by decide, fun n h => nomatch h⟩
  obtain ⟨kk, hs, et, hok⟩ := Ht.good ok e
  clear e ok
  rw [et] at q ⊢
  clear et
  have okM : (⟨nm, key, none, 7919, mm, k, hs, [], none, 0, []⟩ : Mst).ok := ⟨g, k0, k1, om, m1, m8, f0, f1, hok.hn, hok.h6, hok.ho, hok.hb, hok.hl, Nat.zero_le _, (fun h z => nomatch z), (fun h z => nomatch z), (fun p z => nomatch z), Int.le_refl _, (by show (0 : Int) ≤ 100000; decide), (fun x z => nomatch z), Nat.zero_le _⟩
  have q := q ⟨nm, key, none, 7919, mm, k, hs, [], none, 0, []⟩
  refine ⟨0, "Machine", ([] : List Str), [], rfl, ⟨.inr (fldMc T _ (by simp)), by decide⟩, _, _, rfl, ?_⟩
  refine ⟨0, "Machine", (["name"] : List Str), [nD nm], rfl, ⟨.inr (fldMc T _ (by simp)), by decide⟩, _, _, rfl, ?_⟩
  refine ⟨rfl, ⟨⟨none, 7919, om, rfl⟩, rfl, rfl⟩, 0, "Machine", (["name", "key"] : List Str), [nD nm, .int key], rfl, ⟨.inr (fldMc T _ (by simp)), by decide⟩, _, _, rfl, ?_⟩
  refine ⟨0, "Machine", (["name", "key", "mixing"] : List Str), [nD nm, .int key, mixD none 7919], rfl, ⟨.inr (fldMc T _ (by simp)), by decide⟩, _, _, rfl, ?_⟩
  refine ⟨0, "Machine", (["name", "key", "mixing", "many"] : List Str), [nD nm, .int key, mixD none 7919, .int (mm : Nat)], rfl, ⟨.inr (fldMc T _ (by simp)), by decide⟩, _, _, rfl, ?_⟩
  cases kk
  all_goals
    refine ⟨0, "Machine", (["name", "key", "mixing", "many", "fixed"] : List Str), [nD nm, .int key, mixD none 7919, .int (mm : Nat), .int k], rfl, ⟨.inr (fldMc T _ (by simp)), by decide⟩, _, _, rfl, ?_⟩
    refine ⟨by show 0 ≤ sizeLine; decide, ?_⟩
    refine ⟨0, "Machine", (["name", "key", "mixing", "many", "fixed", "hands"] : List Str), [nD nm, .int key, mixD none 7919, .int (mm : Nat), .int k, .lst (hs.map Hd.d)], rfl, ⟨.inr (fldMc T _ (by simp)), by decide⟩, _, _, rfl, ?_⟩
    refine ⟨0, "Machine", (["name", "key", "mixing", "many", "fixed", "hands", "working"] : List Str), [nD nm, .int key, mixD none 7919, .int (mm : Nat), .int k, .lst (hs.map Hd.d), .lst []], rfl, ⟨.inr (fldMc T _ (by simp)), by decide⟩, _, _, rfl, ?_⟩
    refine ⟨0, "Machine", (["name", "key", "mixing", "many", "fixed", "hands", "working", "place"] : List Str), [nD nm, .int key, mixD none 7919, .int (mm : Nat), .int k, .lst (hs.map Hd.d), .lst [], .non], rfl, ⟨.inr (fldMc T _ (by simp)), by decide⟩, _, _, rfl, ?_⟩
    refine ⟨⟨_, _, .fl, rfl, rfl⟩, ⟨rfl, rfl, rfl⟩, [_], [], .refl _, a, ⟨nm, key, none, 7919, mm, k, hs, [], none, 0, []⟩, [], [], rfl, rfl, .inl ⟨rfl, rfl⟩, m8, fun n r => ?_⟩
    exact ⟨_, mc_close1 (is := [0, 0, 0]) okM rfl, q⟩
end Hx

end
section
variable {P : Program} {w : World} {K : PySem.W.Frag} {mg : Str → Option Value} {base : Heap}
local macro_rules | `(tactic| get_elem_tactic_trivial) => `(tactic| (repeat first | exact Wk.nil | exact Wk'.nil | refine Wk.same ?_ | refine Wk'.same ?_ | refine Wk.un (fun _ z => nomatch z) ?_ | refine Wk'.un ?_))
/-! a hand turned, refused -/
namespace Hx
def wMcTurnX : W3F := fun ps μ Ψ Ξ => ∃ (a : Addr) (M : Mst) (p : Int) (x : Hx), ps = [.dat (.adr a), .dat (.int p), .dat x.d] ∧ μ = [(a, .pk (mcI M))] ∧ p.natAbs < 2 ^ 40 ∧ x.ok ∧ (¬ (0 ≤ p ∧ p < M.hs.length) ∨ ∃ j : Nat, p = (j : Nat) ∧ j < M.hs.length ∧ (Ht.sq false ((M.hs.map Hx.hd).set j x)).r M.m = false) ∧ Ξ "BadMachine" (.str "hands") ps μ
theorem okMachineTurn (T : Tx K mg) : FnOk P w K mg base (L2N.CX P w) 6 (He.ma K (He.ga K "Machine") "turn") T.fdMachineTurn ["self", "place", "hand"] (sp3 K 3 wMcTurnX) := by
  have B := T.B
  have GIsWithin : FnOk P w K mg base CX0 2 (He.ga K "is_within") T.fdIsWithin ["thing", "least", "greatest"] _ := FnOk.up3 (okIsWithin T)
  have bIsWithin := T.bIsWithin
  have GStartErrorInit : FnOk P w K mg base CX0 1 (He.ma K (He.ga K "StartError") "__init__") T.fdStartErrorInit ["self", "what"] (spInitE K) := okStartErrorInit T
  have bStartErrorInit := T.bStartErrorInit
  have GAreHands : FnOk P w K mg base CX0 1 (He.ga K "are_hands") T.fdAreHands ["thing", "many"] _ := FnOk.up3 (Hx.okAreHands T)
  have bAreHands := T.bAreHands
  obtain ⟨_, kbAreHands_2⟩ := T.kbAreHands_2
  obtain ⟨_, kbIsWithin_3⟩ := T.kbIsWithin_3
  refine T.FMachineTurn.ok scMachineTurn (fun vs H Q E h => h.1) (fun cdv A outer s H vs Q E hr h => ?_)
  refine ⟨_, (pss_cons (ps_if (pt_not (pt_val (asPE (tCall3 3 0 _ _ _ _ _) (pe_call3 (ks := []) GIsWithin (hr.mono (by decide)) (by rfl) T.gIsWithin T.FIsWithin.kp kbIsWithin_3 (pass0S (fun cls d _ H => E cls d H)) (pa_cons (pv 1) (pa_cons pe_int (pa_cons (pe_op op_sub (pe_callB (show CallR _ _ (rLen K) from call_len) (by rfl) B.b_len PySem.boot_len (pa_cons (asPE (tFld3 K _ "hands") (pe_fld (pv 0) rfl)) pa_nil)) pe_int) pa_nil))) pk_nil)))) (pss_one (ps_raiseD rfl (L2N.takes_of rfl rfl rfl rfl) (pmk_errD (err_cl T.er (c := "BadMachine") (by decide +kernel)) GStartErrorInit (hr.mono (by decide)) bStartErrorInit (by rfl) T.gBadMachine (by exact (pa_cons pe_str pa_nil))))) pss_nil)
        (pss_cons (ps_set (i := 3) scMachineTurn.nd rfl (.inl rfl) (pe_callTy (show CallR _ _ (cList K) from call_list_of) (by rfl) B.b_list PyProof.Rows.boot_list (pa_cons (asPE (tFld3 K _ "hands") (pe_fld (pv 0) rfl)) pa_nil)))
        (pss_cons (ps_asg (pv 2) (pg_sub (pv 3) (pv 1) set_list))
        (pss_cons (ps_if (pt_not (pt_val (asPE (tCall3 2 0 _ _ _ _ _) (pe_call3 (ks := []) GAreHands (hr.mono (by decide)) (by rfl) T.gAreHands T.FAreHands.kp kbAreHands_2 (pass0S (fun cls d _ H => E cls d H)) (pa_cons (pv 3) (pa_cons (asPE (tFld3 K _ "many") (pe_fld (pv 0) rfl)) pa_nil)) pk_nil)))) (pss_one (ps_raiseD rfl (L2N.takes_of rfl rfl rfl rfl) (pmk_errD (err_cl T.er (c := "BadMachine") (by decide +kernel)) GStartErrorInit (hr.mono (by decide)) bStartErrorInit (by rfl) T.gBadMachine (by exact (pa_cons pe_str pa_nil))))) pss_nil)
        (pss_one (asPS (sFld K _ _ "hands") (ps_fld (pv 0) (pv 3) rfl))))))), ?_⟩
  refine body3o h (fun ps μ Ψ Ξ hw hl m em => ?_)
  obtain ⟨a, M, p, x, rfl, rfl, hp, ox, hc, q⟩ := hw
  obtain ⟨n, r, em, ok⟩ := mc_open em
  rw [em]
  have hl6 := ok.h6
  have m8 := ok.m8
  have lh : (M.hs.map Hd.d).length = M.hs.length := List.length_map ..
  have nn : p.natAbs < 2 ^ 1900 := Nat.lt_of_lt_of_le hp (Nat.pow_le_pow_right (by decide) (by decide))
  refine ⟨0, _, _, _, rfl, .lst (M.hs.map Hd.d), rfl, ⟨rfl, rfl, rfl⟩, [], _, .refl _, .int p, 0, ((M.hs.map Hd.d).length : Nat) - 1, rfl, (nice_int nn).mono (by decide) (by decide), ?_⟩
  rcases hc with hc | ⟨j, rfl, hj, hc⟩
  · refine ifT ?_ ⟨"BadMachine", rfl, _, mc_close1 (is := [0, 0, 0]) ok rfl, q⟩
    show (!(decide ((0 : Int) ≤ p) && decide (p ≤ ((M.hs.map Hd.d).length : Nat) - 1))) = true
    rw [Bool.not_eq_true', Bool.and_eq_false_iff]
    by_cases h0 : 0 ≤ p
    · exact .inr (decide_eq_false (fun z => hc ⟨h0, by omega⟩))
    · exact .inl (decide_eq_false h0)
  refine ifF ?_ ?_
  · show (!(decide ((0 : Int) ≤ (j : Nat)) && decide (((j : Nat) : Int) ≤ ((M.hs.map Hd.d).length : Nat) - 1))) = false
    rw [decide_eq_true (by omega), decide_eq_true (by omega)]
    rfl
  have ij : ixN (M.hs.map Hd.d).length (j : Int) = some j := by
    have z := ix_board (n := (M.hs.map Hd.d).length) (b := (j : Int)) (by omega) (by omega)
    rw [Int.toNat_natCast] at z
    exact z
  have es : (M.hs.map Hd.d).set j x.d = ((M.hs.map Hx.hd).set j x).map Hx.d := by
    rw [List.map_set, List.map_map]
    rfl
  refine ⟨0, _, _, _, rfl, .lst (M.hs.map Hd.d), rfl, j, ij, ?_⟩
  rw [es]
  refine ⟨0, _, _, _, rfl, .int (M.m : Nat), rfl, ⟨rfl, rfl, rfl⟩, [], _, .refl _, .sq false ((M.hs.map Hx.hd).set j x), M.m, rfl, ⟨fun y hy => ?_, by rw [List.length_set, List.length_map]; omega⟩, m8, ?_⟩
  · rcases List.mem_or_eq_of_mem_set hy with z | rfl
    · obtain ⟨h, hh, rfl⟩ := List.mem_map.mp z
      exact ok.ho h hh
    · exact ox
  exact ifT (by rw [hc]; rfl) ⟨"BadMachine", rfl, _, mc_close1 (is := [0, 0, 0]) ok rfl, q⟩
end Hx

end
section
variable {P : Program} {w : World} {K : PySem.W.Frag} {mg : Str → Option Value} {base : Heap}
local macro_rules | `(tactic| get_elem_tactic_trivial) => `(tactic| (repeat first | exact Wk.nil | exact Wk'.nil | refine Wk.same ?_ | refine Wk'.same ?_ | refine Wk.un (fun _ z => nomatch z) ?_ | refine Wk'.un ?_))
/-! what making a machine says -/
def dueR (dn dk : Dt) (t : Ht) (m : Nat) (s : Str) : Prop := (isNameD dn = false ∧ s = "name") ∨ (∃ nm, dn = nD nm ∧ Gd nm ∧ ((numW 0 1000000 dk = false ∧ s = "key") ∨ ∃ key : Int, dk = .int key ∧ 0 ≤ key ∧ key ≤ 1000000 ∧ ((t.r m = false ∧ s = "hands") ∨ (t.r m = true ∧ s = ""))))
def wTold32 : W3F := fun ps μ Ψ _ => ∃ (dn dk : Dt) (t : Ht) (m : Nat) (s : Str), ps = [.dat dn, .dat dk, .dat t.d, .dat (.int (m : Nat))] ∧ μ = [] ∧ Nice 60 8000 dn ∧ Nice 60 8000 dk ∧ t.ok ∧ 1 ≤ m ∧ m ≤ 8 ∧ dueR dn dk t m s ∧ Ψ (.dat (.str s)) ps []
theorem Tx.kbMachineInit_4_many_fixed {K : PySem.W.Frag} {mg : Str → Option Value} (T : Tx K mg) : ∃ g : List Value → List Value → List Value, KBn K T.fdMachineInit ["self", "name", "key", "hands", "mixing", "many", "fixed"] 4 ["many", "fixed"] g (gB [0, 1, 2, 3, 6, 4, 5] [.non]) := kbKw T.FMachineInit 4 ["many", "fixed"] [0, 1, 2, 3, 6, 4, 5] [("mixing", .non)] (by simp) (by simp) fun D doc pm an cdv ct us mv ws h1 h2 h3 => match us, mv, ws, h1, h2, h3 with
  | [u0, u1, u2, u3], [m0], [w0, w1], _, _, _ => ⟨_, _, _, _, _, _, rfl, rfl, rfl⟩
theorem okLTold (T : Tx K mg) : FnOk P w K mg base CX0 8 (He.ga K "_law_told") T.fdLTold ["_law_name", "_law_key", "_law_hands_here", "_law_size"] (sp3 K 4 wTold32) := by
  have B := T.B
  have GMachineInit : FnOk P w K mg base (L2.CX P w) 6 (He.ma K (He.ga K "Machine") "__init__") T.fdMachineInit ["self", "name", "key", "hands", "mixing", "many", "fixed"] (sp3 K 7 wMcInitX) := FnOk.nl (Hx.okMachineInit T)
  obtain ⟨_, kbMachineInit_4_many_fixed⟩ := T.kbMachineInit_4_many_fixed
  refine T.FLTold.ok scLTold (fun vs H Q E h => h.1) (fun cdv A outer s H vs Q E hr h => ?_)
  refine ⟨_, PSs.nox (pss_cons (ps_set (i := 4) scLTold.nd rfl (.inl rfl) pe_non)
        (pss_cons (show PS _ _ (tTry K _ 5 _ _ (fun _ _ _ _ => False)) from ps_try_keep (i := 5) (Wo := fun _ _ _ _ => False) rfl rfl rfl scLTold.nd rfl rfl ⟨rfl, by decide, Or.inl T.gStartError⟩ takes0
        (fun W pn xe tk po => (pss_one (ps_expr (asPE (tMake3 _ 3 2 _ _ _ _ _) (pe_make3 (ks := ["many", "fixed"]) T.mkMachine GMachineInit (hr.mono (by decide)) (by rfl) T.gMachine kbMachineInit_4_many_fixed (fun σ => passAt tk σ) (pa_cons (pv 0) (pa_cons (pv 1) (pa_cons (pv 2) pa_nil))) (pk_cons (pv 3) (pk_cons pe_int pk_nil)))))))
        (fun a oe cls d pn hz hf => (pss_one (ps_set (i := 4) scLTold.nd rfl (.inl rfl) (pv 5)))))
        (pss_cons (ps_if (pt_cmpR (show OpR _ _ rIsNone from op_isN) (pv 4) pe_non (nomark _)) (pss_one (ps_ret pe_str)) pss_nil)
        (pss_cons (ps_set (i := 6) scLTold.nd rfl (.inl rfl) (pe_and (pe_callB (show CallR _ _ (rIsC K) from call_isC) (by rfl) B.b_isinstance boot_isinstance (pa_cons (pv 4) (pa_cons (pe_glob (v := .ref (He.ga K "BadMachine")) (by rfl) T.gBadMachine rfl) pa_nil))) (pe_and (pe_callB (show CallR _ _ (rIsC K) from call_isC) (by rfl) B.b_isinstance boot_isinstance (pa_cons (pv 4) (pa_cons (pe_bltn (v := .ty "ValueError") (by rfl) B.b_ValueError (by decide +kernel) rfl) pa_nil))) (pe_one (pe_not (pe_callB (show CallR _ _ (rIsC K) from call_isC) (by rfl) B.b_isinstance boot_isinstance (pa_cons (pv 4) (pa_cons (pe_glob (v := .ref (He.ga K "BadHand")) (by rfl) T.gBadHand rfl) pa_nil))))))))
        (pss_one (ps_ret (pe_ifExp (pt_val (pv 6)) (show PE _ _ (tWhatC K _) from pe_whatC (pv 4)) pe_str))))))), ?_⟩
  refine body3 h (fun ps μ Ψ Ξ hw hl => ?_)
  obtain ⟨dn, dk, t, m, s, rfl, rfl, nn, nk, ok, m1, m8, due, q⟩ := hw
  have hc : ("BadMachine" : Str) ∈ ERRS := by decide +kernel
  refine ⟨⟨rfl, rfl⟩, "Machine", rfl, fun a => ⟨rfl, [], [], .refl _, a, dn, dk, t, m, 0, rfl, rfl, nn, nk, ok, m1, m8, Int.le_refl _, by omega, ?_⟩⟩
  have e1 : IsEv K "BadMachine" (.ref (He.ga K "BadMachine")) true := evOne T hc hc (by decide +kernel)
  have e2 : IsEv K "BadMachine" (.ty "ValueError") true := evV T hc
  have e3 : IsEv K "BadMachine" (.ref (He.ga K "BadHand")) false := evOne T hc (by decide +kernel) (by decide +kernel)
  rcases due with ⟨e, rfl⟩ | ⟨nm, rfl, g, ⟨e, rfl⟩ | ⟨key, rfl, k0, k1, ⟨e, rfl⟩ | ⟨e, rfl⟩⟩⟩
  · refine .inl ⟨e, exRoot T hc, ⟨by decide, by show 5 < 7; decide⟩, rfl, true, e1, true, e2, false, e3, evW T hc, _, .nil, q⟩
  · refine .inr ⟨nm, rfl, g, .inl ⟨e, exRoot T hc, ⟨by decide, by show 5 < 7; decide⟩, rfl, true, e1, true, e2, false, e3, evW T hc, _, .nil, q⟩⟩
  · refine .inr ⟨nm, rfl, g, .inr ⟨key, rfl, k0, k1, .inl ⟨e, exRoot T hc, ⟨by decide, by show 5 < 7; decide⟩, rfl, true, e1, true, e2, false, e3, evW T hc, _, .nil, q⟩⟩⟩
  · refine .inr ⟨nm, rfl, g, .inr ⟨key, rfl, k0, k1, .inr ⟨e, fun M => ⟨rfl, _, .nil, q⟩⟩⟩⟩
end
section
variable {P : Program} {w : World} {K : PySem.W.Frag} {mg : Str → Option Value} {base : Heap}
local macro_rules | `(tactic| get_elem_tactic_trivial) => `(tactic| (repeat first | exact Wk.nil | exact Wk'.nil | refine Wk.same ?_ | refine Wk'.same ?_ | refine Wk.un (fun _ z => nomatch z) ?_ | refine Wk'.un ?_))
/-! what turning a hand says -/
def wTurned32 : W3F := fun ps μ Ψ _ => ∃ (a : Addr) (M : Mst) (p : Int) (x : Hx), ps = [.dat (.adr a), .dat (.int p), .dat x.d] ∧ μ = [(a, .pk (mcI M))] ∧ p.natAbs < 2 ^ 40 ∧ x.ok ∧ (¬ (0 ≤ p ∧ p < M.hs.length) ∨ ∃ j : Nat, p = (j : Nat) ∧ j < M.hs.length ∧ (Ht.sq false ((M.hs.map Hx.hd).set j x)).r M.m = false) ∧ Ψ (.dat (.str "hands")) ps μ
theorem Tx.kbMachineTurn_3 {K : PySem.W.Frag} {mg : Str → Option Value} (T : Tx K mg) : ∃ g : List Value → List Value → List Value, KBn K T.fdMachineTurn ["self", "place", "hand"] 3 [] g (gB [0, 1, 2] []) := kbAllN T.FMachineTurn 3 [] [0, 1, 2] fun kV doc pm an cdv ct us ws h1 h2 => match us, ws, h1, h2 with
  | [u0, u1, u2], [], _, _ => rfl
theorem okLTurned (T : Tx K mg) : FnOk P w K mg base CX0 8 (He.ga K "_law_turned") T.fdLTurned ["_law_machine", "_law_place", "_law_hand"] (sp3 K 3 wTurned32) := by
  have B := T.B
  have GMachineTurn : FnOk P w K mg base (L2.CX P w) 6 (He.ma K (He.ga K "Machine") "turn") T.fdMachineTurn ["self", "place", "hand"] (sp3 K 3 Hx.wMcTurnX) := FnOk.nl (Hx.okMachineTurn T)
  have bMachineTurn := T.bMachineTurn
  obtain ⟨_, kbMachineTurn_3⟩ := T.kbMachineTurn_3
  refine T.FLTurned.ok scLTurned (fun vs H Q E h => h.1) (fun cdv A outer s H vs Q E hr h => ?_)
  refine ⟨_, PSs.nox (pss_cons (ps_set (i := 3) scLTurned.nd rfl (.inl rfl) pe_str)
        (pss_cons (show PS _ _ (tTryT K _ 4 _ _ (fun _ _ _ _ => False)) from ps_try_trk (i := 4) (Wo := fun _ _ _ _ => False) rfl rfl rfl scLTurned.nd rfl rfl ⟨rfl, by decide, Or.inl T.gBadMachine⟩ takes0
        (fun W pn xe tk po => (pss_one (ps_expr (asPE (tMeth3 _ _ 2 0 _ _ _ _ _ _) (pe_meth3 (ks := []) (pv 0) T.clMachine T.mMachineTurn GMachineTurn (hr.mono (by decide)) kbMachineTurn_3 (fun σ => passAt tk σ) (pa_cons (pv 1) (pa_cons (pv 2) pa_nil)) pk_nil)))))
        (fun a pn => (pss_one (ps_set (i := 3) scLTurned.nd rfl (.inl rfl) (show PE _ _ (tWhatC K _) from pe_whatC (pv 4))))))
        (pss_one (ps_ret (pv 3))))), ?_⟩
  refine body3 h (fun ps μ Ψ Ξ hw hl => ?_)
  obtain ⟨a, M, p, x, rfl, rfl, hp, ox, hc, q⟩ := hw
  have hm : ("BadMachine" : Str) ∈ ERRS := by decide +kernel
  refine ⟨⟨_, _, .pk, rfl, rfl⟩, ⟨rfl, rfl, rfl⟩, [_], [], .refl _, a, M, p, x, rfl, rfl, hp, ox, hc, exOwn T hm, ?_⟩
  exact ⟨evW T hm, _, .refl _, q⟩

end
section
variable {P : Program} {w : World} {K : PySem.W.Frag} {mg : Str → Option Value} {base : Heap}
local macro_rules | `(tactic| get_elem_tactic_trivial) => `(tactic| (repeat first | exact Wk.nil | exact Wk'.nil | refine Wk.same ?_ | refine Wk'.same ?_ | refine Wk.un (fun _ z => nomatch z) ?_ | refine Wk'.un ?_))
/-! hands that are refused -/
theorem nm_a : nD [0] = .str "a" := congrArg Dt.str (by decide +kernel)
theorem nm_b : nD [1] = .str "b" := congrArg Dt.str (by decide +kernel)
theorem gd_a : Gd [0] := ⟨by decide, by decide, by decide⟩
theorem gd_b : Gd [1] := ⟨by decide, by decide, by decide⟩
def liarH : Hd := ⟨[0], 1, [], [⟨0, [1], 2⟩]⟩
theorem liar_ok : liarH.ok := ⟨gd_a, by decide, by decide, by decide, by decide, (fun _ z => nomatch z), (fun t ht => by
    rw [List.mem_singleton.mp ht]
    exact ⟨Nat.le_refl _, gd_b, by decide, by decide⟩), (fun i a b z1 z2 => by
    have z2 : ([⟨0, [1], 2⟩] : List Tr)[i + 1]? = some b := z2
    simp at z2)⟩
def farH (z : Nat) : Hd := ⟨[0], 1, if z < 8 then [⟨z, [1], 2⟩] else [], []⟩
theorem far_ok (z : Nat) : (farH z).ok := ⟨gd_a, (by show (0 : Int) ≤ 1; decide), (by show (1 : Int) ≤ 1000000; decide), (by
    show (if z < 8 then [⟨z, [1], 2⟩] else [] : List Tr).length ≤ 3
    split
    · show 1 ≤ 3; decide
    · show 0 ≤ 3; decide), Nat.zero_le _, (fun t ht => by
    have ht : t ∈ (if z < 8 then [⟨z, [1], 2⟩] else [] : List Tr) := ht
    split at ht
    · rw [List.mem_singleton.mp ht]
      exact ⟨by show z ≤ 7; omega, gd_b, (by show (0 : Int) ≤ 2; decide), (by show (2 : Int) ≤ 1000000; decide)⟩
    · nomatch ht), (fun _ z => nomatch z), (fun i a b z1 z2 => by
    have z1 : ([] : List Tr)[i]? = some a := z1
    simp at z1)⟩
theorem cutTo (ds : List Dt) (k : Nat) : cutD ds none (some (k : Int)) = ds.take k := by
  unfold cutD
  rw [HT.sIx_nat, HT.sIx_none, List.drop_zero, Nat.sub_zero]
  rw [List.take_eq_take_iff]
  omega
theorem cutFrom (ds : List Dt) (k : Nat) : cutD ds (some (k : Int)) none = ds.drop k := by
  unfold cutD
  rw [HT.sIx_nat, HT.sIx_none]
  by_cases h : k ≤ ds.length
  · rw [Nat.min_eq_left h, List.take_of_length_le (by rw [List.length_drop]; omega)]
  · rw [Nat.min_eq_right (by omega), List.drop_of_length_le (by omega : ds.length ≤ k), List.drop_of_length_le (Nat.le_refl _), List.take_nil]
theorem r_true {k : Bool} {xs : List Hx} {m : Nat} (e : (Ht.sq k xs).r m = true) : ∃ hs : List Hd, xs = hs.map .hd ∧ hs.length ≤ 6 ∧ (∀ h, hs[0]? = some h → h.ys = []) ∧ ∀ h ∈ hs, ∀ t ∈ h.ls, t.p < m := by
  have e : (decide (1 ≤ xs.length) && decide (xs.length ≤ 6) && xs.all Hx.is && (match hsx xs with | h :: _ => decide (h.ys.length = 0) | [] => false) && (hsx xs).all fun h => h.ls.all fun t => decide (t.p < m)) = true := e
  simp only [Bool.and_eq_true, decide_eq_true_eq] at e
  obtain ⟨⟨⟨⟨e1, e2⟩, e3⟩, e4⟩, e5⟩ := e
  have ex := hsx_all e3
  generalize hsx xs = hs at ex e4 e5
  subst ex
  rw [List.length_map] at e1 e2
  refine ⟨hs, rfl, e2, fun h hh => ?_, fun h hh t ht => of_decide_eq_true (List.all_eq_true.mp (List.all_eq_true.mp e5 h hh) t ht)⟩
  cases hs with
  | nil => cases hh
  | cons a b =>
    cases hh
    exact List.length_eq_zero_iff.mp (of_decide_eq_true e4)
theorem r_no {k : Bool} {xs : List Hx} {m : Nat} (h : ∀ hs : List Hd, xs = hs.map .hd → hs.length ≤ 6 → (∀ h, hs[0]? = some h → h.ys = []) → (∀ h ∈ hs, ∀ t ∈ h.ls, t.p < m) → False) : (Ht.sq k xs).r m = false := by
  cases e : (Ht.sq k xs).r m with
  | false => rfl
  | true =>
    obtain ⟨hs, h1, h2, h3, h4⟩ := r_true e
    exact (h hs h1 h2 h3 h4).elim
theorem r_ot {k : Bool} {xs : List Hx} {m : Nat} {d : Dt} (h : Hx.ot d ∈ xs) : (Ht.sq k xs).r m = false := r_no fun hs e _ _ _ => by
  rw [e] at h
  obtain ⟨g, -, z⟩ := List.mem_map.mp h
  cases z
theorem r_far {k : Bool} {xs : List Hx} {m : Nat} {g : Hd} (h : Hx.hd g ∈ xs) {t : Tr} (ht : t ∈ g.ls) (hm : ¬ t.p < m) : (Ht.sq k xs).r m = false := r_no fun hs e _ _ h4 => by
  rw [e] at h
  obtain ⟨g2, hg, z⟩ := List.mem_map.mp h
  cases z
  exact hm (h4 g hg t ht)
theorem r_lie {k : Bool} {g : Hd} {xs : List Hx} {m : Nat} (h : g.ys ≠ []) : (Ht.sq k (.hd g :: xs)).r m = false := r_no fun hs e _ h3 _ => by
  cases hs with
  | nil => cases e
  | cons a b =>
    have e : Hx.hd g :: xs = Hx.hd a :: b.map .hd := e
    cases e
    exact h (h3 g rfl)
theorem r_len {k : Bool} {xs : List Hx} {m : Nat} (h : 6 < xs.length) : (Ht.sq k xs).r m = false := r_no fun hs e l _ _ => by
  rw [e, List.length_map] at h
  omega
def ten (G : List Dt) (h0 : Hd) : List Dt := [.lst [], .non, .int 7, .str "ab", .lst (G ++ [.non]), .lst [h0.d, .str "a"], .lst ([liarH.d] ++ G.drop 1), .lst (cutD (List.replicate 7 G).flatten none (some 7)), .lst [.lst G], .lst [.tup [.str "a", .int 1]]]
def badR (z : Nat) (d : Dt) : Prop := ∃ t : Ht, d = t.d ∧ t.ok ∧ t.r z = false
theorem bad_sq {z : Nat} {xs : List Hx} {ds : List Dt} (e : ds = xs.map Hx.d) (ok : ∀ x ∈ xs, x.ok) (l : xs.length ≤ 100) (r : (Ht.sq false xs).r z = false) : badR z (.lst ds) := ⟨.sq false xs, by rw [e]; rfl, ⟨ok, l⟩, r⟩
theorem flen7 {α : Type} (n : Nat) (l : List α) : (List.replicate n l).flatten.length = n * l.length := by
  induction n with
  | zero => simp
  | succ n ih => rw [List.replicate_succ, List.flatten_cons, List.length_append, ih, Nat.succ_mul, Nat.add_comm]
theorem ten_bad {z : Nat} {hs hr : List Hd} {h0 : Hd} (e : hs = h0 :: hr) (ok : ∀ h ∈ hs, h.ok) (h6 : hs.length ≤ 6) : ∀ d ∈ ten (hs.map Hd.d) h0, badR z d := by
  have eX : (hs.map Hx.hd).map Hx.d = hs.map Hd.d := by rw [List.map_map]; rfl
  have okX : ∀ x ∈ hs.map Hx.hd, x.ok := fun x hx => by
    obtain ⟨h, hh, rfl⟩ := List.mem_map.mp hx
    exact ok h hh
  have lX : (hs.map Hx.hd).length = hs.length := List.length_map ..
  have l1 : 1 ≤ hs.length := by rw [e]; exact Nat.succ_le_succ (Nat.zero_le _)
  have one : ∀ {x y : Hx}, x ∈ [y] → x = y := fun h => List.mem_singleton.mp h
  intro d hd
  simp only [ten, List.mem_cons, List.mem_nil_iff, or_false] at hd
  rcases hd with rfl | rfl | rfl | rfl | rfl | rfl | rfl | rfl | rfl | rfl
  · exact bad_sq (xs := []) rfl (fun _ h => nomatch h) (by decide) rfl
  · exact ⟨.no .non, rfl, ⟨rfl, rfl, rfl⟩, rfl⟩
  · exact ⟨.no (.int 7), rfl, ⟨rfl, rfl, rfl⟩, rfl⟩
  · exact ⟨.no (.str "ab"), rfl, ⟨rfl, rfl, rfl⟩, rfl⟩
  · refine bad_sq (xs := hs.map Hx.hd ++ [.ot .non]) (by rw [List.map_append, eX]; rfl) (fun x hx => ?_) (by rw [List.length_append, lX]; show _ + 1 ≤ _; omega) (r_ot (List.mem_append_right _ (List.mem_singleton.mpr rfl)))
    rcases List.mem_append.mp hx with z | z
    · exact okX x z
    · rw [one z]
      rfl
  · refine bad_sq (xs := [.hd h0, .ot (.str "a")]) rfl (fun x hx => ?_) (by show 2 ≤ 100; decide) (r_ot (List.mem_cons_of_mem _ (List.mem_singleton.mpr rfl)))
    simp only [List.mem_cons, List.mem_nil_iff, or_false] at hx
    rcases hx with rfl | rfl
    · exact ok h0 (by rw [e]; exact List.mem_cons_self ..)
    · rfl
  · refine bad_sq (xs := .hd liarH :: (hs.map Hx.hd).drop 1) (by rw [List.map_cons, List.map_drop, eX]; rfl) (fun x hx => ?_) (by rw [List.length_cons, List.length_drop, lX]; omega) (r_lie (fun z => nomatch z))
    rcases List.mem_cons.mp hx with rfl | z
    · exact liar_ok
    · exact okX x (List.mem_of_mem_drop z)
  · have ef : ∀ n : Nat, (List.replicate n (hs.map Hd.d)).flatten = ((List.replicate n (hs.map Hx.hd)).flatten).map Hx.d := fun n => by
      rw [List.map_flatten, List.map_replicate, eX]
    have ec : cutD (List.replicate 7 (hs.map Hd.d)).flatten none (some 7) = (((List.replicate 7 (hs.map Hx.hd)).flatten).take 7).map Hx.d := by
      rw [show (some 7 : Option Int) = some ((7 : Nat) : Int) from rfl, cutTo, ef, List.map_take]
    have l7 : (((List.replicate 7 (hs.map Hx.hd)).flatten).take 7).length = 7 := by
      rw [List.length_take, flen7, lX]
      omega
    refine bad_sq ec (fun x hx => ?_) (by omega) (r_len (by omega))
    obtain ⟨l, hl, hx⟩ := List.mem_flatten.mp (List.mem_of_mem_take hx)
    rw [(List.mem_replicate.mp hl).2] at hx
    exact okX x hx
  · refine bad_sq (xs := [.ot (.lst (hs.map Hd.d))]) rfl (fun x hx => ?_) (by show 1 ≤ 100; decide) (r_ot (List.mem_singleton.mpr rfl))
    rw [one hx]
    rfl
  · refine bad_sq (xs := [.ot (.tup [.str "a", .int 1])]) rfl (fun x hx => ?_) (by decide) (r_ot (List.mem_singleton.mpr rfl))
    rw [one hx]
    rfl
theorem two_bad {z a : Nat} {hs : List Hd} (hz : z < 8) (a5 : a ≤ 5) (al : a ≤ hs.length) (ok : ∀ h ∈ hs, h.ok) (h6 : hs.length ≤ 6) : badR z (.lst (cutD ((hs.map Hd.d).take a ++ [(farH z).d] ++ (hs.map Hd.d).drop a) none (some 6))) ∧ badR z (.lst [(farH z).d]) := by
  have eX : (hs.map Hx.hd).map Hx.d = hs.map Hd.d := by rw [List.map_map]; rfl
  have okX : ∀ x ∈ hs.map Hx.hd, x.ok := fun x hx => by
    obtain ⟨h, hh, rfl⟩ := List.mem_map.mp hx
    exact ok h hh
  have lX : (hs.map Hx.hd).length = hs.length := List.length_map ..
  have ef : (⟨z, [1], 2⟩ : Tr) ∈ (farH z).ls := by
    rw [show (farH z).ls = [⟨z, [1], 2⟩] from if_pos hz]
    exact List.mem_singleton.mpr rfl
  constructor
  · have ec : cutD ((hs.map Hd.d).take a ++ [(farH z).d] ++ (hs.map Hd.d).drop a) none (some 6) = (((hs.map Hx.hd).take a ++ [Hx.hd (farH z)] ++ (hs.map Hx.hd).drop a).take 6).map Hx.d := by
      rw [show (some 6 : Option Int) = some ((6 : Nat) : Int) from rfl, cutTo, List.map_take, List.map_append, List.map_append, List.map_take, List.map_drop, eX]
      rfl
    refine bad_sq ec (fun x hx => ?_) (by rw [List.length_take]; omega) (r_far (g := farH z) (List.mem_of_getElem? (i := a) ?_) ef (Nat.lt_irrefl _))
    · rcases List.mem_append.mp (List.mem_of_mem_take hx) with y | y
      · rcases List.mem_append.mp y with y | y
        · exact okX x (List.mem_of_mem_take y)
        · rw [List.mem_singleton.mp y]
          exact far_ok z
      · exact okX x (List.mem_of_mem_drop y)
    · have lt : ((hs.map Hx.hd).take a).length = a := by rw [List.length_take, lX]; omega
      rw [List.getElem?_take_of_lt (by omega), List.append_assoc, List.getElem?_append_right (by omega), lt, Nat.sub_self]
      rfl
  · refine bad_sq (xs := [.hd (farH z)]) rfl (fun x hx => ?_) (by show 1 ≤ 100; decide) (r_far (g := farH z) (List.mem_singleton.mpr rfl) ef (Nat.lt_irrefl _))
    rw [List.mem_singleton.mp hx]
    exact far_ok z
def wBadH : W3F := fun ps μ Ψ _ => ∃ (n : Int) (W : Wd), ps = [.box n, .dat W.d] ∧ μ = [] ∧ n < 700000000 ∧ W.ok ∧ ∀ (ds : List Dt) (m : Int), (∀ d ∈ ds, badR W.z d) → ds ≠ [] → ds.length ≤ 12 → m ≤ n + 1 → Ψ (.new ds) [.box m, .dat W.d] []
theorem Tx.kbLMadeHand_1 {K : PySem.W.Frag} {mg : Str → Option Value} (T : Tx K mg) : ∃ g : List Value → List Value → List Value, KBn K T.fdLMadeHand ["_law_hand"] 1 [] g (gB [0] []) := kbAllN T.FLMadeHand 1 [] [0] fun kV doc pm an cdv ct us ws h1 h2 => match us, ws, h1, h2 with
  | [u0], [], _, _ => rfl
theorem Tx.kbHandInit_3_lies {K : PySem.W.Frag} {mg : Str → Option Value} (T : Tx K mg) : ∃ g : List Value → List Value → List Value, KBn K T.fdHandInit ["self", "name", "body", "loads", "lies"] 3 ["lies"] g (gB [0, 1, 2, 4, 3] [.ref (kda K ("Hand", some "__init__") "loads")]) := kbKw T.FHandInit 3 ["lies"] [0, 1, 2, 4, 3] [("loads", .ref (kda K ("Hand", some "__init__") "loads"))] (by simp) (by simp) fun D doc pm an cdv ct us mv ws h1 h2 h3 => match us, mv, ws, h1, h2, h3 with
  | [u0, u1, u2], [m0], [w0], _, _, _ => ⟨_, _, _, _, _, _, rfl, rfl, rfl⟩
theorem Tx.kbHandInit_3_loads {K : PySem.W.Frag} {mg : Str → Option Value} (T : Tx K mg) : ∃ g : List Value → List Value → List Value, KBn K T.fdHandInit ["self", "name", "body", "loads", "lies"] 3 ["loads"] g (gB [0, 1, 2, 3, 4] [.ref (kda K ("Hand", some "__init__") "lies")]) := kbKw T.FHandInit 3 ["loads"] [0, 1, 2, 3, 4] [("lies", .ref (kda K ("Hand", some "__init__") "lies"))] (by simp) (by simp) fun D doc pm an cdv ct us mv ws h1 h2 h3 => match us, mv, ws, h1, h2, h3 with
  | [u0, u1, u2], [m0], [w0], _, _, _ => ⟨_, _, _, _, _, _, rfl, rfl, rfl⟩
theorem okLBadHands (T : Tx K mg) : FnOk P w K mg base CX0 8 (He.ga K "_law_bad_hands") T.fdLBadHands ["_law_box_here", "_law_w"] (sp3 K 2 wBadH) := by
  have B := T.B
  have GLMadeHand : FnOk P w K mg base CX0 7 (He.ga K "_law_made_hand") T.fdLMadeHand ["_law_hand"] _ := FnOk.up3 (okLMadeHand T)
  have bLMadeHand := T.bLMadeHand
  have GHandInit : FnOk P w K mg base CX0 5 (He.ma K (He.ga K "Hand") "__init__") T.fdHandInit ["self", "name", "body", "loads", "lies"] (sp3 K 5 wHandI3) := Hn3.okHandInit T
  have GLTake : FnOk P w K mg base CX0 1 (He.ga K "_law_take") T.fdLTake ["_law_box_here", "_law_size"] (spD K 2 wTake) := okTakeD T
  have bLTake := T.bLTake
  haveI : Dw K [V.ref (kda K ("Hand", some "__init__") "lies")] [Dt.tup []] := ⟨fun C => .cons (dw_tup T.tdHandInit_lies C) .nil⟩
  haveI : Dw K [V.ref (kda K ("Hand", some "__init__") "loads")] [Dt.tup []] := ⟨fun C => .cons (dw_tup T.tdHandInit_loads C) .nil⟩
  obtain ⟨_, kbHandInit_3_lies⟩ := T.kbHandInit_3_lies
  obtain ⟨_, kbHandInit_3_loads⟩ := T.kbHandInit_3_loads
  obtain ⟨_, kbLMadeHand_1⟩ := T.kbLMadeHand_1
  refine T.FLBadHands.ok scLBadHands (fun vs H Q E h => h.1) (fun cdv A outer s H vs Q E hr h => ?_)
  refine ⟨_, PSs.nox (pss_cons (ps_setLc (i := 2) (own := [("_law_hand", 3)]) (g := gName 3) (tt := tYes) (by rfl) scLBadHands.nd rfl rfl (sw_true rfl rfl rfl (by decide +kernel)) (piAny (K := K) rfl (asPE (tDGet _ _) (pe_dget (Nat.lt_of_le_of_lt (Nat.add_le_add_left (by decide : 1 ≤ 64) _) hr.units) (pv 1) pe_str (fun _ _ => rfl)))) (blkOk_by (own := [("_law_hand", 3)]) (N := ["_law_box_here", "_law_w", "_law_good", "_law_hand", "_law_liar", "_law_far", "_law_some", "_law_at"]) (sc := defScope sLBadHands) (by decide +kernel)) (fun _ _ _ _ _ => by exact (pg_name (i := 3) scLBadHands.nd rfl (Or.inl rfl))) (fun _ _ _ _ _ => pts_nil) (fun _ _ _ _ _ => (asPE (tCall3 1 0 _ _ _ _ _) (pe_call3 (ks := []) GLMadeHand (hr.mono (by decide)) (by rfl) T.gLMadeHand T.FLMadeHand.kp kbLMadeHand_1 (pass0S (fun cls d _ H => E cls d H)) (pa_cons (pv 3) pa_nil) pk_nil))))
        (pss_cons (ps_par (i := 4) (j := 5) (by rfl) scLBadHands.nd rfl rfl (by decide) rfl rfl (pa_cons (peCool3 (asPE (tMake3 _ 2 1 _ _ _ _ _) (pe_make3 (ks := ["lies"]) T.mkHand GHandInit (hr.mono (by decide)) (by rfl) T.gHand kbHandInit_3_lies (pass0S (fun cls d _ H => E cls d H)) (pa_cons pe_str (pa_cons pe_int pa_nil)) (pk_cons (pe_lst (pa_cons (pe_tup (pa_cons pe_int (pa_cons pe_str (pa_cons pe_int pa_nil)))) pa_nil)) pk_nil)))) (pa_cons (peCool3 (asPE (tMake3 _ 2 1 _ _ _ _ _) (pe_make3 (ks := ["loads"]) T.mkHand GHandInit (hr.mono (by decide)) (by rfl) T.gHand kbHandInit_3_loads (pass0S (fun cls d _ H => E cls d H)) (pa_cons pe_str (pa_cons pe_int pa_nil)) (pk_cons (pe_ifExp (pt_cmpR op_lt (asPE (tDGet _ _) (pe_dget (Nat.lt_of_le_of_lt (Nat.add_le_add_left (by decide : 1 ≤ 64) _) hr.units) (pv 1) pe_str (fun _ _ => rfl))) pe_int (nomark _)) (pe_lst (pa_cons (pe_tup (pa_cons (asPE (tDGet _ _) (pe_dget (Nat.lt_of_le_of_lt (Nat.add_le_add_left (by decide : 1 ≤ 64) _) hr.units) (pv 1) pe_str (fun _ _ => rfl))) (pa_cons pe_str (pa_cons pe_int pa_nil)))) pa_nil)) (pe_lst pa_nil)) pk_nil)))) pa_nil)) (by rfl))
        (pss_cons (ps_set (i := 6) scLBadHands.nd rfl (.inl rfl) (pe_lst (pa_cons (pe_lst pa_nil) (pa_cons pe_non (pa_cons pe_int (pa_cons pe_str (pa_cons (pe_op op_cat (pv 2) (pe_lst (pa_cons pe_non pa_nil))) (pa_cons (pe_lst (pa_cons (pe_ix (show IxR _ (rIx K) from ix_seq) (pv 2) pe_int (fun _ _ => rfl)) (pa_cons pe_str pa_nil))) (pa_cons (pe_op op_cat (pe_lst (pa_cons (pv 4) pa_nil)) (pe_slice (show SlR _ (rSlL K) from sl_list) (pv 2) (po_some pe_int) po_none)) (pa_cons (pe_slice (show SlR _ (rSlL K) from sl_list) (pe_op op_rep (pv 2) pe_int) po_none (po_some pe_int)) (pa_cons (pe_lst (pa_cons (pv 2) pa_nil)) (pa_cons (pe_lst (pa_cons (pe_tup (pa_cons pe_str (pa_cons pe_int pa_nil))) pa_nil)) pa_nil))))))))))))
        (pss_cons (ps_if (pt_cmpR op_lt (asPE (tDGet _ _) (pe_dget (Nat.lt_of_le_of_lt (Nat.add_le_add_left (by decide : 1 ≤ 64) _) hr.units) (pv 1) pe_str (fun _ _ => rfl))) pe_int (nomark _)) (pss_cons (ps_set (i := 7) scLBadHands.nd rfl (.inl rfl) (pe_call GLTake (hr.mono (by decide)) (by rfl) T.gLTake T.FLTake.kp bLTake .nil pass0 (pa_cons (pv 0) (pa_cons (pe_callB (show CallR _ _ cMin2 from call_min2 rfl) (by rfl) B.b_min boot_min (pa_cons pe_int (pa_cons (pe_op op_add (pe_callB (show CallR _ _ (rLen K) from call_len) (by rfl) B.b_len PySem.boot_len (pa_cons (pv 2) pa_nil)) pe_int) pa_nil))) pa_nil))))
        (pss_one (ps_set (i := 6) scLBadHands.nd rfl (.inl rfl) (pe_op op_cat (pv 6) (pe_lst (pa_cons (pe_slice (show SlR _ (rSlL K) from sl_list) (pe_op op_cat (pe_op op_cat (pe_slice (show SlR _ (rSlL K) from sl_list) (pv 2) po_none (po_some (pv 7))) (pe_lst (pa_cons (pv 5) pa_nil))) (pe_slice (show SlR _ (rSlL K) from sl_list) (pv 2) (po_some (pv 7)) po_none)) po_none (po_some pe_int)) (pa_cons (pe_lst (pa_cons (pv 5) pa_nil)) pa_nil))))))) pss_nil)
        (pss_one (ps_ret (pv 6))))))), ?_⟩
  refine body3 h (fun ps μ Ψ Ξ hw hl => ?_)
  obtain ⟨n, W, rfl, rfl, hn, ok, q⟩ := hw
  have sz : sizeLine = 16777216 := by decide
  have hs := ok.hs
  have h6 := hs.h6
  have z1 := ok.z1
  have z8 := ok.z8
  refine ⟨WK, W.ds, .inr "hands", .lst (W.hs.map Hd.t), .cold, rfl, rfl, ?_⟩
  refine ⟨⟨rfl, rfl⟩, fun j acc ρ μ => acc = ((W.hs.take j).map Hd.d) ∧ ρ = [.box n, .dat W.d, .un, .un, .un, .un, .un, .un] ∧ μ = [], ⟨rfl, rfl, rfl⟩, ?_, ?_⟩
  · rintro j acc ρ μ d hd ⟨rfl, rfl, rfl⟩
    rw [List.getElem?_map] at hd
    obtain ⟨h, hh, rfl⟩ := Option.map_eq_some_iff.mp hd
    have hlt := (List.getElem?_eq_some_iff.mp hh).1
    refine ⟨⟨rfl, rfl, rfl⟩, [], [], .refl _, h, rfl, hs.ho h (List.mem_of_getElem? hh), rfl, by rw [List.length_map, List.length_take]; omega, ?_, rfl, rfl⟩
    rw [take_at hh, List.map_append]
    rfl
  rintro acc ρ μ ⟨rfl, rfl, rfl⟩
  rw [List.length_map, List.take_length]
  refine ⟨rfl, ?_⟩
  refine ⟨by show 3 ≤ sizeLine; decide, by show 1 ≤ sizeLine; decide, ⟨rfl, rfl⟩, "Hand", rfl, fun x => ?_⟩
  refine ⟨rfl, [], [], .refl _, x, liarH, true, false, ?_, rfl, liar_ok, (fun z => nomatch z), .ins "Hand" HF liarH.fs, [], .refl _, ?_⟩
  · show _ = [Sl.dat (.adr x), Sl.dat (nD [0]), Sl.dat (.int 1), Sl.dat (.tup []), Sl.dat (.lst [.tup [.int 0, nD [1], .int 2]])]
    rw [nm_a, nm_b]
    rfl
  refine ⟨WK, W.ds, .inr "size", .int (W.z : Nat), .cold, rfl, rfl, ?_⟩
  obtain ⟨h0, hr, ehs⟩ : ∃ h0 hr, W.hs = h0 :: hr := by
    have hn := hs.hn
    cases e : W.hs with
    | nil => exact absurd e hn
    | cons a b => exact ⟨a, b, rfl⟩
  obtain ⟨G, eG⟩ : ∃ G, W.hs.map Hd.d = G := ⟨_, rfl⟩
  have lG : G.length = W.hs.length := by rw [← eG, List.length_map]
  have l1 : 1 ≤ G.length := by rw [lG, ehs]; exact Nat.succ_le_succ (Nat.zero_le _)
  have e0 : atI G 0 = some h0.d := atI_nat (j := 0) (by rw [← eG, ehs]; rfl)
  rw [eG]
  by_cases hz : W.z < 8
  · refine ifT (decide_eq_true (by omega)) ?_
    refine ⟨WK, W.ds, .inr "size", .int (W.z : Nat), .cold, rfl, rfl, ?_⟩
    have el : (farH W.z).ls = [⟨W.z, [1], 2⟩] := if_pos hz
    refine ⟨by show 3 ≤ sizeLine; decide, by show 1 ≤ sizeLine; decide, ⟨rfl, rfl⟩, "Hand", rfl, fun y => ⟨rfl, [], [], .refl _, y, farH W.z, false, true, ?_, rfl, far_ok _, fun _ => rfl, .ins "Hand" HF (farH W.z).fs, [], .refl _, ?_⟩⟩
    · show _ = [Sl.dat (.adr y), Sl.dat (nD [0]), Sl.dat (.int 1), Sl.dat (.lst ((farH W.z).ls.map Tr.d)), Sl.dat (.tup [])]
      rw [el]
      show _ = [Sl.dat (.adr y), Sl.dat (nD [0]), Sl.dat (.int 1), Sl.dat (.lst [.tup [.int (W.z : Nat), nD [1], .int 2]]), Sl.dat (.tup [])]
      rw [nm_a, nm_b]
      rfl
    show Fs3.nx _ [.box n, .dat W.d, .hot G, .un, .dat liarH.d, .dat (farH W.z).d, .un, .un] []
    refine ⟨by show 0 ≤ sizeLine; decide, by show 1 ≤ sizeLine; decide, by show G.length + 1 ≤ _; omega, ?_⟩
    refine ⟨h0.d, e0, by show 2 ≤ sizeLine; decide, by show 1 ≤ sizeLine; decide, ?_⟩
    have c1 : cutD G (some 1) none = G.drop 1 := cutFrom G 1
    refine ⟨by show 1 + (cutD G (some 1) none).length ≤ _; rw [c1, List.length_drop]; omega, ⟨by decide, by decide, by show G.length * 7 ≤ _; omega⟩, by show 1 ≤ sizeLine; decide, by show 2 ≤ sizeLine; decide, by show 1 ≤ sizeLine; decide, by show 10 ≤ sizeLine; decide, ?_⟩
    rw [c1]
    show Fs.nx _ [.box n, .dat W.d, .dat (.lst G), .un, .dat liarH.d, .dat (farH W.z).d, .hot (ten G h0), .un]
    refine ⟨WK, W.ds, .inr "size", .int (W.z : Nat), .cold, rfl, rfl, ifT (decide_eq_true (by omega)) ?_⟩
    refine ⟨rfl, ⟨by omega, by show (0 : Int) < if ((G.length : Nat) : Int) + 1 < 6 then ((G.length : Nat) : Int) + 1 else 6; split <;> omega, by show (if ((G.length : Nat) : Int) + 1 < 6 then ((G.length : Nat) : Int) + 1 else 6) < 340282366920938463463374607431768211456; split <;> omega⟩, fun r r0 r1 => ?_⟩
    have r1 : r < if ((G.length : Nat) : Int) + 1 < 6 then ((G.length : Nat) : Int) + 1 else 6 := r1
    obtain ⟨a, rfl⟩ : ∃ a : Nat, r = (a : Int) := ⟨r.toNat, by omega⟩
    have aG : a ≤ G.length ∧ a ≤ 5 := by
      split at r1 <;> omega
    have c2 : cutD G none (some (a : Int)) = G.take a := cutTo G a
    have c3 : cutD G (some (a : Int)) none = G.drop a := cutFrom G a
    have d1 : (cutD G none (some (a : Int))).length = a := by rw [c2, List.length_take]; omega
    have d2 : (cutD G (some (a : Int)) none).length = G.length - a := by rw [c3, List.length_drop]
    refine ⟨by show 1 ≤ sizeLine; decide, by show (cutD G none (some (a : Int))).length + 1 ≤ _; omega, by show (cutD G none (some (a : Int)) ++ [(farH W.z).d]).length + (cutD G (some (a : Int)) none).length ≤ _; rw [List.length_append]; show _ + 1 + _ ≤ _; omega, by show 1 ≤ sizeLine; decide, by show 2 ≤ sizeLine; decide, by show 10 + 2 ≤ sizeLine; decide, ?_⟩
    rw [c2, c3]
    show Fs.nx _ [.box (n + 1), .dat W.d, .dat (.lst G), .un, .dat liarH.d, .dat (farH W.z).d, .hot (ten G h0 ++ [.lst (cutD (G.take a ++ [(farH W.z).d] ++ G.drop a) none (some 6)), .lst [(farH W.z).d]]), .dat (.int (a : Int))]
    have tb := two_bad (z := W.z) hz aG.2 (by omega) hs.ho h6
    rw [eG] at tb
    refine ⟨_, .refl _, q _ _ (fun d hd => ?_) (fun z => nomatch z) (by show 12 ≤ 12; decide) (by omega)⟩
    rcases List.mem_append.mp hd with z | z
    · rw [← eG] at z
      exact ten_bad ehs hs.ho h6 d z
    · simp only [List.mem_cons, List.mem_nil_iff, or_false] at z
      rcases z with rfl | rfl
      · exact tb.1
      · exact tb.2
  · refine ifF (decide_eq_false (by omega)) ?_
    have el : (farH W.z).ls = [] := if_neg hz
    refine ⟨by show 0 ≤ sizeLine; decide, ⟨rfl, rfl⟩, "Hand", rfl, fun y => ⟨rfl, [], [], .refl _, y, farH W.z, false, true, ?_, rfl, far_ok _, fun _ => rfl, .ins "Hand" HF (farH W.z).fs, [], .refl _, ?_⟩⟩
    · show _ = [Sl.dat (.adr y), Sl.dat (nD [0]), Sl.dat (.int 1), Sl.dat (.lst ((farH W.z).ls.map Tr.d)), Sl.dat (.tup [])]
      rw [el, nm_a]
      rfl
    show Fs3.nx _ [.box n, .dat W.d, .hot G, .un, .dat liarH.d, .dat (farH W.z).d, .un, .un] []
    have c1 : cutD G (some 1) none = G.drop 1 := cutFrom G 1
    refine ⟨by show 0 ≤ sizeLine; decide, by show 1 ≤ sizeLine; decide, by show G.length + 1 ≤ _; omega, ?_⟩
    refine ⟨h0.d, e0, by show 2 ≤ sizeLine; decide, by show 1 ≤ sizeLine; decide, ?_⟩
    refine ⟨by show 1 + (cutD G (some 1) none).length ≤ _; rw [c1, List.length_drop]; omega, ⟨by decide, by decide, by show G.length * 7 ≤ _; omega⟩, by show 1 ≤ sizeLine; decide, by show 2 ≤ sizeLine; decide, by show 1 ≤ sizeLine; decide, by show 10 ≤ sizeLine; decide, ?_⟩
    rw [c1]
    show Fs.nx _ [.box n, .dat W.d, .dat (.lst G), .un, .dat liarH.d, .dat (farH W.z).d, .hot (ten G h0), .un]
    refine ⟨WK, W.ds, .inr "size", .int (W.z : Nat), .cold, rfl, rfl, ifF (decide_eq_false (by omega)) ?_⟩
    refine ⟨_, .refl _, q _ _ (fun d hd => ?_) (fun z => nomatch z) (by show 10 ≤ 12; decide) (by omega)⟩
    rw [← eG] at hd
    exact ten_bad ehs hs.ho h6 d hd

end
section
variable {P : Program} {w : World} {K : PySem.W.Frag} {mg : Str → Option Value} {base : Heap}
local macro_rules | `(tactic| get_elem_tactic_trivial) => `(tactic| (repeat first | exact Wk.nil | exact Wk'.nil | refine Wk.same ?_ | refine Wk'.same ?_ | refine Wk.un (fun _ z => nomatch z) ?_ | refine Wk'.un ?_))
/-! one drawn machine -/
def nms : List Dt := [.str "", .str "abcde", .str "A", .non, .int 1, .str "a b"]
def kys : List Dt := [.int (-1), .int 1000001, .bl true, .non, .str "1"]
theorem nms_bad : ∀ d ∈ nms, isNameD d = false ∧ Nice 60 8000 d := fun d hd => by
  simp only [nms, List.mem_cons, List.mem_nil_iff, or_false] at hd
  rcases hd with rfl | rfl | rfl | rfl | rfl | rfl
  · exact ⟨by decide +kernel, (nice_word (by decide +kernel) (by decide +kernel)).mono (by decide) (by decide)⟩
  · exact ⟨by decide +kernel, (nice_word (by decide +kernel) (by decide +kernel)).mono (by decide) (by decide)⟩
  · exact ⟨by decide +kernel, (nice_word (by decide +kernel) (by decide +kernel)).mono (by decide) (by decide)⟩
  · exact ⟨rfl, nice_non.mono (by decide) (by decide)⟩
  · exact ⟨rfl, (nice_small (by decide) (by decide)).mono (by decide) (by decide)⟩
  · exact ⟨by decide +kernel, (nice_word (by decide +kernel) (by decide +kernel)).mono (by decide) (by decide)⟩
theorem kys_bad : ∀ d ∈ kys, numW 0 1000000 d = false ∧ Nice 60 8000 d := fun d hd => by
  simp only [kys, List.mem_cons, List.mem_nil_iff, or_false] at hd
  rcases hd with rfl | rfl | rfl | rfl | rfl
  · exact ⟨by decide +kernel, (nice_small (by decide) (by decide)).mono (by decide) (by decide)⟩
  · exact ⟨by decide +kernel, (nice_small (by decide) (by decide)).mono (by decide) (by decide)⟩
  · exact ⟨rfl, (nice_bl true).mono (by decide) (by decide)⟩
  · exact ⟨rfl, nice_non.mono (by decide) (by decide)⟩
  · exact ⟨rfl, (nice_word (by decide +kernel) (by decide +kernel)).mono (by decide) (by decide)⟩
def asks6 (L : Int) (h0 : Hd) : List Dt := [.tup [.int 0, liarH.d], .tup [.int L, h0.d], .tup [.int (-1), h0.d], .tup [.int 0, .non], .tup [.int (L - 1), .str "a"], .tup [.int 99, h0.d]]
def askR (hs : List Hd) (z : Nat) (d : Dt) : Prop := ∃ (p : Int) (x : Hx), d = .tup [.int p, x.d] ∧ p.natAbs < 2 ^ 40 ∧ x.ok ∧ (¬ (0 ≤ p ∧ p < hs.length) ∨ ∃ j : Nat, p = (j : Nat) ∧ j < hs.length ∧ (Ht.sq false ((hs.map Hx.hd).set j x)).r z = false)
theorem mem_setX {hs : List Hd} {j : Nat} {x : Hx} (h : j < hs.length) : x ∈ (hs.map Hx.hd).set j x := List.mem_of_getElem? (i := j) (List.getElem?_set_self (by rw [List.length_map]; exact h))
theorem asks_bad {hs hr : List Hd} {h0 : Hd} {z : Nat} (e : hs = h0 :: hr) (ok : h0.ok) (h6 : hs.length ≤ 6) : ∀ d ∈ asks6 (hs.length : Nat) h0, askR hs z d := by
  have l1 : 1 ≤ hs.length := by rw [e]; exact Nat.succ_le_succ (Nat.zero_le _)
  intro d hd
  simp only [asks6, List.mem_cons, List.mem_nil_iff, or_false] at hd
  rcases hd with rfl | rfl | rfl | rfl | rfl | rfl
  · refine ⟨0, .hd liarH, rfl, by decide, liar_ok, .inr ⟨0, rfl, by omega, ?_⟩⟩
    rw [e]
    exact r_lie (xs := hr.map Hx.hd) (fun z => nomatch z)
  · exact ⟨_, .hd h0, rfl, by omega, ok, .inl (by omega)⟩
  · exact ⟨_, .hd h0, rfl, by decide, ok, .inl (by omega)⟩
  · exact ⟨0, .ot .non, rfl, by decide, rfl, .inr ⟨0, rfl, by omega, r_ot (mem_setX (by omega))⟩⟩
  · exact ⟨_, .ot (.str "a"), rfl, by omega, rfl, .inr ⟨hs.length - 1, by omega, by omega, r_ot (mem_setX (by omega))⟩⟩
  · exact ⟨_, .hd h0, rfl, by decide, ok, .inl (by omega)⟩
theorem far_bad {hs : List Hd} {z j : Nat} (z8 : z < 8) (h6 : hs.length ≤ 6) (hj : j < hs.length) : askR hs z (.tup [.int (j : Nat), (farH 7).d]) := by
  have ef : (⟨7, [1], 2⟩ : Tr) ∈ (farH 7).ls := List.mem_singleton.mpr rfl
  exact ⟨_, .hd (farH 7), rfl, by omega, far_ok 7, .inr ⟨j, rfl, hj, r_far (mem_setX hj) ef (by show ¬ 7 < z; omega)⟩⟩
def wRight32 : W3F := fun ps μ Ψ _ => ∃ n : Int, ps = [.box n] ∧ μ = [] ∧ n < 500000000 ∧ ∀ m : Int, m ≤ n + 1000 → Ψ (.dat (.bl true)) [.box m] []
theorem Tx.kbLBadHands_2 {K : PySem.W.Frag} {mg : Str → Option Value} (T : Tx K mg) : ∃ g : List Value → List Value → List Value, KBn K T.fdLBadHands ["_law_box_here", "_law_w"] 2 [] g (gB [0, 1] []) := kbAllN T.FLBadHands 2 [] [0, 1] fun kV doc pm an cdv ct us ws h1 h2 => match us, ws, h1, h2 with
  | [u0, u1], [], _, _ => rfl
theorem Tx.kbLFlat_1 {K : PySem.W.Frag} {mg : Str → Option Value} (T : Tx K mg) : ∃ g : List Value → List Value → List Value, KBn K T.fdLFlat ["_law_lists"] 1 [] g (gB [0] []) := kbAllN T.FLFlat 1 [] [0] fun kV doc pm an cdv ct us ws h1 h2 => match us, ws, h1, h2 with
  | [u0], [], _, _ => rfl
theorem Tx.kbLMade_1 {K : PySem.W.Frag} {mg : Str → Option Value} (T : Tx K mg) : ∃ g : List Value → List Value → List Value, KBn K T.fdLMade ["_law_w"] 1 [] g (gB [0] []) := kbAllN T.FLMade 1 [] [0] fun kV doc pm an cdv ct us ws h1 h2 => match us, ws, h1, h2 with
  | [u0], [], _, _ => rfl
theorem Tx.kbLStands_5 {K : PySem.W.Frag} {mg : Str → Option Value} (T : Tx K mg) : ∃ g : List Value → List Value → List Value, KBn K T.fdLStands ["_law_machine", "_law_w", "_law_state", "_law_starts", "_law_rows"] 5 [] g (gB [0, 1, 2, 3, 4] []) := kbAllN T.FLStands 5 [] [0, 1, 2, 3, 4] fun kV doc pm an cdv ct us ws h1 h2 => match us, ws, h1, h2 with
  | [u0, u1, u2, u3, u4], [], _, _ => rfl
theorem Tx.kbLStartRows_1 {K : PySem.W.Frag} {mg : Str → Option Value} (T : Tx K mg) : ∃ g : List Value → List Value → List Value, KBn K T.fdLStartRows ["_law_hands_here"] 1 [] g (gB [0] []) := kbAllN T.FLStartRows 1 [] [0] fun kV doc pm an cdv ct us ws h1 h2 => match us, ws, h1, h2 with
  | [u0], [], _, _ => rfl
theorem Tx.kbLTold_4 {K : PySem.W.Frag} {mg : Str → Option Value} (T : Tx K mg) : ∃ g : List Value → List Value → List Value, KBn K T.fdLTold ["_law_name", "_law_key", "_law_hands_here", "_law_size"] 4 [] g (gB [0, 1, 2, 3] []) := kbAllN T.FLTold 4 [] [0, 1, 2, 3] fun kV doc pm an cdv ct us ws h1 h2 => match us, ws, h1, h2 with
  | [u0, u1, u2, u3], [], _, _ => rfl
theorem Tx.kbLTurned_3 {K : PySem.W.Frag} {mg : Str → Option Value} (T : Tx K mg) : ∃ g : List Value → List Value → List Value, KBn K T.fdLTurned ["_law_machine", "_law_place", "_law_hand"] 3 [] g (gB [0, 1, 2] []) := kbAllN T.FLTurned 3 [] [0, 1, 2] fun kV doc pm an cdv ct us ws h1 h2 => match us, ws, h1, h2 with
  | [u0, u1, u2], [], _, _ => rfl
theorem Tx.kbLWorld_2 {K : PySem.W.Frag} {mg : Str → Option Value} (T : Tx K mg) : ∃ g : List Value → List Value → List Value, KBn K T.fdLWorld ["_law_box_here", "_law_liars"] 2 [] g (gB [0, 1] []) := kbAllN T.FLWorld 2 [] [0, 1] fun kV doc pm an cdv ct us ws h1 h2 => match us, ws, h1, h2 with
  | [u0, u1], [], _, _ => rfl
theorem Tx.kbMachineStart_1 {K : PySem.W.Frag} {mg : Str → Option Value} (T : Tx K mg) : ∃ g : List Value → List Value → List Value, KBn K T.fdMachineStart ["self"] 1 [] g (gB [0] []) := kbAllN T.FMachineStart 1 [] [0] fun kV doc pm an cdv ct us ws h1 h2 => match us, ws, h1, h2 with
  | [u0], [], _, _ => rfl
theorem Tx.kbMachineStep_1 {K : PySem.W.Frag} {mg : Str → Option Value} (T : Tx K mg) : ∃ g : List Value → List Value → List Value, KBn K T.fdMachineStep ["self"] 1 [] g (gB [0] []) := kbAllN T.FMachineStep 1 [] [0] fun kV doc pm an cdv ct us ws h1 h2 => match us, ws, h1, h2 with
  | [u0], [], _, _ => rfl
theorem okLRight (T : Tx K mg) : FnOk P w K mg base CX0 10 (He.ga K "_law_right") T.fdLRight ["_law_box_here"] (sp3 K 1 wRight32) := by
  have B := T.B
  have GLWorld : FnOk P w K mg base CX0 5 (He.ga K "_law_world") T.fdLWorld ["_law_box_here", "_law_liars"] (sp3 K 2 wWorld33) := okLWorld T
  have bLWorld := T.bLWorld
  have GMachineStart : FnOk P w K mg base CX0 4 (He.ma K (He.ga K "Machine") "start") T.fdMachineStart ["self"] (sp3 K 1 wMcStart) := okMachineStart T
  have bMachineStart := T.bMachineStart
  have GLFlat : FnOk P w K mg base CX0 1 (He.ga K "_law_flat") T.fdLFlat ["_law_lists"] _ := FnOk.up3 (okLFlat T)
  have bLFlat := T.bLFlat
  have GLBadHands : FnOk P w K mg base CX0 8 (He.ga K "_law_bad_hands") T.fdLBadHands ["_law_box_here", "_law_w"] (sp3 K 2 wBadH) := okLBadHands T
  have bLBadHands := T.bLBadHands
  have GLMade : FnOk P w K mg base CX0 8 (He.ga K "_law_made") T.fdLMade ["_law_w"] (sp3 K 1 wMade33) := okLMade T
  have bLMade := T.bLMade
  have GHandInit : FnOk P w K mg base CX0 5 (He.ma K (He.ga K "Hand") "__init__") T.fdHandInit ["self", "name", "body", "loads", "lies"] (sp3 K 5 wHandI3) := Hn3.okHandInit T
  have GLSame : FnOk P w K mg base CX0 6 (He.ga K "_law_same") T.fdLSame ["_law_found", "_law_due"] _ := FnOk.up3 (okSameD T 6)
  have bLSame := T.bLSame
  have GLStands : FnOk P w K mg base CX0 8 (He.ga K "_law_stands") T.fdLStands ["_law_machine", "_law_w", "_law_state", "_law_starts", "_law_rows"] (sp3 K 5 wStands33) := okLStands T
  have bLStands := T.bLStands
  have GLMadeHand : FnOk P w K mg base CX0 7 (He.ga K "_law_made_hand") T.fdLMadeHand ["_law_hand"] _ := FnOk.up3 (okLMadeHand T)
  have bLMadeHand := T.bLMadeHand
  have GLTake : FnOk P w K mg base CX0 1 (He.ga K "_law_take") T.fdLTake ["_law_box_here", "_law_size"] (spD K 2 wTake) := okTakeD T
  have bLTake := T.bLTake
  have GLPick : FnOk P w K mg base CX0 2 (He.ga K "_law_pick") T.fdLPick ["_law_box_here", "_law_things"] (spD K 2 wPick) := okLPick T
  have bLPick := T.bLPick
  have GLStartRows : FnOk P w K mg base CX0 3 (He.ga K "_law_start_rows") T.fdLStartRows ["_law_hands_here"] _ := FnOk.up3 (okLStartRows T)
  have bLStartRows := T.bLStartRows
  have GMachineStep : FnOk P w K mg base (L2.CX P w) 7 (He.ma K (He.ga K "Machine") "step") T.fdMachineStep ["self"] (sp3 K 1 wMcStep) := FnOk.nl (okMachineStep T)
  have bMachineStep := T.bMachineStep
  have GLTold : FnOk P w K mg base CX0 8 (He.ga K "_law_told") T.fdLTold ["_law_name", "_law_key", "_law_hands_here", "_law_size"] (sp3 K 4 wTold32) := okLTold T
  have bLTold := T.bLTold
  have GLTurned : FnOk P w K mg base CX0 8 (He.ga K "_law_turned") T.fdLTurned ["_law_machine", "_law_place", "_law_hand"] (sp3 K 3 wTurned32) := okLTurned T
  have bLTurned := T.bLTurned
  haveI : Dw K [V.ref (kda K ("Hand", some "__init__") "lies")] [Dt.tup []] := ⟨fun C => .cons (dw_tup T.tdHandInit_lies C) .nil⟩
  haveI : Dw K [V.ref (kda K ("Hand", some "__init__") "loads")] [Dt.tup []] := ⟨fun C => .cons (dw_tup T.tdHandInit_loads C) .nil⟩
  have CMachineStep := FnOk.calm3 (okMachineStep (P := P) (w := w) (base := base) T)
  obtain ⟨_, kbHandInit_3_lies⟩ := T.kbHandInit_3_lies
  obtain ⟨_, kbHandInit_3_loads⟩ := T.kbHandInit_3_loads
  obtain ⟨_, kbLBadHands_2⟩ := T.kbLBadHands_2
  obtain ⟨_, kbLFlat_1⟩ := T.kbLFlat_1
  obtain ⟨_, kbLMadeHand_1⟩ := T.kbLMadeHand_1
  obtain ⟨_, kbLMade_1⟩ := T.kbLMade_1
  obtain ⟨_, kbLSame_2⟩ := T.kbLSame_2
  obtain ⟨_, kbLStands_5⟩ := T.kbLStands_5
  obtain ⟨_, kbLStartRows_1⟩ := T.kbLStartRows_1
  obtain ⟨_, kbLTold_4⟩ := T.kbLTold_4
  obtain ⟨_, kbLTurned_3⟩ := T.kbLTurned_3
  obtain ⟨_, kbLWorld_2⟩ := T.kbLWorld_2
  obtain ⟨_, kbMachineStart_1⟩ := T.kbMachineStart_1
  obtain ⟨_, kbMachineStep_1⟩ := T.kbMachineStep_1
  refine T.FLRight.ok scLRight (fun vs H Q E h => h.1) (fun cdv A outer s H vs Q E hr h => ?_)
  refine ⟨_, PSs.nox (pss_cons (ps_set (i := 1) scLRight.nd rfl (.inl rfl) (peCool3 (asPE (tCall3 2 0 _ _ _ _ _) (pe_call3 (ks := []) GLWorld (hr.mono (by decide)) (by rfl) T.gLWorld T.FLWorld.kp kbLWorld_2 (pass0S (fun cls d _ H => E cls d H)) (pa_cons (pv 0) (pa_cons pe_bl pa_nil)) pk_nil))))
        (pss_cons (ps_par (i := 2) (j := 3) (by rfl) scLRight.nd rfl rfl (by decide) rfl rfl (pa_cons (pe_lc (own := [("_law_hand", 4)]) (g := gName 4) (tt := tYes) (by rfl) scLRight.nd (piAny (K := K) rfl (asPE (tDGet _ _) (pe_dget (Nat.lt_of_le_of_lt (Nat.add_le_add_left (by decide : 1 ≤ 64) _) hr.units) (pv 1) pe_str (fun _ _ => rfl)))) (blkOk_by (own := [("_law_hand", 4)]) (N := ["_law_box_here", "_law_w", "_law_good", "_law_bad", "_law_hand", "_law_names_here", "_law_keys", "_law_turn", "_law_way", "_law_name", "_law_key", "_law_hands_here", "_law_due", "_law_machine", "_law_rows", "_law_liar", "_law_far", "_law_asks", "_law_place", "_law_found"]) (sc := defScope sLRight) (by decide +kernel)) (fun _ _ _ _ _ => by exact (pg_name (i := 4) scLRight.nd rfl (Or.inl rfl))) (fun _ _ _ _ _ => pts_nil) (fun _ _ _ _ _ => (asPE (tCall3 1 0 _ _ _ _ _) (pe_call3 (ks := []) GLMadeHand (hr.mono (by decide)) (by rfl) T.gLMadeHand T.FLMadeHand.kp kbLMadeHand_1 (pass0S (fun cls d _ H => E cls d H)) (pa_cons (pv 4) pa_nil) pk_nil)))) (pa_cons (asPE (tCall3 2 0 _ _ _ _ _) (pe_call3 (ks := []) GLBadHands (hr.mono (by decide)) (by rfl) T.gLBadHands T.FLBadHands.kp kbLBadHands_2 (pass0S (fun cls d _ H => E cls d H)) (pa_cons (pv 0) (pa_cons (pv 1) pa_nil)) pk_nil)) pa_nil)) (by rfl))
        (pss_cons (ps_par (i := 5) (j := 6) (by rfl) scLRight.nd rfl rfl (by decide) rfl rfl (pa_cons (peVal3 (pe_lst (pa_cons pe_str (pa_cons pe_str (pa_cons pe_str (pa_cons pe_non (pa_cons pe_int (pa_cons pe_str pa_nil)))))))) (pa_cons (peVal3 (pe_lst (pa_cons (pe_un un_neg pe_int) (pa_cons (pe_op op_add (pe_op op_pow pe_int pe_int) pe_int) (pa_cons pe_bl (pa_cons pe_non (pa_cons pe_str pa_nil))))))) pa_nil)) (by rfl))
        (pss_cons (ps_for PassesOwn.never rfl (pi_range1 (by rfl) B.b_range (pa_cons pe_int pa_nil)) (pg_name (i := 7) scLRight.nd rfl (Or.inl rfl))
        (pss_cons (ps_set (i := 8) scLRight.nd rfl (.inl rfl) (pe_op op_add pe_int (pe_call GLTake (hr.mono (by decide)) (by rfl) T.gLTake T.FLTake.kp bLTake .nil pass0 (pa_cons (pv 0) (pa_cons pe_int pa_nil)))))
        (pss_cons (ps_set (i := 9) scLRight.nd rfl (.inl rfl) (pe_ifExp (pt_cmpR (opEqA (K := K) rfl hr.units) (pe_op op_mod (pv 8) pe_int) pe_int (nomark _)) (pe_call GLPick (hr.mono (by decide)) (by rfl) T.gLPick T.FLPick.kp bLPick .nil pass0 (pa_cons (pv 0) (pa_cons (pv 5) pa_nil))) (asPE (tDGet _ _) (pe_dget (Nat.lt_of_le_of_lt (Nat.add_le_add_left (by decide : 1 ≤ 64) _) hr.units) (pv 1) pe_str (fun _ _ => rfl)))))
        (pss_cons (ps_set (i := 10) scLRight.nd rfl (.inl rfl) (pe_ifExp (pt_cmpR (opEqA (K := K) rfl hr.units) (pe_op op_mod (pe_op op_fdiv (pv 8) pe_int) pe_int) pe_int (nomark _)) (pe_call GLPick (hr.mono (by decide)) (by rfl) T.gLPick T.FLPick.kp bLPick .nil pass0 (pa_cons (pv 0) (pa_cons (pv 6) pa_nil))) (asPE (tDGet _ _) (pe_dget (Nat.lt_of_le_of_lt (Nat.add_le_add_left (by decide : 1 ≤ 64) _) hr.units) (pv 1) pe_str (fun _ _ => rfl)))))
        (pss_cons (ps_set (i := 11) scLRight.nd rfl (.inl rfl) (pe_ifExp (pt_cmpR (opEqA (K := K) rfl hr.units) (pe_op op_fdiv (pv 8) pe_int) pe_int (nomark _)) (pe_call GLPick (hr.mono (by decide)) (by rfl) T.gLPick T.FLPick.kp bLPick .nil pass0 (pa_cons (pv 0) (pa_cons (pv 3) pa_nil))) (pe_callTy (show CallR _ _ (cList K) from call_list_of) (by rfl) B.b_list PyProof.Rows.boot_list (pa_cons (pv 2) pa_nil))))
        (pss_cons (ps_set (i := 12) scLRight.nd rfl (.inl rfl) (pe_ifExp (pt_cmpR (opEqA (K := K) rfl hr.units) (pe_op op_mod (pv 8) pe_int) pe_int (nomark _)) pe_str (pe_ifExp (pt_cmpR (opEqA (K := K) rfl hr.units) (pe_op op_mod (pe_op op_fdiv (pv 8) pe_int) pe_int) pe_int (nomark _)) pe_str pe_str)))
        (pss_cons (ps_if (pt_not (pt_val (asPE (tCall3 2 0 _ _ _ _ _) (pe_call3 (ks := []) GLSame (hr.mono (by decide)) (by rfl) T.gLSame T.FLSame.kp kbLSame_2 (pass0S (fun cls d _ H => E cls d H)) (pa_cons (asPE (tCall3 4 0 _ _ _ _ _) (pe_call3 (ks := []) GLTold (hr.mono (by decide)) (by rfl) T.gLTold T.FLTold.kp kbLTold_4 (pass0S (fun cls d _ H => E cls d H)) (pa_cons (pv 9) (pa_cons (pv 10) (pa_cons (pv 11) (pa_cons (asPE (tDGet _ _) (pe_dget (Nat.lt_of_le_of_lt (Nat.add_le_add_left (by decide : 1 ≤ 64) _) hr.units) (pv 1) pe_str (fun _ _ => rfl))) pa_nil)))) pk_nil)) (pa_cons (pv 12) pa_nil)) pk_nil)))) (pss_one (ps_ret pe_bl)) pss_nil)
        (pss_one (ps_if (pt_not (pt_val (asPE (tCall3 2 0 _ _ _ _ _) (pe_call3 (ks := []) GLSame (hr.mono (by decide)) (by rfl) T.gLSame T.FLSame.kp kbLSame_2 (pass0S (fun cls d _ H => E cls d H)) (pa_cons (asPE (tCall3 4 0 _ _ _ _ _) (pe_call3 (ks := []) GLTold (hr.mono (by decide)) (by rfl) T.gLTold T.FLTold.kp kbLTold_4 (pass0S (fun cls d _ H => E cls d H)) (pa_cons (asPE (tDGet _ _) (pe_dget (Nat.lt_of_le_of_lt (Nat.add_le_add_left (by decide : 1 ≤ 64) _) hr.units) (pv 1) pe_str (fun _ _ => rfl))) (pa_cons (asPE (tDGet _ _) (pe_dget (Nat.lt_of_le_of_lt (Nat.add_le_add_left (by decide : 1 ≤ 64) _) hr.units) (pv 1) pe_str (fun _ _ => rfl))) (pa_cons (pe_callTy (show CallR _ _ (cTuple K) from call_tuple_of) (by rfl) B.b_tuple PyProof.Rows.boot_tuple (pa_cons (pv 2) pa_nil)) (pa_cons (asPE (tDGet _ _) (pe_dget (Nat.lt_of_le_of_lt (Nat.add_le_add_left (by decide : 1 ≤ 64) _) hr.units) (pv 1) pe_str (fun _ _ => rfl))) pa_nil)))) pk_nil)) (pa_cons pe_str pa_nil)) pk_nil)))) (pss_one (ps_ret pe_bl)) pss_nil)))))))))
        (pss_cons (ps_asg (pe_tup (pa_cons (asPE (tCall3 1 0 _ _ _ _ _) (pe_call3 (ks := []) GLMade (hr.mono (by decide)) (by rfl) T.gLMade T.FLMade.kp kbLMade_1 (pass0S (fun cls d _ H => E cls d H)) (pa_cons (pv 1) pa_nil) pk_nil)) (pa_cons (asPE (tCall3 1 0 _ _ _ _ _) (pe_call3 (ks := []) GLFlat (hr.mono (by decide)) (by rfl) T.gLFlat T.FLFlat.kp kbLFlat_1 (pass0S (fun cls d _ H => E cls d H)) (pa_cons (asPE (tCall3 1 0 _ _ _ _ _) (pe_call3 (ks := []) GLStartRows (hr.mono (by decide)) (by rfl) T.gLStartRows T.FLStartRows.kp kbLStartRows_1 (pass0S (fun cls d _ H => E cls d H)) (pa_cons (asPE (tDGet _ _) (pe_dget (Nat.lt_of_le_of_lt (Nat.add_le_add_left (by decide : 1 ≤ 64) _) hr.units) (pv 1) pe_str (fun _ _ => rfl))) pa_nil) pk_nil)) pa_nil) pk_nil)) pa_nil))) (show PG _ _ (gTup K 2 _) from pg_tup rfl (pgs_cons (pg_name (i := 13) scLRight.nd rfl (Or.inr rfl)) (pgs_cons (pg_name (i := 14) scLRight.nd rfl (Or.inl rfl)) pgs_nil))))
        (pss_cons (ps_par (i := 15) (j := 16) (by rfl) scLRight.nd rfl rfl (by decide) rfl rfl (pa_cons (peCool3 (asPE (tMake3 _ 2 1 _ _ _ _ _) (pe_make3 (ks := ["lies"]) T.mkHand GHandInit (hr.mono (by decide)) (by rfl) T.gHand kbHandInit_3_lies (pass0S (fun cls d _ H => E cls d H)) (pa_cons pe_str (pa_cons pe_int pa_nil)) (pk_cons (pe_lst (pa_cons (pe_tup (pa_cons pe_int (pa_cons pe_str (pa_cons pe_int pa_nil)))) pa_nil)) pk_nil)))) (pa_cons (peCool3 (asPE (tMake3 _ 2 1 _ _ _ _ _) (pe_make3 (ks := ["loads"]) T.mkHand GHandInit (hr.mono (by decide)) (by rfl) T.gHand kbHandInit_3_loads (pass0S (fun cls d _ H => E cls d H)) (pa_cons pe_str (pa_cons pe_int pa_nil)) (pk_cons (pe_lst (pa_cons (pe_tup (pa_cons pe_int (pa_cons pe_str (pa_cons pe_int pa_nil)))) pa_nil)) pk_nil)))) pa_nil)) (by rfl))
        (pss_cons (ps_set (i := 17) scLRight.nd rfl (.inl rfl) (pe_lst (pa_cons (pe_tup (pa_cons pe_int (pa_cons (pv 15) pa_nil))) (pa_cons (pe_tup (pa_cons (pe_callB (show CallR _ _ (rLen K) from call_len) (by rfl) B.b_len PySem.boot_len (pa_cons (pv 2) pa_nil)) (pa_cons (pe_ix (show IxR _ (rIx K) from ix_seq) (pv 2) pe_int (fun _ _ => rfl)) pa_nil))) (pa_cons (pe_tup (pa_cons (pe_un un_neg pe_int) (pa_cons (pe_ix (show IxR _ (rIx K) from ix_seq) (pv 2) pe_int (fun _ _ => rfl)) pa_nil))) (pa_cons (pe_tup (pa_cons pe_int (pa_cons pe_non pa_nil))) (pa_cons (pe_tup (pa_cons (pe_op op_sub (pe_callB (show CallR _ _ (rLen K) from call_len) (by rfl) B.b_len PySem.boot_len (pa_cons (pv 2) pa_nil)) pe_int) (pa_cons pe_str pa_nil))) (pa_cons (pe_tup (pa_cons pe_int (pa_cons (pe_ix (show IxR _ (rIx K) from ix_seq) (pv 2) pe_int (fun _ _ => rfl)) pa_nil))) pa_nil))))))))
        (pss_cons (ps_set (i := 17) scLRight.nd rfl (.inl rfl) (pe_op op_cat (pv 17) (pe_op op_rep (pe_lst (pa_cons (pe_tup (pa_cons (pe_call GLTake (hr.mono (by decide)) (by rfl) T.gLTake T.FLTake.kp bLTake .nil pass0 (pa_cons (pv 0) (pa_cons (pe_callB (show CallR _ _ (rLen K) from call_len) (by rfl) B.b_len PySem.boot_len (pa_cons (pv 2) pa_nil)) pa_nil))) (pa_cons (pv 16) pa_nil))) pa_nil)) (pe_callTy (show CallR _ _ cInt1 from call_int1) (by rfl) B.b_int PyProof.Rows.boot_int (pa_cons (pe_cmpR op_lt (asPE (tDGet _ _) (pe_dget (Nat.lt_of_le_of_lt (Nat.add_le_add_left (by decide : 1 ≤ 64) _) hr.units) (pv 1) pe_str (fun _ _ => rfl))) pe_int (nomark _)) pa_nil)))))
        (pss_cons (ps_for PassesOwn.never rfl (piAny (K := K) rfl (pv 17)) (show PG _ _ (gTup K 2 _) from pg_tup rfl (pgs_cons (pg_name (i := 18) scLRight.nd rfl (Or.inl rfl)) (pgs_cons (pg_name (i := 4) scLRight.nd rfl (Or.inl rfl)) pgs_nil)))
        (pss_one (ps_if (pt_not (pt_val (asPE (tCall3 2 0 _ _ _ _ _) (pe_call3 (ks := []) GLSame (hr.mono (by decide)) (by rfl) T.gLSame T.FLSame.kp kbLSame_2 (pass0S (fun cls d _ H => E cls d H)) (pa_cons (asPE (tCall3 3 0 _ _ _ _ _) (pe_call3 (ks := []) GLTurned (hr.mono (by decide)) (by rfl) T.gLTurned T.FLTurned.kp kbLTurned_3 (pass0S (fun cls d _ H => E cls d H)) (pa_cons (pv 13) (pa_cons (pv 18) (pa_cons (pv 4) pa_nil))) pk_nil)) (pa_cons pe_str pa_nil)) pk_nil)))) (pss_one (ps_ret pe_bl)) pss_nil)))
        (pss_cons (ps_expr (asPE (tMeth3 _ _ 0 0 _ _ _ _ _ _) (pe_meth30 (ks := []) (pv 13) T.clMachine T.mMachineStart GMachineStart (hr.mono (by decide)) kbMachineStart_1 (pass0S (fun cls d _ H => E cls d H)) pk_nil)))
        (pss_cons (ps_set (i := 19) scLRight.nd rfl (.inl rfl) (asPE (tCall3 1 0 _ _ _ _ _) (pe_call3 (ks := []) GLFlat (hr.mono (by decide)) (by rfl) T.gLFlat T.FLFlat.kp kbLFlat_1 (pass0S (fun cls d _ H => E cls d H)) (pa_cons (pe_lc (own := [("_law_hand", 4)]) (g := gName 4) (tt := tYes) (by rfl) scLRight.nd (piAny (K := K) rfl (pv 2)) (blkOk_by (own := [("_law_hand", 4)]) (N := ["_law_box_here", "_law_w", "_law_good", "_law_bad", "_law_hand", "_law_names_here", "_law_keys", "_law_turn", "_law_way", "_law_name", "_law_key", "_law_hands_here", "_law_due", "_law_machine", "_law_rows", "_law_liar", "_law_far", "_law_asks", "_law_place", "_law_found"]) (sc := defScope sLRight) (by decide +kernel)) (fun _ _ _ _ _ => by exact (pg_name (i := 4) scLRight.nd rfl (Or.inl rfl))) (fun _ _ _ _ _ => pts_nil) (fun _ _ _ _ _ => (peCool3 (asPE (tMeth3 _ _ 0 0 _ _ _ _ _ _) (pe_meth30 (ks := []) (pv 13) T.clMachine T.mMachineStep CMachineStep (hr.mono (by decide)) kbMachineStep_1 (pass0S (fun cls d _ H => E cls d H)) pk_nil))))) pa_nil) pk_nil)))
        (pss_one (ps_ret (pe_and (asPE (tCall3 2 0 _ _ _ _ _) (pe_call3 (ks := []) GLSame (hr.mono (by decide)) (by rfl) T.gLSame T.FLSame.kp kbLSame_2 (pass0S (fun cls d _ H => E cls d H)) (pa_cons (pv 19) (pa_cons (pv 14) pa_nil)) pk_nil)) (pe_one (asPE (tCall3 5 0 _ _ _ _ _) (pe_call3 (ks := []) GLStands (hr.mono (by decide)) (by rfl) T.gLStands T.FLStands.kp kbLStands_5 (pass0S (fun cls d _ H => E cls d H)) (pa_cons (pv 13) (pa_cons (pv 1) (pa_cons pe_str (pa_cons pe_int (pa_cons (pv 14) pa_nil))))) pk_nil))))))))))))))))), ?_⟩
  refine body3 h (fun ps μ Ψ Ξ hw hl => ?_)
  obtain ⟨n, rfl, rfl, hn, q⟩ := hw
  have sz : sizeLine = 16777216 := by decide
  refine ⟨⟨rfl, rfl, rfl⟩, [], [], .refl _, n, true, rfl, rfl, by omega, fun W m x0 ok hm => ⟨.dic WK W.ds, [], .refl _, ?_⟩⟩
  have hs := ok.hs
  have h6 := hs.h6
  have z1 := ok.z1
  have z8 := ok.z8
  show Fs3.nx _ [.box m, .dat W.d, .un, .un, .un, .un, .un, .un, .un, .un, .un, .un, .un, .un, .un, .un, .un, .un, .un, .un] []
  refine ⟨WK, W.ds, .inr "hands", .lst (W.hs.map Hd.t), .cold, rfl, rfl, ?_⟩
  refine ⟨⟨rfl, rfl⟩, fun j acc ρ μ => acc = ((W.hs.take j).map Hd.d) ∧ ρ = [.box m, .dat W.d, .un, .un, .un, .un, .un, .un, .un, .un, .un, .un, .un, .un, .un, .un, .un, .un, .un, .un] ∧ μ = [], ⟨rfl, rfl, rfl⟩, ?_, ?_⟩
  · rintro j acc ρ μ d hd ⟨rfl, rfl, rfl⟩
    rw [List.getElem?_map] at hd
    obtain ⟨h, hh, rfl⟩ := Option.map_eq_some_iff.mp hd
    have hlt := (List.getElem?_eq_some_iff.mp hh).1
    refine ⟨⟨rfl, rfl, rfl⟩, [], [], .refl _, h, rfl, hs.ho h (List.mem_of_getElem? hh), rfl, by rw [List.length_map, List.length_take]; omega, ?_, rfl, rfl⟩
    rw [take_at hh, List.map_append]
    rfl
  rintro acc ρ μ ⟨rfl, rfl, rfl⟩
  rw [List.length_map, List.take_length]
  obtain ⟨h0, hr, ehs⟩ : ∃ h0 hr, W.hs = h0 :: hr := by
    have hn := hs.hn
    cases e : W.hs with
    | nil => exact absurd e hn
    | cons a b => exact ⟨a, b, rfl⟩
  obtain ⟨G, eG⟩ : ∃ G, W.hs.map Hd.d = G := ⟨_, rfl⟩
  have lG : G.length = W.hs.length := by rw [← eG, List.length_map]
  have l1 : 1 ≤ G.length := by rw [lG, ehs]; exact Nat.succ_le_succ (Nat.zero_le _)
  have e0 : atI G 0 = some h0.d := atI_nat (j := 0) (by rw [← eG, ehs]; rfl)
  rw [eG]
  refine ⟨rfl, ⟨rfl, rfl, rfl⟩, [], [], .refl _, m, W, rfl, rfl, by omega, ok, fun bd m2 hb hne hbl hm2 => ?_⟩
  show Fs3.nx _ [.box m2, .dat W.d, .dat (.lst G), .dat (.lst bd), .un, .un, .un, .un, .un, .un, .un, .un, .un, .un, .un, .un, .un, .un, .un, .un] []
  refine ⟨by show 6 ≤ sizeLine; decide, ⟨by decide, by decide, by decide⟩, by show 5 ≤ sizeLine; decide, ?_⟩
  show Fs3.nx _ [.box m2, .dat W.d, .dat (.lst G), .dat (.lst bd), .un, .dat (.lst nms), .dat (.lst kys), .un, .un, .un, .un, .un, .un, .un, .un, .un, .un, .un, .un, .un] []
  have nnm : Nice 60 8000 (nD W.nm) := (nice_nm ok.g).mono (by decide) (by decide)
  have nky : Nice 60 8000 (.int W.key) := (nice_small (by have := ok.k0; omega) (by have := ok.k1; omega)).mono (by decide) (by decide)
  have okX : ∀ x ∈ W.hs.map Hx.hd, x.ok := fun x hx => by
    obtain ⟨h, hh, rfl⟩ := List.mem_map.mp hx
    exact hs.ho h hh
  have eX : (W.hs.map Hx.hd).map Hx.d = G := by rw [← eG, List.map_map]; rfl
  have lX : (W.hs.map Hx.hd).length = W.hs.length := List.length_map ..
  have tG : ∀ k, (Ht.sq k (W.hs.map Hx.hd)).ok := fun k => ⟨okX, by rw [lX]; omega⟩
  have eL : Dt.lst G = (Ht.sq false (W.hs.map Hx.hd)).d := by rw [← eX]; rfl
  have eT : Dt.tup G = (Ht.sq true (W.hs.map Hx.hd)).d := by rw [← eX]; rfl
  have rG : ∀ k, (Ht.sq k (W.hs.map Hx.hd)).r W.z = true := fun k => by
    show (decide (1 ≤ (W.hs.map Hx.hd).length) && decide ((W.hs.map Hx.hd).length ≤ 6) && (W.hs.map Hx.hd).all Hx.is && (match hsx (W.hs.map Hx.hd) with | h :: _ => decide (h.ys.length = 0) | [] => false) && (hsx (W.hs.map Hx.hd)).all fun h => h.ls.all fun t => decide (t.p < W.z)) = true
    rw [hsx_hd, lX, decide_eq_true (by omega), decide_eq_true h6, List.all_map, List.all_eq_true.mpr (fun h hh => List.all_eq_true.mpr fun t ht => decide_eq_true (hs.hb h hh t ht)), show W.hs.all (Hx.is ∘ Hx.hd) = true from List.all_eq_true.mpr (fun h hh => rfl)]
    have y0 : h0.ys = [] := hs.hl h0 (by rw [ehs]; rfl)
    rw [ehs]
    show (true && true && true && decide (h0.ys.length = 0) && true) = true
    rw [y0]
    rfl
  refine ⟨by decide, by decide, fun j ρ μ => ∃ m3 : Int, m3 ≤ m2 + 4 * j ∧ ρ = [.box m3, .dat W.d, .dat (.lst G), .dat (.lst bd), .un, .dat (.lst nms), .dat (.lst kys), .un, .un, .un, .un, .un, .un, .un, .un, .un, .un, .un, .un, .un] ∧ μ = [], To3.of ⟨m2, by omega, rfl, rfl⟩ (by get_elem_tactic_trivial), ?_, ?_⟩
  · rintro j ρ μ d hd ⟨m3, hm3, rfl, rfl⟩
    obtain ⟨hj, rfl⟩ := rng_at hd
    have hj : j < 8 := by omega
    refine ⟨rfl, ⟨by omega, by decide, by decide⟩, fun r r0 r1 => ?_⟩
    have r1 : r < 7 := r1
    have rr : r = 0 ∨ r = 1 ∨ r = 2 ∨ r = 3 ∨ r = 4 ∨ r = 5 ∨ r = 6 := by omega
    rcases rr with rfl | rfl | rfl | rfl | rfl | rfl | rfl
    · refine ⟨by decide, rfl, m3 + 1, nms, rfl, by omega, (fun z => nomatch z), by decide, fun dn hdn => ?_⟩
      obtain ⟨bn, nn⟩ := nms_bad dn hdn
      refine ⟨⟨by decide, by decide⟩, by decide, WK, W.ds, .inr "key", .int W.key, .cold, rfl, rfl, ?_⟩
      have nk := nky
      refine ⟨⟨by decide, by decide⟩, ?_⟩
      have tok := tG false
      refine ⟨by decide, ?_⟩
      show Fs.nx _ [.box (m3 + 1 + 1), .dat W.d, .dat (.lst G), .dat (.lst bd), .un, .dat (.lst nms), .dat (.lst kys), .dat (.int (0 + (j : Int))), .dat (.int (1 + 0)), .dat dn, .dat (.int W.key), .dat (.lst G), .dat (.str "name"), .un, .un, .un, .un, .un, .un, .un]
      refine ⟨WK, W.ds, .inr "size", .int (W.z : Nat), .cold, rfl, rfl, ⟨rfl, rfl, rfl⟩, [], [], .refl _, dn, (.int W.key), (Ht.sq false (W.hs.map Hx.hd)), W.z, "name", (by rw [← eL]; rfl), rfl, nn, nk, tok, z1, z8, .inl ⟨bn, rfl⟩, ?_⟩
      refine ⟨⟨rfl, rfl, rfl⟩, [], [], .refl _, _, _, rfl, rfl, rfl, by decide, by decide, ?_⟩
      refine ⟨WK, W.ds, .inr "name", nD W.nm, .cold, rfl, rfl, WK, W.ds, .inr "key", .int W.key, .cold, rfl, rfl, WK, W.ds, .inr "size", .int (W.z : Nat), .cold, rfl, rfl, ⟨rfl, rfl, rfl⟩, [], [], .refl _, nD W.nm, .int W.key, .sq true (W.hs.map Hx.hd), W.z, "", (by rw [← eT]; rfl), rfl, nnm, nky, tG true, z1, z8, .inr ⟨W.nm, rfl, ok.g, .inr ⟨W.key, rfl, ok.k0, ok.k1, .inr ⟨rG true, rfl⟩⟩⟩, ?_⟩
      refine ⟨⟨rfl, rfl, rfl⟩, [], [], .refl _, _, _, rfl, rfl, rfl, by decide, by decide, ?_⟩
      exact To3.of ⟨m3 + 1 + 1, (by omega), rfl, rfl⟩ (by get_elem_tactic_trivial)
    · refine ⟨by decide, WK, W.ds, .inr "name", nD W.nm, .cold, rfl, rfl, ?_⟩
      have nn := nnm
      refine ⟨⟨by decide, by decide⟩, by decide, rfl, m3 + 1, kys, rfl, by omega, (fun z => nomatch z), by decide, fun dk hdk => ?_⟩
      obtain ⟨bk, nk⟩ := kys_bad dk hdk
      refine ⟨⟨by decide, by decide⟩, ?_⟩
      have tok := tG false
      refine ⟨by decide, ⟨by decide, by decide⟩, by decide, ?_⟩
      show Fs.nx _ [.box (m3 + 1 + 1), .dat W.d, .dat (.lst G), .dat (.lst bd), .un, .dat (.lst nms), .dat (.lst kys), .dat (.int (0 + (j : Int))), .dat (.int (1 + 1)), .dat (nD W.nm), .dat dk, .dat (.lst G), .dat (.str "key"), .un, .un, .un, .un, .un, .un, .un]
      refine ⟨WK, W.ds, .inr "size", .int (W.z : Nat), .cold, rfl, rfl, ⟨rfl, rfl, rfl⟩, [], [], .refl _, (nD W.nm), dk, (Ht.sq false (W.hs.map Hx.hd)), W.z, "key", (by rw [← eL]; rfl), rfl, nn, nk, tok, z1, z8, .inr ⟨W.nm, rfl, ok.g, .inl ⟨bk, rfl⟩⟩, ?_⟩
      refine ⟨⟨rfl, rfl, rfl⟩, [], [], .refl _, _, _, rfl, rfl, rfl, by decide, by decide, ?_⟩
      refine ⟨WK, W.ds, .inr "name", nD W.nm, .cold, rfl, rfl, WK, W.ds, .inr "key", .int W.key, .cold, rfl, rfl, WK, W.ds, .inr "size", .int (W.z : Nat), .cold, rfl, rfl, ⟨rfl, rfl, rfl⟩, [], [], .refl _, nD W.nm, .int W.key, .sq true (W.hs.map Hx.hd), W.z, "", (by rw [← eT]; rfl), rfl, nnm, nky, tG true, z1, z8, .inr ⟨W.nm, rfl, ok.g, .inr ⟨W.key, rfl, ok.k0, ok.k1, .inr ⟨rG true, rfl⟩⟩⟩, ?_⟩
      refine ⟨⟨rfl, rfl, rfl⟩, [], [], .refl _, _, _, rfl, rfl, rfl, by decide, by decide, ?_⟩
      exact To3.of ⟨m3 + 1 + 1, (by omega), rfl, rfl⟩ (by get_elem_tactic_trivial)
    · refine ⟨by decide, rfl, m3 + 1, nms, rfl, by omega, (fun z => nomatch z), by decide, fun dn hdn => ?_⟩
      obtain ⟨bn, nn⟩ := nms_bad dn hdn
      refine ⟨⟨by decide, by decide⟩, by decide, rfl, m3 + 1 + 1, kys, rfl, by omega, (fun z => nomatch z), by decide, fun dk hdk => ?_⟩
      obtain ⟨bk, nk⟩ := kys_bad dk hdk
      refine ⟨⟨by decide, by decide⟩, ?_⟩
      have tok := tG false
      refine ⟨by decide, ?_⟩
      show Fs.nx _ [.box (m3 + 1 + 1 + 1), .dat W.d, .dat (.lst G), .dat (.lst bd), .un, .dat (.lst nms), .dat (.lst kys), .dat (.int (0 + (j : Int))), .dat (.int (1 + 2)), .dat dn, .dat dk, .dat (.lst G), .dat (.str "name"), .un, .un, .un, .un, .un, .un, .un]
      refine ⟨WK, W.ds, .inr "size", .int (W.z : Nat), .cold, rfl, rfl, ⟨rfl, rfl, rfl⟩, [], [], .refl _, dn, dk, (Ht.sq false (W.hs.map Hx.hd)), W.z, "name", (by rw [← eL]; rfl), rfl, nn, nk, tok, z1, z8, .inl ⟨bn, rfl⟩, ?_⟩
      refine ⟨⟨rfl, rfl, rfl⟩, [], [], .refl _, _, _, rfl, rfl, rfl, by decide, by decide, ?_⟩
      refine ⟨WK, W.ds, .inr "name", nD W.nm, .cold, rfl, rfl, WK, W.ds, .inr "key", .int W.key, .cold, rfl, rfl, WK, W.ds, .inr "size", .int (W.z : Nat), .cold, rfl, rfl, ⟨rfl, rfl, rfl⟩, [], [], .refl _, nD W.nm, .int W.key, .sq true (W.hs.map Hx.hd), W.z, "", (by rw [← eT]; rfl), rfl, nnm, nky, tG true, z1, z8, .inr ⟨W.nm, rfl, ok.g, .inr ⟨W.key, rfl, ok.k0, ok.k1, .inr ⟨rG true, rfl⟩⟩⟩, ?_⟩
      refine ⟨⟨rfl, rfl, rfl⟩, [], [], .refl _, _, _, rfl, rfl, rfl, by decide, by decide, ?_⟩
      exact To3.of ⟨m3 + 1 + 1 + 1, (by omega), rfl, rfl⟩ (by get_elem_tactic_trivial)
    · refine ⟨by decide, WK, W.ds, .inr "name", nD W.nm, .cold, rfl, rfl, ?_⟩
      have nn := nnm
      refine ⟨⟨by decide, by decide⟩, by decide, WK, W.ds, .inr "key", .int W.key, .cold, rfl, rfl, ?_⟩
      have nk := nky
      refine ⟨⟨by decide, by decide⟩, rfl, m3 + 1, bd, rfl, by omega, hne, by omega, fun dh hdh => ?_⟩
      obtain ⟨th, rfl, tok, rth⟩ := hb dh hdh
      refine ⟨by decide, ⟨by decide, by decide⟩, by decide, ?_⟩
      show Fs.nx _ [.box (m3 + 1 + 1), .dat W.d, .dat (.lst G), .dat (.lst bd), .un, .dat (.lst nms), .dat (.lst kys), .dat (.int (0 + (j : Int))), .dat (.int (1 + 3)), .dat (nD W.nm), .dat (.int W.key), .dat th.d, .dat (.str "hands"), .un, .un, .un, .un, .un, .un, .un]
      refine ⟨WK, W.ds, .inr "size", .int (W.z : Nat), .cold, rfl, rfl, ⟨rfl, rfl, rfl⟩, [], [], .refl _, (nD W.nm), (.int W.key), th, W.z, "hands", rfl, rfl, nn, nk, tok, z1, z8, .inr ⟨W.nm, rfl, ok.g, .inr ⟨W.key, rfl, ok.k0, ok.k1, .inl ⟨rth, rfl⟩⟩⟩, ?_⟩
      refine ⟨⟨rfl, rfl, rfl⟩, [], [], .refl _, _, _, rfl, rfl, rfl, by decide, by decide, ?_⟩
      refine ⟨WK, W.ds, .inr "name", nD W.nm, .cold, rfl, rfl, WK, W.ds, .inr "key", .int W.key, .cold, rfl, rfl, WK, W.ds, .inr "size", .int (W.z : Nat), .cold, rfl, rfl, ⟨rfl, rfl, rfl⟩, [], [], .refl _, nD W.nm, .int W.key, .sq true (W.hs.map Hx.hd), W.z, "", (by rw [← eT]; rfl), rfl, nnm, nky, tG true, z1, z8, .inr ⟨W.nm, rfl, ok.g, .inr ⟨W.key, rfl, ok.k0, ok.k1, .inr ⟨rG true, rfl⟩⟩⟩, ?_⟩
      refine ⟨⟨rfl, rfl, rfl⟩, [], [], .refl _, _, _, rfl, rfl, rfl, by decide, by decide, ?_⟩
      exact To3.of ⟨m3 + 1 + 1, (by omega), rfl, rfl⟩ (by get_elem_tactic_trivial)
    · refine ⟨by decide, rfl, m3 + 1, nms, rfl, by omega, (fun z => nomatch z), by decide, fun dn hdn => ?_⟩
      obtain ⟨bn, nn⟩ := nms_bad dn hdn
      refine ⟨⟨by decide, by decide⟩, by decide, WK, W.ds, .inr "key", .int W.key, .cold, rfl, rfl, ?_⟩
      have nk := nky
      refine ⟨⟨by decide, by decide⟩, rfl, m3 + 1 + 1, bd, rfl, by omega, hne, by omega, fun dh hdh => ?_⟩
      obtain ⟨th, rfl, tok, rth⟩ := hb dh hdh
      refine ⟨by decide, ?_⟩
      show Fs.nx _ [.box (m3 + 1 + 1 + 1), .dat W.d, .dat (.lst G), .dat (.lst bd), .un, .dat (.lst nms), .dat (.lst kys), .dat (.int (0 + (j : Int))), .dat (.int (1 + 4)), .dat dn, .dat (.int W.key), .dat th.d, .dat (.str "name"), .un, .un, .un, .un, .un, .un, .un]
      refine ⟨WK, W.ds, .inr "size", .int (W.z : Nat), .cold, rfl, rfl, ⟨rfl, rfl, rfl⟩, [], [], .refl _, dn, (.int W.key), th, W.z, "name", rfl, rfl, nn, nk, tok, z1, z8, .inl ⟨bn, rfl⟩, ?_⟩
      refine ⟨⟨rfl, rfl, rfl⟩, [], [], .refl _, _, _, rfl, rfl, rfl, by decide, by decide, ?_⟩
      refine ⟨WK, W.ds, .inr "name", nD W.nm, .cold, rfl, rfl, WK, W.ds, .inr "key", .int W.key, .cold, rfl, rfl, WK, W.ds, .inr "size", .int (W.z : Nat), .cold, rfl, rfl, ⟨rfl, rfl, rfl⟩, [], [], .refl _, nD W.nm, .int W.key, .sq true (W.hs.map Hx.hd), W.z, "", (by rw [← eT]; rfl), rfl, nnm, nky, tG true, z1, z8, .inr ⟨W.nm, rfl, ok.g, .inr ⟨W.key, rfl, ok.k0, ok.k1, .inr ⟨rG true, rfl⟩⟩⟩, ?_⟩
      refine ⟨⟨rfl, rfl, rfl⟩, [], [], .refl _, _, _, rfl, rfl, rfl, by decide, by decide, ?_⟩
      exact To3.of ⟨m3 + 1 + 1 + 1, (by omega), rfl, rfl⟩ (by get_elem_tactic_trivial)
    · refine ⟨by decide, WK, W.ds, .inr "name", nD W.nm, .cold, rfl, rfl, ?_⟩
      have nn := nnm
      refine ⟨⟨by decide, by decide⟩, by decide, rfl, m3 + 1, kys, rfl, by omega, (fun z => nomatch z), by decide, fun dk hdk => ?_⟩
      obtain ⟨bk, nk⟩ := kys_bad dk hdk
      refine ⟨⟨by decide, by decide⟩, rfl, m3 + 1 + 1, bd, rfl, by omega, hne, by omega, fun dh hdh => ?_⟩
      obtain ⟨th, rfl, tok, rth⟩ := hb dh hdh
      refine ⟨by decide, ⟨by decide, by decide⟩, by decide, ?_⟩
      show Fs.nx _ [.box (m3 + 1 + 1 + 1), .dat W.d, .dat (.lst G), .dat (.lst bd), .un, .dat (.lst nms), .dat (.lst kys), .dat (.int (0 + (j : Int))), .dat (.int (1 + 5)), .dat (nD W.nm), .dat dk, .dat th.d, .dat (.str "key"), .un, .un, .un, .un, .un, .un, .un]
      refine ⟨WK, W.ds, .inr "size", .int (W.z : Nat), .cold, rfl, rfl, ⟨rfl, rfl, rfl⟩, [], [], .refl _, (nD W.nm), dk, th, W.z, "key", rfl, rfl, nn, nk, tok, z1, z8, .inr ⟨W.nm, rfl, ok.g, .inl ⟨bk, rfl⟩⟩, ?_⟩
      refine ⟨⟨rfl, rfl, rfl⟩, [], [], .refl _, _, _, rfl, rfl, rfl, by decide, by decide, ?_⟩
      refine ⟨WK, W.ds, .inr "name", nD W.nm, .cold, rfl, rfl, WK, W.ds, .inr "key", .int W.key, .cold, rfl, rfl, WK, W.ds, .inr "size", .int (W.z : Nat), .cold, rfl, rfl, ⟨rfl, rfl, rfl⟩, [], [], .refl _, nD W.nm, .int W.key, .sq true (W.hs.map Hx.hd), W.z, "", (by rw [← eT]; rfl), rfl, nnm, nky, tG true, z1, z8, .inr ⟨W.nm, rfl, ok.g, .inr ⟨W.key, rfl, ok.k0, ok.k1, .inr ⟨rG true, rfl⟩⟩⟩, ?_⟩
      refine ⟨⟨rfl, rfl, rfl⟩, [], [], .refl _, _, _, rfl, rfl, rfl, by decide, by decide, ?_⟩
      exact To3.of ⟨m3 + 1 + 1 + 1, (by omega), rfl, rfl⟩ (by get_elem_tactic_trivial)
    · refine ⟨by decide, rfl, m3 + 1, nms, rfl, by omega, (fun z => nomatch z), by decide, fun dn hdn => ?_⟩
      obtain ⟨bn, nn⟩ := nms_bad dn hdn
      refine ⟨⟨by decide, by decide⟩, by decide, rfl, m3 + 1 + 1, kys, rfl, by omega, (fun z => nomatch z), by decide, fun dk hdk => ?_⟩
      obtain ⟨bk, nk⟩ := kys_bad dk hdk
      refine ⟨⟨by decide, by decide⟩, rfl, m3 + 1 + 1 + 1, bd, rfl, by omega, hne, by omega, fun dh hdh => ?_⟩
      obtain ⟨th, rfl, tok, rth⟩ := hb dh hdh
      refine ⟨by decide, ?_⟩
      show Fs.nx _ [.box (m3 + 1 + 1 + 1 + 1), .dat W.d, .dat (.lst G), .dat (.lst bd), .un, .dat (.lst nms), .dat (.lst kys), .dat (.int (0 + (j : Int))), .dat (.int (1 + 6)), .dat dn, .dat dk, .dat th.d, .dat (.str "name"), .un, .un, .un, .un, .un, .un, .un]
      refine ⟨WK, W.ds, .inr "size", .int (W.z : Nat), .cold, rfl, rfl, ⟨rfl, rfl, rfl⟩, [], [], .refl _, dn, dk, th, W.z, "name", rfl, rfl, nn, nk, tok, z1, z8, .inl ⟨bn, rfl⟩, ?_⟩
      refine ⟨⟨rfl, rfl, rfl⟩, [], [], .refl _, _, _, rfl, rfl, rfl, by decide, by decide, ?_⟩
      refine ⟨WK, W.ds, .inr "name", nD W.nm, .cold, rfl, rfl, WK, W.ds, .inr "key", .int W.key, .cold, rfl, rfl, WK, W.ds, .inr "size", .int (W.z : Nat), .cold, rfl, rfl, ⟨rfl, rfl, rfl⟩, [], [], .refl _, nD W.nm, .int W.key, .sq true (W.hs.map Hx.hd), W.z, "", (by rw [← eT]; rfl), rfl, nnm, nky, tG true, z1, z8, .inr ⟨W.nm, rfl, ok.g, .inr ⟨W.key, rfl, ok.k0, ok.k1, .inr ⟨rG true, rfl⟩⟩⟩, ?_⟩
      refine ⟨⟨rfl, rfl, rfl⟩, [], [], .refl _, _, _, rfl, rfl, rfl, by decide, by decide, ?_⟩
      exact To3.of ⟨m3 + 1 + 1 + 1 + 1, (by omega), rfl, rfl⟩ (by get_elem_tactic_trivial)
  rintro ρ μ ⟨m3, hm3, rfl, rfl⟩
  rw [rng_len] at hm3
  have ll : (sts W.hs).length = W.hs.length := sts_len _
  refine ⟨⟨rfl, rfl, rfl⟩, [], [], .refl _, W, true, rfl, rfl, ok, fun x => ?_⟩
  refine ⟨WK, W.ds, .inr "hands", .lst (W.hs.map Hd.t), .cold, rfl, rfl, ⟨rfl, rfl, rfl⟩, [], [_], .refl _, W.hs, rfl, hs.ho, h6, ?_⟩
  refine ⟨⟨rfl, rfl, rfl⟩, [], [_], .refl _, sts W.hs, rfl, sts_l4 hs.ho, by omega, by show 2 ≤ sizeLine; decide, ?_⟩
  obtain ⟨R, eR⟩ : ∃ R, (sts W.hs).flatten = R := ⟨_, rfl⟩
  rw [eR]
  refine ⟨rfl, ?_⟩
  show Fs3.nx _ [.box m3, .dat W.d, .dat (.lst G), .dat (.lst bd), .un, .dat (.lst nms), .dat (.lst kys), .un, .un, .un, .un, .un, .un, .dat (.adr x), .dat (.lst (R.map Rw.d)), .un, .un, .un, .un, .un] [(x, .pk (mcI W.m))]
  refine ⟨by show 3 ≤ sizeLine; decide, by show 1 ≤ sizeLine; decide, ⟨rfl, rfl⟩, "Hand", rfl, fun y1 => ?_⟩
  refine ⟨rfl, [], _, .refl _, y1, liarH, true, false, ?_, rfl, liar_ok, (fun z => nomatch z), .ins "Hand" HF liarH.fs, _, .refl _, ?_⟩
  · show _ = [Sl.dat (.adr y1), Sl.dat (nD [0]), Sl.dat (.int 1), Sl.dat (.tup []), Sl.dat (.lst [.tup [.int 0, nD [1], .int 2]])]
    rw [nm_a, nm_b]
    rfl
  have el : (farH 7).ls = [⟨7, [1], 2⟩] := rfl
  refine ⟨by show 3 ≤ sizeLine; decide, by show 1 ≤ sizeLine; decide, ⟨rfl, rfl⟩, "Hand", rfl, fun y2 => ⟨rfl, [], _, .refl _, y2, farH 7, false, true, ?_, rfl, far_ok _, fun _ => rfl, .ins "Hand" HF (farH 7).fs, _, .refl _, ?_⟩⟩
  · show _ = [Sl.dat (.adr y2), Sl.dat (nD [0]), Sl.dat (.int 1), Sl.dat (.lst ((farH 7).ls.map Tr.d)), Sl.dat (.tup [])]
    rw [el]
    show _ = [Sl.dat (.adr y2), Sl.dat (nD [0]), Sl.dat (.int 1), Sl.dat (.lst [.tup [.int 7, nD [1], .int 2]]), Sl.dat (.tup [])]
    rw [nm_a, nm_b]
    rfl
  show Fs3.nx _ [.box m3, .dat W.d, .dat (.lst G), .dat (.lst bd), .un, .dat (.lst nms), .dat (.lst kys), .un, .un, .un, .un, .un, .un, .dat (.adr x), .dat (.lst (R.map Rw.d)), .dat liarH.d, .dat (farH 7).d, .un, .un, .un] [(x, .pk (mcI W.m))]
  refine ⟨by show 2 ≤ sizeLine; decide, h0.d, e0, by show 2 ≤ sizeLine; decide, h0.d, e0, by show 2 ≤ sizeLine; decide, by show 2 ≤ sizeLine; decide, by show 2 ≤ sizeLine; decide, h0.d, e0, by show 2 ≤ sizeLine; decide, by show 6 ≤ sizeLine; decide, ?_⟩
  show Fs.nx _ [.box m3, .dat W.d, .dat (.lst G), .dat (.lst bd), .un, .dat (.lst nms), .dat (.lst kys), .un, .un, .un, .un, .un, .un, .dat (.adr x), .dat (.lst (R.map Rw.d)), .dat liarH.d, .dat (farH 7).d, .hot (asks6 (G.length : Nat) h0), .un, .un]
  refine ⟨rfl, ⟨by omega, by omega, by omega⟩, fun r r0 r1 => ?_⟩
  have r1 : r < (G.length : Nat) := r1
  obtain ⟨a, rfl⟩ : ∃ a : Nat, r = (a : Int) := ⟨r.toNat, by omega⟩
  have aG : a < W.hs.length := by omega
  refine ⟨by show 2 ≤ sizeLine; decide, by show 1 ≤ sizeLine; decide, WK, W.ds, .inr "size", .int (W.z : Nat), .cold, rfl, rfl, ?_⟩
  have k0 : (0 : Int) ≤ (if decide ((W.z : Int) < 8) = true then (1 : Int) else 0) ∧ (if decide ((W.z : Int) < 8) = true then (1 : Int) else 0) ≤ 1 := by
    split <;> decide
  have ka : (if decide ((W.z : Int) < 8) = true then (1 : Int) else 0).toNat ≤ 1 := by omega
  obtain ⟨A7, eA7⟩ : ∃ A7, (List.replicate (if decide ((W.z : Int) < 8) = true then (1 : Int) else 0).toNat [Dt.tup [.int (a : Int), (farH 7).d]]).flatten = A7 := ⟨_, rfl⟩
  have l7 : A7.length ≤ 1 := by
    rw [← eA7, flen7]
    show _ * 1 ≤ 1
    omega
  have m7 : ∀ d ∈ A7, askR W.hs W.z d := fun d hd => by
    rw [← eA7] at hd
    obtain ⟨l, hl, hd⟩ := List.mem_flatten.mp hd
    obtain ⟨k1, rfl⟩ := List.mem_replicate.mp hl
    have hz : W.z < 8 := by
      by_cases h : (W.z : Int) < 8
      · omega
      · rw [decide_eq_false h] at k1
        exact absurd rfl k1
    rw [List.mem_singleton.mp hd]
    exact far_bad hz h6 aG
  refine ⟨⟨by show -9223372036854775808 ≤ (if decide ((W.z : Int) < 8) = true then (1 : Int) else 0); omega, by show (if decide ((W.z : Int) < 8) = true then (1 : Int) else 0) < 9223372036854775808; omega, by show 1 * (if decide ((W.z : Int) < 8) = true then (1 : Int) else 0).toNat ≤ _; omega⟩, ?_⟩
  rw [show (List.replicate (if decide ((W.z : Int) < 8) = true then (1 : Int) else 0).toNat [Dt.tup [(Ro.dat (Dt.int (a : Int))).val, (farH 7).d]]).flatten = A7 from eA7]
  refine ⟨by show 6 + A7.length ≤ _; omega, ?_⟩
  obtain ⟨AS, eAS⟩ : ∃ AS, asks6 ((G.length : Nat) : Int) h0 ++ A7 = AS := ⟨_, rfl⟩
  rw [eAS]
  have mA : ∀ d ∈ AS, askR W.hs W.z d := fun d hd => by
    rw [← eAS] at hd
    rcases List.mem_append.mp hd with z | z
    · rw [lG] at z
      exact asks_bad ehs (hs.ho h0 (by rw [ehs]; exact List.mem_cons_self ..)) h6 d z
    · exact m7 d z
  show Fs3.nx _ [.box (m3 + 1), .dat W.d, .dat (.lst G), .dat (.lst bd), .un, .dat (.lst nms), .dat (.lst kys), .un, .un, .un, .un, .un, .un, .dat (.adr x), .dat (.lst (R.map Rw.d)), .dat liarH.d, .dat (farH 7).d, .hot AS, .un, .un] [(x, .pk (mcI W.m))]
  refine ⟨fun j ρ μ => ρ = [.box (m3 + 1), .dat W.d, .dat (.lst G), .dat (.lst bd), .un, .dat (.lst nms), .dat (.lst kys), .un, .un, .un, .un, .un, .un, .dat (.adr x), .dat (.lst (R.map Rw.d)), .dat liarH.d, .dat (farH 7).d, .dat (.lst AS), .un, .un] ∧ μ = [(x, .pk (mcI W.m))], To3.of ⟨rfl, rfl⟩ (by get_elem_tactic_trivial), ?_, ?_⟩
  · rintro j ρ μ d hd ⟨rfl, rfl⟩
    obtain ⟨p, y, rfl, hp, oy, hbad⟩ := mA d (List.mem_of_getElem? hd)
    refine ⟨rfl, ⟨rfl, rfl, rfl⟩, [_], [], .refl _, x, W.m, p, y, rfl, rfl, hp, oy, hbad, ?_⟩
    refine ⟨⟨rfl, rfl, rfl⟩, [], [_], .refl _, _, _, rfl, rfl, rfl, by decide, by decide, ?_⟩
    exact To3.of ⟨rfl, rfl⟩ (by get_elem_tactic_trivial)
  rintro ρ μ ⟨rfl, rfl⟩
  refine ⟨⟨_, _, .pk, rfl, rfl⟩, ⟨rfl, rfl, rfl⟩, [_], [], .refl _, x, W.m, rfl, rfl, by show (0 : Int) < 100000; decide, ?_⟩
  obtain ⟨Mj, eMj⟩ : ∃ Mj : Nat → Mst, ∀ j, Mj j = { W.m.started with pl := some j, xs := fl W.hs j } := ⟨_, fun _ => rfl⟩
  have sM : ∀ j, (Mj j).wk = W.hs ∧ (Mj j).pl = some j ∧ (Mj j).xs = fl W.hs j := fun j => by
    rw [eMj]
    exact ⟨rfl, rfl, rfl⟩
  refine ⟨⟨rfl, rfl⟩, fun j acc ρ μ => acc = (((sts W.hs).take j).map fun rs => Dt.lst (rs.map Rw.d)) ∧ ρ = [.box (m3 + 1), .dat W.d, .dat (.lst G), .dat (.lst bd), .un, .dat (.lst nms), .dat (.lst kys), .un, .un, .un, .un, .un, .un, .dat (.adr x), .dat (.lst (R.map Rw.d)), .dat liarH.d, .dat (farH 7).d, .dat (.lst AS), .un, .un] ∧ μ = [(x, .pk (mcI (Mj j)))], ⟨rfl, rfl, by rw [eMj]; rfl⟩, ?_, ?_⟩
  · rintro j acc ρ μ d hd ⟨rfl, rfl, rfl⟩
    rw [← eG, List.getElem?_map] at hd
    obtain ⟨h, hh, rfl⟩ := Option.map_eq_some_iff.mp hd
    have hlt := (List.getElem?_eq_some_iff.mp hh).1
    obtain ⟨wj, pj, xj⟩ := sM j
    have fll := fl_len hs.ho j (by omega)
    refine ⟨⟨_, _, .pk, rfl, rfl⟩, ⟨rfl, rfl, rfl⟩, [_], [], .refl _, x, Mj j, rfl, rfl, by rw [xj]; omega, fun p h2 e1 e2 y => ?_, fun z => ?_⟩
    · rw [pj] at e1
      cases e1
      rw [wj, hh] at e2
      cases e2
      have est : (Mj j).stepped j h = Mj (j + 1) := by
        unfold Mst.stepped
        rw [eMj j, eMj (j + 1), fl_succ hh]
        rfl
      rw [est, wj]
      refine ⟨.lst ((nts h W.hs[j + 1]?).map Rw.d), [(x, .pk (mcI (Mj (j + 1))))], .refl _, rfl, by rw [List.length_map, List.length_take]; omega, ?_, rfl, rfl⟩
      rw [take_at (sts_at W.hs j h hh), List.map_append]
      rfl
    · rcases z with z | ⟨p, z, z2⟩
      · rw [pj] at z; cases z
      · rw [pj] at z; cases z; rw [wj] at z2; omega
  rintro acc ρ μ ⟨rfl, rfl, rfl⟩
  rw [lG, ← sts_len, List.take_length]
  have eF : fl W.hs W.hs.length = R := by
    unfold fl
    rw [List.take_of_length_le (by omega), eR]
  have okR : ∀ r ∈ R, r.ok ∧ r.b < W.z := by
    rw [← eF]
    exact fl_ok hs z1 _ (Nat.le_refl _)
  have lR : R.length ≤ 24 := by
    have := fl_len hs.ho W.hs.length (Nat.le_refl _)
    rw [eF] at this
    omega
  obtain ⟨wj, pj, xj⟩ := sM (sts W.hs).length
  rw [ll] at wj pj xj ⊢
  refine ⟨rfl, ⟨rfl, rfl, rfl⟩, [], [_], .refl _, sts W.hs, rfl, sts_l4 hs.ho, by omega, ?_⟩
  rw [eR]
  obtain ⟨pu, dp, wd⟩ := (nice_rws (n := 24) (fun r hr => (okR r hr).1) lR).same (k := 6) (by decide) (by decide)
  refine ⟨⟨rfl, rfl, rfl⟩, [], [_], .refl _, _, _, rfl, rfl, pu, dp, wd, ?_⟩
  have gU : mcs (Mj W.hs.length) = Str.ofString "up" := mcs_up pj (by rw [wj]; exact Nat.le_refl _)
  exact ⟨⟨rfl, rfl, rfl⟩, [_], [], .refl _, x, W, Mj W.hs.length, "up", 1, R, true, rfl, rfl, ok, by rw [eMj]; rfl, by rw [eMj]; rfl, by rw [eMj]; rfl, gU, by rw [eMj]; rfl, by rw [xj, eF], by omega, okR, by decide, by decide, ⟨_, Ent.nil, q _ (by omega)⟩⟩

end
section
variable {P : Program} {w : World} {K : PySem.W.Frag} {mg : Str → Option Value} {base : Heap}
local macro_rules | `(tactic| get_elem_tactic_trivial) => `(tactic| (repeat first | exact Wk.nil | exact Wk'.nil | refine Wk.same ?_ | refine Wk'.same ?_ | refine Wk.un (fun _ z => nomatch z) ?_ | refine Wk'.un ?_))
/-! the law -/
def wLaw3 : W3F := fun ps μ Ψ _ => ∃ ns : List Int, ps = [.dat (.scr ns)] ∧ μ = [] ∧ ns.length ≤ 63 ∧ Ψ (.dat (.bl true)) ps []
theorem law_sp3 {vs : List V} {H : Hp} {Q : VK} {E : XK} (h : spLawD K vs H Q E) : sp3 K 1 wLaw3 vs H Q E := by
  obtain ⟨l, C, bx, ps, Ψ0, S, hw, k⟩ := h
  match ps, S, hw with
  | [.dat (.scr ns)], S, hw =>
    refine ⟨l, C, fun _ => none, bx, _, [], [], fun r ps' _ => r = .dat (.bl true) ∧ ps' = [.dat (.scr ns)], fun _ _ _ _ => False, S, rfl, ⟨.nil, fun a f h => (nomatch h), fun a o h => (nomatch h), fun a o h => (nomatch h)⟩, fun a o h => (nomatch h), ⟨ns, rfl, rfl, hw.1, rfl, rfl⟩, fun C' G v r ps' μ' ok e => ?_, fun _ _ _ _ _ _ _ _ _ _ z => z.elim⟩
    obtain ⟨rfl, rfl⟩ := e
    obtain ⟨⟨m, e, U, M, S'⟩, rp⟩ := ok
    have eB : subU H (fun _ => none) = H := funext fun a => subU_off rfl
    have S2 := S'.unhang M
    rw [eB] at S2
    exact k C' G v (.dat (.bl true)) _ S2 rp hw.2

theorem Tx.kbLRight_1 {K : PySem.W.Frag} {mg : Str → Option Value} (T : Tx K mg) : ∃ g : List Value → List Value → List Value, KBn K T.fdLRight ["_law_box_here"] 1 [] g (gB [0] []) := kbAllN T.FLRight 1 [] [0] fun kV doc pm an cdv ct us ws h1 h2 => match us, ws, h1, h2 with
  | [u0], [], _, _ => rfl
theorem okLaw (T : Tx K mg) : FnOk P w K mg base CX0 11 (He.ga K "law") T.fdLaw ["_law_script"] (spLawD K) := by
  have B := T.B
  have GLFolded : FnOk P w K mg base CX0 1 (He.ga K "_law_folded") T.fdLFolded ["_law_script", "_law_size"] (spD K 2 wFolded) := okFoldedD T
  have bLFolded := T.bLFolded
  have GLRight : FnOk P w K mg base CX0 10 (He.ga K "_law_right") T.fdLRight ["_law_box_here"] (sp3 K 1 wRight32) := okLRight T
  have bLRight := T.bLRight
  have GLBox : FnOk P w K mg base CX0 1 (He.ga K "_law_box") T.fdLBox ["_law_script", "_law_k"] (spLBox K) := okLBox T
  have bLBox := T.bLBox
  obtain ⟨_, kbLRight_1⟩ := T.kbLRight_1
  refine T.FLaw.ok scLaw (fun vs H Q E h => h.1) (fun cdv A outer s H vs Q E hr h => ?_)
  refine ⟨_, PSs.nox (pss_cons (ps_set (i := 1) scLaw.nd rfl (.inr rfl) (pe_call GLFolded (hr.mono (by decide)) (by rfl) T.gLFolded T.FLFolded.kp bLFolded .nil pass0 (pa_cons (pv 0) (pa_cons pe_int pa_nil))))
        (pss_one (ps_ret (pe_callB (show CallR _ _ (rAll K) from cr_all rfl) (by rfl) B.b_all boot_all (pa_cons (pe_lc (own := [("_law_k", 2)]) (g := gName 2) (tt := tYes) (by rfl) scLaw.nd (pi_range1 (by rfl) B.b_range (pa_cons (pe_callB (show CallR _ _ (rLen K) from call_len) (by rfl) B.b_len PySem.boot_len (pa_cons (pv 1) pa_nil)) pa_nil)) (blkOk_by (own := [("_law_k", 2)]) (N := ["_law_script", "_law_cells", "_law_k"]) (sc := defScope sLaw) (by decide +kernel)) (fun _ _ _ _ _ => by exact (pg_name (i := 2) scLaw.nd rfl (Or.inl rfl))) (fun _ _ _ _ _ => pts_nil) (fun _ _ _ _ _ => (asPE (tCall3 1 0 _ _ _ _ _) (pe_call3 (ks := []) GLRight (hr.mono (by decide)) (by rfl) T.gLRight T.FLRight.kp kbLRight_1 (pass0S (fun cls d _ H => E cls d H)) (pa_cons (pe_call GLBox (hr.mono (by decide)) (by rfl) T.gLBox T.FLBox.kp bLBox .nil pass0 (pa_cons (pv 1) (pa_cons (pv 2) pa_nil))) pa_nil) pk_nil)))) pa_nil))))), ?_⟩
  refine body3 (law_sp3 h) (fun ps μ Ψ Ξ hw hl => ?_)
  obtain ⟨ns, rfl, rfl, lns, q⟩ := hw
  have sz : sizeLine = 16777216 := by decide
  refine ⟨rfl, ns, 3, rfl, lns, by decide, by decide, fun cs lc => ?_⟩
  refine ⟨by omega, by omega, ⟨rfl, rfl⟩, fun j acc ρ μ => acc = List.replicate j (.bl true) ∧ j ≤ 63 ∧ ρ = [.dat (.scr ns), .dat (.scr cs), .un] ∧ μ = [], ⟨rfl, Nat.zero_le _, rfl, rfl⟩, ?_, ?_⟩
  · rintro j acc ρ μ d hd ⟨rfl, hj, rfl, rfl⟩
    obtain ⟨hj2, rfl⟩ := rng_at hd
    refine ⟨⟨by omega, by omega⟩, [], [], .refl _, 0, rfl, rfl, by decide, fun m hm => ⟨⟨_, rfl⟩, ?_⟩⟩
    refine ⟨rfl, by rw [List.length_replicate]; omega, ?_, by omega, rfl, rfl⟩
    rw [List.replicate_succ']
    rfl
  · rintro acc ρ μ ⟨rfl, -, rfl, rfl⟩
    refine ⟨rfl, _, bls_reps _, ?_⟩
    rw [all_reps]
    exact ⟨_, .refl _, q⟩
end
section
variable {P : Program} {w : World} {K : PySem.W.Frag} {mg : Str → Option Value} {base : Heap}
local macro_rules | `(tactic| get_elem_tactic_trivial) => `(tactic| (repeat first | exact Wk.nil | exact Wk'.nil | refine Wk.same ?_ | refine Wk'.same ?_ | refine Wk.un (fun _ z => nomatch z) ?_ | refine Wk'.un ?_))


end
end Sl
open PySem PySem.W PySem.Calls PyProof.Rows
set_option maxRecDepth 100000 in
set_option maxHeartbeats 0 in
theorem PySem.Challenge.cw_startlog_k32_machines_refused_holds : PySem.Challenge.rw_startlog_k32_machines_refused.Holds := by
  w_on; o_law
  refine HandSHeadRun.head_any (r := OpenLaw.row PySem.Challenge.rw_startlog_k32_machines_refused) (q := view (OpenLaw.row PySem.Challenge.rw_startlog_k32_machines_refused).prog [79]) (H := Sl.hk) (ob := Sl.hob) (M := 8000) (loose := Sl.hloose) (d := HandSHeadRun.topDef (OpenLaw.row PySem.Challenge.rw_startlog_k32_machines_refused).prog 79) (kwd := []) Sl.hob_eq
    (by kernel_rfl) (fun s => by kernel_rfl) Sl.hrun (by kernel_rfl) (by kernel_rfl) (by kernel_rfl) (by rfl) (by first | assumption | decide +kernel) (by decide +kernel) ⟨rfl, rfl, rfl, rfl, rfl, by decide +kernel⟩ ?hw ?hc
  case hw => w_witness2
  case hc =>
    refine L2.walk_ofE (l := PySem.Challenge.rw_startlog_k32_machines_refused) (n := 63) (k := 11) (x := "_law_script") (CX := L2.CX0) rfl (by decide) (by kernel_rfl) ⟨rfl, by decide, by decide⟩ ?F (fun _ _ _ _ z => z)
    intro w mg fa h Y G hmg0
    obtain ⟨K, KX, c, cx⟩ := Y
    have hmg : mg ("law" : PySem.Str) = some (.ref fa) := by
      have e : (HandSHeadRun.topDef (OpenLaw.row PySem.Challenge.rw_startlog_k32_machines_refused).prog 79).name = ("law" : PySem.Str) := by kernel_rfl
      rw [← e]
      exact hmg0
    obtain ⟨T, _⟩ := Sl.tx_of KX G c cx
    have e := hmg.symm.trans T.gLaw
    cases e
    exact ⟨K, T.fdLaw, Sl.spLawD K, KX, fun s v => L2.FunD.bindsA (ps := ["_law_script"]) T.FLaw (fun _ _ _ _ _ _ us hl => match us, hl with | [_], _ => rfl) s [v] rfl, fun H a ns hl _ hS => Sl.law_imp hl hS, fun base _ _ => Sl.okLaw T⟩
