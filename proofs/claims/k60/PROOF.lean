import PyProof.Rows.All
import Wide.All
import OpenK.AllK
import Wide.FinOn
import KE.KStateDown
import Lean
import HandS.ForMost
import HandS.More
import HandS.WordsExc
import HandS.IsInst
import HandS.Defaults
import HandS.MakeKwOnly
import HandS.Walk
import HandS.Zip
import HandS.Replace
import HandS.Style
import HandS.Flow
import HandS.Strs
import HandS.Wide
import HandS.WideBits
import HandS.Head0
import HandS.Head1
import HandS.Head2
import HandS.HeadEnd
import HandS.HeadHook1
import HandS.HeadHook2
import KE.KDictOf
import HandS.RaiseMore
import HandS.Deep
import HandS.TupAny
import KE.GoesMore
import HandS.SetFor
import PyProof.Rows.SetFrom
import PyProof.Rows.SortShell
import PyProof.Rows.SortStr
import PyProof.Rows.SortShellK
import KE.GoesNew
import KE.GoesEnum
import HandS.TupMul
import HandS.Star
import PyProof.Rows.StrInSeq3
import HandS.ExcInit
import HandS.ExcIs
import HandS.ExcField
import KE.KExcIs
import HandS.ExcCtx
import HandS.SuiteRaise
import HandS.RaiseFrom
import HandS.ExcInitHot
import HandS.CallSlots
import HandS.Conv
import HandS.Small
import HandS.DictComp
import HandS.ListItems
import HandS.Finally
import HandS.TryMany
import HandS.FStr
import HandS.NoneIn
import PyProof.DictUpdate
import KE.KItemsList
import PyProof.EnumMake
import PyProof.ListNew
import HandS.SortInts
import KE.KSortedM
import PySem.Challenge.RW_startlog_k60_machines_known
set_option Elab.async false
set_option synthInstance.maxHeartbeats 0
set_option synthInstance.maxSize 100000
set_option linter.all false
set_option maxRecDepth 100000
set_option maxHeartbeats 4000000
namespace Sl
open PySem PySem.Spec PyProof.Rows L2
section
variable {P : Program} {w : World} {K : PySem.W.Frag} {mg : Str → Option Value} {base : Heap}
def obsE (n : Nat) (fa : List He.Fa) (fn : List He.DefD) (ex : PySem.W.Frag → Bool) (g : Addr → Option Obj) : He.AlD × Bool := (He.obsD fa fn (He.frG g (He.asD g n)), ex (He.frG g (He.asD g n)))
def hookE (n : Nat) (fa : List He.Fa) (fn : List He.DefD) (ex : PySem.W.Frag → Bool) : PySem.W.Hook where
  α := He.AlD × Bool
  obs := fun s => obsE n fa fn ex s.heap.get?
  val := fun _ => (He.valD fn, true)
  says := fun _ h => ∃ K : PySem.W.Frag, K.In h ∧ He.SaysD fa fn K ∧ ex K = true
  of := fun _ _ e => ⟨_, He.frG_in, congrArg Prod.fst e, congrArg Prod.snd e⟩
  keeps := fun _ _ _ ⟨K, hK, c⟩ k => ⟨K, PySem.W.Frag.In.keeps hK k, c⟩
def oexB (K : PySem.W.Frag) (C : Addr) : Bool := match K.lookup C with
  | some ⟨.type "type", _, .cls cd, sl⟩ => (match cd.mro, sl.toList with
    | .ref D :: bm, [_, _, _, _, some (.builtin n), _] => (D == C) && ((n == "ValueError.__new__") && ((!cd.hasDel) && (cd.hasDict && PySem.HandSPX.refsVE bm)))
    | _, _ => false)
  | _ => false
def eclB (K : PySem.W.Frag) (C fI : Addr) : Bool := oexB K C && (He.eqO (PySem.W.findIn K (.ref C) "__setattr__") (some (some (.builtin "object.__setattr__"))) && (decide (PySem.W.subIn K (.ref C) (.type "BaseException") = some true) && (decide (PySem.W.typeIn K (.ref C) = some (.type "type")) && (PySem.W.keepIn K (.ref C) &&
  (He.eqO (PySem.W.findIn K (.ref C) "__getattribute__") (some (some (.builtin "BaseException.__getattribute__"))) && (He.eqO (PySem.W.findIn K (.ref C) "__getattr__") (some none) && (PySem.W.hasDictIn K C && (He.eqO (PySem.W.findIn K (.ref C) "__class__") (some (some (.builtin "object.__class__"))) &&
  (He.eqO (PySem.W.specialIn K (.builtin "object.__class__") "__get__") (some (some (.builtin "getset_descriptor.__get__"))) && (decide (PySem.W.takesIn K (.builtin "object.__class__") = some true) && (decide (PySem.W.mroIn K C (.type "object") = some true) && (He.eqO (PySem.W.findIn K (.ref C) "what") (some none) &&
  (He.eqO (PySem.W.findIn K (.ref C) "__init__") (some (some (.ref fI))) && decide (PySem.W.typeIn K (.ref fI) = some (.type "function")))))))))))))))
def errOk (K : PySem.W.Frag) (root : Str) (cs : List Str) : Bool := cs.all fun c => eclB K (He.ga K c) (He.ma K (He.ga K root) "__init__") && (decide (PySem.W.kitOne K (.ref (He.ga K c)) (.type "ValueError") = some true) &&
  cs.all fun e => decide (PySem.W.kitOne K (.ref (He.ga K c)) (.ref (He.ga K e)) = some (decide (e = c) || decide (e = root))) && decide (PySem.W.subIn K (.ref (He.ga K c)) (.ref (He.ga K e)) = some (decide (e = c) || decide (e = root))))
def neD (K : PySem.W.Frag) (c : Str) : Bool := (PySem.W.findIn K (.ref (He.ga K c)) "__ne__" == some (some (.builtin "object.__ne__"))) && (PySem.W.subIn K (.ref (He.ga K c)) (.type "object") == some true) &&
  (PySem.W.findIn K (.ref (He.ga K c)) "__class__" == some (some (.builtin "object.__class__"))) && (PySem.W.specialIn K (.builtin "object.__class__") "__get__" == some (some (.builtin "getset_descriptor.__get__"))) &&
  (PySem.W.takesIn K (.builtin "object.__class__") == some true) && (PySem.W.mroIn K (He.ga K c) (.type "object") == some true)
def kda (K : PySem.W.Frag) (p : Str × Option Str) (x : Str) : Addr := match K.lookup (He.fAd K p) with
  | some o => (match o.data with
    | .func fd => (match fd.kwdefaults with
      | .ref D => (match PySem.W.nsIn K D x with
        | some (some (.ref a)) => a
        | _ => 0)
      | _ => 0)
    | _ => 0)
  | none => 0
def tupA (K : PySem.W.Frag) (a : Addr) : Bool := match K.lookup a with
  | some o => (match o.cls with
    | .type c => decide (c = "tuple")
    | _ => false) && (match o.data with
    | .seq its _ => decide (its.size = 0)
    | _ => false)
  | none => false
def top (i : Nat) : Stmt := PySem.Challenge.pw_startlog_k60_machines_known.main.body.getD i (.Pass ⟨0, 0, 0, 0⟩)
abbrev sWall : Stmt := top 0
abbrev sIsNumber : Stmt := top 8
abbrev sCommonDivisor : Stmt := top 9
abbrev sIsWidth : Stmt := top 18
abbrev sIsFactor : Stmt := top 19
abbrev sLBox : Stmt := top 25
abbrev sLTake : Stmt := top 26
abbrev sLPick : Stmt := top 27
abbrev sLNames : Stmt := top 28
abbrev sLSame : Stmt := top 29
abbrev sLShares : Stmt := top 30
abbrev sLHow : Stmt := top 31
abbrev sLStock : Stmt := top 32
abbrev sLBegun : Stmt := top 33
abbrev sLAskedNow : Stmt := top 34
abbrev sLAsk : Stmt := top 35
abbrev sLStands : Stmt := top 36
abbrev sLRefused : Stmt := top 37
abbrev sLDeedRight : Stmt := top 38
abbrev sLRight : Stmt := top 39
abbrev sLaw : Stmt := top 40
abbrev sMixingInit : Stmt := inClass (top 20) 0
abbrev sMixingEq : Stmt := inClass (top 20) 5
abbrev sMixingRepr : Stmt := inClass (top 20) 6
abbrev sMixingStr : Stmt := inClass (top 20) 7
abbrev sEntryInit : Stmt := inClass (top 22) 0
abbrev sBookInit : Stmt := inClass (top 23) 0
abbrev sBookEntry : Stmt := inClass (top 23) 1
abbrev sBookKnow : Stmt := inClass (top 23) 2
abbrev sBookPut : Stmt := inClass (top 23) 3
abbrev sBookDrop : Stmt := inClass (top 23) 4
abbrev sBookAsk : Stmt := inClass (top 23) 5
abbrev sBookIsAsked : Stmt := inClass (top 23) 7
abbrev sBookNames : Stmt := inClass (top 23) 9
abbrev sBookAsked : Stmt := inClass (top 23) 10
abbrev sBookLast : Stmt := inClass (top 23) 11
abbrev sBookHistory : Stmt := inClass (top 23) 12
abbrev sBookLog : Stmt := inClass (top 23) 13
abbrev sBookLen : Stmt := inClass (top 23) 15
abbrev sStartErrorInit : Stmt := inClass (top 2) 0
def ERRS : List Str := ["StartError", "BadMixing", "Known", "Unknown", "TooMany"]
def ddWall : He.DefD := ⟨("_wall", none), "_wall", "_wall", defArgs sWall, defBody sWall, defScope sWall, [], []⟩
def ddIsNumber : He.DefD := ⟨("is_number", none), "is_number", "is_number", defArgs sIsNumber, defBody sIsNumber, defScope sIsNumber, [], []⟩
def ddCommonDivisor : He.DefD := ⟨("common_divisor", none), "common_divisor", "common_divisor", defArgs sCommonDivisor, defBody sCommonDivisor, defScope sCommonDivisor, [], []⟩
def ddIsWidth : He.DefD := ⟨("is_width", none), "is_width", "is_width", defArgs sIsWidth, defBody sIsWidth, defScope sIsWidth, [], []⟩
def ddIsFactor : He.DefD := ⟨("is_factor", none), "is_factor", "is_factor", defArgs sIsFactor, defBody sIsFactor, defScope sIsFactor, [], []⟩
def ddLBox : He.DefD := ⟨("_law_box", none), "_law_box", "_law_box", defArgs sLBox, defBody sLBox, defScope sLBox, [], []⟩
def ddLTake : He.DefD := ⟨("_law_take", none), "_law_take", "_law_take", defArgs sLTake, defBody sLTake, defScope sLTake, [], []⟩
def ddLPick : He.DefD := ⟨("_law_pick", none), "_law_pick", "_law_pick", defArgs sLPick, defBody sLPick, defScope sLPick, [], []⟩
def ddLNames : He.DefD := ⟨("_law_names", none), "_law_names", "_law_names", defArgs sLNames, defBody sLNames, defScope sLNames, [], []⟩
def ddLSame : He.DefD := ⟨("_law_same", none), "_law_same", "_law_same", defArgs sLSame, defBody sLSame, defScope sLSame, [], []⟩
def ddLShares : He.DefD := ⟨("_law_shares", none), "_law_shares", "_law_shares", defArgs sLShares, defBody sLShares, defScope sLShares, [], []⟩
def ddLHow : He.DefD := ⟨("_law_how", none), "_law_how", "_law_how", defArgs sLHow, defBody sLHow, defScope sLHow, [], []⟩
def ddLStock : He.DefD := ⟨("_law_stock", none), "_law_stock", "_law_stock", defArgs sLStock, defBody sLStock, defScope sLStock, [], []⟩
def ddLBegun : He.DefD := ⟨("_law_begun", none), "_law_begun", "_law_begun", defArgs sLBegun, defBody sLBegun, defScope sLBegun, [], []⟩
def ddLAskedNow : He.DefD := ⟨("_law_asked_now", none), "_law_asked_now", "_law_asked_now", defArgs sLAskedNow, defBody sLAskedNow, defScope sLAskedNow, [], []⟩
def ddLAsk : He.DefD := ⟨("_law_ask", none), "_law_ask", "_law_ask", defArgs sLAsk, defBody sLAsk, defScope sLAsk, [], []⟩
def ddLStands : He.DefD := ⟨("_law_stands", none), "_law_stands", "_law_stands", defArgs sLStands, defBody sLStands, defScope sLStands, [], []⟩
def ddLRefused : He.DefD := ⟨("_law_refused", none), "_law_refused", "_law_refused", defArgs sLRefused, defBody sLRefused, defScope sLRefused, [], []⟩
def ddLDeedRight : He.DefD := ⟨("_law_deed_right", none), "_law_deed_right", "_law_deed_right", defArgs sLDeedRight, defBody sLDeedRight, defScope sLDeedRight, [], []⟩
def ddLRight : He.DefD := ⟨("_law_right", none), "_law_right", "_law_right", defArgs sLRight, defBody sLRight, defScope sLRight, [], []⟩
def ddLaw : He.DefD := ⟨("law", none), "law", "law", defArgs sLaw, defBody sLaw, defScope sLaw, [], []⟩
def ddMixingInit : He.DefD := ⟨("Mixing", some "__init__"), "__init__", "Mixing.__init__", defArgs sMixingInit, defBody sMixingInit, defScope sMixingInit, [.non], [("factor", .int 7919)]⟩
def ddMixingEq : He.DefD := ⟨("Mixing", some "__eq__"), "__eq__", "Mixing.__eq__", defArgs sMixingEq, defBody sMixingEq, defScope sMixingEq, [], []⟩
def ddMixingRepr : He.DefD := ⟨("Mixing", some "__repr__"), "__repr__", "Mixing.__repr__", defArgs sMixingRepr, defBody sMixingRepr, defScope sMixingRepr, [], []⟩
def ddMixingStr : He.DefD := ⟨("Mixing", some "__str__"), "__str__", "Mixing.__str__", defArgs sMixingStr, defBody sMixingStr, defScope sMixingStr, [], []⟩
def ddEntryInit : He.DefD := ⟨("Entry", some "__init__"), "__init__", "Entry.__init__", defArgs sEntryInit, defBody sEntryInit, defScope sEntryInit, [], []⟩
def ddBookInit : He.DefD := ⟨("Book", some "__init__"), "__init__", "Book.__init__", defArgs sBookInit, defBody sBookInit, defScope sBookInit, [], [("life", .int 9), ("most", .int 8)]⟩
def ddBookEntry : He.DefD := ⟨("Book", some "entry"), "entry", "Book.entry", defArgs sBookEntry, defBody sBookEntry, defScope sBookEntry, [], []⟩
def ddBookKnow : He.DefD := ⟨("Book", some "know"), "know", "Book.know", defArgs sBookKnow, defBody sBookKnow, defScope sBookKnow, [], [("mixing", .non), ("policy", .adr fun K => kda K ("Book", some "know") "policy"), ("plan", .adr fun K => kda K ("Book", some "know") "plan"), ("many", .int 4), ("fixed", .int 2)]⟩
def ddBookPut : He.DefD := ⟨("Book", some "put"), "put", "Book.put", defArgs sBookPut, defBody sBookPut, defScope sBookPut, [], [("policy", .non), ("plan", .non)]⟩
def ddBookDrop : He.DefD := ⟨("Book", some "drop"), "drop", "Book.drop", defArgs sBookDrop, defBody sBookDrop, defScope sBookDrop, [], []⟩
def ddBookAsk : He.DefD := ⟨("Book", some "ask"), "ask", "Book.ask", defArgs sBookAsk, defBody sBookAsk, defScope sBookAsk, [], []⟩
def ddBookIsAsked : He.DefD := ⟨("Book", some "is_asked"), "is_asked", "Book.is_asked", defArgs sBookIsAsked, defBody sBookIsAsked, defScope sBookIsAsked, [], []⟩
def ddBookNames : He.DefD := ⟨("Book", some "names"), "names", "Book.names", defArgs sBookNames, defBody sBookNames, defScope sBookNames, [], []⟩
def ddBookAsked : He.DefD := ⟨("Book", some "asked"), "asked", "Book.asked", defArgs sBookAsked, defBody sBookAsked, defScope sBookAsked, [], []⟩
def ddBookLast : He.DefD := ⟨("Book", some "last"), "last", "Book.last", defArgs sBookLast, defBody sBookLast, defScope sBookLast, [], []⟩
def ddBookHistory : He.DefD := ⟨("Book", some "history"), "history", "Book.history", defArgs sBookHistory, defBody sBookHistory, defScope sBookHistory, [], []⟩
def ddBookLog : He.DefD := ⟨("Book", some "log"), "log", "Book.log", defArgs sBookLog, defBody sBookLog, defScope sBookLog, [], []⟩
def ddBookLen : He.DefD := ⟨("Book", some "__len__"), "__len__", "Book.__len__", defArgs sBookLen, defBody sBookLen, defScope sBookLen, [], []⟩
def ddStartErrorInit : He.DefD := ⟨("StartError", some "__init__"), "__init__", "StartError.__init__", defArgs sStartErrorInit, defBody sStartErrorInit, defScope sStartErrorInit, [], []⟩
def hfn : List He.DefD := [ddWall, ddIsNumber, ddCommonDivisor, ddIsWidth, ddIsFactor, ddLBox, ddLTake, ddLPick, ddLNames, ddLSame, ddLShares, ddLHow, ddLStock, ddLBegun, ddLAskedNow, ddLAsk, ddLStands, ddLRefused, ddLDeedRight, ddLRight, ddLaw, ddMixingInit, ddMixingEq, ddMixingRepr, ddMixingStr, ddEntryInit, ddBookInit, ddBookEntry, ddBookKnow, ddBookPut, ddBookDrop, ddBookAsk, ddBookIsAsked, ddBookNames, ddBookAsked, ddBookLast, ddBookHistory, ddBookLog, ddBookLen, ddStartErrorInit]
def hfa : List He.Fa := [.free "ValueError", .free "repr", .free "len", .free "abs", .free "int", .free "isinstance", .free "list", .free "tuple", .free "str", .free "bool", .free "all", .free "zip", .free "range", .free "max", .free "min", .free "enumerate", .free "divmod", .free "sorted", .free "set", .free "any", .glo "_wall", .glo "is_number", .glo "common_divisor", .glo "is_width", .glo "is_factor", .glo "_law_box", .glo "_law_take", .glo "_law_pick", .glo "_law_names", .glo "_law_same", .glo "_law_shares", .glo "_law_how", .glo "_law_stock", .glo "_law_begun", .glo "_law_asked_now", .glo "_law_ask", .glo "_law_stands", .glo "_law_refused", .glo "_law_deed_right", .glo "_law_right", .glo "law", .int "FACTOR" 7919, .int "BOARDS" 4, .int "FIXED" 2, .int "LIFE" 9, .int "MACHINES" 8, .int "LEAST_WIDTH" 3, .int "GREATEST" 1000000, .cls "Mixing", .glo "Mixing", .mkr "Mixing", .noat "Mixing" "width", .noat "Mixing" "factor", .meth "Mixing" "__eq__", .meth "Mixing" "__repr__", .meth "Mixing" "__str__", .cls "Entry", .glo "Entry", .mkr "Entry", .noat "Entry" "key", .noat "Entry" "mixing", .noat "Entry" "policy", .noat "Entry" "plan", .noat "Entry" "many", .noat "Entry" "fixed", .noat "Entry" "ticks", .noat "Entry" "good", .noat "Entry" "words", .cls "Book", .glo "Book", .mkr "Book", .noat "Book" "life", .noat "Book" "most", .noat "Book" "entries", .noat "Book" "now", .noat "Book" "given", .noat "Book" "noted", .noat "Book" "is_busy", .meth "Book" "entry", .meth "Book" "know", .meth "Book" "put", .meth "Book" "drop", .meth "Book" "ask", .meth "Book" "is_asked", .meth "Book" "names", .meth "Book" "asked", .meth "Book" "last", .meth "Book" "history", .meth "Book" "log", .meth "Book" "__len__", .glo "StartError", .glo "BadMixing", .glo "Known", .glo "Unknown", .glo "TooMany"]
def hex (K : PySem.W.Frag) : Bool := errOk K "StartError" ERRS && neD K "Mixing" && tupA K (kda K ("Book", some "know") "policy") && tupA K (kda K ("Book", some "know") "plan")
abbrev hR : PySem.W.OpenRow := PySem.W.OpenLaw.row PySem.Challenge.rw_startlog_k60_machines_known
abbrev hk : PySem.W.Hook := hookE 5 hfa hfn hex
def hob (s : PySem.W.SharedT) : He.AlD × Bool := obsE 5 hfa hfn hex (HandSHeadRun.getT s)
def hloose0 : List Str := ["FACTOR", "BOARDS", "FIXED", "LIFE", "MACHINES", "LEAST_WIDTH", "GREATEST", "StartError", "BadMixing", "Known", "Unknown", "TooMany"]
def hloose1 : List Str := ["Mixing", "Entry", "Book", "_wall", "is_number", "common_divisor", "is_width", "is_factor", "_law_box", "_law_take", "_law_pick", "_law_names"]
def hloose2 : List Str := ["_law_same", "_law_shares", "_law_how", "_law_stock", "_law_begun", "_law_asked_now", "_law_ask", "_law_stands", "_law_refused", "_law_deed_right", "_law_right"]
def hloose : List Str := hloose0 ++ hloose1 ++ hloose2
theorem opt3 {α β γ δ : Type} {o : Option α} {f : α → β} {g : α → γ} {h : α → δ} {a : β} {b : γ} {c : δ} (ha : o.map f = some a) (hb : o.map g = some b) (hc : o.map h = some c) : o.map (fun s => (f s, g s, h s)) = some (a, b, c) := by
  cases o with
  | none => cases ha
  | some x =>
    cases ha
    cases hb
    cases hc
    rfl
section
open PySem PySem.W PySem.Calls PyProof.Rows HandSHeadRun
theorem hrunA (w : World) (os : OsState) : (endF (stepQ (denQ tabQ) hR.prog w) 8000 hR.prog w os).map (fun s => looksF hR.prog (boot_heap w.params) s.abs) = some true := by
  kernel_rfl
theorem hrunB (w : World) (os : OsState) : (endF (stepQ (denQ tabQ) hR.prog w) 8000 hR.prog w os).map (fun s => seenQ (PySem.W.view hR.prog [40]) hloose (importedModules hR.prog.main.body) (fun s => xlAt (PySem.W.view hR.prog [40]) [] s && recOk hR.toRowW.records s) s.abs) = some (openGood (PySem.W.view hR.prog [40]) hloose) := by
  kernel_rfl
theorem hrunC (w : World) (os : OsState) : (endF (stepQ (denQ tabQ) hR.prog w) 8000 hR.prog w os).map (fun s => hob s) = some (hk.val w) := by
  kernel_rfl
end
theorem hrun (w : World) : HandSHeadRun.RunEq hR (PySem.W.view hR.prog [40]) hk hob 8000 hloose w := by
  intro os
  exact opt3 (hrunA w os) (hrunB w os) (hrunC w os)
end
section
variable {P : Program} {w : World} {K : PySem.W.Frag} {mg : Str → Option Value} {base : Heap}

end
section
variable {P : Program} {w : World} {K : PySem.W.Frag} {mg : Str → Option Value} {base : Heap}
/-! what the head is asked for besides -/
theorem obsE_eq {n : Nat} {fa : List He.Fa} {fn : List He.DefD} {ex : PySem.W.Frag → Bool} {g : Addr → Option Obj} {s : Shared} (h : ∀ a, g a = s.heap.get? a) : obsE n fa fn ex g = (hookE n fa fn ex).obs s := by
  have e : g = s.heap.get? := funext h
  rw [e]
  rfl
/-! heaps -/
theorem same_new {H : Hp} {p : Addr} {o : HO} (h : H p = none) : Same H (upd H p o) := fun b x e => by
  rw [upd_ne (ne_of_none e h)]
  exact e
/-- all that was tracked is as it was, but for p -/
def But (p : Addr) (H G : Hp) : Prop := ∀ b o, H b = some o → b ≠ p → G b = some o
theorem But.upd {p : Addr} {H : Hp} {o : HO} : But p H (upd H p o) := fun b x e n => by
  rw [upd_ne n]
  exact e
/-- a box of draws at p, at most n of them by the second way -/
def Box (H : Hp) (p : Addr) (n : Int) : Prop := ∃ x y z : Int, H p = some (.lst [.int x, .int y, .int z]) ∧ 0 ≤ x ∧ 0 ≤ y ∧ y < 1099511627776 ∧ 0 ≤ z ∧ z ≤ n
theorem Box.same {H G : Hp} {p : Addr} {n : Int} (b : Box H p n) (s : Same H G) : Box G p n := by
  obtain ⟨x, y, z, e, h⟩ := b
  exact ⟨x, y, z, s _ _ e, h⟩
theorem seqT_same {K : PySem.W.Frag} {H G : Hp} {a : Addr} {xs : List V} (s : Same H G) (h : SqT K H a xs) : SqT K G a xs := by
  rcases h with (h | ⟨o, h⟩) | h
  · exact .inl (.inl (s _ _ h))
  · exact .inl (.inr ⟨o, s _ _ h⟩)
  · exact .inr h
theorem bit_lo (b : Bool) : -(2 ^ 64 : Int) < (if b = true then 1 else 0 : Int) := by cases b <;> decide
theorem bit_hi (b : Bool) : (if b = true then 1 else 0 : Int) < 2 ^ 64 := by cases b <;> decide
theorem qt {Q : VK} {H : Hp} {c : Prop} [Decidable c] (hc : c) (q : Q (.bl true) H) : Q (.bl (decide c)) H := by
  rw [decide_eq_true hc]
  exact q
/-! kinds -/
theorem ty_list {K : PySem.W.Frag} {H : Hp} {a : Addr} {xs : List V} (h : SqL K H a xs) : TyX K H (.ref a) (.type "list") := by
  rcases h with (h | ⟨o, h⟩) | ⟨o, its, n, h1, h2, _⟩
  · exact .base (.lst h)
  · exact .base (.frz h)
  · exact .kList h1 h2
theorem ty_tup {K : PySem.W.Frag} {H : Hp} {a : Addr} {xs : List V} (h : SqT K H a xs) : TyX K H (.ref a) (.type "tuple") := by
  rcases h with (h | ⟨o, h⟩) | ⟨o, its, n, h1, h2, _⟩
  · exact .base (.tup h)
  · exact .fTuple h
  · exact .kTuple h1 h2
mutual
theorem dp_same {K : PySem.W.Frag} {H G : Hp} (s : Same H G) : ∀ (d : PyData) (v : V), Dp K H v d → Dp K G v d
  | .none, _, h => by cases h; exact .non
  | .bool b, _, h => by cases h; exact .bl b
  | .int i, _, h => by cases h; exact .int i
  | .str x, _, h => by cases h; exact .str x
  | .list ds, _, h => by
    cases h with
    | lst a b => exact .lst (s.seq a) (dps_same s ds _ b)
  | .tuple ds, _, h => by
    cases h with
    | tup a b => exact .tup (seqT_same s a) (dps_same s ds _ b)
  | .dict _, _, h => by cases h
theorem dps_same {K : PySem.W.Frag} {H G : Hp} (s : Same H G) : ∀ (ds : List PyData) (vs : List V), DpAll K H vs ds → DpAll K G vs ds
  | [], _, h => by cases h; exact .nil
  | d :: ds, _, h => by
    cases h with
    | cons a b => exact .cons (dp_same s d _ a) (dps_same s ds _ b)
end
theorem dpa_len {K : PySem.W.Frag} {H : Hp} : ∀ {vs : List V} {ds : List PyData}, DpAll K H vs ds → vs.length = ds.length
  | _, _, .nil => rfl
  | _, _, .cons _ t => congrArg Nat.succ (dpa_len t)
theorem dpa_at {K : PySem.W.Frag} {H : Hp} : ∀ {vs : List V} {ds : List PyData} {i : Nat} {v : V}, DpAll K H vs ds → vs[i]? = some v → ∃ d, ds[i]? = some d ∧ Dp K H v d
  | _, _, i, v, .nil, h => by simp at h
  | _, _, 0, v, .cons a t, h => by
    have e := Option.some.inj h
    subst e
    exact ⟨_, rfl, a⟩
  | _, _, i + 1, v, .cons a t, h => dpa_at (i := i) t h
/-- how deep a datum is -/
def dep : PyData → Nat
  | .list ds => deps ds + 1
  | .tuple ds => deps ds + 1
  | _ => 0
where deps : List PyData → Nat
  | [] => 0
  | d :: ds => max (dep d) (deps ds)
theorem deps_at : ∀ {ds : List PyData} {i : Nat} {d : PyData}, ds[i]? = some d → dep d ≤ dep.deps ds
  | [], i, d, h => by simp at h
  | c :: ds, 0, d, h => by
    have e := Option.some.inj h
    subst e
    exact Nat.le_max_left _ _
  | c :: ds, i + 1, d, h => Nat.le_trans (deps_at (i := i) (ds := ds) h) (Nat.le_max_right _ _)
/-- how wide it is, at most -/
def wid : PyData → Nat
  | .list ds => max ds.length (wids ds)
  | .tuple ds => max ds.length (wids ds)
  | _ => 0
where wids : List PyData → Nat
  | [] => 0
  | d :: ds => max (wid d) (wids ds)
theorem wids_at : ∀ {ds : List PyData} {i : Nat} {d : PyData}, ds[i]? = some d → wid d ≤ wid.wids ds
  | [], i, d, h => by simp at h
  | c :: ds, 0, d, h => by
    have e := Option.some.inj h
    subst e
    exact Nat.le_max_left _ _
  | c :: ds, i + 1, d, h => Nat.le_trans (wids_at (i := i) (ds := ds) h) (Nat.le_max_right _ _)
theorem small6 {n : Nat} (h : n < 1000000) : n < sizeLine := Nat.lt_of_lt_of_le h (by decide)
/-! a call by keywords alone -/
section
variable {X : Cx} {CX : CXT} {k : Nat} {f : Addr} {fd : FuncData} {ps ks : List Str} {sp : Sp} {E : XK} {x : Str} {p pos : Pos} {kws : List Keyword} {tk : TA} {g : List Value → List Value → List Value} {gV : List V → List V → List V}
end
/-! a call of a def without defaults by keywords -/
/-! the drawer of numbers -/
def spLBox (K : PySem.W.Frag) : Sp := fun vs H Q _ => ∃ (a : Addr) (ns : List Int) (k : Nat), vs = [.ref a, .int k] ∧ SqL K H a (ns.map V.int) ∧ k ≤ 1000 ∧
  ∀ (p : Addr) (x y : Int), H p = none → 0 ≤ x → 0 ≤ y → y < 1099511627776 → Q (.ref p) (upd H p (.lst [.int x, .int y, .int 0]))
def spLTake : Sp := fun vs H Q _ => ∃ (p : Addr) (m n : Int), vs = [.ref p, .int m] ∧ Box H p n ∧ n < 1099511627776 ∧ 0 < m ∧ m < 340282366920938463463374607431768211456 ∧
  ∀ (r : Int) (G : Hp), But p H G → Box G p (n + 1) → 0 ≤ r → r < m → Q (.int r) G
theorem walk_zipT {K : PySem.W.Frag} {a b : Addr} {xs ys : List V} (hn : xs.length = ys.length) : Walk (RZ.ItzT K a b) xs.length (fun H => SqT K H a xs ∧ SqT K H b ys) (YPair (fun i => xs[i]?) (fun i => ys[i]?)) := by
  refine ⟨fun i _ hi q => ?_, fun _ q => ⟨xs, ys, q.1, q.2, by omega⟩, fun i H v H' _ q y => ?_⟩
  · have h2 : i < ys.length := by omega
    exact ⟨xs, ys, xs[i], ys[i], q.1, q.2, by simp [hi], by simp [h2]⟩
  · obtain ⟨T, x, z, h1, h2, h3, h4, h5⟩ := y
    exact ⟨T, x, z, h1, h2, h3, h4 xs q.1, h5 ys q.2⟩
theorem all_rep (n : Nat) : (List.replicate n true).all id = true := by
  induction n with
  | zero => rfl
  | succ n ih => rw [List.replicate_succ, List.all_cons, ih]; rfl
theorem kit_none (K : PySem.W.Frag) (t : String) (h1 : kitB t "list" = some false) (h2 : kitB t "tuple" = some false) : PySem.W.kitAny K (.type t) [.type "list", .type "tuple"] = some false :=
  kitAny_cons (kit_ty h1) (fun _ => kitAny_cons (kit_ty h2) (fun _ => rfl) (fun z => Bool.noConfusion z)) (fun z => Bool.noConfusion z)
theorem kit_list (K : PySem.W.Frag) : PySem.W.kitAny K (.type "list") [.type "list", .type "tuple"] = some true :=
  kitAny_cons (kit_ty (r := true) (by decide +kernel)) (fun z => Bool.noConfusion z) (fun _ => rfl)
theorem kit_tup (K : PySem.W.Frag) : PySem.W.kitAny K (.type "tuple") [.type "list", .type "tuple"] = some true :=
  kitAny_cons (kit_ty (r := false) (by decide +kernel)) (fun _ => kitAny_cons (kit_ty (r := true) (by decide +kernel)) (fun z => Bool.noConfusion z) (fun _ => rfl)) (fun z => Bool.noConfusion z)
theorem cls2 : Paired ClsV [.ty "list", .ty "tuple"] [.type "list", .type "tuple"] := .cons (.ty _) (.cons (.ty _) .nil)
/-! two things alike, kind by kind -/
def spLSame (K : PySem.W.Frag) (n : Nat) : Sp := fun vs H Q _ => ∃ (x y : V) (d : PyData), vs = [x, y] ∧ Dp K H x d ∧ Dp K H y d ∧ dep d < n ∧ wid d ≤ 1000000 ∧ ∀ G, Same H G → Q (.bl true) G


end
section
variable {P : Program} {w : World} {K : PySem.W.Frag} {mg : Str → Option Value} {base : Heap}
/-- at a: an error of class cls, its dict d -/
def exv (a : Addr) (cls : Value) (d : Option Addr) : HO := .ext fun h => ∃ (oe : Obj) (vs : Array Value), h.get? a = some oe ∧ Zc cls d oe ∧ oe.data = .fields vs
/-! data: what a value stands for, whatever the heap -/
inductive Dt where
  | non | bl (b : Bool) | int (i : Int) | str (x : Str) | lst (ds : List Dt) | tup (ds : List Dt) | obj (c : Str) (ns : List Str) (ds : List Dt) | scr (ns : List Int) | err (c : Str) (d : Dt) | adr (a : Addr) | dic (ks : List Key) (ds : List Dt)
mutual
inductive Rp (K : PySem.W.Frag) (C : Hp) : V → Dt → Prop
  | non : Rp K C .non .non
  | bl (b : Bool) : Rp K C (.bl b) (.bl b)
  | int (i : Int) : Rp K C (.int i) (.int i)
  | str (x : Str) : Rp K C (.str x) (.str x)
  | lst {a : Addr} {xs : List V} {ds : List Dt} : C a = some (.lst xs) → RpL K C xs ds → Rp K C (.ref a) (.lst ds)
  | scr {a : Addr} {ns : List Int} : SqL K C a (ns.map V.int) → Rp K C (.ref a) (.scr ns)
  | tup {a : Addr} {xs : List V} {ds : List Dt} : SqT K C a xs → RpL K C xs ds → Rp K C (.ref a) (.tup ds)
  | obj {c : Str} {x dx : Addr} {ns : List Str} {vs : List V} {ds : List Dt} : C x = some (.ins (He.ga K c) dx (ns.zip vs)) → C dx = some (.own x) → ns.length = vs.length → RpL K C vs ds → Rp K C (.ref x) (.obj c ns ds)
  | adr (a : Addr) : Rp K C (.ref a) (.adr a)
  | dic {a : Addr} {ks : List Key} {vs : List V} {ds : List Dt} : Rd C a (.dK (ks.zip vs)) → ks.length = vs.length → ks.Nodup → RpL K C vs ds → Rp K C (.ref a) (.dic ks ds)
  | err {c : Str} {a dd : Addr} {v : V} {d : Dt} : C a = some (exv a (.ref (He.ga K c)) (some dd)) → C dd = some (.xd [(("what" : Str), v)]) → Rp K C v d → Rp K C (.ref a) (.err c d)
inductive RpL (K : PySem.W.Frag) (C : Hp) : List V → List Dt → Prop
  | nil : RpL K C [] []
  | cons {v : V} {vs : List V} {d : Dt} {ds : List Dt} : Rp K C v d → RpL K C vs ds → RpL K C (v :: vs) (d :: ds)
end
mutual
theorem Rp.same_ {K : PySem.W.Frag} {C G : Hp} (s : Same C G) : ∀ (d : Dt) (v : V), Rp K C v d → Rp K G v d
  | .non, _, h => by cases h; exact .non
  | .bl b, _, h => by cases h; exact .bl b
  | .int i, _, h => by cases h; exact .int i
  | .str x, _, h => by cases h; exact .str x
  | .lst ds, _, h => by
    cases h with
    | lst a b => exact .lst (s _ _ a) (RpL.same_ s ds _ b)
  | .tup ds, _, h => by
    cases h with
    | tup a b => exact .tup (seqT_same s a) (RpL.same_ s ds _ b)
  | .scr ns, _, h => by
    cases h with
    | scr a => exact .scr (s.seq a)
  | .obj c ns ds, _, h => by
    cases h with
    | obj a b l e => exact .obj (s _ _ a) (s _ _ b) l (RpL.same_ s ds _ e)
  | .adr a, _, h => by cases h; exact .adr a
  | .dic ks ds, _, h => by
    cases h with
    | dic a l n e => exact .dic (a.imp (s _ _) fun ⟨o, q⟩ => ⟨o, s _ _ q⟩) l n (RpL.same_ s ds _ e)
  | .err c d, _, h => by
    cases h with
    | err a b e => exact .err (s _ _ a) (s _ _ b) (Rp.same_ s d _ e)
theorem RpL.same_ {K : PySem.W.Frag} {C G : Hp} (s : Same C G) : ∀ (ds : List Dt) (vs : List V), RpL K C vs ds → RpL K G vs ds
  | [], _, h => by cases h; exact .nil
  | d :: ds, _, h => by
    cases h with
    | cons a b => exact .cons (Rp.same_ s d _ a) (RpL.same_ s ds _ b)
end
theorem Rp.same {K : PySem.W.Frag} {C G : Hp} {v : V} {d : Dt} (h : Rp K C v d) (s : Same C G) : Rp K G v d := Rp.same_ s d v h
theorem RpL.same {K : PySem.W.Frag} {C G : Hp} {vs : List V} {ds : List Dt} (h : RpL K C vs ds) (s : Same C G) : RpL K G vs ds := RpL.same_ s ds vs h
theorem RpL.len {K : PySem.W.Frag} {C : Hp} : ∀ {vs : List V} {ds : List Dt}, RpL K C vs ds → vs.length = ds.length
  | _, _, .nil => rfl
  | _, _, .cons _ t => congrArg Nat.succ (RpL.len t)
theorem RpL.at {K : PySem.W.Frag} {C : Hp} : ∀ {vs : List V} {ds : List Dt} {i : Nat} {v : V}, RpL K C vs ds → vs[i]? = some v → ∃ d, ds[i]? = some d ∧ Rp K C v d
  | _, _, i, v, .nil, h => by simp at h
  | _, _, 0, v, .cons a t, h => by
    have e := Option.some.inj h
    subst e
    exact ⟨_, rfl, a⟩
  | _, _, i + 1, v, .cons a t, h => RpL.at (i := i) t h
theorem RpL.at' {K : PySem.W.Frag} {C : Hp} : ∀ {vs : List V} {ds : List Dt} {i : Nat} {d : Dt}, RpL K C vs ds → ds[i]? = some d → ∃ v, vs[i]? = some v ∧ Rp K C v d
  | _, _, i, d, .nil, h => by simp at h
  | _, _, 0, d, .cons a t, h => by
    have e := Option.some.inj h
    subst e
    exact ⟨_, rfl, a⟩
  | _, _, i + 1, d, .cons a t, h => RpL.at' (i := i) t h
theorem RpL.append {K : PySem.W.Frag} {C : Hp} : ∀ {vs ws : List V} {ds es : List Dt}, RpL K C vs ds → RpL K C ws es → RpL K C (vs ++ ws) (ds ++ es)
  | _, _, _, _, .nil, h => h
  | _, _, _, _, .cons a t, h => .cons a (RpL.append t h)
theorem RpL.take {K : PySem.W.Frag} {C : Hp} : ∀ {vs : List V} {ds : List Dt} (n : Nat), RpL K C vs ds → RpL K C (vs.take n) (ds.take n)
  | _, _, 0, _ => .nil
  | _, _, _ + 1, .nil => .nil
  | _, _, n + 1, .cons a t => .cons a (RpL.take n t)
theorem RpL.drop {K : PySem.W.Frag} {C : Hp} : ∀ {vs : List V} {ds : List Dt} (n : Nat), RpL K C vs ds → RpL K C (vs.drop n) (ds.drop n)
  | _, _, 0, h => h
  | _, _, _ + 1, .nil => .nil
  | _, _, n + 1, .cons a t => RpL.drop n t
/-! a def's names, by what they stand for -/
inductive Sl where
  | un | dat (d : Dt) | hot (ds : List Dt) | box (n : Int)
inductive Rs where
  | dat (d : Dt) | hot (i : Nat) (ds : List Dt) | box (i : Nat) (n : Int)
def Sl.mut : Sl → Bool
  | .hot _ => true
  | .box _ => true
  | _ => false
structure Bs where
  C0 : Hp
  H0 : Hp
  bx : Option (Nat × Addr)
def SlOk (K : PySem.W.Frag) (C H : Hp) (x : Option (Option V)) : Sl → Prop
  | .un => True
  | .dat d => ∃ v, x = some (some v) ∧ Rp K C v d
  | .hot ds => ∃ a vs, x = some (some (.ref a)) ∧ H a = some (.lst vs) ∧ RpL K C vs ds ∧ C a = none
  | .box n => ∃ p, x = some (some (.ref p)) ∧ Box H p n ∧ C p = none
structure Sep (K : PySem.W.Frag) (B : Bs) (C H : Hp) (σ : L2.St) (ρ : List Sl) : Prop where
  cold : Same C H
  len : σ.length = ρ.length
  sl : ∀ (i : Nat) (s : Sl), ρ[i]? = some s → SlOk K C H σ[i]? s
  ne : ∀ (i j : Nat) (a : Addr) (s t : Sl), i ≠ j → ρ[i]? = some s → ρ[j]? = some t → s.mut = true → t.mut = true → σ[i]? = some (some (V.ref a)) → σ[j]? = some (some (V.ref a)) → False
  grow : Same B.C0 C
  new : ∀ a o, C a = some o → B.C0 a = none → B.H0 a = none
  dom : ∀ a, B.H0 a ≠ none → H a ≠ none
  keep : ∀ a o, B.H0 a = some o → (∀ i, B.bx ≠ some (i, a)) → H a = some o
  loc : ∀ (i : Nat) (a : Addr) (ds : List Dt), ρ[i]? = some (.hot ds) → σ[i]? = some (some (V.ref a)) → B.H0 a = none
  lob : ∀ (i : Nat) (a : Addr) (n : Int), ρ[i]? = some (.box n) → σ[i]? = some (some (V.ref a)) → B.H0 a = none ∨ B.bx = some (i, a)
  par : ∀ (i : Nat) (a : Addr), B.bx = some (i, a) → σ[i]? = some (some (V.ref a)) ∧ ∃ n, ρ[i]? = some (.box n)
  pz : ∀ (i : Nat) (a : Addr), B.bx = some (i, a) → i = 0
section
variable {B : Bs} {C H : Hp} {σ : L2.St} {ρ : List Sl}
theorem Sep.mutH (S : Sep K B C H σ ρ) {i : Nat} {s : Sl} {a : Addr} (h : ρ[i]? = some s) (m : s.mut = true) (e : σ[i]? = some (some (V.ref a))) : C a = none ∧ H a ≠ none := by
  have q := S.sl i s h
  cases s with
  | un => cases m
  | dat d => cases m
  | hot ds =>
    obtain ⟨b, vs, e2, h2, _, h3⟩ := q
    rw [e] at e2
    cases e2
    exact ⟨h3, by rw [h2]; exact fun z => nomatch z⟩
  | box n =>
    obtain ⟨b, e2, ⟨x, y, z, h2, _⟩, h3⟩ := q
    rw [e] at e2
    cases e2
    exact ⟨h3, by rw [h2]; exact fun z => nomatch z⟩
theorem Sep.alloc (S : Sep K B C H σ ρ) {p : Addr} {o : HO} (hp : H p = none) : Sep K B (upd C p o) (upd H p o) σ ρ := by
  have cp : C p = none := S.cold.free hp
  have sC : Same C (upd C p o) := same_new cp
  have sH : Same H (upd H p o) := same_new hp
  have ha : ∀ a, H a ≠ none → a ≠ p := fun a h e => h (by rw [e]; exact hp)
  refine ⟨fun b x e => ?_, S.len, fun i s h => ?_, S.ne, S.grow.trans sC, fun a x e n => ?_, fun a h => ?_, fun a x h n => sH _ _ (S.keep a x h n), S.loc, S.lob, S.par, S.pz⟩
  · by_cases z : b = p
    · subst z
      rw [upd_same] at e ⊢
      exact e
    · rw [upd_ne z] at e ⊢
      exact S.cold _ _ e
  · have q := S.sl i s h
    cases s with
    | un => trivial
    | dat d =>
      obtain ⟨v, e, r⟩ := q
      exact ⟨v, e, r.same sC⟩
    | hot ds =>
      obtain ⟨a, vs, e, h2, r, h3⟩ := q
      have np := ha a (by rw [h2]; exact fun z => nomatch z)
      exact ⟨a, vs, e, sH _ _ h2, r.same sC, by rw [upd_ne np]; exact h3⟩
    | box n =>
      obtain ⟨a, e, b, h3⟩ := q
      have np := ha a (by obtain ⟨x, y, z, h2, _⟩ := b; rw [h2]; exact fun z => nomatch z)
      exact ⟨a, e, b.same sH, by rw [upd_ne np]; exact h3⟩
  · by_cases z : a = p
    · subst z
      cases q : B.H0 a with
      | none => rfl
      | some u => exact absurd hp (S.dom a (by rw [q]; exact fun z => nomatch z))
    · rw [upd_ne z] at e
      exact S.new a x e n
  · by_cases z : a = p
    · subst z
      rw [upd_same]
      exact fun z => nomatch z
    · rw [upd_ne z]
      exact S.dom a h
theorem get_set {α : Type} {l : List α} {i j : Nat} {x y : α} (h : (l.set i x)[j]? = some y) : (i = j ∧ x = y ∧ i < l.length) ∨ (i ≠ j ∧ l[j]? = some y) := by
  rw [List.getElem?_set] at h
  by_cases e : i = j
  · rw [if_pos e] at h
    by_cases z : i < l.length
    · rw [if_pos (e ▸ z)] at h
      exact .inl ⟨e, Option.some.inj h, z⟩
    · rw [if_neg (e ▸ z)] at h
      cases h
  · rw [if_neg e] at h
    exact .inr ⟨e, h⟩
theorem set_at {α : Type} {l : List α} {i : Nat} {x : α} (h : i < l.length) : (l.set i x)[i]? = some x := by
  rw [List.getElem?_set, if_pos rfl, if_pos h]
theorem set_off {α : Type} {l : List α} {i j : Nat} {x : α} (h : i ≠ j) : (l.set i x)[j]? = l[j]? := by
  rw [List.getElem?_set, if_neg h]
/-- slot i is put anew -/
theorem Sep.put (S : Sep K B C H σ ρ) {i : Nat} {x : Option V} {s : Sl} (hb : i = 0 → ∀ n, ρ[i]? ≠ some (.box n)) (ok : i < ρ.length → SlOk K C H (some x) s) (hm : s.mut = true → ∀ a, x = some (.ref a) → (∀ j t, i ≠ j → ρ[j]? = some t → t.mut = true → σ[j]? ≠ some (some (V.ref a))) ∧ B.H0 a = none) :
    Sep K B C H (σ.set i x) (ρ.set i s) := by
  have hl := S.len
  refine ⟨S.cold, by rw [List.length_set, List.length_set, S.len], fun j t h => ?_, fun j k a t u n h1 h2 m1 m2 e1 e2 => ?_, S.grow, S.new, S.dom, S.keep, fun j a ds h e => ?_, fun j a n h e => ?_, fun j a h => ?_, S.pz⟩
  · rcases get_set h with ⟨rfl, rfl, l⟩ | ⟨n, h⟩
    · rw [set_at (by omega)]
      exact ok l
    · rw [set_off n]
      exact S.sl j t h
  · rcases get_set h1 with ⟨rfl, rfl, l⟩ | ⟨n1, h1⟩
    · rw [set_at (by omega)] at e1
      rw [set_off n] at h2 e2
      exact (hm m1 a (Option.some.inj e1)).1 k u n h2 m2 e2
    · rw [set_off n1] at e1
      rcases get_set h2 with ⟨rfl, rfl, l⟩ | ⟨n2, h2⟩
      · rw [set_at (by omega)] at e2
        exact (hm m2 a (Option.some.inj e2)).1 j t n1 h1 m1 e1
      · rw [set_off n2] at e2
        exact S.ne j k a t u n h1 h2 m1 m2 e1 e2
  · rcases get_set h with ⟨rfl, rfl, l⟩ | ⟨n, h⟩
    · rw [set_at (by omega)] at e
      exact (hm rfl a (Option.some.inj e)).2
    · rw [set_off n] at e
      exact S.loc j a ds h e
  · rcases get_set h with ⟨rfl, rfl, l⟩ | ⟨n, h⟩
    · rw [set_at (by omega)] at e
      exact .inl (hm rfl a (Option.some.inj e)).2
    · rw [set_off n] at e
      exact S.lob j a _ h e
  · obtain ⟨e, m, h2⟩ := S.par j a h
    have n : i ≠ j := fun z => hb (z.trans (S.pz j a h)) m (by rw [z]; exact h2)
    rw [set_off n, set_off n]
    exact ⟨e, m, h2⟩
theorem Sep.dat (S : Sep K B C H σ ρ) {i : Nat} {v : V} {d : Dt} (hb : i = 0 → ∀ n, ρ[i]? ≠ some (.box n)) (r : Rp K C v d) : Sep K B C H (σ.set i (some v)) (ρ.set i (.dat d)) :=
  S.put hb (fun _ => ⟨v, rfl, r⟩) fun z => nomatch z
theorem Sep.un (S : Sep K B C H σ ρ) {i : Nat} {x : Option V} (hb : i = 0 → ∀ n, ρ[i]? ≠ some (.box n)) : Sep K B C H (σ.set i x) (ρ.set i .un) :=
  S.put hb (fun _ => trivial) fun z => nomatch z
/-- a mutable thing grows cold -/
theorem Sep.cool (S : Sep K B C H σ ρ) {i : Nat} {ds : List Dt} {v : V} (h : ρ[i]? = some (.hot ds)) (e : σ[i]? = some (some v)) : ∃ C', Sep K B C' H σ (ρ.set i (.dat (.lst ds))) ∧ Same C C' ∧ Rp K C' v (.lst ds) := by
  obtain ⟨a, vs, e2, ha, r, ca⟩ := S.sl i _ h
  rw [e] at e2
  cases e2
  have sC : Same C (upd C a (.lst vs)) := same_new ca
  have R : Rp K (upd C a (.lst vs)) (.ref a) (.lst ds) := .lst upd_same (r.same sC)
  have li : i < ρ.length := by
    cases Nat.lt_or_ge i ρ.length with
    | inl h => exact h
    | inr g =>
      rw [List.getElem?_eq_none g] at h
      cases h
  refine ⟨upd C a (.lst vs), ⟨fun b o q => ?_, by rw [List.length_set]; exact S.len, fun j t q => ?_, fun j k b t u n h1 h2 m1 m2 e1 e2 => ?_, S.grow.trans sC, fun b o q n => ?_, S.dom, S.keep, fun j b es q q2 => ?_, fun j b n q q2 => ?_, fun j b q => ?_, S.pz⟩, sC, R⟩
  · by_cases z : b = a
    · subst z
      rw [upd_same] at q
      rw [ha]
      exact q
    · rw [upd_ne z] at q
      exact S.cold _ _ q
  · rcases get_set q with ⟨rfl, rfl, l⟩ | ⟨n, q⟩
    · exact ⟨_, e, R⟩
    · have w := S.sl j t q
      cases t with
      | un => trivial
      | dat d =>
        obtain ⟨v, e, r⟩ := w
        exact ⟨v, e, r.same sC⟩
      | hot es =>
        obtain ⟨b, ws, e3, h2, r2, h3⟩ := w
        have np : b ≠ a := fun z => S.ne i j a _ _ n h q rfl rfl e (z ▸ e3)
        exact ⟨b, ws, e3, h2, r2.same sC, by rw [upd_ne np]; exact h3⟩
      | box m =>
        obtain ⟨b, e3, h2, h3⟩ := w
        have np : b ≠ a := fun z => S.ne i j a _ _ n h q rfl rfl e (z ▸ e3)
        exact ⟨b, e3, h2, by rw [upd_ne np]; exact h3⟩
  · rcases get_set h1 with ⟨rfl, rfl, l⟩ | ⟨n1, h1⟩
    · cases m1
    rcases get_set h2 with ⟨rfl, rfl, l⟩ | ⟨n2, h2⟩
    · cases m2
    exact S.ne j k b t u n h1 h2 m1 m2 e1 e2
  · by_cases z : b = a
    · subst z
      exact S.loc i b ds h e
    · rw [upd_ne z] at q
      exact S.new b o q n
  · rcases get_set q with ⟨rfl, z, l⟩ | ⟨n, q⟩
    · cases z
    · exact S.loc j b es q q2
  · rcases get_set q with ⟨rfl, z, l⟩ | ⟨n, q⟩
    · cases z
    · exact S.lob j b _ q q2
  · obtain ⟨e3, m, h2⟩ := S.par j b q
    have n : i ≠ j := fun z => by rw [← z, h] at h2; cases h2
    exact ⟨e3, m, by rw [set_off n]; exact h2⟩
end

end
section
variable {P : Program} {w : World} {K : PySem.W.Frag} {mg : Str → Option Value} {base : Heap}
/-! readings over data -/
inductive Ar where
  | d (x : Dt) | b (i : Nat)
inductive Ro where
  | dat (d : Dt) | new (ds : List Dt)
abbrev WE := List Sl → (Rs → List Sl → Prop) → Prop
abbrev WN := List Sl → (List Dt → List Sl → Prop) → Prop
abbrev WT := List Sl → (Bool → List Sl → Prop) → Prop
abbrev WA := List Sl → (List Ar → List Sl → Prop) → Prop
abbrev WG := Dt → List Sl → (List Sl → Prop) → Prop
def RsOk (K : PySem.W.Frag) (C : Hp) (σ : L2.St) (ρ : List Sl) (v : V) : Rs → Prop
  | .dat d => Rp K C v d
  | .hot i ds => σ[i]? = some (some v) ∧ ρ[i]? = some (.hot ds)
  | .box i n => σ[i]? = some (some v) ∧ ρ[i]? = some (.box n)
/-- data, or a list that may be changed of such -/
def Rt (K : PySem.W.Frag) (C H : Hp) (v : V) (d : Dt) : Prop := Rp K C v d ∨ ∃ a vs ds, v = .ref a ∧ d = .lst ds ∧ H a = some (.lst vs) ∧ RpL K C vs ds
def Fr (K : PySem.W.Frag) (B : Bs) (C H : Hp) (σ : L2.St) (ρ : List Sl) (a : Addr) (ds : List Dt) : Prop :=
  (∃ vs, H a = some (.lst vs) ∧ RpL K C vs ds) ∧ C a = none ∧ B.H0 a = none ∧ ∀ (j : Nat) (t : Sl), ρ[j]? = some t → t.mut = true → σ[j]? ≠ some (some (V.ref a))
class Sd (K : PySem.W.Frag) (t : TE) (w : outParam WE) : Prop where
  run : ∀ (B : Bs) (C H : Hp) (σ : L2.St) (ρ : List Sl) (Q : VK) (Ψ : Rs → List Sl → Prop), Sep K B C H σ ρ → w ρ Ψ → (∀ C' G v r ρ', Sep K B C' G σ ρ' → Same C C' → RsOk K C' σ ρ' v r → Ψ r ρ' → Q v G) → t σ H Q
class Sn (K : PySem.W.Frag) (t : TE) (w : outParam WN) : Prop where
  run : ∀ (B : Bs) (C H : Hp) (σ : L2.St) (ρ : List Sl) (Q : VK) (Ψ : List Dt → List Sl → Prop), Sep K B C H σ ρ → w ρ Ψ → (∀ C' G a ds ρ', Sep K B C' G σ ρ' → Same C C' → Fr K B C' G σ ρ' a ds → Ψ ds ρ' → Q (.ref a) G) → t σ H Q
class Sc (K : PySem.W.Frag) (t : TT) (w : outParam WT) : Prop where
  run : ∀ (B : Bs) (C H : Hp) (σ : L2.St) (ρ : List Sl) (Q : Bool → Hp → Prop) (Ψ : Bool → List Sl → Prop), Sep K B C H σ ρ → w ρ Ψ → (∀ C' G b ρ', Sep K B C' G σ ρ' → Same C C' → Ψ b ρ' → Q b G) → t σ H Q
def ArOk (K : PySem.W.Frag) (C : Hp) (σ : L2.St) (v : V) : Ar → Prop
  | .d x => Rp K C v x
  | .b i => σ[i]? = some (some v)
inductive ArL (K : PySem.W.Frag) (C : Hp) (σ : L2.St) : List V → List Ar → Prop
  | nil : ArL K C σ [] []
  | cons {v : V} {vs : List V} {a : Ar} {as : List Ar} : ArOk K C σ v a → ArL K C σ vs as → ArL K C σ (v :: vs) (a :: as)
class Sa (K : PySem.W.Frag) (t : TA) (w : outParam WA) : Prop where
  run : ∀ (B : Bs) (C H : Hp) (σ : L2.St) (ρ : List Sl) (Q : List V → Hp → Prop) (Ψ : List Ar → List Sl → Prop), Sep K B C H σ ρ → w ρ Ψ → (∀ C' G vs as ρ', Sep K B C' G σ ρ' → Same C C' → ArL K C' σ vs as → Ψ as ρ' → Q vs G) → t σ H Q
theorem ArOk.same {C G : Hp} {σ : L2.St} {v : V} {a : Ar} (h : ArOk K C σ v a) (s : Same C G) : ArOk K G σ v a := by
  cases a with
  | d x => exact Rp.same h s
  | b i => exact h
theorem ArL.same {C G : Hp} {σ : L2.St} (s : Same C G) : ∀ {vs : List V} {as : List Ar}, ArL K C σ vs as → ArL K G σ vs as
  | _, _, .nil => .nil
  | _, _, .cons h t => .cons (h.same s) (ArL.same s t)
/-- what is put into a thing grows cold -/
def store (r : Rs) (ρ : List Sl) (k : Ar → List Sl → Prop) : Prop := match r with
  | .dat d => k (.d d) ρ
  | .hot i ds => k (.d (.lst ds)) (ρ.set i (.dat (.lst ds)))
  | .box i _ => k (.b i) ρ
def Rs.val (ρ : List Sl) : Rs → Option Dt
  | .dat d => some d
  | .hot i _ => match ρ[i]? with
    | some (.hot ds) => some (.lst ds)
    | some (.dat d) => some d
    | _ => none
  | .box _ _ => none
def dats : List Ar → Option (List Dt)
  | [] => some []
  | .d x :: as => match dats as with
    | some ds => some (x :: ds)
    | none => none
  | .b _ :: _ => none
theorem ArL.dats {C : Hp} {σ : L2.St} : ∀ {vs : List V} {as : List Ar} {ds : List Dt}, ArL K C σ vs as → dats as = some ds → RpL K C vs ds
  | _, _, ds, .nil, e => by cases e; exact .nil
  | _, .d x :: as, ds, .cons h t, e => by
    unfold Sl.dats at e
    cases q : Sl.dats as with
    | none => rw [q] at e; cases e
    | some es =>
      rw [q] at e
      cases e
      exact .cons h (ArL.dats t q)
  | _, .b i :: as, ds, .cons h t, e => by cases e
section
variable {B : Bs} {C H G : Hp} {σ : L2.St} {ρ : List Sl}
theorem Sep.stored (S : Sep K B C H σ ρ) {v : V} {r : Rs} {k : Ar → List Sl → Prop} (h : RsOk K C σ ρ v r) (hk : store r ρ k) : ∃ C' a ρ', Sep K B C' H σ ρ' ∧ Same C C' ∧ ArOk K C' σ v a ∧ k a ρ' := by
  cases r with
  | dat d => exact ⟨C, .d d, ρ, S, Same.refl _, h, hk⟩
  | hot i ds =>
    obtain ⟨C', S', s, r⟩ := S.cool h.2 h.1
    exact ⟨C', .d (.lst ds), _, S', s, r, hk⟩
  | box i n => exact ⟨C, .b i, ρ, S, Same.refl _, h.1, hk⟩
theorem Sep.valOf (S : Sep K B C H σ ρ) {C0 : Hp} {ρ0 : List Sl} {v : V} {r : Rs} {d : Dt} (h : RsOk K C0 σ ρ0 v r) (s : Same C0 C) (e : r.val ρ = some d) : Rt K C H v d := by
  cases r with
  | dat d' => cases e; exact .inl (Rp.same h s)
  | hot i ds =>
    obtain ⟨h1, h2⟩ := h
    unfold Rs.val at e
    dsimp only at e
    cases q : ρ[i]? with
    | none => rw [q] at e; cases e
    | some t =>
      rw [q] at e
      cases t with
      | un => cases e
      | dat d' =>
        cases e
        obtain ⟨u, e1, r⟩ := S.sl i _ q
        rw [h1] at e1
        cases e1
        exact .inl r
      | hot es =>
        cases e
        obtain ⟨a, vs, e1, ha, r, _⟩ := S.sl i _ q
        rw [h1] at e1
        cases e1
        exact .inr ⟨a, vs, es, rfl, rfl, ha, r⟩
      | box n => cases e
  | box i n => cases e
theorem Sep.allocN (S : Sep K B C H σ ρ) {p : Addr} {o : HO} (hp : H p = none) : Sep K B C (upd H p o) σ ρ := by
  have sH : Same H (upd H p o) := same_new hp
  refine ⟨S.cold.trans sH, S.len, fun i s h => ?_, S.ne, S.grow, S.new, fun a h => ?_, fun a x h n => sH _ _ (S.keep a x h n), S.loc, S.lob, S.par, S.pz⟩
  · have q := S.sl i s h
    cases s with
    | un => trivial
    | dat d => exact q
    | hot ds =>
      obtain ⟨a, vs, e, h2, r, h3⟩ := q
      exact ⟨a, vs, e, sH _ _ h2, r, h3⟩
    | box n =>
      obtain ⟨a, e, b, h3⟩ := q
      exact ⟨a, e, b.same sH, h3⟩
  · by_cases z : a = p
    · subst z
      rw [upd_same]
      exact fun z => nomatch z
    · rw [upd_ne z]
      exact S.dom a h
theorem Sep.free0 (S : Sep K B C H σ ρ) {p : Addr} (hp : H p = none) : B.H0 p = none := by
  cases q : B.H0 p with
  | none => rfl
  | some u => exact absurd hp (S.dom p (by rw [q]; exact fun z => nomatch z))
theorem Sep.nohot (S : Sep K B C H σ ρ) {p : Addr} (hp : H p = none) : ∀ (j : Nat) (t : Sl), ρ[j]? = some t → t.mut = true → σ[j]? ≠ some (some (V.ref p)) := fun j t h m e => (S.mutH h m e).2 hp
theorem Sep.frN (S : Sep K B C H σ ρ) {p : Addr} {vs : List V} {ds : List Dt} (hp : H p = none) (r : RpL K C vs ds) : Fr K B C (upd H p (.lst vs)) σ ρ p ds :=
  ⟨⟨vs, upd_same, r⟩, S.cold.free hp, S.free0 hp, S.nohot hp⟩
/-- a new list grows cold -/
theorem Fr.cool {a : Addr} {ds : List Dt} (f : Fr K B C H σ ρ a ds) (S : Sep K B C H σ ρ) : ∃ C', Sep K B C' H σ ρ ∧ Same C C' ∧ Rp K C' (.ref a) (.lst ds) := by
  obtain ⟨⟨vs, ha, r⟩, ca, h0, nh⟩ := f
  have sC : Same C (upd C a (.lst vs)) := same_new ca
  refine ⟨upd C a (.lst vs), ⟨fun b o q => ?_, S.len, fun j t q => ?_, S.ne, S.grow.trans sC, fun b o q n => ?_, S.dom, S.keep, S.loc, S.lob, S.par, S.pz⟩, sC, .lst upd_same (r.same sC)⟩
  · by_cases z : b = a
    · subst z
      rw [upd_same] at q
      rw [ha]
      exact q
    · rw [upd_ne z] at q
      exact S.cold _ _ q
  · have w := S.sl j t q
    cases t with
    | un => trivial
    | dat d =>
      obtain ⟨v, e, r⟩ := w
      exact ⟨v, e, r.same sC⟩
    | hot es =>
      obtain ⟨b, ws, e3, h2, r2, h3⟩ := w
      have np : b ≠ a := fun z => nh j _ q rfl (z ▸ e3)
      exact ⟨b, ws, e3, h2, r2.same sC, by rw [upd_ne np]; exact h3⟩
    | box m =>
      obtain ⟨b, e3, h2, h3⟩ := w
      have np : b ≠ a := fun z => nh j _ q rfl (z ▸ e3)
      exact ⟨b, e3, h2, by rw [upd_ne np]; exact h3⟩
  · by_cases z : b = a
    · subst z
      exact h0
    · rw [upd_ne z] at q
      exact S.new b o q n
theorem Rt.list' {v : V} {ds : List Dt} (S : Sep K B C H σ ρ) (h : Rt K C H v (.lst ds)) : ∃ a vs, v = .ref a ∧ H a = some (.lst vs) ∧ RpL K C vs ds := by
  rcases h with h | ⟨b, vs, es, e1, e2, h, r⟩
  · cases h with
    | lst h r => exact ⟨_, _, rfl, S.cold _ _ h, r⟩
  · cases e1
    cases e2
    exact ⟨b, vs, rfl, h, r⟩
theorem Rt.tup' {v : V} {ds : List Dt} (S : Sep K B C H σ ρ) (h : Rt K C H v (.tup ds)) : ∃ a vs, v = .ref a ∧ SqT K H a vs ∧ RpL K C vs ds := by
  rcases h with h | ⟨b, vs, es, e1, e2, h, r⟩
  · cases h with
    | tup h r => exact ⟨_, _, rfl, seqT_same S.cold h, r⟩
  · cases e2
theorem Rt.int {v : V} {i : Int} (h : Rt K C H v (.int i)) : v = .int i := by
  rcases h with h | ⟨b, vs, es, e1, e2, h, r⟩
  · cases h; rfl
  · cases e2
theorem Rt.bl {v : V} {b : Bool} (h : Rt K C H v (.bl b)) : v = .bl b := by
  rcases h with h | ⟨b, vs, es, e1, e2, h, r⟩
  · cases h; rfl
  · cases e2
theorem Rt.str {v : V} {x : Str} (h : Rt K C H v (.str x)) : v = .str x := by
  rcases h with h | ⟨b, vs, es, e1, e2, h, r⟩
  · cases h; rfl
  · cases e2
theorem Rt.non {v : V} (h : Rt K C H v .non) : v = .non := by
  rcases h with h | ⟨b, vs, es, e1, e2, h, r⟩
  · cases h; rfl
  · cases e2
end
/-! names, constants -/
def wVar (i : Nat) : WE := fun ρ Ψ => match ρ[i]? with
  | some (.dat d) => Ψ (.dat d) ρ
  | some (.hot ds) => Ψ (.hot i ds) ρ
  | some (.box n) => Ψ (.box i n) ρ
  | _ => False
instance sd_var {i : Nat} : Sd K (tVar i) (wVar i) where
  run B C H σ ρ Q Ψ S h k := by
    unfold wVar at h
    cases q : ρ[i]? with
    | none => rw [q] at h; exact h.elim
    | some t =>
      rw [q] at h
      have s := S.sl i t q
      cases t with
      | un => exact h.elim
      | dat d =>
        obtain ⟨v, e, r⟩ := s
        exact ⟨v, e, k _ _ _ (.dat d) _ S (Same.refl _) r h⟩
      | hot ds =>
        obtain ⟨a, vs, e, _⟩ := s
        exact ⟨_, e, k _ _ _ (.hot i ds) _ S (Same.refl _) ⟨e, q⟩ h⟩
      | box n =>
        obtain ⟨a, e, _⟩ := s
        exact ⟨_, e, k _ _ _ (.box i n) _ S (Same.refl _) ⟨e, q⟩ h⟩
def datV : V → Option Dt
  | .non => some .non
  | .bl b => some (.bl b)
  | .int i => some (.int i)
  | .str x => some (.str x)
  | _ => none
theorem datV_ok {C : Hp} : ∀ {v : V} {d : Dt}, datV v = some d → Rp K C v d
  | .non, _, e => by cases e; exact .non
  | .bl b, _, e => by cases e; exact .bl b
  | .int i, _, e => by cases e; exact .int i
  | .str x, _, e => by cases e; exact .str x
def wC (v : V) : WE := fun ρ Ψ => match datV v with
  | some d => Ψ (.dat d) ρ
  | none => False
instance sd_c {v : V} : Sd K (tC v) (wC v) where
  run B C H σ ρ Q Ψ S h k := by
    unfold wC at h
    cases q : datV v with
    | none => rw [q] at h; exact h.elim
    | some d =>
      rw [q] at h
      exact k _ _ _ (.dat d) _ S (Same.refl _) (datV_ok q) h
/-! two operands -/
class So (K : PySem.W.Frag) (r : R2) (op : outParam (Dt → Dt → (Dt → Prop) → Prop)) : Prop where
  run : ∀ (B : Bs) (C H : Hp) (σ : L2.St) (ρ : List Sl) (x y : V) (dx dy : Dt) (Q : VK) (Φ : Dt → Prop), Sep K B C H σ ρ → Rt K C H x dx → Rt K C H y dy → op dx dy Φ → (∀ C' G v d, Sep K B C' G σ ρ → Same C C' → Rp K C' v d → Φ d → Q v G) → r x y H Q
def wOp (op : Dt → Dt → (Dt → Prop) → Prop) (wa wb : WE) : WE := fun ρ Ψ => wa ρ fun r1 ρ1 => wb ρ1 fun r2 ρ2 => match r1.val ρ2, r2.val ρ2 with
  | some d1, some d2 => op d1 d2 fun d => Ψ (.dat d) ρ2
  | _, _ => False
instance sd_op {r : R2} {op : Dt → Dt → (Dt → Prop) → Prop} {ta tb : TE} {wa wb : WE} [o : So K r op] [a : Sd K ta wa] [b : Sd K tb wb] : Sd K (tOp r ta tb) (wOp op wa wb) where
  run B C H σ ρ Q Ψ S h k := by
    refine a.run B C H σ ρ _ _ S h fun C1 H1 v1 r1 ρ1 S1 s1 ok1 h1 => ?_
    refine b.run B C1 H1 σ ρ1 _ _ S1 h1 fun C2 H2 v2 r2 ρ2 S2 s2 ok2 h2 => ?_
    cases q1 : r1.val ρ2 with
    | none => simp only [q1] at h2
    | some d1 =>
      cases q2 : r2.val ρ2 with
      | none => simp only [q1, q2] at h2
      | some d2 =>
        simp only [q1, q2] at h2
        exact o.run B C2 H2 σ ρ2 _ _ _ _ _ _ S2 (S2.valOf ok1 s2 q1) (S2.valOf ok2 (Same.refl _) q2) h2 fun C' G v d S' s' r' z => k _ _ _ (.dat d) _ S' (s1.trans (s2.trans s')) r' z
def oI (P : Int → Int → Prop) (g : Int → Int → V) : Dt → Dt → (Dt → Prop) → Prop
  | .int i, .int j, Φ => P i j ∧ (match datV (g i j) with | some d => Φ d | none => False)
  | _, _, _ => False
theorem oI_run {P : Int → Int → Prop} {g : Int → Int → V} {C H : Hp} {x y : V} {dx dy : Dt} {Φ : Dt → Prop} (hx : Rt K C H x dx) (hy : Rt K C H y dy) (h : oI P g dx dy Φ) : ∃ i j d, x = .int i ∧ y = .int j ∧ P i j ∧ datV (g i j) = some d ∧ Φ d := by
  cases dx <;> cases dy <;> try exact False.elim h
  rename_i i j
  obtain ⟨p, z⟩ := h
  cases q : datV (g i j) with
  | none => rw [q] at z; exact z.elim
  | some d =>
    rw [q] at z
    exact ⟨i, j, d, hx.int, hy.int, p, q, z⟩
instance so_I {P : Int → Int → Prop} {g : Int → Int → V} : So K (rI P g) (oI P g) where
  run B C H σ ρ x y dx dy Q Φ S hx hy h k := by
    obtain ⟨i, j, d, rfl, rfl, p, q, z⟩ := oI_run hx hy h
    exact ⟨i, j, rfl, rfl, p, k _ _ _ _ S (Same.refl _) (datV_ok q) z⟩
def oI0 (g : Int → Int → V) : Dt → Dt → (Dt → Prop) → Prop
  | .int i, .int j, Φ => (match datV (g i j) with | some d => Φ d | none => False)
  | _, _, _ => False
theorem oI0_run {g : Int → Int → V} {C H : Hp} {x y : V} {dx dy : Dt} {Φ : Dt → Prop} (hx : Rt K C H x dx) (hy : Rt K C H y dy) (h : oI0 g dx dy Φ) : ∃ i j d, x = .int i ∧ y = .int j ∧ datV (g i j) = some d ∧ Φ d := by
  cases dx <;> cases dy <;> try exact False.elim h
  rename_i i j
  have z : (match datV (g i j) with | some d => Φ d | none => False) := h
  cases q : datV (g i j) with
  | none => rw [q] at z; exact z.elim
  | some d =>
    rw [q] at z
    exact ⟨i, j, d, hx.int, hy.int, q, z⟩
instance so_I0 {g : Int → Int → V} : So K (rI0 g) (oI0 g) where
  run B C H σ ρ x y dx dy Q Φ S hx hy h k := by
    obtain ⟨i, j, d, rfl, rfl, q, z⟩ := oI0_run hx hy h
    exact ⟨i, j, rfl, rfl, k _ _ _ _ S (Same.refl _) (datV_ok q) z⟩
/-! xs[i] -/
def oIxL : Dt → Dt → (Dt → Prop) → Prop
  | .lst ds, .int i, Φ => ∃ d, atI ds i = some d ∧ Φ d
  | _, _, _ => False
def oIxT : Dt → Dt → (Dt → Prop) → Prop
  | .tup ds, .int i, Φ => ∃ d, atI ds i = some d ∧ Φ d
  | _, _, _ => False
theorem RpL.atI {C : Hp} {vs : List V} {ds : List Dt} {i : Int} {d : Dt} (r : RpL K C vs ds) (e : L2.atI ds i = some d) : ∃ v, L2.atI vs i = some v ∧ Rp K C v d := by
  unfold L2.atI at e ⊢
  rw [r.len]
  cases q : ixN ds.length i with
  | none => rw [q] at e; cases e
  | some j =>
    rw [q] at e
    exact r.at' (i := j) e
instance so_ixL : So K (rIxL K) oIxL where
  run B C H σ ρ x y dx dy Q Φ S hx hy h k := by
    cases dx <;> cases dy <;> try exact False.elim h
    obtain ⟨d, e, z⟩ := h
    obtain ⟨a, vs, rfl, hs, r⟩ := hx.list' S
    obtain ⟨v, ev, rv⟩ := r.atI e
    exact ⟨a, vs, _, v, rfl, hy.int, SqL.of hs, ev, k _ _ _ _ S (Same.refl _) rv z⟩
instance so_ixT : So K (rIxT K) oIxT where
  run B C H σ ρ x y dx dy Q Φ S hx hy h k := by
    cases dx <;> cases dy <;> try exact False.elim h
    obtain ⟨d, e, z⟩ := h
    obtain ⟨a, vs, rfl, hs, r⟩ := hx.tup' S
    obtain ⟨v, ev, rv⟩ := r.atI e
    exact ⟨a, vs, _, v, rfl, hy.int, hs, ev, k _ _ _ _ S (Same.refl _) rv z⟩
/-! new lists -/
def wCool (w : WN) : WE := fun ρ Ψ => w ρ fun ds ρ' => Ψ (.dat (.lst ds)) ρ'
instance (priority := low) sd_new {t : TE} {w : WN} [n : Sn K t w] : Sd K t (wCool w) where
  run B C H σ ρ Q Ψ S h k := n.run B C H σ ρ _ _ S h fun C1 H1 a ds ρ1 S1 s1 f z => by
    obtain ⟨C', S', s', r'⟩ := f.cool S1
    exact k _ _ _ (.dat (.lst ds)) _ S' (s1.trans s') r' z
def wANil : WA := fun ρ Ψ => Ψ [] ρ
def wACons (wa : WE) (wr : WA) : WA := fun ρ Ψ => wa ρ fun r ρ1 => store r ρ1 fun a ρ2 => wr ρ2 fun as ρ3 => Ψ (a :: as) ρ3
instance sa_nil : Sa K tNil wANil where
  run B C H σ ρ Q Ψ S h k := k _ _ _ _ _ S (Same.refl _) .nil h
instance sa_cons {ta : TE} {tr : TA} {wa : WE} {wr : WA} [a : Sd K ta wa] [b : Sa K tr wr] : Sa K (tCons ta tr) (wACons wa wr) where
  run B C H σ ρ Q Ψ S h k := by
    refine a.run B C H σ ρ _ _ S h fun C1 H1 v1 r1 ρ1 S1 s1 ok1 h1 => ?_
    obtain ⟨C2, x, ρ2, S2, s2, ok2, h2⟩ := S1.stored ok1 h1
    refine b.run B C2 H1 σ ρ2 _ _ S2 h2 fun C3 H3 vs as ρ3 S3 s3 ok3 h3 => ?_
    exact k _ _ _ _ _ S3 (s1.trans (s2.trans s3)) (.cons (ok2.same s3) ok3) h3
def wLst (wa : WA) : WN := fun ρ Ψ => wa ρ fun as ρ1 => match dats as with
  | some ds => ds.length ≤ sizeLine ∧ Ψ ds ρ1
  | none => False
instance sn_lst {ta : TA} {wa : WA} [a : Sa K ta wa] : Sn K (tLst ta) (wLst wa) where
  run B C H σ ρ Q Ψ S h k := by
    refine a.run B C H σ ρ _ _ S h fun C1 H1 vs as ρ1 S1 s1 ok1 h1 => ?_
    cases q : dats as with
    | none => simp only [q] at h1
    | some ds =>
      simp only [q] at h1
      have r := ok1.dats q
      exact ⟨by rw [r.len]; exact h1.1, fun p hp => k _ _ _ _ _ (S1.allocN hp) s1 (S1.frN hp r) h1.2⟩
def wTup (wa : WA) : WE := fun ρ Ψ => wa ρ fun as ρ1 => match dats as with
  | some ds => ds.length ≤ sizeLine ∧ Ψ (.dat (.tup ds)) ρ1
  | none => False
instance sd_tup {ta : TA} {wa : WA} [a : Sa K ta wa] : Sd K (tTup ta) (wTup wa) where
  run B C H σ ρ Q Ψ S h k := by
    refine a.run B C H σ ρ _ _ S h fun C1 H1 vs as ρ1 S1 s1 ok1 h1 => ?_
    cases q : dats as with
    | none => simp only [q] at h1
    | some ds =>
      simp only [q] at h1
      have r := ok1.dats q
      refine ⟨by rw [r.len]; exact h1.1, fun p hp => ?_⟩
      have sC : Same C1 (upd C1 p (.tup vs)) := same_new (S1.cold.free hp)
      exact k _ _ _ (.dat (.tup ds)) _ (S1.alloc hp) (s1.trans sC) (.tup (.inl (.inl upd_same)) (r.same sC)) h1.2
class Sno (K : PySem.W.Frag) (r : R2) (op : outParam (Dt → Dt → (List Dt → Prop) → Prop)) : Prop where
  run : ∀ (B : Bs) (C H : Hp) (σ : L2.St) (ρ : List Sl) (x y : V) (dx dy : Dt) (Q : VK) (Φ : List Dt → Prop), Sep K B C H σ ρ → Rt K C H x dx → Rt K C H y dy → op dx dy Φ → (∀ C' G a ds, Sep K B C' G σ ρ → Same C C' → Fr K B C' G σ ρ a ds → Φ ds → Q (.ref a) G) → r x y H Q

end
section
variable {P : Program} {w : World} {K : PySem.W.Frag} {mg : Str → Option Value} {base : Heap}
local macro_rules | `(tactic| get_elem_tactic_trivial) => `(tactic| (repeat first | exact Wk.nil | exact Wk'.nil | refine Wk.same ?_ | refine Wk'.same ?_ | refine Wk.un (fun _ z => nomatch z) ?_ | refine Wk'.un ?_))
/-! tests -/
def isBl (r : Rs) (k : Bool → Prop) : Prop := match r with
  | .dat (.bl b) => k b
  | _ => False
def wTest (w : WE) : WT := fun ρ Ψ => w ρ fun r ρ1 => isBl r fun b => Ψ b ρ1
theorem wTest_run {C : Hp} {σ : L2.St} {ρ : List Sl} {v : V} {r : Rs} {k : Bool → Prop} (ok : RsOk K C σ ρ v r) (h : isBl r k) : ∃ b, v = .bl b ∧ k b := by
  cases r with
  | dat d =>
    cases d <;> try exact False.elim h
    cases ok
    exact ⟨_, rfl, h⟩
  | hot i ds => exact False.elim h
  | box i n => exact False.elim h
instance sc_b {t : TE} {w : WE} [a : Sd K t w] : Sc K (tB t) (wTest w) where
  run B C H σ ρ Q Ψ S h k := a.run B C H σ ρ _ _ S h fun C1 H1 v1 r1 ρ1 S1 s1 ok1 h1 => by
    obtain ⟨b, rfl, z⟩ := wTest_run ok1 h1
    exact ⟨b, rfl, k _ _ _ _ S1 s1 z⟩
instance sc_test {t : TE} {w : WE} [a : Sd K t w] : Sc K (tTest t) (wTest w) where
  run B C H σ ρ Q Ψ S h k := a.run B C H σ ρ _ _ S h fun C1 H1 v1 r1 ρ1 S1 s1 ok1 h1 => by
    obtain ⟨b, rfl, z⟩ := wTest_run ok1 h1
    exact ⟨b, rfl, k _ _ _ _ S1 s1 z⟩
instance sc_yes : Sc K tYes (fun ρ Ψ => Ψ true ρ) where
  run B C H σ ρ Q Ψ S h k := k _ _ _ _ S (Same.refl _) h
def wAndV (wa : WT) (wb : WE) : WE := fun ρ Ψ => wa ρ fun b ρ1 => if b = true then wb ρ1 Ψ else Ψ (.dat (.bl false)) ρ1
instance sd_and {ta tb : TE} {wa wb : WE} [a : Sd K ta wa] [b : Sd K tb wb] : Sd K (tAndV ta tb) (wAndV (wTest wa) wb) where
  run B C H σ ρ Q Ψ S h k := a.run B C H σ ρ _ _ S h fun C1 H1 v1 r1 ρ1 S1 s1 ok1 h1 => by
    obtain ⟨c, rfl, z⟩ := wTest_run ok1 h1
    refine ⟨c, rfl, ?_⟩
    cases c with
    | true => exact b.run B C1 H1 σ ρ1 _ _ S1 z fun C2 H2 v2 r2 ρ2 S2 s2 ok2 h2 => k _ _ _ _ _ S2 (s1.trans s2) ok2 h2
    | false => exact k _ _ _ (.dat _) _ S1 s1 (.bl _) z
def wIf (wc : WT) (wa wb : WE) : WE := fun ρ Ψ => wc ρ fun b ρ1 => if b = true then wa ρ1 Ψ else wb ρ1 Ψ
instance sd_if {tc : TT} {ta tb : TE} {wc : WT} {wa wb : WE} [c : Sc K tc wc] [a : Sd K ta wa] [b : Sd K tb wb] : Sd K (tIf tc ta tb) (wIf wc wa wb) where
  run B C H σ ρ Q Ψ S h k := c.run B C H σ ρ _ _ S h fun C1 H1 e ρ1 S1 s1 h1 => by
    cases e with
    | true => exact a.run B C1 H1 σ ρ1 _ _ S1 h1 fun C2 H2 v2 r2 ρ2 S2 s2 ok2 h2 => k _ _ _ _ _ S2 (s1.trans s2) ok2 h2
    | false => exact b.run B C1 H1 σ ρ1 _ _ S1 h1 fun C2 H2 v2 r2 ρ2 S2 s2 ok2 h2 => k _ _ _ _ _ S2 (s1.trans s2) ok2 h2
/-! builtins by name -/
class Sb (K : PySem.W.Frag) (r : List V → Hp → VK → Prop) (f : outParam (List Dt → (Dt → Prop) → Prop)) : Prop where
  run : ∀ (B : Bs) (C H : Hp) (σ : L2.St) (ρ : List Sl) (vs : List V) (ds : List Dt) (Q : VK) (Φ : Dt → Prop), Sep K B C H σ ρ → RpL K C vs ds → f ds Φ → (∀ C' G v d, Sep K B C' G σ ρ → Same C C' → Rp K C' v d → Φ d → Q v G) → r vs H Q
def wCB (f : List Dt → (Dt → Prop) → Prop) (wa : WA) : WE := fun ρ Ψ => wa ρ fun as ρ1 => match dats as with
  | some ds => f ds fun d => Ψ (.dat d) ρ1
  | none => False
instance sd_cb {r : List V → Hp → VK → Prop} {f : List Dt → (Dt → Prop) → Prop} {ta : TA} {wa : WA} [b : Sb K r f] [a : Sa K ta wa] : Sd K (tCB r ta) (wCB f wa) where
  run B C H σ ρ Q Ψ S h k := a.run B C H σ ρ _ _ S h fun C1 H1 vs as ρ1 S1 s1 ok1 h1 => by
    cases q : dats as with
    | none => simp only [q] at h1
    | some ds =>
      simp only [q] at h1
      exact b.run B C1 H1 σ ρ1 _ _ _ _ S1 (ok1.dats q) h1 fun C2 H2 v d S2 s2 r2 z => k _ _ _ (.dat d) _ S2 (s1.trans s2) r2 z
/-! statements -/
structure Fs where
  nx : List Sl → Prop
  rt : Ro → List Sl → Prop
  bk : List Sl → Prop
  ct : List Sl → Prop
abbrev WS := List Sl → Fs → Prop
def RoOk (K : PySem.W.Frag) (B : Bs) (C H : Hp) (σ : L2.St) (ρ : List Sl) (v : V) : Ro → Prop
  | .dat d => Rp K C v d
  | .new ds => ∃ a, v = .ref a ∧ Fr K B C H σ ρ a ds
structure Meets (K : PySem.W.Frag) (B : Bs) (Φ : Fs) (D : Ends) : Prop where
  nx : ∀ C H σ ρ, Sep K B C H σ ρ → Φ.nx ρ → D.nx σ H
  rt : ∀ C H σ ρ v r, Sep K B C H σ ρ → RoOk K B C H σ ρ v r → Φ.rt r ρ → D.rt v H
  bk : ∀ C H σ ρ, Sep K B C H σ ρ → Φ.bk ρ → D.bk σ H
  ct : ∀ C H σ ρ, Sep K B C H σ ρ → Φ.ct ρ → D.ct σ H
class Ss (K : PySem.W.Frag) (t : TS) (w : outParam WS) : Prop where
  run : ∀ (B : Bs) (C H : Hp) (σ : L2.St) (ρ : List Sl) (D : Ends) (Φ : Fs), Sep K B C H σ ρ → w ρ Φ → Meets K B Φ D → t D σ H
instance ss_next : Ss K tNext (fun ρ Φ => Φ.nx ρ) where
  run B C H σ ρ D Φ S h m := m.nx _ _ _ _ S h
def wSeq (wt wu : WS) : WS := fun ρ Φ => wt ρ { Φ with nx := fun ρ' => wu ρ' Φ }
instance ss_seq {t u : TS} {wt wu : WS} [a : Ss K t wt] [b : Ss K u wu] : Ss K (tSeq t u) (wSeq wt wu) where
  run B C H σ ρ D Φ S h m := a.run B C H σ ρ _ _ S h ⟨fun C1 H1 σ1 ρ1 S1 z => b.run B C1 H1 σ1 ρ1 _ _ S1 z m, m.rt, m.bk, m.ct⟩
/-- slot i, no box of the def's own, is put -/
def put (i : Nat) (s : Sl) (ρ : List Sl) (k : List Sl → Prop) : Prop := match i, ρ[i]? with
  | 0, some (.box _) => False
  | _, _ => k (ρ.set i s)
theorem put_run {i : Nat} {s : Sl} {ρ : List Sl} {k : List Sl → Prop} (h : put i s ρ k) : (i = 0 → ∀ n, ρ[i]? ≠ some (.box n)) ∧ k (ρ.set i s) := by
  unfold put at h
  split at h
  · exact h.elim
  · rename_i x y z
    exact ⟨fun e n q => z n e q, h⟩
class Sg (K : PySem.W.Frag) (g : TG) (w : outParam WG) : Prop where
  run : ∀ (B : Bs) (C H : Hp) (σ : L2.St) (ρ : List Sl) (v : V) (d : Dt) (Q : L2.St → Hp → Prop) (Ψ : List Sl → Prop), Sep K B C H σ ρ → Rp K C v d → w d ρ Ψ → (∀ σ' ρ', Sep K B C H σ' ρ' → Ψ ρ' → Q σ' H) → g v σ H Q
instance sg_name {i : Nat} : Sg K (gName i) (fun d ρ k => put i (.dat d) ρ k) where
  run B C H σ ρ v d Q Ψ S r h k := by
    obtain ⟨h1, h2⟩ := put_run h
    exact k _ _ (S.dat h1 r) h2
class Sgs (K : PySem.W.Frag) (g : TGs) (w : outParam (List Dt → List Sl → (List Sl → Prop) → Prop)) : Prop where
  run : ∀ (B : Bs) (C H : Hp) (σ : L2.St) (ρ : List Sl) (vs : List V) (ds : List Dt) (Q : L2.St → Hp → Prop) (Ψ : List Sl → Prop), Sep K B C H σ ρ → RpL K C vs ds → w ds ρ Ψ → (∀ σ' ρ', Sep K B C H σ' ρ' → Ψ ρ' → Q σ' H) → g vs σ H Q
def wgNil : List Dt → List Sl → (List Sl → Prop) → Prop
  | [], ρ, k => k ρ
  | _ :: _, _, _ => False
def wgCons (w : WG) (ws : List Dt → List Sl → (List Sl → Prop) → Prop) : List Dt → List Sl → (List Sl → Prop) → Prop
  | [], _, _ => False
  | d :: ds, ρ, k => w d ρ fun ρ1 => ws ds ρ1 k
instance sgs_nil : Sgs K gNil wgNil where
  run B C H σ ρ vs ds Q Ψ S r h k := by
    cases r with
    | nil => exact And.intro rfl (k _ _ S h)
    | cons a b => exact False.elim h
instance sgs_cons {g : TG} {gs : TGs} {w : WG} {ws : List Dt → List Sl → (List Sl → Prop) → Prop} [a : Sg K g w] [b : Sgs K gs ws] : Sgs K (gCons g gs) (wgCons w ws) where
  run B C H σ ρ vs ds Q Ψ S r h k := by
    cases r with
    | nil => exact False.elim h
    | cons r1 r2 => exact ⟨_, _, rfl, a.run B C H σ ρ _ _ _ _ S r1 h fun σ1 ρ1 S1 h1 => b.run B C H σ1 ρ1 _ _ _ _ S1 r2 h1 k⟩
def wgTup (n : Nat) (ws : List Dt → List Sl → (List Sl → Prop) → Prop) : WG
  | .tup ds, ρ, k => ds.length = n ∧ ws ds ρ k
  | _, _, _ => False
instance sg_tup {n : Nat} {gs : TGs} {ws : List Dt → List Sl → (List Sl → Prop) → Prop} [a : Sgs K gs ws] : Sg K (gTup K n gs) (wgTup n ws) where
  run B C H σ ρ v d Q Ψ S r h k := by
    cases d <;> try exact False.elim h
    cases r with
    | tup hs rl => exact ⟨_, _, rfl, seqT_same S.cold hs, by rw [rl.len]; exact h.1, a.run B C H σ ρ _ _ _ _ S rl h.2 k⟩
def wAsg (w : WE) (wg : WG) : WS := fun ρ Φ => w ρ fun r ρ1 => store r ρ1 fun a ρ2 => match a with
  | .d x => wg x ρ2 Φ.nx
  | .b _ => False
instance (priority := 900) ss_asg {te : TE} {g : TG} {w : WE} {wg : WG} [a : Sd K te w] [b : Sg K g wg] : Ss K (tAsg te g) (wAsg w wg) where
  run B C H σ ρ D Φ S h m := a.run B C H σ ρ _ _ S h fun C1 H1 v1 r1 ρ1 S1 s1 ok1 h1 => by
    obtain ⟨C2, x, ρ2, S2, s2, ok2, h2⟩ := S1.stored ok1 h1
    cases x with
    | b i => exact False.elim h2
    | d x => exact b.run B C2 H1 σ ρ2 _ _ _ _ S2 ok2 h2 fun σ' ρ' S' z => m.nx _ _ _ _ S' z
def wPar (i j : Nat) (wa : WA) : WS := fun ρ Φ => wa ρ fun as ρ1 => match dats as with
  | some [x, y] => put i (.dat x) ρ1 fun ρ2 => put j (.dat y) ρ2 Φ.nx
  | _ => False
instance ss_par {i j : Nat} {ta : TA} {wa : WA} [a : Sa K ta wa] : Ss K (tPar i j ta) (wPar i j wa) where
  run B C H σ ρ D Φ S h m := a.run B C H σ ρ _ _ S h fun C1 H1 vs as ρ1 S1 s1 ok1 h1 => by
    cases q : dats as with
    | none => simp only [q] at h1
    | some ds =>
      simp only [q] at h1
      have r := ok1.dats q
      match ds, r, h1 with
      | [x, y], .cons r1 (.cons r2 .nil), h1 =>
        obtain ⟨p1, h2⟩ := put_run h1
        obtain ⟨p2, h3⟩ := put_run h2
        exact ⟨_, _, rfl, m.nx _ _ _ _ ((S1.dat p1 r1).dat p2 r2) h3⟩
def wPar3 (i j l : Nat) (wa : WA) : WS := fun ρ Φ => wa ρ fun as ρ1 => match dats as with
  | some [x, y, z] => put i (.dat x) ρ1 fun ρ2 => put j (.dat y) ρ2 fun ρ3 => put l (.dat z) ρ3 Φ.nx
  | _ => False
instance ss_par3 {i j l : Nat} {ta : TA} {wa : WA} [a : Sa K ta wa] : Ss K (tPar3 i j l ta) (wPar3 i j l wa) where
  run B C H σ ρ D Φ S h m := a.run B C H σ ρ _ _ S h fun C1 H1 vs as ρ1 S1 s1 ok1 h1 => by
    cases q : dats as with
    | none => simp only [q] at h1
    | some ds =>
      simp only [q] at h1
      have r := ok1.dats q
      match ds, r, h1 with
      | [x, y, z], .cons r1 (.cons r2 (.cons r3 .nil)), h1 =>
        obtain ⟨p1, h2⟩ := put_run h1
        obtain ⟨p2, h3⟩ := put_run h2
        obtain ⟨p3, h4⟩ := put_run h3
        exact ⟨_, _, _, rfl, m.nx _ _ _ _ (((S1.dat p1 r1).dat p2 r2).dat p3 r3) h4⟩
def wRet (w : WE) : WS := fun ρ Φ => w ρ fun r ρ1 => match r with
  | .dat d => Φ.rt (.dat d) ρ1
  | .hot i ds => Φ.rt (.new ds) (ρ1.set i .un)
  | .box _ _ => False
instance (priority := 900) ss_ret {te : TE} {w : WE} [a : Sd K te w] : Ss K (tRet te) (wRet w) where
  run B C H σ ρ D Φ S h m := a.run B C H σ ρ _ _ S h fun C1 H1 v1 r1 ρ1 S1 s1 ok1 h1 => by
    cases r1 with
    | dat d => exact m.rt _ _ _ _ _ (.dat d) S1 ok1 h1
    | box i n => exact False.elim h1
    | hot i ds =>
      obtain ⟨e1, e2⟩ := ok1
      obtain ⟨b, vs, e3, hb, r, cb⟩ := S1.sl i _ e2
      rw [e1] at e3
      cases e3
      have S2 := S1.un (i := i) (x := some (.ref b)) (fun _ n z => by rw [e2] at z; cases z)
      have eσ : σ.set i (some (V.ref b)) = σ := by
        apply List.ext_getElem?
        intro j
        by_cases z : i = j
        · subst z
          rw [set_at (by
            cases Nat.lt_or_ge i σ.length with
            | inl h => exact h
            | inr g => rw [List.getElem?_eq_none g] at e1; cases e1)]
          exact e1.symm
        · rw [set_off z]
      rw [eσ] at S2
      refine m.rt _ _ _ _ _ (.new ds) S2 ⟨b, rfl, ⟨vs, hb, r⟩, cb, S1.loc i b ds e2 e1, fun j t q mt e => ?_⟩ h1
      rcases get_set q with ⟨rfl, rfl, _⟩ | ⟨n, q⟩
      · cases mt
      · exact S1.ne i j b _ _ n e2 q rfl mt e1 e
def wRetN' (w : WN) : WS := fun ρ Φ => w ρ fun ds ρ1 => Φ.rt (.new ds) ρ1
instance ss_retN' {te : TE} {w : WN} [a : Sn K te w] : Ss K (tRet te) (wRetN' w) where
  run B C H σ ρ D Φ S h m := a.run B C H σ ρ _ _ S h fun C1 H1 b ds ρ1 S1 s1 f z => m.rt _ _ _ _ _ (.new ds) S1 ⟨b, rfl, f⟩ z
def wIfS (wc : WT) (wt wu : WS) : WS := fun ρ Φ => wc ρ fun b ρ1 => if b = true then wt ρ1 Φ else wu ρ1 Φ
instance ss_if {tc : TT} {t u : TS} {wc : WT} {wt wu : WS} [c : Sc K tc wc] [a : Ss K t wt] [b : Ss K u wu] : Ss K (tIfS tc t u) (wIfS wc wt wu) where
  run B C H σ ρ D Φ S h m := c.run B C H σ ρ _ _ S h fun C1 H1 e ρ1 S1 s1 h1 => by
    cases e with
    | true => exact a.run B C1 H1 σ ρ1 _ _ S1 h1 m
    | false => exact b.run B C1 H1 σ ρ1 _ _ S1 h1 m
/-- some slots are let go of -/
inductive Wk' : List Sl → List Sl → Prop
  | nil : Wk' [] []
  | same {s : Sl} {ρ ρ' : List Sl} : Wk' ρ ρ' → Wk' (s :: ρ) (s :: ρ')
  | un {s : Sl} {ρ ρ' : List Sl} : Wk' ρ ρ' → Wk' (s :: ρ) (.un :: ρ')
inductive Wk : List Sl → List Sl → Prop
  | nil : Wk [] []
  | same {s : Sl} {ρ ρ' : List Sl} : Wk' ρ ρ' → Wk (s :: ρ) (s :: ρ')
  | un {s : Sl} {ρ ρ' : List Sl} : (∀ n, s ≠ .box n) → Wk' ρ ρ' → Wk (s :: ρ) (.un :: ρ')
theorem Wk'.len : ∀ {ρ ρ' : List Sl}, Wk' ρ ρ' → ρ.length = ρ'.length
  | _, _, .nil => rfl
  | _, _, .same h => congrArg Nat.succ h.len
  | _, _, .un h => congrArg Nat.succ h.len
theorem Wk'.at : ∀ {ρ ρ' : List Sl} {i : Nat} {s : Sl}, Wk' ρ ρ' → ρ'[i]? = some s → s ≠ .un → ρ[i]? = some s
  | _, _, i, s, .nil, h, n => h
  | _, _, 0, s, .same w, h, n => h
  | _, _, 0, s, .un w, h, n => absurd (Option.some.inj h).symm n
  | _, _, i + 1, s, .same w, h, n => Wk'.at (i := i) w h n
  | _, _, i + 1, s, .un w, h, n => Wk'.at (i := i) w h n
theorem Wk.len : ∀ {ρ ρ' : List Sl}, Wk ρ ρ' → ρ.length = ρ'.length
  | _, _, .nil => rfl
  | _, _, .same h => congrArg Nat.succ h.len
  | _, _, .un _ h => congrArg Nat.succ h.len
theorem Wk.at : ∀ {ρ ρ' : List Sl} {i : Nat} {s : Sl}, Wk ρ ρ' → ρ'[i]? = some s → s ≠ .un → ρ[i]? = some s
  | _, _, i, s, .nil, h, n => h
  | _, _, 0, s, .same w, h, n => h
  | _, _, 0, s, .un _ w, h, n => absurd (Option.some.inj h).symm n
  | _, _, i + 1, s, .same w, h, n => Wk'.at (i := i) w h n
  | _, _, i + 1, s, .un _ w, h, n => Wk'.at (i := i) w h n
theorem Wk.box : ∀ {ρ ρ' : List Sl} {n : Int}, Wk ρ ρ' → ρ[0]? = some (.box n) → ρ'[0]? = some (.box n)
  | _, _, n, .nil, h => h
  | _, _, n, .same w, h => h
  | _, _, n, .un z w, h => absurd (Option.some.inj h) (z n)
theorem Sep.weak {B : Bs} {C H : Hp} {σ : L2.St} {ρ ρ' : List Sl} (S : Sep K B C H σ ρ) (w : Wk ρ ρ') : Sep K B C H σ ρ' := by
  have mu : ∀ {t : Sl}, t.mut = true → t ≠ .un := fun m z => by rw [z] at m; cases m
  refine ⟨S.cold, by rw [← w.len]; exact S.len, fun i s h => ?_, fun i j a s t n h1 h2 m1 m2 e1 e2 => S.ne i j a s t n (w.at h1 (mu m1)) (w.at h2 (mu m2)) m1 m2 e1 e2, S.grow, S.new, S.dom, S.keep, fun i a ds h e => S.loc i a ds (w.at h fun z => nomatch z) e, fun i a n h e => S.lob i a n (w.at h fun z => nomatch z) e, fun i a h => ?_, S.pz⟩
  · cases s with
    | un => trivial
    | dat d => exact S.sl i _ (w.at h fun z => nomatch z)
    | hot ds => exact S.sl i _ (w.at h fun z => nomatch z)
    | box n => exact S.sl i _ (w.at h fun z => nomatch z)
  · obtain ⟨h1, n, h2⟩ := S.par i a h
    have e := S.pz i a h
    subst e
    exact ⟨h1, n, w.box h2⟩
/-- to a state that is known less of -/
def To (I : List Sl → Prop) (ρ : List Sl) : Prop := ∃ ρ', Wk ρ ρ' ∧ I ρ'
theorem To.of {I : List Sl → Prop} {ρ ρ' : List Sl} (h : I ρ') (w : Wk ρ ρ') : To I ρ := ⟨ρ', w, h⟩
local macro_rules | `(tactic| get_elem_tactic_trivial) => `(tactic| (repeat first | exact Wk.nil | exact Wk'.nil | refine Wk.same ?_ | refine Wk'.same ?_ | refine Wk.un (fun _ z => nomatch z) ?_ | refine Wk'.un ?_))
/-! loops -/
def ItD (K : PySem.W.Frag) (J : It) (C : Hp) (items : List Dt) : Prop := ∀ B C2 H2 σ2 ρ2, Sep K B C2 H2 σ2 ρ2 → Same C C2 →
  (∀ i, i < items.length → J.go i H2) ∧ J.stop items.length H2 ∧ ∀ i x H' d, items[i]? = some d → J.yld i H2 x H' → ∃ C3, Sep K B C3 H' σ2 ρ2 ∧ Same C2 C3 ∧ Rp K C3 x d
abbrev WI := List Sl → (List Dt → List Sl → Prop) → Prop
class Si (K : PySem.W.Frag) (t : TI) (w : outParam WI) : Prop where
  run : ∀ (B : Bs) (C H : Hp) (σ : L2.St) (ρ : List Sl) (R : It → Hp → Prop) (Ψ : List Dt → List Sl → Prop), Sep K B C H σ ρ → w ρ Ψ → (∀ C' G J items ρ', Sep K B C' G σ ρ' → Same C C' → ItD K J C' items → Ψ items ρ' → R J G) → t σ H R
def wFor (wi : WI) (wg : WG) (wb : WS) : WS := fun ρ Φ => wi ρ fun items ρ1 => ∃ I : Nat → List Sl → Prop, To (I 0) ρ1 ∧
  (∀ k ρ d, items[k]? = some d → I k ρ → wg d ρ fun ρ2 => wb ρ2 { Φ with nx := To (I (k + 1)), ct := To (I (k + 1)), bk := Φ.nx }) ∧ ∀ ρ, I items.length ρ → Φ.nx ρ
instance ss_for {ti : TI} {g : TG} {tb : TS} {wi : WI} {wg : WG} {wb : WS} [i : Si K ti wi] [a : Sg K g wg] [b : Ss K tb wb] : Ss K (tFor ti g tb) (wFor wi wg wb) where
  run B C H σ ρ D Φ S h m := i.run B C H σ ρ _ _ S h fun C1 H1 J items ρ1 S1 s1 hJ h1 => by
    obtain ⟨I, ⟨ρ0, w0, i0⟩, step, fin⟩ := h1
    refine ⟨fun k n σ2 H2 => n = items.length - k ∧ k ≤ items.length ∧ ∃ C2 ρ2, Sep K B C2 H2 σ2 ρ2 ∧ Same C1 C2 ∧ I k ρ2, ⟨_, rfl, Nat.zero_le _, C1, ρ0, S1.weak w0, Same.refl _, i0⟩, ?_⟩
    rintro k n σ2 H2 ⟨rfl, hk, C2, ρ2, S2, s2, hI⟩
    obtain ⟨go, stop, yld⟩ := hJ B C2 H2 σ2 ρ2 S2 s2
    by_cases hlt : k < items.length
    · refine .inr ⟨go k hlt, fun σ3 H3 => ∃ C3 ρ3, Sep K B C3 H3 σ3 ρ3 ∧ Same C1 C3 ∧ I (k + 1) ρ3, fun σ3 H3 ⟨C3, ρ3, S3, s3, h3⟩ => ⟨items.length - (k + 1), by omega, rfl, hlt, C3, ρ3, S3, s3, h3⟩, fun x H' y => ?_⟩
      obtain ⟨C3, S3, s3, r3⟩ := yld k x H' items[k] (List.getElem?_eq_getElem hlt) y
      have st := step k ρ2 _ (List.getElem?_eq_getElem hlt) hI
      refine a.run B C3 H' σ2 ρ2 _ _ _ _ S3 r3 st fun σ4 ρ4 S4 h4 => ?_
      -- the body, over a base that keeps C1's things
      have keep : ∀ C5 H5 σ5 ρ5, Sep K ⟨C3, B.H0, B.bx⟩ C5 H5 σ5 ρ5 → Sep K B C5 H5 σ5 ρ5 ∧ Same C1 C5 := fun C5 H5 σ5 ρ5 z =>
        ⟨⟨z.cold, z.len, z.sl, z.ne, (S3.grow).trans z.grow, fun a o e n => (match q : C3 a with
            | none => z.new a o e q
            | some u => S3.new a u q n), z.dom, z.keep, z.loc, z.lob, z.par, z.pz⟩, (s2.trans s3).trans z.grow⟩
      have S4' : Sep K ⟨C3, B.H0, B.bx⟩ C3 H' σ4 ρ4 := ⟨S4.cold, S4.len, S4.sl, S4.ne, Same.refl _, fun a o e n => (by rw [show C3 a = none from n] at e; cases e), S4.dom, S4.keep, S4.loc, S4.lob, S4.par, S4.pz⟩
      refine b.run ⟨C3, B.H0, B.bx⟩ C3 H' σ4 ρ4 _ _ S4' h4 ⟨fun C5 H5 σ5 ρ5 z h5 => ?_, fun C5 H5 σ5 ρ5 v r z ok h5 => ?_, fun C5 H5 σ5 ρ5 z h5 => ?_, fun C5 H5 σ5 ρ5 z h5 => ?_⟩
      · obtain ⟨ρ6, w6, h6⟩ := h5
        exact ⟨C5, ρ6, (keep _ _ _ _ z).1.weak w6, (keep _ _ _ _ z).2, h6⟩
      · refine m.rt _ _ _ _ v r (keep _ _ _ _ z).1 ?_ h5
        cases r with
        | dat d => exact ok
        | new ds => exact ok
      · exact m.nx _ _ _ _ (keep _ _ _ _ z).1 h5
      · obtain ⟨ρ6, w6, h6⟩ := h5
        exact ⟨C5, ρ6, (keep _ _ _ _ z).1.weak w6, (keep _ _ _ _ z).2, h6⟩
    · have e : k = items.length := by omega
      subst e
      exact .inl ⟨stop, m.nx _ _ _ _ S2 (fin _ hI)⟩
def rngD (lo : Int) (n : Nat) : List Dt := (List.range n).map fun k => .int (lo + (k : Nat))
theorem rng_len {lo : Int} {n : Nat} : (rngD lo n).length = n := by unfold rngD; rw [List.length_map, List.length_range]
theorem rng_at {lo : Int} {n i : Nat} {d : Dt} (h : (rngD lo n)[i]? = some d) : i < n ∧ d = .int (lo + (i : Nat)) := by
  unfold rngD at h
  rw [List.getElem?_map] at h
  by_cases z : i < n
  · rw [List.getElem?_range z] at h
    cases h
    exact ⟨z, rfl⟩
  · rw [List.getElem?_eq_none (by rw [List.length_range]; omega)] at h
    cases h
theorem itd_range {C : Hp} {lo : Int} {n : Nat} : ItD K (Itr lo n) C (rngD lo n) := fun B3 C3 H3 σ3 ρ3 S3 s3 => by
  rw [rng_len]
  refine ⟨fun i hi => hi, Nat.le_refl _, fun i y H' d hd yl => ?_⟩
  obtain ⟨rfl, rfl⟩ := yl
  obtain ⟨_, rfl⟩ := rng_at hd
  exact ⟨C3, S3, Same.refl _, .int _⟩
def rng1 (as : List Ar) (k : List Dt → Prop) : Prop := match as with
  | [.d (.int j)] => -4611686018427387904 ≤ j ∧ j < 4611686018427387904 ∧ k (rngD 0 j.toNat)
  | _ => False
theorem rng1_run {as : List Ar} {k : List Dt → Prop} (h : rng1 as k) : ∃ j, as = [.d (.int j)] ∧ -4611686018427387904 ≤ j ∧ j < 4611686018427387904 ∧ k (rngD 0 j.toNat) := by
  unfold rng1 at h
  split at h
  · exact ⟨_, rfl, h⟩
  · exact h.elim
def wiRng1 (wa : WA) : WI := fun ρ Ψ => wa ρ fun as ρ1 => rng1 as fun l => Ψ l ρ1
instance si_rng1 {ta : TA} {wa : WA} [a : Sa K ta wa] : Si K (iRng1 ta) (wiRng1 wa) where
  run B C H σ ρ R Ψ S h k := a.run B C H σ ρ _ _ S h fun C1 H1 vs as ρ1 S1 s1 ok1 h1 => by
    obtain ⟨j, rfl, h1⟩ := rng1_run h1
    match ok1 with
    | .cons r .nil =>
      cases r
      exact ⟨j, rfl, h1.1, h1.2.1, k _ _ _ _ _ S1 s1 itd_range h1.2.2⟩

end
section
variable {P : Program} {w : World} {K : PySem.W.Frag} {mg : Str → Option Value} {base : Heap}
local macro_rules | `(tactic| get_elem_tactic_trivial) => `(tactic| (repeat first | exact Wk.nil | exact Wk'.nil | refine Wk.same ?_ | refine Wk'.same ?_ | refine Wk.un (fun _ z => nomatch z) ?_ | refine Wk'.un ?_))
/-! a new thing is held while others go on -/
def Bs.hold (B : Bs) (D : Addr) (o : HO) : Bs := ⟨B.C0, upd B.H0 D o, B.bx⟩
section
variable {B : Bs} {C H G : Hp} {σ : L2.St} {ρ : List Sl}
theorem Sep.bxne (S : Sep K B C H σ ρ) {D : Addr} (nh : ∀ (j : Nat) (t : Sl), ρ[j]? = some t → t.mut = true → σ[j]? ≠ some (some (V.ref D))) (i : Nat) : B.bx ≠ some (i, D) := fun e => by
  obtain ⟨h1, n, h2⟩ := S.par i D e
  exact nh i _ h2 rfl h1
theorem Sep.hold (S : Sep K B C H σ ρ) {D : Addr} {o : HO} (hD : H D = some o) (cD : C D = none) (nh : ∀ (j : Nat) (t : Sl), ρ[j]? = some t → t.mut = true → σ[j]? ≠ some (some (V.ref D))) : Sep K (B.hold D o) C H σ ρ := by
  have nD : ∀ (j : Nat) (t : Sl) (a : Addr), ρ[j]? = some t → t.mut = true → σ[j]? = some (some (V.ref a)) → a ≠ D := fun j t a h m e z => nh j t h m (z ▸ e)
  refine ⟨S.cold, S.len, S.sl, S.ne, S.grow, fun a x e n => ?_, fun a h => ?_, fun a x h n => ?_, fun i a ds h e => ?_, fun i a n h e => ?_, S.par, S.pz⟩
  · have z : a ≠ D := fun q => by rw [q, cD] at e; cases e
    show upd B.H0 D o a = none
    rw [upd_ne z]
    exact S.new a x e n
  · by_cases z : a = D
    · rw [z, hD]
      exact fun q => nomatch q
    · have h' : upd B.H0 D o a ≠ none := h
      rw [upd_ne z] at h'
      exact S.dom a h'
  · have h' : upd B.H0 D o a = some x := h
    by_cases z : a = D
    · rw [z, upd_same] at h'
      rw [z, hD]
      exact h'
    · rw [upd_ne z] at h'
      exact S.keep a x h' n
  · show upd B.H0 D o a = none
    rw [upd_ne (nD i _ a h rfl e)]
    exact S.loc i a ds h e
  · show upd B.H0 D o a = none ∨ _
    rw [upd_ne (nD i _ a h rfl e)]
    exact S.lob i a n h e
theorem Sep.unhold {D : Addr} {o : HO} (S : Sep K (B.hold D o) C H σ ρ) (h0 : B.H0 D = none) (c0 : B.C0 D = none) (bx : ∀ i, B.bx ≠ some (i, D)) : Sep K B C H σ ρ ∧ H D = some o ∧ C D = none ∧ ∀ (j : Nat) (t : Sl), ρ[j]? = some t → t.mut = true → σ[j]? ≠ some (some (V.ref D)) := by
  have up : ∀ a, (B.hold D o).H0 a = none → B.H0 a = none := fun a h => by
    by_cases z : a = D
    · rw [z]; exact h0
    · have h' : upd B.H0 D o a = none := h
      rw [upd_ne z] at h'
      exact h'
  have atD : (B.hold D o).H0 D = some o := upd_same
  have hc : C D = none := by
    cases q : C D with
    | none => rfl
    | some x =>
      have := S.new D x q c0
      rw [atD] at this
      cases this
  refine ⟨⟨S.cold, S.len, S.sl, S.ne, S.grow, fun a x e n => up a (S.new a x e n), fun a h => S.dom a ?_, fun a x h n => S.keep a x ?_ n, fun i a ds h e => up a (S.loc i a ds h e), fun i a n h e => (S.lob i a n h e).imp (up a) id, S.par, S.pz⟩, S.keep D o atD bx, hc, fun j t h m e => ?_⟩
  · show upd B.H0 D o a ≠ none
    by_cases z : a = D
    · rw [z, upd_same]
      exact fun q => nomatch q
    · rw [upd_ne z]
      exact h
  · show upd B.H0 D o a = some x
    rw [upd_ne (fun z => by rw [z, h0] at h; cases h)]
    exact h
  · cases t with
    | un => cases m
    | dat d => cases m
    | hot ds =>
      have := S.loc j D ds h e
      rw [atD] at this
      cases this
    | box n =>
      rcases S.lob j D n h e with q | q
      · rw [atD] at q
        cases q
      · exact bx j q
/-- slots wiped -/
def wipeR (ρ : List Sl) : List Nat → List Sl
  | [] => ρ
  | v :: vs => (wipeR ρ vs).set v .un
def isBox : Option Sl → Bool
  | some (.box _) => true
  | _ => false
def noBox (ρ : List Sl) (vs : List Nat) : Bool := vs.all fun v => v != 0 || !isBox ρ[v]?
theorem noBox_at {ρ : List Sl} {vs : List Nat} (h : noBox ρ vs = true) : ∀ v ∈ vs, v = 0 → ∀ n, ρ[v]? ≠ some (.box n) := fun v hv z n e => by
  have := List.all_eq_true.mp h v hv
  rw [e, z] at this
  cases this
def subB (is vs : List Nat) : Bool := is.all fun i => vs.contains i
theorem subB_at {is vs : List Nat} (h : subB is vs = true) : ∀ i ∈ is, i ∈ vs := fun i hi => by
  have := List.all_eq_true.mp h i hi
  exact List.contains_iff_mem.mp this
theorem wipeR_at : ∀ (vs : List Nat) (j : Nat) (t : Sl), (wipeR ρ vs)[j]? = some t → (j ∈ vs ∧ t = .un) ∨ (j ∉ vs ∧ ρ[j]? = some t)
  | [], j, t, h => .inr ⟨by simp, h⟩
  | v :: vs, j, t, h => by
    rcases get_set h with ⟨rfl, rfl, _⟩ | ⟨n, h⟩
    · exact .inl ⟨by simp, rfl⟩
    · rcases wipeR_at vs j t h with ⟨a, b⟩ | ⟨a, b⟩
      · exact .inl ⟨List.mem_cons_of_mem _ a, b⟩
      · exact .inr ⟨fun z => by
          rcases List.mem_cons.mp z with z | z
          · exact n z.symm
          · exact a z, b⟩
theorem wipe_off : ∀ (vs : List Nat) (j : Nat), j ∉ vs → (wipe σ vs)[j]? = σ[j]?
  | [], _, _ => rfl
  | v :: vs, j, h => by
    show ((wipe σ vs).set v none)[j]? = _
    rw [set_off (fun z => h (by rw [z]; exact List.mem_cons_self ..))]
    exact wipe_off vs j fun z => h (List.mem_cons_of_mem _ z)
theorem wipeR_len : ∀ vs : List Nat, (wipeR ρ vs).length = ρ.length
  | [] => rfl
  | v :: vs => by
    show ((wipeR ρ vs).set v .un).length = _
    rw [List.length_set]
    exact wipeR_len vs
theorem wipeR_keep : ∀ (vs : List Nat) (j : Nat), j ∉ vs → (wipeR ρ vs)[j]? = ρ[j]?
  | [], _, _ => rfl
  | v :: vs, j, h => by
    show ((wipeR ρ vs).set v .un)[j]? = _
    rw [set_off (fun z => h (by rw [z]; exact List.mem_cons_self ..))]
    exact wipeR_keep vs j fun z => h (List.mem_cons_of_mem _ z)
/-- the slots vs are no matter -/
theorem Sep.swap {σ' : L2.St} {vs : List Nat} (S : Sep K B C H σ ρ) (nb : noBox ρ vs = true) (e : wipe σ' vs = wipe σ vs) : Sep K B C H σ' (wipeR ρ vs) := by
  have at_ : ∀ (j : Nat) (t : Sl), (wipeR ρ vs)[j]? = some t → t ≠ .un → ρ[j]? = some t ∧ σ'[j]? = σ[j]? := fun j t h n => by
    rcases wipeR_at vs j t h with ⟨_, z⟩ | ⟨a, b⟩
    · exact absurd z n
    · refine ⟨b, ?_⟩
      rw [← wipe_off (σ := σ') vs j a, ← wipe_off (σ := σ) vs j a, e]
  have mu : ∀ {t : Sl}, t.mut = true → t ≠ .un := fun m z => by rw [z] at m; cases m
  have le : σ'.length = σ.length := by rw [← wipe_length σ' vs, ← wipe_length σ vs, e]
  refine ⟨S.cold, by rw [wipeR_len, le]; exact S.len, fun i s h => ?_, fun i j a s t n h1 h2 m1 m2 e1 e2 => ?_, S.grow, S.new, S.dom, S.keep, fun i a ds h q => ?_, fun i a n h q => ?_, fun i a h => ?_, S.pz⟩
  · cases s with
    | un => trivial
    | dat d => rw [(at_ i _ h (fun z => nomatch z)).2]; exact S.sl i _ (at_ i _ h (fun z => nomatch z)).1
    | hot ds => rw [(at_ i _ h (fun z => nomatch z)).2]; exact S.sl i _ (at_ i _ h (fun z => nomatch z)).1
    | box n => rw [(at_ i _ h (fun z => nomatch z)).2]; exact S.sl i _ (at_ i _ h (fun z => nomatch z)).1
  · rw [(at_ i _ h1 (mu m1)).2] at e1
    rw [(at_ j _ h2 (mu m2)).2] at e2
    exact S.ne i j a s t n (at_ i _ h1 (mu m1)).1 (at_ j _ h2 (mu m2)).1 m1 m2 e1 e2
  · rw [(at_ i _ h (fun z => nomatch z)).2] at q
    exact S.loc i a ds (at_ i _ h (fun z => nomatch z)).1 q
  · rw [(at_ i _ h (fun z => nomatch z)).2] at q
    exact S.lob i a n (at_ i _ h (fun z => nomatch z)).1 q
  · obtain ⟨h1, n, h2⟩ := S.par i a h
    have ni : i ∉ vs := fun z => noBox_at nb i z (S.pz i a h) n h2
    refine ⟨?_, n, by rw [wipeR_keep vs i ni]; exact h2⟩
    rw [← wipe_off (σ := σ') vs i ni, e, wipe_off vs i ni]
    exact h1
end
theorem wipe_wipe {σ : L2.St} : ∀ vs : List Nat, ∀ j : Nat, (wipe (wipe σ vs) vs)[j]? = (wipe σ vs)[j]? := fun vs j => by
  have key : ∀ (ws : List Nat) (τ : L2.St), (∀ v ∈ ws, ∀ x, τ[v]? = some x → x = none) → wipe τ ws = τ := fun ws => by
    induction ws with
    | nil => intro τ _; rfl
    | cons v ws ih =>
      intro τ h
      show (wipe τ ws).set v none = τ
      rw [ih τ fun u hu => h u (List.mem_cons_of_mem _ hu)]
      apply List.ext_getElem?
      intro i
      by_cases z : v = i
      · subst z
        by_cases l : v < τ.length
        · rw [set_at l, List.getElem?_eq_getElem l]
          exact congrArg some (h v (List.mem_cons_self ..) _ (List.getElem?_eq_getElem l)).symm
        · rw [List.getElem?_eq_none (by rw [List.length_set]; omega), List.getElem?_eq_none (by omega)]
      · rw [set_off z]
  have wiped : ∀ (ws : List Nat) (τ : L2.St), ∀ v ∈ ws, ∀ x, (wipe τ ws)[v]? = some x → x = none := fun ws => by
    induction ws with
    | nil => intro τ v hv; cases hv
    | cons u ws ih =>
      intro τ v hv x h
      rcases get_set (show ((wipe τ ws).set u none)[v]? = some x from h) with ⟨_, rfl, _⟩ | ⟨n, h⟩
      · rfl
      · rcases List.mem_cons.mp hv with q | q
        · exact absurd q.symm n
        · exact ih τ v q x h
  rw [key vs (wipe σ vs) (wiped vs σ)]
theorem wipe2 {σ : L2.St} (vs : List Nat) : wipe (wipe σ vs) vs = wipe σ vs := List.ext_getElem? (wipe_wipe vs)
theorem wipe_in {σ : L2.St} : ∀ (vs : List Nat) (j : Nat), j ∈ vs → (wipe σ vs)[j]? = if j < σ.length then some none else none
  | [], j, h => by cases h
  | v :: vs, j, h => by
    show ((wipe σ vs).set v none)[j]? = _
    by_cases z : v = j
    · subst z
      by_cases l : v < σ.length
      · rw [set_at (by rw [wipe_length]; exact l), if_pos l]
      · rw [List.getElem?_eq_none (by rw [List.length_set, wipe_length]; omega), if_neg l]
    · rw [set_off z]
      refine wipe_in vs j ?_
      rcases List.mem_cons.mp h with q | q
      · exact absurd q.symm z
      · exact q
theorem wipe_eq {σ σ' : L2.St} {vs is : List Nat} (l : σ'.length = σ.length) (h : ∀ j : Nat, j ∉ is → σ'[j]? = σ[j]?) (sub : ∀ i ∈ is, i ∈ vs) : wipe σ' vs = wipe σ vs := by
  apply List.ext_getElem?
  intro j
  by_cases z : j ∈ vs
  · rw [wipe_in vs j z, wipe_in vs j z, l]
  · rw [wipe_off vs j z, wipe_off vs j z, h j fun q => z (sub j q)]
/-- the slots that a target writes -/
class Sw (g : TG) (is : outParam (List Nat)) : Prop where
  run : ∀ (v : V) (σ : L2.St) (H : Hp) (R R' : L2.St → Hp → Prop), g v σ H R → (∀ σ' H', (σ'.length = σ.length ∧ ∀ j : Nat, j ∉ is → σ'[j]? = σ[j]?) → R σ' H' → R' σ' H') → g v σ H R'
class Sws (g : TGs) (is : outParam (List Nat)) : Prop where
  run : ∀ (v : List V) (σ : L2.St) (H : Hp) (R R' : L2.St → Hp → Prop), g v σ H R → (∀ σ' H', (σ'.length = σ.length ∧ ∀ j : Nat, j ∉ is → σ'[j]? = σ[j]?) → R σ' H' → R' σ' H') → g v σ H R'
instance sw_name {i : Nat} : Sw (gName i) [i] where
  run v σ H R R' h k := k _ _ ⟨by rw [List.length_set], fun j n => set_off fun z => n (by rw [z]; exact List.mem_cons_self ..)⟩ h
instance sws_nil : Sws gNil [] where
  run v σ H R R' h k := And.intro h.1 (k _ _ ⟨rfl, fun _ _ => rfl⟩ h.2)
instance sws_cons {g : TG} {gs : TGs} {is js : List Nat} [a : Sw g is] [b : Sws gs js] : Sws (gCons g gs) (is ++ js) where
  run v σ H R R' h k := by
    obtain ⟨u, r, e, h⟩ := h
    refine ⟨u, r, e, a.run _ _ _ _ _ h fun σ1 H1 ⟨l1, o1⟩ h1 => b.run _ _ _ _ _ h1 fun σ2 H2 ⟨l2, o2⟩ h2 => k _ _ ⟨l2.trans l1, fun j n => ?_⟩ h2⟩
    rw [o2 j fun z => n (List.mem_append_right _ z), o1 j fun z => n (List.mem_append_left _ z)]
instance sw_tup {K : PySem.W.Frag} {n : Nat} {gs : TGs} {is : List Nat} [b : Sws gs is] : Sw (gTup K n gs) is where
  run v σ H R R' h k := by
    obtain ⟨a, xs, e, hs, l, h⟩ := h
    exact ⟨a, xs, e, hs, l, b.run _ _ _ _ _ h k⟩
/-! [e for x in it if t] -/
def lcEnd (vs : List Nat) (acc : List Dt) (a : Ar) (ρ : List Sl) (k : List Dt → List Sl → Prop) : Prop := match a with
  | .d x => noBox ρ vs = true ∧ acc.length < sizeLine ∧ k (acc ++ [x]) (wipeR ρ vs)
  | .b _ => False
def wLc (is : List Nat) (wi : WI) (wg : WG) (wt : WT) (we : WE) (vs : List Nat) : WN := fun ρ Ψ => wi ρ fun items ρ1 => (noBox ρ1 vs = true ∧ subB is vs = true) ∧ ∃ I : Nat → List Dt → List Sl → Prop, I 0 [] (wipeR ρ1 vs) ∧
  (∀ k acc ρ d, items[k]? = some d → I k acc ρ → wg d ρ fun ρ2 => wt ρ2 fun b ρ3 => if b = true then we ρ3 fun r ρ4 => store r ρ4 fun a ρ5 => lcEnd vs acc a ρ5 (I (k + 1))
    else noBox ρ3 vs = true ∧ I (k + 1) acc (wipeR ρ3 vs)) ∧ ∀ acc ρ, I items.length acc ρ → noBox ρ vs = true ∧ Ψ acc (wipeR ρ vs)
instance sn_lc {ti : TI} {g : TG} {tt : TT} {te : TE} {vs is : List Nat} {wi : WI} {wg : WG} {wt : WT} {we : WE} [i : Si K ti wi] [a : Sg K g wg] [s : Sw g is] [c : Sc K tt wt] [b : Sd K te we] : Sn K (tLc ti g tt te vs) (wLc is wi wg wt we vs) where
  run B C H σ ρ Q Ψ S h kk := i.run B C H σ ρ _ _ S h fun C1 H1 J items ρ1 S1 s1 hJ h1 => by
    obtain ⟨⟨nb1, sub⟩, I, i0, step, fin⟩ := h1
    intro D hD
    have h0D := S1.free0 hD
    have cD1 := S1.cold.free hD
    have c0D : B.C0 D = none := S1.grow.free cD1
    have nh1 := S1.nohot hD
    have bxD := S1.bxne nh1
    refine ⟨fun k n H2 => n = items.length - k ∧ k ≤ items.length ∧ ∃ C2 ρ2 ws acc, Sep K B C2 H2 (wipe σ vs) ρ2 ∧ Same C1 C2 ∧ H2 D = some (.lst ws) ∧ C2 D = none ∧ (∀ (j : Nat) (t : Sl), ρ2[j]? = some t → t.mut = true → (wipe σ vs)[j]? ≠ some (some (V.ref D))) ∧ RpL K C2 ws acc ∧ I k acc ρ2, ⟨_, rfl, Nat.zero_le _, C1, wipeR ρ1 vs, [], [], ?_, Same.refl _, upd_same, cD1, ?_, .nil, i0⟩, ?_⟩
    · exact (S1.allocN hD).swap nb1 (wipe2 vs)
    · exact ((S1.swap (σ' := wipe σ vs) nb1 (wipe2 vs))).nohot hD
    rintro k n H2 ⟨rfl, hk, C2, ρ2, ws, acc, S2, s2, hD2, cD2, nh2, r2, hI⟩
    have S2' := S2.hold hD2 cD2 nh2
    obtain ⟨go, stop, yld⟩ := hJ _ C2 H2 _ ρ2 S2' s2
    by_cases hlt : k < items.length
    · refine .inr ⟨go k hlt, fun H3 => ∃ C3 ρ3 ws acc, Sep K B C3 H3 (wipe σ vs) ρ3 ∧ Same C1 C3 ∧ H3 D = some (.lst ws) ∧ C3 D = none ∧ (∀ (j : Nat) (t : Sl), ρ3[j]? = some t → t.mut = true → (wipe σ vs)[j]? ≠ some (some (V.ref D))) ∧ RpL K C3 ws acc ∧ I (k + 1) acc ρ3, fun H3 ⟨C3, ρ3, ws, acc, q⟩ => ⟨items.length - (k + 1), by omega, rfl, hlt, C3, ρ3, ws, acc, q⟩, fun x H' y => ?_⟩
      obtain ⟨C3, S3, s3, r3⟩ := yld k x H' items[k] (List.getElem?_eq_getElem hlt) y
      have st := step k acc ρ2 _ (List.getElem?_eq_getElem hlt) hI
      refine s.run _ _ _ _ _ (a.run _ C3 H' _ ρ2 _ _ (fun σ4 H4 => ∃ ρ4, H4 = H' ∧ Sep K (B.hold D (.lst ws)) C3 H' σ4 ρ4 ∧ wt ρ4 fun b ρ3 => if b = true then we ρ3 fun r ρ4 => store r ρ4 fun a ρ5 => lcEnd vs acc a ρ5 (I (k + 1)) else noBox ρ3 vs = true ∧ I (k + 1) acc (wipeR ρ3 vs)) _ S3 r3 st fun σ4 ρ4 S4 h4 => ⟨ρ4, rfl, S4, h4⟩) fun σ4 H4 ⟨l4, o4⟩ ⟨ρ4, e4, S4, h4⟩ => ?_
      subst e4
      have w4 : wipe σ4 vs = wipe σ vs := (wipe_eq l4 o4 (subB_at sub)).trans (wipe2 vs)
      refine ⟨w4, c.run _ C3 _ σ4 ρ4 _ _ S4 h4 fun C5 H5 e ρ5 S5 s5 h5 => ?_⟩
      have w4' : wipe (wipe σ vs) vs = wipe σ4 vs := (wipe2 vs).trans w4.symm
      cases e with
      | false =>
        obtain ⟨n5, z5⟩ := h5
        obtain ⟨S6, q6, c6, nh6⟩ := (S5.swap n5 w4').unhold h0D c0D bxD
        exact ⟨C5, _, ws, acc, S6, s2.trans (s3.trans s5), q6, c6, nh6, r2.same (s3.trans s5), z5⟩
      | true =>
        refine b.run _ C5 H5 σ4 ρ5 _ _ S5 h5 fun C6 H6 v6 r6 ρ6 S6 s6 ok6 h6 => ?_
        obtain ⟨C7, x7, ρ7, S7, s7, ok7, h7⟩ := S6.stored ok6 h6
        cases x7 with
        | b i => exact False.elim h7
        | d x =>
          obtain ⟨n7, z7, z8⟩ := h7
          obtain ⟨S8, q8, c8, nh8⟩ := (S7.swap n7 w4').unhold h0D c0D bxD
          have sm := s3.trans (s5.trans (s6.trans s7))
          refine ⟨ws, q8, by rw [r2.len]; exact z7, C7, _, ws ++ [v6], acc ++ [x], ?_, s2.trans sm, upd_same, c8, nh8, (r2.same sm).append (.cons ok7 .nil), z8⟩
          have hd := (S8.hold q8 c8 nh8)
          refine ⟨fun b o q => ?_, S8.len, fun j t q => ?_, S8.ne, S8.grow, S8.new, fun b q => ?_, fun b o q n => ?_, S8.loc, S8.lob, S8.par, S8.pz⟩
          · rw [upd_ne (fun z => by rw [z, c8] at q; cases q)]
            exact S8.cold _ _ q
          · have w := S8.sl j t q
            cases t with
            | un => trivial
            | dat d => exact w
            | hot es =>
              obtain ⟨b, us, e3, g2, g3, g4⟩ := w
              have np : b ≠ D := fun z => nh8 j _ q rfl (z ▸ e3)
              exact ⟨b, us, e3, by rw [upd_ne np]; exact g2, g3, g4⟩
            | box m =>
              obtain ⟨b, e3, ⟨x, y, z, g2, g3⟩, g4⟩ := w
              have np : b ≠ D := fun z => nh8 j _ q rfl (z ▸ e3)
              exact ⟨b, e3, ⟨x, y, z, by rw [upd_ne np]; exact g2, g3⟩, g4⟩
          · by_cases z : b = D
            · rw [z, upd_same]
              exact fun z => nomatch z
            · rw [upd_ne z]
              exact S8.dom b q
          · rw [upd_ne (fun z => by rw [z, h0D] at q; cases q)]
            exact S8.keep b o q n
    · have e : k = items.length := by omega
      subst e
      obtain ⟨nf, z⟩ := fin _ _ hI
      have S3 := S2.swap (σ' := σ) nf (wipe2 vs).symm
      refine .inl ⟨stop, kk C2 H2 D acc _ S3 (s1.trans s2) ⟨⟨ws, hD2, r2⟩, cD2, h0D, fun j t q m e => ?_⟩ z⟩
      rcases wipeR_at vs j t q with ⟨_, q2⟩ | ⟨nj, q2⟩
      · rw [q2] at m
        cases m
      · exact nh2 j t q2 m (by rw [wipe_off vs j nj]; exact e)

end
section
variable {P : Program} {w : World} {K : PySem.W.Frag} {mg : Str → Option Value} {base : Heap}
local macro_rules | `(tactic| get_elem_tactic_trivial) => `(tactic| (repeat first | exact Wk.nil | exact Wk'.nil | refine Wk.same ?_ | refine Wk'.same ?_ | refine Wk.un (fun _ z => nomatch z) ?_ | refine Wk'.un ?_))
/-! defs over data -/
abbrev WF := List Sl → (Ro → List Sl → Prop) → Prop
def spD (K : PySem.W.Frag) (n : Nat) (wf : WF) : Sp := fun vs H Q _ => vs.length = n ∧ ∃ (C : Hp) (bx : Option (Nat × Addr)) (ps : List Sl) (Ψ : Ro → List Sl → Prop), Sep K ⟨C, H, bx⟩ C H (vs.map some) ps ∧ wf ps Ψ ∧
  ∀ C' G v r ps', Sep K ⟨C, H, bx⟩ C' G (vs.map some) ps' → RoOk K ⟨C, H, bx⟩ C' G (vs.map some) ps' v r → Ψ r ps' → Q v G
/-- one that tells a new list -/
def spN (K : PySem.W.Frag) (n : Nat) (wf : List Sl → (List Dt → List Sl → Prop) → Prop) : Sp := spD K n fun ps Ψ => wf ps fun ds ps' => Ψ (.new ds) ps'
def mrg : List Sl → List Sl → List Sl
  | [], _ => []
  | .box n :: ps, [] => .box n :: mrg ps []
  | .box _ :: ps, s :: ρ => s :: mrg ps ρ
  | p :: ps, [] => p :: mrg ps []
  | p :: ps, _ :: ρ => p :: mrg ps ρ
theorem mrg_len : ∀ ps ρ : List Sl, (mrg ps ρ).length = ps.length
  | [], _ => by unfold mrg; rfl
  | p :: ps, [] => by cases p <;> (unfold mrg; exact congrArg Nat.succ (mrg_len ps []))
  | p :: ps, s :: ρ => by cases p <;> (unfold mrg; exact congrArg Nat.succ (mrg_len ps ρ))
theorem mrg_at : ∀ (ps ρ : List Sl) (i : Nat) (s : Sl), (mrg ps ρ)[i]? = some s → (∃ n, ps[i]? = some (.box n) ∧ (ρ[i]? = some s ∨ (ρ[i]? = none ∧ s = .box n))) ∨ (ps[i]? = some s ∧ ∀ n, s ≠ .box n)
  | [], _, i, s, h => by unfold mrg at h; simp at h
  | p :: ps, [], 0, s, h => by
    cases p <;> (unfold mrg at h; have e := Option.some.inj h; subst e)
    · exact .inr ⟨rfl, fun n z => nomatch z⟩
    · exact .inr ⟨rfl, fun n z => nomatch z⟩
    · exact .inr ⟨rfl, fun n z => nomatch z⟩
    · exact .inl ⟨_, rfl, .inr ⟨rfl, rfl⟩⟩
  | p :: ps, t :: ρ, 0, s, h => by
    cases p <;> (unfold mrg at h; have e := Option.some.inj h; subst e)
    · exact .inr ⟨rfl, fun n z => nomatch z⟩
    · exact .inr ⟨rfl, fun n z => nomatch z⟩
    · exact .inr ⟨rfl, fun n z => nomatch z⟩
    · exact .inl ⟨_, rfl, .inl rfl⟩
  | p :: ps, [], i + 1, s, h => by
    have h2 : (mrg ps [])[i]? = some s := by cases p <;> (unfold mrg at h; exact h)
    rcases mrg_at ps [] i s h2 with ⟨n, a, b⟩ | q
    · refine .inl ⟨n, a, ?_⟩
      rcases b with b | b
      · simp at b
      · exact .inr ⟨rfl, b.2⟩
    · exact .inr q
  | p :: ps, t :: ρ, i + 1, s, h => by
    have h2 : (mrg ps ρ)[i]? = some s := by cases p <;> (unfold mrg at h; exact h)
    exact mrg_at ps ρ i s h2
theorem mrg_box : ∀ (ps ρ : List Sl) (i : Nat) (n m : Int), ps[i]? = some (.box n) → ρ[i]? = some (.box m) → (mrg ps ρ)[i]? = some (.box m)
  | p :: ps, t :: ρ, 0, n, m, h, g => by
    have e := Option.some.inj h
    subst e
    unfold mrg
    exact g
  | p :: ps, t :: ρ, i + 1, n, m, h, g => by
    have := mrg_box ps ρ i n m h g
    cases p <;> (unfold mrg; exact this)
  | [], _, i, n, m, h, g => by simp at h
  | p :: ps, [], i, n, m, h, g => by simp at g
/-- a def's own end, told of its arguments -/
theorem Sep.args {C H C' G : Hp} {bx : Option (Nat × Addr)} {vs : List V} {ps ρ : List Sl} {σ : L2.St} (S0 : Sep K ⟨C, H, bx⟩ C H (vs.map some) ps) (S : Sep K ⟨C, H, bx⟩ C' G σ ρ) : Sep K ⟨C, H, bx⟩ C' G (vs.map some) (mrg ps ρ) := by
  have nohot : ∀ (i : Nat) (ds : List Dt), ps[i]? ≠ some (.hot ds) := fun i ds e => by
    obtain ⟨a, us, e2, ha, _⟩ := S0.sl i _ e
    have := S0.loc i a ds e e2
    rw [show (⟨C, H, bx⟩ : Bs).H0 a = H a from rfl, ha] at this
    cases this
  have box : ∀ (i : Nat) (n : Int), ps[i]? = some (.box n) → ∃ a m, bx = some (i, a) ∧ (vs.map some)[i]? = some (some (V.ref a)) ∧ σ[i]? = some (some (V.ref a)) ∧ ρ[i]? = some (.box m) := fun i n e => by
    obtain ⟨a, e2, ⟨x, y, z, ha, _⟩, _⟩ := S0.sl i _ e
    rcases S0.lob i a n e e2 with q | q
    · rw [show (⟨C, H, bx⟩ : Bs).H0 a = H a from rfl, ha] at q
      cases q
    · obtain ⟨g1, m, g2⟩ := S.par i a q
      exact ⟨a, m, q, e2, g1, g2⟩
  have case_ : ∀ (i : Nat) (s : Sl), (mrg ps ρ)[i]? = some s → (∃ a m, s = .box m ∧ bx = some (i, a) ∧ (vs.map some)[i]? = some (some (V.ref a)) ∧ σ[i]? = some (some (V.ref a)) ∧ ρ[i]? = some (.box m)) ∨ (ps[i]? = some s ∧ s.mut = false) := fun i s h => by
    rcases mrg_at ps ρ i s h with ⟨n, e, q⟩ | ⟨e, q⟩
    · obtain ⟨a, m, g1, g2, g3, g4⟩ := box i n e
      rcases q with q | ⟨q, _⟩
      · rw [g4] at q
        cases q
        exact .inl ⟨a, m, rfl, g1, g2, g3, g4⟩
      · rw [g4] at q
        cases q
    · cases s with
      | un => exact .inr ⟨e, rfl⟩
      | dat d => exact .inr ⟨e, rfl⟩
      | hot ds => exact absurd e (nohot i ds)
      | box n => exact absurd rfl (q n)
  refine ⟨S.cold, by rw [mrg_len]; exact S0.len, fun i s h => ?_, fun i j a s t n h1 h2 m1 m2 e1 e2 => ?_, S.grow, S.new, S.dom, S.keep, fun i a ds h e => ?_, fun i a n h e => ?_, fun i a h => ?_, S.pz⟩
  · rcases case_ i s h with ⟨a, m, rfl, g1, g2, g3, g4⟩ | ⟨g1, g2⟩
    · obtain ⟨b, e, q⟩ := S.sl i _ g4
      rw [g3] at e
      cases e
      exact ⟨a, g2, q⟩
    · have q := S0.sl i s g1
      cases s with
      | un => trivial
      | dat d =>
        obtain ⟨v, e, r⟩ := q
        exact ⟨v, e, r.same S.grow⟩
      | hot ds => cases g2
      | box n => cases g2
  · rcases case_ i s h1 with ⟨b, m, rfl, g1, _⟩ | ⟨_, g2⟩
    · rcases case_ j t h2 with ⟨c, m', rfl, k1, _⟩ | ⟨_, g2⟩
      · rw [g1] at k1
        cases k1
        exact n rfl
      · rw [g2] at m2
        cases m2
    · rw [g2] at m1
      cases m1
  · rcases case_ i _ h with ⟨b, m, z, g1, _⟩ | ⟨_, g2⟩
    · cases z
    · cases g2
  · rcases case_ i _ h with ⟨b, m, z, g1, g2, _⟩ | ⟨_, g2⟩
    · rw [g2] at e
      cases e
      exact .inr g1
    · cases g2
  · obtain ⟨h1, n, h2⟩ := S0.par i a h
    obtain ⟨g1, m, g2⟩ := S.par i a h
    exact ⟨h1, m, mrg_box ps ρ i n m h2 g2⟩
def fin (ps : List Sl) (Ψ : Ro → List Sl → Prop) : Fs := ⟨fun ρ => Ψ (.dat .non) (mrg ps ρ), fun r ρ => Ψ r (mrg ps ρ), fun _ => False, fun _ => False⟩
theorem start_sep {C H : Hp} {bx : Option (Nat × Addr)} {N : List Str} {vs : List V} {ps : List Sl} (S : Sep K ⟨C, H, bx⟩ C H (vs.map some) ps) : Sep K ⟨C, H, bx⟩ C H (start N vs) (ps ++ List.replicate (N.length - vs.length) .un) := by
  have hl : vs.length = ps.length := by have := S.len; rw [List.length_map] at this; exact this
  have at_ : ∀ (i : Nat) (s : Sl), (ps ++ List.replicate (N.length - vs.length) Sl.un)[i]? = some s → s ≠ .un → ps[i]? = some s ∧ (start N vs)[i]? = (vs.map some)[i]? := fun i s h n => by
    by_cases z : i < ps.length
    · rw [List.getElem?_append_left z] at h
      refine ⟨h, ?_⟩
      unfold L2.start
      rw [List.getElem?_append_left (by rw [List.length_map]; omega)]
    · rw [List.getElem?_append_right (by omega)] at h
      have := List.mem_of_getElem? h
      exact absurd (List.eq_of_mem_replicate this) n
  have mu : ∀ {t : Sl}, t.mut = true → t ≠ .un := fun m z => by rw [z] at m; cases m
  refine ⟨S.cold, ?_, fun i s h => ?_, fun i j a s t n h1 h2 m1 m2 e1 e2 => ?_, S.grow, S.new, S.dom, S.keep, fun i a ds h e => ?_, fun i a n h e => ?_, fun i a h => ?_, S.pz⟩
  · unfold L2.start
    rw [List.length_append, List.length_append, List.length_replicate, List.length_replicate, List.length_map, hl]
  · cases s with
    | un => trivial
    | dat d => rw [(at_ i _ h (fun z => nomatch z)).2]; exact S.sl i _ (at_ i _ h (fun z => nomatch z)).1
    | hot ds => rw [(at_ i _ h (fun z => nomatch z)).2]; exact S.sl i _ (at_ i _ h (fun z => nomatch z)).1
    | box n => rw [(at_ i _ h (fun z => nomatch z)).2]; exact S.sl i _ (at_ i _ h (fun z => nomatch z)).1
  · rw [(at_ i _ h1 (mu m1)).2] at e1
    rw [(at_ j _ h2 (mu m2)).2] at e2
    exact S.ne i j a s t n (at_ i _ h1 (mu m1)).1 (at_ j _ h2 (mu m2)).1 m1 m2 e1 e2
  · rw [(at_ i _ h (fun z => nomatch z)).2] at e
    exact S.loc i a ds (at_ i _ h (fun z => nomatch z)).1 e
  · rw [(at_ i _ h (fun z => nomatch z)).2] at e
    exact S.lob i a n (at_ i _ h (fun z => nomatch z)).1 e
  · obtain ⟨h1, n, h2⟩ := S.par i a h
    have li : i < ps.length := by
      cases Nat.lt_or_ge i ps.length with
      | inl h => exact h
      | inr g => rw [List.getElem?_eq_none g] at h2; cases h2
    refine ⟨?_, n, by rw [List.getElem?_append_left li]; exact h2⟩
    unfold L2.start
    rw [List.getElem?_append_left (by rw [List.length_map]; omega)]
    exact h1
theorem bodyD {t : TS} {w : WS} [s : Ss K t w] {N : List Str} {vs : List V} {H : Hp} {Q : VK} {E : XK} {n : Nat} {wf : WF} (h : spD K n wf vs H Q E) (hw : ∀ ps Ψ, wf ps Ψ → ps.length = n → w (ps ++ List.replicate (N.length - n) .un) (fin ps Ψ)) :
    t { nx := fun _ H' => Q .non H', rt := Q } (start N vs) H := by
  obtain ⟨hl, C, bx, ps, Ψ, S, hf, k⟩ := h
  have lp : ps.length = n := by have := S.len; rw [List.length_map] at this; omega
  have S1 := start_sep (N := N) S
  have h1 := hw ps Ψ hf lp
  rw [← hl] at h1
  refine s.run _ C H _ _ _ _ S1 h1 ⟨fun C1 H1 σ1 ρ1 S2 z => k _ _ _ (.dat .non) _ (S.args S2) .non z, fun C1 H1 σ1 ρ1 v r S2 ok z => ?_, fun C1 H1 σ1 ρ1 S2 z => False.elim z, fun C1 H1 σ1 ρ1 S2 z => False.elim z⟩
  refine k _ _ _ r _ (S.args S2) ?_ z
  cases r with
  | dat d => exact ok
  | new ds =>
    obtain ⟨a, e, f1, f2, f3, f4⟩ := ok
    refine ⟨a, e, f1, f2, f3, fun j u hj m ej => ?_⟩
    have S3 := S.args S2
    have q := S3.mutH hj m ej
    have f3' : H a = none := f3
    cases u with
    | un => cases m
    | dat d => cases m
    | hot es => 
      rcases mrg_at ps ρ1 j _ hj with ⟨m, e1, e2⟩ | ⟨e1, _⟩
      · rcases e2 with e2 | ⟨_, e2⟩
        · obtain ⟨b, us, e5, hb, _⟩ := S3.sl j _ hj
          rw [ej] at e5
          cases e5
          have := S.mutH e1 rfl ej
          exact this.2 f3'
        · cases e2
      · have := S.mutH e1 rfl ej
        exact this.2 f3'
    | box n =>
      rcases mrg_at ps ρ1 j _ hj with ⟨m, e1, e2⟩ | ⟨e1, z⟩
      · have := S.mutH e1 rfl ej
        exact this.2 f3'
      · exact z n rfl
/-! calls -/
def Ro.val : Ro → Dt
  | .dat d => d
  | .new ds => .lst ds
class Dv (vs : List V) (ds : outParam (List Dt)) : Prop where
  run : ∀ (K : PySem.W.Frag) (C : Hp), RpL K C vs ds
instance dv_nil : Dv [] [] := ⟨fun _ _ => .nil⟩
instance dv_non {vs : List V} {ds : List Dt} [a : Dv vs ds] : Dv (.non :: vs) (.non :: ds) := ⟨fun K C => .cons .non (a.run K C)⟩
instance dv_int {i : Int} {vs : List V} {ds : List Dt} [a : Dv vs ds] : Dv (.int i :: vs) (.int i :: ds) := ⟨fun K C => .cons (.int i) (a.run K C)⟩
def boxK (i : Nat) (ρ : List Sl) (Ψ : Ro → List Sl → Prop) (r : Ro) (ps : List Sl) : Prop := match ps with
  | .box n :: _ => Ψ r (ρ.set i (.box n))
  | _ => False
def callW (wf : WF) (as : List Ar) (dd : List Dt) (ρ : List Sl) (Ψ : Ro → List Sl → Prop) : Prop := match as with
  | .b i :: as => match ρ[i]?, dats as with
    | some (.box n), some ds => wf (.box n :: (ds ++ dd).map .dat) (boxK i ρ Ψ)
    | _, _ => False
  | as => match dats as with
    | some ds => wf ((ds ++ dd).map .dat) fun r _ => Ψ r ρ
    | none => False
section
variable {B : Bs} {C H G C' : Hp} {σ : L2.St} {ρ : List Sl}
/-- behind a call that is handed no box -/
theorem Sep.after (S : Sep K B C H σ ρ) {τ : L2.St} {π : List Sl} (S' : Sep K ⟨C, H, none⟩ C' G τ π) : Sep K B C' G σ ρ := by
  have kp : ∀ a o, H a = some o → G a = some o := fun a o h => S'.keep a o h fun i z => nomatch z
  have cn : ∀ a o, H a = some o → C a = none → C' a = none := fun a o h c => by
    cases q : C' a with
    | none => rfl
    | some u =>
      have : H a = none := S'.new a u q c
      rw [h] at this
      cases this
  refine ⟨S'.cold, S.len, fun i s h => ?_, S.ne, S.grow.trans S'.grow, fun a o e n => ?_, fun a h => S'.dom a (S.dom a h), fun a o h n => kp a o (S.keep a o h n), S.loc, S.lob, S.par, S.pz⟩
  · have q := S.sl i s h
    cases s with
    | un => trivial
    | dat d =>
      obtain ⟨v, e, r⟩ := q
      exact ⟨v, e, r.same S'.grow⟩
    | hot ds =>
      obtain ⟨a, vs, e, ha, r, ca⟩ := q
      exact ⟨a, vs, e, kp _ _ ha, r.same S'.grow, cn _ _ ha ca⟩
    | box n =>
      obtain ⟨a, e, ⟨x, y, z, ha, hh⟩, ca⟩ := q
      exact ⟨a, e, ⟨x, y, z, kp _ _ ha, hh⟩, cn _ _ ha ca⟩
  · cases q : C a with
    | some u => exact S.new a u q n
    | none => exact S.free0 (S'.new a o e q)
/-- behind a call that is handed the box at slot i -/
theorem Sep.afterB (S : Sep K B C H σ ρ) {p : Addr} {i : Nat} {m n : Int} {τ : L2.St} {π : List Sl} (hi : ρ[i]? = some (.box m)) (ei : σ[i]? = some (some (V.ref p))) (S' : Sep K ⟨C, H, some (0, p)⟩ C' G τ π) (hn : π[0]? = some (.box n)) : Sep K B C' G σ (ρ.set i (.box n)) := by
  have kp : ∀ a o, H a = some o → a ≠ p → G a = some o := fun a o h z => S'.keep a o h fun i q => by cases q; exact z rfl
  have cn : ∀ a o, H a = some o → C a = none → C' a = none := fun a o h c => by
    cases q : C' a with
    | none => rfl
    | some u =>
      have : H a = none := S'.new a u q c
      rw [h] at this
      cases this
  obtain ⟨e0, m', e1⟩ := S'.par 0 p rfl
  obtain ⟨p', e2, bG, cp⟩ := S'.sl 0 _ hn
  rw [e0] at e2
  cases e2
  have back : ∀ {j : Nat} {t : Sl}, (ρ.set i (.box n))[j]? = some t → t.mut = true → ∃ t', ρ[j]? = some t' ∧ t'.mut = true := fun {j t} z y => by
    rcases get_set z with ⟨rfl, rfl, l⟩ | ⟨_, z⟩
    · exact ⟨_, hi, rfl⟩
    · exact ⟨t, z, y⟩
  refine ⟨S'.cold, by rw [List.length_set]; exact S.len, fun j s h => ?_, fun j k a t u q h1 h2 m1 m2 e1 e2 => ?_, S.grow.trans S'.grow, fun a o e n => ?_, fun a h => S'.dom a (S.dom a h), fun a o h n => kp a o (S.keep a o h n) fun z => ?_, fun j a ds h e => ?_, fun j a n h e => ?_, fun j a h => ?_, S.pz⟩
  · rcases get_set h with ⟨rfl, rfl, l⟩ | ⟨nj, h⟩
    · exact ⟨p, ei, bG, cp⟩
    · have q := S.sl j s h
      cases s with
      | un => trivial
      | dat d =>
        obtain ⟨v, e, r⟩ := q
        exact ⟨v, e, r.same S'.grow⟩
      | hot ds =>
        obtain ⟨a, vs, e, ha, r, ca⟩ := q
        exact ⟨a, vs, e, kp _ _ ha (fun z => S.ne i j p _ _ nj hi h rfl rfl ei (z ▸ e)), r.same S'.grow, cn _ _ ha ca⟩
      | box n =>
        obtain ⟨a, e, ⟨x, y, z, ha, hh⟩, ca⟩ := q
        have na : a ≠ p := fun z => S.ne i j p _ _ nj hi h rfl rfl ei (z ▸ e)
        exact ⟨a, e, ⟨x, y, z, kp _ _ ha na, hh⟩, cn _ _ ha ca⟩
  · obtain ⟨t', h1, m1⟩ := back h1 m1
    obtain ⟨u', h2, m2⟩ := back h2 m2
    exact S.ne j k a t' u' q h1 h2 m1 m2 e1 e2
  · cases q : C a with
    | some u => exact S.new a u q n
    | none => exact S.free0 (S'.new a o e q)
  · subst z
    rcases S.lob i a m hi ei with q | q
    · rw [h] at q
      cases q
    · exact n i q
  · rcases get_set h with ⟨rfl, z, l⟩ | ⟨nj, h⟩
    · cases z
    · exact S.loc j a ds h e
  · rcases get_set h with ⟨rfl, z, l⟩ | ⟨nj, h⟩
    · exact S.lob i a m hi e
    · exact S.lob j a n h e
  · obtain ⟨h1, n', h2⟩ := S.par j a h
    by_cases z : i = j
    · subst z
      refine ⟨h1, n, set_at ?_⟩
      cases Nat.lt_or_ge i ρ.length with
      | inl h => exact h
      | inr g => rw [List.getElem?_eq_none g] at hi; cases hi
    · exact ⟨h1, n', by rw [set_off z]; exact h2⟩
theorem sep_dats {vs : List V} {ds : List Dt} (S : Sep K B C H σ ρ) (r : RpL K C vs ds) : Sep K ⟨C, H, none⟩ C H (vs.map some) (ds.map .dat) := by
  have at_ : ∀ (i : Nat) (s : Sl), (ds.map Sl.dat)[i]? = some s → ∃ d, s = .dat d ∧ ds[i]? = some d := fun i s h => by
    rw [List.getElem?_map] at h
    cases q : ds[i]? with
    | none => rw [q] at h; cases h
    | some d => rw [q] at h; cases h; exact ⟨d, rfl, rfl⟩
  refine ⟨S.cold, by rw [List.length_map, List.length_map]; exact r.len, fun i s h => ?_, fun i j a s t n h1 h2 m1 m2 e1 e2 => ?_, Same.refl _, fun a o e n => ?_, fun a h => h, fun a o h n => h, fun i a ds h e => ?_, fun i a n h e => ?_, (fun i a h => nomatch h), fun i a h => nomatch h⟩
  · obtain ⟨d, rfl, e⟩ := at_ i s h
    obtain ⟨v, ev, rv⟩ := r.at' e
    exact ⟨v, by rw [List.getElem?_map, ev]; rfl, rv⟩
  · obtain ⟨d, rfl, e⟩ := at_ i s h1
    cases m1
  · have n' : C a = none := n
    rw [n'] at e
    cases e
  · obtain ⟨d, z, e⟩ := at_ i _ h
    cases z
  · obtain ⟨d, z, e⟩ := at_ i _ h
    cases z
theorem sep_box {vs : List V} {ds : List Dt} {p : Addr} {i : Nat} {m : Int} (S : Sep K B C H σ ρ) (hi : ρ[i]? = some (.box m)) (ei : σ[i]? = some (some (V.ref p))) (r : RpL K C vs ds) : Sep K ⟨C, H, some (0, p)⟩ C H ((V.ref p :: vs).map some) (.box m :: ds.map .dat) := by
  have D := sep_dats S r
  obtain ⟨p', e2, bG, cp⟩ := S.sl i _ hi
  rw [ei] at e2
  cases e2
  refine ⟨S.cold, by have := D.len; simp only [List.length_map, List.length_cons] at this ⊢; omega, fun j s h => ?_, fun j k a s t n h1 h2 m1 m2 e1 e2 => ?_, Same.refl _, D.new, fun a h => h, fun a o h n => h, fun j a es h e => ?_, fun j a n h e => ?_, fun j a h => ?_, fun j a h => by cases h; rfl⟩
  · cases j with
    | zero =>
      have e := Option.some.inj h
      subst e
      exact ⟨p, rfl, bG, cp⟩
    | succ j => exact D.sl j s h
  · cases j with
    | zero =>
      cases k with
      | zero => exact n rfl
      | succ k =>
        have h2' : (ds.map Sl.dat)[k]? = some t := h2
        rw [List.getElem?_map] at h2'
        cases q : ds[k]? with
        | none => rw [q] at h2'; cases h2'
        | some d => rw [q] at h2'; cases h2'; cases m2
    | succ j =>
      have h1' : (ds.map Sl.dat)[j]? = some s := h1
      rw [List.getElem?_map] at h1'
      cases q : ds[j]? with
      | none => rw [q] at h1'; cases h1'
      | some d => rw [q] at h1'; cases h1'; cases m1
  · cases j with
    | zero => cases h
    | succ j => exact D.loc j a es h e
  · cases j with
    | zero =>
      have e' := Option.some.inj (Option.some.inj e)
      cases e'
      exact .inr rfl
    | succ j =>
      have h1' : (ds.map Sl.dat)[j]? = some (.box n) := h
      rw [List.getElem?_map] at h1'
      cases q : ds[j]? with
      | none => rw [q] at h1'; cases h1'
      | some d => rw [q] at h1'; cases h1'
  · cases h
    exact ⟨rfl, m, rfl⟩
/-- what a call asks, and tells -/
theorem Sep.calls {n : Nat} {wf : WF} {vs dvs : List V} {as : List Ar} {dd : List Dt} {Q : VK} {E : XK} {Ψ : Ro → List Sl → Prop} (S : Sep K B C H σ ρ) (ok : ArL K C σ vs as) (dv : RpL K C dvs dd) (hn : (as.length + dd.length) = n) (h : callW wf as dd ρ Ψ)
    (k : ∀ C' G v r ρ', Sep K B C' G σ ρ' → Same C C' → RoOk K B C' G σ ρ' v r → Ψ r ρ' → Q v G) : spD K n wf (vs ++ dvs) H Q E := by
  have la : vs.length = as.length := by
    have : ∀ {vs : List V} {as : List Ar}, ArL K C σ vs as → vs.length = as.length := fun {vs as} z => by
      induction z with
      | nil => rfl
      | cons _ _ ih => exact congrArg Nat.succ ih
    exact this ok
  refine ⟨by rw [List.length_append, la, dv.len]; exact hn, ?_⟩
  have news : ∀ {bx : Option (Nat × Addr)} {C' G : Hp} {τ : L2.St} {π ρ' : List Sl} {v : V} {r : Ro}, Sep K ⟨C, H, bx⟩ C' G τ π → (∀ (j : Nat) (t : Sl) (a : Addr), ρ'[j]? = some t → t.mut = true → σ[j]? = some (some (V.ref a)) → H a ≠ none) → RoOk K ⟨C, H, bx⟩ C' G τ π v r → RoOk K B C' G σ ρ' v r := fun {bx C' G τ π ρ' v r} S' hh q => by
    cases r with
    | dat d => exact q
    | new ds =>
      obtain ⟨a, e, f1, f2, f3, f4⟩ := q
      exact ⟨a, e, f1, f2, S.free0 f3, fun j t h m ej => hh j t a h m ej f3⟩
  have plain : dats as = none ∨ (∃ ds, dats as = some ds) := by
    cases dats as with
    | none => exact .inl rfl
    | some ds => exact .inr ⟨ds, rfl⟩
  have noB : ∀ ds, dats as = some ds → wf ((ds ++ dd).map .dat) (fun r _ => Ψ r ρ) → ∃ (C₁ : Hp) (bx : Option (Nat × Addr)) (ps : List Sl) (Ψ : Ro → List Sl → Prop), Sep K ⟨C₁, H, bx⟩ C₁ H ((vs ++ dvs).map some) ps ∧ wf ps Ψ ∧
      ∀ C' G v r ps', Sep K ⟨C₁, H, bx⟩ C' G ((vs ++ dvs).map some) ps' → RoOk K ⟨C₁, H, bx⟩ C' G ((vs ++ dvs).map some) ps' v r → Ψ r ps' → Q v G := fun ds e hw =>
    ⟨C, none, _, _, sep_dats S ((ok.dats e).append dv), hw, fun C' G v r ps' S' q z => k _ _ _ _ _ (S.after S') S'.grow (news S' (fun j t a h m ej => (S.mutH h m ej).2) q) z⟩
  match as, ok, h with
  | [], ok, h => exact noB [] rfl h
  | .d x :: as, ok, h =>
    unfold callW at h
    cases q : dats (.d x :: as) with
    | none => simp only [q] at h
    | some ds =>
      simp only [q] at h
      exact noB ds q h
  | .b i :: as, .cons (v := v) (vs := us) oi ok, h =>
    unfold callW at h
    dsimp only at h
    cases q1 : ρ[i]? with
    | none => simp only [q1] at h
    | some t =>
      cases q2 : dats as with
      | none => cases t <;> simp only [q1, q2] at h
      | some ds =>
        cases t <;> simp only [q1, q2] at h
        rename_i m
        have oi' : σ[i]? = some (some v) := oi
        obtain ⟨p, e2, _⟩ := S.sl i _ q1
        rw [oi'] at e2
        cases e2
        refine ⟨C, some (0, p), _, _, sep_box S q1 oi' ((ok.dats q2).append dv), h, fun C' G v r ps' S' q z => ?_⟩
        unfold boxK at z
        cases ps' with
        | nil => exact False.elim z
        | cons s ps' =>
          cases s <;> try exact False.elim z
          rename_i n'
          have S2 := S.afterB q1 oi' S' rfl
          refine k _ _ _ _ _ S2 S'.grow (news S' (fun j t a hj m ej => ?_) q) z
          rcases get_set hj with ⟨rfl, rfl, l⟩ | ⟨nj, hj⟩
          · exact (S.mutH q1 rfl ej).2
          · exact (S.mutH hj m ej).2
end
theorem ArL.len {C : Hp} {σ : L2.St} : ∀ {vs : List V} {as : List Ar}, ArL K C σ vs as → vs.length = as.length
  | _, _, .nil => rfl
  | _, _, .cons _ t => congrArg Nat.succ (ArL.len t)
def wCall (n : Nat) (wf : WF) (dd : List Dt) (wa : WA) : WE := fun ρ Ψ => wa ρ fun as ρ1 => as.length + dd.length = n ∧ callW wf as dd ρ1 fun r ρ2 => Ψ (.dat r.val) ρ2
instance sd_call {n : Nat} {wf : WF} {dvs : List V} {dd : List Dt} {E : XK} {ta : TA} {wa : WA} [v : Dv dvs dd] [a : Sa K ta wa] : Sd K (tCall (spD K n wf) dvs E ta) (wCall n wf dd wa) where
  run B C H σ ρ Q Ψ S h k := a.run B C H σ ρ _ _ S h fun C1 H1 vs as ρ1 S1 s1 ok1 h1 => by
    refine S1.calls ok1 (v.run K C1) h1.1 h1.2 fun C' G v r ρ' S' s' q z => ?_
    cases r with
    | dat d => exact k _ _ _ (.dat d) _ S' (s1.trans s') q z
    | new ds =>
      obtain ⟨b, rfl, f⟩ := q
      obtain ⟨C2, S2, s2, r2⟩ := f.cool S'
      exact k _ _ _ (.dat (.lst ds)) _ S2 (s1.trans (s'.trans s2)) r2 z
def wCallN (n : Nat) (wf : List Sl → (List Dt → List Sl → Prop) → Prop) (dd : List Dt) (wa : WA) : WN := fun ρ Ψ => wa ρ fun as ρ1 => as.length + dd.length = n ∧ callW (fun ps Ψ => wf ps fun ds ps' => Ψ (.new ds) ps') as dd ρ1 fun r ρ2 => match r with
  | .new ds => Ψ ds ρ2
  | .dat _ => False
instance sn_call {n : Nat} {wf : List Sl → (List Dt → List Sl → Prop) → Prop} {dvs : List V} {dd : List Dt} {E : XK} {ta : TA} {wa : WA} [v : Dv dvs dd] [a : Sa K ta wa] : Sn K (tCall (spN K n wf) dvs E ta) (wCallN n wf dd wa) where
  run B C H σ ρ Q Ψ S h k := a.run B C H σ ρ _ _ S h fun C1 H1 vs as ρ1 S1 s1 ok1 h1 => by
    refine S1.calls ok1 (v.run K C1) h1.1 h1.2 fun C' G v r ρ' S' s' q z => ?_
    cases r with
    | dat d => exact False.elim z
    | new ds =>
      obtain ⟨b, rfl, f⟩ := q
      exact k _ _ _ _ _ S' (s1.trans s') f z

end
section
variable {P : Program} {w : World} {K : PySem.W.Frag} {mg : Str → Option Value} {base : Heap}
local macro_rules | `(tactic| get_elem_tactic_trivial) => `(tactic| (repeat first | exact Wk.nil | exact Wk'.nil | refine Wk.same ?_ | refine Wk'.same ?_ | refine Wk.un (fun _ z => nomatch z) ?_ | refine Wk'.un ?_))
/-! defs that show things: while they run nothing else is being shown -/
section
variable {X : Cx} {k : Nat} {f : Addr} {fd : FuncData} {ps : List Str} {sp : Sp} {dvs : List V} {ds : List Value} {E : XK} {x : Str} {p pos : Pos} {e : Expr} {es : List Expr} {t : TA}
end
/-! the end of a law that shows things -/

end
section
variable {P : Program} {w : World} {K : PySem.W.Frag} {mg : Str → Option Value} {base : Heap}
local macro_rules | `(tactic| get_elem_tactic_trivial) => `(tactic| (repeat first | exact Wk.nil | exact Wk'.nil | refine Wk.same ?_ | refine Wk'.same ?_ | refine Wk.un (fun _ z => nomatch z) ?_ | refine Wk'.un ?_))
/-! as the library's data -/
mutual
def Dt.py : Dt → PyData
  | .non => .none
  | .bl b => .bool b
  | .int i => .int i
  | .str x => .str x
  | .lst ds => .list (pys ds)
  | .tup ds => .tuple (pys ds)
  | .obj _ _ _ => .none
  | .err _ _ => .none
  | .adr _ => .none
  | .dic _ _ => .none
  | .scr _ => .none
def pys : List Dt → List PyData
  | [] => []
  | d :: ds => d.py :: pys ds
end
mutual
def Dt.pure : Dt → Bool
  | .lst ds => pures ds
  | .tup ds => pures ds
  | .obj _ _ _ => false
  | .err _ _ => false
  | .adr _ => false
  | .dic _ _ => false
  | .scr _ => false
  | _ => true
def pures : List Dt → Bool
  | [] => true
  | d :: ds => d.pure && pures ds
end
mutual
theorem Rp.dp {C : Hp} : ∀ (d : Dt) (v : V), Rp K C v d → d.pure = true → Dp K C v d.py
  | .non, _, h, _ => by cases h; exact .non
  | .bl b, _, h, _ => by cases h; exact .bl b
  | .int i, _, h, _ => by cases h; exact .int i
  | .str x, _, h, _ => by cases h; exact .str x
  | .lst ds, _, h, p => by
    cases h with
    | lst a b => exact .lst (SqL.of a) (RpL.dp ds _ b (by simpa only [Dt.pure] using p))
  | .tup ds, _, h, p => by
    cases h with
    | tup a b => exact .tup a (RpL.dp ds _ b (by simpa only [Dt.pure] using p))
  | .obj _ _ _, _, _, p => by simp only [Dt.pure] at p; cases p
  | .err _ _, _, _, p => by simp only [Dt.pure] at p; cases p
  | .adr _, _, _, p => by simp only [Dt.pure] at p; cases p
  | .dic _ _, _, _, p => by simp only [Dt.pure] at p; cases p
  | .scr _, _, _, p => by simp only [Dt.pure] at p; cases p
theorem RpL.dp {C : Hp} : ∀ (ds : List Dt) (vs : List V), RpL K C vs ds → pures ds = true → DpAll K C vs (pys ds)
  | [], _, h, _ => by cases h; exact .nil
  | d :: ds, _, h, p => by
    cases h with
    | cons a b =>
      simp only [pures, Bool.and_eq_true] at p
      exact .cons (Rp.dp d _ a p.1) (RpL.dp ds _ b p.2)
end
theorem Rt.dp {B : Bs} {C H : Hp} {σ : L2.St} {ρ : List Sl} {v : V} {d : Dt} (S : Sep K B C H σ ρ) (h : Rt K C H v d) (p : d.pure = true) : Dp K H v d.py := by
  rcases h with h | ⟨a, vs, ds, rfl, rfl, ha, r⟩
  · exact dp_same S.cold _ _ (Rp.dp d v h p)
  · exact .lst (SqL.of ha) (dps_same S.cold _ _ (RpL.dp ds vs r (by simpa only [Dt.pure] using p)))
structure Nice (n b : Nat) (d : Dt) : Prop where
  pu : d.pure = true
  lay : d.py.canLay0 = true
  sh : d.py.showable = true
  lv : d.py.leavesShort 1921 = true
  dp : d.py.depth ≤ n
  bk : d.py.bulk ≤ b
theorem Nice.mono {n b m c : Nat} {d : Dt} (h : Nice n b d) (h1 : n ≤ m) (h2 : b ≤ c) : Nice m c d := ⟨h.pu, h.lay, h.sh, h.lv, Nat.le_trans h.dp h1, Nat.le_trans h.bk h2⟩
theorem nice_non : Nice 0 0 .non := ⟨rfl, rfl, rfl, rfl, Nat.le_refl _, Nat.le_refl _⟩
theorem log_lt {i : Int} {k : Nat} (hk : 0 < k) (h : i.natAbs < 2 ^ k) : i.natAbs.log2 < k := by
  by_cases z : i.natAbs = 0
  · rw [z]
    exact hk
  · exact (Nat.log2_lt z).mpr h
theorem nice_int {i : Int} (h : i.natAbs < 2 ^ 1900) : Nice 0 0 (.int i) := by
  have h1 : i.natAbs.log2 < 1920 := Nat.lt_trans (log_lt (by decide) h) (by decide)
  refine ⟨rfl, rfl, ?_, ?_, Nat.le_refl _, Nat.le_refl _⟩
  · show PyData.showable (.int i) = true
    simp only [PyData.showable, decide_eq_true_eq]
    exact h1
  · show PyData.leavesShort 1921 (.int i) = true
    simp only [PyData.leavesShort, decide_eq_true_eq]
    exact PyProof.Rows.int_text_len_1921 h1
theorem nices {n b : Nat} : ∀ {ds : List Dt}, (∀ d ∈ ds, Nice n b d) → pures ds = true ∧ PyData.canLayAll0 (pys ds) = true ∧ PyData.showableAll (pys ds) = true ∧ PyData.leavesShortAll 1921 (pys ds) = true ∧ PyData.depthAll (pys ds) ≤ n ∧ PyData.bulkAll (pys ds) ≤ ds.length * (b + 1)
  | [], _ => ⟨rfl, rfl, rfl, rfl, Nat.zero_le _, Nat.zero_le _⟩
  | d :: ds, h => by
    obtain ⟨h1, h2, h3, h4, h5, h6⟩ := nices (ds := ds) fun e he => h e (List.mem_cons_of_mem _ he)
    have q := h d (List.mem_cons_self ..)
    refine ⟨?_, ?_, ?_, ?_, ?_, ?_⟩
    · simp only [pures, q.pu, h1, Bool.and_self]
    · simp only [pys, PyData.canLayAll0, q.lay, h2, Bool.and_self]
    · simp only [pys, PyData.showableAll, q.sh, h3, Bool.and_self]
    · simp only [pys, PyData.leavesShortAll, q.lv, h4, Bool.and_self]
    · simp only [pys, PyData.depthAll]
      exact Nat.max_le.mpr ⟨q.dp, h5⟩
    · simp only [pys, PyData.bulkAll, List.length_cons]
      have := q.bk
      have e : (ds.length + 1) * (b + 1) = ds.length * (b + 1) + (b + 1) := by rw [Nat.succ_mul]
      omega
theorem nice_lst {n b : Nat} {ds : List Dt} (h : ∀ d ∈ ds, Nice n b d) : Nice (n + 1) (ds.length * (b + 1)) (.lst ds) := by
  obtain ⟨h1, h2, h3, h4, h5, h6⟩ := nices h
  refine ⟨?_, ?_, ?_, ?_, ?_, ?_⟩
  · simp only [Dt.pure]; exact h1
  · simp only [Dt.py, PyData.canLay0]; exact h2
  · simp only [Dt.py, PyData.showable]; exact h3
  · simp only [Dt.py, PyData.leavesShort]; exact h4
  · simp only [Dt.py, PyData.depth]; omega
  · simp only [Dt.py, PyData.bulk]; exact h6
theorem nice_tup {n b : Nat} {ds : List Dt} (h : ∀ d ∈ ds, Nice n b d) : Nice (n + 1) (ds.length * (b + 1)) (.tup ds) := by
  obtain ⟨h1, h2, h3, h4, h5, h6⟩ := nices h
  refine ⟨?_, ?_, ?_, ?_, ?_, ?_⟩
  · simp only [Dt.pure]; exact h1
  · simp only [Dt.py, PyData.canLay0]; exact h2
  · simp only [Dt.py, PyData.showable]; exact h3
  · simp only [Dt.py, PyData.leavesShort]; exact h4
  · simp only [Dt.py, PyData.depth]; omega
  · simp only [Dt.py, PyData.bulk]; exact h6
/-! == and != of data -/
def eD (d e : Dt) : Bool := PyData.eqv d.py e.py
def oEqD (neg : Bool) (d e : Dt) (Φ : Dt → Prop) : Prop := (d.pure = true ∧ e.pure = true ∧ SeqAt.shaped d.py = true ∧ SeqAt.shaped e.py = true) ∧ Φ (.bl (if neg then !eD d e else eD d e))
instance so_eqD : So K (rEqD K) (oEqD false) where
  run B C H σ ρ x y dx dy Q Φ S hx hy h k := by
    obtain ⟨⟨h1, h2, h3, h4⟩, z⟩ := h
    exact ⟨_, _, hx.dp S h1, hy.dp S h2, h3, h4, k _ _ _ _ S (Same.refl _) (.bl _) z⟩
/-! is None -/
def rIsNone : R2 := fun x y H Q => y = .non ∧ Q (.bl (decide (x = .non))) H
def rNotNone : R2 := fun x y H Q => y = .non ∧ Q (.bl (!decide (x = .non))) H
def isNon : Dt → Bool
  | .non => true
  | _ => false
def oIsN (neg : Bool) (d e : Dt) (Φ : Dt → Prop) : Prop := e = .non ∧ Φ (.bl (if neg then !isNon d else isNon d))
theorem isNon_ok {C H : Hp} {x : V} {d : Dt} (h : Rt K C H x d) : decide (x = V.non) = isNon d := by
  rcases h with h | ⟨a, vs, ds, rfl, rfl, _⟩
  · cases h <;> rfl
  · rfl
instance so_isN : So K rIsNone (oIsN false) where
  run B C H σ ρ x y dx dy Q Φ S hx hy h k := by
    obtain ⟨rfl, z⟩ := h
    exact ⟨hy.non, by rw [isNon_ok hx]; exact k _ _ _ _ S (Same.refl _) (.bl _) z⟩
instance so_notN : So K rNotNone (oIsN true) where
  run B C H σ ρ x y dx dy Q Φ S hx hy h k := by
    obtain ⟨rfl, z⟩ := h
    exact ⟨hy.non, by rw [isNon_ok hx]; exact k _ _ _ _ S (Same.refl _) (.bl _) z⟩
/-! lists made of two -/
def oCat : Dt → Dt → (List Dt → Prop) → Prop
  | .lst ds, .lst es, Φ => ds.length + es.length ≤ sizeLine ∧ Φ (ds ++ es)
  | _, _, _ => False
instance sno_cat : Sno K rCat oCat where
  run B C H σ ρ x y dx dy Q Φ S hx hy h k := by
    cases dx <;> cases dy <;> try exact False.elim h
    obtain ⟨a, vs, rfl, ha, ra⟩ := hx.list' S
    obtain ⟨b, ws, rfl, hb, rb⟩ := hy.list' S
    exact ⟨a, b, vs, ws, rfl, rfl, ha, hb, by rw [ra.len, rb.len]; exact h.1, fun p hp => k _ _ _ _ (S.allocN hp) (Same.refl _) (S.frN hp (ra.append rb)) h.2⟩
/-! slices -/
def cutD (ds : List Dt) (lo hi : Option Int) : List Dt := (ds.drop (HT.sIx ds.length 0 lo)).take (HT.sIx ds.length ds.length hi - HT.sIx ds.length 0 lo)
theorem RpL.cut {C : Hp} {vs : List V} {ds : List Dt} (r : RpL K C vs ds) (lo hi : Option Int) : RpL K C (cutV vs lo hi) (cutD ds lo hi) := by
  unfold cutV cutD
  rw [r.len]
  exact (r.drop _).take _
abbrev WO := List Sl → (Option Int → List Sl → Prop) → Prop
class Sop (K : PySem.W.Frag) (t : TO) (w : outParam WO) : Prop where
  run : ∀ (B : Bs) (C H : Hp) (σ : L2.St) (ρ : List Sl) (Q : Option Int → Hp → Prop) (Ψ : Option Int → List Sl → Prop), Sep K B C H σ ρ → w ρ Ψ → (∀ C' G o ρ', Sep K B C' G σ ρ' → Same C C' → Ψ o ρ' → Q o G) → t σ H Q
instance sop_no : Sop K tNoPart (fun ρ Ψ => Ψ none ρ) where
  run B C H σ ρ Q Ψ S h k := k _ _ _ _ S (Same.refl _) h
def isInt (r : Rs) (k : Int → Prop) : Prop := match r with
  | .dat (.int i) => k i
  | _ => False
theorem isInt_run {C : Hp} {σ : L2.St} {ρ : List Sl} {v : V} {r : Rs} {k : Int → Prop} (ok : RsOk K C σ ρ v r) (h : isInt r k) : ∃ i, v = .int i ∧ k i := by
  cases r with
  | dat d =>
    cases d <;> try exact False.elim h
    cases ok
    exact ⟨_, rfl, h⟩
  | hot i ds => exact False.elim h
  | box i n => exact False.elim h
instance sop_part {t : TE} {w : WE} [a : Sd K t w] : Sop K (tPart t) (fun ρ Ψ => w ρ fun r ρ1 => isInt r fun i => Ψ (some i) ρ1) where
  run B C H σ ρ Q Ψ S h k := a.run B C H σ ρ _ _ S h fun C1 H1 v1 r1 ρ1 S1 s1 ok1 h1 => by
    obtain ⟨i, rfl, z⟩ := isInt_run ok1 h1
    exact ⟨i, rfl, k _ _ _ _ S1 s1 z⟩
def wSlL (w : WE) (wl wh : WO) : WN := fun ρ Ψ => w ρ fun r ρ1 => wl ρ1 fun lo ρ2 => wh ρ2 fun hi ρ3 => match r.val ρ3 with
  | some (.lst ds) => Ψ (cutD ds lo hi) ρ3
  | _ => False
instance sn_slL {te : TE} {tl th : TO} {w : WE} {wl wh : WO} [a : Sd K te w] [b : Sop K tl wl] [c : Sop K th wh] : Sn K (tSl (rSlL K) te tl th) (wSlL w wl wh) where
  run B C H σ ρ Q Ψ S h k := by
    refine a.run B C H σ ρ _ _ S h fun C1 H1 v1 r1 ρ1 S1 s1 ok1 h1 => ?_
    refine b.run B C1 H1 σ ρ1 _ _ S1 h1 fun C2 H2 lo ρ2 S2 s2 h2 => ?_
    refine c.run B C2 H2 σ ρ2 _ _ S2 h2 fun C3 H3 hi ρ3 S3 s3 h3 => ?_
    cases q : r1.val ρ3 with
    | none => simp only [q] at h3
    | some d =>
      simp only [q] at h3
      cases d <;> try exact False.elim h3
      obtain ⟨x, vs, rfl, ha, ra⟩ := (S3.valOf ok1 (s2.trans s3) q).list' S3
      exact ⟨x, vs, rfl, SqL.of ha, fun p hp => k _ _ _ _ _ (S3.allocN hp) (s1.trans (s2.trans s3)) (S3.frN hp (ra.cut lo hi)) h3⟩
/-! builtins of one thing -/
class Sb1 (K : PySem.W.Frag) (r : List V → Hp → VK → Prop) (f : outParam (Dt → (Dt → Prop) → Prop)) : Prop where
  run : ∀ (B : Bs) (C H : Hp) (σ : L2.St) (ρ : List Sl) (v : V) (d : Dt) (Q : VK) (Φ : Dt → Prop), Sep K B C H σ ρ → Rt K C H v d → f d Φ → (∀ C' G v d, Sep K B C' G σ ρ → Same C C' → Rp K C' v d → Φ d → Q v G) → r [v] H Q
def wCB1 (f : Dt → (Dt → Prop) → Prop) (wa : WE) : WE := fun ρ Ψ => wa ρ fun r ρ1 => match r.val ρ1 with
  | some d => f d fun e => Ψ (.dat e) ρ1
  | none => False
instance sd_cb1 {r : List V → Hp → VK → Prop} {f : Dt → (Dt → Prop) → Prop} {ta : TE} {wa : WE} [b : Sb1 K r f] [a : Sd K ta wa] : Sd K (tCB r (tCons ta tNil)) (wCB1 f wa) where
  run B C H σ ρ Q Ψ S h k := a.run B C H σ ρ _ _ S h fun C1 H1 v1 r1 ρ1 S1 s1 ok1 h1 => by
    cases q : r1.val ρ1 with
    | none => simp only [q] at h1
    | some d =>
      simp only [q] at h1
      exact b.run B C1 H1 σ ρ1 _ _ _ _ S1 (S1.valOf ok1 (Same.refl _) q) h1 fun C2 H2 v d S2 s2 r2 z => k _ _ _ (.dat d) _ S2 (s1.trans s2) r2 z
class Sb1n (K : PySem.W.Frag) (r : List V → Hp → VK → Prop) (f : outParam (Dt → (List Dt → Prop) → Prop)) : Prop where
  run : ∀ (B : Bs) (C H : Hp) (σ : L2.St) (ρ : List Sl) (v : V) (d : Dt) (Q : VK) (Φ : List Dt → Prop), Sep K B C H σ ρ → Rt K C H v d → f d Φ → (∀ C' G a ds, Sep K B C' G σ ρ → Same C C' → Fr K B C' G σ ρ a ds → Φ ds → Q (.ref a) G) → r [v] H Q
def wCB1n (f : Dt → (List Dt → Prop) → Prop) (wa : WE) : WN := fun ρ Ψ => wa ρ fun r ρ1 => match r.val ρ1 with
  | some d => f d fun e => Ψ e ρ1
  | none => False
instance sn_cb1 {r : List V → Hp → VK → Prop} {f : Dt → (List Dt → Prop) → Prop} {ta : TE} {wa : WE} [b : Sb1n K r f] [a : Sd K ta wa] : Sn K (tCB r (tCons ta tNil)) (wCB1n f wa) where
  run B C H σ ρ Q Ψ S h k := a.run B C H σ ρ _ _ S h fun C1 H1 v1 r1 ρ1 S1 s1 ok1 h1 => by
    cases q : r1.val ρ1 with
    | none => simp only [q] at h1
    | some d =>
      simp only [q] at h1
      exact b.run B C1 H1 σ ρ1 _ _ _ _ S1 (S1.valOf ok1 (Same.refl _) q) h1 fun C2 H2 a ds S2 s2 f2 z => k _ _ _ _ _ S2 (s1.trans s2) f2 z
def fLen : Dt → (Dt → Prop) → Prop
  | .lst ds, Φ => Φ (.int ds.length)
  | .tup ds, Φ => Φ (.int ds.length)
  | .scr ns, Φ => Φ (.int ns.length)
  | .str x, Φ => x.length ≤ sizeLine ∧ Φ (.int x.length)
  | _, _ => False
instance sb_len : Sb1 K (rLen K) fLen where
  run B C H σ ρ v d Q Φ S hv h k := by
    cases d <;> try exact False.elim h
    · cases hv.str
      exact ⟨_, _, rfl, ⟨h.1, rfl⟩, k _ _ _ _ S (Same.refl _) (.int _) h.2⟩
    · obtain ⟨a, vs, rfl, ha, ra⟩ := hv.list' S
      exact ⟨_, _, rfl, .inl ⟨vs, SqL.of ha, rfl⟩, by rw [ra.len]; exact k _ _ _ _ S (Same.refl _) (.int _) h⟩
    · obtain ⟨a, vs, rfl, ha, ra⟩ := hv.tup' S
      exact ⟨_, _, rfl, .inr ⟨vs, ha, rfl⟩, by rw [ra.len]; exact k _ _ _ _ S (Same.refl _) (.int _) h⟩
    · rcases hv with hv | ⟨_, _, _, _, e, _⟩
      · cases hv with
        | scr a => exact ⟨_, _, rfl, .inl ⟨_, S.cold.seq a, by rw [List.length_map]⟩, k _ _ _ _ S (Same.refl _) (.int _) h⟩
      · cases e
def cInt1 : List V → Hp → VK → Prop := fun xs H Q => (∃ i, xs = [.int i] ∧ Q (.int i) H) ∨ ∃ k, xs = [.bl k] ∧ Q (.int (if k then 1 else 0)) H
def fInt : Dt → (Dt → Prop) → Prop
  | .int i, Φ => Φ (.int i)
  | .bl b, Φ => Φ (.int (if b then 1 else 0))
  | _, _ => False
instance sb_int1 : Sb1 K cInt1 fInt where
  run B C H σ ρ v d Q Φ S hv h k := by
    cases d <;> try exact False.elim h
    · cases hv.bl
      exact .inr ⟨_, rfl, k _ _ _ _ S (Same.refl _) (.int _) h⟩
    · cases hv.int
      exact .inl ⟨_, rfl, k _ _ _ _ S (Same.refl _) (.int _) h⟩
def cMin2 : List V → Hp → VK → Prop := fun xs H Q => ∃ i j, xs = [.int i, .int j] ∧ Q (.int (if j < i then j else i)) H
def fMin : List Dt → (Dt → Prop) → Prop
  | [.int i, .int j], Φ => Φ (.int (if j < i then j else i))
  | _, _ => False
theorem two_ints {C : Hp} {vs : List V} {i j : Int} (h : RpL K C vs [.int i, .int j]) : vs = [.int i, .int j] := by
  match h with
  | .cons a (.cons b .nil) =>
    cases a
    cases b
    rfl
instance sb_min : Sb K cMin2 fMin where
  run B C H σ ρ vs ds Q Φ S r h k := by
    unfold fMin at h
    split at h
    · exact ⟨_, _, two_ints r, k _ _ _ _ S (Same.refl _) (.int _) h⟩
    · exact h.elim
/-- bools -/
def bls : List Dt → Option (List Bool)
  | [] => some []
  | .bl b :: ds => match bls ds with
    | some bs => some (b :: bs)
    | none => none
  | _ :: _ => none
theorem bls_ok {C : Hp} : ∀ {vs : List V} {ds : List Dt} {bs : List Bool}, RpL K C vs ds → bls ds = some bs → vs = bs.map V.bl
  | _, _, bs, .nil, e => by cases e; rfl
  | _, .bl b :: ds, bs, .cons h t, e => by
    cases h
    unfold bls at e
    cases q : bls ds with
    | none => rw [q] at e; cases e
    | some cs =>
      rw [q] at e
      cases e
      rw [bls_ok t q]
      rfl
  | _, .non :: ds, bs, .cons h t, e => by cases e
  | _, .int _ :: ds, bs, .cons h t, e => by cases e
  | _, .str _ :: ds, bs, .cons h t, e => by cases e
  | _, .lst _ :: ds, bs, .cons h t, e => by cases e
  | _, .tup _ :: ds, bs, .cons h t, e => by cases e
  | _, .obj _ _ _ :: ds, bs, .cons h t, e => by cases e
  | _, .err _ _ :: ds, bs, .cons h t, e => by cases e
  | _, .scr _ :: ds, bs, .cons h t, e => by cases e
def fAll : Dt → (Dt → Prop) → Prop
  | .lst ds, Φ => ∃ bs, bls ds = some bs ∧ Φ (.bl (bs.all id))
  | _, _ => False
instance sb_all : Sb1 K (rAll K) fAll where
  run B C H σ ρ v d Q Φ S hv h k := by
    cases d <;> try exact False.elim h
    obtain ⟨bs, e, z⟩ := h
    obtain ⟨a, vs, rfl, ha, ra⟩ := hv.list' S
    exact ⟨a, bs, rfl, by rw [← bls_ok ra e]; exact SqL.of ha, k _ _ _ _ S (Same.refl _) (.bl _) z⟩
def cList (K : PySem.W.Frag) : List V → Hp → VK → Prop := fun xs H Q => ∃ p ys, xs = [.ref p] ∧ (SqL K H p ys ∨ SqT K H p ys) ∧ ∀ l, H l = none → Q (.ref l) (upd H l (.lst ys))
def fList : Dt → (List Dt → Prop) → Prop
  | .lst ds, Φ => Φ ds
  | .tup ds, Φ => Φ ds
  | _, _ => False
instance sb_list : Sb1n K (cList K) fList where
  run B C H σ ρ v d Q Φ S hv h k := by
    cases d <;> try exact False.elim h
    · obtain ⟨a, vs, rfl, ha, ra⟩ := hv.list' S
      exact ⟨a, vs, rfl, .inl (SqL.of ha), fun p hp => k _ _ _ _ (S.allocN hp) (Same.refl _) (S.frN hp ra) h⟩
    · obtain ⟨a, vs, rfl, ha, ra⟩ := hv.tup' S
      exact ⟨a, vs, rfl, .inr ha, fun p hp => k _ _ _ _ (S.allocN hp) (Same.refl _) (S.frN hp ra) h⟩
def cTuple (K : PySem.W.Frag) : List V → Hp → VK → Prop := fun xs H Q => ∃ p ys, xs = [.ref p] ∧ ((SqL K H p ys ∧ ∀ l, H l = none → Q (.ref l) (upd H l (.tup ys))) ∨ (SqT K H p ys ∧ Q (.ref p) H))
def fTuple : Dt → (Dt → Prop) → Prop
  | .lst ds, Φ => Φ (.tup ds)
  | .tup ds, Φ => Φ (.tup ds)
  | _, _ => False
instance sb_tuple : Sb1 K (cTuple K) fTuple where
  run B C H σ ρ v d Q Φ S hv h k := by
    cases d <;> try exact False.elim h
    · obtain ⟨a, vs, rfl, ha, ra⟩ := hv.list' S
      refine ⟨a, vs, rfl, .inl ⟨SqL.of ha, fun p hp => ?_⟩⟩
      have sC : Same C (upd C p (.tup vs)) := same_new (S.cold.free hp)
      exact k _ _ _ _ (S.alloc hp) sC (.tup (.inl (.inl upd_same)) (ra.same sC)) h
    · rcases hv with hv | ⟨_, _, _, _, e, _⟩
      · cases hv with
        | tup a b => exact ⟨_, _, rfl, .inr ⟨seqT_same S.cold a, k _ _ _ _ S (Same.refl _) (.tup a b) h⟩⟩
      · cases e
/-! methods of a list that may be changed -/
def isD (a : Ar) (k : Dt → Prop) : Prop := match a with
  | .d x => k x
  | .b _ => False
/-! the drawer -/
theorem Sep.boxed {B : Bs} {C H G : Hp} {σ : L2.St} {ρ : List Sl} (S : Sep K B C H σ ρ) {i : Nat} {p : Addr} {n m : Int} (hi : ρ[i]? = some (.box n)) (ei : σ[i]? = some (some (V.ref p))) (b : But p H G) (hb : Box G p m) : Sep K B C G σ (ρ.set i (.box m)) := by
  have cp := (S.mutH hi rfl ei).1
  have kp : ∀ a o, H a = some o → a ≠ p → G a = some o := b
  have back : ∀ {j : Nat} {t : Sl}, (ρ.set i (.box m))[j]? = some t → t.mut = true → ∃ t', ρ[j]? = some t' ∧ t'.mut = true := fun {j t} z y => by
    rcases get_set z with ⟨rfl, rfl, l⟩ | ⟨_, z⟩
    · exact ⟨_, hi, rfl⟩
    · exact ⟨t, z, y⟩
  refine ⟨fun a o q => kp a o (S.cold _ _ q) fun z => (by rw [z, cp] at q; cases q), by rw [List.length_set]; exact S.len, fun j s h => ?_, fun j k a t u q h1 h2 m1 m2 e1 e2 => ?_, S.grow, S.new, fun a h => ?_, fun a o h n => kp a o (S.keep a o h n) fun z => ?_, fun j a ds h e => ?_, fun j a n h e => ?_, fun j a h => ?_, S.pz⟩
  · rcases get_set h with ⟨rfl, rfl, l⟩ | ⟨nj, h⟩
    · exact ⟨p, ei, hb, cp⟩
    · have q := S.sl j s h
      cases s with
      | un => trivial
      | dat d => exact q
      | hot ds =>
        obtain ⟨a, vs, e, ha, r, ca⟩ := q
        exact ⟨a, vs, e, kp _ _ ha (fun z => S.ne i j p _ _ nj hi h rfl rfl ei (z ▸ e)), r, ca⟩
      | box n =>
        obtain ⟨a, e, ⟨x, y, z, ha, hh⟩, ca⟩ := q
        have na : a ≠ p := fun z => S.ne i j p _ _ nj hi h rfl rfl ei (z ▸ e)
        exact ⟨a, e, ⟨x, y, z, kp _ _ ha na, hh⟩, ca⟩
  · obtain ⟨t', h1, m1⟩ := back h1 m1
    obtain ⟨u', h2, m2⟩ := back h2 m2
    exact S.ne j k a t' u' q h1 h2 m1 m2 e1 e2
  · have q := S.dom a h
    by_cases z : a = p
    · obtain ⟨x, y, w, hh, _⟩ := hb
      rw [z, hh]
      exact fun z => nomatch z
    · cases e : H a with
      | none => exact absurd e q
      | some o =>
        rw [kp a o e z]
        exact fun z => nomatch z
  · subst z
    rcases S.lob i a _ hi ei with q | q
    · rw [h] at q
      cases q
    · exact n i q
  · rcases get_set h with ⟨rfl, z, l⟩ | ⟨nj, h⟩
    · cases z
    · exact S.loc j a ds h e
  · rcases get_set h with ⟨rfl, z, l⟩ | ⟨nj, h⟩
    · exact S.lob i a _ hi e
    · exact S.lob j a n h e
  · obtain ⟨h1, n', h2⟩ := S.par j a h
    by_cases z : i = j
    · subst z
      refine ⟨h1, m, set_at ?_⟩
      cases Nat.lt_or_ge i ρ.length with
      | inl h => exact h
      | inr g => rw [List.getElem?_eq_none g] at hi; cases hi
    · exact ⟨h1, n', by rw [set_off z]; exact h2⟩
def wTake : WF := fun ps Ψ => match ps with
  | [.box n, .dat (.int m)] => (n < 1000000000 ∧ 0 < m ∧ m < 340282366920938463463374607431768211456) ∧ ∀ r : Int, 0 ≤ r → r < m → Ψ (.dat (.int r)) [.box (n + 1), .dat (.int m)]
  | _ => False
theorem take_imp {vs : List V} {H : Hp} {Q : VK} {E : XK} (h : spD K 2 wTake vs H Q E) : spLTake vs H Q E := by
  obtain ⟨hl, C, bx, ps, Ψ, S, hw, k⟩ := h
  unfold wTake at hw
  split at hw
  · rename_i n m
    obtain ⟨⟨h1, h2, h3⟩, hw⟩ := hw
    match vs, hl with
    | [a, b], _ =>
      obtain ⟨p, e, hb, _⟩ := S.sl 0 _ rfl
      obtain ⟨v, e2, r⟩ := S.sl 1 _ rfl
      cases (Option.some.inj (Option.some.inj e))
      cases (Option.some.inj (Option.some.inj e2))
      cases r
      exact ⟨p, m, n, rfl, hb, by omega, h2, h3, fun r G bt bG r0 r1 => k C G (.int r) (.dat (.int r)) _ (S.boxed (i := 0) rfl rfl bt bG) (.int r) (hw r r0 r1)⟩
  · exact hw.elim
/-! the law -/
def spLawD (K : PySem.W.Frag) : Sp := spD K 1 fun ps Ψ => match ps with
  | [.dat (.scr ns)] => ns.length ≤ 63 ∧ Ψ (.dat (.bl true)) ps
  | _ => False
theorem law_imp {H : Hp} {a : Addr} {ns : List Int} (hl : ns.length ≤ 63) (h : SqL K H a (ns.map V.int)) : spLawD K [.ref a] H (fun v _ => v = .bl true) fun _ _ _ => False := by
  refine ⟨rfl, H, none, [.dat (.scr ns)], fun r _ => r = .dat (.bl true), ⟨Same.refl _, rfl, fun i s e => ?_, fun i j a s t n h1 h2 m1 m2 e1 e2 => ?_, Same.refl _, fun a o e n => (by rw [show H a = none from n] at e; cases e), fun a h => h, fun a o h n => h, fun i a ds h e => ?_, fun i a n h e => ?_, fun i a h => (nomatch h), fun i a h => (nomatch h)⟩, ⟨hl, rfl⟩, fun C' G v r ps' S' ok e => ?_⟩
  · match i, e with
    | 0, e =>
      cases e
      exact ⟨_, rfl, .scr h⟩
    | i + 1, e => simp at e
  · match i, h1 with
    | 0, h1 => cases h1; cases m1
    | i + 1, h1 => simp at h1
  · match i, h with
    | 0, h => cases h
    | i + 1, h => simp at h
  · match i, h with
    | 0, h => cases h
    | i + 1, h => simp at h
  · subst e
    cases ok
    rfl

end
section
variable {P : Program} {w : World} {K : PySem.W.Frag} {mg : Str → Option Value} {base : Heap}
local macro_rules | `(tactic| get_elem_tactic_trivial) => `(tactic| (repeat first | exact Wk.nil | exact Wk'.nil | refine Wk.same ?_ | refine Wk'.same ?_ | refine Wk.un (fun _ z => nomatch z) ?_ | refine Wk'.un ?_))
/-! subscripts of lists, tuples, texts -/
def oIx : Dt → Dt → (Dt → Prop) → Prop
  | .lst ds, .int i, Φ => ∃ d, atI ds i = some d ∧ Φ d
  | .tup ds, .int i, Φ => ∃ d, atI ds i = some d ∧ Φ d
  | .str z, .int i, Φ => z.length ≤ sizeLine ∧ ∃ c, atI z.cps.toList i = some c ∧ Φ (.str ⟨#[c]⟩)
  | _, _, _ => False
instance so_ix : So K (rIx K) oIx where
  run B C H σ ρ x y dx dy Q Φ S hx hy h k := by
    cases dx <;> cases dy <;> try exact False.elim h
    · obtain ⟨z, c, e, q⟩ := h
      exact .inr (.inr ⟨_, _, c, hx.str, hy.int, z, e, k _ _ _ _ S (Same.refl _) (.str _) q⟩)
    · exact .inl (so_ixL.run B C H σ ρ _ _ _ _ Q Φ S hx hy h k)
    · exact .inr (.inl (so_ixT.run B C H σ ρ _ _ _ _ Q Φ S hx hy h k))
/-! what a for walks -/
section
variable {X : Cx} {tg e : Expr} {te : TE}
def iAny (K : PySem.W.Frag) (te : TE) : TI := fun σ H R => te σ H fun x H1 => ∃ a, x = .ref a ∧ (((∃ xs, SqL K H1 a xs) ∧ R (Itl K a) H1) ∨ ((∃ xs, SqT K H1 a xs) ∧ R (Itt K a) H1))
theorem piAny (hk : X.K = K) (he : PE X e te) : PI X tg e (iAny K te) := by
  subst hk
  constructor
  intro pins s σ H R I h
  apply thn (he.run pins s σ H _ I h)
  rintro v s1 ⟨x, H1, I1, r1, a, rfl, q⟩
  cases r1
  have fresh : ∀ b ∈ [s1.heap.objs.size], FpOk X pins H1 b := by
    intro b hb
    rw [List.mem_singleton.mp hb]
    exact I1.fpOk (Nat.le_refl _) (I1.hok.fresh (Nat.le_refl _))
  rcases q with ⟨⟨xs, hq⟩, q⟩ | ⟨⟨xs, hq⟩, q⟩
  · obtain ⟨its, _, pl, _⟩ := I1.list hq
    apply wpAny_pyIter_list pl.isList
    exact ⟨_, _, _, _, H1, rfl, I1.kept (t' := s1.toks) fun b o z => Heap.get?_push_of_some _ z, turn_list a _, ⟨_, Heap.get?_push_size _ rfl, rfl, rfl⟩, fresh, q⟩
  · obtain ⟨its, _, pl, _⟩ := I1.tuple hq
    apply wpAny_pyIter_tuple (show s1.heap.IsTuple a its.toArray from pl)
    exact ⟨_, _, _, _, H1, rfl, I1.kept (t' := s1.toks) fun b o z => Heap.get?_push_of_some _ z, turn_tuple a _, ⟨_, Heap.get?_push_size _ rfl, rfl, rfl⟩, fresh, q⟩
end
def seqOf (a : Ar) (k : List Dt → Prop) : Prop := match a with
  | .d (.lst ds) => k ds
  | .d (.tup ds) => k ds
  | _ => False
def wiAny (w : WE) : WI := fun ρ Ψ => w ρ fun r ρ1 => store r ρ1 fun a ρ2 => seqOf a fun ds => Ψ ds ρ2
theorem itd_list {C : Hp} {a : Addr} {xs : List V} {ds : List Dt} (hs : C a = some (.lst xs)) (rl : RpL K C xs ds) : ItD K (Itl K a) C ds := fun B3 C3 H3 σ3 ρ3 S3 s3 => by
  have q : SqL K H3 a xs := SqL.of (S3.cold _ _ (s3 _ _ hs))
  have lq := rl.len
  refine ⟨fun i hi => ⟨xs, xs[i], q, by simp [lq, hi]⟩, ⟨xs, q, by omega⟩, fun i y H' d hd yl => ?_⟩
  obtain ⟨rfl, yl⟩ := yl
  obtain ⟨d', hd', r'⟩ := rl.at (yl xs q)
  rw [hd] at hd'
  cases hd'
  exact ⟨C3, S3, Same.refl _, r'.same s3⟩
theorem itd_tup {C : Hp} {a : Addr} {xs : List V} {ds : List Dt} (hs : SqT K C a xs) (rl : RpL K C xs ds) : ItD K (Itt K a) C ds := fun B3 C3 H3 σ3 ρ3 S3 s3 => by
  have q := seqT_same S3.cold (seqT_same s3 hs)
  have lq := rl.len
  refine ⟨fun i hi => ⟨xs, xs[i], q, by simp [lq, hi]⟩, ⟨xs, q, by omega⟩, fun i y H' d hd yl => ?_⟩
  obtain ⟨rfl, yl⟩ := yl
  obtain ⟨d', hd', r'⟩ := rl.at (yl xs q)
  rw [hd] at hd'
  cases hd'
  exact ⟨C3, S3, Same.refl _, r'.same s3⟩
instance si_any {te : TE} {w : WE} [a : Sd K te w] : Si K (iAny K te) (wiAny w) where
  run B C H σ ρ R Ψ S h k := a.run B C H σ ρ _ _ S h fun C1 H1 v1 r1 ρ1 S1 s1 ok1 h1 => by
    obtain ⟨C2, x, ρ2, S2, s2, ok2, h2⟩ := S1.stored ok1 h1
    cases x with
    | b i => exact False.elim h2
    | d x =>
      cases x <;> try exact False.elim h2
      · cases ok2 with
        | lst hs rl => exact ⟨_, rfl, .inl ⟨⟨_, SqL.of (S2.cold _ _ hs)⟩, k _ _ _ _ _ S2 (s1.trans s2) (itd_list hs rl) h2⟩⟩
      · cases ok2 with
        | tup hs rl => exact ⟨_, rfl, .inr ⟨⟨_, seqT_same S2.cold hs⟩, k _ _ _ _ _ S2 (s1.trans s2) (itd_tup hs rl) h2⟩⟩
/-! == and != of all kinds -/
def rEqA (K : PySem.W.Frag) : R2 := fun x y H Q => rEq x y H Q ∨ rEqD K x y H Q
section
variable {X : Cx}
theorem opEqA (hk : X.K = K) (hu : X.A.units + 64 < cLine) : OpR X (compareOp .Eq) (rEqA K) := by
  subst hk
  exact op_eq.or (op_eqD hu)
end
def oEqA (neg : Bool) : Dt → Dt → (Dt → Prop) → Prop
  | .int i, .int j, Φ => Φ (.bl (if neg then !decide (i = j) else decide (i = j)))
  | .str i, .str j, Φ => Φ (.bl (if neg then !decide (i = j) else decide (i = j)))
  | .bl i, .bl j, Φ => Φ (.bl (if neg then !decide (i = j) else decide (i = j)))
  | d, e, Φ => oEqD neg d e Φ
theorem dec_V {α : Type} [DecidableEq α] {f : α → V} (inj : ∀ {a b : α}, f a = f b → a = b) (i j : α) : decide (f i = f j) = decide (i = j) := by
  by_cases h : i = j
  · rw [h, decide_eq_true rfl, decide_eq_true rfl]
  · rw [decide_eq_false h, decide_eq_false fun z => h (inj z)]
instance so_EqA : So K (rEqA K) (oEqA false) where
  run B C H σ ρ x y dx dy Q Φ S hx hy h k := by
    cases dx <;> cases dy <;> first
      | exact .inr (so_eqD.run B C H σ ρ _ _ _ _ Q Φ S hx hy h k)
      | (cases hx.int; cases hy.int; exact .inl ⟨rfl, by rw [dec_V (f := V.int) V.int.inj]; exact k _ _ _ _ S (Same.refl _) (.bl _) h⟩)
      | (cases hx.str; cases hy.str; exact .inl ⟨rfl, by rw [dec_V (f := V.str) V.str.inj]; exact k _ _ _ _ S (Same.refl _) (.bl _) h⟩)
      | (cases hx.bl; cases hy.bl; exact .inl ⟨rfl, by rw [dec_V (f := V.bl) V.bl.inj]; exact k _ _ _ _ S (Same.refl _) (.bl _) h⟩)
/-! calls by keywords -/
def gP (is : List Nat) {α : Type} (us ws : List α) : List α := is.filterMap fun i => (us ++ ws)[i]?
theorem gP_vals (is : List Nat) {vs zs : List V} {us ws : List Value} (h1 : Vals vs us) (h2 : Vals zs ws) : Vals (gP is vs zs) (gP is us ws) := by
  have h := h1.append h2
  unfold gP
  induction is with
  | nil => exact .nil
  | cons i is ih =>
    rw [List.filterMap_cons, List.filterMap_cons]
    cases q : (vs ++ zs)[i]? with
    | none =>
      rw [h.none_of q]
      exact ih
    | some v =>
      obtain ⟨u, e, r⟩ := h.get q
      rw [e]
      exact .cons r ih
theorem ArL.ofRp {C : Hp} {σ : L2.St} : ∀ {vs : List V} {ds : List Dt}, RpL K C vs ds → ArL K C σ vs (ds.map .d)
  | _, _, .nil => .nil
  | _, _, .cons h t => .cons h (ArL.ofRp t)

end
section
variable {P : Program} {w : World} {K : PySem.W.Frag} {mg : Str → Option Value} {base : Heap}
local macro_rules | `(tactic| get_elem_tactic_trivial) => `(tactic| (repeat first | exact Wk.nil | exact Wk'.nil | refine Wk.same ?_ | refine Wk'.same ?_ | refine Wk.un (fun _ z => nomatch z) ?_ | refine Wk'.un ?_))
/-! words for reading -/
theorem ifF {b : Bool} {p q : Prop} (h : b = false) (hq : q) : if b = true then p else q := by rw [h, if_neg Bool.false_ne_true]; exact hq
theorem ifT {b : Bool} {p q : Prop} (h : b = true) (hp : p) : if b = true then p else q := by rw [h, if_pos rfl]; exact hp
theorem atD {α : Type} {xs : List α} {r : Int} (h0 : 0 ≤ r) (h1 : r < xs.length) : ∃ v, atI xs r = some v ∧ v ∈ xs := by
  obtain ⟨j, rfl⟩ : ∃ j : Nat, r = (j : Int) := ⟨r.toNat, by omega⟩
  have hj : j < xs.length := by omega
  exact ⟨xs[j], atI_nat (List.getElem?_eq_getElem hj), List.getElem_mem hj⟩
theorem cut_take {ds : List Dt} {i : Int} (h0 : 0 ≤ i) : cutD ds none (some i) = ds.take i.toNat := by
  unfold cutD
  show (ds.drop 0).take (HT.sIx ds.length ds.length (some i) - 0) = _
  rw [List.drop_zero, Nat.sub_zero]
  show ds.take (if i < 0 then (i + (ds.length : Int)).toNat else min i.toNat ds.length) = _
  rw [if_neg (by omega)]
  by_cases h : i.toNat ≤ ds.length
  · rw [Nat.min_eq_left h]
  · rw [Nat.min_eq_right (by omega), List.take_length, List.take_of_length_le (by omega)]
theorem eqSame {α : Type} [DecidableEq α] {x y : α} (h : x = y) : (if false = true then !decide (x = y) else decide (x = y)) = true := by rw [if_neg Bool.false_ne_true, decide_eq_true h]
theorem eqDiff {α : Type} [DecidableEq α] {x y : α} (h : x ≠ y) : (if false = true then !decide (x = y) else decide (x = y)) = false := by rw [if_neg Bool.false_ne_true, decide_eq_false h]
/-! the ways of an if joined -/
/-! a test or a thing that changes nothing, by its outcome -/
def tPureE (t : TE) : TE := t
def wPureE (w : WE) : WE := fun ρ Ψ => ∃ d : Dt, (w ρ fun r ρ1 => r = .dat d ∧ ρ1 = ρ) ∧ Ψ (.dat d) ρ
instance sd_pure {t : TE} {w : WE} [a : Sd K t w] : Sd K (tPureE t) (wPureE w) where
  run B C H σ ρ Q Ψ S h k := by
    obtain ⟨d, h1, h2⟩ := h
    exact a.run B C H σ ρ _ _ S h1 fun C1 H1 v r ρ1 S1 s1 ok ⟨e1, e2⟩ => by
      subst e1 e2
      exact k _ _ _ _ _ S1 s1 ok h2
theorem pePure {X : Cx} {e : Expr} {t : TE} (h : PE X e t) : PE X e (tPureE t) := h
theorem atD_of {α : Type} {xs : List α} {r : Int} {v : α} (h0 : 0 ≤ r) (h : xs[r.toNat]? = some v) : atI xs r = some v := by
  have e : r = ((r.toNat : Nat) : Int) := by omega
  rw [e]
  exact atI_nat h

end
section
variable {P : Program} {w : World} {K : PySem.W.Frag} {mg : Str → Option Value} {base : Heap}
local macro_rules | `(tactic| get_elem_tactic_trivial) => `(tactic| (repeat first | exact Wk.nil | exact Wk'.nil | refine Wk.same ?_ | refine Wk'.same ?_ | refine Wk.un (fun _ z => nomatch z) ?_ | refine Wk'.un ?_))
/-! two names put at once, one or both of them a new list -/
theorem isD_run {C : Hp} {σ : L2.St} {v : V} {a : Ar} {k : Dt → Prop} (ok : ArOk K C σ v a) (h : isD a k) : ∃ d, Rp K C v d ∧ k d := by
  cases a with
  | d x => exact ⟨x, ok, h⟩
  | b i => exact False.elim h
/-! extend -/
/-! texts -/
def rAddS : R2 := fun x y H Q => ∃ i j, x = .str i ∧ y = .str j ∧ i.length + j.length ≤ sizeLine ∧ Q (.str (i ++ j)) H
def oAddS : Dt → Dt → (Dt → Prop) → Prop
  | .str i, .str j, Φ => i.length + j.length ≤ sizeLine ∧ Φ (.str (i ++ j))
  | _, _, _ => False
instance so_addS : So K rAddS oAddS where
  run B C H σ ρ x y dx dy Q Φ S hx hy h k := by
    cases dx <;> cases dy <;> try exact False.elim h
    exact ⟨_, _, hx.str, hy.str, h.1, k _ _ _ _ S (Same.refl _) (.str _) h.2⟩
/-- texts -/
def txts : List Dt → Option (List Str)
  | [] => some []
  | .str x :: ds => match txts ds with
    | some xs => some (x :: xs)
    | none => none
  | _ :: _ => none
theorem txts_map : ∀ xs : List Str, txts (xs.map .str) = some xs
  | [] => rfl
  | x :: xs => by
    show (match txts (xs.map .str) with | some ys => some (x :: ys) | none => none) = _
    rw [txts_map xs]
theorem txts_ok {C : Hp} : ∀ {vs : List V} {ds : List Dt} {xs : List Str}, RpL K C vs ds → txts ds = some xs → vs = xs.map V.str
  | _, _, xs, .nil, e => by cases e; rfl
  | _, .str b :: ds, xs, .cons h t, e => by
    cases h
    unfold txts at e
    cases q : txts ds with
    | none => rw [q] at e; cases e
    | some cs =>
      rw [q] at e
      cases e
      rw [txts_ok t q]
      rfl
  | _, .non :: ds, bs, .cons h t, e => by cases e
  | _, .int _ :: ds, bs, .cons h t, e => by cases e
  | _, .bl _ :: ds, bs, .cons h t, e => by cases e
  | _, .lst _ :: ds, bs, .cons h t, e => by cases e
  | _, .tup _ :: ds, bs, .cons h t, e => by cases e
  | _, .obj _ _ _ :: ds, bs, .cons h t, e => by cases e
  | _, .err _ _ :: ds, bs, .cons h t, e => by cases e
  | _, .scr _ :: ds, bs, .cons h t, e => by cases e
/-- a text's method of one thing -/
class Sm1 (K : PySem.W.Frag) (r : V → List V → Hp → VK → Prop) (f : outParam (Str → Dt → (Dt → Prop) → Prop)) : Prop where
  run : ∀ (B : Bs) (C H : Hp) (σ : L2.St) (ρ : List Sl) (x : Str) (y : V) (d : Dt) (Q : VK) (Φ : Dt → Prop), Sep K B C H σ ρ → Rt K C H y d → f x d Φ → (∀ C' G v e, Sep K B C' G σ ρ → Same C C' → Rp K C' v e → Φ e → Q v G) → r (.str x) [y] H Q
def isStr (r : Rs) (k : Str → Prop) : Prop := match r with
  | .dat (.str x) => k x
  | _ => False
theorem isStr_run {C : Hp} {σ : L2.St} {ρ : List Sl} {v : V} {r : Rs} {k : Str → Prop} (ok : RsOk K C σ ρ v r) (h : isStr r k) : ∃ x, v = .str x ∧ k x := by
  cases r with
  | dat d =>
    cases d <;> try exact False.elim h
    cases ok
    exact ⟨_, rfl, h⟩
  | hot i ds => exact False.elim h
  | box i n => exact False.elim h
def wM1 (f : Str → Dt → (Dt → Prop) → Prop) (wo we : WE) : WE := fun ρ Ψ => wo ρ fun r ρ1 => isStr r fun x => we ρ1 fun r2 ρ2 => match r2.val ρ2 with
  | some d => f x d fun e => Ψ (.dat e) ρ2
  | none => False
instance sd_m1 {r : V → List V → Hp → VK → Prop} {f : Str → Dt → (Dt → Prop) → Prop} {to te : TE} {wo we : WE} [m : Sm1 K r f] [a : Sd K to wo] [b : Sd K te we] : Sd K (tM1 r to te) (wM1 f wo we) where
  run B C H σ ρ Q Ψ S h k := a.run B C H σ ρ _ _ S h fun C1 H1 v1 r1 ρ1 S1 s1 ok1 h1 => by
    obtain ⟨x, rfl, h1⟩ := isStr_run ok1 h1
    refine ⟨⟨x, rfl⟩, b.run B C1 H1 σ ρ1 _ _ S1 h1 fun C2 H2 v2 r2 ρ2 S2 s2 ok2 h2 => ?_⟩
    cases q : r2.val ρ2 with
    | none => simp only [q] at h2
    | some d =>
      simp only [q] at h2
      exact m.run B C2 H2 σ ρ2 x v2 d Q _ S2 (S2.valOf ok2 (Same.refl _) q) h2 fun C3 H3 v e S3 s3 r3 z => k _ _ _ (.dat e) _ S3 (s1.trans (s2.trans s3)) r3 z
def cJoin (K : PySem.W.Frag) : V → List V → Hp → VK → Prop := fun x xs H Q => ∃ a p, ∃ ys : List Str, x = .str a ∧ xs = [.ref p] ∧ (SqL K H p (ys.map V.str) ∨ SqT K H p (ys.map V.str)) ∧ (ys.map (·.length)).sum + ys.length * a.length ≤ 16777216 ∧ Q (.str (Txt.join a ys)) H
def fJoin (x : Str) : Dt → (Dt → Prop) → Prop
  | .lst ds, Φ => ∃ ys, txts ds = some ys ∧ (ys.map (·.length)).sum + ys.length * x.length ≤ 16777216 ∧ Φ (.str (Txt.join x ys))
  | _, _ => False
instance sm_join : Sm1 K (cJoin K) fJoin where
  run B C H σ ρ x y d Q Φ S hy h k := by
    cases d <;> try exact False.elim h
    obtain ⟨ys, e, z, h⟩ := h
    obtain ⟨a, vs, rfl, ha, ra⟩ := hy.list' S
    exact ⟨x, a, ys, rfl, rfl, .inl (by rw [← txts_ok ra e]; exact SqL.of ha), z, k _ _ _ _ S (Same.refl _) (.str _) h⟩

end
section
variable {P : Program} {w : World} {K : PySem.W.Frag} {mg : Str → Option Value} {base : Heap}
local macro_rules | `(tactic| get_elem_tactic_trivial) => `(tactic| (repeat first | exact Wk.nil | exact Wk'.nil | refine Wk.same ?_ | refine Wk'.same ?_ | refine Wk.un (fun _ z => nomatch z) ?_ | refine Wk'.un ?_))
/-! tuples cut and joined -/
/-! calls by keywords that tell a new list -/
theorem nice_str {x : Str} (h : PyData.strOk x = true) {b : Nat} (hb : x.cps.size ≤ b) : Nice 0 b (.str x) := by
  refine ⟨rfl, ?_, ?_, ?_, Nat.le_refl _, ?_⟩
  · show PyData.canLay0 (.str x) = true
    simp only [PyData.canLay0]
    exact h
  · show PyData.showable (.str x) = true
    simp only [PyData.showable]
  · show PyData.leavesShort 1921 (.str x) = true
    simp only [PyData.leavesShort]
    rw [List.all_eq_true]
    intro c hc
    rw [decide_eq_true_eq]
    have := Array.all_eq_true_iff_forall_mem.mp h c (Array.mem_def.mpr hc)
    have h2 : c < 0x110000 := of_decide_eq_true this
    exact Nat.lt_of_lt_of_le h2 (by decide)
  · show PyData.bulk (.str x) ≤ b
    simp only [PyData.bulk]
    exact hb

end
section
variable {P : Program} {w : World} {K : PySem.W.Frag} {mg : Str → Option Value} {base : Heap}
local macro_rules | `(tactic| get_elem_tactic_trivial) => `(tactic| (repeat first | exact Wk.nil | exact Wk'.nil | refine Wk.same ?_ | refine Wk'.same ?_ | refine Wk.un (fun _ z => nomatch z) ?_ | refine Wk'.un ?_))
/-! kinds -/
/-! in, not in -/
section
variable {X : Cx}
end
/-! is, is not of truths -/
/-! the top's tuples -/
theorem rp_strs {C : Hp} : ∀ xs : List Str, RpL K C (xs.map V.str) (xs.map Dt.str)
  | [] => .nil
  | x :: xs => .cons (.str x) (rp_strs xs)
/-! xs[i] = e -/

end
section
variable {P : Program} {w : World} {K : PySem.W.Frag} {mg : Str → Option Value} {base : Heap}
local macro_rules | `(tactic| get_elem_tactic_trivial) => `(tactic| (repeat first | exact Wk.nil | exact Wk'.nil | refine Wk.same ?_ | refine Wk'.same ?_ | refine Wk.un (fun _ z => nomatch z) ?_ | refine Wk'.un ?_))
/-! one sign in a text -/
theorem Sep.same {B : Bs} {C H G : Hp} {σ : L2.St} {ρ : List Sl} (S : Sep K B C H σ ρ) (s : Same H G) : Sep K B C G σ ρ := by
  refine ⟨S.cold.trans s, S.len, fun i t h => ?_, S.ne, S.grow, S.new, fun a h => ?_, fun a o h n => s _ _ (S.keep a o h n), S.loc, S.lob, S.par, S.pz⟩
  · have q := S.sl i t h
    cases t with
    | un => trivial
    | dat d => exact q
    | hot ds =>
      obtain ⟨a, vs, e, h2, r, h3⟩ := q
      exact ⟨a, vs, e, s _ _ h2, r, h3⟩
    | box n =>
      obtain ⟨a, e, b, h3⟩ := q
      exact ⟨a, e, b.same s, h3⟩
  · have q := S.dom a h
    cases e : H a with
    | none => exact absurd e q
    | some o => rw [s _ _ e]; exact fun z => nomatch z
/-! two things alike -/
def wSame (n : Nat) : WF := fun ps Ψ => ∃ d e : Dt, ps = [.dat d, .dat e] ∧ d = e ∧ d.pure = true ∧ dep d.py < n ∧ wid d.py ≤ 1000000 ∧ Ψ (.dat (.bl true)) ps
theorem same_imp {n : Nat} {vs : List V} {H : Hp} {Q : VK} {E : XK} (h : spD K 2 (wSame n) vs H Q E) : spLSame K n vs H Q E := by
  obtain ⟨hl, C, bx, ps, Ψ, S, ⟨d, e, rfl, rfl, hp, hd, hw, z⟩, k⟩ := h
  match vs, hl with
  | [a, b], _ =>
    obtain ⟨v, e1, r1⟩ := S.sl 0 _ rfl
    obtain ⟨u, e2, r2⟩ := S.sl 1 _ rfl
    cases (Option.some.inj (Option.some.inj e1))
    cases (Option.some.inj (Option.some.inj e2))
    exact ⟨a, b, d.py, rfl, dp_same S.cold _ _ (Rp.dp d a r1 hp), dp_same S.cold _ _ (Rp.dp d b r2 hp), hd, hw, fun G s => k C G (.bl true) (.dat (.bl true)) _ (S.same s) (.bl true) z⟩
/-! one operand -/

end
section
variable {P : Program} {w : World} {K : PySem.W.Frag} {mg : Str → Option Value} {base : Heap}
local macro_rules | `(tactic| get_elem_tactic_trivial) => `(tactic| (repeat first | exact Wk.nil | exact Wk'.nil | refine Wk.same ?_ | refine Wk'.same ?_ | refine Wk.un (fun _ z => nomatch z) ?_ | refine Wk'.un ?_))
/-! enumerate of a tuple -/
theorem meets_enumerate_newT (t : Addr) (items : Array Value) :
    PySem.Meets (Builtin.«enumerate.__new__» ⟨[.type "enumerate", .ref t], []⟩) (fun _ R s => s.heap.IsTuple t items ∧
      R (.ok (.ret (.ref (s.heap.push { cls := .type "tuple_iterator", data := .fields #[.ref t, .int 0 0] }).objs.size)))
        { s with heap := (s.heap.push { cls := .type "tuple_iterator", data := .fields #[.ref t, .int 0 0] }).push { cls := .type "enumerate", data := .fields #[.none, .bool false, .ref s.heap.objs.size, rawInt 0, .none, .none] } }) :=
  .of_wp fun prog w A R s h => by
    obtain ⟨hp, g, d, tk, os⟩ := s; obtain ⟨h1, h⟩ := h
    have hsub := sub_enumerate
    have q1 : ∀ {A' : Around} {E : Value → Shared → Prop} {Q : Value → Shared → Prop}, Q (.ref hp.objs.size) ⟨hp.push { cls := .type "tuple_iterator", data := .fields #[.ref t, .int 0 0] }, g, d, tk, os⟩ → wpAny (model prog w) A' (pyIter (.ref t)) Q E ⟨hp, g, d, tk, os⟩ :=
      fun q => wpAny_pyIter_tuple (s := ⟨hp, g, d, tk, os⟩) h1 q
    wp_walk using q1
    refine wpAny_stack_any fun st => wpAny_pure ?_
    split
    · rename_i c _ _ _ _ _
      cases (c == Value.type "enumerate")
      · wp_walk using q1
        exact ⟨_, rfl, h⟩
      · wp_walk using q1
        exact ⟨_, rfl, h⟩
    · wp_walk using q1
      exact ⟨_, rfl, h⟩
theorem call_enumerate_tuple {prog : Program} {w : World} {A : Around} {E : Value → Shared → Prop} {s : Shared} {t : Addr} {items : Array Value} {Q : Value → Shared → Prop} (hT : s.heap.IsTuple t items)
    (h : ∀ h', IsEnum h' (s.heap.objs.size + 1) s.heap.objs.size 0 .none → h'.IsTupleIter s.heap.objs.size t 0 → h'.objs.size = s.heap.objs.size + 2 →
      (∀ b o, s.heap.get? b = some o → h'.get? b = some o) → Q (.ref (s.heap.objs.size + 1)) { s with heap := h' }) :
    wpAny (model prog w) A (call (.type "enumerate") [.ref t]) Q E s := by
  refine callType_new F.called_enumerate (by decide) (F.typeCall_enumerate_1 _) (F.newCall_enumerate_1 _) (fun obj => F.args_object_init_2 obj _) F.entry_enumerate_new
    (meets_enumerate_newT t items) ⟨hT, ?_⟩
  have hz : (s.heap.push { cls := .type "tuple_iterator", data := .fields #[.ref t, .int 0 0] }).objs.size = s.heap.objs.size + 1 := Heap.size_push ..
  show _ ∧ _
  rw [hz]
  have he : IsEnum ((s.heap.push { cls := .type "tuple_iterator", data := .fields #[.ref t, .int 0 0] }).push
      { cls := .type "enumerate", data := .fields #[.none, .bool false, .ref s.heap.objs.size, rawInt 0, .none, .none] }) (s.heap.objs.size + 1) s.heap.objs.size 0 .none := by
    have := Heap.get?_push_size (s.heap.push { cls := .type "tuple_iterator", data := .fields #[.ref t, .int 0 0] })
      (o := { cls := .type "enumerate", data := .fields #[.none, .bool false, .ref s.heap.objs.size, rawInt 0, .none, .none] }) rfl
    rw [hz] at this; exact this
  refine ⟨⟨_, he, rfl⟩, h _ he ⟨_, Heap.get?_push_of_some _ (Heap.get?_push_size _ rfl), rfl, rfl⟩ (by rw [Heap.size_push, hz]) fun b o x => Heap.get?_push_of_some _ (Heap.get?_push_of_some _ x)⟩
def IteT (K : PySem.W.Frag) (a : Addr) : It :=
  ⟨fun i H => ∃ (xs : List V) (x : V), SqT K H a xs ∧ xs[i]? = some x, fun i H v H' => ∃ T x, v = .ref T ∧ H T = none ∧ H' = upd H T (.tup [.int (i : Nat), x]) ∧ ∀ xs, SqT K H a xs → xs[i]? = some x, fun i H => ∃ xs : List V, SqT K H a xs ∧ xs.length ≤ i⟩
theorem turn_enumT {P : Program} {w : World} {K : PySem.W.Frag} {elts : List Expr} {kk : Nat} {tpos : Pos} (a e it : Addr) (hai : a ≠ it) (hae : a ≠ e) :
    Turn P w K (.Tuple elts kk tpos) (IteT K a) [e, it] e (fun i h => (∃ old, IsEnum h e it ((i : Nat) : Int) old) ∧ h.IsTupleIter it a i ∧ e ≠ it) where
  mem := by simp
  obj := fun i h st b hb => by
    obtain ⟨⟨old, he⟩, ⟨o, ho, hc, hd⟩, _⟩ := st
    have e' : b = e ∨ b = it := by simpa using hb
    rcases e' with z | z
    · rw [z]; exact ⟨_, he, fun v q => nomatch q⟩
    · rw [z]; exact ⟨o, ho, fun v q => by rw [hd] at q; cases q⟩
  keep := fun i h h' st k => let ⟨⟨old, he⟩, hi, hne⟩ := st; ⟨⟨old, k e (by simp) _ he⟩, hi.at fun o q => k it (by simp) o q, hne⟩
  item := by
    intro X hP hw hK hc i pins s σ H E I hf st hg
    subst hP hw hK
    obtain ⟨⟨old, he⟩, hit, hne⟩ := st
    obtain ⟨xs, x, hq, hx⟩ := hg
    obtain ⟨its, rv, p, hz⟩ := I.tuple hq
    obtain ⟨u, hu, ru⟩ := rv.get hx
    have hel : e < s.heap.objs.size := Heap.lt_size he
    have hil : it < s.heap.objs.size := by obtain ⟨_, q, _⟩ := hit; exact Heap.lt_size q
    have pt : s.heap.IsTuple a its.toArray := p
    have D : Draws X.prog X.w X.A.in1 it [it, a] its.toArray.size (fun i v => its.toArray[i]? = some v) (fun i h => h.IsTupleIter it a i ∧ h.IsTuple a its.toArray) := Draws.tuple (A := X.A.in1) (show X.A.in1.handled = none from I.ok.hd hc) it a hai its.toArray
    have hlt : i < its.toArray.size := by
      have := (List.getElem?_eq_some_iff.mp hu).1
      simpa using this
    refine wpAny_pyNext_enum_itemD D he ⟨hit, pt⟩ hlt hne (by simp [hne, Ne.symm hae]) fun u2 h' tk hu2 ho hit' hT hsz hk => ?_
    have eu : u2 = u := by
      have h2 : its[i]? = some u2 := by simpa using hu2
      rw [hu] at h2
      exact (Option.some.inj h2).symm
    subst eu
    refine ⟨_, rfl, wpAny_letOwnedTupleGo_enum (s := { s with heap := h', toks := tk + 1 }) ho fun h'' he' sb => ?_⟩
    have hT2 : h''.get? s.heap.objs.size = some { cls := .type "tuple", data := .seq #[.int i tk, u2] } := (sb.2 _ (Nat.ne_of_gt hel)).trans hT
    have new : ObjOk X.prog X.w (upd H s.heap.objs.size (.tup [.int (i : Nat), x])) h'' s.heap.objs.size (.tup [.int (i : Nat), x]) :=
      ⟨by show 2 ≤ sizeLine; decide, [.int i tk, u2], .cons ⟨_, rfl⟩ (.cons ru .nil), ⟨_, hT2, rfl, _, rfl⟩⟩
    have I1 : Inv X pins σ (upd H s.heap.objs.size (.tup [.int (i : Nat), x])) { s with heap := h'', toks := tk + 1 } :=
      I.turnedNew (ch := [e, it]) (fun b ob hb q => (sb.2 b (fun z => hb (by simp [z]))).trans (hk b ob (fun z => hb (by simp [z])) (fun z => hb (by simp [z])) q)) hf (Nat.le_refl _) new
    refine ⟨.ref s.heap.objs.size, _, I1, rfl, ⟨_, x, rfl, I.hok.fresh (Nat.le_refl _), rfl, fun ys hy => by rw [I.tuple_inj hy hq]; exact hx⟩, ⟨⟨u2, ?_⟩, hit'.1.at fun o q => (sb.2 it (Ne.symm hne)).trans q, hne⟩, fun b hb => ?_⟩
    · have e1 : ((i + 1 : Nat) : Int) = (i : Int) + 1 := by omega
      rw [e1]; exact he'
    · have hb' : b < s.heap.objs.size := by
        have e' : b = e ∨ b = it := by simpa using hb
        rcases e' with z | z
        · rw [z]; exact hel
        · rw [z]; exact hil
      rw [upd_ne (Nat.ne_of_lt hb')]
      exact (hf b hb).1
  done := by
    intro X hP hw hK hc i pins s σ H E I hf st hg
    subst hP hw hK
    obtain ⟨⟨old, he⟩, hit, hne⟩ := st
    obtain ⟨xs, hq, hx⟩ := hg
    obtain ⟨its, rv, p, hz⟩ := I.tuple hq
    obtain ⟨f0, f1, f2, f3, f4, f5⟩ := hf it (by simp)
    have hl := rv.length
    have pt : s.heap.IsTuple a its.toArray := p
    have hT : s.TypeIs (.ref e) "enumerate" := ⟨_, he, rfl⟩
    unfold pyNext
    refine wpAny_bind (wpAny_attempt (wpAny_callSpecial?_slot (name := Str.ofString "__next__") hT F.slot_enumerate_next
      (wpAny_call_entry F.slot_enumerate_next hT F.entry_enumerate_next ?_ (F.args_enumerate_next_1 _))))
    show wpAny _ _ (field (.ref e) 2 >>= _) _ _ _
    refine wpAny_bind (wpAny_field he rfl (x := .ref it) rfl ?_)
    refine wpAny_bind (wpAny_nextOf_tuple_end (show X.A.in1.handled = none from I.ok.hd hc) hit pt (by simp; omega) fun h' x he' hx' => ?_)
    obtain ⟨o, ho, hcl⟩ := hx'
    refine wpAny_bind (wpAny_isInstance (T := "StopIteration") (b := true) ⟨o, ho, hcl⟩ isSubtype_stop ?_)
    exact wpAny_pure ⟨rfl, I.turned (t' := s.toks) (fun b o hb q => he' b o hb q) f0 f1 f3 f4 f5⟩
  self := fun A i s Q E st h => let ⟨⟨_, he⟩, _⟩ := st; wpAny_pyIter_enum he h
/-! their data -/
def enumD : Nat → List Dt → List Dt
  | _, [] => []
  | k, d :: ds => .tup [.int (k : Nat), d] :: enumD (k + 1) ds
theorem enumD_len : ∀ (k : Nat) (ds : List Dt), (enumD k ds).length = ds.length
  | _, [] => rfl
  | k, _ :: ds => congrArg Nat.succ (enumD_len (k + 1) ds)
theorem enumD_at : ∀ {k : Nat} {ds : List Dt} {i : Nat} {d : Dt}, (enumD k ds)[i]? = some d → ∃ e, ds[i]? = some e ∧ d = .tup [.int ((k + i : Nat) : Int), e]
  | k, x :: ds, 0, d, h => ⟨x, rfl, (Option.some.inj h).symm⟩
  | k, x :: ds, i + 1, d, h => by
    obtain ⟨e, h1, h2⟩ := enumD_at (k := k + 1) (ds := ds) (i := i) h
    exact ⟨e, h1, by rw [h2, show k + 1 + i = k + (i + 1) by omega]⟩

end
section
variable {P : Program} {w : World} {K : PySem.W.Frag} {mg : Str → Option Value} {base : Heap}
local macro_rules | `(tactic| get_elem_tactic_trivial) => `(tactic| (repeat first | exact Wk.nil | exact Wk'.nil | refine Wk.same ?_ | refine Wk'.same ?_ | refine Wk.un (fun _ z => nomatch z) ?_ | refine Wk'.un ?_))
/-! a sign's place in a text; a text cut -/
def wSlS (w : WE) (wl wh : WO) : WE := fun ρ Ψ => w ρ fun r ρ1 => isStr r fun z => wl ρ1 fun lo ρ2 => wh ρ2 fun hi ρ3 => z.length ≤ sizeLine ∧ Ψ (.dat (.str (cutS z lo hi))) ρ3
instance sd_slS {te : TE} {tl th : TO} {w : WE} {wl wh : WO} [a : Sd K te w] [b : Sop K tl wl] [c : Sop K th wh] : Sd K (tSl rSlS te tl th) (wSlS w wl wh) where
  run B C H σ ρ Q Ψ S h k := a.run B C H σ ρ _ _ S h fun C1 H1 v1 r1 ρ1 S1 s1 ok1 h1 => by
    obtain ⟨z, rfl, h1⟩ := isStr_run ok1 h1
    refine b.run B C1 H1 σ ρ1 _ _ S1 h1 fun C2 H2 lo ρ2 S2 s2 h2 => ?_
    refine c.run B C2 H2 σ ρ2 _ _ S2 h2 fun C3 H3 hi ρ3 S3 s3 h3 => ?_
    exact ⟨z, rfl, h3.1, k _ _ _ (.dat (.str _)) _ S3 (s1.trans (s2.trans s3)) (.str _) h3.2⟩


end
section
variable {P : Program} {w : World} {K : PySem.W.Frag} {mg : Str → Option Value} {base : Heap}
local macro_rules | `(tactic| get_elem_tactic_trivial) => `(tactic| (repeat first | exact Wk.nil | exact Wk'.nil | refine Wk.same ?_ | refine Wk'.same ?_ | refine Wk.un (fun _ z => nomatch z) ?_ | refine Wk'.un ?_))
namespace DSet
section
variable {P : Program} {w : World} {K : Type} [DecidableEq K]
variable {kd : KeyKind P w K} {S : K → Bool} {n : Nat} {a : Addr}
variable {A : Around} {E : Value → Shared → Prop} {s : Shared}
end
end DSet
end
section
variable {P : Program} {w : World} {K : PySem.W.Frag} {mg : Str → Option Value} {base : Heap}
local macro_rules | `(tactic| get_elem_tactic_trivial) => `(tactic| (repeat first | exact Wk.nil | exact Wk'.nil | refine Wk.same ?_ | refine Wk'.same ?_ | refine Wk.un (fun _ z => nomatch z) ?_ | refine Wk'.un ?_))
namespace DSet
section
variable {P : Program} {w : World} {A : Around} {E : Value → Shared → Prop} {s : Shared} {K : Type} [DecidableEq K] {kd : KeyKind P w K}
end
end DSet
end
section
variable {P : Program} {w : World} {K : PySem.W.Frag} {mg : Str → Option Value} {base : Heap}
local macro_rules | `(tactic| get_elem_tactic_trivial) => `(tactic| (repeat first | exact Wk.nil | exact Wk'.nil | refine Wk.same ?_ | refine Wk'.same ?_ | refine Wk.un (fun _ z => nomatch z) ?_ | refine Wk'.un ?_))
namespace DSet
section
variable {P : Program} {w : World} {A : Around} {E : Value → Shared → Prop} {s : Shared}
end
end DSet
end
section
variable {P : Program} {w : World} {K : PySem.W.Frag} {mg : Str → Option Value} {base : Heap}
local macro_rules | `(tactic| get_elem_tactic_trivial) => `(tactic| (repeat first | exact Wk.nil | exact Wk'.nil | refine Wk.same ?_ | refine Wk'.same ?_ | refine Wk.un (fun _ z => nomatch z) ?_ | refine Wk'.un ?_))
namespace DSet
section
variable {P : Program} {w : World} {A : Around} {E : Value → Shared → Prop} {s : Shared}
theorem sort_txt {a : Addr} {vs : List Value} {ss : List Str} {n : Nat} {PP : Fin → Shared → Prop} (ho : s.heap.get? a = some (seqObj "list" vs.toArray n)) (hS : StrsAre vs ss) (few : vs.length < 64)
    (fin : ∀ (out : Array Value) (ss' : List Str), StrsAre out.toList ss' → ss'.Perm ss → sortedS ss' = true → PP (.done (.ret .none)) { s with heap := sortedHeap s.heap a vs out }) :
    wpAny (model P w) A (Builtin.«list.sort» ⟨[.ref a], []⟩) PP E s := by
  refine list_sort_treeK strKind_oneLt ho hS.keysOf (fun v₁ v₂ rest e => keyKind_strs (by rw [← e]; exact hS)) few fun st' pm up => ?_
  obtain ⟨ss', h1, h2, h3⟩ := sorted_out_str hS pm up
  exact fin _ ss' h1 h2 h3
theorem collect_tup {l : Addr} {vs : List Value} {Q : List Value → Shared → Prop} (hl : s.heap.IsTuple l vs.toArray) (hz : vs.length ≤ sizeLine)
    (fin : ∀ s', (∀ b o, s.heap.get? b = some o → s'.heap.get? b = some o) → s.heap.objs.size ≤ s'.heap.objs.size → s'.gens = s.gens → s'.os = s.os → Q vs s') : wpAny (model P w) A (collect (.ref l)) Q E s := by
  obtain ⟨o, ho, hc, n, hd⟩ := id hl
  have ho' : (s.heap.push (seqObj "list" #[] 0)).get? l = some o := Heap.get?_push_of_some _ ho
  have lt := Heap.lt_size ho
  unfold collect
  refine wpAny_bind (wpAny_runValue (codeAny_builtin entry_proto_collect' (?_ : wpAny _ _ (do again (.builtin "list.__iadd__" ⟨[← newList [], .ref l], []⟩)) _ _ s)))
  refine wpAny_bind (wpAny_newList (wpAny_pure ⟨Code.quiet_builtin _ (by decide +kernel), codeAny_builtin entry_list_iadd' (?_ : wpAny _ _ (Builtin.List.listExtendWith (.ref s.heap.objs.size) (.ref l) (.ref s.heap.objs.size)) _ _ { s with heap := s.heap.push (seqObj "list" #[] 0) })⟩))
  unfold Builtin.List.listExtendWith
  refine wpAny_bind (wpAny_typeOf (T := "tuple") ⟨o, ho', hc⟩ ?_)
  rw [if_pos (by rw [show (Value.type "tuple" == Value.type "tuple") = true from rfl]; simp)]
  refine wpAny_bind (listItems_at ho' hd (wpAny_bind (listItems_at (xs := #[]) (n := 0) (Heap.get?_push_size _ rfl) rfl ?_)))
  rw [if_neg (by simp)]
  refine wpAny_bind (listUpdate_at (xs := #[]) (n := 0) (Heap.get?_push_size _ rfl) rfl (wpAny_pure ?_) (Nat.zero_le _) (by simp only [Array.size_append, List.size_toArray, List.length_nil]; omega))
  show wpAny (model P w) A (load s.heap.objs.size >>= _) Q E { s with heap := (s.heap.push (seqObj "list" #[] 0)).update s.heap.objs.size (Obj.mapSeq (· ++ vs.toArray)) }
  refine wpAny_bind (wpAny_load (get?_update_seq (Heap.get?_push_size _ rfl) _) ?_)
  show wpAny _ _ (pure ((#[] : Array Value) ++ vs.toArray).toList) Q E _
  rw [show ((#[] : Array Value) ++ vs.toArray).toList = vs by simp]
  refine wpAny_pure (fin _ (fun b u e => ?_) ?_ rfl rfl)
  · exact (Heap.get?_update_other _ _ (Nat.ne_of_gt (Heap.lt_size e))).trans (Heap.get?_push_of_some _ e)
  · show s.heap.objs.size ≤ ((s.heap.push (seqObj "list" #[] 0)).update s.heap.objs.size (Obj.mapSeq (· ++ vs.toArray))).objs.size
    rw [Heap.size_update, Heap.size_push]
    exact Nat.le_succ _
theorem sorted_tup {l : Addr} {vs : List Value} {ss : List Str} {Q : Value → Shared → Prop} (hl : s.heap.IsTuple l vs.toArray) (hS : StrsAre vs ss) (few : vs.length < 64)
    (fin : ∀ s' p (out : Array Value) (c : Nat) (ss' : List Str), (∀ b o, s.heap.get? b = some o → s'.heap.get? b = some o) → s'.gens = s.gens → s'.os = s.os → s.heap.objs.size ≤ p → s'.heap.get? p = some (seqObj "list" out c) → StrsAre out.toList ss' → ss'.Perm ss → sortedS ss' = true → Q (.ref p) s') :
    wpAny (model P w) A (call (.builtin "sorted") [.ref l]) Q E s := by
  have hz : vs.length ≤ sizeLine := by rw [sizeLine_eq]; omega
  refine Calls.call_function_entry kind_sorted plain_sorted entry_sorted (args_sorted1 _) ?_
  unfold Builtin.«sorted»
  refine wpAny_bind (m := checkCount "sorted" 1 1 _) (wpAny_pure (wpAny_bind (collect_tup hl hz fun s1 k1 z1 g1 o1 => wpAny_bind (wpAny_newList ?_ hz))))
  have at1 : (s1.heap.push (seqObj "list" vs.toArray 0)).get? s1.heap.objs.size = some (seqObj "list" vs.toArray 0) := Heap.get?_push_size _ rfl
  refine wpAny_bind (wpAny_holding (wpAny_call_entry slot_list_sort ⟨_, at1, rfl⟩ entry_list_sort (sort_txt at1 hS few fun out ss' h1 h2 h3 => ⟨_, rfl, ?_⟩) (args_list_sort _)))
  obtain ⟨c, hc⟩ := sortedHeap_at (vs := vs) (out := out) at1
  refine wpAny_pure ⟨_, rfl, fin _ s1.heap.objs.size out c ss' (fun b u e => ?_) g1 o1 z1 hc h1 h2 h3⟩
  have q := k1 b u e
  have lt := Heap.lt_size q
  show (sortedHeap (s1.heap.push (seqObj "list" vs.toArray 0)) s1.heap.objs.size vs out).get? b = some u
  rw [sortedHeap_old (Nat.ne_of_lt lt) (by rw [size_push']; exact Nat.lt_succ_of_lt lt)]
  exact Heap.get?_push_of_some _ q
end
theorem laid_list {X : Cx} {pins : List (Addr × Obj)} {σ : L2.St} {H : Hp} {s s' : Shared} {p : Addr} {xs : List V} {out : Array Value} {c : Nat} (I : Inv X pins σ H s) (k : ∀ b o, s.heap.get? b = some o → s'.heap.get? b = some o) (g : s'.gens = s.gens) (o : s'.os = s.os) (hp : s.heap.objs.size ≤ p)
    (hg : s'.heap.get? p = some (seqObj "list" out c)) (hv : Vals xs out.toList) (hl : xs.length ≤ sizeLine) : Inv X pins σ (upd H p (.lst xs)) s' := by
  have J : Inv X pins σ (upd H p (.lst xs)) { s with heap := s'.heap, gens := s'.gens, drawn := s'.drawn, toks := s'.toks } :=
    I.call (ch := []) (Un.laid k hp (I.hok.fresh hp)) (I.hok.laid k hp ⟨hl, out.toList, c, hv, hg⟩) (by rw [g]; exact I.bare) (fun _ z => nomatch z)
  cases s'
  cases s
  cases o
  exact J
/-- sorted of a list or a tuple of texts -/
def rSortSQ (K : PySem.W.Frag) : List V → Hp → VK → Prop := fun vs H Q => ∃ (a : Addr) (xs : List Str), vs = [V.ref a] ∧ (SqL K H a (xs.map V.str) ∨ SqT K H a (xs.map V.str)) ∧ xs.length < 64 ∧ ∀ (ys : List Str) (p : Addr), ys.Perm xs → sortedS ys = true → H p = none → Q (.ref p) (upd H p (.lst (ys.map V.str)))
theorem cr_sortSQ {X : Cx} : CallR X (.builtin "sorted") (rSortSQ X.K) := by
  intro pins s σ H vs us Q I r h
  obtain ⟨a, xs, rfl, hs, few, q⟩ := h
  rcases hs with hs | hs
  · exact cr_sortedS pins s σ H _ us Q I r ⟨a, xs, rfl, hs, few, q⟩
  · obtain ⟨its, rv, ht, _⟩ := I.tuple hs
    have l0 := rv.length
    rw [List.length_map] at l0
    rw [Vals.ref1 r]
    refine sorted_tup ht rv.strs (by omega) fun s' p out c ys k g o hp hg h1 h2 h3 => ?_
    exact ⟨.ref p, _, laid_list I k g o hp hg (vals_of_strs h1) (by rw [List.length_map, h2.length_eq, sizeLine_eq]; omega), rfl, q ys p h2 h3 (I.hok.fresh hp)⟩
end DSet

end
section
variable {P : Program} {w : World} {K : PySem.W.Frag} {mg : Str → Option Value} {base : Heap}
local macro_rules | `(tactic| get_elem_tactic_trivial) => `(tactic| (repeat first | exact Wk.nil | exact Wk'.nil | refine Wk.same ?_ | refine Wk'.same ?_ | refine Wk.un (fun _ z => nomatch z) ?_ | refine Wk'.un ?_))
/-! sorted(set(xs)) as one thing -/
section
variable {X : Cx} {e : Expr} {te : TE} {p p2 q pos : Pos}
end
/-! sorted of texts -/
def fSortS : Dt → (List Dt → Prop) → Prop
  | .lst ds, Φ => ∃ xs : List Str, ds = xs.map .str ∧ xs.length < 64 ∧ ∀ ys : List Str, ys.Perm xs → sortedS ys = true → Φ (ys.map .str)
  | .tup ds, Φ => ∃ xs : List Str, ds = xs.map .str ∧ xs.length < 64 ∧ ∀ ys : List Str, ys.Perm xs → sortedS ys = true → Φ (ys.map .str)
  | _, _ => False
instance sb_sortS : Sb1n K (DSet.rSortSQ K) fSortS where
  run B C H σ ρ v d Q Φ S hv h k := by
    cases d <;> try exact False.elim h
    · obtain ⟨l, vs, rfl, hl, ra⟩ := hv.list' S
      obtain ⟨xs, rfl, few, z⟩ := h
      exact ⟨l, xs, rfl, .inl (by rw [← txts_ok ra (txts_map xs)]; exact SqL.of hl), few, fun ys p pm up hp => k _ _ _ _ (S.allocN hp) (Same.refl _) (S.frN hp (rp_strs ys)) (z ys pm up)⟩
    · obtain ⟨l, vs, rfl, hl, ra⟩ := hv.tup' S
      obtain ⟨xs, rfl, few, z⟩ := h
      exact ⟨l, xs, rfl, .inr (by rw [← txts_ok ra (txts_map xs)]; exact hl), few, fun ys p pm up hp => k _ _ _ _ (S.allocN hp) (Same.refl _) (S.frN hp (rp_strs ys)) (z ys pm up)⟩
/-! any -/
/-! enumerate of a list or a tuple -/
def iEnumA (K : PySem.W.Frag) (ta : TA) : TI := fun σ H R => ta σ H fun vs H1 => ∃ a, vs = [.ref a] ∧ (((∃ xs, SqL K H1 a xs) ∧ R (Ite K a) H1) ∨ ((∃ xs, SqT K H1 a xs) ∧ R (IteT K a) H1))
theorem pi_enumA {X : Cx} {e : Expr} {ta : TA} {p pos tpos : Pos} {elts : List Expr} {kk : Nat} (hk : X.K = K) (hg : Gl X "enumerate") (hm : X.mg "enumerate" = none) (ha : PA X [e] ta) (hs : starEach [e] X.env = [(false, eval e X.env)] := by rfl) :
    PI X (.Tuple elts kk tpos) (.Call (.Name "enumerate" p) [e] [] pos) (iEnumA K ta) := by
  subst hk
  refine ⟨fun pins s σ H R I h => ?_⟩
  refine Call_ (ld_blt I hg hm boot_enumerate (PyProof.Rows.callWith_type1 (thn (ha.run pos pins s σ H _ I h) fun us s1 z => ?_) hs rfl))
  obtain ⟨vs, H1, I1, r1, a, rfl, q⟩ := z
  rw [Vals.ref1 r1]
  have fp : ∀ b ∈ [s1.heap.objs.size + 1, s1.heap.objs.size], FpOk X pins H1 b := fun b hb => by
    have hle : s1.heap.objs.size ≤ b := by
      rcases List.mem_cons.mp hb with z | z
      · rw [z]
        exact Nat.le_succ _
      · rw [List.mem_singleton.mp z]
        exact Nat.le_refl _
    exact I1.fpOk hle (I1.hok.fresh hle)
  rcases q with ⟨⟨xs, hq⟩, q⟩ | ⟨⟨xs, hq⟩, q⟩
  · obtain ⟨its, rv, pl, hz⟩ := I1.list hq
    refine call_enumerate_list pl.isList fun h' he hit hsz keep => wpAny_pyIter_enum he ?_
    have I2 : Inv X pins σ H1 { s1 with heap := h' } := I1.kept (t' := s1.toks) keep
    exact ⟨s1.heap.objs.size + 1, [s1.heap.objs.size + 1, s1.heap.objs.size], _, _, H1, rfl, I2, turn_enum a (s1.heap.objs.size + 1) s1.heap.objs.size, ⟨⟨.none, he⟩, hit, Nat.succ_ne_self _⟩, fp, q⟩
  · obtain ⟨its, rv, pl, hz⟩ := I1.tuple hq
    have pt : s1.heap.IsTuple a its.toArray := pl
    have lt : a < s1.heap.objs.size := by obtain ⟨o, ho, _⟩ := id pt; exact Heap.lt_size ho
    refine call_enumerate_tuple pt fun h' he hit hsz keep => wpAny_pyIter_enum he ?_
    have I2 : Inv X pins σ H1 { s1 with heap := h' } := I1.kept (t' := s1.toks) keep
    exact ⟨s1.heap.objs.size + 1, [s1.heap.objs.size + 1, s1.heap.objs.size], _, _, H1, rfl, I2, turn_enumT a (s1.heap.objs.size + 1) s1.heap.objs.size (Nat.ne_of_lt lt) (Nat.ne_of_lt (Nat.lt_succ_of_lt lt)), ⟨⟨.none, he⟩, hit, Nat.succ_ne_self _⟩, fp, q⟩
def wiEnumA (wa : WA) : WI := fun ρ Ψ => wa ρ fun as ρ1 => match as with
  | [.d (.lst ds)] => Ψ (enumD 0 ds) ρ1
  | [.d (.tup ds)] => Ψ (enumD 0 ds) ρ1
  | _ => False
theorem wiEnumA_run {as : List Ar} {k : List Dt → Prop} (h : match as with | [.d (.lst ds)] => k (enumD 0 ds) | [.d (.tup ds)] => k (enumD 0 ds) | _ => False) : ∃ ds, (as = [.d (.lst ds)] ∨ as = [.d (.tup ds)]) ∧ k (enumD 0 ds) := by
  split at h
  · exact ⟨_, .inl rfl, h⟩
  · exact ⟨_, .inr rfl, h⟩
  · exact h.elim
instance si_enumA {ta : TA} {wa : WA} [a : Sa K ta wa] : Si K (iEnumA K ta) (wiEnumA wa) where
  run B C H σ ρ R Ψ S h k := a.run B C H σ ρ _ _ S h fun C1 H1 vs as ρ1 S1 s1 ok1 h1 => by
    obtain ⟨ds, e, h1⟩ := wiEnumA_run (k := fun l => Ψ l ρ1) h1
    have turn : ∀ {xs : List V} {i : Nat} {x : V} {d : Dt} {T : Addr} {B3 : Bs} {C3 H3 : Hp} {σ3 : L2.St} {ρ3 : List Sl}, RpL K C1 xs ds → Sep K B3 C3 H3 σ3 ρ3 → Same C1 C3 → H3 T = none → xs[i]? = some x → (enumD 0 ds)[i]? = some d → ∃ C', Sep K B3 C' (upd H3 T (.tup [.int (i : Nat), x])) σ3 ρ3 ∧ Same C3 C' ∧ Rp K C' (.ref T) d := by
      intro xs i x d T B3 C3 H3 σ3 ρ3 rl S3 s3 hT e hd
      obtain ⟨d', hd', r'⟩ := rl.at e
      obtain ⟨d2, h2, rfl⟩ := enumD_at hd
      rw [h2] at hd'
      cases hd'
      have sC : Same C3 (upd C3 T (.tup [.int (i : Nat), x])) := same_new (S3.cold.free hT)
      refine ⟨upd C3 T (.tup [.int (i : Nat), x]), S3.alloc hT, sC, .tup (.inl (.inl upd_same)) ?_⟩
      rw [Nat.zero_add]
      exact .cons (.int _) (.cons ((r'.same s3).same sC) .nil)
    rcases e with rfl | rfl
    · match ok1 with
      | .cons r .nil =>
        cases r with
        | @lst c xs _ hs rl =>
          have lq := rl.len
          refine ⟨c, rfl, .inl ⟨⟨_, SqL.of (S1.cold _ _ hs)⟩, k _ _ _ _ _ S1 s1 (fun B3 C3 H3 σ3 ρ3 S3 s3 => ?_) h1⟩⟩
          have q : SqL K H3 c xs := SqL.of (S3.cold _ _ (s3 _ _ hs))
          rw [enumD_len]
          refine ⟨fun i hi => ⟨xs, xs[i], q, by simp [lq, hi]⟩, ⟨xs, q, by omega⟩, fun i y H' d hd yl => ?_⟩
          obtain ⟨T, x, rfl, hT, rfl, yl⟩ := yl
          exact turn rl S3 s3 hT (yl xs q) hd
    · match ok1 with
      | .cons r .nil =>
        cases r with
        | @tup c xs _ hs rl =>
          have lq := rl.len
          refine ⟨c, rfl, .inr ⟨⟨_, seqT_same S1.cold hs⟩, k _ _ _ _ _ S1 s1 (fun B3 C3 H3 σ3 ρ3 S3 s3 => ?_) h1⟩⟩
          have q := seqT_same S3.cold (seqT_same s3 hs)
          rw [enumD_len]
          refine ⟨fun i hi => ⟨xs, xs[i], q, by simp [lq, hi]⟩, ⟨xs, q, by omega⟩, fun i y H' d hd yl => ?_⟩
          obtain ⟨T, x, rfl, hT, rfl, yl⟩ := yl
          exact turn rl S3 s3 hT (yl xs q) hd

end
section
variable {P : Program} {w : World} {K : PySem.W.Frag} {mg : Str → Option Value} {base : Heap}
local macro_rules | `(tactic| get_elem_tactic_trivial) => `(tactic| (repeat first | exact Wk.nil | exact Wk'.nil | refine Wk.same ?_ | refine Wk'.same ?_ | refine Wk.un (fun _ z => nomatch z) ?_ | refine Wk'.un ?_))
/-! zip of a list or a tuple with a tuple -/

end
section
variable {P : Program} {w : World} {K : PySem.W.Frag} {mg : Str → Option Value} {base : Heap}
local macro_rules | `(tactic| get_elem_tactic_trivial) => `(tactic| (repeat first | exact Wk.nil | exact Wk'.nil | refine Wk.same ?_ | refine Wk'.same ?_ | refine Wk.un (fun _ z => nomatch z) ?_ | refine Wk'.un ?_))
/-! {..}.get(x, y) of two texts with numbers -/

end
section
variable {P : Program} {w : World} {K : PySem.W.Frag} {mg : Str → Option Value} {base : Heap}
local macro_rules | `(tactic| get_elem_tactic_trivial) => `(tactic| (repeat first | exact Wk.nil | exact Wk'.nil | refine Wk.same ?_ | refine Wk'.same ?_ | refine Wk.un (fun _ z => nomatch z) ?_ | refine Wk'.un ?_))
/-! a tuple so many times -/
/-! how often a text is in a list -/

end
section
variable {P : Program} {w : World} {K : PySem.W.Frag} {mg : Str → Option Value} {base : Heap}
local macro_rules | `(tactic| get_elem_tactic_trivial) => `(tactic| (repeat first | exact Wk.nil | exact Wk'.nil | refine Wk.same ?_ | refine Wk'.same ?_ | refine Wk.un (fun _ z => nomatch z) ?_ | refine Wk'.un ?_))
/-! calls that leave numbers out -/

end
section
variable {P : Program} {w : World} {K : PySem.W.Frag} {mg : Str → Option Value} {base : Heap}
local macro_rules | `(tactic| get_elem_tactic_trivial) => `(tactic| (repeat first | exact Wk.nil | exact Wk'.nil | refine Wk.same ?_ | refine Wk'.same ?_ | refine Wk.un (fun _ z => nomatch z) ?_ | refine Wk'.un ?_))
/-! upper, str of a number, < of numbers or texts -/
def rLtS : R2 := fun x y H Q => ∃ i j, x = .str i ∧ y = .str j ∧ Q (.bl (decide (i.cps.toList < j.cps.toList))) H
def rLtA : R2 := fun x y H Q => rI0 (fun i j => .bl (decide (i < j))) x y H Q ∨ rLtS x y H Q
theorem opLtA {X : Cx} : OpR X (compareOp .Lt) rLtA := op_lt.or op_lt_str
def ltD : Dt → Dt → Bool
  | .int i, .int j => decide (i < j)
  | .str a, .str b => decide (a.cps.toList < b.cps.toList)
  | _, _ => false
def oLtA : Dt → Dt → (Dt → Prop) → Prop
  | .int i, .int j, Φ => Φ (.bl (ltD (.int i) (.int j)))
  | .str i, .str j, Φ => Φ (.bl (ltD (.str i) (.str j)))
  | _, _, _ => False
instance so_LtA : So K rLtA oLtA where
  run B C H σ ρ x y dx dy Q Φ S hx hy h k := by
    cases dx <;> cases dy <;> first
      | exact False.elim h
      | (cases hx.int; cases hy.int; exact .inl ⟨_, _, rfl, rfl, k _ _ _ _ S (Same.refl _) (.bl _) h⟩)
      | (cases hx.str; cases hy.str; exact .inr ⟨_, _, rfl, rfl, k _ _ _ _ S (Same.refl _) (.bl _) h⟩)
/-! a pair taken apart, its second a new list that stays changeable -/

end
section
variable {P : Program} {w : World} {K : PySem.W.Frag} {mg : Str → Option Value} {base : Heap}
local macro_rules | `(tactic| get_elem_tactic_trivial) => `(tactic| (repeat first | exact Wk.nil | exact Wk'.nil | refine Wk.same ?_ | refine Wk'.same ?_ | refine Wk.un (fun _ z => nomatch z) ?_ | refine Wk'.un ?_))
/-! pop(i), insert(i, x) of a list that may be changed -/
/-! a new drawer given to a def at once -/
theorem Sep.ext {B : Bs} {C H : Hp} {σ : L2.St} {ρ : List Sl} {p : Addr} {x y : Int} (S : Sep K B C H σ ρ) (hp : H p = none) (hx : 0 ≤ x) (hy : 0 ≤ y) (hy2 : y < 1099511627776) : Sep K B C (upd H p (.lst [.int x, .int y, .int 0])) (σ ++ [some (.ref p)]) (ρ ++ [.box 0]) := by
  have S1 := S.allocN (o := .lst [.int x, .int y, .int 0]) hp
  have hl := S.len
  have old : ∀ {i : Nat} {s : Sl}, (ρ ++ [Sl.box 0])[i]? = some s → (ρ[i]? = some s ∧ (σ ++ [some (.ref p)])[i]? = σ[i]?) ∨ (i = ρ.length ∧ s = .box 0 ∧ (σ ++ [some (.ref p)])[i]? = some (some (.ref p))) := fun {i s} h => by
    rcases Nat.lt_trichotomy i ρ.length with z | z | z
    · rw [List.getElem?_append_left z] at h
      exact .inl ⟨h, List.getElem?_append_left (by omega)⟩
    · subst z
      rw [List.getElem?_append_right (Nat.le_refl _), Nat.sub_self] at h
      exact .inr ⟨rfl, (Option.some.inj h).symm, by rw [← hl, List.getElem?_append_right (Nat.le_refl _), Nat.sub_self]; rfl⟩
    · rw [List.getElem?_eq_none (by rw [List.length_append]; show _ + 1 ≤ _; omega)] at h
      cases h
  have nop : ∀ {i : Nat} {s : Sl}, ρ[i]? = some s → s.mut = true → σ[i]? ≠ some (some (V.ref p)) := fun {i s} h m e => (S.mutH h m e).2 hp
  refine ⟨S1.cold, by rw [List.length_append, List.length_append, hl]; rfl, fun i s h => ?_, fun i j a s t n h1 h2 m1 m2 e1 e2 => ?_, S1.grow, S1.new, S1.dom, S1.keep, fun i a ds h e => ?_, fun i a n h e => ?_, fun i a h => ?_, S1.pz⟩
  · rcases old h with ⟨h1, e1⟩ | ⟨_, rfl, e1⟩
    · rw [e1]
      exact S1.sl i s h1
    · rw [e1]
      exact ⟨p, rfl, ⟨x, y, 0, upd_same, hx, hy, hy2, Int.le_refl _, Int.le_refl _⟩, S.cold.free hp⟩
  · rcases old h1 with ⟨g1, f1⟩ | ⟨i1, rfl, f1⟩
    · rw [f1] at e1
      rcases old h2 with ⟨g2, f2⟩ | ⟨i2, rfl, f2⟩
      · rw [f2] at e2
        exact S1.ne i j a s t n g1 g2 m1 m2 e1 e2
      · rw [f2] at e2
        cases e2
        exact nop g1 m1 e1
    · rw [f1] at e1
      cases e1
      rcases old h2 with ⟨g2, f2⟩ | ⟨i2, rfl, f2⟩
      · rw [f2] at e2
        exact nop g2 m2 e2
      · exact n (i1.trans i2.symm)
  · rcases old h with ⟨h1, e1⟩ | ⟨_, z, _⟩
    · rw [e1] at e
      exact S1.loc i a ds h1 e
    · cases z
  · rcases old h with ⟨h1, e1⟩ | ⟨_, z, e1⟩
    · rw [e1] at e
      exact S1.lob i a n h1 e
    · rw [e1] at e
      cases e
      exact .inl (S.free0 hp)
  · obtain ⟨h1, n, h2⟩ := S1.par i a h
    have li : i < ρ.length := (List.getElem?_eq_some_iff.mp h2).1
    exact ⟨by rw [List.getElem?_append_left (by omega)]; exact h1, n, by rw [List.getElem?_append_left li]; exact h2⟩

end
section
variable {P : Program} {w : World} {K : PySem.W.Frag} {mg : Str → Option Value} {base : Heap}
local macro_rules | `(tactic| get_elem_tactic_trivial) => `(tactic| (repeat first | exact Wk.nil | exact Wk'.nil | refine Wk.same ?_ | refine Wk'.same ?_ | refine Wk.un (fun _ z => nomatch z) ?_ | refine Wk'.un ?_))
/-! split, str of a text or a number, (*xs, y) -/
theorem ArL.app {C : Hp} {σ : L2.St} : ∀ {vs us : List V} {as bs : List Ar}, ArL K C σ vs as → ArL K C σ us bs → ArL K C σ (vs ++ us) (as ++ bs)
  | _, _, _, _, .nil, h => h
  | _, _, _, _, .cons a t, h => .cons a (ArL.app t h)
/-! a thing that is only read: lists stay changeable -/

end
section
variable {P : Program} {w : World} {K : PySem.W.Frag} {mg : Str → Option Value} {base : Heap}
local macro_rules | `(tactic| get_elem_tactic_trivial) => `(tactic| (repeat first | exact Wk.nil | exact Wk'.nil | refine Wk.same ?_ | refine Wk'.same ?_ | refine Wk.un (fun _ z => nomatch z) ?_ | refine Wk'.un ?_))
/-! while -/

end
section
variable {P : Program} {w : World} {K : PySem.W.Frag} {mg : Str → Option Value} {base : Heap}
local macro_rules | `(tactic| get_elem_tactic_trivial) => `(tactic| (repeat first | exact Wk.nil | exact Wk'.nil | refine Wk.same ?_ | refine Wk'.same ?_ | refine Wk.un (fun _ z => nomatch z) ?_ | refine Wk'.un ?_))
/-! things of a class, read: e.f and e.m(..) -/
structure FldOk (K : PySem.W.Frag) (c f : Str) : Prop where
  cls : Cls K (He.ga K c)
  no : NoAttr K (He.ga K c) f
/-! C(.., k=..): a thing made, its fields as given -/
def spIni (K : PySem.W.Frag) (c : Str) (ns : List Str) (ok : List Dt → Prop) : Sp := fun vs H Q _ => ∃ (p dx : Addr) (us : List V) (ds : List Dt) (C : Hp), vs = .ref p :: us ∧ H p = some (.ins (He.ga K c) dx []) ∧ RpL K C us ds ∧ ok ds ∧ ns.length = us.length ∧ ∀ G : Hp, G p = some (.ins (He.ga K c) dx (ns.zip us)) → But p H G → Q .non G

end
section
variable {P : Program} {w : World} {K : PySem.W.Frag} {mg : Str → Option Value} {base : Heap}
local macro_rules | `(tactic| get_elem_tactic_trivial) => `(tactic| (repeat first | exact Wk.nil | exact Wk'.nil | refine Wk.same ?_ | refine Wk'.same ?_ | refine Wk.un (fun _ z => nomatch z) ?_ | refine Wk'.un ?_))
/-! [e for x in it if t for y in it2 if u] -/

end
section
variable {P : Program} {w : World} {K : PySem.W.Frag} {mg : Str → Option Value} {base : Heap}
local macro_rules | `(tactic| get_elem_tactic_trivial) => `(tactic| (repeat first | exact Wk.nil | exact Wk'.nil | refine Wk.same ?_ | refine Wk'.same ?_ | refine Wk.un (fun _ z => nomatch z) ?_ | refine Wk'.un ?_))
/-! t.index(x) of a module's tuple of texts; [..].index(x) -/
/-! o.m(k=..) -/

end
section
variable {P : Program} {w : World} {K : PySem.W.Frag} {mg : Str → Option Value} {base : Heap}
local macro_rules | `(tactic| get_elem_tactic_trivial) => `(tactic| (repeat first | exact Wk.nil | exact Wk'.nil | refine Wk.same ?_ | refine Wk'.same ?_ | refine Wk.un (fun _ z => nomatch z) ?_ | refine Wk'.un ?_))
/-! a call that moves the drawer alone and tells a datum without lists: lists stay changeable -/
open Classical in
open Classical in
section
variable {B : Bs} {C H : Hp} {σ : L2.St} {ρ : List Sl}
end

end
section
variable {P : Program} {w : World} {K : PySem.W.Frag} {mg : Str → Option Value} {base : Heap}
local macro_rules | `(tactic| get_elem_tactic_trivial) => `(tactic| (repeat first | exact Wk.nil | exact Wk'.nil | refine Wk.same ?_ | refine Wk'.same ?_ | refine Wk.un (fun _ z => nomatch z) ?_ | refine Wk'.un ?_))

end
section
variable {P : Program} {w : World} {K : PySem.W.Frag} {mg : Str → Option Value} {base : Heap}
local macro_rules | `(tactic| get_elem_tactic_trivial) => `(tactic| (repeat first | exact Wk.nil | exact Wk'.nil | refine Wk.same ?_ | refine Wk'.same ?_ | refine Wk.un (fun _ z => nomatch z) ?_ | refine Wk'.un ?_))
/-! errors of the program's own as values -/
theorem oexB_ok {K : PySem.W.Frag} {C : Addr} (h : oexB K C = true) : ∃ nm q N bs bm sn sub ab col dd k0 k1 k2 k3 k5, K.lookup C = some (excClassObj nm q C N bs bm true sn sub ab col dd k0 k1 k2 k3 k5 "ValueError.__new__") ∧ PySem.HandSPX.refsVE bm = true := by
  unfold oexB at h
  split at h
  · next dd cd sl lk =>
    split at h
    · next D bm k0 k1 k2 k3 n k5 hm hs =>
      obtain ⟨h1, h⟩ := He.ba h
      obtain ⟨h2, h⟩ := He.ba h
      obtain ⟨h3, h⟩ := He.ba h
      obtain ⟨h4, h5⟩ := He.ba h
      have e1 : D = C := beq_iff_eq.mp h1
      have e2 : n = "ValueError.__new__" := beq_iff_eq.mp h2
      obtain ⟨nm, bs, mro, ns, qn, hd, sn, sub, ab, col, del⟩ := cd
      dsimp only at hm h3 h4
      have e3 : del = false := by cases del <;> simp_all
      obtain ⟨l⟩ := sl
      have e4 : l = [k0, k1, k2, k3, some (.builtin n), k5] := hs
      subst e1 e2 e3 e4 hm h4
      exact ⟨nm, qn, ns, bs, bm, sn, sub, ab, col, dd, k0, k1, k2, k3, k5, lk, h5⟩
    · cases h
  · cases h
/-- what the written part says of an error's class -/
structure ECl (K : PySem.W.Frag) (C fI : Addr) : Prop where
  ox : OexC K C
  ga : PySem.W.findIn K (.ref C) "__getattribute__" = some (some (.builtin "BaseException.__getattribute__"))
  gg : PySem.W.findIn K (.ref C) "__getattr__" = some none
  hd : PySem.W.hasDictIn K C = true
  cl : PySem.W.findIn K (.ref C) "__class__" = some (some (.builtin "object.__class__"))
  sp : PySem.W.specialIn K (.builtin "object.__class__") "__get__" = some (some (.builtin "getset_descriptor.__get__"))
  tk : PySem.W.takesIn K (.builtin "object.__class__") = some true
  mo : PySem.W.mroIn K C (.type "object") = some true
  wh : PySem.W.findIn K (.ref C) "what" = some none
  ini : PySem.W.findIn K (.ref C) "__init__" = some (some (.ref fI))
  fty : PySem.W.typeIn K (.ref fI) = some (.type "function")
theorem eclB_ok {K : PySem.W.Frag} {C fI : Addr} (h : eclB K C fI = true) : ECl K C fI := by
  obtain ⟨h1, h⟩ := He.ba h
  obtain ⟨h2, h⟩ := He.ba h
  obtain ⟨h3, h⟩ := He.ba h
  obtain ⟨h4, h⟩ := He.ba h
  obtain ⟨h5, h⟩ := He.ba h
  obtain ⟨h6, h⟩ := He.ba h
  obtain ⟨h7, h⟩ := He.ba h
  obtain ⟨h8, h⟩ := He.ba h
  obtain ⟨h9, h⟩ := He.ba h
  obtain ⟨h10, h⟩ := He.ba h
  obtain ⟨h11, h⟩ := He.ba h
  obtain ⟨h12, h⟩ := He.ba h
  obtain ⟨h13, h⟩ := He.ba h
  obtain ⟨h14, h15⟩ := He.ba h
  exact ⟨⟨oexB_ok h1, He.eqO_ok h2, of_decide_eq_true h3, of_decide_eq_true h4, h5⟩, He.eqO_ok h6, He.eqO_ok h7, h8, He.eqO_ok h9, He.eqO_ok h10, of_decide_eq_true h11, of_decide_eq_true h12, He.eqO_ok h13, He.eqO_ok h14, of_decide_eq_true h15⟩
theorem err_cl {K : PySem.W.Frag} {root : Str} {cs : List Str} (h : errOk K root cs = true) {c : Str} (hc : c ∈ cs) : ECl K (He.ga K c) (He.ma K (He.ga K root) "__init__") :=
  eclB_ok (He.ba (List.all_eq_true.mp h c hc)).1
theorem err_is {K : PySem.W.Frag} {root : Str} {cs : List Str} (h : errOk K root cs = true) {c e : Str} (hc : c ∈ cs) (he : e ∈ cs) : PySem.W.kitOne K (.ref (He.ga K c)) (.ref (He.ga K e)) = some (decide (e = c) || decide (e = root)) :=
  of_decide_eq_true (He.ba (List.all_eq_true.mp (He.ba (He.ba (List.all_eq_true.mp h c hc)).2).2 e he)).1
/-- an error of class c, in the clause of class e -/
theorem err_ex {K : PySem.W.Frag} {root : Str} {cs : List Str} (h : errOk K root cs = true) {c e : Str} (hc : c ∈ cs) (he : e ∈ cs) : PySem.W.exmOne K (.ref (He.ga K c)) (.ref (He.ga K e)) = some (decide (e = c) || decide (e = root)) :=
  PySem.W.exm_ref (err_cl h he).ox.exC (err_cl h he).hd (err_cl h he).ox.tyC (of_decide_eq_true (He.ba (List.all_eq_true.mp (He.ba (He.ba (List.all_eq_true.mp h c hc)).2).2 e he)).2)
end
section
variable {P : Program} {w : World} {K : PySem.W.Frag} {mg : Str → Option Value} {base : Heap}
local macro_rules | `(tactic| get_elem_tactic_trivial) => `(tactic| (repeat first | exact Wk.nil | exact Wk'.nil | refine Wk.same ?_ | refine Wk'.same ?_ | refine Wk.un (fun _ z => nomatch z) ?_ | refine Wk'.un ?_))
open PySem.W PySem.Calls PySem.HandSPX
section
variable {M : Model} {A : Around} {E : Value → Shared → Prop} {h : Heap} {g : Array GenState} {d : Drawn} {t : Nat} {os : OsState}
variable {nm q : Str} {C N : Addr} {bs bm : List Value} {hdct : Bool} {sn : List Str} {sub : List Value} {ab : Bool} {col : Option Bool} {dd : Option Addr} {k0 k1 k2 k3 k5 : Option Value}
end
section
variable {prog : Program} {w : World} {A : Around} {E : Value → Shared → Prop} {R : Result → Shared → Prop} {h : Heap} {g : Array GenState} {d : Drawn} {t : Nat} {os : OsState}
variable {nm q : Str} {C N : Addr} {bs bm : List Value} {hdct : Bool} {sn : List Str} {sub : List Value} {ab : Bool} {col : Option Bool} {dd : Option Addr} {k0 k1 k2 k3 k5 : Option Value}
end
/-! C(e) and C(what=e) as values -/
def spInitE (K : PySem.W.Frag) : Sp := fun vs H Q _ => ∃ (a C fI : Addr) (v : V), vs = [.ref a, v] ∧ H a = some (exo a C none) ∧ ECl K C fI ∧ ∀ d, H d = none → d ≠ a → Q .non (upd (upd H d (exd d [(("what" : Str), v)])) a (exo a C (some d)))
section
variable {X : Cx} {x : Str} {C fI : Addr} {k : Nat} {fd : FuncData} {p pos : Pos}
end

end
section
variable {P : Program} {w : World} {K : PySem.W.Frag} {mg : Str → Option Value} {base : Heap}
local macro_rules | `(tactic| get_elem_tactic_trivial) => `(tactic| (repeat first | exact Wk.nil | exact Wk'.nil | refine Wk.same ?_ | refine Wk'.same ?_ | refine Wk.un (fun _ z => nomatch z) ?_ | refine Wk'.un ?_))
/-! an error that is caught and kept behind its suite -/
theorem exv_ok {P : Program} {w : World} {H : Hp} {h : Heap} {a : Addr} {cls : Value} {d : Option Addr} {oe : Obj} {vs : Array Value} (e : h.get? a = some oe) (z : Zc cls d oe) (q : oe.data = .fields vs) : ObjOk P w H h a (exv a cls d) :=
  ⟨⟨oe, vs, e, z, q⟩, ⟨oe, e⟩, fun _ _ ⟨o, v, q, r⟩ k => ⟨o, v, k o q, r⟩⟩
theorem exv_at {P : Program} {w : World} {H : Hp} {h : Heap} {a : Addr} {cls : Value} {d : Option Addr} (hok : HOk P w H h) (he : H a = some (exv a cls d)) : ∃ (oe : Obj) (vs : Array Value), h.get? a = some oe ∧ Zc cls d oe ∧ oe.data = .fields vs := by
  have x : ObjOk P w H h a (.ext fun h => ∃ (oe : Obj) (vs : Array Value), h.get? a = some oe ∧ Zc cls d oe ∧ oe.data = .fields vs) := hok a _ he
  exact x.1
/-- an object that stands untracked, and that stood nowhere at the entry, is tracked from here on -/
theorem inv_track {X : Cx} {pins : List (Addr × Obj)} {σ : L2.St} {H : Hp} {s : Shared} {a : Addr} {o : HO} (I : Inv X pins σ H s) (na : H a = none) (new : ObjOk X.prog X.w (upd H a o) s.heap a o) (n0 : X.s_0.heap.get? a = none) (np : ∀ p ∈ X.pn ++ pins, p.1 ≠ a) (nL : a ≠ X.env.locals)
    (nC : ∀ x c, X.env.cells.lookup x = some c → c ≠ a) : Inv X pins σ (upd H a o) s := by
  have ne0 : ∀ b u, X.s_0.heap.get? b = some u → b ≠ a := fun b u e z => by
    rw [z, n0] at e
    cases e
  refine ⟨I.ok, I.os, I.bare, ⟨I.base.keep, I.base.slot, fun b u e n hx => ?_, I.base.there, fun b xs e => ?_, fun b u v e => ?_, fun b ps e => ?_⟩, I.loc, I.cell, ?_, fun x c e => ?_, fun p hp => ?_, fun b u e => ?_, I.len⟩
  · rw [upd_ne (ne0 b u e)]
    exact I.base.free b u e n hx
  · have q := I.base.tups b xs e
    rw [upd_ne (ne_of_none q na)]
    exact q
  · have q := I.base.frzs b u v e
    rw [upd_ne (ne_of_none q na)]
    exact q
  · obtain ⟨m, q⟩ := I.base.tbls b ps e
    exact ⟨m, by rw [upd_ne (ne_of_none q na)]; exact q⟩
  · rw [upd_ne (Ne.symm nL)]
    exact I.free
  · rw [upd_ne (nC x c e)]
    exact I.freeC x c e
  · obtain ⟨e, n, ne, nf, d⟩ := I.pin p hp
    exact ⟨e, by rw [upd_ne (np p hp)]; exact n, ne, nf, d⟩
  · by_cases hb : b = a
    · subst hb
      rw [upd_same] at e
      cases e
      exact new
    · rw [upd_ne hb] at e
      exact (I.hok b u e).stay (fun _ _ _ q => q) (fun c q => by rw [upd_ne (ne_of_none q na)]; exact q) fun c xs q => by rw [upd_ne (ne_of_none q na)]; exact q
/-- a stands nowhere at the entry, is no pin and no cell -/
structure NewAt (X : Cx) (pq : List (Addr × Obj)) (a : Addr) : Prop where
  n0 : X.s_0.heap.get? a = none
  np : ∀ p ∈ X.pn ++ pq, p.1 ≠ a
  nc : ∀ y k, X.env.cells.lookup y = some k → k ≠ a
  nl : a ≠ X.env.locals
  nf : a ∉ X.fs
theorem newAt_of {X : Cx} {pq : List (Addr × Obj)} {r : L2.St} {G : Hp} {t : Shared} {B h : Heap} {a : Addr} {Z : Obj → Prop} (hx : X.ex = []) (hs : X.stack = X.env :: X.outer) (hf : X.env.frame = some X.env.locals) (J : Inv X pq r G t)
    (gr : ∀ b o, t.heap.get? b = some o → b ∉ frs X.stack → B.get? b = some o) (fl : HandSPX.FlyingZ B (X.env :: X.outer) a Z h) : NewAt X pq a := by
  obtain ⟨oe, vs, he, _, hd⟩ := fl.there
  have out : a ∉ frs (X.env :: X.outer) := fun hm => by
    obtain ⟨_, o', e', z⟩ := fl.2.2.1.mem hm
    rw [he] at e'
    cases e'
    exact z _ hd
  have nI : t.heap.get? a = none := by
    cases e : t.heap.get? a with
    | none => rfl
    | some o =>
      have z := gr a o e (by rw [hs]; exact out)
      rw [fl.2.1] at z
      cases z
  refine ⟨?_, fun p hp z => ?_, fun y k e z => ?_, fun z => out ?_, fun hm => out ?_⟩
  · cases e : X.s_0.heap.get? a with
    | none => rfl
    | some o =>
      obtain ⟨o', z⟩ := J.base.there a o e (by rw [hx]; exact fun z => nomatch z)
      rw [nI] at z
      cases z
  · have e := (J.pin p hp).1
    rw [z, nI] at e
    cases e
  · obtain ⟨v, o, ho, _⟩ := J.cell y k e
    rw [z, nI] at ho
    cases ho
  · exact List.mem_filterMap.mpr ⟨X.env, List.mem_cons_self, by rw [hf, z]⟩
  · obtain ⟨e, he, q⟩ := List.mem_filterMap.mp hm
    exact List.mem_filterMap.mpr ⟨e, List.mem_cons_of_mem _ he, q⟩
end
section
variable {P : Program} {w : World} {K : PySem.W.Frag} {mg : Str → Option Value} {base : Heap}
local macro_rules | `(tactic| get_elem_tactic_trivial) => `(tactic| (repeat first | exact Wk.nil | exact Wk'.nil | refine Wk.same ?_ | refine Wk'.same ?_ | refine Wk.un (fun _ z => nomatch z) ?_ | refine Wk'.un ?_))
section
variable {X : Cx} {x n : Str} {c : Value} {i : Nat} {body rest : List Stmt} {b1 : Stmt} {np at1 at2 : Pos} {tb : WX → TS} {ts : Addr → Value → Option Addr → TS} {Wo : WX}
/-- what the suite is asked for, where the error at a is tracked behind it -/
def keepD (D : Ends) (i : Nat) (a : Addr) (cls : Value) (d : Option Addr) : Ends := { nx := fun r G => D.nx (r.set i none) (upd G a (exv a cls d)), rt := fun v G => D.rt v (upd G a (exv a cls d)), bk := fun r G => D.bk (r.set i none) (upd G a (exv a cls d)), ct := fun r G => D.ct (r.set i none) (upd G a (exv a cls d)) }
/-- what 'except x as n' asks of the body's error -/
def kpX (K : PySem.W.Frag) (c : Value) (i : Nat) (ts : Addr → Value → Option Addr → TS) (Wo : WX) (D : Ends) : WX := fun cls d r G =>
  ∃ b, PySem.W.exmOne K cls c = some b ∧ (b = true → ∀ a, G a = none → ts a cls d (keepD D i a cls d) (r.set i (some (.ref a))) G) ∧ (b = false → Wo cls d r G)
/-- the suite's end: the name goes, the error stays, tracked -/
theorem keep_end {pq : List (Addr × Obj)} {t : Shared} {D : Ends} {a : Addr} {oe : Obj} {vs : Array Value} {cls : Value} {d : Option Addr} {f : Flow} (ok : X.Ok) (nw : NewAt X pq a) (hz : Zc cls d oe) (hd : oe.data = .fields vs) (hN : X.N.Nodup) (hi : X.N[i]? = some n) (hl : X.env.kindOf n = some .local)
    (S : SP (X.suite a ((a, oe) :: (X.pn ++ pq))) [] (keepD D i a cls d) f t) :
    wpAny (model X.prog X.w) X.A (do bindName X.env n .none; unbindBehindTheSuite X.env n at2) (fun _ t2 => SP X pq D f t2) X.xe t := by
  have go : ∀ {r : L2.St} {G : Hp}, Inv (X.suite a ((a, oe) :: (X.pn ++ pq))) [] r G t → Inv X pq r (upd G a (exv a cls d)) t := fun {r G} S => by
    obtain ⟨e, z, _⟩ := S.pin (a, oe) (List.mem_append_left _ List.mem_cons_self)
    exact inv_track (S.unsuite ok) z (exv_ok e hz hd) nw.n0 nw.np nw.nl nw.nc
  cases f with
  | ret u =>
    obtain ⟨v, r, G, S, rv, q⟩ := S
    exact gone_ok (go S) hN hi hl fun t2 J => ⟨_, _, _, J, rv, q⟩
  | next =>
    obtain ⟨r, G, S, q⟩ := S
    exact gone_ok (go S) hN hi hl fun t2 J => ⟨_, _, J, q⟩
  | brk =>
    obtain ⟨r, G, S, q⟩ := S
    exact gone_ok (go S) hN hi hl fun t2 J => ⟨_, _, J, q⟩
  | cont =>
    obtain ⟨r, G, S, q⟩ := S
    exact gone_ok (go S) hN hi hl fun t2 J => ⟨_, _, J, q⟩
/-- the one clause, looked at by an error in the air -/
theorem keep_clause {pq : List (Addr × Obj)} {D : Ends} {a : Addr} {B : Heap} {tI t : Shared} {r : L2.St} {G : Hp} {cls : Value} {d : Option Addr} (hx : X.ex = []) (hs : X.stack = X.env :: X.outer) (hf : X.env.frame = some X.env.locals) (hN : X.N.Nodup) (hi : X.N[i]? = some n) (hl : X.env.kindOf n = some .local)
    (hc : Names X x c) (tk : Takes X Wo) (hsu : ∀ (a : Addr) (oe : Obj) (cls : Value) (d : Option Addr) (pn : List (Addr × Obj)), Zc cls d oe → (∃ vs, oe.data = .fields vs) → PSs (X.suite a ((a, oe) :: pn)) (b1 :: rest) (ts a cls d))
    (J : Inv X pq r G tI) (gr : ∀ b o, tI.heap.get? b = some o → b ∉ frs X.stack → B.get? b = some o) (up : tI.heap.UpToSlots t.heap) (fl : HandSPX.FlyingZ B (X.env :: X.outer) a (Zc cls d) t.heap) (na : G a = none) (os : t.os = tI.os) (ag : AllBare t.gens) (wk : kpX X.K c i ts Wo D cls d r G) :
    wpAny (model X.prog X.w) X.A (handleBy (.ref a) X.env [.ExceptHandler (some (.Name x np)) (some n) (b1 :: rest) at2]) (SP X pq D) X.xe t := by
  obtain ⟨b, is, yes, no⟩ := wk
  have nw := newAt_of hx hs hf J gr fl
  have I1 : Inv X pq r G t := J.landed gr fl.1 up os ag
  obtain ⟨o1, v1, h1, z1, d1⟩ := fl.there
  have S1 := I1.suite h1 d1 na nw.nl nw.nf
  refine wpAny_handleBy_cons (codeAny_handlers_test ?_) (fun q => nomatch q)
  have lt : PySem.W.Looks (model X.prog X.w) t.heap (typeOf (.ref a)) cls := fun _ _ _ _ k q => wpAny_typeOf_ref (k _ _ h1) (by rw [z1.1]; exact q)
  have lm := PySem.W.exm_one (M := model X.prog X.w) I1.kIn lt is
  have named : ∀ {Q : Value → Shared → Prop} {F : Value → Shared → Prop}, Q c t → wpAny (model X.prog X.w) (X.A.mark (some (.ref a))) (eval (.Name x np) X.env) Q F t := fun {Q F} q => by
    obtain ⟨g, db, m | ⟨m, bv, nn⟩⟩ := hc
    · exact ld_glob (X := X.suite a ((a, o1) :: (X.pn ++ pq))) S1 g m q db
    · exact ld_blt (X := X.suite a ((a, o1) :: (X.pn ++ pq))) S1 g m bv q nn db
  refine named (lm.here ?_)
  cases b with
  | true =>
    refine codeAny_handlers_suite_as (HandSPX.lands_againZ fl fun h2 fl2 up2 => ?_)
    have I2 : Inv X pq r G { t with heap := h2 } := J.landed gr fl2.1 (up.trans up2) os ag
    obtain ⟨o2, v2, e2, z2, d2⟩ := fl2.there
    refine store_ok (X := X.suite a ((a, o2) :: (X.pn ++ pq))) (v := .ref a) (I2.suite e2 d2 na nw.nl nw.nf) hN hi (.inl hl) rfl (fun t3 S3 => ?_) (.inr hl)
    exact wpAny_mono ((hsu a o2 cls d (X.pn ++ pq) z2 ⟨_, d2⟩).run [] t3 _ G _ S3 (yes rfl a na)) (fun f t4 sp => keep_end J.ok nw z2 d2 hN hi hl sp) fun _ _ z => z.elim
  | false =>
    show wpAny _ X.A (handleBy (.ref a) X.env []) _ _ _
    refine wpAny_handleBy_nil ?_
    obtain ⟨oe, vs, T, oT, tt, he, hz, hd, hT, _⟩ := fl.2.2.2
    unfold PySem.passOn
    refine wpAny_bind (wpAny_field he hd hT ?_)
    rw [if_neg (show ¬ ((Value.ref T == Value.none) = true) from by simp)]
    have fin : wpAny (model X.prog X.w) X.A (setFlight (.ref a) X.env.frame) (fun _ t4 => wpAny (model X.prog X.w) X.A (throw (.ref a) : Sem Flow) (SP X pq D) X.xe t4) X.xe t := by
      rw [hf]
      exact HandSPX.setFlight_upZ fl fun h4 hh up4 => wpAny_throw (tk _ _ ⟨a, B, tI, pq, r, G, cls, d, rfl, J, gr, up.trans up4, .inr (.inr (by rw [hs]; exact hh)), na, os, ag, no rfl⟩)
    first
      | exact wpAny_bind (wpAny_pure (wpAny_bind fin))
      | exact wpAny_bind fin
/-- try: body / except x as n: suite, where the suite may keep the error: it is tracked behind it -/
theorem ps_try_keep (hx : X.ex = []) (hs : X.stack = X.env :: X.outer) (hf : X.env.frame = some X.env.locals) (hN : X.N.Nodup) (hi : X.N[i]? = some n) (hl : X.env.kindOf n = some .local) (hc : Names X x c) (tk : Takes X Wo)
    (hb : ∀ (W : WX) (pn : List (Addr × Obj)) (xe : Value → Shared → Prop), Takes (X.tr pn xe) W → PassesOwn (model X.prog X.w) X.A X.env xe → PSs (X.tr pn xe) body (tb W))
    (hsu : ∀ (a : Addr) (oe : Obj) (cls : Value) (d : Option Addr) (pn : List (Addr × Obj)), Zc cls d oe → (∃ vs, oe.data = .fields vs) → PSs (X.suite a ((a, oe) :: pn)) (b1 :: rest) (ts a cls d)) :
    PS X (.Try body [.ExceptHandler (some (.Name x np)) (some n) (b1 :: rest) at2] [] [] at1) (fun D r G => tb (kpX X.K c i ts Wo D) D r G) := by
  refine ⟨fun pq s r G D I h => wpAny_Try_except ?_⟩
  have fr : X.A.frames = some (X.env :: X.outer) := by rw [I.ok.frames, hs]
  refine wpAny_mono ((hb (kpX X.K c i ts Wo D) (X.pn ++ pq) (fun e t1 => wpAny (model X.prog X.w) X.A (noteFrame e X.env) (fun _ t2 => wpAny (model X.prog X.w) X.A (setFlight e none) (fun _ t3 =>
    wpAny (model X.prog X.w) X.A (handleBy e X.env [.ExceptHandler (some (.Name x np)) (some n) (b1 :: rest) at2]) (SP X pq D) X.xe t3) X.xe t2) X.xe t1) (fun u t z => ?_) PassesOwn.looking).run [] s r G D (I.toTry _) h) (fun f t z => ?_) (fun _ _ z => z)
  · obtain ⟨a, B, tI, _, r', G', cls, d, rfl, J, gr, up, sky, na, os, ag, wk⟩ := z
    refine Sky.land Zc.steady fr hf (by rw [← hs]; exact sky) fun h3 fl up3 => ?_
    exact keep_clause (t := { t with heap := h3 }) hx hs hf hN hi hl hc tk hsu (J.ofTry I.ok) gr (up.trans up3) fl na os ag wk
  · cases f with
    | ret u =>
      obtain ⟨v, r', G', J, rv, q⟩ := z
      exact ⟨v, r', G', J.ofTry I.ok, rv, q⟩
    | next =>
      obtain ⟨r', G', J, q⟩ := z
      exact wpAny_execs_nil ⟨r', G', J.ofTry I.ok, q⟩
    | brk =>
      obtain ⟨r', G', J, q⟩ := z
      exact ⟨r', G', J.ofTry I.ok, q⟩
    | cont =>
      obtain ⟨r', G', J, q⟩ := z
      exact ⟨r', G', J.ofTry I.ok, q⟩
end
end
section
variable {P : Program} {w : World} {K : PySem.W.Frag} {mg : Str → Option Value} {base : Heap}
local macro_rules | `(tactic| get_elem_tactic_trivial) => `(tactic| (repeat first | exact Wk.nil | exact Wk'.nil | refine Wk.same ?_ | refine Wk'.same ?_ | refine Wk.un (fun _ z => nomatch z) ?_ | refine Wk'.un ?_))
/-- a caught error of the class at C at a; it bears v -/
def Caught (H : Hp) (a C : Addr) (v : V) : Prop := ∃ d fs, H a = some (exv a (.ref C) (some d)) ∧ H d = some (.xd fs) ∧ fs.lookup ("what" : Str) = some v
theorem inst_caught {X : Cx} {pins : List (Addr × Obj)} {σ : L2.St} {H : Hp} {s : Shared} {a C : Addr} {v : V} (I : Inv X pins σ H s) (e : Caught H a C v) :
    ∃ oe od u, PySem.W.InstAt s.heap a oe C (some od) ∧ PySem.W.lookIn "what" od = some (some u) ∧ RelV v u := by
  obtain ⟨d, fs, h1, h2, h3⟩ := e
  obtain ⟨oe, vs, q1, z, q2⟩ := exv_at I.hok h1
  obtain ⟨mA, hn, hr⟩ : ObjOk X.prog X.w H s.heap d (.xd fs) := I.hok d _ h2
  obtain ⟨od, ho, hl⟩ := lookIn_ns hn
  obtain ⟨u, hu, ru⟩ := RelO.some_of (v := v) (o := mA "what") (by rw [← h3]; exact hr "what")
  exact ⟨oe, od, u, ⟨q1, z.1, by unfold PySem.W.notCls; rw [q2] <;> rfl, by rw [z.2]; exact ho⟩, by rw [hl, hu], ru⟩
/-- isinstance(e, c) of a caught one -/
def rIsC (K : PySem.W.Frag) : List V → Hp → VK → Prop := fun xs H Q => ∃ (a D fI : Addr) (w c : V) (u : Value) (b : Bool), xs = [.ref a, c] ∧ ClsV c u ∧ Caught H a D w ∧ ECl K D fI ∧ PySem.W.kitOne K (.ref D) u = some b ∧ Q (.bl b) H
theorem call_isC {X : Cx} : CallR X (.builtin "isinstance") (rIsC X.K) := by
  intro pins s σ H xs us Q I r h
  obtain ⟨a, D, fI, w, c, u, b, rfl, hc, he, T, hk, q⟩ := h
  obtain ⟨u1, u2, rfl, r1, r2⟩ := vals2 r
  obtain rfl : u1 = Value.ref a := r1
  have e2 := hc.eq r2
  subst e2
  obtain ⟨oe, od, z, J, _, _⟩ := inst_caught I he
  have hcl : (PySem.W.clsIn X.K D).isSome = true := by
    have := T.hd
    unfold PySem.W.hasDictIn at this
    cases e : PySem.W.clsIn X.K D with
    | none => rw [e] at this; cases this
    | some _ => rfl
  exact PySem.W.kia_one (PySem.W.kitx_exc (od := some od) hcl T.ga T.gg T.ox.exC T.cl T.sp T.tk T.mo) I.kIn J hk (fun z => nomatch z) fun tk => ⟨.bl b, H, I.tok tk, rfl, q⟩
/-- e.what of a caught one -/
def tWhatC (K : PySem.W.Frag) (te : TE) : TE := fun σ H Q => te σ H fun x H1 => ∃ (a D fI : Addr) (v : V), x = .ref a ∧ Caught H1 a D v ∧ ECl K D fI ∧ Q v H1
theorem pe_whatC {X : Cx} {e : Expr} {te : TE} {pos : Pos} (he : PE X e te) (hb : attributeBase e "what" X.env (eval e X.env) = eval e X.env := by rfl) : PE X (.Attribute e "what" pos) (tWhatC X.K te) := by
  refine ⟨fun pins s σ H Q I h => ?_⟩
  refine attr_of hb (thn (he.run pins s σ H _ I h) fun u s1 hh => ?_)
  obtain ⟨x, H1, I1, rx, a, D, fI, v, ex, er, T, q⟩ := hh
  subst ex
  obtain rfl : u = Value.ref a := rx
  obtain ⟨oe, od, z, J, hl, rz⟩ := inst_caught I1 er
  exact HandSPX.exc_get I1.kIn J T.ga T.gg T.ox.exC (PySem.W.findObj_own T.hd T.wh rfl hl) (handed_of rz) ⟨v, H1, I1.tok _, rz, q⟩

end
section
variable {P : Program} {w : World} {K : PySem.W.Frag} {mg : Str → Option Value} {base : Heap}
local macro_rules | `(tactic| get_elem_tactic_trivial) => `(tactic| (repeat first | exact Wk.nil | exact Wk'.nil | refine Wk.same ?_ | refine Wk'.same ?_ | refine Wk.un (fun _ z => nomatch z) ?_ | refine Wk'.un ?_))
/-! an own error made to be raised, its context none: what a suite that raises anew asks of the body's errors -/
section
variable {X : Cx} {x : Str} {C fI : Addr} {k : Nat} {fd : FuncData} {p pos : Pos}
end
end
section
variable {P : Program} {w : World} {K : PySem.W.Frag} {mg : Str → Option Value} {base : Heap}
local macro_rules | `(tactic| get_elem_tactic_trivial) => `(tactic| (repeat first | exact Wk.nil | exact Wk'.nil | refine Wk.same ?_ | refine Wk'.same ?_ | refine Wk.un (fun _ z => nomatch z) ?_ | refine Wk'.un ?_))

end
section
variable {P : Program} {w : World} {K : PySem.W.Frag} {mg : Str → Option Value} {base : Heap}
local macro_rules | `(tactic| get_elem_tactic_trivial) => `(tactic| (repeat first | exact Wk.nil | exact Wk'.nil | refine Wk.same ?_ | refine Wk'.same ?_ | refine Wk.un (fun _ z => nomatch z) ?_ | refine Wk'.un ?_))
/-! defs that raise, over data -/
def ExAt (K : PySem.W.Frag) (C : Hp) (cls : Value) (dd : Option Addr) (c : Str) (d : Dt) : Prop := cls = .ref (He.ga K c) ∧ ∃ (a : Addr) (v : V), dd = some a ∧ C a = some (.xd [(("what" : Str), v)]) ∧ Rp K C v d
abbrev XE' := Str → Dt → List Sl → Prop
/-- what is asked of an error that leaves -/
def MeetsX (K : PySem.W.Frag) (B : Bs) (Ξ : XE') (W : WX) : Prop := ∀ (C' G : Hp) (σ : L2.St) (ρ : List Sl) (cls : Value) (dd : Option Addr) (c : Str) (d : Dt), Sep K B C' G σ ρ → ExAt K C' cls dd c d → Ξ c d ρ → W cls dd σ G
abbrev WEX := List Sl → (Rs → List Sl → Prop) → XE' → Prop
abbrev WNX := List Sl → (List Dt → List Sl → Prop) → XE' → Prop
abbrev WSX := List Sl → Fs → XE' → Prop
class Xd (K : PySem.W.Frag) (W : WX) (t : TE) (w : outParam WEX) : Prop where
  run : ∀ (B : Bs) (C H : Hp) (σ : L2.St) (ρ : List Sl) (Q : VK) (Ψ : Rs → List Sl → Prop) (Ξ : XE'), Sep K B C H σ ρ → w ρ Ψ Ξ → (∀ C' G v r ρ', Sep K B C' G σ ρ' → Same C C' → RsOk K C' σ ρ' v r → Ψ r ρ' → Q v G) → MeetsX K B Ξ W → t σ H Q
class Xn (K : PySem.W.Frag) (W : WX) (t : TE) (w : outParam WNX) : Prop where
  run : ∀ (B : Bs) (C H : Hp) (σ : L2.St) (ρ : List Sl) (Q : VK) (Ψ : List Dt → List Sl → Prop) (Ξ : XE'), Sep K B C H σ ρ → w ρ Ψ Ξ → (∀ C' G a ds ρ', Sep K B C' G σ ρ' → Same C C' → Fr K B C' G σ ρ' a ds → Ψ ds ρ' → Q (.ref a) G) → MeetsX K B Ξ W → t σ H Q
class Xs (K : PySem.W.Frag) (W : WX) (t : TS) (w : outParam WSX) : Prop where
  run : ∀ (B : Bs) (C H : Hp) (σ : L2.St) (ρ : List Sl) (D : Ends) (Φ : Fs) (Ξ : XE'), Sep K B C H σ ρ → w ρ Φ Ξ → Meets K B Φ D → MeetsX K B Ξ W → t D σ H
instance (priority := 100) xd_sd {W : WX} {t : TE} {w : WE} [a : Sd K t w] : Xd K W t (fun ρ Ψ _ => w ρ Ψ) where
  run B C H σ ρ Q Ψ Ξ S h k m := a.run B C H σ ρ Q Ψ S h k
instance (priority := 100) xn_sn {W : WX} {t : TE} {w : WN} [a : Sn K t w] : Xn K W t (fun ρ Ψ _ => w ρ Ψ) where
  run B C H σ ρ Q Ψ Ξ S h k m := a.run B C H σ ρ Q Ψ S h k
instance (priority := 100) xs_ss {W : WX} {t : TS} {w : WS} [a : Ss K t w] : Xs K W t (fun ρ Φ _ => w ρ Φ) where
  run B C H σ ρ D Φ Ξ S h m mx := a.run B C H σ ρ D Φ S h m
def wIfX (wc : WT) (wt wu : WSX) : WSX := fun ρ Φ Ξ => wc ρ fun b ρ1 => if b = true then wt ρ1 Φ Ξ else wu ρ1 Φ Ξ
instance xs_if {W : WX} {tc : TT} {t u : TS} {wc : WT} {wt wu : WSX} [c : Sc K tc wc] [a : Xs K W t wt] [b : Xs K W u wu] : Xs K W (tIfS tc t u) (wIfX wc wt wu) where
  run B C H σ ρ D Φ Ξ S h m mx := c.run B C H σ ρ _ _ S h fun C1 H1 e ρ1 S1 s1 h1 => by
    cases e with
    | true => exact a.run B C1 H1 σ ρ1 _ _ Ξ S1 h1 m mx
    | false => exact b.run B C1 H1 σ ρ1 _ _ Ξ S1 h1 m mx
def wAsgX (w : WEX) (wg : WG) : WSX := fun ρ Φ Ξ => w ρ (fun r ρ1 => store r ρ1 fun a ρ2 => isD a fun x => wg x ρ2 Φ.nx) Ξ
instance (priority := 900) xs_asg {W : WX} {te : TE} {g : TG} {w : WEX} {wg : WG} [a : Xd K W te w] [b : Sg K g wg] : Xs K W (tAsg te g) (wAsgX w wg) where
  run B C H σ ρ D Φ Ξ S h m mx := a.run B C H σ ρ _ _ Ξ S h (fun C1 H1 v1 r1 ρ1 S1 s1 ok1 h1 => by
    obtain ⟨C2, x, ρ2, S2, s2, ok2, h2⟩ := S1.stored ok1 h1
    obtain ⟨d, rd, h3⟩ := isD_run ok2 h2
    exact b.run B C2 H1 σ ρ2 _ _ _ _ S2 rd h3 fun σ' ρ' S' z => m.nx _ _ _ _ S' z) mx
def wAsgNX (i : Nat) (w : WNX) : WSX := fun ρ Φ Ξ => w ρ (fun ds ρ1 => put i (.hot ds) ρ1 Φ.nx) Ξ
instance xs_asgN {W : WX} {te : TE} {i : Nat} {w : WNX} [a : Xn K W te w] : Xs K W (tAsg te (gName i)) (wAsgNX i w) where
  run B C H σ ρ D Φ Ξ S h m mx := a.run B C H σ ρ _ _ Ξ S h (fun C1 H1 a ds ρ1 S1 s1 f z => by
    obtain ⟨h1, h2⟩ := put_run z
    obtain ⟨⟨vs, ha, r⟩, ca, h0, nh⟩ := f
    exact m.nx _ _ _ _ (S1.put (x := some (.ref a)) (s := .hot ds) h1 (fun _ => ⟨a, vs, rfl, ha, r, ca⟩) fun _ b e => by cases e; exact ⟨fun j t _ => nh j t, h0⟩) h2) mx
instance (priority := 1000) xs_retS {W : WX} {te : TE} {w : WE} [a : Sd K te w] : Xs K W (tRet te) (fun ρ Φ _ => wRet w ρ Φ) where
  run B C H σ ρ D Φ Ξ S h m mx := (ss_ret (te := te) (w := w)).run B C H σ ρ D Φ S h m
/-- the base grown within a loop -/
theorem sep_back {B : Bs} {C3 C5 H5 : Hp} {σ5 : L2.St} {ρ5 : List Sl} (gr : Same B.C0 C3) (nw : ∀ a o, C3 a = some o → B.C0 a = none → B.H0 a = none) (z : Sep K ⟨C3, B.H0, B.bx⟩ C5 H5 σ5 ρ5) : Sep K B C5 H5 σ5 ρ5 ∧ Same C3 C5 :=
  ⟨⟨z.cold, z.len, z.sl, z.ne, gr.trans z.grow, fun a o e n => (match q : C3 a with
      | none => z.new a o e q
      | some u => nw a u q n), z.dom, z.keep, z.loc, z.lob, z.par, z.pz⟩, z.grow⟩
theorem Sep.rebase {B : Bs} {C H : Hp} {σ : L2.St} {ρ : List Sl} (S : Sep K B C H σ ρ) : Sep K ⟨C, B.H0, B.bx⟩ C H σ ρ :=
  ⟨S.cold, S.len, S.sl, S.ne, Same.refl _, fun a o e n => (by rw [show C a = none from n] at e; cases e), S.dom, S.keep, S.loc, S.lob, S.par, S.pz⟩
/-! raising calls -/
section
variable {B : Bs} {C H : Hp} {σ : L2.St} {ρ : List Sl}
end
def tCallNS (n m : Nat) (sp : Sp) (gV : List V → List V → List V) (E : L2.St → XK) (t tk : TA) : TE := fun σ H Q => t σ H fun vs H1 => tk σ H1 fun zs H2 => vs.length = n ∧ zs.length = m ∧ sp (gV vs zs) H2 Q (E σ)
section
variable {X : Cx} {CX : CXT} {k n : Nat} {f : Addr} {fd : FuncData} {ps ks : List Str} {sp : Sp} {E : L2.St → XK} {x : Str} {p pos : Pos} {e : Expr} {es : List Expr} {kws : List Keyword} {t tk : TA} {g : List Value → List Value → List Value} {gV : List V → List V → List V}
theorem run_fnNS {pins : List (Addr × Obj)} {σ : L2.St} {H : Hp} {s : Shared} {Q : VK} {us ws : List Value} {vs zs : List V} (F : FnOk X.prog X.w X.K X.mg X.base CX k f fd ps sp) (hr : Room k X.A) (hb : KBn X.K fd ps n ks g gV) (hx : PassesAt CX X σ (E σ))
    (I : Inv X pins σ H s) (r : Vals vs us) (rz : Vals zs ws) (l1 : vs.length = n) (l2 : zs.length = ks.length) (h : sp (gV vs zs) H Q (E σ)) : wpAny (model X.prog X.w) X.A (call (.ref f) us (ks.zip ws)) (EP X pins σ Q) X.xe s := by
  have r2 := hb.rel r rz
  refine wpAny_call (codeAny_mono (F.run X.A X.stack s H ⟨us, ks.zip ws⟩ (g us ws) (gV vs zs) Q (E σ) hr I.env0 (hb.to s us ws I.kIn (r.length.symm.trans l1) (rz.length.symm.trans l2)) r2 h) fun r s' hq => ?_)
  cases r with
  | error e => exact hx pins H s e s' I hq
  | ok fl =>
    cases fl with
    | ret u => exact I.after hq
    | next => exact False.elim hq
    | brk => exact False.elim hq
    | cont => exact False.elim hq
theorem pe_callNS (F : FnOk X.prog X.w X.K X.mg X.base CX k f fd ps sp) (hr : Room k X.A) (hg : Gl X x) (hm : X.mg x = some (.ref f)) (hk : PySem.W.keepIn X.K (.ref f) = true) (hb : KBn X.K fd ps n ks g gV) (hx : ∀ σ, PassesAt CX X σ (E σ))
    (ha : PA X (e :: es) t) (hkw : PK X kws tk) (hall : (backToKw pos (keywordEach kws X.env)).all (·.1.isSome) = true := by rfl) (hks : (backToKw pos (keywordEach kws X.env)).filterMap (·.1) = ks := by rfl)
    (hdb : (x == ("__debug__" : Str)) = false := by decide) (he : starEach (e :: es) X.env = (false, eval e X.env) :: starEach es X.env := by rfl)
    (hpl : ((backTo pos (starEach (e :: es) X.env)).any (·.1) || (backToKw pos (keywordEach kws X.env)).any (·.1.isNone)) = false := by rfl) :
    PE X (.Call (.Name x p) (e :: es) kws pos) (tCallNS n ks.length sp gV E t tk) := by
  refine ⟨fun pins s σ H Q I h => ?_⟩
  refine wpAny_Call_Name_kw (ld_glob I hg hm ?_ hdb)
  refine PySem.W.callWith_KW (h₀ := X.base) I.ok.mod.kin hk hall (thn (ha.run pos pins s σ H _ I h) fun us s1 ⟨vs, H1, I1, r, q⟩ => ?_) hpl he
  refine thn (hkw.run pos pins s1 σ H1 _ I1 q) fun ws s2 ⟨zs, H2, I2, rz, l1, l2, q2⟩ => ⟨I2.kIn, ?_⟩
  rw [hks]
  exact run_fnNS F hr hb (hx σ) I2 r rz l1 l2 q2
end
end
section
variable {P : Program} {w : World} {K : PySem.W.Frag} {mg : Str → Option Value} {base : Heap}
local macro_rules | `(tactic| get_elem_tactic_trivial) => `(tactic| (repeat first | exact Wk.nil | exact Wk'.nil | refine Wk.same ?_ | refine Wk'.same ?_ | refine Wk.un (fun _ z => nomatch z) ?_ | refine Wk'.un ?_))
section
variable {B : Bs} {C H : Hp} {σ : L2.St} {ρ : List Sl}
end
/-! the same where it doesn't raise -/
/-! new lists of raising calls stay changeable -/
end
section
variable {P : Program} {w : World} {K : PySem.W.Frag} {mg : Str → Option Value} {base : Heap}
local macro_rules | `(tactic| get_elem_tactic_trivial) => `(tactic| (repeat first | exact Wk.nil | exact Wk'.nil | refine Wk.same ?_ | refine Wk'.same ?_ | refine Wk.un (fun _ z => nomatch z) ?_ | refine Wk'.un ?_))
/-! raise C(e) -/
def tRaiseD (C : Addr) (ta : TA) (W : WX) : TS := fun _ σ H => ta σ H fun vs H1 => ∃ v, vs = [v] ∧ ∀ d : Addr, H1 d = none → W (.ref C) (some d) σ (upd H1 d (.xd [(("what" : Str), v)]))
theorem err_letD {H1 : Hp} {a C d : Addr} {v : V} (ha : H1 a = none) (hd : (upd H1 a (exo a C none)) d = none) (ne : d ≠ a) :
    H1 d = none ∧ upd (del (upd (upd (upd H1 a (exo a C none)) d (exd d [(("what" : Str), v)])) a (exo a C (some d))) a) d (.xd [(("what" : Str), v)]) = upd H1 d (.xd [(("what" : Str), v)]) := by
  rw [upd_ne ne] at hd
  refine ⟨hd, funext fun b => ?_⟩
  by_cases h1 : b = d
  · rw [h1, upd_same, upd_same]
  · rw [upd_ne h1, upd_ne h1]
    by_cases h2 : b = a
    · rw [h2, del_same, ha]
    · rw [del_ne h2, upd_ne h2, upd_ne h1, upd_ne h2]
section
variable {X : Cx} {x : Str} {C fI : Addr} {k : Nat} {fd : FuncData} {p pos : Pos}
def tMkD (C : Addr) (ta : TA) : L2.St → Hp → XK → Prop := fun σ H Q => ta σ H fun vs H1 => ∃ v, vs = [v] ∧ ∀ d : Addr, H1 d = none → Q (.ref C) (some d) (upd H1 d (.xd [(("what" : Str), v)]))
theorem pmk_errD {e : Expr} {ta : TA} (T : ECl X.K C fI) (F1 : FnOk X.prog X.w X.K X.mg X.base CX0 k fI fd ["self", "what"] (spInitE X.K)) (hr : Room (k + 1) X.A) (hb : Binds X.K fd ["self", "what"] []) (hg : Gl X x) (hm : X.mg x = some (.ref C)) (ha : PA X [e] ta)
    (h1 : (x == ("__debug__" : Str)) = false := by decide) (h2 : starEach [e] X.env = (false, eval e X.env) :: starEach [] X.env := by rfl) (h3 : (backTo pos (starEach [] X.env)).any (·.1) = false := by rfl) :
    L2N.PMk X (.Call (.Name x p) [e] [] pos) (tMkD C ta) := by
  intro pins s σ H Q I h
  obtain ⟨nm, q, N, bs, bm, sn, sub, ab, col, dd, k0, k1, k2, k3, k5, hC, hbm⟩ := T.ox.cls
  refine wpAny_Call_Name_kw (ld_glob I hg hm ?_ h1)
  refine PySem.W.callWith_K (h₀ := X.base) I.ok.mod.kin T.ox.kC (thn (ha.run pos pins s σ H _ I h) fun us s1 ⟨vs, H1, I1, r1, v, ev, q1⟩ => ⟨I1.kIn, ?_⟩) h2 h3
  subst ev
  obtain ⟨u, rfl, ru⟩ := vals1 r1
  show wpAny _ _ (call (.ref C) [u]) _ _ _
  obtain ⟨hp, g, dr, tk, os⟩ := s1
  have hn : H1 (hp.objs.size + 1) = none := I1.hok.fresh (Nat.le_succ _)
  have grow : ∀ b o, hp.get? b = some o → ((hp.push (PySem.W.kdv_tup [u])).push (HandSPX.excO C hp.objs.size)).get? b = some o := fun b o e => Heap.get?_push_of_some _ (Heap.get?_push_of_some _ e)
  have new : ((hp.push (PySem.W.kdv_tup [u])).push (HandSPX.excO C hp.objs.size)).get? (hp.objs.size + 1) = some (HandSPX.excO C hp.objs.size) := by heap_get
  have I2 : Inv X pins σ (upd H1 (hp.objs.size + 1) (exo (hp.objs.size + 1) C none)) ⟨(hp.push (PySem.W.kdv_tup [u])).push (HandSPX.excO C hp.objs.size), g, dr, tk, os⟩ := I1.laid (t' := tk) grow (Nat.le_succ _) (exo_ok new)
  have r2 : Vals [V.ref (hp.objs.size + 1), v] [Value.ref (hp.objs.size + 1), u] := .cons rfl (.cons ru .nil)
  refine wpAny_call (HandSPX.call_own F.excBase_ValueError (fun Y => HandSPX.refsVE_contains Y bm hbm) (I1.kIn _ _ hC) (PySem.W.looks_findIn I1.kIn T.ini) (fun self => PySem.W.bind_fn I1.kIn self T.fty) (by rw [sizeLine_eq]; show 1 ≤ 16777216; decide)
    (codeAny_mono (F1.run _ X.stack _ _ ⟨[Value.ref (hp.objs.size + 1), u], []⟩ [Value.ref (hp.objs.size + 1), u] _
      (fun w' G => w' = .non ∧ ∃ d : Addr, G (hp.objs.size + 1) = some (exo (hp.objs.size + 1) C (some d)) ∧ G d = some (exd d [(("what" : Str), v)]) ∧ H1 d = none ∧ Q (.ref C) (some d) (upd (del G (hp.objs.size + 1)) d (.xd [(("what" : Str), v)])))
      (fun _ _ _ => False) (hr.make C [u] []) (I2.env0.make C [u] []) (hb _ _ I2.kIn rfl) r2 ⟨_, C, fI, v, rfl, upd_same, T, fun d hd ne => ⟨rfl, d, upd_same, ?_, ?_⟩⟩) fun r s' hq' => ?_))
  · rw [upd_ne ne, upd_same]
  · obtain ⟨a1, a2⟩ := err_letD (C := C) (v := v) hn hd ne
    refine ⟨a1, ?_⟩
    rw [a2]
    exact q1 d a1
  · cases r with
    | error er => exact hq'.elim
    | ok fl =>
      cases fl with
      | ret w' =>
        obtain ⟨v2, H2, o2, b2, un2, ok2, rv, ev, d, ea, ed, hd1, q2⟩ := hq'
        subst ev
        obtain ⟨h2, g2, d2, t2, os'⟩ := s'
        obtain ⟨t0, G, J, kG, ge, hoe, na⟩ := mk_end0 (d2 := d2) (t2 := t2) I1 (Nat.le_succ _) grow un2 ok2 o2 b2 ea ed hd1
        exact ⟨rv, hp.objs.size + 1, _, _, ⟨G, g2, d2, t2, os'⟩, _, .ref C, some d, rfl, J, kG, ge, hoe, ⟨rfl, rfl, fun ws hv => by cases hv; rfl⟩, rfl, rfl, na, rfl, b2, raises_own T.ox.exC T.ox.tyC, q2⟩
      | next => exact hq'.elim
      | brk => exact hq'.elim
      | cont => exact hq'.elim
theorem ps_raiseD {W : WX} {e : Expr} {ta : TA} {pos : Pos} (hc : X.calm = true) (tk : L2N.Takes X W) (he : L2N.PMk X e (tMkD C ta)) : PS X (.Raise (some e) none pos) (tRaiseD C ta W) := L2N.ps_raise hc tk he
end
def wRaise (K : PySem.W.Frag) (C : Addr) (wa : WA) : WSX := fun ρ Φ Ξ => wa ρ fun as ρ1 => match as with
  | [.d d] => ∃ c : Str, C = He.ga K c ∧ Ξ c d ρ1
  | _ => False
instance xs_raise {W : WX} {Cl : Addr} {ta : TA} {wa : WA} [a : Sa K ta wa] : Xs K W (tRaiseD Cl ta W) (wRaise K Cl wa) where
  run B C H σ ρ D Φ Ξ S h m mx := a.run B C H σ ρ _ _ S h fun C1 H1 vs as ρ1 S1 s1 ok1 h1 => by
    cases ok1 with
    | nil => exact False.elim h1
    | @cons v vs x as o1 o2 =>
      cases x with
      | b i => cases as <;> exact False.elim h1
      | d x =>
        cases o2 with
        | cons _ _ => exact False.elim h1
        | nil =>
          obtain ⟨c, rfl, z⟩ := h1
          refine ⟨v, rfl, fun dd hd => ?_⟩
          have cd : C1 dd = none := S1.cold.free hd
          exact mx _ _ _ _ _ _ _ _ (S1.alloc (o := .xd [(("what" : Str), v)]) hd) ⟨rfl, dd, v, rfl, upd_same, Rp.same o1 (same_new cd)⟩ z
/-! a def's body that may raise -/
end
section
variable {P : Program} {w : World} {K : PySem.W.Frag} {mg : Str → Option Value} {base : Heap}
local macro_rules | `(tactic| get_elem_tactic_trivial) => `(tactic| (repeat first | exact Wk.nil | exact Wk'.nil | refine Wk.same ?_ | refine Wk'.same ?_ | refine Wk.un (fun _ z => nomatch z) ?_ | refine Wk'.un ?_))
/-! a def whose errors' contexts are none is one that raises -/
theorem FnOk.nl {k : Nat} {f : Addr} {fd : FuncData} {ps : List Str} {sp : Sp} (F : FnOk P w K mg base (L2N.CX P w) k f fd ps sp) : FnOk P w K mg base (L2.CX P w) k f fd ps sp := by
  refine ⟨F.len, fun A outer s H args us vs Q E hr h0 b r h => codeAny_mono (F.run A outer s H args us vs Q E hr h0 b r h) fun r s' q => ?_⟩
  cases r with
  | ok fl => cases fl <;> exact q
  | error e =>
    obtain ⟨a, B, H', cls, d, e1, fl, rest⟩ := q
    exact ⟨a, B, H', cls, d, e1, ⟨fl.1, fl.2.1, fl.2.2.1, by obtain ⟨oe, vs, T, oT, tt, he, hz, r2⟩ := fl.2.2.2; exact ⟨oe, vs, T, oT, tt, he, hz.zc, r2⟩⟩, rest⟩
end
section
variable {P : Program} {w : World} {K : PySem.W.Frag} {mg : Str → Option Value} {base : Heap}
local macro_rules | `(tactic| get_elem_tactic_trivial) => `(tactic| (repeat first | exact Wk.nil | exact Wk'.nil | refine Wk.same ?_ | refine Wk'.same ?_ | refine Wk.un (fun _ z => nomatch z) ?_ | refine Wk'.un ?_))
/-! try .. except .. as .. -/
def tTry (K : PySem.W.Frag) (c : Value) (i : Nat) (tb : WX → TS) (ts : Addr → Value → Option Addr → TS) (Wo : WX) : TS := fun D r G => tb (kpX K c i ts Wo D) D r G
class Su (K : PySem.W.Frag) (i : Nat) (ts : Addr → Value → Option Addr → TS) (w : outParam (Str → Dt → WS)) : Prop where
  run : ∀ (B : Bs) (C G : Hp) (σ : L2.St) (ρ : List Sl) (D : Ends) (Φ : Fs) (a : Addr) (cls : Value) (dd : Option Addr) (c : Str) (d : Dt), Sep K B C G σ ρ → G a = none → ExAt K C cls dd c d → w c d ρ Φ → Meets K B Φ D → ts a cls dd (keepD D i a cls dd) (σ.set i (some (.ref a))) G
def wSuKeep (i j : Nat) : Str → Dt → WS := fun c d ρ Φ => (i ≠ j ∧ i < ρ.length) ∧ put i .un ρ fun ρ1 => put j (.dat (.err c d)) ρ1 Φ.nx
instance su_keep {i j : Nat} : Su K i (fun _ _ _ => tAsg (tVar i) (gName j)) (wSuKeep i j) where
  run B C G σ ρ D Φ a cls dd c d S ha ex h m := by
    obtain ⟨⟨ne, lr⟩, h⟩ := h
    obtain ⟨p1, h⟩ := put_run h
    obtain ⟨p2, h⟩ := put_run h
    obtain ⟨rfl, b, v, rfl, hb, rv⟩ := ex
    have ca : C a = none := S.cold.free ha
    have S1 := S.alloc (o := exv a (.ref (He.ga K c)) (some b)) ha
    have sC := same_new (o := exv a (.ref (He.ga K c)) (some b)) ca
    have S2 := S1.un (i := i) (x := none) p1
    have S3 := S2.dat (i := j) (v := .ref a) (d := .err c d) p2 (.err upd_same (sC _ _ hb) (rv.same sC))
    have li : i < σ.length := by
      rw [S.len]
      exact lr
    refine ⟨.ref a, set_at li, ?_⟩
    show D.nx (((σ.set i (some (.ref a))).set j (some (.ref a))).set i none) _
    rw [List.set_comm _ _ (Ne.symm ne), List.set_set]
    exact m.nx _ _ _ _ S3 h
/-! isinstance and what of caught errors -/
def IsEv (K : PySem.W.Frag) (c : Str) (cv : V) (b : Bool) : Prop := ∃ (fI : Addr) (u : Value), ClsV cv u ∧ ECl K (He.ga K c) fI ∧ PySem.W.kitOne K (.ref (He.ga K c)) u = some b
theorem caught_of {C H : Hp} {v : V} {c : Str} {d : Dt} (s : Same C H) (h : Rp K C v (.err c d)) : ∃ (a : Addr) (w : V), v = .ref a ∧ Caught H a (He.ga K c) w ∧ Rp K C w d := by
  cases h with
  | err h1 h2 h3 => exact ⟨_, _, rfl, ⟨_, _, s _ _ h1, s _ _ h2, by simp [List.lookup]⟩, h3⟩
def wIsC (K : PySem.W.Frag) (cv : V) (wa : WE) : WE := fun ρ Ψ => wa ρ fun r ρ1 => match r with
  | .dat (.err c d) => ∃ b, IsEv K c cv b ∧ Ψ (.dat (.bl b)) ρ1
  | _ => False
instance (priority := 1200) sd_isC {cv : V} {ta : TE} {wa : WE} [a : Sd K ta wa] : Sd K (tCB (rIsC K) (tCons ta (tCons (tC cv) tNil))) (wIsC K cv wa) where
  run B C H σ ρ Q Ψ S h k := a.run B C H σ ρ _ _ S h fun C1 H1 v1 r1 ρ1 S1 s1 ok1 h1 => by
    cases r1 with
    | hot i ds => exact False.elim h1
    | box i n => exact False.elim h1
    | dat x =>
      cases x <;> try exact False.elim h1
      rename_i c d
      obtain ⟨b, ⟨fI, u, hc, T, hk⟩, z⟩ := h1
      obtain ⟨a, w, rfl, hA, _⟩ := caught_of S1.cold ok1
      exact ⟨a, _, fI, w, cv, u, b, rfl, hc, hA, T, hk, k _ _ _ (.dat (.bl b)) _ S1 s1 (.bl b) z⟩
def wWhat (K : PySem.W.Frag) (wa : WE) : WE := fun ρ Ψ => wa ρ fun r ρ1 => match r with
  | .dat (.err c d) => (∃ fI, ECl K (He.ga K c) fI) ∧ Ψ (.dat d) ρ1
  | _ => False
instance sd_what {ta : TE} {wa : WE} [a : Sd K ta wa] : Sd K (tWhatC K ta) (wWhat K wa) where
  run B C H σ ρ Q Ψ S h k := a.run B C H σ ρ _ _ S h fun C1 H1 v1 r1 ρ1 S1 s1 ok1 h1 => by
    cases r1 with
    | hot i ds => exact False.elim h1
    | box i n => exact False.elim h1
    | dat x =>
      cases x <;> try exact False.elim h1
      rename_i c d
      obtain ⟨⟨fI, T⟩, z⟩ := h1
      obtain ⟨a, w, rfl, hA, rw⟩ := caught_of S1.cold ok1
      exact ⟨a, _, fI, w, rfl, hA, T, k _ _ _ (.dat d) _ S1 s1 rw z⟩
theorem isE {root : Str} {cs : List Str} (h : errOk K root cs = true) {c e : Str} (hc : c ∈ cs) (he : e ∈ cs) : IsEv K c (.ref (He.ga K e)) (decide (e = c) || decide (e = root)) := ⟨_, _, .own _, err_cl h hc, err_is h hc he⟩

end
section
variable {P : Program} {w : World} {K : PySem.W.Frag} {mg : Str → Option Value} {base : Heap}
local macro_rules | `(tactic| get_elem_tactic_trivial) => `(tactic| (repeat first | exact Wk.nil | exact Wk'.nil | refine Wk.same ?_ | refine Wk'.same ?_ | refine Wk.un (fun _ z => nomatch z) ?_ | refine Wk'.un ?_))
/-! xs[i], xs[j] = a, b -/
/-! xs.pop(i), what it tells -/
/-! raising defs that tell new lists -/
/-! new lists that a raising call tells stay changeable -/

end
section
variable {P : Program} {w : World} {K : PySem.W.Frag} {mg : Str → Option Value} {base : Heap}
local macro_rules | `(tactic| get_elem_tactic_trivial) => `(tactic| (repeat first | exact Wk.nil | exact Wk'.nil | refine Wk.same ?_ | refine Wk'.same ?_ | refine Wk.un (fun _ z => nomatch z) ?_ | refine Wk'.un ?_))
/-! either raising call -/
def wIfXd (wc : WT) (wa wb : WEX) : WEX := fun ρ Ψ Ξ => wc ρ fun b ρ1 => if b = true then wa ρ1 Ψ Ξ else wb ρ1 Ψ Ξ
instance xd_if {W : WX} {tc : TT} {ta tb : TE} {wc : WT} {wa wb : WEX} [c : Sc K tc wc] [a : Xd K W ta wa] [b : Xd K W tb wb] : Xd K W (tIf tc ta tb) (wIfXd wc wa wb) where
  run B C H σ ρ Q Ψ Ξ S h k mx := c.run B C H σ ρ _ _ S h fun C1 H1 e ρ1 S1 s1 h1 => by
    cases e with
    | true => exact a.run B C1 H1 σ ρ1 _ _ Ξ S1 h1 (fun C' G v r ρ' S' s' ok z => k _ _ _ _ _ S' (s1.trans s') ok z) mx
    | false => exact b.run B C1 H1 σ ρ1 _ _ Ξ S1 h1 (fun C' G v r ρ' S' s' ok z => k _ _ _ _ _ S' (s1.trans s') ok z) mx
/-! a def that tells a new list or another thing -/
def slotOf : Ro → Sl
  | .new ds => .hot ds
  | .dat d => .dat d

end
section
variable {P : Program} {w : World} {K : PySem.W.Frag} {mg : Str → Option Value} {base : Heap}
local macro_rules | `(tactic| get_elem_tactic_trivial) => `(tactic| (repeat first | exact Wk.nil | exact Wk'.nil | refine Wk.same ?_ | refine Wk'.same ?_ | refine Wk.un (fun _ z => nomatch z) ?_ | refine Wk'.un ?_))
/-! list(range(n)) -/

end
section
variable {P : Program} {w : World} {K : PySem.W.Frag} {mg : Str → Option Value} {base : Heap}
local macro_rules | `(tactic| get_elem_tactic_trivial) => `(tactic| (repeat first | exact Wk.nil | exact Wk'.nil | refine Wk.same ?_ | refine Wk'.same ?_ | refine Wk.un (fun _ z => nomatch z) ?_ | refine Wk'.un ?_))
/-! either of two new lists -/

end
section
variable {P : Program} {w : World} {K : PySem.W.Frag} {mg : Str → Option Value} {base : Heap}
local macro_rules | `(tactic| get_elem_tactic_trivial) => `(tactic| (repeat first | exact Wk.nil | exact Wk'.nil | refine Wk.same ?_ | refine Wk'.same ?_ | refine Wk.un (fun _ z => nomatch z) ?_ | refine Wk'.un ?_))
/-! methods that tell new lists -/
end
section
variable {P : Program} {w : World} {K : PySem.W.Frag} {mg : Str → Option Value} {base : Heap}
local macro_rules | `(tactic| get_elem_tactic_trivial) => `(tactic| (repeat first | exact Wk.nil | exact Wk'.nil | refine Wk.same ?_ | refine Wk'.same ?_ | refine Wk.un (fun _ z => nomatch z) ?_ | refine Wk'.un ?_))
/-! C(.., k=..): a thing made, its fields reckoned -/
/-! reading on heaps, over defs read on data -/
end
section
variable {P : Program} {w : World} {K : PySem.W.Frag} {mg : Str → Option Value} {base : Heap}
local macro_rules | `(tactic| get_elem_tactic_trivial) => `(tactic| (repeat first | exact Wk.nil | exact Wk'.nil | refine Wk.same ?_ | refine Wk'.same ?_ | refine Wk.un (fun _ z => nomatch z) ?_ | refine Wk'.un ?_))
/-! zip of two lists, or of two tuples -/
end
section
variable {P : Program} {w : World} {K : PySem.W.Frag} {mg : Str → Option Value} {base : Heap}
local macro_rules | `(tactic| get_elem_tactic_trivial) => `(tactic| (repeat first | exact Wk.nil | exact Wk'.nil | refine Wk.same ?_ | refine Wk'.same ?_ | refine Wk.un (fun _ z => nomatch z) ?_ | refine Wk'.un ?_))
/-! a new list that is only read from here on -/

end
section
variable {P : Program} {w : World} {K : PySem.W.Frag} {mg : Str → Option Value} {base : Heap}
local macro_rules | `(tactic| get_elem_tactic_trivial) => `(tactic| (repeat first | exact Wk.nil | exact Wk'.nil | refine Wk.same ?_ | refine Wk'.same ?_ | refine Wk.un (fun _ z => nomatch z) ?_ | refine Wk'.un ?_))
/-! try .. except C: raise D(..) from None, over data -/
end
section
variable {P : Program} {w : World} {K : PySem.W.Frag} {mg : Str → Option Value} {base : Heap}
local macro_rules | `(tactic| get_elem_tactic_trivial) => `(tactic| (repeat first | exact Wk.nil | exact Wk'.nil | refine Wk.same ?_ | refine Wk'.same ?_ | refine Wk.un (fun _ z => nomatch z) ?_ | refine Wk'.un ?_))
/-! divmod -/
end
section
variable {P : Program} {w : World} {K : PySem.W.Frag} {mg : Str → Option Value} {base : Heap}
local macro_rules | `(tactic| get_elem_tactic_trivial) => `(tactic| (repeat first | exact Wk.nil | exact Wk'.nil | refine Wk.same ?_ | refine Wk'.same ?_ | refine Wk.un (fun _ z => nomatch z) ?_ | refine Wk'.un ?_))
/-! things put together whose parts may raise -/
/-- as xd_sd, by a word (so it is found behind ∀ W) -/
def liftD (w : WE) : WEX := fun ρ Ψ _ => w ρ Ψ
instance (priority := 90) xd_sdL {W : WX} {t : TE} {w : WE} [a : Sd K t w] : Xd K W t (liftD w) := ⟨(xd_sd (K := K) (W := W) (t := t) (w := w)).run⟩
end
section
variable {P : Program} {w : World} {K : PySem.W.Frag} {mg : Str → Option Value} {base : Heap}
local macro_rules | `(tactic| get_elem_tactic_trivial) => `(tactic| (repeat first | exact Wk.nil | exact Wk'.nil | refine Wk.same ?_ | refine Wk'.same ?_ | refine Wk.un (fun _ z => nomatch z) ?_ | refine Wk'.un ?_))
/-! a new drawer and another thing at once -/

end
section
variable {P : Program} {w : World} {K : PySem.W.Frag} {mg : Str → Option Value} {base : Heap}
local macro_rules | `(tactic| get_elem_tactic_trivial) => `(tactic| (repeat first | exact Wk.nil | exact Wk'.nil | refine Wk.same ?_ | refine Wk'.same ?_ | refine Wk.un (fun _ z => nomatch z) ?_ | refine Wk'.un ?_))
/-! level 2: lists that are changed wherever they stand, by their addresses -/
def Bs.hang (B : Bs) (U : Hp) : Bs := ⟨B.C0, fun a => match U a with | some o => some o | none => B.H0 a, B.bx⟩
section
variable {B : Bs} {C H U : Hp} {σ : L2.St} {ρ : List Sl} {μ : Mu}
theorem hang_at {a : Addr} {o : HO} (h : U a = some o) : (B.hang U).H0 a = some o := by
  show (match U a with | some o => some o | none => B.H0 a) = _
  rw [h]
theorem hang_off {a : Addr} (h : U a = none) : (B.hang U).H0 a = B.H0 a := by
  show (match U a with | some o => some o | none => B.H0 a) = _
  rw [h]
theorem hang_no {a : Addr} (h : (B.hang U).H0 a = none) : U a = none ∧ B.H0 a = none := by
  cases q : U a with
  | some o => rw [hang_at q] at h; cases h
  | none => rw [hang_off q] at h; exact ⟨rfl, h⟩
theorem hang_nil : B.hang (fun _ => none) = B := rfl
end

end
section
variable {P : Program} {w : World} {K : PySem.W.Frag} {mg : Str → Option Value} {base : Heap}
local macro_rules | `(tactic| get_elem_tactic_trivial) => `(tactic| (repeat first | exact Wk.nil | exact Wk'.nil | refine Wk.same ?_ | refine Wk'.same ?_ | refine Wk.un (fun _ z => nomatch z) ?_ | refine Wk'.un ?_))
/-! level 2: reading
-/
/-! what level 1 reads -/
end
section
variable {P : Program} {w : World} {K : PySem.W.Frag} {mg : Str → Option Value} {base : Heap}
local macro_rules | `(tactic| get_elem_tactic_trivial) => `(tactic| (repeat first | exact Wk.nil | exact Wk'.nil | refine Wk.same ?_ | refine Wk'.same ?_ | refine Wk.un (fun _ z => nomatch z) ?_ | refine Wk'.un ?_))
/-! arguments, tuples -/
/-! statements -/

end
section
variable {P : Program} {w : World} {K : PySem.W.Frag} {mg : Str → Option Value} {base : Heap}
local macro_rules | `(tactic| get_elem_tactic_trivial) => `(tactic| (repeat first | exact Wk.nil | exact Wk'.nil | refine Wk.same ?_ | refine Wk'.same ?_ | refine Wk.un (fun _ z => nomatch z) ?_ | refine Wk'.un ?_))
/-! level 2: lists changed, defs that tell such lists, reading all as it stands -/
end
section
variable {P : Program} {w : World} {K : PySem.W.Frag} {mg : Str → Option Value} {base : Heap}
local macro_rules | `(tactic| get_elem_tactic_trivial) => `(tactic| (repeat first | exact Wk.nil | exact Wk'.nil | refine Wk.same ?_ | refine Wk'.same ?_ | refine Wk.un (fun _ z => nomatch z) ?_ | refine Wk'.un ?_))
/-- many new lists at once -/
theorem Sep.hangAll {B : Bs} {C H U U' : Hp} {σ : L2.St} {ρ : List Sl} (S : Sep K (B.hang U) C H σ ρ) (h : ∀ a o, U' a = some o → H a = some o ∧ C a = none ∧ (B.hang U).H0 a = none ∧ ∀ (j : Nat) (t : Sl), ρ[j]? = some t → t.mut = true → σ[j]? ≠ some (some (V.ref a))) :
    Sep K (B.hang fun a => match U' a with | some o => some o | none => U a) C H σ ρ := by
  have at_ : ∀ {a : Addr} {o : HO}, U' a = some o → (B.hang fun a => match U' a with | some o => some o | none => U a).H0 a = some o := fun {a o} e => by
    show (match (match U' a with | some o => some o | none => U a) with | some o => some o | none => B.H0 a) = _
    rw [e]
  have off : ∀ {a : Addr}, U' a = none → (B.hang fun a => match U' a with | some o => some o | none => U a).H0 a = (B.hang U).H0 a := fun {a} e => by
    show (match (match U' a with | some o => some o | none => U a) with | some o => some o | none => B.H0 a) = (match U a with | some o => some o | none => B.H0 a)
    rw [e]
  have no : ∀ {a : Addr}, (∀ o, U' a ≠ some o) → U' a = none := fun {a} z => by
    cases q : U' a with
    | none => rfl
    | some o => exact absurd q (z o)
  refine ⟨S.cold, S.len, S.sl, S.ne, S.grow, fun a x e n => ?_, fun a g => ?_, fun a x g n => ?_, fun i a ds g e => ?_, fun i a n g e => ?_, S.par, S.pz⟩
  · rw [off (no fun o q => by rw [(h a o q).2.1] at e; cases e)]
    exact S.new a x e n
  · cases q : U' a with
    | some o => rw [(h a o q).1]; exact fun z => nomatch z
    | none => rw [off q] at g; exact S.dom a g
  · cases q : U' a with
    | some o =>
      rw [at_ q] at g
      cases g
      exact (h a _ q).1
    | none => rw [off q] at g; exact S.keep a x g n
  · rw [off (no fun o q => (h a o q).2.2.2 i _ g rfl e)]
    exact S.loc i a ds g e
  · rw [off (no fun o q => (h a o q).2.2.2 i _ g rfl e)]
    exact S.lob i a n g e

end
section
variable {P : Program} {w : World} {K : PySem.W.Frag} {mg : Str → Option Value} {base : Heap}
local macro_rules | `(tactic| get_elem_tactic_trivial) => `(tactic| (repeat first | exact Wk.nil | exact Wk'.nil | refine Wk.same ?_ | refine Wk'.same ?_ | refine Wk.un (fun _ z => nomatch z) ?_ | refine Wk'.un ?_))
/-! level 2: all read as it stands -/
end
section
variable {P : Program} {w : World} {K : PySem.W.Frag} {mg : Str → Option Value} {base : Heap}
local macro_rules | `(tactic| get_elem_tactic_trivial) => `(tactic| (repeat first | exact Wk.nil | exact Wk'.nil | refine Wk.same ?_ | refine Wk'.same ?_ | refine Wk.un (fun _ z => nomatch z) ?_ | refine Wk'.un ?_))
/-! level 2: bodies -/

end
section
variable {P : Program} {w : World} {K : PySem.W.Frag} {mg : Str → Option Value} {base : Heap}
local macro_rules | `(tactic| get_elem_tactic_trivial) => `(tactic| (repeat first | exact Wk.nil | exact Wk'.nil | refine Wk.same ?_ | refine Wk'.same ?_ | refine Wk.un (fun _ z => nomatch z) ?_ | refine Wk'.un ?_))
/-! level 2: lists that are only read from here on -/
def orU (U C : Hp) : Hp := fun a => match U a with | some o => some o | none => C a
theorem orU_at {U C : Hp} {a : Addr} {o : HO} (e : U a = some o) : orU U C a = some o := by
  unfold orU
  rw [e]
theorem orU_off {U C : Hp} {a : Addr} (e : U a = none) : orU U C a = C a := by
  unfold orU
  rw [e]
/-! a try whose body never raises -/
end
section
variable {P : Program} {w : World} {K : PySem.W.Frag} {mg : Str → Option Value} {base : Heap}
local macro_rules | `(tactic| get_elem_tactic_trivial) => `(tactic| (repeat first | exact Wk.nil | exact Wk'.nil | refine Wk.same ?_ | refine Wk'.same ?_ | refine Wk.un (fun _ z => nomatch z) ?_ | refine Wk'.un ?_))
/-! C(), C(k=..): what is left out as the def has it -/
theorem made_run {c : Str} {Cl : Addr} {ns : List Str} {ok : List Dt → Prop} {B : Bs} {C2 H2 : Hp} {σ : L2.St} {ρ2 : List Sl} {us : List V} {ds : List Dt} {Q : VK} {E : XK} {Ψ : Rs → List Sl → Prop} (S2 : Sep K B C2 H2 σ ρ2) (r : RpL K C2 us ds) (okd : ok ds) (ln : ns.length = ds.length) (ec : He.ga K c = Cl) (h2 : Ψ (.dat (.obj c ns ds)) ρ2)
    (k : ∀ C' G v r ρ', Sep K B C' G σ ρ' → Same C2 C' → RsOk K C' σ ρ' v r → Ψ r ρ' → Q v G) : ∀ x dx, H2 x = none → H2 dx = none → dx ≠ x → spIni K c ns ok (.ref x :: us) (upd (upd H2 dx (.own x)) x (.ins Cl dx [])) (fun v G => v = .non ∧ Q (.ref x) G) E := by
  intro x dx hx hdx ne
  refine ⟨x, dx, us, ds, C2, rfl, by rw [ec]; exact upd_same, r, okd, by rw [r.len]; exact ln, fun G hG bt => ⟨rfl, ?_⟩⟩
  have hx2 : upd H2 dx (.own x) x = none := by rw [upd_ne (Ne.symm ne)]; exact hx
  have Sa := S2.alloc (o := .own x) hdx
  have Sb := Sa.alloc (o := .ins (He.ga K c) dx (ns.zip us)) hx2
  have sm : Same (upd (upd H2 dx (.own x)) x (.ins (He.ga K c) dx (ns.zip us))) G := fun y o e => by
    by_cases z : y = x
    · subst z
      rw [upd_same] at e
      cases e
      exact hG
    · rw [upd_ne z] at e
      exact bt y o (by rw [upd_ne z]; exact e) z
  have g1 : Same C2 (upd C2 dx (.own x)) := same_new (S2.cold.free hdx)
  have g2 : Same (upd C2 dx (.own x)) (upd (upd C2 dx (.own x)) x (.ins (He.ga K c) dx (ns.zip us))) := same_new (Sa.cold.free hx2)
  exact k _ _ _ (.dat (.obj c ns ds)) _ (Sb.same sm) (g1.trans g2) (.obj upd_same (g2 _ _ upd_same) (by rw [r.len]; exact ln) (r.same (g1.trans g2))) h2
def wMake0 (K : PySem.W.Frag) (c : Str) (Cl : Addr) (ns : List Str) (ok : List Dt → Prop) (dd : List Dt) : WE := fun ρ Ψ => (ok dd ∧ ns.length = dd.length ∧ He.ga K c = Cl) ∧ Ψ (.dat (.obj c ns dd)) ρ
instance sd_make0 {c : Str} {Cl : Addr} {ns : List Str} {ok : List Dt → Prop} {dvs : List V} {dd : List Dt} {E : XK} [v : Dv dvs dd] : Sd K (tMake Cl (spIni K c ns ok) dvs E tNil) (wMake0 K c Cl ns ok dd) where
  run B C H σ ρ Q Ψ S h k := by
    obtain ⟨⟨okd, ln, ec⟩, h2⟩ := h
    exact made_run S (v.run K C) okd ln ec h2 k

end
section
variable {P : Program} {w : World} {K : PySem.W.Frag} {mg : Str → Option Value} {base : Heap}
local macro_rules | `(tactic| get_elem_tactic_trivial) => `(tactic| (repeat first | exact Wk.nil | exact Wk'.nil | refine Wk.same ?_ | refine Wk'.same ?_ | refine Wk.un (fun _ z => nomatch z) ?_ | refine Wk'.un ?_))
/-! statements that are never reached -/
/-! level 2: a number read with all lists as they stand -/
/-! divmod of numbers of any size -/

end
section
variable {P : Program} {w : World} {K : PySem.W.Frag} {mg : Str → Option Value} {base : Heap}
local macro_rules | `(tactic| get_elem_tactic_trivial) => `(tactic| (repeat first | exact Wk.nil | exact Wk'.nil | refine Wk.same ?_ | refine Wk'.same ?_ | refine Wk.un (fun _ z => nomatch z) ?_ | refine Wk'.un ?_))
/-! wide numbers shown -/
end
section
variable {P : Program} {w : World} {K : PySem.W.Frag} {mg : Str → Option Value} {base : Heap}
local macro_rules | `(tactic| get_elem_tactic_trivial) => `(tactic| (repeat first | exact Wk.nil | exact Wk'.nil | refine Wk.same ?_ | refine Wk'.same ?_ | refine Wk.un (fun _ z => nomatch z) ?_ | refine Wk'.un ?_))

end
section
variable {P : Program} {w : World} {K : PySem.W.Frag} {mg : Str → Option Value} {base : Heap}
local macro_rules | `(tactic| get_elem_tactic_trivial) => `(tactic| (repeat first | exact Wk.nil | exact Wk'.nil | refine Wk.same ?_ | refine Wk'.same ?_ | refine Wk.un (fun _ z => nomatch z) ?_ | refine Wk'.un ?_))
/-! level 2: chunks read, copied, changed, walked -/
/-! for x in a chunk: it keeps its length N -/
/-! a new list of numbers, read with all chunks as they stand -/

end
section
variable {P : Program} {w : World} {K : PySem.W.Frag} {mg : Str → Option Value} {base : Heap}
local macro_rules | `(tactic| get_elem_tactic_trivial) => `(tactic| (repeat first | exact Wk.nil | exact Wk'.nil | refine Wk.same ?_ | refine Wk'.same ?_ | refine Wk.un (fun _ z => nomatch z) ?_ | refine Wk'.un ?_))
/-! level 2: defs that tell lists of their own, called by keywords; chunks in another order -/

end
section
variable {P : Program} {w : World} {K : PySem.W.Frag} {mg : Str → Option Value} {base : Heap}
local macro_rules | `(tactic| get_elem_tactic_trivial) => `(tactic| (repeat first | exact Wk.nil | exact Wk'.nil | refine Wk.same ?_ | refine Wk'.same ?_ | refine Wk.un (fun _ z => nomatch z) ?_ | refine Wk'.un ?_))
/-! level 2 left: all chunks grow cold, the rest is read at level 1 -/

end
section
variable {P : Program} {w : World} {K : PySem.W.Frag} {mg : Str → Option Value} {base : Heap}
local macro_rules | `(tactic| get_elem_tactic_trivial) => `(tactic| (repeat first | exact Wk.nil | exact Wk'.nil | refine Wk.same ?_ | refine Wk'.same ?_ | refine Wk.un (fun _ z => nomatch z) ?_ | refine Wk'.un ?_))
/-! level 2: comprehensions whose parts are chunks, clear, either of two, a try that never raises -/
/-! a test that only reads leaves lists changeable -/

end
section
variable {P : Program} {w : World} {K : PySem.W.Frag} {mg : Str → Option Value} {base : Heap}
local macro_rules | `(tactic| get_elem_tactic_trivial) => `(tactic| (repeat first | exact Wk.nil | exact Wk'.nil | refine Wk.same ?_ | refine Wk'.same ?_ | refine Wk.un (fun _ z => nomatch z) ?_ | refine Wk'.un ?_))
/-! enumerate over zip: the zip's tuples stay out -/
section
variable {prog : Program} {w : World} {A : Around} {E : Value → Shared → Prop} {s : Shared}
variable {z TI TO i1 i2 : Addr} {fp1 fp2 : List Addr} {n1 n2 i : Nat} {P1 P2 : Nat → Value → Prop} {St1 St2 : Nat → Heap → Prop}
end
end
section
variable {P : Program} {w : World} {K : PySem.W.Frag} {mg : Str → Option Value} {base : Heap}
local macro_rules | `(tactic| get_elem_tactic_trivial) => `(tactic| (repeat first | exact Wk.nil | exact Wk'.nil | refine Wk.same ?_ | refine Wk'.same ?_ | refine Wk.un (fun _ z => nomatch z) ?_ | refine Wk'.un ?_))
section
variable {prog : Program} {w : World} {A : Around} {E : Value → Shared → Prop} {s : Shared} {z TI TO i1 i2 : Addr} {fp1 fp2 : List Addr} {n1 n2 i : Nat} {P1 P2 : Nat → Value → Prop} {St1 St2 : Nat → Heap → Prop}
end

end
section
variable {P : Program} {w : World} {K : PySem.W.Frag} {mg : Str → Option Value} {base : Heap}
local macro_rules | `(tactic| get_elem_tactic_trivial) => `(tactic| (repeat first | exact Wk.nil | exact Wk'.nil | refine Wk.same ?_ | refine Wk'.same ?_ | refine Wk.un (fun _ z => nomatch z) ?_ | refine Wk'.un ?_))
/-! the turn -/
section
variable {X : Cx} {pins : List (Addr × Obj)} {σ : L2.St} {H : Hp} {s : Shared}
end

end
section
variable {P : Program} {w : World} {K : PySem.W.Frag} {mg : Str → Option Value} {base : Heap}
local macro_rules | `(tactic| get_elem_tactic_trivial) => `(tactic| (repeat first | exact Wk.nil | exact Wk'.nil | refine Wk.same ?_ | refine Wk'.same ?_ | refine Wk.un (fun _ z => nomatch z) ?_ | refine Wk'.un ?_))
/-! enumerate(zip(..)) walked -/

end
section
variable {P : Program} {w : World} {K : PySem.W.Frag} {mg : Str → Option Value} {base : Heap}
local macro_rules | `(tactic| get_elem_tactic_trivial) => `(tactic| (repeat first | exact Wk.nil | exact Wk'.nil | refine Wk.same ?_ | refine Wk'.same ?_ | refine Wk.un (fun _ z => nomatch z) ?_ | refine Wk'.un ?_))
/-! a += b, break, continue -/

end
section
variable {P : Program} {w : World} {K : PySem.W.Frag} {mg : Str → Option Value} {base : Heap}
local macro_rules | `(tactic| get_elem_tactic_trivial) => `(tactic| (repeat first | exact Wk.nil | exact Wk'.nil | refine Wk.same ?_ | refine Wk'.same ?_ | refine Wk.un (fun _ z => nomatch z) ?_ | refine Wk'.un ?_))
/-! comprehensions whose parts may raise; promises of defs that raise now and then -/

/-! x.append(..) of what may raise -/

end
section
variable {P : Program} {w : World} {K : PySem.W.Frag} {mg : Str → Option Value} {base : Heap}
local macro_rules | `(tactic| get_elem_tactic_trivial) => `(tactic| (repeat first | exact Wk.nil | exact Wk'.nil | refine Wk.same ?_ | refine Wk'.same ?_ | refine Wk.un (fun _ z => nomatch z) ?_ | refine Wk'.un ?_))
/-! level 2: x.pop(i) of a chunk -/
/-! {..}[x] of three texts -/

end
section
variable {P : Program} {w : World} {K : PySem.W.Frag} {mg : Str → Option Value} {base : Heap}
local macro_rules | `(tactic| get_elem_tactic_trivial) => `(tactic| (repeat first | exact Wk.nil | exact Wk'.nil | refine Wk.same ?_ | refine Wk'.same ?_ | refine Wk.un (fun _ z => nomatch z) ?_ | refine Wk'.un ?_))
/-! x != y of two things with an own ==, where no own != stands -/
section
variable {prog : Program} {A : Around} {E : Value → Shared → Prop} {s : Shared} {x y C f : Addr} {ox : Obj} {od : Option Obj}
end

end
section
variable {P : Program} {w : World} {K : PySem.W.Frag} {mg : Str → Option Value} {base : Heap}
local macro_rules | `(tactic| get_elem_tactic_trivial) => `(tactic| (repeat first | exact Wk.nil | exact Wk'.nil | refine Wk.same ?_ | refine Wk'.same ?_ | refine Wk.un (fun _ z => nomatch z) ?_ | refine Wk'.un ?_))
/-- what is looked up of a class with an own == -/
structure IsF (K : PySem.W.Frag) (C : Addr) : Prop where
  ne : PySem.W.findIn K (.ref C) "__ne__" = some (some (.builtin "object.__ne__"))
  ob : PySem.W.subIn K (.ref C) (.type "object") = some true
  ha : PySem.W.findIn K (.ref C) "__class__" = some (some (.builtin "object.__class__"))
  hn : PySem.W.specialIn K (.builtin "object.__class__") "__get__" = some (some (.builtin "getset_descriptor.__get__"))
  ht : PySem.W.takesIn K (.builtin "object.__class__") = some true
  hm : PySem.W.mroIn K C (.type "object") = some true
theorem neD_is {c : Str} (h : neD K c = true) : IsF K (He.ga K c) := by
  unfold neD at h
  simp only [Bool.and_eq_true] at h
  obtain ⟨⟨⟨⟨⟨h1, h2⟩, h3⟩, h4⟩, h5⟩, h6⟩ := h
  exact ⟨eq_of_beq h1, eq_of_beq h2, eq_of_beq h3, eq_of_beq h4, eq_of_beq h5, eq_of_beq h6⟩
/-! isinstance of a thing of one's own, of its very class -/
/-! o.m(k=..) with its names in any order; C(k=..) turned -/

end
section
variable {P : Program} {w : World} {K : PySem.W.Frag} {mg : Str → Option Value} {base : Heap}
local macro_rules | `(tactic| get_elem_tactic_trivial) => `(tactic| (repeat first | exact Wk.nil | exact Wk'.nil | refine Wk.same ?_ | refine Wk'.same ?_ | refine Wk.un (fun _ z => nomatch z) ?_ | refine Wk'.un ?_))
/-! comprehensions whose element may raise: the block's exception is noted by the def's own frame, the block's names are let go, and it flies on -/
end
end Sl
namespace L2
open PySem PySem.Spec PyProof.Rows
theorem note_env (e : Value) {ce env : Env} (h : ce.frame = env.frame) : noteFrame e ce = noteFrame e env := by
  have q : PySem.frameOf ce = PySem.frameOf env := by unfold PySem.frameOf; rw [h]
  unfold noteFrame; rw [h, q]
theorem ns_up {h h' : Heap} {L : Addr} {m : Str → Option Value} (hn : h.Ns L m) (hk : h.UpToSlots h') : h'.Ns L m := by
  obtain ⟨o, es, ep, e, d, r⟩ := hn
  obtain ⟨sl, q⟩ := hk L o e fun vs z => by rw [d] at z; cases z
  exact ⟨_, es, ep, q, d, r⟩
theorem frames_but {h h' bg : Heap} {L : Addr} {m : Str → Option Value} (hs : Heap.SameBut L h h') (hn : h'.Ns L m) : ∀ {l : List Env}, h.FunFrames bg l → h'.FunFrames bg l
  | [], _ => trivial
  | _ :: _, ⟨k, ⟨L', o, f, b, ho, d⟩, r⟩ => by
    refine ⟨k, ?_, frames_but hs hn r⟩
    rcases Classical.em (L' = L) with q | q
    · obtain ⟨u, es, ep, hu, du, _⟩ := hn
      exact ⟨L', u, f, b, by rw [q]; exact hu, fun vs z => by rw [du] at z; cases z⟩
    · exact ⟨L', o, f, b, (hs.2 L' q).trans ho, d⟩
theorem traced_but {h h' bg : Heap} {e L : Addr} {Z : Obj → Prop} {fl : Value} {m : Str → Option Value} (x : HandSPX.TracedZ h bg e Z fl) (hn : h.Ns L m) (hs : Heap.SameBut L h h') : HandSPX.TracedZ h' bg e Z fl := by
  obtain ⟨oe, vs, T, oT, ts, he, hz, d, h1, hb, hT, eT, dT, h3⟩ := x
  obtain ⟨o, es, ep, ho, dd, _⟩ := hn
  have ne : ∀ b u, h.get? b = some u → (∃ vs, u.data = .fields vs) → b ≠ L := fun b u q ⟨vs, z⟩ w => by
    rw [w, ho] at q
    cases q
    rw [dd] at z
    cases z
  exact ⟨oe, vs, T, oT, ts, (hs.2 _ (ne _ _ he ⟨_, d⟩)).trans he, hz, d, h1, hb, hT, (hs.2 _ (ne _ _ eT ⟨_, dT⟩)).trans eT, dT, h3⟩
section
variable {M : Model} {A : Around} {E : Value → Shared → Prop} {s' : Shared} {bg : Heap} {env ce : Env} {outer : List Env} {e L : Addr} {Z : Obj → Prop} {m : Str → Option Value}
theorem noted_lc (hZ : HandSPX.Steady Z) (hfr : A.frames = some (env :: outer)) (hcf : ce.frame = env.frame) (hf : env.frame = some L) (hb : bg.get? ce.locals = none) (hn : s'.heap.Ns ce.locals m) (fl : HandSPX.FlyingZ bg (env :: outer) e Z s'.heap)
    (hQ : ∀ h', HandSPX.HeldZ bg (env :: outer) e Z L h' → (∀ b o, s'.heap.get? b = some o → b ≠ ce.locals → (∀ vs, o.data ≠ .fields vs) → ∃ sl, h'.get? b = some { o with slots := sl }) → E (.ref e) { s' with heap := h' }) :
    notedBy M A ce (CompFails M A E ce) (.ref e) s' := by
  show wpAny M A (noteFrame (.ref e) ce) _ _ s'
  rw [note_env _ hcf]
  refine HandSPX.looks_onZ hZ hfr hf fl fun h1 ⟨b1, b0, f1, t1⟩ k1 => ⟨m, ns_up hn k1, fun h2 m2 n2 sb => ?_⟩
  have st : bg.StaysIn h2 := fun b o q => (sb.2 b fun z => by rw [z, hb] at q; cases q).trans (b1 b o q)
  have t2 := traced_but t1 (ns_up hn k1) sb
  have f2 := frames_but sb n2 f1
  obtain ⟨oe, vs, T, oT, ts, he, _, d, h1', _⟩ := id t2
  unfold PySem.passOn
  refine wpAny_bind (wpAny_field he d h1' ?_)
  rw [if_neg (show ¬ ((Value.ref T == Value.none) = true) from by simp), hcf, hf]
  refine wpAny_bind (HandSPX.setFlight_onZ ⟨st, b0, f2, t2⟩ fun h3 hh k3 => wpAny_throw (hQ h3 hh fun b o q n nf => ?_))
  obtain ⟨sl, q1⟩ := k1 b o q nf
  obtain ⟨sl', q2⟩ := k3 b _ ((sb.2 b n).trans q1) nf
  exact ⟨sl', q2⟩
end
/-- an exception of a call in flight over the block -/
def XEF (X : Cx) (W : WX) (u : Value) (s' : Shared) : Prop :=
  ∃ (a : Addr) (B : Heap) (sI : Shared) (pins : List (Addr × Obj)) (σ : St) (H : Hp) (cls : Value) (d : Option Addr), u = .ref a ∧ Inv X pins σ H sI ∧ (∀ b o, sI.heap.get? b = some o → b ∉ frs X.stack → B.get? b = some o) ∧ sI.heap.UpToSlots s'.heap ∧
    HandSPX.FlyingZ B X.stack a (Zc cls d) s'.heap ∧ H a = none ∧ s'.os = sI.os ∧ AllBare s'.gens ∧ W cls d σ H
section
variable {X : Cx} {pins : List (Addr × Obj)} {σ : St} {H : Hp} {s s' : Shared} {W : WX} {E : XK}
theorem XEF.of_call (I : Inv X pins σ H s) (hW : ∀ cls d H', E cls d H' → W cls d σ H') {u : Value} (c : CX X.prog X.w X.stack H s E u s') : XEF X W u s' := by
  obtain ⟨a, B, H', cls, d, rfl, fl, hok, ub, na, os, ag, hE⟩ := c
  obtain ⟨G, g1, g2⟩ := restrict s'.heap fun b => (B.get? b).isSome || decide (b ∈ frs X.stack)
  have gB : ∀ b o, B.get? b = some o → G.get? b = some o := fun b o q => (g1 b (by simp [q])).trans (fl.1 b o q)
  have gF : ∀ b, b ∈ frs X.stack → G.get? b = s'.heap.get? b := fun b hb => g1 b (by simp [hb])
  have og : ∀ b o, G.get? b = some o → s'.heap.get? b = some o ∧ ((B.get? b).isSome = true ∨ b ∈ frs X.stack) := fun b o q => by
    by_cases z : ((B.get? b).isSome || decide (b ∈ frs X.stack)) = true
    · rw [g1 b z] at q
      exact ⟨q, by simpa [Bool.or_eq_true] using z⟩
    · rw [g2 b (Bool.not_eq_true _ ▸ z)] at q
      cases q
  have J : Inv X pins σ H' { s with heap := G, gens := s'.gens, drawn := s'.drawn, toks := s'.toks } :=
    I.call (ch := []) ⟨fun b o q n hb _ => gB b o (ub.keep b o q n hb), fun b o q _ hb _ => (ub.slot b o q hb).imp fun sl z => (gF b hb).trans z, fun b o q n _ => ub.free b o q n, fun b o q _ => by
      rcases Classical.em (b ∈ frs X.stack) with hb | hb
      · obtain ⟨sl, z⟩ := ub.slot b o q hb
        exact ⟨_, (gF b hb).trans z⟩
      · obtain ⟨o', z⟩ := ub.there b o q hb
        exact ⟨o', gB b o' z⟩, ub.tups, ub.frzs, ub.tbls⟩ (hok.kept gB) ag (fun _ z => nomatch z)
  refine ⟨a, B, _, pins, σ, H', cls, d, rfl, J, fun b o q hb => ?_, Heap.UpToSlots.of_keeps fun b o q => (og b o q).1, fl, na, os, ag, hW _ _ _ hE⟩
  obtain ⟨q', z⟩ := og b o q
  rcases z with z | z
  · obtain ⟨o', z⟩ := Option.isSome_iff_exists.mp z
    have y := fl.1 b o' z
    rw [q'] at y
    cases y
    exact z
  · exact absurd z hb
/-- the block, where its exceptions are told -/
abbrev Cx.blkX (X : Cx) (W : WX) (s : Shared) (H : Hp) (scope : Scope) (ce : Env) (fp : List Addr) : Cx := (X.blk s H scope ce fp).wish (XEF (X.blk s H scope ce fp) W)
theorem passB {W : WX} {s0 : Shared} {H0 : Hp} {scope : Scope} {ce : Env} {fp : List Addr} (σ : St) : PassesAt (L2.CX (X.blkX W s0 H0 scope ce fp).prog (X.blkX W s0 H0 scope ce fp).w) (X.blkX W s0 H0 scope ce fp) σ (WE W σ) :=
  fun _ _ _ _ _ I c => XEF.of_call (X := X.blk s0 H0 scope ce fp) (Inv.unwish I) (fun _ _ _ h => h) c
/-- the block's exception, in the def's air -/
theorem blk_out {s3 : Shared} {H3 : Hp} {scope : Scope} {ce : Env} {fp : List Addr} {u : Value} (I3 : Inv X pins σ H3 s3) (f3 : ∀ b ∈ fp, FpOk X pins H3 b ∧ b < s3.heap.objs.size) (hC : ce.locals = s3.heap.objs.size) (hcf : ce.frame = X.env.frame)
    (hst : X.stack = X.env :: X.outer) (hf : X.env.frame = some X.env.locals) {E : XK} (tk : Takes X (fun cls d _ H => E cls d H)) (x : XEF (X.blk s3 H3 scope ce fp) (fun cls d _ H => E cls d H) u s') : notedBy (model X.prog X.w) X.A ce (CompFails (model X.prog X.w) X.A X.xe ce) u s' := by
  obtain ⟨a, B, sI, pi, σ', H', cls, d, rfl, I, nb, up, fl, na, os, ag, w⟩ := x
  obtain ⟨m, hn, _⟩ := I.loc
  have hn : sI.heap.Ns ce.locals m := hn
  have hid : ∀ (h : Heap) b o, (PySem.W.hideAll h [ce.locals]).get? b = some o → h.get? b = some o ∧ b ≠ ce.locals := fun h b o q => ⟨PySem.W.of_hideAll _ q, fun z => by
    rw [PySem.W.hideAll_none [ce.locals] (by simp [z])] at q
    cases q⟩
  have sh : ∀ (h : Heap) b o, h.get? b = some o → b ≠ ce.locals → (PySem.W.hideAll h [ce.locals]).get? b = some o := fun h b o q n => PySem.W.hideAll_get _ q (by simpa using n)
  have no : ∀ b, B.get? b = none → (PySem.W.hideAll B [ce.locals]).get? b = none := fun b q => by
    cases z : (PySem.W.hideAll B [ce.locals]).get? b with
    | none => rfl
    | some o => rw [(hid _ _ _ z).1] at q; cases q
  have fl' : HandSPX.FlyingZ (PySem.W.hideAll B [ce.locals]) (X.env :: X.outer) a (Zc cls d) s'.heap := by
    obtain ⟨x1, x2, x3, oe, vs, T, oT, ts, y1, y2, y3, y4, y5, y6⟩ := fl
    rw [← hst]
    exact ⟨fun b o q => x1 b o (hid _ _ _ q).1, no a x2, funFrames_none x3 fun b hb => no b (x3.mem hb).1, oe, vs, T, oT, ts, y1, y2, y3, y4, no T y5, y6⟩
  have nC : ∀ b o, s3.heap.get? b = some o → b ≠ ce.locals := fun b o q z => absurd (Heap.lt_size q) (by rw [z, hC]; exact Nat.lt_irrefl _)
  refine noted_lc (Z := Zc cls d) Zc.steady (by rw [I3.ok.frames, hst]) hcf hf (PySem.W.hideAll_none _ (by simp)) (ns_up hn up) fl' fun h' hh k => tk _ _ ⟨a, PySem.W.hideAll B [ce.locals], { sI with heap := PySem.W.hideAll sI.heap [ce.locals] }, pins, σ, H', cls, d, rfl, ?_, fun b o q hb => ?_, fun b o q nf => ?_, .inr (.inr (by rw [hst]; exact hh)), na, os, ag, w⟩
  · have U : Un (frs X.stack) fp H3 H' s3.heap sI.heap := I.base
    refine I3.call' (ch := fp) I.os ⟨fun b o q n hb hx => sh _ _ _ (U.keep b o q n hb hx) (nC b o q), fun b o q n hb hx => (U.slot b o q n hb hx).imp fun sl z => sh _ _ _ z (nC b o q), U.free, fun b o q hx => (U.there b o q hx).imp fun o' z => sh _ _ _ z (nC b o q), U.tups, U.frzs, U.tbls⟩ (fun b o q => ?_) I.bare fun b hb => ⟨(f3 b hb).1.2.2.2.1, (f3 b hb).1.2.1, (f3 b hb).1.2.2.2.2.1, (f3 b hb).1.2.2.2.2.2⟩
    have fr : H' ce.locals = none := I.free
    exact (I.hok b o q).stay (fun c u hc r => sh _ _ _ r fun z => by
      rw [z] at hc
      rcases hc with hc | hc
      · rw [← hc, fr] at q; cases q
      · rw [fr] at hc; cases hc) (fun _ r => r) fun _ _ r => r
  · obtain ⟨q1, q2⟩ := hid _ _ _ q
    exact sh _ _ _ (nb b o q1 hb) q2
  · obtain ⟨q1, q2⟩ := hid _ _ _ q
    obtain ⟨sl, e1⟩ := up b o q1 nf
    obtain ⟨sl', e2⟩ := k b _ e1 q2 nf
    exact ⟨sl', e2⟩
end
end L2
namespace Sl
open PySem PySem.Spec PyProof.Rows L2
section
variable {P : Program} {w : World} {K : PySem.W.Frag} {mg : Str → Option Value} {base : Heap}

end
section
variable {P : Program} {w : World} {K : PySem.W.Frag} {mg : Str → Option Value} {base : Heap}
local macro_rules | `(tactic| get_elem_tactic_trivial) => `(tactic| (repeat first | exact Wk.nil | exact Wk'.nil | refine Wk.same ?_ | refine Wk'.same ?_ | refine Wk.un (fun _ z => nomatch z) ?_ | refine Wk'.un ?_))
/-! [elt for .. in ..] whose element may raise, as a value and stored -/
end
end Sl
namespace L2
open PySem PySem.Spec PyProof.Rows
section
variable {X : Cx} {pins : List (Addr × Obj)} {σ : St} {H : Hp} {s : Shared} {E : XK}
theorem blk_back {s3 s' : Shared} {H3 H' : Hp} {scope : Scope} {ce : Env} {fp : List Addr} {pi : List (Addr × Obj)} {σ' : St} (I3 : Inv X pins σ H3 s3) (f3 : ∀ b ∈ fp, FpOk X pins H3 b ∧ b < s3.heap.objs.size) (I : Inv (X.blk s3 H3 scope ce fp) pi σ' H' s') : Inv X pins σ H' s' :=
  I3.call' (ch := fp) I.os I.base I.hok I.bare fun b hb => ⟨(f3 b hb).1.2.2.2.1, (f3 b hb).1.2.1, (f3 b hb).1.2.2.2.2.1, (f3 b hb).1.2.2.2.2.2⟩
/-- the loop, the block having begun -/
theorem lcX_loop {Q : VK} {elt tg iter : Expr} {ifs : List Expr} {scope : Scope} {vs : List Nat} {pos : Pos} {g : TG} {tt : TT} {te : TE} {use : Option (Value → Sem Unit)} {Qf : Value → Shared → Prop} {s3 s4 : Shared} {H3 : Hp} {ce : Env} {fp : List Addr} {tn : Nat → Heap → Prop} {J : It} {it D : Addr}
    (hc : X.calm = true) (I3 : Inv X pins σ H3 s3) (f3 : ∀ b ∈ fp, FpOk X pins H3 b ∧ b < s3.heap.objs.size) (I4 : Inv (X.blk s3 H3 scope ce fp) [] (wipe σ vs) H3 s4) (T : Turn X.prog X.w X.K tg J fp it tn) (st4 : tn 0 s4.heap)
    (hC : ce.locals = s3.heap.objs.size) (hcf : ce.frame = X.env.frame) (hst : X.stack = X.env :: X.outer) (hf : X.env.frame = some X.env.locals) (tk : Takes X (fun cls d _ H => E cls d H))
    (pg : PG (X.blk s3 H3 scope ce fp) tg g) (pt : PTs (X.blk s3 H3 scope ce fp) ifs tt) (pe : PE (X.blkX (fun cls d _ H => E cls d H) s3 H3 scope ce fp) elt te)
    {W : Nat → Nat → Hp → Prop} {m0 : Nat} (w0 : W 0 m0 H3) (turn : ∀ i m H, W i m H → (J.stop i H ∧ Q (.ref D) H) ∨ (J.go i H ∧ ∃ Nx : Hp → Prop, (∀ H', Nx H' → ∃ m', m' < m ∧ W (i + 1) m' H') ∧ ∀ x H', J.yld i H x H' → g x (wipe σ vs) H' fun σ2 H2 => wipe σ2 vs = wipe σ vs ∧ tt σ2 H2 fun b H3 =>
      if b = true then te σ2 H3 fun y H4 => ∃ acc, H4 D = some (.lst acc) ∧ acc.length < sizeLine ∧ Nx (upd H4 D (.lst (acc ++ [y]))) else Nx H3))
    (hRR : ∀ s' m H', Inv X pins σ H' s' → Q (.ref D) H' → s'.heap.Ns ce.locals m → FpOk X pins H' ce.locals → compEnds (model X.prog X.w) X.A X.xe use Qf (.ref D) ce (.ok .next) s') :
    codeAny (model X.prog X.w) X.A (.compLoop (.ListComp elt [⟨tg, iter, ifs, 0⟩] scope pos) 0 (.ref it) (.ref D) ce) (compEnds (model X.prog X.w) X.A X.xe use Qf (.ref D) ce) s4 := by
  have nfp : ∀ b ∈ fp, H3 b = none := fun b hb => (f3 b hb).1.1
  have stat : ∀ {σ' : St} {H' : Hp} {s' : Shared}, Inv (X.blk s3 H3 scope ce fp) [] σ' H' s' → (∀ b ∈ fp, H' b = none) → ∀ b ∈ fp, FpOk (X.blk s3 H3 scope ce fp) [] H' b := fun I' hn b hb =>
    ⟨hn b hb, (I'.ok.exf b hb).1, I'.ok.exfs b hb, .inl hb, fun x c e => (I'.ok.exf b hb).2 x c e, fun p hp => by simp at hp⟩
  refine compLoop_any (fun n s' => ∃ i H', Inv (X.blk s3 H3 scope ce fp) [] (wipe σ vs) H' s' ∧ tn i s'.heap ∧ (∀ b ∈ fp, H' b = none) ∧ W i n H') ?_ m0 ⟨0, H3, I4, st4, nfp, w0⟩
  rintro n s5 ⟨i, H5, I5, st5, n5, w5⟩
  rcases turn i n H5 w5 with ⟨stop, qq⟩ | ⟨go, Nx, hNx, step⟩
  · refine thnF (T.done (X.blk s3 H3 scope ce fp) rfl rfl rfl hc i [] s5 _ H5 (fun _ _ => False) I5 (stat I5 n5) st5 stop) ?_
    rintro _ s6 ⟨rfl, I6⟩
    obtain ⟨m, hn, _⟩ := I6.loc
    exact hRR s6 m H5 (blk_back I3 f3 I6) qq hn (I3.fpOk (Nat.le_of_eq hC.symm) I6.free)
  · refine thnF (T.item (X.blk s3 H3 scope ce fp) rfl rfl rfl hc i [] s5 _ H5 (fun _ _ => False) I5 (stat I5 n5) st5 go) ?_
    rintro _ s6 ⟨u, rfl, h6⟩
    refine thnF h6 fun _ s7 ⟨x, H7, I7, r7, y7, st7, n7⟩ => ?_
    refine thnF (pg.run _ s7 _ H7 x u _ (I7.pinned (stat I7 n7) (T.obj _ _ st7)) r7 (step x H7 y7)) fun _ s8 ⟨σ8, H8, I8, hw8, q8⟩ => ?_
    have next : ∀ {s' : Shared} {H' : Hp}, Inv (X.blk s3 H3 scope ce fp) ([] ++ pinsAt fp s7.heap) σ8 H' s' → Nx H' → ∃ m, m < n ∧ ∃ i H', Inv (X.blk s3 H3 scope ce fp) [] (wipe σ vs) H' s' ∧ tn i s'.heap ∧ (∀ b ∈ fp, H' b = none) ∧ W i m H' := fun {s' H'} I' nx => by
      obtain ⟨m', hm, w'⟩ := hNx H' nx
      have kept : ∀ b ∈ fp, ∀ o, s7.heap.get? b = some o → s'.heap.get? b = some o ∧ H' b = none := fun b hb o e =>
        have z := I'.pin (b, o) (List.mem_append_right _ (List.mem_append_right _ (mem_pinsAt hb e)))
        ⟨z.1, z.2.1⟩
      refine ⟨m', hm, i + 1, H', (I'.unpinned (pins := [])).weak (by rw [← hw8, wipe_length]) (fun j v e => (wipe_some (hw8 ▸ e)).1), T.keep _ _ _ st7 fun b hb o e => (kept b hb o e).1, fun b hb => ?_, w'⟩
      obtain ⟨o, e, _⟩ := T.obj _ _ st7 b hb
      exact (kept b hb o e).2
    refine thnF (pt.run _ s8 σ8 H8 _ I8 q8) fun b s9 ⟨H9, I9, q9⟩ => ?_
    cases b with
    | false =>
      simp only [Bool.false_eq_true, if_false] at q9 ⊢
      exact next I9 q9
    | true =>
      simp only [if_true] at q9 ⊢
      refine wpAny_mono (pe.run _ s9 σ8 H9 _ (I9.wish _) q9) (fun z s10 ⟨yv, H10, I10, r10, acc, hD10, hz10, nx⟩ => ?_) fun e s' x => ?_
      · exact app_ok (X := X.blk s3 H3 scope ce fp) (Inv.unwish I10) hD10 hz10 r10 fun s11 I11 => next I11 nx
      · have z := blk_out I3 f3 hC hcf hst hf tk x
        cases use <;> exact z
theorem lcX_core {Q : VK} {elt tg iter : Expr} {ifs : List Expr} {scope : Scope} {own : List (Str × Nat)} {pos pos' : Pos} {wi : TI} {g : TG} {tt : TT} {te : TE} {use : Option (Value → Sem Unit)} {Qf : Value → Shared → Prop}
    (hc : X.calm = true) (hN : X.N.Nodup) (hst : X.stack = X.env :: X.outer) (hf : X.env.frame = some X.env.locals) (tk : Takes X (fun cls d _ H => E cls d H)) (I : Inv X pins σ H s) (hi : PI X tg iter wi) (ok : BlkOk X.N X.env.scope scope own)
    (hg : ∀ (s : Shared) (H : Hp) (C : Addr) (cl : List (Str × Addr)) (fp : List Addr), PG (X.blk s H scope (compEnvC scope cl C X.env) fp) tg g) (ht : ∀ (s : Shared) (H : Hp) (C : Addr) (cl : List (Str × Addr)) (fp : List Addr), PTs (X.blk s H scope (compEnvC scope cl C X.env) fp) ifs tt)
    (he : ∀ (s : Shared) (H : Hp) (C : Addr) (cl : List (Str × Addr)) (fp : List Addr), PE (X.blkX (fun cls d _ H => E cls d H) s H scope (compEnvC scope cl C X.env) fp) elt te) (hs : ∀ x, foldedSetIterable iter X.env x = pure x)
    (h : tLc wi g tt te (own.map (·.2)) σ H Q)
    (hRR : ∀ D ce s' m H', Inv X pins σ H' s' → Q (.ref D) H' → s'.heap.Ns ce.locals m → FpOk X pins H' ce.locals → compEnds (model X.prog X.w) X.A X.xe use Qf (.ref D) ce (.ok .next) s') :
    wpAny (model X.prog X.w) X.A (comprehension (.ListComp elt [⟨tg, iter, ifs, 0⟩] scope pos) scope X.env pos' (newList []) false (eval iter X.env) use) Qf X.xe s := by
  refine comprehension_at (use := use) rfl hs (closure_ok fun y hy e => (ok.free y hy e).elim (fun k => I.ok.has _ (.inl k)) fun k => I.ok.has _ (.inr k)) ok.kind (fun y hy e => by rw [ok.uniq y hy, e])
    (thn (hi.run pins s σ H _ I h) fun _ s1 hx => thn hx ?_)
  rintro _ s2 ⟨it, fp, tn, J, H2, rfl, I2, T, st2, f2, q⟩
  refine wpAny_newObj_type (newEnv_comp ?_) (by show 0 ≤ sizeLine; decide)
  obtain ⟨W, ⟨m0, w0⟩, turn⟩ := q s2.heap.objs.size (I2.hok.fresh (Nat.le_refl _))
  generalize hs3 : ({ s2 with heap := s2.heap.push { cls := .type "list", data := .seq ([] : List Value).toArray } } : Shared) = s3
  have push : ∀ b o, s2.heap.get? b = some o → s3.heap.get? b = some o := fun b o e => by rw [← hs3]; exact Heap.get?_push_of_some _ e
  have I3 : Inv X pins σ (upd H2 s2.heap.objs.size (.lst [])) s3 := by
    rw [← hs3]
    exact I2.laid (t' := s2.toks) (fun b o e => Heap.get?_push_of_some _ e) (Nat.le_refl _) ⟨Nat.zero_le _, [], 0, .nil, Heap.get?_push_size _ rfl⟩
  have f3 : ∀ b ∈ fp, FpOk X pins (upd H2 s2.heap.objs.size (.lst [])) b ∧ b < s3.heap.objs.size := fun b hb => by
    obtain ⟨o, e, _⟩ := T.obj _ _ st2 b hb
    exact ⟨⟨by rw [upd_ne (Nat.ne_of_lt (Heap.lt_size e))]; exact (f2 b hb).1, (f2 b hb).2⟩, Heap.lt_size (push b o e)⟩
  have I4 := block_start I3 ok hN f3
  have st4 : tn 0 (pushCells (s3.heap.push { cls := .type "dict", data := .dict #[] }) scope.names) := T.keep _ _ _ st2 fun b _ o e => pushCells_keeps _ _ _ _ (Heap.get?_push_of_some _ (push b o e))
  have loop := lcX_loop (Q := Q) (elt := elt) (iter := iter) (pos := pos) (use := use) (Qf := Qf) (m0 := m0) hc I3 f3 I4 T st4 rfl rfl hst hf tk (hg _ _ _ _ _) (ht _ _ _ _ _) (he _ _ _ _ _) w0 turn fun s' m H' => hRR _ _ s' m H'
  exact codeAny_compStart_list loop (T.self X.A 0 _ _ _ st4 loop)
/-- as a value -/
theorem pe_lcX {elt tg iter : Expr} {ifs : List Expr} {scope : Scope} {own : List (Str × Nat)} {pos : Pos} {wi : TI} {g : TG} {tt : TT} {te : TE} (hc : X.calm = true) (hN : X.N.Nodup) (hst : X.stack = X.env :: X.outer) (hf : X.env.frame = some X.env.locals) (tk : Takes X (fun cls d _ H => E cls d H)) (hi : PI X tg iter wi) (ok : BlkOk X.N X.env.scope scope own)
    (hg : ∀ (s : Shared) (H : Hp) (C : Addr) (cl : List (Str × Addr)) (fp : List Addr), PG (X.blk s H scope (compEnvC scope cl C X.env) fp) tg g) (ht : ∀ (s : Shared) (H : Hp) (C : Addr) (cl : List (Str × Addr)) (fp : List Addr), PTs (X.blk s H scope (compEnvC scope cl C X.env) fp) ifs tt)
    (he : ∀ (s : Shared) (H : Hp) (C : Addr) (cl : List (Str × Addr)) (fp : List Addr), PE (X.blkX (fun cls d _ H => E cls d H) s H scope (compEnvC scope cl C X.env) fp) elt te) (hs : ∀ x, foldedSetIterable iter X.env x = pure x := by intro _; rfl) :
    PE X (.ListComp elt [⟨tg, iter, ifs, 0⟩] scope pos) (tLc wi g tt te (own.map (·.2))) := ⟨fun pins s σ H Q I h => by
  rw [eval_ListComp]
  exact lcX_core hc hN hst hf tk I hi ok hg ht he hs h fun D ce s' m H' I' q hn ⟨f0, f1, f2, f3, f4, f5⟩ => ⟨m, hn, fun h'' sb => ⟨.ref D, H', I'.turned (t' := s'.toks) (fun b o hb e => (sb.2 b hb).trans e) f0 f1 f3 f4 f5, rfl, q⟩⟩⟩
/-- y = [..] on one line, y a local -/
theorem ps_setLcX {i : Nat} {y : Str} {py : Pos} {elt tg iter : Expr} {ifs : List Expr} {scope : Scope} {own : List (Str × Nat)} {pos spos : Pos} {wi : TI} {g : TG} {tt : TT} {te : TE} (hc : X.calm = true) (hN : X.N.Nodup) (hst : X.stack = X.env :: X.outer) (hf : X.env.frame = some X.env.locals) (tk : Takes X (fun cls d _ H => E cls d H))
    (hy : X.N[i]? = some y) (hyl : X.env.scope.names.lookup y = some .local) (hsw : swapsWith (.ListComp elt [⟨tg, iter, ifs, 0⟩] scope pos) (some (.Name y py)) spos.line X.env = pure true) (hi : PI X tg iter wi) (ok : BlkOk X.N X.env.scope scope own)
    (hg : ∀ (s : Shared) (H : Hp) (C : Addr) (cl : List (Str × Addr)) (fp : List Addr), PG (X.blk s H scope (compEnvC scope cl C X.env) fp) tg g) (ht : ∀ (s : Shared) (H : Hp) (C : Addr) (cl : List (Str × Addr)) (fp : List Addr), PTs (X.blk s H scope (compEnvC scope cl C X.env) fp) ifs tt)
    (he : ∀ (s : Shared) (H : Hp) (C : Addr) (cl : List (Str × Addr)) (fp : List Addr), PE (X.blkX (fun cls d _ H => E cls d H) s H scope (compEnvC scope cl C X.env) fp) elt te) (hs : ∀ x, foldedSetIterable iter X.env x = pure x := by intro _; rfl) :
    PS X (.Assign [.Name y py] (.ListComp elt [⟨tg, iter, ifs, 0⟩] scope pos) spos) (tAsg (tLc wi g tt te (own.map (·.2))) (gName i)) := ⟨fun pins s σ H D I h => by
  rw [exec_Assign_Name_used _ _ _ _ hsw]
  refine wpAny_bind (wpAny_standAt (wpAny_bind ?_))
  show wpAny _ X.A (do let _ ← comprehension (.ListComp elt [⟨tg, iter, ifs, 0⟩] scope pos) scope X.env (firstIterPos [⟨tg, iter, ifs, 0⟩] pos) (newList []) false (eval iter X.env) (some (assign (.Name y py) X.env))) _ _ s
  refine wpAny_bind (thn (lcX_core (Qf := fun _ s' => SP X pins D .next s') (Q := fun x H1 => gName i x σ H1 D.nx) hc hN hst hf tk I hi ok hg ht he hs h fun L ce s' m H' I' q hn ⟨f0, f1, f2, f3, f4, f5⟩ => ?_) fun _ s' hq => wpAny_pure (wpAny_pure hq))
  show wpAny _ _ (assign (.Name y py) X.env (.ref L)) _ _ _
  refine wpAny_assign_Name (store_ok2 (v := V.ref L) I' hN hy (.inl hyl) rfl (fun s2 I2 ⟨a, sb, ha⟩ => ?_) (.inr hyl))
  have ne : ce.locals ≠ a := ha.elim (fun z => by rw [z]; exact f1) fun z e => f4 y a z e.symm
  exact ⟨m, hn.sameBut sb ne, fun h3 sb3 => ⟨_, H', I2.turned (t' := s2.toks) (fun b o hb e => (sb3.2 b hb).trans e) f0 f1 f3 f4 f5, q⟩⟩⟩
end
end L2
namespace Sl
open PySem PySem.Spec PyProof.Rows L2
section
variable {P : Program} {w : World} {K : PySem.W.Frag} {mg : Str → Option Value} {base : Heap}

end
section
variable {P : Program} {w : World} {K : PySem.W.Frag} {mg : Str → Option Value} {base : Heap}
local macro_rules | `(tactic| get_elem_tactic_trivial) => `(tactic| (repeat first | exact Wk.nil | exact Wk'.nil | refine Wk.same ?_ | refine Wk'.same ?_ | refine Wk.un (fun _ z => nomatch z) ?_ | refine Wk'.un ?_))
/-! level 2: a new list of scalars, told with all chunks as they stand, grown cold at once -/

end
section
variable {P : Program} {w : World} {K : PySem.W.Frag} {mg : Str → Option Value} {base : Heap}
local macro_rules | `(tactic| get_elem_tactic_trivial) => `(tactic| (repeat first | exact Wk.nil | exact Wk'.nil | refine Wk.same ?_ | refine Wk'.same ?_ | refine Wk.un (fun _ z => nomatch z) ?_ | refine Wk'.un ?_))
/-! texts put together; wide numbers as texts; partition; wide numbers shown at any depth -/
/-! str of a text or a number of any size -/
/-! partition -/
end
section
variable {P : Program} {w : World} {K : PySem.W.Frag} {mg : Str → Option Value} {base : Heap}
local macro_rules | `(tactic| get_elem_tactic_trivial) => `(tactic| (repeat first | exact Wk.nil | exact Wk'.nil | refine Wk.same ?_ | refine Wk'.same ?_ | refine Wk.un (fun _ z => nomatch z) ?_ | refine Wk'.un ?_))
/-! shown, numbers of any size -/
end
section
variable {P : Program} {w : World} {K : PySem.W.Frag} {mg : Str → Option Value} {base : Heap}
local macro_rules | `(tactic| get_elem_tactic_trivial) => `(tactic| (repeat first | exact Wk.nil | exact Wk'.nil | refine Wk.same ?_ | refine Wk'.same ?_ | refine Wk.un (fun _ z => nomatch z) ?_ | refine Wk'.un ?_))
/-! what may be shown so -/
/-! a list taken apart -/

end
section
variable {P : Program} {w : World} {K : PySem.W.Frag} {mg : Str → Option Value} {base : Heap}
local macro_rules | `(tactic| get_elem_tactic_trivial) => `(tactic| (repeat first | exact Wk.nil | exact Wk'.nil | refine Wk.same ?_ | refine Wk'.same ?_ | refine Wk.un (fun _ z => nomatch z) ?_ | refine Wk'.un ?_))
/-! level 3: lists, instances, dicts that are changed wherever they stand, and packs of such, by their addresses -/
inductive Fl where
  | lst (ds : List Dt) | ins (c : Str) (ns : List Str) (ds : List Dt) | dic (ks : List Key) (ds : List Dt) | lck (ks : List Key) (ds : List Dt) (o : Obj) (vs : List V)
abbrev Fm := List (Addr × Fl)
inductive Ob where
  | fl (f : Fl) | pk (I : Addr → Fm → Prop)
abbrev My := List (Addr × Ob)
def FlOk (K : PySem.W.Frag) (C U : Hp) (a : Addr) : Fl → Prop
  | .lst ds => ∃ vs, U a = some (.lst vs) ∧ RpL K C vs ds
  | .ins c ns ds => ∃ dx vs, U a = some (.ins (He.ga K c) dx (ns.zip vs)) ∧ U dx = some (.own a) ∧ ns.length = vs.length ∧ RpL K C vs ds ∧ ∀ f, f ∈ ns → FldOk K c f
  | .dic ks ds => ∃ vs, U a = some (.dK (ks.zip vs)) ∧ ks.length = vs.length ∧ ks.Nodup ∧ RpL K C vs ds
  | .lck ks ds o vs => U a = some (.frz o (.dK (ks.zip vs))) ∧ ks.length = vs.length ∧ ks.Nodup ∧ RpL K C vs ds
structure Mf (K : PySem.W.Frag) (B : Bs) (C U : Hp) (m : Fm) : Prop where
  nd : (m.map (·.1)).Nodup
  at_ : ∀ a f, (a, f) ∈ m → FlOk K C U a f
  all : ∀ a o, U a = some o → (∃ f, (a, f) ∈ m) ∨ ∃ x f, o = .own x ∧ (x, f) ∈ m
  fr : ∀ a o, U a = some o → C a = none ∧ B.H0 a = none ∧ ∀ i, B.bx ≠ some (i, a)
def SepF (K : PySem.W.Frag) (B : Bs) (C H : Hp) (σ : L2.St) (ρ : List Sl) (m : Fm) : Prop := ∃ U, Mf K B C U m ∧ Sep K (B.hang U) C H σ ρ
def NoSlot (σ : L2.St) (ρ : List Sl) (a : Addr) : Prop := ∀ (j : Nat) (t : Sl), ρ[j]? = some t → t.mut = true → σ[j]? ≠ some (some (V.ref a))
section
variable {B : Bs} {C C' H G U U' : Hp} {σ σ' : L2.St} {ρ ρ' : List Sl} {m m1 m2 : Fm} {a : Addr} {f : Fl}
theorem FlOk.root (h : FlOk K C U a f) : ∃ o, U a = some o ∧ ∀ x, o ≠ .own x := by
  cases f with
  | lst ds => obtain ⟨vs, e, _⟩ := h; exact ⟨_, e, fun _ z => nomatch z⟩
  | ins c ns ds => obtain ⟨dx, vs, e, _⟩ := h; exact ⟨_, e, fun _ z => nomatch z⟩
  | dic ks ds => obtain ⟨vs, e, _⟩ := h; exact ⟨_, e, fun _ z => nomatch z⟩
  | lck ks ds o vs => obtain ⟨e, _⟩ := h; exact ⟨_, e, fun _ z => nomatch z⟩
theorem FlOk.same (h : FlOk K C U a f) (s : Same C C') : FlOk K C' U a f := by
  cases f with
  | lst ds => obtain ⟨vs, e, r⟩ := h; exact ⟨vs, e, r.same s⟩
  | ins c ns ds => obtain ⟨dx, vs, e, e2, l, r, ff⟩ := h; exact ⟨dx, vs, e, e2, l, r.same s, ff⟩
  | dic ks ds => obtain ⟨vs, e, l, n, r⟩ := h; exact ⟨vs, e, l, n, r.same s⟩
  | lck ks ds o vs => obtain ⟨e, l, n, r⟩ := h; exact ⟨e, l, n, r.same s⟩
theorem FlOk.heap (h : FlOk K C U a f) (k : ∀ b o, (b = a ∨ o = .own a) → U b = some o → U' b = some o) : FlOk K C U' a f := by
  cases f with
  | lst ds => obtain ⟨vs, e, r⟩ := h; exact ⟨vs, k _ _ (.inl rfl) e, r⟩
  | ins c ns ds => obtain ⟨dx, vs, e, e2, l, r, ff⟩ := h; exact ⟨dx, vs, k _ _ (.inl rfl) e, k _ _ (.inr rfl) e2, l, r, ff⟩
  | dic ks ds => obtain ⟨vs, e, l, r⟩ := h; exact ⟨vs, k _ _ (.inl rfl) e, l, r⟩
  | lck ks ds o vs => obtain ⟨e, l, r⟩ := h; exact ⟨k _ _ (.inl rfl) e, l, r⟩
theorem Mf.ne (M : Mf K B C U m) (h : (a, f) ∈ m) : U a ≠ none := fun z => by
  obtain ⟨o, e, _⟩ := (M.at_ a f h).root
  rw [z] at e
  cases e
theorem Mf.on (M : Mf K B C U m) (g : Same B.C0 C) (s : Same C C') (S : Sep K (B.hang U) C' G σ' ρ') : Mf K B C' U m :=
  ⟨M.nd, fun a f h => (M.at_ a f h).same s, M.all, fun a o h => by
    obtain ⟨c, b, x⟩ := M.fr a o h
    refine ⟨?_, b, x⟩
    cases q : C' a with
    | none => rfl
    | some u =>
      have := S.new a u q (g.free c)
      rw [hang_at h] at this
      cases this⟩
theorem Mf.bound (M : Mf K B C U m) (S : Sep K (B.hang U) C H σ ρ) {o : HO} (h : U a = some o) : H a = some o := S.keep a o (hang_at h) (M.fr a o h).2.2
theorem Mf.noSlot (M : Mf K B C U m) (S : Sep K (B.hang U) C H σ ρ) {o : HO} (h : U a = some o) : NoSlot σ ρ a := fun j t hj mt e => by
  obtain ⟨_, b0, bx⟩ := M.fr a o h
  cases t with
  | un => cases mt
  | dat d => cases mt
  | hot ds =>
    have := S.loc j a ds hj e
    rw [hang_at h] at this
    cases this
  | box n =>
    rcases S.lob j a n hj e with z | z
    · rw [hang_at h] at z
      cases z
    · exact absurd z (bx j)
/-- fewer are hung -/
theorem Sep.hangLe (S : Sep K (B.hang U) C H σ ρ) (le : ∀ a o, U' a = some o → U a = some o) (fr : ∀ a o, U a = some o → B.H0 a = none) : Sep K (B.hang U') C H σ ρ := by
  have off : ∀ {a : Addr}, (B.hang U).H0 a = none → (B.hang U').H0 a = none := fun {a} h => by
    obtain ⟨h1, h2⟩ := hang_no h
    have h3 : U' a = none := by
      cases q : U' a with
      | none => rfl
      | some o => rw [le a o q] at h1; cases h1
    rw [hang_off h3]
    exact h2
  have b0 : ∀ {a : Addr}, U' a = none → ∀ {x : HO}, B.H0 a = some x → (B.hang U).H0 a = some x := fun {a} e {x} h => by
    cases q : U a with
    | some o => rw [fr a o q] at h; cases h
    | none => rw [hang_off q]; exact h
  refine ⟨S.cold, S.len, S.sl, S.ne, S.grow, fun a x e n => off (S.new a x e n), fun a h => ?_, fun a x h n => ?_, fun i a ds h e => off (S.loc i a ds h e), fun i a n h e => (S.lob i a n h e).imp off id, S.par, S.pz⟩
  · cases q : U' a with
    | some o => exact S.dom a (by rw [hang_at (le a o q)]; exact fun z => nomatch z)
    | none =>
      rw [hang_off q] at h
      cases q2 : B.H0 a with
      | none => exact absurd q2 h
      | some x => exact S.dom a (by rw [b0 q q2]; exact fun z => nomatch z)
  · cases q : U' a with
    | some o =>
      rw [hang_at q] at h
      cases h
      exact S.keep a _ (hang_at (le a _ q)) n
    | none =>
      rw [hang_off q] at h
      exact S.keep a x (b0 q h) n
theorem Sep.unhang (S : Sep K (B.hang U) C H σ ρ) (M : Mf K B C U m) : Sep K B C H σ ρ := by
  have := S.hangLe (U' := fun _ => none) (fun a o h => nomatch h) fun a o h => (M.fr a o h).2.1
  rwa [hang_nil] at this
/-- a part of what is hung -/
noncomputable def partU (U : Hp) (m : Fm) : Hp := fun a => by
  classical
  exact if (∃ f, (a, f) ∈ m) ∨ ∃ x f, U a = some (.own x) ∧ (x, f) ∈ m then U a else none
theorem partU_le {o : HO} (h : partU U m a = some o) : U a = some o ∧ ((∃ f, (a, f) ∈ m) ∨ ∃ x f, o = .own x ∧ (x, f) ∈ m) := by
  unfold partU at h
  split at h
  · next q =>
    refine ⟨h, q.imp id ?_⟩
    rintro ⟨x, f, e, k⟩
    rw [h] at e
    cases e
    exact ⟨x, f, rfl, k⟩
  · cases h
theorem partU_in {o : HO} (h : U a = some o) (q : (∃ f, (a, f) ∈ m) ∨ ∃ x f, o = .own x ∧ (x, f) ∈ m) : partU U m a = some o := by
  unfold partU
  rw [if_pos]
  · exact h
  · refine q.imp id ?_
    rintro ⟨x, f, rfl, k⟩
    exact ⟨x, f, h, k⟩
theorem Mf.part {M' : Fm} (M : Mf K B C U M') (sub : ∀ x, x ∈ m → x ∈ M') (nd : (m.map (·.1)).Nodup) : Mf K B C (partU U m) m :=
  ⟨nd, fun a f h => (M.at_ a f (sub _ h)).heap fun b o q e => partU_in e (q.imp (fun z => ⟨f, by rw [z]; exact h⟩) fun z => ⟨a, f, z, h⟩), fun a o h => (partU_le h).2, fun a o h => M.fr a o (partU_le h).1⟩
theorem SepF.split (S : SepF K B C H σ ρ (m1 ++ m2)) : ∃ U1 U2, Mf K B C U1 m1 ∧ Mf K B C U2 m2 ∧ Sep K (B.hang U2) C H σ ρ ∧ ∀ a o, U1 a = some o → H a = some o ∧ U2 a = none ∧ NoSlot σ ρ a := by
  obtain ⟨U, M, S⟩ := S
  have nd := M.nd
  rw [List.map_append] at nd
  obtain ⟨n1, n2, n3⟩ := List.nodup_append.mp nd
  have dis : ∀ a f g, (a, f) ∈ m1 → (a, g) ∈ m2 → False := fun a f g h1 h2 => n3 a (List.mem_map.mpr ⟨_, h1, rfl⟩) a (List.mem_map.mpr ⟨_, h2, rfl⟩) rfl
  refine ⟨partU U m1, partU U m2, M.part (fun x h => List.mem_append_left _ h) n1, M.part (fun x h => List.mem_append_right _ h) n2, S.hangLe (fun a o h => (partU_le h).1) fun a o h => (M.fr a o h).2.1, fun a o h => ?_⟩
  obtain ⟨e, k⟩ := partU_le h
  refine ⟨M.bound S e, ?_, M.noSlot S e⟩
  cases q : partU U m2 a with
  | none => rfl
  | some u =>
    obtain ⟨e2, k2⟩ := partU_le q
    rw [e] at e2
    cases e2
    have nown : ∀ {g : Fl} {x : Addr}, (a, g) ∈ m1 ++ m2 → o ≠ .own x := fun {g x} z => by
      obtain ⟨o', e', ne⟩ := (M.at_ a g z).root
      rw [e] at e'
      cases e'
      exact ne x
    rcases k with ⟨f, k⟩ | ⟨x, f, k, k'⟩
    · rcases k2 with ⟨g, k2⟩ | ⟨y, g, k2, _⟩
      · exact (dis a f g k k2).elim
      · exact absurd k2 (nown (List.mem_append_left _ k))
    · rcases k2 with ⟨g, k2⟩ | ⟨y, g, k2, k2'⟩
      · exact absurd k (nown (List.mem_append_right _ k2))
      · rw [k] at k2
        cases k2
        exact (dis x f g k' k2').elim
theorem SepF.join {U1 U2 : Hp} (M1 : Mf K B C U1 m1) (M2 : Mf K B C U2 m2) (S : Sep K (B.hang U2) C H σ ρ) (hh : ∀ a o, U1 a = some o → H a = some o ∧ U2 a = none ∧ NoSlot σ ρ a) : SepF K B C H σ ρ (m1 ++ m2) := by
  have l1 : ∀ {b : Addr} {o : HO}, U1 b = some o → (fun a => match U1 a with | some o => some o | none => U2 a) b = some o := fun {b o} e => by
    show (match U1 b with | some o => some o | none => U2 b) = _
    rw [e]
  have l2 : ∀ {b : Addr} {o : HO}, U2 b = some o → (fun a => match U1 a with | some o => some o | none => U2 a) b = some o := fun {b o} e => by
    show (match U1 b with | some o => some o | none => U2 b) = _
    cases q : U1 b with
    | none => exact e
    | some u =>
      have := (hh b u q).2.1
      rw [e] at this
      cases this
  have un : ∀ {b : Addr} {o : HO}, (fun a => match U1 a with | some o => some o | none => U2 a) b = some o → U1 b = some o ∨ U2 b = some o := fun {b o} e => by
    have e : (match U1 b with | some o => some o | none => U2 b) = some o := e
    cases q : U1 b with
    | none => rw [q] at e; exact .inr e
    | some u => rw [q] at e; cases e; exact .inl rfl
  refine ⟨_, ⟨?_, fun a f h => ?_, fun a o h => ?_, fun a o h => ?_⟩, S.hangAll (U' := U1) fun a o h => ⟨(hh a o h).1, (M1.fr a o h).1, by rw [hang_off (hh a o h).2.1]; exact (M1.fr a o h).2.1, (hh a o h).2.2⟩⟩
  · rw [List.map_append]
    refine List.nodup_append.mpr ⟨M1.nd, M2.nd, fun a h1 b h2 z => ?_⟩
    subst z
    obtain ⟨⟨x, f⟩, g1, rfl⟩ := List.mem_map.mp h1
    obtain ⟨⟨y, g⟩, g2, e2⟩ := List.mem_map.mp h2
    have e3 : y = x := e2
    subst e3
    cases q : U1 y with
    | none => exact M1.ne g1 q
    | some o => exact M2.ne g2 (hh y o q).2.1
  · rcases List.mem_append.mp h with h | h
    · exact (M1.at_ a f h).heap fun b o _ e => l1 e
    · exact (M2.at_ a f h).heap fun b o _ e => l2 e
  · rcases un h with h | h
    · exact (M1.all a o h).imp (fun ⟨f, z⟩ => ⟨f, List.mem_append_left _ z⟩) fun ⟨x, f, e, z⟩ => ⟨x, f, e, List.mem_append_left _ z⟩
    · exact (M2.all a o h).imp (fun ⟨f, z⟩ => ⟨f, List.mem_append_right _ z⟩) fun ⟨x, f, e, z⟩ => ⟨x, f, e, List.mem_append_right _ z⟩
  · rcases un h with h | h
    · exact M1.fr a o h
    · exact M2.fr a o h
theorem Mf.perm (M : Mf K B C U m1) (p : m1.Perm m2) : Mf K B C U m2 :=
  ⟨(p.map _).nodup_iff.mp M.nd, fun a f h => M.at_ a f (p.mem_iff.mpr h), fun a o h => (M.all a o h).imp (fun ⟨f, z⟩ => ⟨f, p.mem_iff.mp z⟩) fun ⟨x, f, e, z⟩ => ⟨x, f, e, p.mem_iff.mp z⟩, M.fr⟩
theorem SepF.perm (S : SepF K B C H σ ρ m1) (p : m1.Perm m2) : SepF K B C H σ ρ m2 := by
  obtain ⟨U, M, S⟩ := S
  exact ⟨U, M.perm p, S⟩
theorem SepF.right (S : SepF K B C H σ ρ (m1 ++ m2)) : SepF K B C H σ ρ m2 := by
  obtain ⟨U1, U2, M1, M2, S, _⟩ := S.split
  exact ⟨U2, M2, S⟩
theorem SepF.left (S : SepF K B C H σ ρ (m1 ++ m2)) : SepF K B C H σ ρ m1 := (S.perm List.perm_append_comm).right
theorem SepF.sep (S : SepF K B C H σ ρ m) : Sep K B C H σ ρ := by
  obtain ⟨U, M, S⟩ := S
  exact S.unhang M
theorem SepF.has (S : SepF K B C H σ ρ m) (h : (a, f) ∈ m) : FlOk K C H a f := by
  obtain ⟨U, M, S⟩ := S
  exact (M.at_ a f h).heap fun b o _ e => M.bound S e
def oneU (a : Addr) (o : HO) : Hp := fun b => if b = a then some o else none
theorem oneU_at {o : HO} : oneU a o a = some o := if_pos rfl
theorem oneU_eq {o u : HO} {b : Addr} (h : oneU a o b = some u) : b = a ∧ u = o := by
  unfold oneU at h
  split at h
  · next e => exact ⟨e, (Option.some.inj h).symm⟩
  · cases h
theorem Mf.one {o : HO} (ok : FlOk K C (oneU a o) a f) (c : C a = none) (b : B.H0 a = none) (x : ∀ i, B.bx ≠ some (i, a)) : Mf K B C (oneU a o) [(a, f)] :=
  ⟨List.nodup_cons.mpr ⟨by simp, .nil⟩, fun b g h => by
    obtain ⟨rfl, rfl⟩ := Prod.mk.inj (List.mem_singleton.mp h)
    exact ok, fun b u h => .inl ⟨f, by rw [(oneU_eq h).1]; exact List.mem_cons_self ..⟩, fun b' u h => by
    rw [(oneU_eq h).1]
    exact ⟨c, b, x⟩⟩
/-- a thing of its own is hung -/
theorem Sep.nobx (S : Sep K B C H σ ρ) (ns : NoSlot σ ρ a) (i : Nat) : B.bx ≠ some (i, a) := fun e => by
  obtain ⟨e1, n, e2⟩ := S.par i a e
  exact ns i _ e2 rfl e1
theorem SepF.push (S : Sep K (B.hang U) C H σ ρ) (M : Mf K B C U m) {o : HO} (ha : H a = some o) (ca : C a = none) (h0 : (B.hang U).H0 a = none) (ns : NoSlot σ ρ a) (ok : FlOk K C (oneU a o) a f) : SepF K B C H σ ρ ((a, f) :: m) := by
  obtain ⟨u0, b0⟩ := hang_no h0
  refine SepF.join (m1 := [(a, f)]) (Mf.one ok ca b0 (S.nobx ns)) M S fun b u h => ?_
  obtain ⟨rfl, rfl⟩ := oneU_eq h
  exact ⟨ha, u0, ns⟩
theorem SepF.fresh {ds : List Dt} (S : Sep K (B.hang U) C H σ ρ) (M : Mf K B C U m) (f : Fr K (B.hang U) C H σ ρ a ds) : SepF K B C H σ ρ ((a, .lst ds) :: m) := by
  obtain ⟨⟨vs, ha, r⟩, ca, h0, ns⟩ := f
  exact SepF.push S M ha ca h0 ns ⟨vs, oneU_at, r⟩
/-- a new object is laid and kept cold -/
theorem SepF.alloc {p : Addr} {o : HO} (S : SepF K B C H σ ρ m) (hp : H p = none) : SepF K B (upd C p o) (upd H p o) σ ρ m ∧ Same C (upd C p o) := by
  obtain ⟨U, M, S⟩ := S
  have cp := S.cold.free hp
  exact ⟨⟨U, M.on S.grow (same_new cp) (S.alloc hp), S.alloc hp⟩, same_new cp⟩
theorem Sep.wr {o' : HO} (S : Sep K B C H σ ρ) (ca : C a = none) (h0 : B.H0 a = none) (ns : NoSlot σ ρ a) : Sep K B C (upd H a o') σ ρ := by
  have nC : ∀ b x, C b = some x → b ≠ a := fun b x h z => by rw [z, ca] at h; cases h
  have nB : ∀ b x, B.H0 b = some x → b ≠ a := fun b x h z => by rw [z, h0] at h; cases h
  refine ⟨fun b x e => by rw [upd_ne (nC b x e)]; exact S.cold _ _ e, S.len, fun i s h => ?_, S.ne, S.grow, S.new, fun b h => ?_, fun b x h n => by rw [upd_ne (nB b x h)]; exact S.keep b x h n, S.loc, S.lob, S.par, S.pz⟩
  · have q := S.sl i s h
    cases s with
    | un => trivial
    | dat d => exact q
    | hot ds =>
      obtain ⟨b, vs, e, h2, r, h3⟩ := q
      exact ⟨b, vs, e, by rw [upd_ne (fun z : b = a => ns i _ h rfl (by rw [← z]; exact e))]; exact h2, r, h3⟩
    | box n =>
      obtain ⟨b, e, ⟨x, y, z, h2, h4⟩, h3⟩ := q
      exact ⟨b, e, ⟨x, y, z, by rw [upd_ne (fun z : b = a => ns i _ h rfl (by rw [← z]; exact e))]; exact h2, h4⟩, h3⟩
  · by_cases z : b = a
    · rw [z, upd_same]
      exact fun q => nomatch q
    · rw [upd_ne z]
      exact S.dom b h
/-- one of them is changed -/
theorem SepF.set {f' : Fl} {o' : HO} (S : SepF K B C H σ ρ ((a, f) :: m)) (ok : ∀ U1 : Hp, FlOk K C U1 a f → (∀ b o, U1 b = some o → H b = some o) → FlOk K C (upd U1 a o') a f') : SepF K B C (upd H a o') σ ρ ((a, f') :: m) := by
  obtain ⟨U1, U2, M1, M2, S, hh⟩ := SepF.split (m1 := [(a, f)]) S
  have f1 := M1.at_ a f (List.mem_cons_self ..)
  obtain ⟨o, e1, no⟩ := f1.root
  obtain ⟨ca, b0, bx⟩ := M1.fr a o e1
  obtain ⟨ha, u2, ns⟩ := hh a o e1
  refine SepF.join (m1 := [(a, f')]) (U1 := upd U1 a o') ⟨List.nodup_cons.mpr ⟨by simp, .nil⟩, fun b g h => ?_, fun b u h => ?_, fun b u h => ?_⟩ M2 (S.wr ca (by rw [hang_off u2]; exact b0) ns) fun b u h => ?_
  · obtain ⟨rfl, rfl⟩ := Prod.mk.inj (List.mem_singleton.mp h)
    exact ok U1 f1 fun b o e => (hh b o e).1
  · by_cases z : b = a
    · exact .inl ⟨f', by rw [z]; exact List.mem_cons_self ..⟩
    · rw [upd_ne z] at h
      rcases M1.all b u h with ⟨g, k⟩ | ⟨x, g, k, k2⟩
      · exact absurd (Prod.mk.inj (List.mem_singleton.mp k)).1 z
      · exact .inr ⟨x, f', k, by rw [(Prod.mk.inj (List.mem_singleton.mp k2)).1]; exact List.mem_cons_self ..⟩
  · by_cases z : b = a
    · rw [z]
      exact ⟨ca, b0, bx⟩
    · rw [upd_ne z] at h
      exact M1.fr b u h
  · by_cases z : b = a
    · rw [z]
      rw [z, upd_same] at h
      cases h
      exact ⟨upd_same, u2, ns⟩
    · rw [upd_ne z] at h
      rw [upd_ne z]
      exact hh b u h
theorem Sep.coolU {U1 : Hp} (S : Sep K B C H σ ρ) (h : ∀ a o, U1 a = some o → H a = some o ∧ C a = none ∧ B.H0 a = none ∧ NoSlot σ ρ a) : Sep K B (orU U1 C) H σ ρ ∧ Same C (orU U1 C) := by
  have sC : Same C (orU U1 C) := fun a o e => by
    cases q : U1 a with
    | some u =>
      rw [(h a u q).2.1] at e
      cases e
    | none => rw [orU_off q]; exact e
  have off : ∀ (i : Nat) (t : Sl) (a : Addr), ρ[i]? = some t → t.mut = true → σ[i]? = some (some (V.ref a)) → U1 a = none := fun i t a ht m e => by
    cases q : U1 a with
    | none => rfl
    | some u => exact absurd e ((h a u q).2.2.2 i t ht m)
  refine ⟨⟨fun a o e => ?_, S.len, fun i s hs => ?_, S.ne, S.grow.trans sC, fun a o e n => ?_, S.dom, S.keep, S.loc, S.lob, S.par, S.pz⟩, sC⟩
  · cases q : U1 a with
    | some u =>
      rw [orU_at q] at e
      cases e
      exact (h a _ q).1
    | none => rw [orU_off q] at e; exact S.cold _ _ e
  · have q := S.sl i s hs
    cases s with
    | un => trivial
    | dat d =>
      obtain ⟨v, e, r⟩ := q
      exact ⟨v, e, r.same sC⟩
    | hot ds =>
      obtain ⟨a, vs, e, h2, r, h3⟩ := q
      exact ⟨a, vs, e, h2, r.same sC, by rw [orU_off (off i _ a hs rfl e)]; exact h3⟩
    | box n =>
      obtain ⟨a, e, b, h3⟩ := q
      exact ⟨a, e, b, by rw [orU_off (off i _ a hs rfl e)]; exact h3⟩
  · cases q : U1 a with
    | some u => exact (h a u q).2.2.1
    | none => rw [orU_off q] at e; exact S.new a o e n
def Fl.cold : Fl → Dt
  | .lst ds => .lst ds
  | .ins c ns ds => .obj c ns ds
  | .dic ks ds => .dic ks ds
  | .lck ks ds _ _ => .dic ks ds
/-- one of them grows cold -/
theorem SepF.cool (S : SepF K B C H σ ρ ((a, f) :: m)) : ∃ C', SepF K B C' H σ ρ m ∧ Same C C' ∧ Rp K C' (.ref a) f.cold := by
  obtain ⟨U1, U2, M1, M2, S, hh⟩ := SepF.split (m1 := [(a, f)]) S
  obtain ⟨S', sC⟩ := S.coolU (U1 := U1) fun b o e => ⟨(hh b o e).1, (M1.fr b o e).1, by rw [hang_off (hh b o e).2.1]; exact (M1.fr b o e).2.1, (hh b o e).2.2⟩
  refine ⟨_, ⟨U2, M2.on S.grow sC S', S'⟩, sC, ?_⟩
  have ok := (M1.at_ a f (List.mem_cons_self ..)).same sC
  cases f with
  | lst ds =>
    obtain ⟨vs, e, r⟩ := ok
    exact .lst (orU_at e) r
  | ins c ns ds =>
    obtain ⟨dx, vs, e, e2, l, r, _⟩ := ok
    exact .obj (orU_at e) (orU_at e2) l r
  | dic ks ds =>
    obtain ⟨vs, e, l, n, r⟩ := ok
    exact .dic (.inl (orU_at e)) l n r
  | lck ks ds o vs =>
    obtain ⟨e, l, n, r⟩ := ok
    exact .dic (.inr ⟨o, orU_at e⟩) l n r
theorem SepF.put {i : Nat} {v : V} {d : Dt} (S : SepF K B C H σ ρ m) (hb : i = 0 → ∀ n, ρ[i]? ≠ some (.box n)) (r : Rp K C v d) : SepF K B C H (σ.set i (some v)) (ρ.set i (.dat d)) m := by
  obtain ⟨U, M, S⟩ := S
  exact ⟨U, M, S.dat hb r⟩
/-- a list becomes a name's own -/
theorem SepF.toHot {i : Nat} {ds : List Dt} (S : SepF K B C H σ ρ ((a, .lst ds) :: m)) (hb : i = 0 → ∀ n, ρ[i]? ≠ some (.box n)) : SepF K B C H (σ.set i (some (.ref a))) (ρ.set i (.hot ds)) m := by
  obtain ⟨U1, U2, M1, M2, S, hh⟩ := SepF.split (m1 := [(a, .lst ds)]) S
  obtain ⟨vs, e, r⟩ := M1.at_ a _ (List.mem_cons_self ..)
  obtain ⟨ca, b0, bx⟩ := M1.fr a _ e
  obtain ⟨ha, u2, ns⟩ := hh a _ e
  refine ⟨U2, M2, S.put hb (fun _ => ⟨a, vs, rfl, ha, r, ca⟩) fun _ b eb => ?_⟩
  cases eb
  exact ⟨fun j t _ hj mt => ns j t hj mt, by rw [hang_off u2]; exact b0⟩
end

end
section
variable {P : Program} {w : World} {K : PySem.W.Frag} {mg : Str → Option Value} {base : Heap}
local macro_rules | `(tactic| get_elem_tactic_trivial) => `(tactic| (repeat first | exact Wk.nil | exact Wk'.nil | refine Wk.same ?_ | refine Wk'.same ?_ | refine Wk.un (fun _ z => nomatch z) ?_ | refine Wk'.un ?_))
/-! level 3: packs opened and closed -/
def Ex1 : Addr × Ob → Fm → Prop
  | (a, .fl f), m => m = [(a, f)]
  | (a, .pk I), m => I a m
def Exp : My → Fm → Prop
  | [], m => m = []
  | c :: μ, m => ∃ m1 m2, m = m1 ++ m2 ∧ Ex1 c m1 ∧ Exp μ m2
def flat (m : Fm) : My := m.map fun x => (x.1, .fl x.2)
theorem Exp.app : ∀ {μ1 μ2 : My} {m1 m2 : Fm}, Exp μ1 m1 → Exp μ2 m2 → Exp (μ1 ++ μ2) (m1 ++ m2)
  | [], _, _, _, h, k => by cases h; exact k
  | c :: μ1, μ2, m1, m2, ⟨x, y, e, h1, h2⟩, k => ⟨x, y ++ m2, by rw [e, List.append_assoc], h1, Exp.app h2 k⟩
theorem Exp.unapp : ∀ {μ1 μ2 : My} {m : Fm}, Exp (μ1 ++ μ2) m → ∃ m1 m2, m = m1 ++ m2 ∧ Exp μ1 m1 ∧ Exp μ2 m2
  | [], _, m, h => ⟨[], m, rfl, rfl, h⟩
  | c :: μ1, μ2, m, ⟨x, y, e, h1, h2⟩ => by
    obtain ⟨m1, m2, e2, k1, k2⟩ := Exp.unapp h2
    exact ⟨x ++ m1, m2, by rw [e, e2, List.append_assoc], ⟨x, m1, rfl, h1, k1⟩, k2⟩
theorem Exp.perm {μ μ' : My} (p : μ.Perm μ') : ∀ {m : Fm}, Exp μ m → ∃ m', Exp μ' m' ∧ m.Perm m' := by
  induction p with
  | nil => exact fun {m} h => ⟨m, h, .refl _⟩
  | cons c p ih =>
    rintro m ⟨x, y, rfl, h1, h2⟩
    obtain ⟨y', k, q⟩ := ih h2
    exact ⟨x ++ y', ⟨x, y', rfl, h1, k⟩, q.append_left x⟩
  | swap c d μ =>
    rintro m ⟨x, _, rfl, h1, y, z, rfl, h2, h3⟩
    exact ⟨y ++ (x ++ z), ⟨y, x ++ z, rfl, h2, x, z, rfl, h1, h3⟩, by
      rw [← List.append_assoc, ← List.append_assoc]
      exact List.Perm.append_right _ List.perm_append_comm⟩
  | trans p q ih1 ih2 =>
    intro m h
    obtain ⟨m1, h1, q1⟩ := ih1 h
    obtain ⟨m2, h2, q2⟩ := ih2 h1
    exact ⟨m2, h2, q1.trans q2⟩
theorem Exp.flat : ∀ m : Fm, Exp (flat m) m
  | [] => rfl
  | x :: m => ⟨[x], m, rfl, rfl, Exp.flat m⟩
theorem Exp.ofFlat : ∀ {m m' : Fm}, Exp (Sl.flat m) m' → m' = m
  | [], _, h => h
  | x :: m, _, ⟨y, z, e, h1, h2⟩ => by
    have h1 : y = [x] := h1
    rw [e, h1, Exp.ofFlat h2]
    rfl
/-- what may be had instead -/
def Ent (μ μ' : My) : Prop := ∀ m, Exp μ m → ∃ m' r, Exp μ' m' ∧ m.Perm (m' ++ r)
theorem Ent.refl (μ : My) : Ent μ μ := fun m h => ⟨m, [], h, by rw [List.append_nil]⟩
theorem Ent.trans {μ1 μ2 μ3 : My} (h : Ent μ1 μ2) (k : Ent μ2 μ3) : Ent μ1 μ3 := fun m e => by
  obtain ⟨m2, r2, e2, p2⟩ := h m e
  obtain ⟨m3, r3, e3, p3⟩ := k m2 e2
  exact ⟨m3, r3 ++ r2, e3, p2.trans (by rw [← List.append_assoc]; exact p3.append_right _)⟩
theorem Ent.perm {μ μ' : My} (p : μ.Perm μ') : Ent μ μ' := fun m e => by
  obtain ⟨m', e', q⟩ := e.perm p
  exact ⟨m', [], e', by rw [List.append_nil]; exact q⟩
theorem Ent.drop {μ μ' r : My} (p : μ.Perm (μ' ++ r)) : Ent μ μ' := (Ent.perm p).trans fun m e => by
  obtain ⟨m1, m2, rfl, e1, e2⟩ := e.unapp
  exact ⟨m1, m2, e1, .refl _⟩
theorem Ent.left {μ1 μ2 : My} : Ent (μ1 ++ μ2) μ1 := Ent.drop (.refl _)
theorem Ent.right {μ1 μ2 : My} : Ent (μ1 ++ μ2) μ2 := Ent.drop List.perm_append_comm
theorem Ent.tail {c : Addr × Ob} {μ : My} : Ent (c :: μ) μ := Ent.right (μ1 := [c])
theorem Ent.app {μ1 μ1' μ2 μ2' : My} (h : Ent μ1 μ1') (k : Ent μ2 μ2') : Ent (μ1 ++ μ2) (μ1' ++ μ2') := fun m e => by
  obtain ⟨m1, m2, rfl, e1, e2⟩ := e.unapp
  obtain ⟨n1, r1, f1, p1⟩ := h m1 e1
  obtain ⟨n2, r2, f2, p2⟩ := k m2 e2
  refine ⟨n1 ++ n2, r1 ++ r2, f1.app f2, ((p1.append p2).trans ?_)⟩
  rw [List.append_assoc, List.append_assoc]
  refine List.Perm.append_left _ ?_
  rw [← List.append_assoc, ← List.append_assoc]
  exact List.Perm.append_right _ List.perm_append_comm
theorem Ent.cons {c : Addr × Ob} {μ μ' : My} (h : Ent μ μ') : Ent (c :: μ) (c :: μ') := Ent.app (μ1 := [c]) (μ1' := [c]) (Ent.refl _) h
theorem Ent.close {a : Addr} {I : Addr → Fm → Prop} {m : Fm} {μ : My} (h : I a m) : Ent (flat m ++ μ) ((a, .pk I) :: μ) := fun m2 e => by
  obtain ⟨x, y, rfl, e1, e2⟩ := e.unapp
  rw [e1.ofFlat]
  exact ⟨m ++ y, [], ⟨m, y, rfl, h, e2⟩, by rw [List.append_nil]⟩
/-- some of them ahead of the others -/
def pick : Nat → My → Option ((Addr × Ob) × My)
  | _, [] => none
  | 0, c :: μ => some (c, μ)
  | n + 1, c :: μ => match pick n μ with
    | some (d, r) => some (d, c :: r)
    | none => none
def picks : List Nat → My → Option (My × My)
  | [], μ => some ([], μ)
  | i :: is, μ => match pick i μ with
    | some (c, r) => match picks is r with
      | some (cs, r') => some (c :: cs, r')
      | none => none
    | none => none
theorem pick_perm : ∀ {n : Nat} {μ : My} {c : Addr × Ob} {r : My}, pick n μ = some (c, r) → μ.Perm (c :: r)
  | n, [], c, r, h => by cases n <;> cases h
  | 0, d :: μ, c, r, h => by
    cases h
    exact .refl _
  | n + 1, d :: μ, c, r, h => by
    unfold pick at h
    cases q : pick n μ with
    | none => rw [q] at h; cases h
    | some p =>
      obtain ⟨e, s⟩ := p
      rw [q] at h
      cases h
      exact (List.Perm.cons _ (pick_perm q)).trans (.swap _ _ _)
theorem picks_perm : ∀ {is : List Nat} {μ μ1 μ2 : My}, picks is μ = some (μ1, μ2) → μ.Perm (μ1 ++ μ2)
  | [], μ, μ1, μ2, h => by cases h; exact .refl _
  | i :: is, μ, μ1, μ2, h => by
    unfold picks at h
    cases q : pick i μ with
    | none => rw [q] at h; cases h
    | some p =>
      obtain ⟨c, r⟩ := p
      rw [q] at h
      have h : (match picks is r with | some (cs, r') => some (c :: cs, r') | none => none) = some (μ1, μ2) := h
      cases q2 : picks is r with
      | none => rw [q2] at h; cases h
      | some p2 =>
        obtain ⟨cs, r'⟩ := p2
        rw [q2] at h
        cases h
        exact (pick_perm q).trans (List.Perm.cons _ (picks_perm q2))
theorem Ent.pick {is : List Nat} {μ μ1 μ2 : My} (h : picks is μ = some (μ1, μ2)) : Ent μ (μ1 ++ μ2) := Ent.perm (picks_perm h)
def Sep3 (K : PySem.W.Frag) (B : Bs) (C H : Hp) (σ : L2.St) (ρ : List Sl) (μ : My) : Prop := ∃ m, Exp μ m ∧ SepF K B C H σ ρ m
section
variable {B : Bs} {C C' H G : Hp} {σ σ' : L2.St} {ρ ρ' : List Sl} {μ μ' μ1 μ2 : My} {a : Addr} {f : Fl}
theorem Sep3.ent (S : Sep3 K B C H σ ρ μ) (h : Ent μ μ') : Sep3 K B C H σ ρ μ' := by
  obtain ⟨m, e, S⟩ := S
  obtain ⟨m', r, e', p⟩ := h m e
  exact ⟨m', e', (S.perm p).left⟩
theorem Sep3.open_ {I : Addr → Fm → Prop} (S : Sep3 K B C H σ ρ ((a, .pk I) :: μ)) : ∃ m, I a m ∧ Sep3 K B C H σ ρ (flat m ++ μ) := by
  obtain ⟨m, ⟨x, y, rfl, h1, h2⟩, S⟩ := S
  exact ⟨x, h1, x ++ y, (Exp.flat x).app h2, S⟩
theorem Sep3.sep (S : Sep3 K B C H σ ρ μ) : Sep K B C H σ ρ := by
  obtain ⟨m, e, S⟩ := S
  exact S.sep
theorem at_split {α : Type} : ∀ {l : List α} {i : Nat} {x : α}, l[i]? = some x → ∃ r, l.Perm (x :: r) ∧ ∀ y, (l.set i y).Perm (y :: r)
  | [], i, x, h => by simp at h
  | z :: l, 0, x, h => by
    cases h
    exact ⟨l, .refl _, fun y => .refl _⟩
  | z :: l, i + 1, x, h => by
    obtain ⟨r, p, q⟩ := at_split (l := l) (i := i) h
    exact ⟨z :: r, (List.Perm.cons _ p).trans (.swap _ _ _), fun y => (List.Perm.cons _ (q y)).trans (.swap _ _ _)⟩
theorem Sep3.has {i : Nat} (S : Sep3 K B C H σ ρ μ) (h : μ[i]? = some (a, .fl f)) : FlOk K C H a f := by
  obtain ⟨r, p, _⟩ := at_split h
  obtain ⟨m, ⟨x, y, rfl, h1, _⟩, S⟩ := S.ent (Ent.perm p)
  cases h1
  exact S.has (List.mem_append_left _ (List.mem_cons_self ..))
theorem Sep3.set {i : Nat} {f' : Fl} {o' : HO} (S : Sep3 K B C H σ ρ μ) (h : μ[i]? = some (a, .fl f)) (ok : ∀ U1 : Hp, FlOk K C U1 a f → (∀ b o, U1 b = some o → H b = some o) → FlOk K C (upd U1 a o') a f') : Sep3 K B C (upd H a o') σ ρ (μ.set i (a, .fl f')) := by
  obtain ⟨r, p, q⟩ := at_split h
  obtain ⟨m, ⟨x, y, rfl, h1, h2⟩, S⟩ := S.ent (Ent.perm p)
  cases h1
  exact (show Sep3 K B C (upd H a o') σ ρ ((a, .fl f') :: r) from ⟨_, ⟨[(a, f')], y, rfl, rfl, h2⟩, SepF.set S ok⟩).ent (Ent.perm (q _).symm)
theorem Sep3.alloc {p : Addr} {o : HO} (S : Sep3 K B C H σ ρ μ) (hp : H p = none) : Sep3 K B (upd C p o) (upd H p o) σ ρ μ ∧ Same C (upd C p o) := by
  obtain ⟨m, e, S⟩ := S
  exact ⟨⟨m, e, (S.alloc hp).1⟩, (S.alloc (o := o) hp).2⟩
theorem Sep3.cool (S : Sep3 K B C H σ ρ ((a, .fl f) :: μ)) : ∃ C', Sep3 K B C' H σ ρ μ ∧ Same C C' ∧ Rp K C' (.ref a) f.cold := by
  obtain ⟨m, ⟨x, y, rfl, h1, h2⟩, S⟩ := S
  cases h1
  obtain ⟨C', S, s, r⟩ := SepF.cool (m := y) S
  exact ⟨C', ⟨y, h2, S⟩, s, r⟩
theorem Sep3.put {i : Nat} {v : V} {d : Dt} (S : Sep3 K B C H σ ρ μ) (hb : i = 0 → ∀ n, ρ[i]? ≠ some (.box n)) (r : Rp K C v d) : Sep3 K B C H (σ.set i (some v)) (ρ.set i (.dat d)) μ := by
  obtain ⟨m, e, S⟩ := S
  exact ⟨m, e, S.put hb r⟩
theorem Sep3.toHot {i : Nat} {ds : List Dt} (S : Sep3 K B C H σ ρ ((a, .fl (.lst ds)) :: μ)) (hb : i = 0 → ∀ n, ρ[i]? ≠ some (.box n)) : Sep3 K B C H (σ.set i (some (.ref a))) (ρ.set i (.hot ds)) μ := by
  obtain ⟨m, ⟨x, y, rfl, h1, h2⟩, S⟩ := S
  cases h1
  exact ⟨y, h2, SepF.toHot (m := y) S hb⟩
/-- a new list -/
theorem Sep3.new {p : Addr} {vs : List V} {ds : List Dt} (S : Sep3 K B C H σ ρ μ) (hp : H p = none) (r : RpL K C vs ds) : Sep3 K B C (upd H p (.lst vs)) σ ρ ((p, .fl (.lst ds)) :: μ) := by
  obtain ⟨m, e, U, M, S⟩ := S
  exact ⟨_, ⟨[(p, .lst ds)], m, rfl, rfl, e⟩, SepF.fresh (S.allocN hp) M (S.frN hp r)⟩
/-- any new thing at one address -/
theorem Sep3.newU {p : Addr} {o : HO} (S : Sep3 K B C H σ ρ μ) (hp : H p = none) (ok : FlOk K C (oneU p o) p f) : Sep3 K B C (upd H p o) σ ρ ((p, .fl f) :: μ) := by
  obtain ⟨m, e, U, M, S⟩ := S
  exact ⟨_, ⟨[(p, f)], m, rfl, rfl, e⟩, SepF.push (S.allocN hp) M upd_same (S.cold.free hp) (S.free0 hp) (S.nohot hp) ok⟩
theorem Sep3.weakS (S : Sep3 K B C H σ ρ μ) (w : Wk ρ ρ') : Sep3 K B C H σ ρ' μ := by
  obtain ⟨m, e, U, M, S⟩ := S
  exact ⟨m, e, U, M, S.weak w⟩
theorem Sep3.swap {vs : List Nat} (S : Sep3 K B C H σ ρ μ) (nb : noBox ρ vs = true) (e : wipe σ' vs = wipe σ vs) : Sep3 K B C H σ' (wipeR ρ vs) μ := by
  obtain ⟨m, x, U, M, S⟩ := S
  exact ⟨m, x, U, M, S.swap nb e⟩
end

end
section
variable {P : Program} {w : World} {K : PySem.W.Frag} {mg : Str → Option Value} {base : Heap}
local macro_rules | `(tactic| get_elem_tactic_trivial) => `(tactic| (repeat first | exact Wk.nil | exact Wk'.nil | refine Wk.same ?_ | refine Wk'.same ?_ | refine Wk.un (fun _ z => nomatch z) ?_ | refine Wk'.un ?_))
/-! level 3: readings -/
abbrev XE3 := Str → Dt → List Sl → My → Prop
abbrev WE3 := List Sl → My → (Ro → List Sl → My → Prop) → XE3 → Prop
abbrev WA3 := List Sl → My → (List Ar → List Sl → My → Prop) → XE3 → Prop
abbrev WR3 := List Sl → My → (Ar → List Sl → My → Prop) → XE3 → Prop
abbrev WT3 := List Sl → My → (Bool → List Sl → My → Prop) → XE3 → Prop
structure Fs3 where
  nx : List Sl → My → Prop
  rt : Ro → List Sl → My → Prop
  bk : List Sl → My → Prop
  ct : List Sl → My → Prop
abbrev WS3 := List Sl → My → Fs3 → XE3 → Prop
def Ok3 (K : PySem.W.Frag) (B : Bs) (C H : Hp) (σ : L2.St) (ρ : List Sl) (μ : My) (v : V) : Ro → Prop
  | .dat d => Sep3 K B C H σ ρ μ ∧ Rp K C v d
  | .new ds => ∃ a, v = .ref a ∧ Sep3 K B C H σ ρ ((a, .fl (.lst ds)) :: μ)
def MeetsX3 (K : PySem.W.Frag) (B : Bs) (Ξ : XE3) (W : WX) : Prop := ∀ (C' G : Hp) (σ : L2.St) (ρ : List Sl) (μ : My) (cls : Value) (dd : Option Addr) (c : Str) (d : Dt), Sep3 K B C' G σ ρ μ → ExAt K C' cls dd c d → Ξ c d ρ μ → W cls dd σ G
structure Meets3 (K : PySem.W.Frag) (B : Bs) (Φ : Fs3) (D : Ends) : Prop where
  nx : ∀ C H σ ρ μ, Sep3 K B C H σ ρ μ → Φ.nx ρ μ → D.nx σ H
  rt : ∀ C H σ ρ μ v r, Ok3 K B C H σ ρ μ v r → Φ.rt r ρ μ → D.rt v H
  bk : ∀ C H σ ρ μ, Sep3 K B C H σ ρ μ → Φ.bk ρ μ → D.bk σ H
  ct : ∀ C H σ ρ μ, Sep3 K B C H σ ρ μ → Φ.ct ρ μ → D.ct σ H
class E3 (K : PySem.W.Frag) (W : WX) (t : TE) (w : outParam WE3) : Prop where
  run : ∀ (B : Bs) (C H : Hp) (σ : L2.St) (ρ : List Sl) (μ : My) (Q : VK) (Ψ : Ro → List Sl → My → Prop) (Ξ : XE3), Sep3 K B C H σ ρ μ → w ρ μ Ψ Ξ → (∀ C' G v r ρ' μ', Ok3 K B C' G σ ρ' μ' v r → Same C C' → Ψ r ρ' μ' → Q v G) → MeetsX3 K B Ξ W → t σ H Q
class R3 (K : PySem.W.Frag) (W : WX) (t : TE) (w : outParam WR3) : Prop where
  run : ∀ (B : Bs) (C H : Hp) (σ : L2.St) (ρ : List Sl) (μ : My) (Q : VK) (Ψ : Ar → List Sl → My → Prop) (Ξ : XE3), Sep3 K B C H σ ρ μ → w ρ μ Ψ Ξ → (∀ C' G v a ρ' μ', Sep3 K B C' G σ ρ' μ' → Same C C' → ArOk K C' σ v a → Ψ a ρ' μ' → Q v G) → MeetsX3 K B Ξ W → t σ H Q
class A3 (K : PySem.W.Frag) (W : WX) (t : TA) (w : outParam WA3) : Prop where
  run : ∀ (B : Bs) (C H : Hp) (σ : L2.St) (ρ : List Sl) (μ : My) (Q : List V → Hp → Prop) (Ψ : List Ar → List Sl → My → Prop) (Ξ : XE3), Sep3 K B C H σ ρ μ → w ρ μ Ψ Ξ → (∀ C' G vs as ρ' μ', Sep3 K B C' G σ ρ' μ' → Same C C' → ArL K C' σ vs as → Ψ as ρ' μ' → Q vs G) → MeetsX3 K B Ξ W → t σ H Q
class C3 (K : PySem.W.Frag) (W : WX) (t : TT) (w : outParam WT3) : Prop where
  run : ∀ (B : Bs) (C H : Hp) (σ : L2.St) (ρ : List Sl) (μ : My) (Q : Bool → Hp → Prop) (Ψ : Bool → List Sl → My → Prop) (Ξ : XE3), Sep3 K B C H σ ρ μ → w ρ μ Ψ Ξ → (∀ C' G b ρ' μ', Sep3 K B C' G σ ρ' μ' → Same C C' → Ψ b ρ' μ' → Q b G) → MeetsX3 K B Ξ W → t σ H Q
class S3 (K : PySem.W.Frag) (W : WX) (t : TS) (w : outParam WS3) : Prop where
  run : ∀ (B : Bs) (C H : Hp) (σ : L2.St) (ρ : List Sl) (μ : My) (D : Ends) (Φ : Fs3) (Ξ : XE3), Sep3 K B C H σ ρ μ → w ρ μ Φ Ξ → Meets3 K B Φ D → MeetsX3 K B Ξ W → t D σ H
section
variable {B : Bs} {C C' H G : Hp} {σ σ' : L2.St} {ρ ρ' : List Sl} {μ μ' : My} {v : V} {r : Ro}
theorem Ok3.cool (h : Ok3 K B C H σ ρ μ v r) : ∃ C', Sep3 K B C' H σ ρ μ ∧ Same C C' ∧ Rp K C' v r.val := by
  cases r with
  | dat d => exact ⟨C, h.1, Same.refl _, h.2⟩
  | new ds =>
    obtain ⟨a, rfl, S⟩ := h
    exact Sep3.cool S
/-- level 1 goes on from here -/
theorem Sep3.lift (S : Sep3 K B C H σ ρ μ) : ∃ B1 : Bs, Sep K B1 C H σ ρ ∧ (∀ {C' G : Hp} {σ' : L2.St} {ρ' : List Sl}, Sep K B1 C' G σ' ρ' → Sep3 K B C' G σ' ρ' μ ∧ Same C C') ∧ ∀ {C' G : Hp} {σ' : L2.St} {ρ' : List Sl} {a : Addr} {ds : List Dt}, Sep K B1 C' G σ' ρ' → Fr K B1 C' G σ' ρ' a ds → Sep3 K B C' G σ' ρ' ((a, .fl (.lst ds)) :: μ) := by
  obtain ⟨m, e, U, M, S⟩ := S
  refine ⟨⟨C, (B.hang U).H0, B.bx⟩, S.rebase, fun {C' G σ' ρ'} z => ?_, fun {C' G σ' ρ' a ds} z f => ?_⟩
  · obtain ⟨z1, z2⟩ := sep_back (B := B.hang U) S.grow S.new z
    exact ⟨⟨m, e, U, M.on S.grow z2 z1, z1⟩, z2⟩
  · obtain ⟨z1, z2⟩ := sep_back (B := B.hang U) S.grow S.new z
    exact ⟨_, ⟨[(a, .lst ds)], m, rfl, rfl, e⟩, SepF.fresh z1 (M.on S.grow z2 z1) f⟩
theorem MeetsX3.on {Ξ : XE3} {W : WX} {B1 : Bs} (mx : MeetsX3 K B Ξ W) (back : ∀ {C' G : Hp} {σ' : L2.St} {ρ' : List Sl}, Sep K B1 C' G σ' ρ' → Sep3 K B C' G σ' ρ' μ ∧ Same C C') : MeetsX K B1 (fun c d ρ' => Ξ c d ρ' μ) W := fun C' G σ ρ cls dd c d S ex z => mx _ _ _ _ _ _ _ _ _ (back S).1 ex z
end
/-! what level 1 reads -/
def lf3 (w : WEX) : WE3 := fun ρ μ Ψ Ξ => w ρ (fun r ρ1 => store r ρ1 fun a ρ2 => isD a fun d => Ψ (.dat d) ρ2 μ) fun c d ρ' => Ξ c d ρ' μ
instance (priority := 50) e3_lf {W : WX} {t : TE} {w : WEX} [a : Xd K W t w] : E3 K W t (lf3 w) where
  run B C H σ ρ μ Q Ψ Ξ S h k mx := by
    obtain ⟨B1, S1, back, _⟩ := S.lift
    refine a.run B1 C H σ ρ _ _ _ S1 h (fun C1 G v r ρ1 S2 s2 ok z => ?_) (mx.on back)
    obtain ⟨C2, x, ρ2, S3, s3, rx, z⟩ := S2.stored ok z
    cases x with
    | b i => exact False.elim z
    | d d => exact k _ _ _ (.dat d) _ _ ⟨(back S3).1, rx⟩ (back S3).2 z
def lf3N (w : WNX) : WE3 := fun ρ μ Ψ Ξ => w ρ (fun ds ρ1 => Ψ (.new ds) ρ1 μ) fun c d ρ' => Ξ c d ρ' μ
instance (priority := 60) e3_lfN {W : WX} {t : TE} {w : WNX} [a : Xn K W t w] : E3 K W t (lf3N w) where
  run B C H σ ρ μ Q Ψ Ξ S h k mx := by
    obtain ⟨B1, S1, back, fr⟩ := S.lift
    exact a.run B1 C H σ ρ _ _ _ S1 h (fun C1 G x ds ρ1 S2 s2 f z => k _ _ _ (.new ds) _ _ ⟨x, rfl, fr S2 f⟩ (back S2).2 z) (mx.on back)
def lr3 (w : WEX) : WR3 := fun ρ μ Ψ Ξ => w ρ (fun r ρ1 => store r ρ1 fun a ρ2 => Ψ a ρ2 μ) fun c d ρ' => Ξ c d ρ' μ
instance (priority := 50) r3_lf {W : WX} {t : TE} {w : WEX} [a : Xd K W t w] : R3 K W t (lr3 w) where
  run B C H σ ρ μ Q Ψ Ξ S h k mx := by
    obtain ⟨B1, S1, back, _⟩ := S.lift
    refine a.run B1 C H σ ρ _ _ _ S1 h (fun C1 G v r ρ1 S2 s2 ok z => ?_) (mx.on back)
    obtain ⟨C2, x, ρ2, S3, s3, rx, z⟩ := S2.stored ok z
    exact k _ _ _ _ _ _ (back S3).1 (back S3).2 rx z
def le3 (w : WE3) : WR3 := fun ρ μ Ψ Ξ => w ρ μ (fun r ρ1 μ1 => Ψ (.d r.val) ρ1 μ1) Ξ
instance (priority := 40) r3_e3 {W : WX} {t : TE} {w : WE3} [a : E3 K W t w] : R3 K W t (le3 w) where
  run B C H σ ρ μ Q Ψ Ξ S h k mx := a.run B C H σ ρ μ _ _ _ S h (fun C1 G v r ρ1 μ1 ok s1 z => by
    obtain ⟨C2, S2, s2, r2⟩ := ok.cool
    exact k _ _ _ (.d r.val) _ _ S2 (s1.trans s2) r2 z) mx
def lc3 (w : WT) : WT3 := fun ρ μ Ψ _ => w ρ fun b ρ1 => Ψ b ρ1 μ
instance (priority := 50) c3_lf {W : WX} {t : TT} {w : WT} [a : Sc K t w] : C3 K W t (lc3 w) where
  run B C H σ ρ μ Q Ψ Ξ S h k mx := by
    obtain ⟨B1, S1, back, _⟩ := S.lift
    exact a.run B1 C H σ ρ _ _ S1 h fun C1 G b ρ1 S2 s2 z => k _ _ _ _ _ (back S2).1 (back S2).2 z
def ls3 (w : WSX) : WS3 := fun ρ μ Φ Ξ => w ρ ⟨fun ρ' => Φ.nx ρ' μ, fun r ρ' => Φ.rt r ρ' μ, fun ρ' => Φ.bk ρ' μ, fun ρ' => Φ.ct ρ' μ⟩ fun c d ρ' => Ξ c d ρ' μ
instance (priority := 50) s3_lf {W : WX} {t : TS} {w : WSX} [a : Xs K W t w] : S3 K W t (ls3 w) where
  run B C H σ ρ μ D Φ Ξ S h m mx := by
    obtain ⟨B1, S1, back, fr⟩ := S.lift
    refine a.run B1 C H σ ρ _ _ _ S1 h ⟨fun C1 G σ1 ρ1 S2 z => m.nx _ _ _ _ _ (back S2).1 z, fun C1 G σ1 ρ1 v r S2 ok z => m.rt C1 G σ1 ρ1 μ v r ?_ z, fun C1 G σ1 ρ1 S2 z => m.bk _ _ _ _ _ (back S2).1 z, fun C1 G σ1 ρ1 S2 z => m.ct _ _ _ _ _ (back S2).1 z⟩ (mx.on back)
    cases r with
    | dat d => exact ⟨(back S2).1, ok⟩
    | new ds =>
      obtain ⟨x, rfl, f⟩ := ok
      exact ⟨x, rfl, fr S2 f⟩
/-! arguments -/
def wA3Nil : WA3 := fun ρ μ Ψ _ => Ψ [] ρ μ
instance a3_nil {W : WX} : A3 K W tNil wA3Nil where run B C H σ ρ μ Q Ψ Ξ S h k mx := k _ _ _ _ _ _ S (Same.refl _) .nil h
def wA3Cons (wa : WR3) (wr : WA3) : WA3 := fun ρ μ Ψ Ξ => wa ρ μ (fun a ρ1 μ1 => wr ρ1 μ1 (fun as ρ2 μ2 => Ψ (a :: as) ρ2 μ2) Ξ) Ξ
instance a3_cons {W : WX} {ta : TE} {tr : TA} {wa : WR3} {wr : WA3} [a : R3 K W ta wa] [b : A3 K W tr wr] : A3 K W (tCons ta tr) (wA3Cons wa wr) where
  run B C H σ ρ μ Q Ψ Ξ S h k mx := a.run B C H σ ρ μ _ _ _ S h (fun C1 H1 v d ρ1 μ1 S1 s1 r1 h1 => b.run B C1 H1 σ ρ1 μ1 _ _ _ S1 h1 (fun C2 H2 vs ds ρ2 μ2 S2 s2 r2 h2 => k _ _ _ _ _ _ S2 (s1.trans s2) (.cons (r1.same s2) r2) h2) mx) mx
/-! statements -/
def wSeq3 (wt wu : WS3) : WS3 := fun ρ μ Φ Ξ => wt ρ μ { Φ with nx := fun ρ' μ' => wu ρ' μ' Φ Ξ } Ξ
instance s3_seq {W : WX} {t u : TS} {wt wu : WS3} [a : S3 K W t wt] [b : S3 K W u wu] : S3 K W (tSeq t u) (wSeq3 wt wu) where
  run B C H σ ρ μ D Φ Ξ S h m mx := a.run B C H σ ρ μ _ _ _ S h ⟨fun C1 H1 σ1 ρ1 μ1 S1 z => b.run B C1 H1 σ1 ρ1 μ1 _ _ _ S1 z m mx, m.rt, m.bk, m.ct⟩ mx
def wIf3 (wc : WT3) (wt wu : WS3) : WS3 := fun ρ μ Φ Ξ => wc ρ μ (fun b ρ1 μ1 => if b = true then wt ρ1 μ1 Φ Ξ else wu ρ1 μ1 Φ Ξ) Ξ
instance (priority := 40) s3_if {W : WX} {tc : TT} {t u : TS} {wc : WT3} {wt wu : WS3} [c : C3 K W tc wc] [a : S3 K W t wt] [b : S3 K W u wu] : S3 K W (tIfS tc t u) (wIf3 wc wt wu) where
  run B C H σ ρ μ D Φ Ξ S h m mx := c.run B C H σ ρ μ _ _ _ S h (fun C1 H1 e ρ1 μ1 S1 s1 h1 => by
    cases e with
    | true => exact a.run B C1 H1 σ ρ1 μ1 _ _ _ S1 h1 m mx
    | false => exact b.run B C1 H1 σ ρ1 μ1 _ _ _ S1 h1 m mx) mx
def wDrop3 (w : WE3) : WS3 := fun ρ μ Φ Ξ => w ρ μ (fun _ ρ1 μ1 => Φ.nx ρ1 μ1) Ξ
instance (priority := 40) s3_drop {W : WX} {te : TE} {w : WE3} [a : E3 K W te w] : S3 K W (tDrop te) (wDrop3 w) where
  run B C H σ ρ μ D Φ Ξ S h m mx := a.run B C H σ ρ μ _ _ _ S h (fun C1 H1 v r ρ1 μ1 ok s1 z => by
    obtain ⟨C2, S2, _, _⟩ := ok.cool
    exact m.nx _ _ _ _ _ S2 z) mx
def wRet3 (w : WE3) : WS3 := fun ρ μ Φ Ξ => w ρ μ (fun r ρ1 μ1 => Φ.rt r ρ1 μ1) Ξ
instance (priority := 40) s3_ret {W : WX} {te : TE} {w : WE3} [a : E3 K W te w] : S3 K W (tRet te) (wRet3 w) where
  run B C H σ ρ μ D Φ Ξ S h m mx := a.run B C H σ ρ μ _ _ _ S h (fun C1 H1 v r ρ1 μ1 ok s1 z => m.rt _ _ _ _ _ v r ok z) mx
/-- a slot is put, a new list as the name's own -/
def wAsg3 (i : Nat) (w : WE3) : WS3 := fun ρ μ Φ Ξ => w ρ μ (fun r ρ1 μ1 => put i (slotOf r) ρ1 fun ρ2 => Φ.nx ρ2 μ1) Ξ
instance (priority := 40) s3_asg {W : WX} {te : TE} {i : Nat} {w : WE3} [a : E3 K W te w] : S3 K W (tAsg te (gName i)) (wAsg3 i w) where
  run B C H σ ρ μ D Φ Ξ S h m mx := a.run B C H σ ρ μ _ _ _ S h (fun C1 H1 v r ρ1 μ1 ok s1 z => by
    obtain ⟨hb, z⟩ := put_run z
    cases r with
    | dat d => exact m.nx _ _ _ _ _ (ok.1.put hb ok.2) z
    | new ds =>
      obtain ⟨x, rfl, S1⟩ := ok
      exact m.nx _ _ _ _ _ (S1.toHot hb) z) mx
def two (as : List Ar) (k : Dt → Dt → Prop) : Prop := match as with
  | [.d x, .d y] => k x y
  | _ => False
theorem two_run {as : List Ar} {k : Dt → Dt → Prop} (h : two as k) : ∃ x y, as = [.d x, .d y] ∧ k x y := by
  unfold two at h
  split at h
  · exact ⟨_, _, rfl, h⟩
  · exact h.elim
def wPar3' (i j : Nat) (wa : WA3) : WS3 := fun ρ μ Φ Ξ => wa ρ μ (fun as ρ1 μ1 => two as fun x y => put i (.dat x) ρ1 fun ρ2 => put j (.dat y) ρ2 fun ρ3 => Φ.nx ρ3 μ1) Ξ
theorem ar_two {C : Hp} {σ : L2.St} {vs : List V} {x y : Dt} (h : ArL K C σ vs [.d x, .d y]) : ∃ v w, vs = [v, w] ∧ Rp K C v x ∧ Rp K C w y := by
  cases h with
  | cons a t =>
    cases t with
    | cons b u =>
      cases u
      exact ⟨_, _, rfl, a, b⟩
instance (priority := 30) s3_par {W : WX} {i j : Nat} {ta : TA} {wa : WA3} [a : A3 K W ta wa] : S3 K W (tPar i j ta) (wPar3' i j wa) where
  run B C H σ ρ μ D Φ Ξ S h m mx := a.run B C H σ ρ μ _ _ _ S h (fun C1 H1 vs as ρ1 μ1 S1 s1 ok z => by
    obtain ⟨x, y, e, z1⟩ := two_run z
    subst e
    obtain ⟨v, w, rfl, rx, ry⟩ := ar_two ok
    obtain ⟨hb, z2⟩ := put_run z1
    obtain ⟨hb2, z3⟩ := put_run z2
    exact ⟨v, w, rfl, m.nx _ _ _ _ _ ((S1.put hb rx).put hb2 ry) z3⟩) mx
/-! to a state that is known less of -/
def To3 (I : List Sl → My → Prop) (ρ : List Sl) (μ : My) : Prop := ∃ ρ' μ', Wk ρ ρ' ∧ Ent μ μ' ∧ I ρ' μ'
theorem To3.of {I : List Sl → My → Prop} {ρ ρ' : List Sl} {μ : My} (h : I ρ' μ) (w : Wk ρ ρ') : To3 I ρ μ := ⟨ρ', μ, w, Ent.refl _, h⟩
theorem To3.by_ {I : List Sl → My → Prop} {ρ ρ' : List Sl} {μ μ' : My} (e : Ent μ μ') (h : I ρ' μ') (w : Wk ρ ρ') : To3 I ρ μ := ⟨ρ', μ', w, e, h⟩
theorem Sep3.to {B : Bs} {C H : Hp} {σ : L2.St} {ρ : List Sl} {μ : My} {I : List Sl → My → Prop} (S : Sep3 K B C H σ ρ μ) (h : To3 I ρ μ) : ∃ ρ' μ', Sep3 K B C H σ ρ' μ' ∧ I ρ' μ' := by
  obtain ⟨ρ', μ', w, e, h⟩ := h
  exact ⟨ρ', μ', (S.weakS w).ent e, h⟩
theorem Sep3.rebase {B : Bs} {C H : Hp} {σ : L2.St} {ρ : List Sl} {μ : My} (S : Sep3 K B C H σ ρ μ) : Sep3 K ⟨C, B.H0, B.bx⟩ C H σ ρ μ ∧ ∀ {C' G : Hp} {σ' : L2.St} {ρ' : List Sl} {μ' : My}, Sep3 K ⟨C, B.H0, B.bx⟩ C' G σ' ρ' μ' → Sep3 K B C' G σ' ρ' μ' ∧ Same C C' := by
  obtain ⟨m, e, U, M, S⟩ := S
  refine ⟨⟨m, e, U, ⟨M.nd, M.at_, M.all, M.fr⟩, S.rebase⟩, fun {C' G σ' ρ' μ'} z => ?_⟩
  obtain ⟨m', e', U', M', S'⟩ := z
  have s : Same C C' := S'.grow
  have z1 : Sep K (B.hang U') C' G σ' ρ' := by
    refine ⟨S'.cold, S'.len, S'.sl, S'.ne, S.grow.trans s, fun a o h n => ?_, S'.dom, S'.keep, S'.loc, S'.lob, S'.par, S'.pz⟩
    cases q : C a with
    | none => exact S'.new a o h q
    | some u =>
      have := hang_no (S.new a u q n)
      have h2 : U' a = none := by
        cases q2 : U' a with
        | none => rfl
        | some x => rw [(M'.fr a x q2).1] at h; cases h
      rw [hang_off h2]
      exact this.2
  exact ⟨⟨m', e', U', ⟨M'.nd, M'.at_, M'.all, M'.fr⟩, z1⟩, s⟩

end
section
variable {P : Program} {w : World} {K : PySem.W.Frag} {mg : Str → Option Value} {base : Heap}
local macro_rules | `(tactic| get_elem_tactic_trivial) => `(tactic| (repeat first | exact Wk.nil | exact Wk'.nil | refine Wk.same ?_ | refine Wk'.same ?_ | refine Wk.un (fun _ z => nomatch z) ?_ | refine Wk'.un ?_))
/-! level 3: defs and calls -/
abbrev W3F := List Sl → My → (Ro → List Sl → My → Prop) → XE3 → Prop
def subU (H U : Hp) : Hp := fun a => match U a with
  | some _ => none
  | none => H a
theorem subU_at {H U : Hp} {a : Addr} {o : HO} (h : U a = some o) : subU H U a = none := by
  unfold subU
  rw [h]
theorem subU_off {H U : Hp} {a : Addr} (h : U a = none) : subU H U a = H a := by
  unfold subU
  rw [h]
theorem subU_hang {C H U : Hp} {bx : Option (Nat × Addr)} (h : ∀ a o, U a = some o → H a = some o) : (⟨C, subU H U, bx⟩ : Bs).hang U = ⟨C, H, bx⟩ := by
  unfold Bs.hang
  congr 1
  funext a
  show (match U a with | some o => some o | none => subU H U a) = H a
  cases q : U a with
  | some o => exact (h a o q).symm
  | none => exact subU_off q
def sp3 (K : PySem.W.Frag) (n : Nat) (wf : W3F) : Sp := fun vs H Q E => vs.length = n ∧ ∃ (C U : Hp) (bx : Option (Nat × Addr)) (ps : List Sl) (μ : My) (m : Fm) (Ψ : Ro → List Sl → My → Prop) (Ξ : XE3),
  Sep K ⟨C, H, bx⟩ C H (vs.map some) ps ∧ Exp μ m ∧ Mf K ⟨C, subU H U, bx⟩ C U m ∧ (∀ a o, U a = some o → H a = some o) ∧ wf ps μ Ψ Ξ ∧
  (∀ C' G v r ps' μ', Ok3 K ⟨C, subU H U, bx⟩ C' G (vs.map some) ps' μ' v r → Ψ r ps' μ' → Q v G) ∧
  ∀ C' G cls dd c d ps' μ', Sep3 K ⟨C, subU H U, bx⟩ C' G (vs.map some) ps' μ' → ExAt K C' cls dd c d → Ξ c d ps' μ' → E cls dd G
theorem Sep.args' {B' : Bs} {C H C' G : Hp} {bx : Option (Nat × Addr)} {vs : List V} {ps ρ : List Sl} {σ : L2.St} (hC : B'.C0 = C) (hb : B'.bx = bx) (S0 : Sep K ⟨C, H, bx⟩ C H (vs.map some) ps) (S : Sep K B' C' G σ ρ) : Sep K B' C' G (vs.map some) (mrg ps ρ) := by
  subst hC hb
  have nohot : ∀ (i : Nat) (ds : List Dt), ps[i]? ≠ some (.hot ds) := fun i ds e => by
    obtain ⟨a, us, e2, ha, _⟩ := S0.sl i _ e
    have := S0.loc i a ds e e2
    rw [show (⟨B'.C0, H, B'.bx⟩ : Bs).H0 a = H a from rfl, ha] at this
    cases this
  have box : ∀ (i : Nat) (n : Int), ps[i]? = some (.box n) → ∃ a m, B'.bx = some (i, a) ∧ (vs.map some)[i]? = some (some (V.ref a)) ∧ σ[i]? = some (some (V.ref a)) ∧ ρ[i]? = some (.box m) := fun i n e => by
    obtain ⟨a, e2, ⟨x, y, z, ha, _⟩, _⟩ := S0.sl i _ e
    rcases S0.lob i a n e e2 with q | q
    · rw [show (⟨B'.C0, H, B'.bx⟩ : Bs).H0 a = H a from rfl, ha] at q
      cases q
    · obtain ⟨g1, m, g2⟩ := S.par i a q
      exact ⟨a, m, q, e2, g1, g2⟩
  have case_ : ∀ (i : Nat) (s : Sl), (mrg ps ρ)[i]? = some s → (∃ a m, s = .box m ∧ B'.bx = some (i, a) ∧ (vs.map some)[i]? = some (some (V.ref a)) ∧ σ[i]? = some (some (V.ref a)) ∧ ρ[i]? = some (.box m)) ∨ (ps[i]? = some s ∧ s.mut = false) := fun i s h => by
    rcases mrg_at ps ρ i s h with ⟨n, e, q⟩ | ⟨e, q⟩
    · obtain ⟨a, m, g1, g2, g3, g4⟩ := box i n e
      rcases q with q | ⟨q, _⟩
      · rw [g4] at q
        cases q
        exact .inl ⟨a, m, rfl, g1, g2, g3, g4⟩
      · rw [g4] at q
        cases q
    · cases s with
      | un => exact .inr ⟨e, rfl⟩
      | dat d => exact .inr ⟨e, rfl⟩
      | hot ds => exact absurd e (nohot i ds)
      | box n => exact absurd rfl (q n)
  refine ⟨S.cold, by rw [mrg_len]; exact S0.len, fun i s h => ?_, fun i j a s t n h1 h2 m1 m2 e1 e2 => ?_, S.grow, S.new, S.dom, S.keep, fun i a ds h e => ?_, fun i a n h e => ?_, fun i a h => ?_, S.pz⟩
  · rcases case_ i s h with ⟨a, m, rfl, g1, g2, g3, g4⟩ | ⟨g1, g2⟩
    · obtain ⟨b, e, q⟩ := S.sl i _ g4
      rw [g3] at e
      cases e
      exact ⟨a, g2, q⟩
    · have q := S0.sl i s g1
      cases s with
      | un => trivial
      | dat d =>
        obtain ⟨v, e, r⟩ := q
        exact ⟨v, e, r.same S.grow⟩
      | hot ds => cases g2
      | box n => cases g2
  · rcases case_ i s h1 with ⟨b, m, rfl, g1, _⟩ | ⟨_, g2⟩
    · rcases case_ j t h2 with ⟨c, m', rfl, k1, _⟩ | ⟨_, g2⟩
      · rw [g1] at k1
        cases k1
        exact n rfl
      · rw [g2] at m2
        cases m2
    · rw [g2] at m1
      cases m1
  · rcases case_ i _ h with ⟨b, m, z, g1, _⟩ | ⟨_, g2⟩
    · cases z
    · cases g2
  · rcases case_ i _ h with ⟨b, m, z, g1, g2, _⟩ | ⟨_, g2⟩
    · rw [g2] at e
      cases e
      exact .inr g1
    · cases g2
  · obtain ⟨h1, n, h2⟩ := S0.par i a h
    obtain ⟨g1, m, g2⟩ := S.par i a h
    exact ⟨h1, m, mrg_box ps ρ i n m h2 g2⟩
/-- what is asked at the end: the things hung may be told otherwise -/
def fin3 (ps : List Sl) (Ψ : Ro → List Sl → My → Prop) : Fs3 := ⟨fun ρ μ => ∃ μ2, Ent μ μ2 ∧ Ψ (.dat .non) (mrg ps ρ) μ2, fun r ρ μ => ∃ μ2, Ent μ μ2 ∧ Ψ r (mrg ps ρ) μ2, fun _ _ => False, fun _ _ => False⟩
def finX3 (ps : List Sl) (Ξ : XE3) : XE3 := fun c d ρ μ => ∃ μ2, Ent μ μ2 ∧ Ξ c d (mrg ps ρ) μ2
theorem fin3_ok {C H0 : Hp} {bx : Option (Nat × Addr)} {vs : List V} {ps : List Sl} {Q : VK} {E : XK} {Ψ : Ro → List Sl → My → Prop} {Ξ : XE3} (ar : ∀ {C' G : Hp} {σ : L2.St} {ρ : List Sl} {μ : My}, Sep3 K ⟨C, H0, bx⟩ C' G σ ρ μ → Sep3 K ⟨C, H0, bx⟩ C' G (vs.map some) (mrg ps ρ) μ)
    (k : ∀ C' G v r ps' μ', Ok3 K ⟨C, H0, bx⟩ C' G (vs.map some) ps' μ' v r → Ψ r ps' μ' → Q v G) (kx : ∀ C' G cls dd c d ps' μ', Sep3 K ⟨C, H0, bx⟩ C' G (vs.map some) ps' μ' → ExAt K C' cls dd c d → Ξ c d ps' μ' → E cls dd G) :
    Meets3 K ⟨C, H0, bx⟩ (fin3 ps Ψ) { nx := fun _ H' => Q .non H', rt := Q } ∧ MeetsX3 K ⟨C, H0, bx⟩ (finX3 ps Ξ) (fun cls d _ H => E cls d H) := by
  refine ⟨⟨fun C1 H1 σ1 ρ1 μ1 S2 z => ?_, fun C1 H1 σ1 ρ1 μ1 v r ok z => ?_, fun C1 H1 σ1 ρ1 μ1 S2 z => False.elim z, fun C1 H1 σ1 ρ1 μ1 S2 z => False.elim z⟩, fun C1 H1 σ1 ρ1 μ1 cls dd c d S2 ex z => ?_⟩
  · obtain ⟨μ2, en, z⟩ := z
    exact k _ _ _ (.dat .non) _ _ ⟨ar (S2.ent en), .non⟩ z
  · obtain ⟨μ2, en, z⟩ := z
    refine k C1 H1 v r (mrg ps ρ1) μ2 ?_ z
    cases r with
    | dat d => exact ⟨ar (ok.1.ent en), ok.2⟩
    | new ds =>
      obtain ⟨x, rfl, S2⟩ := ok
      exact ⟨x, rfl, ar (S2.ent en.cons)⟩
  · obtain ⟨μ2, en, z⟩ := z
    exact kx _ _ _ _ _ _ _ _ (ar (S2.ent en)) ex z
theorem Sep3.args {C H C' G H0 : Hp} {bx : Option (Nat × Addr)} {vs : List V} {ps ρ : List Sl} {σ : L2.St} {μ : My} (S0 : Sep K ⟨C, H, bx⟩ C H (vs.map some) ps) (S : Sep3 K ⟨C, H0, bx⟩ C' G σ ρ μ) : Sep3 K ⟨C, H0, bx⟩ C' G (vs.map some) (mrg ps ρ) μ := by
  obtain ⟨m, e, U, M, S⟩ := S
  exact ⟨m, e, U, M, S0.args' rfl rfl S⟩
theorem body3 {E : XK} {t : TS} {w : WS3} [s : S3 K (fun cls d _ H => E cls d H) t w] {N : List Str} {vs : List V} {H : Hp} {Q : VK} {n : Nat} {wf : W3F} (h : sp3 K n wf vs H Q E) (hw : ∀ ps μ Ψ Ξ, wf ps μ Ψ Ξ → ps.length = n → w (ps ++ List.replicate (N.length - n) .un) μ (fin3 ps Ψ) (finX3 ps Ξ)) :
    t { nx := fun _ H' => Q .non H', rt := Q } (start N vs) H := by
  obtain ⟨hl, C, U, bx, ps, μ, m, Ψ, Ξ, S, e, M, hU, hf, k, kx⟩ := h
  have lp : ps.length = n := by have := S.len; rw [List.length_map] at this; omega
  have S1 : Sep3 K ⟨C, subU H U, bx⟩ C H (start N vs) (ps ++ List.replicate (N.length - vs.length) .un) μ := ⟨m, e, U, M, by rw [subU_hang hU]; exact start_sep (N := N) S⟩
  have h1 := hw ps μ Ψ Ξ hf lp
  rw [← hl] at h1
  obtain ⟨m3, x3⟩ := fin3_ok (ps := ps) (fun z => Sep3.args S z) k kx
  exact s.run _ C H _ _ _ _ _ _ S1 h1 m3 x3
/-! behind a call that was handed some of what is hung -/
section
variable {B : Bs} {C H G C' H0 : Hp} {σ : L2.St} {ρ : List Sl}
theorem Sep.after' (S : Sep K B C H σ ρ) {τ : L2.St} {π : List Sl} (S' : Sep K ⟨C, H0, none⟩ C' G τ π) (hy : ∀ a o, H a = some o → H0 a = some o ∨ (H0 a = none ∧ B.H0 a = none ∧ NoSlot σ ρ a)) (hz : ∀ a o, H0 a = some o → H a = some o) : Sep K B C' G σ ρ := by
  have kp : ∀ a o, H0 a = some o → G a = some o := fun a o h => S'.keep a o h fun i z => nomatch z
  have cn : ∀ a o, H0 a = some o → C a = none → C' a = none := fun a o h c => by
    cases q : C' a with
    | none => rfl
    | some u =>
      have : H0 a = none := S'.new a u q c
      rw [h] at this
      cases this
  have slot : ∀ {i : Nat} {t : Sl} {a : Addr} {o : HO}, ρ[i]? = some t → t.mut = true → σ[i]? = some (some (V.ref a)) → H a = some o → H0 a = some o := fun {i t a o} h m e ha => by
    rcases hy a o ha with z | ⟨_, _, z⟩
    · exact z
    · exact absurd e (z i t h m)
  have old : ∀ {a : Addr} {o : HO}, B.H0 a ≠ none → H a = some o → H0 a = some o := fun {a o} h ha => by
    rcases hy a o ha with z | ⟨_, z, _⟩
    · exact z
    · exact absurd z h
  refine ⟨S'.cold, S.len, fun i s h => ?_, S.ne, S.grow.trans S'.grow, fun a o e n => ?_, fun a h => ?_, fun a o h n => ?_, S.loc, S.lob, S.par, S.pz⟩
  · have q := S.sl i s h
    cases s with
    | un => trivial
    | dat d =>
      obtain ⟨v, e, r⟩ := q
      exact ⟨v, e, r.same S'.grow⟩
    | hot ds =>
      obtain ⟨a, vs, e, ha, r, ca⟩ := q
      have h0 := slot h rfl e ha
      exact ⟨a, vs, e, kp _ _ h0, r.same S'.grow, cn _ _ h0 ca⟩
    | box n =>
      obtain ⟨a, e, ⟨x, y, z, ha, hh⟩, ca⟩ := q
      have h0 := slot h rfl e ha
      exact ⟨a, e, ⟨x, y, z, kp _ _ h0, hh⟩, cn _ _ h0 ca⟩
  · cases q : C a with
    | some u => exact S.new a u q n
    | none =>
      have h0 : H0 a = none := S'.new a o e q
      cases q2 : H a with
      | none => exact S.free0 q2
      | some u =>
        rcases hy a u q2 with z | ⟨_, z, _⟩
        · rw [h0] at z; cases z
        · exact z
  · have := S.dom a h
    cases q : H a with
    | none => exact absurd q this
    | some u => exact S'.dom a (by show H0 a ≠ none; rw [old h q]; exact fun z => nomatch z)
  · exact kp a o (old (by rw [h]; exact fun z => nomatch z) (S.keep a o h n))
theorem Sep.afterB' (S : Sep K B C H σ ρ) {p : Addr} {i : Nat} {m n : Int} {τ : L2.St} {π : List Sl} (hi : ρ[i]? = some (.box m)) (ei : σ[i]? = some (some (V.ref p))) (S' : Sep K ⟨C, H0, some (0, p)⟩ C' G τ π) (hn : π[0]? = some (.box n)) (hy : ∀ a o, H a = some o → H0 a = some o ∨ (H0 a = none ∧ B.H0 a = none ∧ NoSlot σ ρ a)) (hz : ∀ a o, H0 a = some o → H a = some o) : Sep K B C' G σ (ρ.set i (.box n)) := by
  have kp : ∀ a o, H0 a = some o → a ≠ p → G a = some o := fun a o h z => S'.keep a o h fun i q => by cases q; exact z rfl
  have cn : ∀ a o, H0 a = some o → C a = none → C' a = none := fun a o h c => by
    cases q : C' a with
    | none => rfl
    | some u =>
      have : H0 a = none := S'.new a u q c
      rw [h] at this
      cases this
  have slot : ∀ {i : Nat} {t : Sl} {a : Addr} {o : HO}, ρ[i]? = some t → t.mut = true → σ[i]? = some (some (V.ref a)) → H a = some o → H0 a = some o := fun {i t a o} h m e ha => by
    rcases hy a o ha with z | ⟨_, _, z⟩
    · exact z
    · exact absurd e (z i t h m)
  have old : ∀ {a : Addr} {o : HO}, B.H0 a ≠ none → H a = some o → H0 a = some o := fun {a o} h ha => by
    rcases hy a o ha with z | ⟨_, z, _⟩
    · exact z
    · exact absurd z h
  obtain ⟨e0, m', e1⟩ := S'.par 0 p rfl
  obtain ⟨p', e2, bG, cp⟩ := S'.sl 0 _ hn
  rw [e0] at e2
  cases e2
  have back : ∀ {j : Nat} {t : Sl}, (ρ.set i (.box n))[j]? = some t → t.mut = true → ∃ t', ρ[j]? = some t' ∧ t'.mut = true := fun {j t} z y => by
    rcases get_set z with ⟨rfl, rfl, l⟩ | ⟨_, z⟩
    · exact ⟨_, hi, rfl⟩
    · exact ⟨t, z, y⟩
  refine ⟨S'.cold, by rw [List.length_set]; exact S.len, fun j s h => ?_, fun j k a t u q h1 h2 m1 m2 e1 e2 => ?_, S.grow.trans S'.grow, fun a o e n => ?_, fun a h => ?_, fun a o h n => ?_, fun j a ds h e => ?_, fun j a n h e => ?_, fun j a h => ?_, S.pz⟩
  · rcases get_set h with ⟨rfl, rfl, l⟩ | ⟨nj, h⟩
    · exact ⟨p, ei, bG, cp⟩
    · have q := S.sl j s h
      cases s with
      | un => trivial
      | dat d =>
        obtain ⟨v, e, r⟩ := q
        exact ⟨v, e, r.same S'.grow⟩
      | hot ds =>
        obtain ⟨a, vs, e, ha, r, ca⟩ := q
        have h0 := slot h rfl e ha
        exact ⟨a, vs, e, kp _ _ h0 (fun z => S.ne i j p _ _ nj hi h rfl rfl ei (z ▸ e)), r.same S'.grow, cn _ _ h0 ca⟩
      | box n =>
        obtain ⟨a, e, ⟨x, y, z, ha, hh⟩, ca⟩ := q
        have h0 := slot h rfl e ha
        have na : a ≠ p := fun z => S.ne i j p _ _ nj hi h rfl rfl ei (z ▸ e)
        exact ⟨a, e, ⟨x, y, z, kp _ _ h0 na, hh⟩, cn _ _ h0 ca⟩
  · obtain ⟨t', h1, m1⟩ := back h1 m1
    obtain ⟨u', h2, m2⟩ := back h2 m2
    exact S.ne j k a t' u' q h1 h2 m1 m2 e1 e2
  · cases q : C a with
    | some u => exact S.new a u q n
    | none =>
      have h0 : H0 a = none := S'.new a o e q
      cases q2 : H a with
      | none => exact S.free0 q2
      | some u =>
        rcases hy a u q2 with z | ⟨_, z, _⟩
        · rw [h0] at z; cases z
        · exact z
  · have := S.dom a h
    cases q : H a with
    | none => exact absurd q this
    | some u => exact S'.dom a (by show H0 a ≠ none; rw [old h q]; exact fun z => nomatch z)
  · refine kp a o (old (by rw [h]; exact fun z => nomatch z) (S.keep a o h n)) fun z => ?_
    subst z
    rcases S.lob i a m hi ei with q | q
    · rw [h] at q
      cases q
    · exact n i q
  · rcases get_set h with ⟨rfl, z, l⟩ | ⟨nj, h⟩
    · cases z
    · exact S.loc j a ds h e
  · rcases get_set h with ⟨rfl, z, l⟩ | ⟨nj, h⟩
    · exact S.lob i a m hi e
    · exact S.lob j a n h e
  · obtain ⟨h1, n', h2⟩ := S.par j a h
    by_cases z : i = j
    · subst z
      refine ⟨h1, n, set_at ?_⟩
      cases Nat.lt_or_ge i ρ.length with
      | inl h => exact h
      | inr g => rw [List.getElem?_eq_none g] at hi; cases hi
    · exact ⟨h1, n', by rw [set_off z]; exact h2⟩
/-- the parts put together again -/
theorem SepF.rejoin {U1 U2 U' : Hp} {bx : Option (Nat × Addr)} {m1 m2 m' : Fm} {τ : L2.St} {π ρ' : List Sl} (M1 : Mf K B C U1 m1) (M2 : Mf K B C U2 m2) (S : Sep K (B.hang U2) C H σ ρ) (hh : ∀ a o, U1 a = some o → H a = some o ∧ U2 a = none ∧ NoSlot σ ρ a) (M' : Mf K ⟨C, subU H U1, bx⟩ C' U' m') (S' : Sep K ((⟨C, subU H U1, bx⟩ : Bs).hang U') C' G τ π) (Sa : Sep K (B.hang U2) C' G σ ρ') (ns' : ∀ a, NoSlot σ ρ a → NoSlot σ ρ' a) (s : Same C C') : SepF K B C' G σ ρ' (m' ++ m2) := by
  have fr0 : ∀ a o, U' a = some o → (U1 a = none ∧ H a = none) ∨ ∃ u, U1 a = some u := fun a o h => by
    have := (M'.fr a o h).2.1
    cases q : U1 a with
    | some u => exact .inr ⟨u, rfl⟩
    | none =>
      have this : subU H U1 a = none := this
      rw [subU_off q] at this
      exact .inl ⟨rfl, this⟩
  refine SepF.join ⟨M'.nd, M'.at_, M'.all, fun a o h => ⟨(M'.fr a o h).1, ?_, ?_⟩⟩ (M2.on S.grow s Sa) Sa fun a o h => ⟨M'.bound S' h, ?_, ns' a ?_⟩
  · rcases fr0 a o h with ⟨q1, q2⟩ | ⟨u, q⟩
    · exact (hang_no (S.free0 q2)).2
    · exact (M1.fr a u q).2.1
  · rcases fr0 a o h with ⟨q1, q2⟩ | ⟨u, q⟩
    · exact fun i e => by
        obtain ⟨e1, n, e2⟩ := S.par i a e
        exact (S.mutH e2 rfl e1).2 q2
    · exact (M1.fr a u q).2.2
  · rcases fr0 a o h with ⟨q1, q2⟩ | ⟨u, q⟩
    · cases q3 : U2 a with
      | none => rfl
      | some x =>
        have := M2.bound S q3
        rw [q2] at this
        cases this
    · exact (hh a u q).2.1
  · rcases fr0 a o h with ⟨q1, q2⟩ | ⟨u, q⟩
    · exact fun j t h m e2 => (S.mutH h m e2).2 q2
    · exact (hh a u q).2.2
end

end
section
variable {P : Program} {w : World} {K : PySem.W.Frag} {mg : Str → Option Value} {base : Heap}
local macro_rules | `(tactic| get_elem_tactic_trivial) => `(tactic| (repeat first | exact Wk.nil | exact Wk'.nil | refine Wk.same ?_ | refine Wk'.same ?_ | refine Wk.un (fun _ z => nomatch z) ?_ | refine Wk'.un ?_))
/-! level 3: calls, their arguments by place and by name, what is left out -/
def gB (is : List Nat) (dv : List V) (vs zs : List V) : List V := gP is vs (zs ++ dv)
theorem pass0S {X : Cx} (W : WX) (σ : L2.St) : PassesAt CX0 X σ (L2.WE W σ) := fun _ _ _ _ _ _ h => h.elim
/-- some of those by name alone are left out -/
theorem kbKw {x qual : Str} {params : Arguments} {body : List Stmt} {scope : Scope} {kws : List (Str × V)} {f : Addr} {fd : FuncData} {ps : List Str} (F : FunD K x qual params body scope [] kws f fd) (n : Nat) (ks : List Str) (is : List Nat) (ms : List (Str × V)) (hk : kws ≠ []) (hms : ∀ q ∈ ms, q ∈ kws)
    (h : ∀ (D : Addr) (doc pm : Value) (an : Option Addr) (cdv ct : Value) (us mv ws : List Value), us.length = n → mv.length = ms.length → ws.length = ks.length →
      KwChain D ((ms.map (·.1)).zip mv) (bindArgs (PySem.W.fnOf x qual params body scope .none (.ref D) doc pm an cdv ct) ⟨us, ks.zip ws⟩) (ps.zip (gP is us (ws ++ mv)))) :
    ∃ g : List Value → List Value → List Value, KBn K fd ps n ks g (gB is (ms.map (·.2))) := by
  obtain ⟨mv, z⟩ := F.kbinds0 n ks ms (fun {α} us mv ws => gP is us (ws ++ mv)) hk hms (fun a b c => gP_vals is a (c.append b)) h
  exact ⟨_, z⟩
/-- f(e, ..), o.m(e, ..), C(e, ..) -/
def tCall3 (n m : Nat) (sp : Sp) (gV : List V → List V → List V) (E : L2.St → XK) (t tk : TA) : TE := tCallNS n m sp gV E t tk
def tMeth3 (C : Addr) (mm : Str) (n m : Nat) (sp : Sp) (gV : List V → List V → List V) (E : L2.St → XK) (ta : TE) (t tk : TA) : TE := fun σ H Q => ta σ H fun x H1 => ∃ a dx fs, x = .ref a ∧ H1 a = some (.ins C dx fs) ∧ fs.lookup mm = none ∧
  t σ H1 fun vs H2 => tk σ H2 fun zs H3 => vs.length = n ∧ zs.length = m ∧ sp (gV (x :: vs) zs) H3 Q (E σ)
def tMake3 (C : Addr) (n m : Nat) (sp : Sp) (gV : List V → List V → List V) (E : L2.St → XK) (t tk : TA) : TE := fun σ H Q => t σ H fun vs H1 => tk σ H1 fun zs H2 => vs.length = n ∧ zs.length = m ∧ ∀ x dx, H2 x = none → H2 dx = none → dx ≠ x →
  sp (gV (.ref x :: vs) zs) (upd (upd H2 dx (.own x)) x (.ins C dx [])) (fun v H3 => v = .non ∧ Q (.ref x) H3) (E σ)
section
variable {X : Cx} {CX : CXT} {k n : Nat} {f C : Addr} {fd : FuncData} {ps ks : List Str} {sp : Sp} {E : L2.St → XK} {x mm : Str} {p pos apos : Pos} {e o : Expr} {es : List Expr} {kws : List Keyword} {ta : TE} {t tk : TA} {g : List Value → List Value → List Value} {gV : List V → List V → List V} {pl : Sem Bool}
theorem pe_call3 (F : FnOk X.prog X.w X.K X.mg X.base CX k f fd ps sp) (hr : Room k X.A) (hg : Gl X x) (hm : X.mg x = some (.ref f)) (hk : PySem.W.keepIn X.K (.ref f) = true) (hb : KBn X.K fd ps n ks g gV) (hx : ∀ σ, PassesAt CX X σ (E σ))
    (ha : PA X (e :: es) t) (hkw : PK X kws tk) (hall : (backToKw pos (keywordEach kws X.env)).all (·.1.isSome) = true := by rfl) (hks : (backToKw pos (keywordEach kws X.env)).filterMap (·.1) = ks := by rfl)
    (hdb : (x == ("__debug__" : Str)) = false := by decide) (he : starEach (e :: es) X.env = (false, eval e X.env) :: starEach es X.env := by rfl)
    (hpl : ((backTo pos (starEach (e :: es) X.env)).any (·.1) || (backToKw pos (keywordEach kws X.env)).any (·.1.isNone)) = false := by rfl) :
    PE X (.Call (.Name x p) (e :: es) kws pos) (tCall3 n ks.length sp gV E t tk) := pe_callNS F hr hg hm hk hb hx ha hkw hall hks hdb he hpl
theorem pe_meth3 (he : PE X o ta) (c : Cls X.K C) (hm : Meth X.K C mm f) (F : FnOk X.prog X.w X.K X.mg X.base CX k f fd ps sp) (hr : Room k X.A) (hb : KBn X.K fd ps (n + 1) ks g gV) (hx : ∀ σ, PassesAt CX X σ (E σ)) (ha : PA X (e :: es) t) (hkw : PK X kws tk)
    (hall : (backToKw pos (keywordEach kws X.env)).all (·.1.isSome) = true := by rfl) (hks : (backToKw pos (keywordEach kws X.env)).filterMap (·.1) = ks := by rfl)
    (hst : starEach (e :: es) X.env = (false, eval e X.env) :: starEach es X.env := by rfl) (hpl : ((backTo pos (starEach (e :: es) X.env)).any (·.1) || (backToKw pos (keywordEach kws X.env)).any (·.1.isNone)) = false := by rfl)
    (ht : eval (.Call (.Attribute o mm apos) (e :: es) kws pos) X.env = (do
      let ov ← eval o X.env
      standAt apos.atName
      let (f, first) ← holding [ov] (getMethod ov mm pl)
      callWith pos f first (backTo pos (starEach (e :: es) X.env)) (backToKw pos (keywordEach kws X.env))) := by rfl) :
    PE X (.Call (.Attribute o mm apos) (e :: es) kws pos) (tMeth3 C mm n ks.length sp gV E ta t tk) := by
  refine ⟨fun pins s σ H Q I h => ?_⟩
  refine PySem.W.methodCall_KW (pl := pl) (thn (he.run pins s σ H _ I h) fun u s1 ⟨x, H1, I1, rx, a, dx, fs, ex, ea, l, q⟩ => ?_) ht
  subst ex
  obtain rfl : u = Value.ref a := rx
  refine getmeth_ok I1 ea c hm l ?_
  refine PySem.W.callWith_KW (first := [.ref a]) (h₀ := X.base) I1.ok.mod.kin hm.kp hall (thn (ha.run pos pins s1 σ H1 _ I1 q) fun us s2 ⟨vs, H2, I2, r, q2⟩ => ?_) hpl hst
  refine thn (hkw.run pos pins s2 σ H2 _ I2 q2) fun ws s3 ⟨zs, H3, I3, rz, l1, l2, q3⟩ => ⟨I3.kIn, ?_⟩
  rw [hks]
  exact run_fnNS (us := .ref a :: us) (vs := .ref a :: vs) F hr hb (hx σ) I3 (.cons rfl r) rz (by rw [List.length_cons, l1]) l2 q3
theorem pe_meth30 (he : PE X o ta) (c : Cls X.K C) (hm : Meth X.K C mm f) (F : FnOk X.prog X.w X.K X.mg X.base CX k f fd ps sp) (hr : Room k X.A) (hb : KBn X.K fd ps 1 ks g gV) (hx : ∀ σ, PassesAt CX X σ (E σ)) (hkw : PK X kws tk)
    (hall : (backToKw pos (keywordEach kws X.env)).all (·.1.isSome) = true := by rfl) (hks : (backToKw pos (keywordEach kws X.env)).filterMap (·.1) = ks := by rfl)
    (hpl : ((backTo pos (starEach [] X.env)).any (·.1) || (backToKw pos (keywordEach kws X.env)).any (·.1.isNone)) = false := by rfl)
    (ht : eval (.Call (.Attribute o mm apos) [] kws pos) X.env = (do
      let ov ← eval o X.env
      standAt apos.atName
      let (f, first) ← holding [ov] (getMethod ov mm pl)
      callWith pos f first (backTo pos (starEach [] X.env)) (backToKw pos (keywordEach kws X.env))) := by rfl) :
    PE X (.Call (.Attribute o mm apos) [] kws pos) (tMeth3 C mm 0 ks.length sp gV E ta tNil tk) := by
  refine ⟨fun pins s σ H Q I h => ?_⟩
  refine PySem.W.methodCall_KW (pl := pl) (thn (he.run pins s σ H _ I h) fun u s1 ⟨x, H1, I1, rx, a, dx, fs, ex, ea, l, q⟩ => ?_) ht
  subst ex
  obtain rfl : u = Value.ref a := rx
  refine getmeth_ok I1 ea c hm l ?_
  refine PySem.W.callWith_KW0 (first := [.ref a]) I1.kIn hm.kp hall ?_ hpl
  refine thn (hkw.run pos pins s1 σ H1 _ I1 q) fun ws s3 ⟨zs, H3, I3, rz, l1, l2, q3⟩ => ⟨I3.kIn, ?_⟩
  rw [hks]
  exact run_fnNS (us := [.ref a]) (vs := [.ref a]) F hr hb (hx σ) I3 (.cons rfl .nil) rz rfl l2 q3
theorem run_make3 {pins : List (Addr × Obj)} {σ : L2.St} {H : Hp} {s : Shared} {Q : VK} {us ws : List Value} {vs zs : List V} (M : Mk X.K C f) (F : FnOk X.prog X.w X.K X.mg X.base CX k f fd ps sp) (hr : Room (k + 1) X.A) (hb : KBn X.K fd ps (n + 1) ks g gV) (hx : PassesAt CX X σ (E σ))
    (I : Inv X pins σ H s) (r : Vals vs us) (rz : Vals zs ws) (l1 : vs.length = n) (l2 : zs.length = ks.length)
    (h : ∀ x dx, H x = none → H dx = none → dx ≠ x → sp (gV (.ref x :: vs) zs) (upd (upd H dx (.own x)) x (.ins C dx [])) (fun v H2 => v = .non ∧ Q (.ref x) H2) (E σ)) :
    wpAny (model X.prog X.w) X.A (call (.ref C) us (ks.zip ws)) (EP X pins σ Q) X.xe s := by
  have hq := h (s.heap.objs.size + 1) s.heap.objs.size (I.hok.fresh (Nat.le_succ _)) (I.hok.fresh (Nat.le_refl _)) (Nat.ne_of_lt (Nat.lt_succ_self _))
  have I2 := Inv.made (C := C) I
  have r1 : Vals (V.ref (s.heap.objs.size + 1) :: vs) (Value.ref (s.heap.objs.size + 1) :: us) := .cons rfl r
  have r2 := hb.rel r1 rz
  have n1 : (Value.ref (s.heap.objs.size + 1) :: us).length = n + 1 := by
    rw [List.length_cons, ← r.length, l1]
  refine wpAny_call (make_map (f := f) I.kIn M.makes M.init (beq_iff_eq.mp M.fn) (codeAny_mono (F.run _ X.stack _ _ ⟨Value.ref (s.heap.objs.size + 1) :: us, ks.zip ws⟩ (g (Value.ref (s.heap.objs.size + 1) :: us) ws) _ _ (E σ) (hr.make C us (ks.zip ws))
    (I2.env0.make C us (ks.zip ws)) (hb.to _ (Value.ref (s.heap.objs.size + 1) :: us) ws I2.kIn n1 (rz.length.symm.trans l2)) r2 hq) fun r s' hq' => ?_))
  cases r with
  | error e => exact hx pins _ _ e s' I2 hq'
  | ok fl =>
    cases fl with
    | ret u =>
      obtain ⟨v, H', I3, rv, ev, q3⟩ := I2.after hq'
      subst ev
      exact ⟨rv, ⟨V.ref (s.heap.objs.size + 1), H', I3, rfl, q3⟩⟩
    | next => exact False.elim hq'
    | brk => exact False.elim hq'
    | cont => exact False.elim hq'
theorem pe_make30 (M : Mk X.K C f) (F : FnOk X.prog X.w X.K X.mg X.base CX k f fd ps sp) (hr : Room (k + 1) X.A) (hg : Gl X x) (hm : X.mg x = some (.ref C)) (hb : KBn X.K fd ps 1 ks g gV) (hx : ∀ σ, PassesAt CX X σ (E σ)) (hkw : PK X kws tk)
    (hall : (backToKw pos (keywordEach kws X.env)).all (·.1.isSome) = true := by rfl) (hks : (backToKw pos (keywordEach kws X.env)).filterMap (·.1) = ks := by rfl) (hdb : (x == ("__debug__" : Str)) = false := by decide)
    (hpl : ((backTo pos (starEach [] X.env)).any (·.1) || (backToKw pos (keywordEach kws X.env)).any (·.1.isNone)) = false := by rfl) :
    PE X (.Call (.Name x p) [] kws pos) (tMake3 C 0 ks.length sp gV E tNil tk) := by
  refine ⟨fun pins s σ H Q I h => ?_⟩
  refine wpAny_Call_Name_kw (ld_glob I hg hm ?_ hdb)
  refine PySem.W.callWith_KW0 (h₀ := X.base) I.ok.mod.kin M.kp hall ?_ hpl
  refine thn (hkw.run pos pins s σ H _ I h) fun ws s2 ⟨zs, H2, I2, rz, l1, l2, q2⟩ => ⟨I2.kIn, ?_⟩
  rw [hks]
  exact run_make3 (us := []) (vs := []) M F hr hb (hx σ) I2 .nil rz rfl l2 q2
theorem pe_make3 (M : Mk X.K C f) (F : FnOk X.prog X.w X.K X.mg X.base CX k f fd ps sp) (hr : Room (k + 1) X.A) (hg : Gl X x) (hm : X.mg x = some (.ref C)) (hb : KBn X.K fd ps (n + 1) ks g gV) (hx : ∀ σ, PassesAt CX X σ (E σ)) (ha : PA X (e :: es) t) (hkw : PK X kws tk)
    (hall : (backToKw pos (keywordEach kws X.env)).all (·.1.isSome) = true := by rfl) (hks : (backToKw pos (keywordEach kws X.env)).filterMap (·.1) = ks := by rfl) (hdb : (x == ("__debug__" : Str)) = false := by decide)
    (he : starEach (e :: es) X.env = (false, eval e X.env) :: starEach es X.env := by rfl) (hpl : ((backTo pos (starEach (e :: es) X.env)).any (·.1) || (backToKw pos (keywordEach kws X.env)).any (·.1.isNone)) = false := by rfl) :
    PE X (.Call (.Name x p) (e :: es) kws pos) (tMake3 C n ks.length sp gV E t tk) := by
  refine ⟨fun pins s σ H Q I h => ?_⟩
  refine wpAny_Call_Name_kw (ld_glob I hg hm ?_ hdb)
  refine PySem.W.callWith_KW (h₀ := X.base) I.ok.mod.kin M.kp hall (thn (ha.run pos pins s σ H _ I h) fun us s1 ⟨vs, H1, I1, r, q⟩ => ?_) hpl he
  refine thn (hkw.run pos pins s1 σ H1 _ I1 q) fun ws s2 ⟨zs, H2, I2, rz, l1, l2, q2⟩ => ⟨I2.kIn, ?_⟩
  rw [hks]
  exact run_make3 M F hr hb (hx σ) I2 r rz l1 l2 q2
end

end
section
variable {P : Program} {w : World} {K : PySem.W.Frag} {mg : Str → Option Value} {base : Heap}
local macro_rules | `(tactic| get_elem_tactic_trivial) => `(tactic| (repeat first | exact Wk.nil | exact Wk'.nil | refine Wk.same ?_ | refine Wk'.same ?_ | refine Wk.un (fun _ z => nomatch z) ?_ | refine Wk'.un ?_))
/-! level 3: what a call asks, and tells -/
theorem ArL.at {C : Hp} {σ : L2.St} : ∀ {vs : List V} {as : List Ar} {i : Nat} {a : Ar}, ArL K C σ vs as → as[i]? = some a → ∃ v, vs[i]? = some v ∧ ArOk K C σ v a
  | _, _, i, a, .nil, h => by simp at h
  | _, _, 0, a, .cons x t, h => by
    have e := Option.some.inj h
    subst e
    exact ⟨_, rfl, x⟩
  | _, _, i + 1, a, .cons x t, h => ArL.at (i := i) t h
theorem ArL.gP (is : List Nat) {C : Hp} {σ : L2.St} {vs zs : List V} {as bs : List Ar} (h1 : ArL K C σ vs as) (h2 : ArL K C σ zs bs) : ArL K C σ (Sl.gP is vs zs) (Sl.gP is as bs) := by
  have h := h1.app h2
  have hl := h.len
  unfold Sl.gP
  induction is with
  | nil => exact .nil
  | cons i is ih =>
    rw [List.filterMap_cons, List.filterMap_cons]
    cases q : (as ++ bs)[i]? with
    | none =>
      have : (vs ++ zs)[i]? = none := by
        rw [List.getElem?_eq_none_iff] at q ⊢
        omega
      rw [this]
      exact ih
    | some a =>
      obtain ⟨v, e, r⟩ := h.at q
      rw [e]
      exact .cons r ih
def two3 (i : Nat) (ρ : List Sl) (μr : My) (Ψ : Ro → List Sl → My → Prop) (r : Ro) (ps : List Sl) (μ' : My) : Prop := match ps with
  | .box n :: _ => Ψ r (ρ.set i (.box n)) (μ' ++ μr)
  | _ => False
def twoX3 (i : Nat) (ρ : List Sl) (μr : My) (Ξ : XE3) (c : Str) (d : Dt) (ps : List Sl) (μ' : My) : Prop := match ps with
  | .box n :: _ => Ξ c d (ρ.set i (.box n)) (μ' ++ μr)
  | _ => False
def call3 (wf : W3F) (as : List Ar) (ρ : List Sl) (μ1 μr : My) (Ψ : Ro → List Sl → My → Prop) (Ξ : XE3) : Prop := match as with
  | .b i :: as => match ρ[i]?, dats as with
    | some (.box n), some ds => wf (.box n :: ds.map .dat) μ1 (two3 i ρ μr Ψ) (twoX3 i ρ μr Ξ)
    | _, _ => False
  | as => match dats as with
    | some ds => wf (ds.map .dat) μ1 (fun r _ μ' => Ψ r ρ (μ' ++ μr)) fun c d _ μ' => Ξ c d ρ (μ' ++ μr)
    | none => False
section
variable {B : Bs} {C H : Hp} {σ : L2.St} {ρ : List Sl} {μ μ1 μr : My} {n : Nat} {wf : W3F} {Q : VK} {E : XK} {Ψ : Ro → List Sl → My → Prop} {Ξ : XE3}
theorem Sep3.handD {vs : List V} {ds : List Dt} (S : Sep3 K B C H σ ρ (μ1 ++ μr)) (r : RpL K C vs ds) (ln : ds.length = n) (h : wf (ds.map .dat) μ1 (fun r _ μ' => Ψ r ρ (μ' ++ μr)) fun c d _ μ' => Ξ c d ρ (μ' ++ μr))
    (k : ∀ C' G v r ρ' μ', Ok3 K B C' G σ ρ' μ' v r → Same C C' → Ψ r ρ' μ' → Q v G) (kx : ∀ C' G cls d2 c d ρ' μ', Sep3 K B C' G σ ρ' μ' → ExAt K C' cls d2 c d → Ξ c d ρ' μ' → E cls d2 G) : sp3 K n wf vs H Q E := by
  obtain ⟨m, e, SF⟩ := S
  obtain ⟨m1, mr, rfl, e1, er⟩ := e.unapp
  obtain ⟨U1, U2, M1, M2, S2, hh⟩ := SF.split
  have hy : ∀ a o, H a = some o → subU H U1 a = some o ∨ (subU H U1 a = none ∧ (B.hang U2).H0 a = none ∧ NoSlot σ ρ a) := fun a o ha => by
    cases q : U1 a with
    | none => exact .inl (by rw [subU_off q]; exact ha)
    | some u =>
      obtain ⟨_, u2, ns⟩ := hh a u q
      exact .inr ⟨subU_at q, by rw [hang_off u2]; exact (M1.fr a u q).2.1, ns⟩
  have hz : ∀ a o, subU H U1 a = some o → H a = some o := fun a o h => by
    cases q : U1 a with
    | none => rwa [subU_off q] at h
    | some u => rw [subU_at q] at h; cases h
  have back : ∀ {C' G : Hp} {τ : L2.St} {π : List Sl} {μ' : My}, Sep3 K ⟨C, subU H U1, none⟩ C' G τ π μ' → Sep3 K B C' G σ ρ (μ' ++ μr) ∧ Same C C' := fun {C' G τ π μ'} z => by
    obtain ⟨m', e', U', M', S'⟩ := z
    have Sd := S'.unhang M'
    have Sa := S2.after' Sd hy hz
    exact ⟨⟨_, e'.app er, SepF.rejoin M1 M2 S2 hh M' S' Sa (fun _ z => z) Sd.grow⟩, Sd.grow⟩
  refine ⟨by rw [r.len]; exact ln, C, U1, none, ds.map .dat, μ1, m1, _, _, sep_dats S2 r, e1, ⟨M1.nd, M1.at_, M1.all, fun a o h => ⟨(M1.fr a o h).1, subU_at h, fun i z => nomatch z⟩⟩, fun a o h => (hh a o h).1, h, fun C' G v r ps' μ' ok z => ?_, fun C' G cls dd c d ps' μ' S' ex z => kx _ _ _ _ _ _ _ _ (back S').1 ex z⟩
  cases r with
  | dat d => exact k _ _ _ (.dat d) _ _ ⟨(back ok.1).1, ok.2⟩ (back ok.1).2 z
  | new ds =>
    obtain ⟨x, rfl, S'⟩ := ok
    exact k _ _ _ (.new ds) _ _ ⟨x, rfl, (back S').1⟩ (back S').2 z
theorem Sep3.handB {vs : List V} {ds : List Dt} {p : Addr} {i : Nat} {m0 : Int} (S : Sep3 K B C H σ ρ (μ1 ++ μr)) (hi : ρ[i]? = some (.box m0)) (ei : σ[i]? = some (some (V.ref p))) (r : RpL K C vs ds) (ln : ds.length + 1 = n) (h : wf (.box m0 :: ds.map .dat) μ1 (two3 i ρ μr Ψ) (twoX3 i ρ μr Ξ))
    (k : ∀ C' G v r ρ' μ', Ok3 K B C' G σ ρ' μ' v r → Same C C' → Ψ r ρ' μ' → Q v G) (kx : ∀ C' G cls d2 c d ρ' μ', Sep3 K B C' G σ ρ' μ' → ExAt K C' cls d2 c d → Ξ c d ρ' μ' → E cls d2 G) : sp3 K n wf (V.ref p :: vs) H Q E := by
  obtain ⟨m, e, SF⟩ := S
  obtain ⟨m1, mr, rfl, e1, er⟩ := e.unapp
  obtain ⟨U1, U2, M1, M2, S2, hh⟩ := SF.split
  have hy : ∀ a o, H a = some o → subU H U1 a = some o ∨ (subU H U1 a = none ∧ (B.hang U2).H0 a = none ∧ NoSlot σ ρ a) := fun a o ha => by
    cases q : U1 a with
    | none => exact .inl (by rw [subU_off q]; exact ha)
    | some u =>
      obtain ⟨_, u2, ns⟩ := hh a u q
      exact .inr ⟨subU_at q, by rw [hang_off u2]; exact (M1.fr a u q).2.1, ns⟩
  have hz : ∀ a o, subU H U1 a = some o → H a = some o := fun a o h => by
    cases q : U1 a with
    | none => rwa [subU_off q] at h
    | some u => rw [subU_at q] at h; cases h
  have back : ∀ {C' G : Hp} {τ : L2.St} {π : List Sl} {μ' : My} {n' : Int}, Sep3 K ⟨C, subU H U1, some (0, p)⟩ C' G τ π μ' → π[0]? = some (.box n') → Sep3 K B C' G σ (ρ.set i (.box n')) (μ' ++ μr) ∧ Same C C' := fun {C' G τ π μ' n'} z hn => by
    obtain ⟨m', e', U', M', S'⟩ := z
    have Sd := S'.unhang M'
    have Sa := S2.afterB' hi ei Sd hn hy hz
    refine ⟨⟨_, e'.app er, SepF.rejoin M1 M2 S2 hh M' S' Sa (fun a ns j t hj mt => ?_) Sd.grow⟩, Sd.grow⟩
    rcases get_set hj with ⟨rfl, rfl, _⟩ | ⟨nj, hj⟩
    · exact ns i _ hi rfl
    · exact ns j t hj mt
  have npu : ∀ a o, U1 a = some o → ∀ j : Nat, some (0, p) ≠ some (j, a) := fun a o h j z => by
    cases z
    exact (hh _ _ h).2.2 i _ hi rfl ei
  refine ⟨by rw [List.length_cons, r.len]; exact ln, C, U1, some (0, p), .box m0 :: ds.map .dat, μ1, m1, _, _, sep_box S2 hi ei r, e1, ⟨M1.nd, M1.at_, M1.all, fun a o h => ⟨(M1.fr a o h).1, subU_at h, npu a o h⟩⟩, fun a o h => (hh a o h).1, h, fun C' G v r ps' μ' ok z => ?_, fun C' G cls dd c d ps' μ' S' ex z => ?_⟩
  · unfold two3 at z
    split at z
    · next n' t =>
      cases r with
      | dat d => exact k _ _ _ (.dat d) _ _ ⟨(back ok.1 rfl).1, ok.2⟩ (back ok.1 rfl).2 z
      | new ds =>
        obtain ⟨x, rfl, S'⟩ := ok
        exact k _ _ _ (.new ds) _ _ ⟨x, rfl, (back S' rfl).1⟩ (back S' rfl).2 z
    · exact z.elim
  · unfold twoX3 at z
    split at z
    · next n' t => exact kx _ _ _ _ _ _ _ _ (back S' rfl).1 ex z
    · exact z.elim
theorem Sep3.calls {vs : List V} {as : List Ar} (S : Sep3 K B C H σ ρ μ) (en : Ent μ (μ1 ++ μr)) (ok : ArL K C σ vs as) (hn : as.length = n) (h : call3 wf as ρ μ1 μr Ψ Ξ)
    (k : ∀ C' G v r ρ' μ', Ok3 K B C' G σ ρ' μ' v r → Same C C' → Ψ r ρ' μ' → Q v G) (kx : ∀ C' G cls d2 c d ρ' μ', Sep3 K B C' G σ ρ' μ' → ExAt K C' cls d2 c d → Ξ c d ρ' μ' → E cls d2 G) : sp3 K n wf vs H Q E := by
  have S1 := S.ent en
  unfold call3 at h
  split at h
  · next i as' =>
    split at h
    · next m0 ds h1 h2 =>
      cases ok with
      | cons x t =>
        have x : σ[i]? = some (some _) := x
        obtain ⟨p, e, _⟩ := S1.sep.sl i _ h1
        rw [x] at e
        cases e
        exact Sep3.handB S1 h1 x (t.dats h2) (by rw [← hn, List.length_cons, ← t.len, ← (t.dats h2).len]) h k kx
    · exact h.elim
  · next _ =>
    split at h
    · next ds h2 => exact Sep3.handD S1 (ok.dats h2) (by rw [← hn, ← ok.len, ← (ok.dats h2).len]) h k kx
    · exact h.elim
end
class Dw (K : PySem.W.Frag) (vs : List V) (ds : outParam (List Dt)) : Prop where
  run : ∀ (C : Hp), RpL K C vs ds
instance (priority := 40) dw_dv {vs : List V} {ds : List Dt} [a : Dv vs ds] : Dw K vs ds := ⟨a.run K⟩
def wCall3 (n a m : Nat) (wf : W3F) (is : List Nat) (dd : List Dt) (wa wk : WA3) : WE3 := fun ρ μ Ψ Ξ => wa ρ μ (fun as ρ1 μ1 => wk ρ1 μ1 (fun bs ρ2 μ2 => (as.length = a ∧ bs.length = m ∧ (gP is as (bs ++ dd.map .d)).length = n) ∧ ∃ ν νr, Ent μ2 (ν ++ νr) ∧ call3 wf (gP is as (bs ++ dd.map .d)) ρ2 ν νr Ψ Ξ) Ξ) Ξ
instance (priority := 45) e3_call {W : WX} {n a m : Nat} {wf : W3F} {is : List Nat} {dv : List V} {dd : List Dt} {ta tk : TA} {wa wk : WA3} [v : Dw K dv dd] [x : A3 K W ta wa] [y : A3 K W tk wk] : E3 K W (tCall3 a m (sp3 K n wf) (gB is dv) (L2.WE W) ta tk) (wCall3 n a m wf is dd wa wk) where
  run B C H σ ρ μ Q Ψ Ξ S h k mx := x.run B C H σ ρ μ _ _ _ S h (fun C1 H1 vs as ρ1 μ1 S1 s1 ok1 h1 => y.run B C1 H1 σ ρ1 μ1 _ _ _ S1 h1 (fun C2 H2 zs bs ρ2 μ2 S2 s2 ok2 h2 => by
    obtain ⟨⟨l1, l2, l3⟩, ν, νr, en, h2⟩ := h2
    refine ⟨by rw [ok1.len]; exact l1, by rw [ok2.len]; exact l2, ?_⟩
    exact Sep3.calls S2 en (ArL.gP is (ok1.same s2) (ok2.app (.ofRp (v.run C2)))) l3 h2 (fun C' G v r ρ' μ' ok s z => k C' G v r ρ' μ' ok ((s1.trans s2).trans s) z) fun C' G cls d2 c d ρ' μ' S' ex z => mx _ _ _ _ _ _ _ _ _ S' ex z) mx) mx
/-- at a, for certain, an instance -/
def HdAt (μ : My) (a : Addr) (c : Str) (ns : List Str) : Prop := ∀ m, Exp μ m → ∃ ds, (a, .ins c ns ds) ∈ m
class PkIns (I : Addr → Fm → Prop) (c : outParam Str) (ns : outParam (List Str)) : Prop where
  hd : ∀ a m, I a m → ∃ ds, (a, .ins c ns ds) ∈ m
theorem HdAt.cons {x : Addr × Ob} {μ : My} {a : Addr} {c : Str} {ns : List Str} (h : HdAt μ a c ns) : HdAt (x :: μ) a c ns := by
  rintro m ⟨m1, m2, rfl, _, e⟩
  obtain ⟨ds, h⟩ := h m2 e
  exact ⟨ds, List.mem_append_right _ h⟩
theorem HdAt.fl {μ : My} {a : Addr} {c : Str} {ns : List Str} {ds : List Dt} : HdAt ((a, .fl (.ins c ns ds)) :: μ) a c ns := by
  rintro m ⟨m1, m2, rfl, e1, e⟩
  cases e1
  exact ⟨ds, List.mem_append_left _ (List.mem_cons_self ..)⟩
theorem HdAt.pk {μ : My} {a : Addr} {I : Addr → Fm → Prop} {c : Str} {ns : List Str} [p : PkIns I c ns] : HdAt ((a, .pk I) :: μ) a c ns := by
  rintro m ⟨m1, m2, rfl, e1, e⟩
  obtain ⟨ds, h⟩ := p.hd a m1 e1
  exact ⟨ds, List.mem_append_left _ h⟩
theorem HdAt.at {B : Bs} {C H : Hp} {σ : L2.St} {ρ : List Sl} {μ : My} {a : Addr} {c : Str} {ns : List Str} (S : Sep3 K B C H σ ρ μ) (h : HdAt μ a c ns) : ∃ ds, FlOk K C H a (.ins c ns ds) := by
  obtain ⟨m, e, S⟩ := S
  obtain ⟨ds, h⟩ := h m e
  exact ⟨ds, S.has h⟩
theorem zip_no {α : Type} {f : Str} : ∀ {ns : List Str} {vs : List α}, ns.contains f = false → (ns.zip vs).lookup f = none
  | [], _, _ => by simp
  | n :: ns, [], _ => by simp
  | n :: ns, v :: vs, h => by
    rw [List.contains_cons, Bool.or_eq_false_iff] at h
    rw [List.zip_cons_cons, List.lookup_cons, h.1]
    exact zip_no h.2
/-- o.m(..): o an instance that is changed, or one that is not -/
def wMeth3 (K : PySem.W.Frag) (Cl : Addr) (mm : Str) (n a m : Nat) (wf : W3F) (is : List Nat) (dd : List Dt) (wo : WE3) (wa wk : WA3) : WE3 := fun ρ μ Ψ Ξ => wo ρ μ (fun r ρ0 μ0 => match r with
  | .dat (.adr x) => (∃ c ns, HdAt μ0 x c ns ∧ He.ga K c = Cl ∧ ns.contains mm = false) ∧ wa ρ0 μ0 (fun as ρ1 μ1 => wk ρ1 μ1 (fun bs ρ2 μ2 => (as.length = a ∧ bs.length = m ∧ (gP is (.d (.adr x) :: as) (bs ++ dd.map .d)).length = n) ∧ ∃ ν νr, Ent μ2 (ν ++ νr) ∧ call3 wf (gP is (.d (.adr x) :: as) (bs ++ dd.map .d)) ρ2 ν νr Ψ Ξ) Ξ) Ξ
  | .dat (.obj c ns ds) => (He.ga K c = Cl ∧ ns.contains mm = false) ∧ wa ρ0 μ0 (fun as ρ1 μ1 => wk ρ1 μ1 (fun bs ρ2 μ2 => (as.length = a ∧ bs.length = m ∧ (gP is (.d (.obj c ns ds) :: as) (bs ++ dd.map .d)).length = n) ∧ ∃ ν νr, Ent μ2 (ν ++ νr) ∧ call3 wf (gP is (.d (.obj c ns ds) :: as) (bs ++ dd.map .d)) ρ2 ν νr Ψ Ξ) Ξ) Ξ
  | _ => False) Ξ
instance (priority := 45) e3_meth {W : WX} {Cl : Addr} {mm : Str} {n a m : Nat} {wf : W3F} {is : List Nat} {dv : List V} {dd : List Dt} {to : TE} {ta tk : TA} {wo : WE3} {wa wk : WA3} [v : Dw K dv dd] [o : E3 K W to wo] [x : A3 K W ta wa] [y : A3 K W tk wk] : E3 K W (tMeth3 Cl mm a m (sp3 K n wf) (gB is dv) (L2.WE W) to ta tk) (wMeth3 K Cl mm n a m wf is dd wo wa wk) where
  run B C H σ ρ μ Q Ψ Ξ S h k mx := o.run B C H σ ρ μ _ _ _ S h (fun C0 H0 v0 r0 ρ0 μ0 ok0 s0 h0 => by
    cases r0 with
    | new ds => exact False.elim h0
    | dat d0 =>
      obtain ⟨S0, rp0⟩ := ok0
      cases d0 <;> try exact False.elim h0
      · rename_i c ns ds
        obtain ⟨⟨ec, el⟩, h0⟩ := h0
        have rp0' : Rp K C0 v0 (.obj c ns ds) := rp0
        cases rp0 with
        | @obj _ p0 dx _ vs0 _ hx hdx hl rl =>
          refine ⟨p0, dx, _, rfl, by rw [← ec]; exact S0.sep.cold _ _ hx, zip_no el, ?_⟩
          refine x.run B C0 H0 σ ρ0 μ0 _ _ _ S0 h0 (fun C1 H1 vs as ρ1 μ1 S1 s1 ok1 h1 => y.run B C1 H1 σ ρ1 μ1 _ _ _ S1 h1 (fun C2 H2 zs bs ρ2 μ2 S2 s2 ok2 h2 => ?_) mx) mx
          obtain ⟨⟨l1, l2, l3⟩, ν, νr, en, h2⟩ := h2
          refine ⟨by rw [ok1.len]; exact l1, by rw [ok2.len]; exact l2, ?_⟩
          exact Sep3.calls S2 en (ArL.gP is (.cons (show ArOk K C2 σ (V.ref p0) (.d (.obj c ns ds)) from rp0'.same (s1.trans s2)) (ok1.same s2)) (ok2.app (.ofRp (v.run C2)))) l3 h2 (fun C' G v r ρ' μ' ok s z => k C' G v r ρ' μ' ok (s0.trans ((s1.trans s2).trans s)) z) fun C' G cls d2 c d ρ' μ' S' ex z => mx _ _ _ _ _ _ _ _ _ S' ex z
      · rename_i xx
        obtain ⟨⟨c, ns, hd, ec, el⟩, h0⟩ := h0
        cases rp0
        obtain ⟨ds, dx, vs0, e1, _⟩ := hd.at S0
        refine ⟨xx, dx, _, rfl, by rw [← ec]; exact e1, zip_no el, ?_⟩
        refine x.run B C0 H0 σ ρ0 μ0 _ _ _ S0 h0 (fun C1 H1 vs as ρ1 μ1 S1 s1 ok1 h1 => y.run B C1 H1 σ ρ1 μ1 _ _ _ S1 h1 (fun C2 H2 zs bs ρ2 μ2 S2 s2 ok2 h2 => ?_) mx) mx
        obtain ⟨⟨l1, l2, l3⟩, ν, νr, en, h2⟩ := h2
        refine ⟨by rw [ok1.len]; exact l1, by rw [ok2.len]; exact l2, ?_⟩
        exact Sep3.calls S2 en (ArL.gP is (.cons (show ArOk K C2 σ (V.ref xx) (.d (.adr xx)) from Rp.adr xx) (ok1.same s2)) (ok2.app (.ofRp (v.run C2)))) l3 h2 (fun C' G v r ρ' μ' ok s z => k C' G v r ρ' μ' ok (s0.trans ((s1.trans s2).trans s)) z) fun C' G cls d2 c d ρ' μ' S' ex z => mx _ _ _ _ _ _ _ _ _ S' ex z) mx
/-- a new instance is hung -/
theorem Sep3.newIns {B : Bs} {C H : Hp} {σ : L2.St} {ρ : List Sl} {μ : My} {x dx : Addr} {c : Str} (S : Sep3 K B C H σ ρ μ) (hx : H x = none) (hdx : H dx = none) (ne : dx ≠ x) : Sep3 K B C (upd (upd H dx (.own x)) x (.ins (He.ga K c) dx [])) σ ρ ((x, .fl (.ins c [] [])) :: μ) := by
  obtain ⟨m, e, U, M, S⟩ := S
  have hx2 : upd H dx (.own x) x = none := by rw [upd_ne (Ne.symm ne)]; exact hx
  have Sa := S.allocN (o := .own x) hdx
  have Sb := Sa.allocN (o := .ins (He.ga K c) dx []) hx2
  have nx := S.nohot hx
  have nd := S.nohot hdx
  obtain ⟨ux, bx⟩ := hang_no (S.free0 hx)
  obtain ⟨ud, bd⟩ := hang_no (S.free0 hdx)
  refine ⟨_, ⟨[(x, .ins c [] [])], m, rfl, rfl, e⟩, SepF.join (U1 := fun b => if b = x then some (.ins (He.ga K c) dx []) else if b = dx then some (.own x) else none) ⟨List.nodup_cons.mpr ⟨by simp, .nil⟩, fun b g h => ?_, fun b u h => ?_, fun b u h => ?_⟩ (M.on S.grow (Same.refl _) Sb) Sb fun b u h => ?_⟩
  · obtain ⟨rfl, rfl⟩ := Prod.mk.inj (List.mem_singleton.mp h)
    exact ⟨dx, [], if_pos rfl, (if_neg ne).trans (if_pos rfl), rfl, .nil, fun f h => nomatch h⟩
  · split at h
    · next z => exact .inl ⟨_, by rw [z]; exact List.mem_cons_self ..⟩
    · split at h
      · next z => exact .inr ⟨x, _, (Option.some.inj h).symm, List.mem_cons_self ..⟩
      · cases h
  · split at h
    · next z =>
      rw [z]
      exact ⟨S.cold.free hx, bx, fun i e => S.nobx nx i e⟩
    · split at h
      · next z =>
        rw [z]
        exact ⟨S.cold.free hdx, bd, fun i e => S.nobx nd i e⟩
      · cases h
  · split at h
    · next z =>
      rw [z]
      cases h
      exact ⟨upd_same, ux, nx⟩
    · next nz =>
      split at h
      · next z =>
        rw [z]
        cases h
        exact ⟨by rw [upd_ne ne, upd_same], ud, nd⟩
      · cases h
def non3 (x : Addr) (Ψ : Ro → List Sl → My → Prop) (r : Ro) (ρ : List Sl) (μ : My) : Prop := match r with
  | .dat .non => Ψ (.dat (.adr x)) ρ μ
  | _ => False
def wMake3 (K : PySem.W.Frag) (Cl : Addr) (n a m : Nat) (wf : W3F) (is : List Nat) (dd : List Dt) (wa wk : WA3) : WE3 := fun ρ μ Ψ Ξ => wa ρ μ (fun as ρ1 μ1 => wk ρ1 μ1 (fun bs ρ2 μ2 => (as.length = a ∧ bs.length = m) ∧ ∃ c, He.ga K c = Cl ∧ ∀ x, (gP is (.d (.adr x) :: as) (bs ++ dd.map .d)).length = n ∧ ∃ ν νr, Ent μ2 (ν ++ νr) ∧ call3 wf (gP is (.d (.adr x) :: as) (bs ++ dd.map .d)) ρ2 ((x, .fl (.ins c [] [])) :: ν) νr (non3 x Ψ) Ξ) Ξ) Ξ
instance (priority := 45) e3_make {W : WX} {Cl : Addr} {n a m : Nat} {wf : W3F} {is : List Nat} {dv : List V} {dd : List Dt} {ta tk : TA} {wa wk : WA3} [v : Dw K dv dd] [x : A3 K W ta wa] [y : A3 K W tk wk] : E3 K W (tMake3 Cl a m (sp3 K n wf) (gB is dv) (L2.WE W) ta tk) (wMake3 K Cl n a m wf is dd wa wk) where
  run B C H σ ρ μ Q Ψ Ξ S h k mx := x.run B C H σ ρ μ _ _ _ S h (fun C1 H1 vs as ρ1 μ1 S1 s1 ok1 h1 => y.run B C1 H1 σ ρ1 μ1 _ _ _ S1 h1 (fun C2 H2 zs bs ρ2 μ2 S2 s2 ok2 h2 => by
    obtain ⟨⟨l1, l2⟩, c, ec, h2⟩ := h2
    refine ⟨by rw [ok1.len]; exact l1, by rw [ok2.len]; exact l2, fun p dx hp hdx ne => ?_⟩
    obtain ⟨l3, ν, νr, en, h2⟩ := h2 p
    have S3 := S2.newIns (c := c) hp hdx ne
    rw [ec] at S3
    refine Sep3.calls S3 (μ1 := (p, .fl (.ins c [] [])) :: ν) (μr := νr) en.cons (ArL.gP is (.cons (show ArOk K C2 σ (V.ref p) (.d (.adr p)) from Rp.adr p) (ok1.same s2)) (ok2.app (.ofRp (v.run C2)))) l3 h2 (fun C' G v r ρ' μ' ok s z => ?_) fun C' G cls d2 c d ρ' μ' S' ex z => mx _ _ _ _ _ _ _ _ _ S' ex z
    unfold non3 at z
    split at z
    · obtain ⟨S', rp⟩ := ok
      cases rp
      exact ⟨rfl, k _ _ _ (.dat (.adr p)) _ _ ⟨S', .adr p⟩ ((s1.trans s2).trans s) z⟩
    · exact z.elim) mx) mx
/-! what level 1 promises -/
def up3 (wf : WF) : W3F := fun ps μ Ψ _ => wf ps fun r ps' => Ψ r ps' μ
theorem sp3_D {n : Nat} {wf : WF} {vs : List V} {H : Hp} {Q : VK} {E : XK} (h : sp3 K n (up3 wf) vs H Q E) : spD K n wf vs H Q E := by
  obtain ⟨hl, C, U, bx, ps, μ, m, Ψ, Ξ, S, e, M, hU, hf, k, kx⟩ := h
  have eB := subU_hang (C := C) (bx := bx) hU
  refine ⟨hl, C, bx, ps, _, S, hf, fun C' G v r ps' S' ok z => k C' G v r ps' μ ?_ z⟩
  have S'' : Sep K ((⟨C, subU H U, bx⟩ : Bs).hang U) C' G (vs.map some) ps' := by rw [eB]; exact S'
  have S0 : Sep K ((⟨C, subU H U, bx⟩ : Bs).hang U) C H (vs.map some) ps := by rw [eB]; exact S
  have M' := M.on S0.grow S'.grow S''
  cases r with
  | dat d => exact ⟨⟨m, e, U, M', S''⟩, ok⟩
  | new ds =>
    obtain ⟨x, rfl, f⟩ := ok
    refine ⟨x, rfl, _, ⟨[(x, .lst ds)], m, rfl, rfl, e⟩, SepF.fresh S'' M' ?_⟩
    rw [eB]
    exact f
theorem FnOk.up3 {k : Nat} {CX : CXT} {f : Addr} {fd : FuncData} {ps : List Str} {n : Nat} {wf : WF} (F : FnOk P w K mg base CX k f fd ps (spD K n wf)) : FnOk P w K mg base CX k f fd ps (sp3 K n (Sl.up3 wf)) := F.imp fun _ _ _ _ h => sp3_D h

end
section
variable {P : Program} {w : World} {K : PySem.W.Frag} {mg : Str → Option Value} {base : Heap}
local macro_rules | `(tactic| get_elem_tactic_trivial) => `(tactic| (repeat first | exact Wk.nil | exact Wk'.nil | refine Wk.same ?_ | refine Wk'.same ?_ | refine Wk.un (fun _ z => nomatch z) ?_ | refine Wk'.un ?_))
/-! level 3: expressions -/
/-- a list that is hung, seen as it stands -/
def vwK (μ : My) (d : Dt) (k : Dt → Prop) : Prop := match d with
  | .adr a => ∃ (i : Nat) (ds : List Dt), μ[i]? = some (a, Ob.fl (.lst ds)) ∧ k (.lst ds)
  | d => k d
theorem vwK_run {B : Bs} {C H : Hp} {σ : L2.St} {ρ : List Sl} {μ : My} {v : V} {d : Dt} {k : Dt → Prop} (S : Sep3 K B C H σ ρ μ) (r : Rp K C v d) (h : vwK μ d k) : ∃ e, Rt K C H v e ∧ k e := by
  cases d <;> try exact ⟨_, .inl r, h⟩
  rename_i a
  cases r
  obtain ⟨i, ds, hi, h⟩ := h
  obtain ⟨vs, hx, rx⟩ := S.has hi
  exact ⟨_, .inr ⟨a, vs, ds, rfl, rfl, hx, rx⟩, h⟩
def wOp3 (op : Dt → Dt → (Dt → Prop) → Prop) (wa wb : WE3) : WE3 := fun ρ μ Ψ Ξ => wa ρ μ (fun r1 ρ1 μ1 => wb ρ1 μ1 (fun r2 ρ2 μ2 => vwK μ2 r1.val fun d1 => vwK μ2 r2.val fun d2 => op d1 d2 fun d => Ψ (.dat d) ρ2 μ2) Ξ) Ξ
instance (priority := 40) e3_op {W : WX} {r : R2} {op : Dt → Dt → (Dt → Prop) → Prop} {ta tb : TE} {wa wb : WE3} [o : So K r op] [a : E3 K W ta wa] [b : E3 K W tb wb] : E3 K W (tOp r ta tb) (wOp3 op wa wb) where
  run B C H σ ρ μ Q Ψ Ξ S h k mx := a.run B C H σ ρ μ _ _ _ S h (fun C1 H1 v1 r1 ρ1 μ1 ok1 s1 h1 => by
    obtain ⟨C1', S1, s1', q1⟩ := ok1.cool
    refine b.run B C1' H1 σ ρ1 μ1 _ _ _ S1 h1 (fun C2 H2 v2 r2 ρ2 μ2 ok2 s2 h2 => ?_) mx
    obtain ⟨C2', S2, s2', q2⟩ := ok2.cool
    obtain ⟨d1, t1, h3⟩ := vwK_run S2 (q1.same (s2.trans s2')) h2
    obtain ⟨d2, t2, h4⟩ := vwK_run S2 q2 h3
    obtain ⟨B1, S3, back, _⟩ := S2.lift
    exact o.run B1 C2' H2 σ ρ2 _ _ _ _ _ _ S3 t1 t2 h4 fun C' G v d S' s' r' z => k _ _ _ (.dat d) _ _ ⟨(back S').1, r'⟩ ((s1.trans s1').trans ((s2.trans s2').trans s')) z) mx
def wOpN3 (op : Dt → Dt → (List Dt → Prop) → Prop) (wa wb : WE3) : WE3 := fun ρ μ Ψ Ξ => wa ρ μ (fun r1 ρ1 μ1 => wb ρ1 μ1 (fun r2 ρ2 μ2 => vwK μ2 r1.val fun d1 => vwK μ2 r2.val fun d2 => op d1 d2 fun ds => Ψ (.new ds) ρ2 μ2) Ξ) Ξ
instance (priority := 40) e3_opN {W : WX} {r : R2} {op : Dt → Dt → (List Dt → Prop) → Prop} {ta tb : TE} {wa wb : WE3} [o : Sno K r op] [a : E3 K W ta wa] [b : E3 K W tb wb] : E3 K W (tOp r ta tb) (wOpN3 op wa wb) where
  run B C H σ ρ μ Q Ψ Ξ S h k mx := a.run B C H σ ρ μ _ _ _ S h (fun C1 H1 v1 r1 ρ1 μ1 ok1 s1 h1 => by
    obtain ⟨C1', S1, s1', q1⟩ := ok1.cool
    refine b.run B C1' H1 σ ρ1 μ1 _ _ _ S1 h1 (fun C2 H2 v2 r2 ρ2 μ2 ok2 s2 h2 => ?_) mx
    obtain ⟨C2', S2, s2', q2⟩ := ok2.cool
    obtain ⟨d1, t1, h3⟩ := vwK_run S2 (q1.same (s2.trans s2')) h2
    obtain ⟨d2, t2, h4⟩ := vwK_run S2 q2 h3
    obtain ⟨B1, S3, back, fr⟩ := S2.lift
    exact o.run B1 C2' H2 σ ρ2 _ _ _ _ _ _ S3 t1 t2 h4 fun C' G a ds S' s' f z => k _ _ _ (.new ds) _ _ ⟨a, rfl, fr S' f⟩ ((s1.trans s1').trans ((s2.trans s2').trans s')) z) mx
/-! tests -/
def blK (r : Ro) (k : Bool → Prop) : Prop := match r with
  | .dat (.bl b) => k b
  | _ => False
def wTest3 (w : WE3) : WT3 := fun ρ μ Ψ Ξ => w ρ μ (fun r ρ1 μ1 => blK r fun b => Ψ b ρ1 μ1) Ξ
theorem test3_run {B : Bs} {C H : Hp} {σ : L2.St} {ρ : List Sl} {μ : My} {v : V} {r : Ro} {k : Bool → Prop} (ok : Ok3 K B C H σ ρ μ v r) (h : blK r k) : ∃ b, v = .bl b ∧ Sep3 K B C H σ ρ μ ∧ k b := by
  cases r with
  | new ds => exact False.elim h
  | dat d =>
    cases d <;> try exact False.elim h
    obtain ⟨S, r⟩ := ok
    cases r
    exact ⟨_, rfl, S, h⟩
instance (priority := 40) c3_b {W : WX} {t : TE} {w : WE3} [a : E3 K W t w] : C3 K W (tB t) (wTest3 w) where
  run B C H σ ρ μ Q Ψ Ξ S h k mx := a.run B C H σ ρ μ _ _ _ S h (fun C1 H1 v r ρ1 μ1 ok s1 z => by
    obtain ⟨b, rfl, S1, z⟩ := test3_run ok z
    exact ⟨b, rfl, k _ _ _ _ _ S1 s1 z⟩) mx
instance (priority := 40) c3_test {W : WX} {t : TE} {w : WE3} [a : E3 K W t w] : C3 K W (tTest t) (wTest3 w) where
  run B C H σ ρ μ Q Ψ Ξ S h k mx := a.run B C H σ ρ μ _ _ _ S h (fun C1 H1 v r ρ1 μ1 ok s1 z => by
    obtain ⟨b, rfl, S1, z⟩ := test3_run ok z
    exact ⟨b, rfl, k _ _ _ _ _ S1 s1 z⟩) mx
def wAnd3 (wa wb : WT3) : WT3 := fun ρ μ Ψ Ξ => wa ρ μ (fun b ρ1 μ1 => if b = true then wb ρ1 μ1 Ψ Ξ else Ψ false ρ1 μ1) Ξ
def wOr3 (wa wb : WT3) : WT3 := fun ρ μ Ψ Ξ => wa ρ μ (fun b ρ1 μ1 => if b = true then Ψ true ρ1 μ1 else wb ρ1 μ1 Ψ Ξ) Ξ
def wNot3 (wa : WT3) : WT3 := fun ρ μ Ψ Ξ => wa ρ μ (fun b ρ1 μ1 => Ψ (!b) ρ1 μ1) Ξ
instance (priority := 40) c3_and {W : WX} {ta tb : TT} {wa wb : WT3} [a : C3 K W ta wa] [b : C3 K W tb wb] : C3 K W (tAnd ta tb) (wAnd3 wa wb) where
  run B C H σ ρ μ Q Ψ Ξ S h k mx := a.run B C H σ ρ μ _ _ _ S h (fun C1 H1 c ρ1 μ1 S1 s1 z => by
    cases c with
    | true => exact b.run B C1 H1 σ ρ1 μ1 _ _ _ S1 z (fun C2 H2 e ρ2 μ2 S2 s2 z => k _ _ _ _ _ S2 (s1.trans s2) z) mx
    | false => exact k _ _ _ _ _ S1 s1 z) mx
instance (priority := 40) c3_or {W : WX} {ta tb : TT} {wa wb : WT3} [a : C3 K W ta wa] [b : C3 K W tb wb] : C3 K W (tOr ta tb) (wOr3 wa wb) where
  run B C H σ ρ μ Q Ψ Ξ S h k mx := a.run B C H σ ρ μ _ _ _ S h (fun C1 H1 c ρ1 μ1 S1 s1 z => by
    cases c with
    | true => exact k _ _ _ _ _ S1 s1 z
    | false => exact b.run B C1 H1 σ ρ1 μ1 _ _ _ S1 z (fun C2 H2 e ρ2 μ2 S2 s2 z => k _ _ _ _ _ S2 (s1.trans s2) z) mx) mx
instance (priority := 40) c3_not {W : WX} {ta : TT} {wa : WT3} [a : C3 K W ta wa] : C3 K W (tNot ta) (wNot3 wa) where
  run B C H σ ρ μ Q Ψ Ξ S h k mx := a.run B C H σ ρ μ _ _ _ S h (fun C1 H1 c ρ1 μ1 S1 s1 z => k _ _ _ _ _ S1 s1 z) mx
def wAndV3 (wa : WT3) (wb : WE3) : WE3 := fun ρ μ Ψ Ξ => wa ρ μ (fun b ρ1 μ1 => if b = true then wb ρ1 μ1 Ψ Ξ else Ψ (.dat (.bl false)) ρ1 μ1) Ξ
instance (priority := 40) e3_and {W : WX} {ta tb : TE} {wa wb : WE3} [a : E3 K W ta wa] [b : E3 K W tb wb] : E3 K W (tAndV ta tb) (wAndV3 (wTest3 wa) wb) where
  run B C H σ ρ μ Q Ψ Ξ S h k mx := a.run B C H σ ρ μ _ _ _ S h (fun C1 H1 v r ρ1 μ1 ok s1 z => by
    obtain ⟨c, rfl, S1, z⟩ := test3_run ok z
    refine ⟨c, rfl, ?_⟩
    cases c with
    | true => exact b.run B C1 H1 σ ρ1 μ1 _ _ _ S1 z (fun C2 H2 v r ρ2 μ2 ok s2 z => k _ _ _ r _ _ ok (s1.trans s2) z) mx
    | false => exact k _ _ _ (.dat (.bl false)) _ _ ⟨S1, .bl _⟩ s1 z) mx
def wIfE3 (wc : WT3) (wa wb : WE3) : WE3 := fun ρ μ Ψ Ξ => wc ρ μ (fun b ρ1 μ1 => if b = true then wa ρ1 μ1 Ψ Ξ else wb ρ1 μ1 Ψ Ξ) Ξ
instance (priority := 40) e3_if {W : WX} {tc : TT} {ta tb : TE} {wc : WT3} {wa wb : WE3} [c : C3 K W tc wc] [a : E3 K W ta wa] [b : E3 K W tb wb] : E3 K W (tIf tc ta tb) (wIfE3 wc wa wb) where
  run B C H σ ρ μ Q Ψ Ξ S h k mx := c.run B C H σ ρ μ _ _ _ S h (fun C1 H1 e ρ1 μ1 S1 s1 z => by
    cases e with
    | true => exact a.run B C1 H1 σ ρ1 μ1 _ _ _ S1 z (fun C2 H2 v r ρ2 μ2 ok s2 z => k _ _ _ r _ _ ok (s1.trans s2) z) mx
    | false => exact b.run B C1 H1 σ ρ1 μ1 _ _ _ S1 z (fun C2 H2 v r ρ2 μ2 ok s2 z => k _ _ _ r _ _ ok (s1.trans s2) z) mx) mx
/-! displays -/
def wTup3 (wa : WA3) : WE3 := fun ρ μ Ψ Ξ => wa ρ μ (fun as ρ1 μ1 => match dats as with
  | some ds => ds.length ≤ sizeLine ∧ Ψ (.dat (.tup ds)) ρ1 μ1
  | none => False) Ξ
instance (priority := 40) e3_tup {W : WX} {ta : TA} {wa : WA3} [a : A3 K W ta wa] : E3 K W (tTup ta) (wTup3 wa) where
  run B C H σ ρ μ Q Ψ Ξ S h k mx := a.run B C H σ ρ μ _ _ _ S h (fun C1 H1 vs as ρ1 μ1 S1 s1 ok z => by
    cases q : dats as with
    | none => simp only [q] at z
    | some ds =>
      simp only [q] at z
      have r := ok.dats q
      refine ⟨by rw [r.len]; exact z.1, fun p hp => ?_⟩
      obtain ⟨S2, s2⟩ := S1.alloc (o := .tup vs) hp
      exact k _ _ _ (.dat (.tup ds)) _ _ ⟨S2, .tup (SqT.of upd_same) (r.same s2)⟩ (s1.trans s2) z.2) mx
def wLst3 (wa : WA3) : WE3 := fun ρ μ Ψ Ξ => wa ρ μ (fun as ρ1 μ1 => match dats as with
  | some ds => ds.length ≤ sizeLine ∧ Ψ (.new ds) ρ1 μ1
  | none => False) Ξ
instance (priority := 40) e3_lst {W : WX} {ta : TA} {wa : WA3} [a : A3 K W ta wa] : E3 K W (tLst ta) (wLst3 wa) where
  run B C H σ ρ μ Q Ψ Ξ S h k mx := a.run B C H σ ρ μ _ _ _ S h (fun C1 H1 vs as ρ1 μ1 S1 s1 ok z => by
    cases q : dats as with
    | none => simp only [q] at z
    | some ds =>
      simp only [q] at z
      have r := ok.dats q
      exact ⟨by rw [r.len]; exact z.1, fun p hp => k _ _ _ (.new ds) _ _ ⟨p, rfl, S1.new hp r⟩ s1 z.2⟩) mx
/-! a new list that is hung -/
def tNew3 (t : TE) : TE := t
theorem peNew3 {X : Cx} {e : Expr} {t : TE} (h : PE X e t) : PE X e (tNew3 t) := h
def wNew3 (w : WE3) : WE3 := fun ρ μ Ψ Ξ => w ρ μ (fun r ρ1 μ1 => match r with
  | .new ds => ∀ a, Ψ (.dat (.adr a)) ρ1 ((a, .fl (.lst ds)) :: μ1)
  | _ => False) Ξ
instance (priority := 70) e3_new {W : WX} {t : TE} {w : WE3} [a : E3 K W t w] : E3 K W (tNew3 t) (wNew3 w) where
  run B C H σ ρ μ Q Ψ Ξ S h k mx := a.run B C H σ ρ μ _ _ _ S h (fun C1 H1 v r ρ1 μ1 ok s1 z => by
    cases r with
    | dat d => exact False.elim z
    | new ds =>
      obtain ⟨x, rfl, S1⟩ := ok
      exact k _ _ _ (.dat (.adr x)) _ _ ⟨S1, .adr x⟩ s1 (z x)) mx
/-! builtins -/
def wCB13 (f : Dt → (Dt → Prop) → Prop) (wa : WE3) : WE3 := fun ρ μ Ψ Ξ => wa ρ μ (fun r ρ1 μ1 => vwK μ1 r.val fun d => f d fun e => Ψ (.dat e) ρ1 μ1) Ξ
instance (priority := 45) e3_cb1 {W : WX} {r : List V → Hp → VK → Prop} {f : Dt → (Dt → Prop) → Prop} {ta : TE} {wa : WE3} [b : Sb1 K r f] [a : E3 K W ta wa] : E3 K W (tCB r (tCons ta tNil)) (wCB13 f wa) where
  run B C H σ ρ μ Q Ψ Ξ S h k mx := a.run B C H σ ρ μ _ _ _ S h (fun C1 H1 v1 r1 ρ1 μ1 ok1 s1 h1 => by
    obtain ⟨C2, S2, s2, q⟩ := ok1.cool
    obtain ⟨e, t, h2⟩ := vwK_run S2 q h1
    obtain ⟨B1, S3, back, _⟩ := S2.lift
    exact b.run B1 C2 H1 σ ρ1 _ _ _ _ S3 t h2 fun C' G v d S' s' r' z => k _ _ _ (.dat d) _ _ ⟨(back S').1, r'⟩ ((s1.trans s2).trans s') z) mx
def wCB1n3 (f : Dt → (List Dt → Prop) → Prop) (wa : WE3) : WE3 := fun ρ μ Ψ Ξ => wa ρ μ (fun r ρ1 μ1 => vwK μ1 r.val fun d => f d fun e => Ψ (.new e) ρ1 μ1) Ξ
instance (priority := 46) e3_cb1n {W : WX} {r : List V → Hp → VK → Prop} {f : Dt → (List Dt → Prop) → Prop} {ta : TE} {wa : WE3} [b : Sb1n K r f] [a : E3 K W ta wa] : E3 K W (tCB r (tCons ta tNil)) (wCB1n3 f wa) where
  run B C H σ ρ μ Q Ψ Ξ S h k mx := a.run B C H σ ρ μ _ _ _ S h (fun C1 H1 v1 r1 ρ1 μ1 ok1 s1 h1 => by
    obtain ⟨C2, S2, s2, q⟩ := ok1.cool
    obtain ⟨e, t, h2⟩ := vwK_run S2 q h1
    obtain ⟨B1, S3, back, fr⟩ := S2.lift
    exact b.run B1 C2 H1 σ ρ1 _ _ _ _ S3 t h2 fun C' G x ds S' s' f z => k _ _ _ (.new ds) _ _ ⟨x, rfl, fr S' f⟩ ((s1.trans s2).trans s') z) mx

end
section
variable {P : Program} {w : World} {K : PySem.W.Frag} {mg : Str → Option Value} {base : Heap}
local macro_rules | `(tactic| get_elem_tactic_trivial) => `(tactic| (repeat first | exact Wk.nil | exact Wk'.nil | refine Wk.same ?_ | refine Wk'.same ?_ | refine Wk.un (fun _ z => nomatch z) ?_ | refine Wk'.un ?_))
/-! level 3: fields -/
theorem zip_rp {C : Hp} {f : Str} : ∀ {ns : List Str} {vs : List V} {ds : List Dt} {d : Dt}, RpL K C vs ds → (ns.zip ds).lookup f = some d → ∃ v, (ns.zip vs).lookup f = some v ∧ Rp K C v d ∧ f ∈ ns
  | [], _, _, _, _, h => by simp at h
  | n :: ns, _, _, _, .nil, h => by simp at h
  | n :: ns, v :: vs, d :: ds, e, .cons r t, h => by
    rw [List.zip_cons_cons, List.lookup_cons] at h
    by_cases q : (f == n) = true
    · rw [q] at h
      cases h
      exact ⟨v, by rw [List.zip_cons_cons, List.lookup_cons, q], r, by rw [beq_iff_eq.mp q]; exact List.mem_cons_self ..⟩
    · rw [Bool.not_eq_true] at q
      rw [q] at h
      obtain ⟨u, e, r', m⟩ := zip_rp t h
      exact ⟨u, by rw [List.zip_cons_cons, List.lookup_cons, q]; exact e, r', List.mem_cons_of_mem _ m⟩
def wFld3 (K : PySem.W.Frag) (w : WE3) (f : Str) : WE3 := fun ρ μ Ψ Ξ => w ρ μ (fun r ρ1 μ1 => match r with
  | .dat (.adr a) => ∃ (i : Nat) (c : Str) (ns : List Str) (ds : List Dt), μ1[i]? = some (a, Ob.fl (.ins c ns ds)) ∧ ∃ d, (ns.zip ds).lookup f = some d ∧ Ψ (.dat d) ρ1 μ1
  | .dat (.obj c ns ds) => FldOk K c f ∧ ∃ d, (ns.zip ds).lookup f = some d ∧ Ψ (.dat d) ρ1 μ1
  | _ => False) Ξ
def tFld3 (K : PySem.W.Frag) (ta : TE) (f : Str) : TE := tFld K ta f
instance (priority := 40) e3_fld {W : WX} {ta : TE} {f : Str} {wa : WE3} [a : E3 K W ta wa] : E3 K W (tFld3 K ta f) (wFld3 K wa f) where
  run B C H σ ρ μ Q Ψ Ξ S h k mx := a.run B C H σ ρ μ _ _ _ S h (fun C1 H1 v1 r1 ρ1 μ1 ok1 s1 h1 => by
    cases r1 with
    | new ds => exact False.elim h1
    | dat x =>
      obtain ⟨S1, rp⟩ := ok1
      cases x <;> try exact False.elim h1
      · rename_i c ns ds
        obtain ⟨fo, d, hl, h1⟩ := h1
        cases rp with
        | @obj _ x dx _ vs _ hx hdx hn rl =>
          obtain ⟨v, hv, rv, _⟩ := zip_rp rl hl
          exact ⟨x, _, dx, _, v, rfl, S1.sep.cold _ _ hx, fo.cls, fo.no, hv, k _ _ _ (.dat d) _ _ ⟨S1, rv⟩ s1 h1⟩
      · rename_i x
        cases rp
        obtain ⟨i, c, ns, ds, hi, d, hl, h1⟩ := h1
        obtain ⟨dx, vs, hx, hdx, hn, rl, ff⟩ := S1.has hi
        obtain ⟨v, hv, rv, m⟩ := zip_rp rl hl
        exact ⟨x, _, dx, _, v, rfl, hx, (ff f m).cls, (ff f m).no, hv, k _ _ _ (.dat d) _ _ ⟨S1, rv⟩ s1 h1⟩) mx
/-- a field is put -/
def putN (f : Str) (d : Dt) : List Str → List Dt → List Str × List Dt
  | n :: ns, x :: ds => if n = f then (n :: ns, d :: ds) else (n :: (putN f d ns ds).1, x :: (putN f d ns ds).2)
  | _, _ => ([f], [d])
theorem putN_ok {C : Hp} {f : Str} {v : V} {d : Dt} (r : Rp K C v d) : ∀ {ns : List Str} {vs : List V} {ds : List Dt}, RpL K C vs ds → ns.length = vs.length → ∃ vs', putF f v (ns.zip vs) = (putN f d ns ds).1.zip vs' ∧ (putN f d ns ds).1.length = vs'.length ∧ RpL K C vs' (putN f d ns ds).2 ∧ ∀ g, g ∈ (putN f d ns ds).1 → g ∈ ns ∨ g = f
  | [], _, _, .nil, _ => ⟨[v], rfl, rfl, .cons r .nil, fun g h => .inr (List.mem_singleton.mp h)⟩
  | [], _, _, .cons _ _, h => by simp at h
  | n :: ns, _, _, .nil, h => by simp at h
  | n :: ns, u :: vs, e :: ds, .cons a t, h => by
    by_cases q : n = f
    · refine ⟨v :: vs, ?_, ?_, ?_, ?_⟩
      · unfold putN putF
        rw [List.zip_cons_cons]
        simp only [if_pos q]
        rfl
      · unfold putN
        rw [if_pos q]
        exact h
      · unfold putN
        rw [if_pos q]
        exact .cons r t
      · unfold putN
        rw [if_pos q]
        exact fun g m => .inl m
    · obtain ⟨vs', e1, e2, e3, e4⟩ := putN_ok r (f := f) t (ns := ns) (by simpa using h)
      refine ⟨u :: vs', ?_, ?_, ?_, ?_⟩
      · unfold putN
        rw [if_neg q, List.zip_cons_cons, List.zip_cons_cons]
        show (if n = f then _ else (n, u) :: putF f v (ns.zip vs)) = _
        rw [if_neg q, e1]
      · unfold putN
        rw [if_neg q]
        exact congrArg Nat.succ e2
      · unfold putN
        rw [if_neg q]
        exact .cons a e3
      · unfold putN
        rw [if_neg q]
        exact fun g m => (List.mem_cons.mp m).elim (fun z => .inl (z ▸ List.mem_cons_self ..)) fun z => (e4 g z).imp (List.mem_cons_of_mem _) id
def wSetFld (K : PySem.W.Frag) (f : Str) (wv wo : WE3) : WS3 := fun ρ μ Φ Ξ => wv ρ μ (fun rv ρ1 μ1 => wo ρ1 μ1 (fun ro ρ2 μ2 => match ro with
  | .dat (.adr a) => ∃ (i : Nat) (c : Str) (ns : List Str) (ds : List Dt), μ2[i]? = some (a, Ob.fl (.ins c ns ds)) ∧ ((ns.contains f = true ∨ FldOk K c f) ∧ ns.length < 1000) ∧ ∃ ns' ds', putN f rv.val ns ds = (ns', ds') ∧ Φ.nx ρ2 (μ2.set i (a, Ob.fl (.ins c ns' ds')))
  | _ => False) Ξ) Ξ
theorem Sep3.setFld {B : Bs} {C H : Hp} {σ : L2.St} {ρ : List Sl} {μ : My} {a : Addr} {i : Nat} {c f : Str} {ns ns' : List Str} {ds ds' : List Dt} {v : V} {d : Dt} {dx : Addr} {vs : List V} (S : Sep3 K B C H σ ρ μ) (hi : μ[i]? = some (a, Ob.fl (.ins c ns ds))) (r : Rp K C v d) (hx : H a = some (.ins (He.ga K c) dx (ns.zip vs))) (hl : ns.length = vs.length) (rl : RpL K C vs ds) (hf : ∀ g, g ∈ ns ∨ g = f → FldOk K c g) (e : putN f d ns ds = (ns', ds')) : Sep3 K B C (upd H a (.ins (He.ga K c) dx (putF f v (ns.zip vs)))) σ ρ (μ.set i (a, Ob.fl (.ins c ns' ds'))) := by
  obtain ⟨vs', e1, e2, e3, e4⟩ := putN_ok (f := f) r rl hl
  rw [e] at e1 e2 e3 e4
  rw [e1]
  refine S.set hi fun U1 ok sub => ?_
  obtain ⟨dx', vs1, h1, h2, _, _, _⟩ := ok
  have h3 := sub _ _ h1
  rw [hx] at h3
  have h4 := Option.some.inj h3
  injection h4 with _ h5 _
  subst h5
  have nd : dx ≠ a := fun z => by
    rw [z, h1] at h2
    exact nomatch h2
  exact ⟨dx, vs', upd_same, by rw [upd_ne nd]; exact h2, e2, e3, fun g m => hf g (e4 g m)⟩
instance (priority := 40) s3_fld {W : WX} {ta tv : TE} {f : Str} {wa wv : WE3} [v : E3 K W tv wv] [a : E3 K W ta wa] : S3 K W (sFld K ta tv f) (wSetFld K f wv wa) where
  run B C H σ ρ μ D Φ Ξ S h m mx := v.run B C H σ ρ μ _ _ _ S h (fun C1 H1 v1 r1 ρ1 μ1 ok1 s1 h1 => by
    obtain ⟨C1', S1, s1', q1⟩ := ok1.cool
    refine a.run B C1' H1 σ ρ1 μ1 _ _ _ S1 h1 (fun C2 H2 v2 r2 ρ2 μ2 ok2 s2 h2 => ?_) mx
    cases r2 with
    | new ds => exact False.elim h2
    | dat x =>
      obtain ⟨S2, rp⟩ := ok2
      cases x <;> try exact False.elim h2
      rename_i x
      cases rp
      obtain ⟨i, c, ns, ds, hi, ⟨ff, lt⟩, ns', ds', e, z⟩ := h2
      obtain ⟨dx, vs, hx, hdx, hn, rl, fo⟩ := S2.has hi
      have all : ∀ g, g ∈ ns ∨ g = f → FldOk K c g := fun g hg => by
        rcases hg with hg | rfl
        · exact fo g hg
        · exact ff.elim (fun z => fo g (List.contains_iff_mem.mp z)) id
      refine ⟨x, _, dx, _, rfl, hx, (all f (.inr rfl)).cls, (all f (.inr rfl)).no, ?_, m.nx _ _ _ _ _ (S2.setFld hi (q1.same s2) hx hn rl all e) z⟩
      rw [List.length_zip]
      omega) mx
/-- o.f += e, of numbers -/
def wFldAug (K : PySem.W.Frag) (f : Str) (op : Dt → Dt → (Dt → Prop) → Prop) (wo wv : WE3) : WS3 := fun ρ μ Φ Ξ => wo ρ μ (fun ro ρ1 μ1 => match ro with
  | .dat (.adr a) => (∃ (i : Nat) (c : Str) (ns : List Str) (ds : List Dt), μ1[i]? = some (a, Ob.fl (.ins c ns ds)) ∧ ∃ d, (ns.zip ds).lookup f = some d ∧ wv ρ1 μ1 (fun rv ρ2 μ2 => op d rv.val fun e => ∃ (j : Nat) (ns2 : List Str) (ds2 : List Dt), μ2[j]? = some (a, Ob.fl (.ins c ns2 ds2)) ∧ (ns2.contains f = true ∧ ns2.length < 1000) ∧ ∃ ns' ds', putN f e ns2 ds2 = (ns', ds') ∧ Φ.nx ρ2 (μ2.set j (a, Ob.fl (.ins c ns' ds')))) Ξ)
  | _ => False) Ξ
instance (priority := 40) s3_fldAug {W : WX} {ta tv : TE} {f : Str} {rd : R2} {op : Dt → Dt → (Dt → Prop) → Prop} {wa wv : WE3} [o : So K rd op] [a : E3 K W ta wa] [v : E3 K W tv wv] : S3 K W (sFldAug K ta tv rd f) (wFldAug K f op wa wv) where
  run B C H σ ρ μ D Φ Ξ S h m mx := a.run B C H σ ρ μ _ _ _ S h (fun C1 H1 v1 r1 ρ1 μ1 ok1 s1 h1 => by
    cases r1 with
    | new ds => exact False.elim h1
    | dat x =>
      obtain ⟨S1, rp⟩ := ok1
      cases x <;> try exact False.elim h1
      rename_i x
      cases rp
      obtain ⟨i, c, ns, ds, hi, d, hl, h1⟩ := h1
      obtain ⟨dx, vs, hx, hdx, hn, rl, fo⟩ := S1.has hi
      obtain ⟨v0, hv, rv, mf⟩ := zip_rp rl hl
      refine ⟨x, _, dx, _, v0, rfl, hx, (fo f mf).cls, (fo f mf).no, hv, ?_⟩
      refine v.run B C1 H1 σ ρ1 μ1 _ _ _ S1 h1 (fun C2 H2 v2 r2 ρ2 μ2 ok2 s2 h2 => ?_) mx
      obtain ⟨C2', S2, s2', q2⟩ := ok2.cool
      obtain ⟨B1, S3, back, _⟩ := S2.lift
      refine o.run B1 C2' H2 σ ρ2 _ _ _ _ _ _ S3 (.inl (rv.same (s2.trans s2'))) (.inl q2) h2 fun C3 H3 z e S4 s3 rz h3 => ?_
      obtain ⟨j, ns2, ds2, hj, ⟨ct, lt⟩, ns', ds', e', z⟩ := h3
      have S5 := (back S4).1
      obtain ⟨dx2, vs2, hx2, _, hn2, rl2, fo2⟩ := S5.has hj
      have all : ∀ g, g ∈ ns2 ∨ g = f → FldOk K c g := fun g hg => by
        rcases hg with hg | rfl
        · exact fo2 g hg
        · exact fo2 g (List.contains_iff_mem.mp ct)
      refine ⟨dx2, _, hx2, ?_, m.nx _ _ _ _ _ (S5.setFld hj rz hx2 hn2 rl2 all e') z⟩
      rw [List.length_zip]
      omega) mx
/-! targets -/
abbrev WG3 := Dt → List Sl → My → (List Sl → My → Prop) → XE3 → Prop
class G3 (K : PySem.W.Frag) (W : WX) (g : TG) (w : outParam WG3) : Prop where
  run : ∀ (B : Bs) (C H : Hp) (σ : L2.St) (ρ : List Sl) (μ : My) (v : V) (d : Dt) (Q : L2.St → Hp → Prop) (Ψ : List Sl → My → Prop) (Ξ : XE3), Sep3 K B C H σ ρ μ → Rp K C v d → w d ρ μ Ψ Ξ → (∀ C' G σ' ρ' μ', Sep3 K B C' G σ' ρ' μ' → Same C C' → Ψ ρ' μ' → Q σ' G) → MeetsX3 K B Ξ W → g v σ H Q
theorem Sep3.setL {B : Bs} {C H : Hp} {σ : L2.St} {ρ : List Sl} {μ : My} {a : Addr} {i : Nat} {ds es : List Dt} {ws : List V} (S : Sep3 K B C H σ ρ μ) (hi : μ[i]? = some (a, Ob.fl (.lst ds))) (r : RpL K C ws es) : Sep3 K B C (upd H a (.lst ws)) σ ρ (μ.set i (a, Ob.fl (.lst es))) := S.set hi fun U1 _ _ => ⟨ws, upd_same, r⟩
def wAsgT3 (w : WE3) (wg : WG3) : WS3 := fun ρ μ Φ Ξ => w ρ μ (fun r ρ1 μ1 => wg r.val ρ1 μ1 (fun ρ2 μ2 => Φ.nx ρ2 μ2) Ξ) Ξ
instance (priority := 20) s3_asgT {W : WX} {te : TE} {g : TG} {w : WE3} {wg : WG3} [a : E3 K W te w] [b : G3 K W g wg] : S3 K W (tAsg te g) (wAsgT3 w wg) where
  run B C H σ ρ μ D Φ Ξ S h m mx := a.run B C H σ ρ μ _ _ _ S h (fun C1 H1 v r ρ1 μ1 ok s1 z => by
    obtain ⟨C2, S2, s2, r2⟩ := ok.cool
    exact b.run B C2 H1 σ ρ1 μ1 v _ _ _ _ S2 r2 z (fun C3 H3 σ3 ρ3 μ3 S3 _ z => m.nx _ _ _ _ _ S3 z) mx) mx
/-! lists that are hung, changed -/
/-! read at level 3 -/

end
section
variable {P : Program} {w : World} {K : PySem.W.Frag} {mg : Str → Option Value} {base : Heap}
local macro_rules | `(tactic| get_elem_tactic_trivial) => `(tactic| (repeat first | exact Wk.nil | exact Wk'.nil | refine Wk.same ?_ | refine Wk'.same ?_ | refine Wk.un (fun _ z => nomatch z) ?_ | refine Wk'.un ?_))
/-! level 3: a thing held aside -/
theorem Sep3.hold {B : Bs} {C H : Hp} {σ : L2.St} {ρ : List Sl} {μ : My} {a : Addr} {f : Fl} (S : Sep3 K B C H σ ρ ((a, .fl f) :: μ)) (hf : ∀ c ns ds, f ≠ .ins c ns ds) : ∃ o, H a = some o ∧ FlOk K C (oneU a o) a f ∧ Sep3 K (B.hold a o) C H σ ρ μ ∧ B.H0 a = none ∧ B.C0 a = none ∧ ∀ i, B.bx ≠ some (i, a) := by
  obtain ⟨m, ⟨x, y, rfl, e1, e2⟩, SF⟩ := S
  cases e1
  obtain ⟨U1, U2, M1, M2, S2, hh⟩ := SepF.split (m1 := [(a, f)]) SF
  have ok := M1.at_ a f (List.mem_cons_self ..)
  obtain ⟨o, ho, _⟩ := ok.root
  obtain ⟨ha, u2, ns⟩ := hh a o ho
  obtain ⟨ca, b0, bx⟩ := M1.fr a o ho
  have ok1 : FlOk K C (oneU a o) a f := by
    cases f with
    | ins c ns ds => exact absurd rfl (hf c ns ds)
    | lst ds =>
      obtain ⟨vs, e, r⟩ := ok
      rw [ho] at e
      cases e
      exact ⟨vs, oneU_at, r⟩
    | dic ks ds =>
      obtain ⟨vs, e, r⟩ := ok
      rw [ho] at e
      cases e
      exact ⟨vs, oneU_at, r⟩
    | lck ks ds q vs =>
      obtain ⟨e, r⟩ := ok
      rw [ho] at e
      cases e
      exact ⟨oneU_at, r⟩
  have eB : (B.hang U2).hold a o = (B.hold a o).hang U2 := by
    unfold Bs.hold Bs.hang
    congr 1
    funext b
    by_cases z : b = a
    · rw [z, upd_same, u2]
      exact upd_same.symm
    · rw [upd_ne z]
      show _ = (match U2 b with | some o => some o | none => upd B.H0 a o b)
      rw [upd_ne z]
      all_goals rfl
  have Sh := S2.hold ha ca ns
  rw [eB] at Sh
  refine ⟨o, ha, ok1, ⟨y, e2, U2, ⟨M2.nd, M2.at_, M2.all, fun b u h => ?_⟩, Sh⟩, b0, S2.grow.free ca, bx⟩
  obtain ⟨h1, h2, h3⟩ := M2.fr b u h
  have z : b ≠ a := fun z => by rw [z, u2] at h; cases h
  exact ⟨h1, by show upd B.H0 a o b = none; rw [upd_ne z]; exact h2, h3⟩
theorem Sep3.unhold {B : Bs} {C H : Hp} {σ : L2.St} {ρ : List Sl} {μ : My} {a : Addr} {f : Fl} {o : HO} (S : Sep3 K (B.hold a o) C H σ ρ μ) (h0 : B.H0 a = none) (c0 : B.C0 a = none) (bx : ∀ i, B.bx ≠ some (i, a)) (ok : FlOk K C (oneU a o) a f) : Sep3 K B C H σ ρ ((a, .fl f) :: μ) ∧ H a = some o := by
  obtain ⟨m, e, U, M, S⟩ := S
  have ua : U a = none := by
    cases q : U a with
    | none => rfl
    | some u =>
      have h : upd B.H0 a o a = none := (M.fr a u q).2.1
      rw [upd_same] at h
      cases h
  have eB : (B.hang U).hold a o = (B.hold a o).hang U := by
    unfold Bs.hold Bs.hang
    congr 1
    funext b
    by_cases z : b = a
    · rw [z, upd_same, ua]
      exact upd_same.symm
    · rw [upd_ne z]
      show _ = (match U b with | some o => some o | none => upd B.H0 a o b)
      rw [upd_ne z]
      all_goals rfl
  rw [← eB] at S
  obtain ⟨S1, ha, ca, ns⟩ := S.unhold (by rw [hang_off ua]; exact h0) c0 bx
  refine ⟨⟨_, ⟨[(a, f)], m, rfl, rfl, e⟩, SepF.push S1 ⟨M.nd, M.at_, M.all, fun b u h => ?_⟩ ha ca (by rw [hang_off ua]; exact h0) ns ok⟩, ha⟩
  obtain ⟨h1, h2, h3⟩ := M.fr b u h
  have z : b ≠ a := fun z => by rw [z, ua] at h; cases h
  have h2 : upd B.H0 a o b = none := h2
  rw [upd_ne z] at h2
  exact ⟨h1, h2, h3⟩
/-! what a for walks -/
abbrev WI3 := List Sl → My → (List Dt → List Sl → My → Prop) → XE3 → Prop
class I3 (K : PySem.W.Frag) (W : WX) (t : TI) (w : outParam WI3) : Prop where
  run : ∀ (B : Bs) (C H : Hp) (σ : L2.St) (ρ : List Sl) (μ : My) (R : It → Hp → Prop) (Ψ : List Dt → List Sl → My → Prop) (Ξ : XE3), Sep3 K B C H σ ρ μ → w ρ μ Ψ Ξ → (∀ C' G J items ρ' μ', Sep3 K B C' G σ ρ' μ' → Same C C' → ItD K J C' items → Ψ items ρ' μ' → R J G) → MeetsX3 K B Ξ W → t σ H R
def li3 (w : WI) : WI3 := fun ρ μ Ψ _ => w ρ fun items ρ1 => Ψ items ρ1 μ
instance (priority := 50) i3_lf {W : WX} {t : TI} {w : WI} [a : Si K t w] : I3 K W t (li3 w) where
  run B C H σ ρ μ R Ψ Ξ S h k mx := by
    obtain ⟨B1, S1, back, _⟩ := S.lift
    exact a.run B1 C H σ ρ _ _ S1 h fun C1 G J items ρ1 S2 s2 hJ z => k _ _ _ _ _ _ (back S2).1 (back S2).2 hJ z
def seqK (d : Dt) (k : List Dt → Prop) : Prop := match d with
  | .lst ds => k ds
  | .tup ds => k ds
  | _ => False
def wiAny3 (w : WE3) : WI3 := fun ρ μ Ψ Ξ => w ρ μ (fun r ρ1 μ1 => seqK r.val fun ds => Ψ ds ρ1 μ1) Ξ
instance (priority := 40) i3_any {W : WX} {te : TE} {w : WE3} [a : E3 K W te w] : I3 K W (iAny K te) (wiAny3 w) where
  run B C H σ ρ μ R Ψ Ξ S h k mx := a.run B C H σ ρ μ _ _ _ S h (fun C1 H1 v r ρ1 μ1 ok s1 z => by
    obtain ⟨C2, S2, s2, r2⟩ := ok.cool
    generalize r.val = d at r2 z
    cases d <;> try exact False.elim z
    · cases r2 with
      | @lst x xs _ hs rl => exact ⟨x, rfl, .inl ⟨⟨xs, SqL.of (S2.sep.cold _ _ hs)⟩, k _ _ _ _ _ _ S2 (s1.trans s2) (itd_list hs rl) z⟩⟩
    · cases r2 with
      | @tup x xs _ hs rl => exact ⟨x, rfl, .inr ⟨⟨xs, seqT_same S2.sep.cold hs⟩, k _ _ _ _ _ _ S2 (s1.trans s2) (itd_tup hs rl) z⟩⟩) mx
def wiR1 (wa : WA3) : WI3 := fun ρ μ Ψ Ξ => wa ρ μ (fun as ρ1 μ1 => rng1 as fun l => Ψ l ρ1 μ1) Ξ
instance (priority := 40) i3_rng1 {W : WX} {ta : TA} {wa : WA3} [a : A3 K W ta wa] : I3 K W (iRng1 ta) (wiR1 wa) where
  run B C H σ ρ μ R Ψ Ξ S h k mx := a.run B C H σ ρ μ _ _ _ S h (fun C1 H1 vs as ρ1 μ1 S1 s1 ok z => by
    obtain ⟨j, e, l1, l2, z1⟩ := rng1_run z
    subst e
    cases ok with
    | cons x t =>
      cases t
      have x : Rp K C1 _ (.int j) := x
      cases x
      exact ⟨j, rfl, l1, l2, k C1 H1 _ _ _ _ S1 s1 (itd_range (lo := 0) (n := j.toNat)) z1⟩) mx
/-! loops -/
theorem Ok3.keep {B B' : Bs} {C H : Hp} {σ : L2.St} {ρ : List Sl} {μ : My} {v : V} {r : Ro} (h : Ok3 K B' C H σ ρ μ v r) (f : ∀ {μ' : My}, Sep3 K B' C H σ ρ μ' → Sep3 K B C H σ ρ μ') : Ok3 K B C H σ ρ μ v r := by
  cases r with
  | dat d => exact ⟨f h.1, h.2⟩
  | new ds =>
    obtain ⟨a, e, S⟩ := h
    exact ⟨a, e, f S⟩
def wFor3 (wi : WI3) (wg : WG) (wb : WS3) : WS3 := fun ρ μ Φ Ξ => wi ρ μ (fun items ρ1 μ1 => ∃ I : Nat → List Sl → My → Prop, To3 (I 0) ρ1 μ1 ∧
  (∀ k ρ μ d, items[k]? = some d → I k ρ μ → wg d ρ fun ρ2 => wb ρ2 μ { Φ with nx := To3 (I (k + 1)), ct := To3 (I (k + 1)), bk := Φ.nx } Ξ) ∧ ∀ ρ μ, I items.length ρ μ → Φ.nx ρ μ) Ξ
instance (priority := 40) s3_for {W : WX} {ti : TI} {g : TG} {tb : TS} {wi : WI3} {wg : WG} {wb : WS3} [i : I3 K W ti wi] [a : Sg K g wg] [b : S3 K W tb wb] : S3 K W (tFor ti g tb) (wFor3 wi wg wb) where
  run B C H σ ρ μ D Φ Ξ S h m mx := i.run B C H σ ρ μ _ _ _ S h (fun C1 H1 J items ρ1 μ1 S1 s1 hJ h1 => by
    obtain ⟨I, t0, step, fin⟩ := h1
    obtain ⟨ρ0, μ0, S0, i0⟩ := S1.to t0
    refine ⟨fun k n σ2 H2 => n = items.length - k ∧ k ≤ items.length ∧ ∃ C2 ρ2 μ2, Sep3 K B C2 H2 σ2 ρ2 μ2 ∧ Same C1 C2 ∧ I k ρ2 μ2, ⟨_, rfl, Nat.zero_le _, C1, ρ0, μ0, S0, Same.refl _, i0⟩, ?_⟩
    rintro k n σ2 H2 ⟨rfl, hk, C2, ρ2, μ2, S2, s2, hI⟩
    obtain ⟨B1, T2, back, _⟩ := S2.lift
    obtain ⟨go, stop, yld⟩ := hJ B1 C2 H2 σ2 ρ2 T2 s2
    by_cases hlt : k < items.length
    · refine .inr ⟨go k hlt, fun σ3 H3 => ∃ C3 ρ3 μ3, Sep3 K B C3 H3 σ3 ρ3 μ3 ∧ Same C1 C3 ∧ I (k + 1) ρ3 μ3, fun σ3 H3 ⟨C3, ρ3, μ3, S3, s3, h3⟩ => ⟨items.length - (k + 1), by omega, rfl, hlt, C3, ρ3, μ3, S3, s3, h3⟩, fun x H' y => ?_⟩
      obtain ⟨C3, T3, s3, r3⟩ := yld k x H' items[k] (List.getElem?_eq_getElem hlt) y
      obtain ⟨S3, s3'⟩ := back T3
      obtain ⟨S3', keep⟩ := S3.rebase
      obtain ⟨B2, T4, back2, _⟩ := S3'.lift
      refine a.run B2 C3 H' σ2 ρ2 _ _ _ _ T4 r3 (step k ρ2 μ2 _ (List.getElem?_eq_getElem hlt) hI) fun σ4 ρ4 T5 h4 => ?_
      refine b.run ⟨C3, B.H0, B.bx⟩ C3 H' σ4 ρ4 μ2 _ _ _ (back2 T5).1 h4 ⟨fun C5 H5 σ5 ρ5 μ5 z h5 => ?_, fun C5 H5 σ5 ρ5 μ5 v r ok h5 => m.rt _ _ _ _ _ v r (ok.keep fun z => (keep z).1) h5, fun C5 H5 σ5 ρ5 μ5 z h5 => m.nx _ _ _ _ _ (keep z).1 h5, fun C5 H5 σ5 ρ5 μ5 z h5 => ?_⟩ fun C5 H5 σ5 ρ5 μ5 cls dd c d z ex q => mx _ _ _ _ _ _ _ _ _ (keep z).1 ex q
      · obtain ⟨ρ6, μ6, z6, h6⟩ := (keep z).1.to h5
        exact ⟨C5, ρ6, μ6, z6, s2.trans (s3.trans (keep z).2), h6⟩
      · obtain ⟨ρ6, μ6, z6, h6⟩ := (keep z).1.to h5
        exact ⟨C5, ρ6, μ6, z6, s2.trans (s3.trans (keep z).2), h6⟩
    · have e : k = items.length := by omega
      subst e
      exact .inl ⟨stop, m.nx _ _ _ _ _ S2 (fin _ _ hI)⟩) mx
/-! the ways of an if joined -/
/-! raise C(e) -/
def wRaise3 (K : PySem.W.Frag) (C : Addr) (wa : WA3) : WS3 := fun ρ μ Φ Ξ => wa ρ μ (fun as ρ1 μ1 => match as with
  | [.d d] => ∃ c : Str, C = He.ga K c ∧ Ξ c d ρ1 μ1
  | _ => False) Ξ
instance (priority := 40) s3_raise {W : WX} {Cl : Addr} {ta : TA} {wa : WA3} [a : A3 K W ta wa] : S3 K W (tRaiseD Cl ta W) (wRaise3 K Cl wa) where
  run B C H σ ρ μ D Φ Ξ S h m mx := a.run B C H σ ρ μ _ _ _ S h (fun C1 H1 vs as ρ1 μ1 S1 s1 ok1 h1 => by
    cases ok1 with
    | nil => exact False.elim h1
    | @cons v vs x as o1 o2 =>
      cases x with
      | b i => cases as <;> exact False.elim h1
      | d x =>
        cases o2 with
        | cons _ _ => exact False.elim h1
        | nil =>
          obtain ⟨c, rfl, z⟩ := h1
          refine ⟨v, rfl, fun dd hd => ?_⟩
          obtain ⟨S2, s2⟩ := S1.alloc (o := .xd [(("what" : Str), v)]) hd
          exact mx _ _ _ _ _ _ _ _ _ S2 ⟨rfl, dd, v, rfl, upd_same, Rp.same o1 s2⟩ z) mx
/-! try .. except .. as .. -/
def wTry3 (K : PySem.W.Frag) (cv : Value) (wb : WS3) (wsu : Str → Dt → WS) : WS3 := fun ρ μ Φ _ => wb ρ μ Φ fun c d ρ1 μ1 => PySem.W.exmOne K (.ref (He.ga K c)) cv = some true ∧ wsu c d ρ1 ⟨fun ρ' => Φ.nx ρ' μ1, fun r ρ' => Φ.rt r ρ' μ1, fun ρ' => Φ.bk ρ' μ1, fun ρ' => Φ.ct ρ' μ1⟩
instance (priority := 40) s3_try {W : WX} {cv : Value} {i : Nat} {tb : WX → TS} {ts : Addr → Value → Option Addr → TS} {Wo : WX} {wb : WS3} {wsu : Str → Dt → WS} [a : ∀ W, S3 K W (tb W) wb] [su : Su K i ts wsu] : S3 K W (tTry K cv i tb ts Wo) (wTry3 K cv wb wsu) where
  run B C H σ ρ μ D Φ Ξ S h m mx := (a _).run B C H σ ρ μ D Φ _ S h m fun C' G σ' ρ' μ' cls dd c d S' ex z =>
    ⟨true, by rw [ex.1]; exact z.1, fun _ b hb => by
      obtain ⟨B1, S1, back, fr⟩ := S'.lift
      refine su.run B1 C' G σ' ρ' D _ b cls dd c d S1 hb ex z.2 ⟨fun C1 G σ1 ρ1 S2 z => m.nx _ _ _ _ _ (back S2).1 z, fun C1 G σ1 ρ1 v r S2 ok z => m.rt C1 G σ1 ρ1 μ' v r ?_ z, fun C1 G σ1 ρ1 S2 z => m.bk _ _ _ _ _ (back S2).1 z, fun C1 G σ1 ρ1 S2 z => m.ct _ _ _ _ _ (back S2).1 z⟩
      cases r with
      | dat d => exact ⟨(back S2).1, ok⟩
      | new ds =>
        obtain ⟨x, rfl, f⟩ := ok
        exact ⟨x, rfl, fr S2 f⟩, fun q => nomatch q⟩
/-! [e for x in it if t] -/
def noX3 : XE3 := fun _ _ _ _ => False
theorem noX3_ok {B : Bs} {W : WX} : MeetsX3 K B noX3 W := fun _ _ _ _ _ _ _ _ _ _ _ z => z.elim
def wLc3 (is : List Nat) (wi : WI3) (wg : WG) (wt : WT3) (we : WE3) (vs : List Nat) : WE3 := fun ρ μ Ψ Ξ => wi ρ μ (fun items ρ1 μ1 => (noBox ρ1 vs = true ∧ subB is vs = true) ∧ ∃ I : Nat → List Dt → List Sl → My → Prop, I 0 [] (wipeR ρ1 vs) μ1 ∧
  (∀ k acc ρ μ d, items[k]? = some d → I k acc ρ μ → wg d ρ fun ρ2 => wt ρ2 μ (fun b ρ3 μ3 => if b = true then we ρ3 μ3 (fun r ρ4 μ4 => noBox ρ4 vs = true ∧ acc.length < sizeLine ∧ I (k + 1) (acc ++ [r.val]) (wipeR ρ4 vs) μ4) noX3
    else noBox ρ3 vs = true ∧ I (k + 1) acc (wipeR ρ3 vs) μ3) noX3) ∧ ∀ acc ρ μ, I items.length acc ρ μ → noBox ρ vs = true ∧ Ψ (.new acc) (wipeR ρ vs) μ) Ξ
instance (priority := 40) e3_lc {W : WX} {ti : TI} {g : TG} {tt : TT} {te : TE} {vs is : List Nat} {wi : WI3} {wg : WG} {wt : WT3} {we : WE3} [i : I3 K W ti wi] [a : Sg K g wg] [s : Sw g is] [c : C3 K W tt wt] [b : E3 K W te we] : E3 K W (tLc ti g tt te vs) (wLc3 is wi wg wt we vs) where
  run B C H σ ρ μ Q Ψ Ξ S h kk mx := i.run B C H σ ρ μ _ _ _ S h (fun C1 H1 J items ρ1 μ1 S1 s1 hJ h1 => by
    obtain ⟨⟨nb1, sub⟩, I, i0, step, fin⟩ := h1
    intro D hD
    refine ⟨fun k n H2 => n = items.length - k ∧ k ≤ items.length ∧ ∃ C2 ρ2 μ2 acc, Sep3 K B C2 H2 (wipe σ vs) ρ2 ((D, .fl (.lst acc)) :: μ2) ∧ Same C1 C2 ∧ I k acc ρ2 μ2, ⟨_, rfl, Nat.zero_le _, C1, wipeR ρ1 vs, μ1, [], (S1.new hD .nil).swap nb1 (wipe2 vs), Same.refl _, i0⟩, ?_⟩
    rintro k n H2 ⟨rfl, hk, C2, ρ2, μ2, acc, S2, s2, hI⟩
    obtain ⟨B1, T2, back, _⟩ := S2.lift
    obtain ⟨go, stop, yld⟩ := hJ B1 C2 H2 _ ρ2 T2 s2
    by_cases hlt : k < items.length
    · refine .inr ⟨go k hlt, fun H3 => ∃ C3 ρ3 μ3 acc, Sep3 K B C3 H3 (wipe σ vs) ρ3 ((D, .fl (.lst acc)) :: μ3) ∧ Same C1 C3 ∧ I (k + 1) acc ρ3 μ3, fun H3 ⟨C3, ρ3, μ3, acc, q⟩ => ⟨items.length - (k + 1), by omega, rfl, hlt, C3, ρ3, μ3, acc, q⟩, fun x H' y => ?_⟩
      obtain ⟨C3, T3, s3, r3⟩ := yld k x H' items[k] (List.getElem?_eq_getElem hlt) y
      have st := step k acc ρ2 μ2 _ (List.getElem?_eq_getElem hlt) hI
      obtain ⟨o, hDo, okD, Sh, h0, c0, bx⟩ := (back T3).1.hold (fun c ns ds z => nomatch z)
      obtain ⟨B2, T4, back2, _⟩ := Sh.lift
      refine s.run _ _ _ _ _ (a.run B2 C3 H' _ ρ2 _ _ (fun σ4 H4 => ∃ ρ4, H4 = H' ∧ Sep K B2 C3 H' σ4 ρ4 ∧ wt ρ4 μ2 (fun b ρ3 μ3 => if b = true then we ρ3 μ3 (fun r ρ4 μ4 => noBox ρ4 vs = true ∧ acc.length < sizeLine ∧ I (k + 1) (acc ++ [r.val]) (wipeR ρ4 vs) μ4) noX3 else noBox ρ3 vs = true ∧ I (k + 1) acc (wipeR ρ3 vs) μ3) noX3) _ T4 r3 st fun σ4 ρ4 S4 h4 => ⟨ρ4, rfl, S4, h4⟩) fun σ4 H4 ⟨l4, o4⟩ ⟨ρ4, e4, S4, h4⟩ => ?_
      subst e4
      have w4 : wipe σ4 vs = wipe σ vs := (wipe_eq l4 o4 (subB_at sub)).trans (wipe2 vs)
      have w4' : wipe (wipe σ vs) vs = wipe σ4 vs := (wipe2 vs).trans w4.symm
      refine ⟨w4, c.run _ C3 _ σ4 ρ4 μ2 _ _ _ (back2 S4).1 h4 (fun C5 H5 e ρ5 μ5 S5 s5 h5 => ?_) noX3_ok⟩
      cases e with
      | false =>
        obtain ⟨n5, z5⟩ := h5
        obtain ⟨S6, _⟩ := S5.unhold h0 c0 bx (okD.same s5)
        exact ⟨C5, _, _, acc, S6.swap n5 w4', s2.trans (s3.trans s5), z5⟩
      | true =>
        refine b.run _ C5 H5 σ4 ρ5 μ5 _ _ _ S5 h5 (fun C6 H6 v6 r6 ρ6 μ6 ok6 s6 h6 => ?_) noX3_ok
        obtain ⟨C7, S7, s7, q7⟩ := ok6.cool
        obtain ⟨n6, z6, z7⟩ := h6
        have sx : Same C3 C7 := s5.trans (s6.trans s7)
        obtain ⟨S8, _⟩ := S7.unhold h0 c0 bx (okD.same sx)
        obtain ⟨ws, hw, rw6⟩ := S8.has (i := 0) rfl
        exact ⟨ws, hw, by rw [rw6.len]; exact z6, C7, _, _, acc ++ [r6.val], (S8.setL (i := 0) rfl (rw6.append (.cons q7 .nil))).swap n6 w4', s2.trans (s3.trans sx), z7⟩
    · have e : k = items.length := by omega
      subst e
      obtain ⟨nf, z⟩ := fin _ _ _ hI
      exact .inl ⟨stop, kk C2 H2 _ (.new acc) _ _ ⟨D, rfl, S2.swap nf (wipe2 vs).symm⟩ (s1.trans s2) z⟩) mx
/-! some hung thing grows cold -/
/-! ghosts: packs opened and closed ahead of a statement -/
def tGhost (t : TS) : TS := t
theorem psGhost {X : Cx} {s : Stmt} {t : TS} (h : PS X s t) : PS X s (tGhost t) := h
def wGhost (w : WS3) : WS3 := fun ρ μ Φ Ξ => ∃ μ', Ent μ μ' ∧ w ρ μ' Φ Ξ
instance (priority := 70) s3_ghost {W : WX} {t : TS} {w : WS3} [a : S3 K W t w] : S3 K W (tGhost t) (wGhost w) where
  run B C H σ ρ μ D Φ Ξ S h m mx := by
    obtain ⟨μ', en, h⟩ := h
    exact a.run B C H σ ρ μ' D Φ Ξ (S.ent en) h m mx

end
section
variable {P : Program} {w : World} {K : PySem.W.Frag} {mg : Str → Option Value} {base : Heap}
local macro_rules | `(tactic| get_elem_tactic_trivial) => `(tactic| (repeat first | exact Wk.nil | exact Wk'.nil | refine Wk.same ?_ | refine Wk'.same ?_ | refine Wk.un (fun _ z => nomatch z) ?_ | refine Wk'.un ?_))
/-! level 3: dicts -/
def getK : List Key → List Dt → Key → Option Dt
  | k :: ks, d :: ds, j => if k = j then some d else getK ks ds j
  | _, _, _ => none
def putKD (j : Key) (e : Dt) : List Key → List Dt → List Key × List Dt
  | k :: ks, d :: ds => if k = j then (k :: ks, e :: ds) else (k :: (putKD j e ks ds).1, d :: (putKD j e ks ds).2)
  | _, _ => ([j], [e])
def delK (j : Key) : List Key → List Dt → List Key × List Dt
  | k :: ks, d :: ds => if k = j then (ks, ds) else (k :: (delK j ks ds).1, d :: (delK j ks ds).2)
  | _, _ => ([], [])
def keyOf : Dt → Option Key
  | .int i => some (.inl i)
  | .str x => some (.inr x)
  | _ => none
theorem keyOf_ok {C : Hp} {v : V} {d : Dt} {k : Key} (r : Rp K C v d) (h : keyOf d = some k) : v = kV k := by
  cases d with
  | int i =>
    cases r
    cases h
    rfl
  | str x =>
    cases r
    cases h
    rfl
  | _ => cases h
theorem getK_ok {C : Hp} {j : Key} : ∀ {ks : List Key} {vs : List V} {ds : List Dt}, RpL K C vs ds → ks.length = vs.length → (∀ d, getK ks ds j = some d → ∃ v, valV (ks.zip vs) j = some v ∧ Rp K C v d) ∧ (getK ks ds j = none → valV (ks.zip vs) j = none)
  | [], _, _, .nil, _ => ⟨fun d h => (nomatch h), fun _ => rfl⟩
  | [], _, _, .cons _ _, h => by simp at h
  | k :: ks, _, _, .nil, h => by simp at h
  | k :: ks, v :: vs, d :: ds, .cons r t, h => by
    obtain ⟨i1, i2⟩ := getK_ok (j := j) t (ks := ks) (by simpa using h)
    by_cases q : k = j
    · refine ⟨fun e z => ?_, fun z => ?_⟩
      · unfold getK at z
        rw [if_pos q] at z
        cases z
        exact ⟨v, valV_pos (p := (k, v)) q, r⟩
      · unfold getK at z
        rw [if_pos q] at z
        cases z
    · refine ⟨fun e z => ?_, fun z => ?_⟩
      · unfold getK at z
        rw [if_neg q] at z
        obtain ⟨u, e1, e2⟩ := i1 e z
        exact ⟨u, by rw [List.zip_cons_cons, valV_neg (p := (k, v)) q]; exact e1, e2⟩
      · unfold getK at z
        rw [if_neg q] at z
        rw [List.zip_cons_cons, valV_neg (p := (k, v)) q]
        exact i2 z
theorem putK_cons {p : Key × V} {r : List (Key × V)} {j : Key} {v : V} (hn : ¬ p.1 ∈ r.map (·.1)) : putK (p :: r) j v = if p.1 = j then (p.1, v) :: r else p :: putK r j v := by
  by_cases q : p.1 = j
  · rw [if_pos q]
    unfold putK
    rw [List.any_cons, decide_eq_true q, Bool.true_or, if_pos rfl, List.map_cons, if_pos q]
    congr 1
    have : ∀ x ∈ r, (if x.1 = j then (x.1, v) else x) = x := fun x hx => if_neg fun z => hn (List.mem_map.mpr ⟨x, hx, z.trans q.symm⟩)
    exact (List.map_congr_left this).trans (List.map_id _)
  · rw [if_neg q]
    unfold putK
    rw [List.any_cons, decide_eq_false q, Bool.false_or]
    by_cases z : (r.any fun kv => decide (kv.1 = j)) = true
    · rw [if_pos z, if_pos z, List.map_cons, if_neg q]
    · rw [if_neg z, if_neg z]
      rfl
theorem putKD_mem {j : Key} {e : Dt} : ∀ {ks : List Key} {ds : List Dt} {x : Key}, x ∈ (putKD j e ks ds).1 → x ∈ ks ∨ x = j
  | [], ds, x, h => by
    unfold putKD at h
    exact .inr (List.mem_singleton.mp h)
  | k :: ks, [], x, h => by
    unfold putKD at h
    exact .inr (List.mem_singleton.mp h)
  | k :: ks, d :: ds, x, h => by
    unfold putKD at h
    split at h
    · exact .inl h
    · rcases List.mem_cons.mp h with z | z
      · exact .inl (z ▸ List.mem_cons_self ..)
      · exact (putKD_mem z).imp (List.mem_cons_of_mem _) id
theorem putKD_ok {C : Hp} {j : Key} {v : V} {e : Dt} (re : Rp K C v e) : ∀ {ks : List Key} {vs : List V} {ds : List Dt}, RpL K C vs ds → ks.length = vs.length → ks.Nodup → ∃ vs', putK (ks.zip vs) j v = (putKD j e ks ds).1.zip vs' ∧ (putKD j e ks ds).1.length = vs'.length ∧ (putKD j e ks ds).1.Nodup ∧ RpL K C vs' (putKD j e ks ds).2
  | [], _, _, .nil, _, _ => ⟨[v], rfl, rfl, by simp [putKD], .cons re .nil⟩
  | [], _, _, .cons _ _, h, _ => by simp at h
  | k :: ks, _, _, .nil, h, _ => by simp at h
  | k :: ks, u :: vs, d :: ds, .cons r t, h, n => by
    obtain ⟨n1, n2⟩ := List.nodup_cons.mp n
    have hl : ks.length = vs.length := by simpa using h
    have hk : (ks.zip vs).map (·.1) = ks := by rw [List.map_fst_zip]; omega
    have pc := putK_cons (p := (k, u)) (r := ks.zip vs) (j := j) (v := v) (by rw [hk]; exact n1)
    by_cases q : k = j
    · refine ⟨v :: vs, ?_, ?_, ?_, ?_⟩
      · unfold putKD
        rw [if_pos q, List.zip_cons_cons, pc, if_pos q]
        rfl
      · unfold putKD
        rw [if_pos q]
        exact h
      · unfold putKD
        rw [if_pos q]
        exact n
      · unfold putKD
        rw [if_pos q]
        exact .cons re t
    · obtain ⟨vs', e1, e2, e3, e4⟩ := putKD_ok re (j := j) t hl n2
      refine ⟨u :: vs', ?_, ?_, ?_, ?_⟩
      · unfold putKD
        rw [if_neg q, List.zip_cons_cons, pc, if_neg q, e1]
        rfl
      · unfold putKD
        rw [if_neg q]
        exact congrArg Nat.succ e2
      · unfold putKD
        rw [if_neg q]
        exact List.nodup_cons.mpr ⟨fun z => (putKD_mem z).elim n1 q, e3⟩
      · unfold putKD
        rw [if_neg q]
        exact .cons r e4
theorem delK_sub {j : Key} : ∀ {ks : List Key} {ds : List Dt} {x : Key}, x ∈ (delK j ks ds).1 → x ∈ ks
  | [], ds, x, h => by
    unfold delK at h
    exact h
  | k :: ks, [], x, h => by
    unfold delK at h
    cases h
  | k :: ks, d :: ds, x, h => by
    unfold delK at h
    split at h
    · exact List.mem_cons_of_mem _ h
    · rcases List.mem_cons.mp h with z | z
      · exact z ▸ List.mem_cons_self ..
      · exact List.mem_cons_of_mem _ (delK_sub z)
theorem delK_ok {C : Hp} {j : Key} : ∀ {ks : List Key} {vs : List V} {ds : List Dt}, RpL K C vs ds → ks.length = vs.length → ks.Nodup → ∃ vs', dropK (ks.zip vs) j = (delK j ks ds).1.zip vs' ∧ (delK j ks ds).1.length = vs'.length ∧ (delK j ks ds).1.Nodup ∧ RpL K C vs' (delK j ks ds).2
  | [], _, _, .nil, _, _ => ⟨[], rfl, rfl, .nil, .nil⟩
  | [], _, _, .cons _ _, h, _ => by simp at h
  | k :: ks, _, _, .nil, h, _ => by simp at h
  | k :: ks, u :: vs, d :: ds, .cons r t, h, n => by
    obtain ⟨n1, n2⟩ := List.nodup_cons.mp n
    have hl : ks.length = vs.length := by simpa using h
    have hk : (ks.zip vs).map (·.1) = ks := by rw [List.map_fst_zip]; omega
    by_cases q : k = j
    · refine ⟨vs, ?_, ?_, ?_, ?_⟩
      · unfold delK
        rw [if_pos q, List.zip_cons_cons, dropK_pos (p := (k, u)) q]
        exact dropK_no (by rw [hk, ← q]; exact n1)
      · unfold delK
        rw [if_pos q]
        exact hl
      · unfold delK
        rw [if_pos q]
        exact n2
      · unfold delK
        rw [if_pos q]
        exact t
    · obtain ⟨vs', e1, e2, e3, e4⟩ := delK_ok (j := j) t hl n2
      refine ⟨u :: vs', ?_, ?_, ?_, ?_⟩
      · unfold delK
        rw [if_neg q, List.zip_cons_cons, dropK_neg (p := (k, u)) q, e1]
        rfl
      · unfold delK
        rw [if_neg q]
        exact congrArg Nat.succ e2
      · unfold delK
        rw [if_neg q]
        exact List.nodup_cons.mpr ⟨fun z => n1 (delK_sub z), e3⟩
      · unfold delK
        rw [if_neg q]
        exact .cons r e4
def mrgK (ks : List Key) (ds : List Dt) : List Key → List Dt → List Key × List Dt
  | k :: js, e :: es => mrgK (putKD k e ks ds).1 (putKD k e ks ds).2 js es
  | _, _ => (ks, ds)
theorem mrgK_ok {C : Hp} : ∀ {js : List Key} {ws : List V} {es : List Dt} {ks : List Key} {vs : List V} {ds : List Dt}, RpL K C ws es → js.length = ws.length → RpL K C vs ds → ks.length = vs.length → ks.Nodup → ∃ vs', mergeK (ks.zip vs) (js.zip ws) = (mrgK ks ds js es).1.zip vs' ∧ (mrgK ks ds js es).1.length = vs'.length ∧ (mrgK ks ds js es).1.Nodup ∧ RpL K C vs' (mrgK ks ds js es).2
  | [], _, _, ks, vs, ds, .nil, _, r, l, n => ⟨vs, rfl, l, n, r⟩
  | [], _, _, _, _, _, .cons _ _, h, _, _, _ => by simp at h
  | k :: js, _, _, _, _, _, .nil, h, _, _, _ => by simp at h
  | k :: js, w :: ws, e :: es, ks, vs, ds, .cons a t, h, r, l, n => by
    obtain ⟨vs1, e1, e2, e3, e4⟩ := putKD_ok (j := k) a r l n
    obtain ⟨vs2, f1, f2, f3, f4⟩ := mrgK_ok (js := js) t (by simpa using h) e4 e2 e3
    refine ⟨vs2, ?_, f2, f3, f4⟩
    show mergeK (putK (ks.zip vs) k w) (js.zip ws) = _
    rw [e1]
    exact f1
/-- what is seen as a dict: one that is hung, or a cold one -/
def dvM (μ : My) (d : Dt) (ks : List Key) (ds : List Dt) : Prop := d = .dic ks ds ∨ ∃ (a : Addr) (i : Nat), d = .adr a ∧ (μ[i]? = some (a, Ob.fl (.dic ks ds)) ∨ ∃ o vs, μ[i]? = some (a, Ob.fl (.lck ks ds o vs)))
theorem dvM.hung {μ : My} {a : Addr} {ks : List Key} {ds : List Dt} (i : Nat) (h : μ[i]? = some (a, Ob.fl (.dic ks ds))) : dvM μ (.adr a) ks ds := .inr ⟨a, i, rfl, .inl h⟩
theorem dvM.locked {μ : My} {a : Addr} {ks : List Key} {ds : List Dt} {o : Obj} {vs : List V} (i : Nat) (h : μ[i]? = some (a, Ob.fl (.lck ks ds o vs))) : dvM μ (.adr a) ks ds := .inr ⟨a, i, rfl, .inr ⟨o, vs, h⟩⟩
theorem dvM.run {B : Bs} {C H : Hp} {σ : L2.St} {ρ : List Sl} {μ : My} {v : V} {d : Dt} {ks : List Key} {ds : List Dt} (S : Sep3 K B C H σ ρ μ) (r : Rp K C v d) (h : dvM μ d ks ds) : ∃ a vs, v = .ref a ∧ Rd H a (.dK (ks.zip vs)) ∧ ks.length = vs.length ∧ ks.Nodup ∧ RpL K C vs ds := by
  rcases h with rfl | ⟨a, i, rfl, h⟩
  · cases r with
    | @dic a _ vs _ e l n rl => exact ⟨a, vs, rfl, e.imp (S.sep.cold _ _) fun ⟨o, q⟩ => ⟨o, S.sep.cold _ _ q⟩, l, n, rl⟩
  · cases r
    rcases h with h | h
    · obtain ⟨vs, e, l, n, rl⟩ := S.has h
      exact ⟨a, vs, rfl, .inl e, l, n, rl⟩
    · obtain ⟨o, vs, h⟩ := h
      obtain ⟨e, l, n, rl⟩ := S.has h
      exact ⟨a, vs, rfl, .inr ⟨o, e⟩, l, n, rl⟩
def wDGet3 (wo wi : WE3) : WE3 := fun ρ μ Ψ Ξ => wo ρ μ (fun r1 ρ1 μ1 => wi ρ1 μ1 (fun r2 ρ2 μ2 => ∃ ks ds k e, dvM μ2 r1.val ks ds ∧ keyOf r2.val = some k ∧ getK ks ds k = some e ∧ Ψ (.dat e) ρ2 μ2) Ξ) Ξ
instance (priority := 40) e3_dget {W : WX} {td ty : TE} {wo wi : WE3} [a : E3 K W td wo] [b : E3 K W ty wi] : E3 K W (tDGet td ty) (wDGet3 wo wi) where
  run B C H σ ρ μ Q Ψ Ξ S h k mx := a.run B C H σ ρ μ _ _ _ S h (fun C1 H1 v1 r1 ρ1 μ1 ok1 s1 h1 => by
    obtain ⟨C1', S1, s1', q1⟩ := ok1.cool
    refine b.run B C1' H1 σ ρ1 μ1 _ _ _ S1 h1 (fun C2 H2 v2 r2 ρ2 μ2 ok2 s2 h2 => ?_) mx
    obtain ⟨C2', S2, s2', q2⟩ := ok2.cool
    obtain ⟨ks, ds, kk, e, dv, hk, hg, z⟩ := h2
    obtain ⟨x, vs, rfl, rd, l, n, rl⟩ := dv.run S2 (q1.same (s2.trans s2'))
    obtain ⟨v, hv, rv⟩ := (getK_ok rl l).1 e hg
    exact ⟨x, v, rfl, .inl ⟨_, kk, rd, keyOf_ok q2 hk, hv.symm⟩, k _ _ _ (.dat e) _ _ ⟨S2, rv⟩ ((s1.trans s1').trans (s2.trans s2')) z⟩) mx
def wDIn3 (neg : Bool) (wi wo : WE3) : WE3 := fun ρ μ Ψ Ξ => wi ρ μ (fun r2 ρ1 μ1 => wo ρ1 μ1 (fun r1 ρ2 μ2 => ∃ ks ds k, dvM μ2 r1.val ks ds ∧ keyOf r2.val = some k ∧ Ψ (.dat (.bl (if neg then !(getK ks ds k).isSome else (getK ks ds k).isSome))) ρ2 μ2) Ξ) Ξ
theorem getK_some {C : Hp} {j : Key} {ks : List Key} {vs : List V} {ds : List Dt} (r : RpL K C vs ds) (l : ks.length = vs.length) : (valV (ks.zip vs) j).isSome = (getK ks ds j).isSome := by
  obtain ⟨i1, i2⟩ := getK_ok (j := j) r l
  cases q : getK ks ds j with
  | none => rw [i2 q]; rfl
  | some d =>
    obtain ⟨v, e, _⟩ := i1 d q
    rw [e]
    rfl
instance (priority := 40) e3_din {W : WX} {td ty : TE} {wo wi : WE3} [b : E3 K W ty wi] [a : E3 K W td wo] : E3 K W (tDIn ty td) (wDIn3 false wi wo) where
  run B C H σ ρ μ Q Ψ Ξ S h k mx := b.run B C H σ ρ μ _ _ _ S h (fun C1 H1 v1 r1 ρ1 μ1 ok1 s1 h1 => by
    obtain ⟨C1', S1, s1', q1⟩ := ok1.cool
    refine a.run B C1' H1 σ ρ1 μ1 _ _ _ S1 h1 (fun C2 H2 v2 r2 ρ2 μ2 ok2 s2 h2 => ?_) mx
    obtain ⟨C2', S2, s2', q2⟩ := ok2.cool
    obtain ⟨ks, ds, kk, dv, hk, z⟩ := h2
    obtain ⟨x, vs, rfl, rd, l, n, rl⟩ := dv.run S2 q2
    refine ⟨x, valV (ks.zip vs) kk, rfl, .inl ⟨_, kk, rd, keyOf_ok q1 hk, rfl⟩, ?_⟩
    rw [getK_some rl l]
    exact k _ _ _ (.dat (.bl _)) _ _ ⟨S2, .bl _⟩ ((s1.trans s1').trans (s2.trans s2')) z) mx
instance (priority := 40) e3_dnotin {W : WX} {td ty : TE} {wo wi : WE3} [b : E3 K W ty wi] [a : E3 K W td wo] : E3 K W (tDNotIn ty td) (wDIn3 true wi wo) where
  run B C H σ ρ μ Q Ψ Ξ S h k mx := b.run B C H σ ρ μ _ _ _ S h (fun C1 H1 v1 r1 ρ1 μ1 ok1 s1 h1 => by
    obtain ⟨C1', S1, s1', q1⟩ := ok1.cool
    refine a.run B C1' H1 σ ρ1 μ1 _ _ _ S1 h1 (fun C2 H2 v2 r2 ρ2 μ2 ok2 s2 h2 => ?_) mx
    obtain ⟨C2', S2, s2', q2⟩ := ok2.cool
    obtain ⟨ks, ds, kk, dv, hk, z⟩ := h2
    obtain ⟨x, vs, rfl, rd, l, n, rl⟩ := dv.run S2 q2
    refine ⟨x, valV (ks.zip vs) kk, rfl, .inl ⟨_, kk, rd, keyOf_ok q1 hk, rfl⟩, ?_⟩
    rw [getK_some rl l]
    exact k _ _ _ (.dat (.bl _)) _ _ ⟨S2, .bl _⟩ ((s1.trans s1').trans (s2.trans s2')) z) mx
/-- d.pop(k) -/
def wDPop3 (wo wi : WE3) : WE3 := fun ρ μ Ψ Ξ => wo ρ μ (fun r1 ρ1 μ1 => (∃ ks ds, dvM μ1 r1.val ks ds) ∧ wi ρ1 μ1 (fun r2 ρ2 μ2 => ∃ (a : Addr) (i : Nat) (ks : List Key) (ds : List Dt) (k : Key) (e : Dt), r1.val = .adr a ∧ μ2[i]? = some (a, Ob.fl (.dic ks ds)) ∧ keyOf r2.val = some k ∧ getK ks ds k = some e ∧ ∃ ks' ds', delK k ks ds = (ks', ds') ∧ Ψ (.dat e) ρ2 (μ2.set i (a, Ob.fl (.dic ks' ds')))) Ξ) Ξ
theorem Sep3.setD {B : Bs} {C H : Hp} {σ : L2.St} {ρ : List Sl} {μ : My} {a : Addr} {i : Nat} {ks ks' : List Key} {ds ds' : List Dt} {vs' : List V} (S : Sep3 K B C H σ ρ μ) (hi : μ[i]? = some (a, Ob.fl (.dic ks ds))) (l : ks'.length = vs'.length) (n : ks'.Nodup) (r : RpL K C vs' ds') : Sep3 K B C (upd H a (.dK (ks'.zip vs'))) σ ρ (μ.set i (a, Ob.fl (.dic ks' ds'))) := S.set hi fun U1 _ _ => ⟨vs', upd_same, l, n, r⟩
instance (priority := 40) e3_dpop1 {W : WX} {td ty : TE} {wo wi : WE3} [a : E3 K W td wo] [b : E3 K W ty wi] : E3 K W (tDPop1 td ty) (wDPop3 wo wi) where
  run B C H σ ρ μ Q Ψ Ξ S h k mx := a.run B C H σ ρ μ _ _ _ S h (fun C1 H1 v1 r1 ρ1 μ1 ok1 s1 h1 => by
    obtain ⟨C1', S1, s1', q1⟩ := ok1.cool
    obtain ⟨⟨ks0, ds0, dv0⟩, h1⟩ := h1
    obtain ⟨x0, vs0, e0, rd0, _, _, _⟩ := dv0.run S1 q1
    subst e0
    refine ⟨x0, rfl, .inl ⟨_, rd0⟩, b.run B C1' H1 σ ρ1 μ1 _ _ _ S1 h1 (fun C2 H2 v2 r2 ρ2 μ2 ok2 s2 h2 => ?_) mx⟩
    obtain ⟨C2', S2, s2', q2⟩ := ok2.cool
    obtain ⟨x, i, ks, ds, kk, e, er, hi, hk, hg, ks', ds', ed, z⟩ := h2
    rw [er] at q1
    cases q1
    obtain ⟨vs, hx, l, n, rl⟩ := S2.has hi
    obtain ⟨v, hv, rv⟩ := (getK_ok rl l).1 e hg
    obtain ⟨vs', f1, f2, f3, f4⟩ := delK_ok (j := kk) rl l n
    rw [ed] at f1 f2 f3 f4
    refine ⟨_, kk, v, hx, keyOf_ok q2 hk, hv, ?_⟩
    rw [f1]
    exact k _ _ _ (.dat e) _ _ ⟨S2.setD hi f2 f3 f4, rv⟩ ((s1.trans s1').trans (s2.trans s2')) z) mx
/-- del d[k] -/
def wDDel3 (wo wi : WE3) : WS3 := fun ρ μ Φ Ξ => wo ρ μ (fun r1 ρ1 μ1 => wi ρ1 μ1 (fun r2 ρ2 μ2 => ∃ (a : Addr) (i : Nat) (ks : List Key) (ds : List Dt) (k : Key), r1.val = .adr a ∧ μ2[i]? = some (a, Ob.fl (.dic ks ds)) ∧ keyOf r2.val = some k ∧ (getK ks ds k).isSome = true ∧ ∃ ks' ds', delK k ks ds = (ks', ds') ∧ Φ.nx ρ2 (μ2.set i (a, Ob.fl (.dic ks' ds')))) Ξ) Ξ
instance (priority := 40) s3_ddel {W : WX} {td ty : TE} {wo wi : WE3} [a : E3 K W td wo] [b : E3 K W ty wi] : S3 K W (sDDel td ty) (wDDel3 wo wi) where
  run B C H σ ρ μ D Φ Ξ S h m mx := a.run B C H σ ρ μ _ _ _ S h (fun C1 H1 v1 r1 ρ1 μ1 ok1 s1 h1 => by
    obtain ⟨C1', S1, s1', q1⟩ := ok1.cool
    refine b.run B C1' H1 σ ρ1 μ1 _ _ _ S1 h1 (fun C2 H2 v2 r2 ρ2 μ2 ok2 s2 h2 => ?_) mx
    obtain ⟨C2', S2, s2', q2⟩ := ok2.cool
    obtain ⟨x, i, ks, ds, kk, er, hi, hk, hg, ks', ds', ed, z⟩ := h2
    rw [er] at q1
    cases q1
    obtain ⟨vs, hx, l, n, rl⟩ := S2.has hi
    obtain ⟨vs', f1, f2, f3, f4⟩ := delK_ok (j := kk) rl l n
    rw [ed] at f1 f2 f3 f4
    refine ⟨x, _, kk, rfl, hx, keyOf_ok q2 hk, by rw [getK_some rl l]; exact hg, ?_⟩
    rw [f1]
    exact m.nx _ _ _ _ _ (S2.setD hi f2 f3 f4) z) mx
/-- d[k] = v -/
def wSubD (wo wi : WE3) : WG3 := fun d ρ μ Ψ Ξ => wo ρ μ (fun r1 ρ1 μ1 => wi ρ1 μ1 (fun r2 ρ2 μ2 => ∃ (a : Addr) (i : Nat) (ks : List Key) (ds : List Dt) (k : Key), r1.val = .adr a ∧ μ2[i]? = some (a, Ob.fl (.dic ks ds)) ∧ keyOf r2.val = some k ∧ ks.length < sizeLine ∧ ∃ ks' ds', putKD k d ks ds = (ks', ds') ∧ Ψ ρ2 (μ2.set i (a, Ob.fl (.dic ks' ds')))) Ξ) Ξ
instance (priority := 40) g3_subD {W : WX} {to ti : TE} {wo wi : WE3} [a : E3 K W to wo] [b : E3 K W ti wi] : G3 K W (gSub to ti rSetD) (wSubD wo wi) where
  run B C H σ ρ μ v d Q Ψ Ξ S r h k mx := a.run B C H σ ρ μ _ _ _ S h (fun C1 H1 v1 r1 ρ1 μ1 ok1 s1 h1 => by
    obtain ⟨C1', S1, s1', q1⟩ := ok1.cool
    refine b.run B C1' H1 σ ρ1 μ1 _ _ _ S1 h1 (fun C2 H2 v2 r2 ρ2 μ2 ok2 s2 h2 => ?_) mx
    obtain ⟨C2', S2, s2', q2⟩ := ok2.cool
    obtain ⟨x, i, ks, ds, kk, er, hi, hk, hz, ks', ds', ed, z⟩ := h2
    rw [er] at q1
    cases q1
    obtain ⟨vs, hx, l, n, rl⟩ := S2.has hi
    have sx := (s1.trans s1').trans (s2.trans s2')
    obtain ⟨vs', f1, f2, f3, f4⟩ := putKD_ok (j := kk) (r.same sx) rl l n
    rw [ed] at f1 f2 f3 f4
    refine (show ∃ a H', V.ref x = .ref a ∧ DPut H2 a v2 v H' ∧ Q σ H' from ⟨x, _, rfl, .inl ⟨_, kk, hx, keyOf_ok q2 hk, ?_, rfl⟩, ?_⟩)
    · rw [List.length_zip]
      omega
    · rw [f1]
      exact k _ _ _ _ _ (S2.setD hi f2 f3 f4) sx z) mx
/-! {..}, {k: v, ..} -/
def wDNew3 : WE3 := fun ρ μ Ψ _ => ∀ a, Ψ (.dat (.adr a)) ρ ((a, Ob.fl (.dic [] [])) :: μ)
theorem Sep3.newD {B : Bs} {C H : Hp} {σ : L2.St} {ρ : List Sl} {μ : My} {p : Addr} {ks : List Key} {vs : List V} {ds : List Dt} (S : Sep3 K B C H σ ρ μ) (hp : H p = none) (l : ks.length = vs.length) (n : ks.Nodup) (r : RpL K C vs ds) : Sep3 K B C (upd H p (.dK (ks.zip vs))) σ ρ ((p, Ob.fl (.dic ks ds)) :: μ) := S.newU hp ⟨vs, oneU_at, l, n, r⟩
instance (priority := 40) e3_dnew {W : WX} : E3 K W tDNewK wDNew3 where
  run B C H σ ρ μ Q Ψ Ξ S h k mx := fun p hp => k _ _ _ (.dat (.adr p)) _ _ ⟨S.newD hp rfl .nil .nil, .adr p⟩ (Same.refl _) (h p)
abbrev WP3 := List Sl → My → (List Key → List Dt → List Sl → My → Prop) → XE3 → Prop
class P3 (K : PySem.W.Frag) (W : WX) (t : List (TE × TE)) (w : outParam WP3) : Prop where
  run : ∀ (B : Bs) (C H : Hp) (σ : L2.St) (ρ : List Sl) (μ : My) (Q : List (V × V) → Hp → Prop) (Ψ : List Key → List Dt → List Sl → My → Prop) (Ξ : XE3), Sep3 K B C H σ ρ μ → w ρ μ Ψ Ξ → (∀ C' G vs ks ds ρ' μ', Sep3 K B C' G σ ρ' μ' → Same C C' → RpL K C' vs ds → ks.length = vs.length → Ψ ks ds ρ' μ' → Q ((ks.map kV).zip vs) G) → MeetsX3 K B Ξ W → tPairs t σ H Q
def wPN : WP3 := fun ρ μ Ψ _ => Ψ [] [] ρ μ
def wPC (wk wv : WE3) (wr : WP3) : WP3 := fun ρ μ Ψ Ξ => wk ρ μ (fun r1 ρ1 μ1 => wv ρ1 μ1 (fun r2 ρ2 μ2 => wr ρ2 μ2 (fun ks ds ρ3 μ3 => ∃ k, keyOf r1.val = some k ∧ Ψ (k :: ks) (r2.val :: ds) ρ3 μ3) Ξ) Ξ) Ξ
instance p3_nil {W : WX} : P3 K W [] wPN where run B C H σ ρ μ Q Ψ Ξ S h k mx := k _ _ [] [] [] _ _ S (Same.refl _) .nil rfl h
instance p3_cons {W : WX} {tk tv : TE} {tr : List (TE × TE)} {wk wv : WE3} {wr : WP3} [a : E3 K W tk wk] [b : E3 K W tv wv] [c : P3 K W tr wr] : P3 K W ((tk, tv) :: tr) (wPC wk wv wr) where
  run B C H σ ρ μ Q Ψ Ξ S h k mx := a.run B C H σ ρ μ _ _ _ S h (fun C1 H1 v1 r1 ρ1 μ1 ok1 s1 h1 => by
    obtain ⟨C1', S1, s1', q1⟩ := ok1.cool
    refine b.run B C1' H1 σ ρ1 μ1 _ _ _ S1 h1 (fun C2 H2 v2 r2 ρ2 μ2 ok2 s2 h2 => ?_) mx
    obtain ⟨C2', S2, s2', q2⟩ := ok2.cool
    refine c.run B C2' H2 σ ρ2 μ2 _ _ _ S2 h2 (fun C3 H3 vs ks ds ρ3 μ3 S3 s3 rl l h3 => ?_) mx
    obtain ⟨kk, hk, z⟩ := h3
    have := k C3 H3 (v2 :: vs) (kk :: ks) (r2.val :: ds) ρ3 μ3 S3 ((s1.trans s1').trans ((s2.trans s2').trans s3)) (.cons (q2.same s3) rl) (congrArg Nat.succ l) z
    rw [List.map_cons, List.zip_cons_cons, ← keyOf_ok q1 hk] at this
    exact this) mx
def wDisp3 (wp : WP3) : WE3 := fun ρ μ Ψ Ξ => wp ρ μ (fun ks ds ρ1 μ1 => ks.length ≤ 15 ∧ ∃ ks' ds', mrgK [] [] ks ds = (ks', ds') ∧ ∀ a, Ψ (.dat (.adr a)) ρ1 ((a, Ob.fl (.dic ks' ds')) :: μ1)) Ξ
theorem emptyD {C C' U : Hp} {p : Addr} (h : FlOk K C U p (.dic [] [])) : FlOk K C' U p (.dic [] []) := by
  obtain ⟨vs, e, l, n, r⟩ := h
  cases r
  exact ⟨[], e, rfl, .nil, .nil⟩
theorem zip_kv : ∀ {ks : List Key} {vs : List V}, ks.length = vs.length → (ks.map kV).zip vs = (ks.zip vs).map fun kv => (kV kv.1, kv.2)
  | [], [], _ => rfl
  | [], _ :: _, h => by simp at h
  | _ :: _, [], h => by simp at h
  | k :: ks, v :: vs, h => by
    rw [List.map_cons, List.zip_cons_cons, List.zip_cons_cons, List.map_cons, zip_kv (by simpa using h)]
instance (priority := 40) e3_disp {W : WX} {trs : List (TE × TE)} {wp : WP3} [a : P3 K W trs wp] : E3 K W (tDisp trs) (wDisp3 wp) where
  run B C H σ ρ μ Q Ψ Ξ S h k mx := fun p hp => by
    have S0 := S.newD (ks := []) (vs := []) (ds := []) hp rfl .nil .nil
    obtain ⟨o, ho, ok, Sh, h0, c0, bx⟩ := S0.hold (fun c ns ds z => nomatch z)
    refine a.run (B.hold p o) C _ σ ρ μ _ _ Ξ Sh h (fun C1 H1 vs ks ds ρ1 μ1 S1 s1 rl l h1 => ?_) fun C1 H1 σ1 ρ1 μ1 cls dd c d S1 ex z => ?_
    · obtain ⟨l15, ks', ds', em, z⟩ := h1
      obtain ⟨S2, hH⟩ := S1.unhold (f := .dic [] []) h0 c0 bx (emptyD ok)
      obtain ⟨vs0, e0, l0, _, _⟩ := S2.has (i := 0) rfl
      obtain ⟨vs', f1, f2, f3, f4⟩ := mrgK_ok (ks := []) (vs := []) (ds := []) rl l .nil rfl .nil
      rw [em] at f1 f2 f3 f4
      refine ⟨e0, ks.zip vs, zip_kv l, by rw [List.length_zip]; omega, ?_⟩
      have f1' : mergeK [] (ks.zip vs) = ks'.zip vs' := f1
      rw [f1']
      exact k _ _ _ (.dat (.adr p)) _ _ ⟨S2.setD (i := 0) rfl f2 f3 f4, .adr p⟩ s1 (z p)
    · obtain ⟨S2, _⟩ := S1.unhold (f := .dic [] []) h0 c0 bx (emptyD ok)
      exact mx _ _ _ _ _ _ _ _ _ (S2.ent Ent.tail) ex z

end
section
variable {P : Program} {w : World} {K : PySem.W.Frag} {mg : Str → Option Value} {base : Heap}
local macro_rules | `(tactic| get_elem_tactic_trivial) => `(tactic| (repeat first | exact Wk.nil | exact Wk'.nil | refine Wk.same ?_ | refine Wk'.same ?_ | refine Wk.un (fun _ z => nomatch z) ?_ | refine Wk'.un ?_))
/-! level 3: packs -/
theorem Ent.pack {is : List Nat} {μ r : My} {I : Addr → Fm → Prop} {a : Addr} {m : Fm} (h : I a m) (e : picks is μ = some (flat m, r)) : Ent μ ((a, .pk I) :: r) := (Ent.pick e).trans (Ent.close h)
theorem Ent.pack1 {is : List Nat} {μ r : My} {I : Addr → Fm → Prop} {a : Addr} {m : Fm} (h : I a m) (e : picks is μ = some (flat m, r)) : Ent μ [(a, .pk I)] := (Ent.pack h e).trans (Ent.left (μ1 := [_]))
theorem Ent.keep {is : List Nat} {μ μ1 r : My} (e : picks is μ = some (μ1, r)) : Ent μ μ1 := (Ent.pick e).trans Ent.left
theorem Ent.nil {μ : My} : Ent μ [] := Ent.drop (r := μ) (.refl _)
theorem Ent.app0 {μ : My} : Ent μ (μ ++ []) := by
  rw [List.append_nil]
  exact Ent.refl _
/-! a pack opened ahead of a statement -/
def tOpen (t : TS) : TS := t
theorem psOpen {X : Cx} {s : Stmt} {t : TS} (h : PS X s t) : PS X s (tOpen t) := h
def wOpen (w : WS3) : WS3 := fun ρ μ Φ Ξ => ∃ (a : Addr) (I : Addr → Fm → Prop) (μ' : My), Ent μ ((a, .pk I) :: μ') ∧ ∀ m, I a m → w ρ (flat m ++ μ') Φ Ξ
instance (priority := 70) s3_open {W : WX} {t : TS} {w : WS3} [a : S3 K W t w] : S3 K W (tOpen t) (wOpen w) where
  run B C H σ ρ μ D Φ Ξ S h m mx := by
    obtain ⟨x, I, μ', en, h⟩ := h
    obtain ⟨m0, i0, S1⟩ := (S.ent en).open_
    exact a.run B C H σ ρ _ D Φ Ξ S1 (h m0 i0) m mx
/-! what is seen as it stands -/
/-! for x in a list that is hung: it is held meanwhile -/
/-! dicts as values -/
def rLenD : List V → Hp → VK → Prop := fun xs H Q => ∃ a kvs, xs = [V.ref a] ∧ H a = some (.dK kvs) ∧ Q (.int kvs.length) H
def rListK : List V → Hp → VK → Prop := fun xs H Q => ∃ (a : Addr) (kvs : List (Key × V)), xs = [.ref a] ∧ Rd H a (.dK kvs) ∧ ∀ p, H p = none → Q (.ref p) (upd H p (.lst (kvs.map fun kv => kV kv.1)))
def rSortK : List V → Hp → VK → Prop := fun xs H Q => ∃ (a : Addr) (kvs : List (Key × V)) (ks : List Str), xs = [.ref a] ∧ Rd H a (.dK kvs) ∧ kvs.map (·.1) = ks.map Sum.inr ∧ ks.length < 64 ∧ ∀ ys p, ys.Perm ks → sortedS ys = true → H p = none → Q (.ref p) (upd H p (.lst (ys.map V.str)))
theorem cr_lenD {X : Cx} : CallR X (.builtin "len") rLenD := call_lenD
theorem cr_listK {X : Cx} (hc : X.calm = true) : CallR X (.type "list") rListK := call_listD hc
theorem cr_sortK {X : Cx} (hc : X.calm = true) : CallR X (.builtin "sorted") rSortK := call_sortedD hc
def wLenD (w : WE3) : WE3 := fun ρ μ Ψ Ξ => w ρ μ (fun r ρ1 μ1 => ∃ (a : Addr) (i : Nat) (ks : List Key) (ds : List Dt), r.val = .adr a ∧ μ1[i]? = some (a, Ob.fl (.dic ks ds)) ∧ Ψ (.dat (.int ks.length)) ρ1 μ1) Ξ
instance (priority := 45) e3_lenD {W : WX} {te : TE} {w : WE3} [a : E3 K W te w] : E3 K W (tCB rLenD (tCons te tNil)) (wLenD w) where
  run B C H σ ρ μ Q Ψ Ξ S h k mx := a.run B C H σ ρ μ _ _ _ S h (fun C1 H1 v r ρ1 μ1 ok s1 z => by
    obtain ⟨C2, S2, s2, q⟩ := ok.cool
    obtain ⟨x, i, ks, ds, e, hi, z⟩ := z
    rw [e] at q
    cases q
    obtain ⟨vs, hx, l, n, rl⟩ := S2.has hi
    refine ⟨x, _, rfl, hx, ?_⟩
    rw [List.length_zip, ← l, Nat.min_self]
    exact k _ _ _ (.dat (.int _)) _ _ ⟨S2, .int _⟩ (s1.trans s2) z) mx
def kD : Key → Dt
  | .inl i => .int i
  | .inr x => .str x
theorem rp_keys {C : Hp} : ∀ ks : List Key, RpL K C (ks.map kV) (ks.map kD)
  | [] => .nil
  | .inl i :: ks => .cons (.int i) (rp_keys ks)
  | .inr x :: ks => .cons (.str x) (rp_keys ks)
def wListK (w : WE3) : WE3 := fun ρ μ Ψ Ξ => w ρ μ (fun r ρ1 μ1 => ∃ ks ds, dvM μ1 r.val ks ds ∧ Ψ (.new (ks.map kD)) ρ1 μ1) Ξ
theorem map_fstV : ∀ {ks : List Key} {vs : List V}, ks.length = vs.length → (ks.zip vs).map (fun kv => kV kv.1) = ks.map kV
  | [], [], _ => rfl
  | [], _ :: _, h => by simp at h
  | _ :: _, [], h => by simp at h
  | k :: ks, v :: vs, h => by
    rw [List.zip_cons_cons, List.map_cons, List.map_cons, map_fstV (by simpa using h)]
instance (priority := 45) e3_listK {W : WX} {te : TE} {w : WE3} [a : E3 K W te w] : E3 K W (tCB rListK (tCons te tNil)) (wListK w) where
  run B C H σ ρ μ Q Ψ Ξ S h k mx := a.run B C H σ ρ μ _ _ _ S h (fun C1 H1 v r ρ1 μ1 ok s1 z => by
    obtain ⟨C2, S2, s2, q⟩ := ok.cool
    obtain ⟨ks, ds, dv, z⟩ := z
    obtain ⟨x, vs, rfl, rd, l, n, rl⟩ := dv.run S2 q
    refine ⟨x, _, rfl, rd, fun p hp => ?_⟩
    rw [map_fstV l]
    exact k _ _ _ (.new _) _ _ ⟨p, rfl, S2.new hp (rp_keys ks)⟩ (s1.trans s2) z) mx
def wSortK (w : WE3) : WE3 := fun ρ μ Ψ Ξ => w ρ μ (fun r ρ1 μ1 => ∃ ks ds xs, dvM μ1 r.val ks ds ∧ ks = xs.map Sum.inr ∧ ks.length < 64 ∧ ∀ ys : List Str, ys.Perm xs → sortedS ys = true → Ψ (.new (ys.map .str)) ρ1 μ1) Ξ
instance (priority := 45) e3_sortK {W : WX} {te : TE} {w : WE3} [a : E3 K W te w] : E3 K W (tCB rSortK (tCons te tNil)) (wSortK w) where
  run B C H σ ρ μ Q Ψ Ξ S h k mx := a.run B C H σ ρ μ _ _ _ S h (fun C1 H1 v r ρ1 μ1 ok s1 z => by
    obtain ⟨C2, S2, s2, q⟩ := ok.cool
    obtain ⟨ks, ds, xs, dv, e, lt, z⟩ := z
    obtain ⟨x, vs, rfl, rd, l, n, rl⟩ := dv.run S2 q
    refine ⟨x, _, xs, rfl, rd, by rw [List.map_fst_zip (by omega)]; exact e, by rw [e, List.length_map] at lt; exact lt, fun ys p py sy hp => ?_⟩
    exact k _ _ _ (.new _) _ _ ⟨p, rfl, S2.new hp (rp_strs ys)⟩ (s1.trans s2) (z ys py sy)) mx
/-! d.update(e) -/
def rDUpd : V → List V → Hp → VK → Prop := fun x vs H Q => ∃ (a b : Addr) (kvs more : List (Key × V)), x = .ref a ∧ vs = [.ref b] ∧ H a = some (.dK kvs) ∧ H b = some (.dK more) ∧ a ≠ b ∧ kvs.length + more.length ≤ sizeLine ∧ Q .non (upd H a (.dK (mergeK kvs more)))
theorem mtd_update {X : Cx} : MtR X "dict.update" rDUpd := by
  intro pins s σ H x vs v us Q I rx rv h
  obtain ⟨a, b, kvs, more, ex, ev, e, e2, ne, hz, q⟩ := h
  subst ex
  subst ev
  obtain rfl : v = Value.ref a := rx
  obtain ⟨u, rfl, ru⟩ : ∃ u, us = [u] ∧ RelV (.ref b) u := by
    cases rv with
    | cons r t =>
      cases t
      exact ⟨_, rfl, r⟩
  obtain rfl : u = Value.ref b := ru
  obtain ⟨z, hd, ws, rel, dd⟩ := dk_of I.hok e
  obtain ⟨z2, hd2, ws2, rel2, dd2⟩ := dk_of I.hok e2
  have lm := length_mergeK more kvs
  refine call_meetsIn PySem.F.slot_dict_update dd.typeIs PySem.F.entry_dict_update (PySem.F.args_dict_update_2 _ _) (meets_dict_update (mixKind X.prog X.w) a b ne hd2) ⟨ws, ws2, dd, dd2, by rw [← rel.length, ← rel2.length]; exact hz, fun h' dd' _ hs => ?_⟩
  have he : ∃ q, h'.get? a = some q := let ⟨q, _, _, hq, _⟩ := dd'; ⟨q, hq⟩
  exact ⟨.non, _, d_write (t' := s.toks) I (by rw [e]; exact True.intro) hs he (dk_new (Nat.le_trans lm hz) hd (rel2.merge rel) dd'), rfl, q⟩
def wDUpd (wo we : WE3) : WE3 := fun ρ μ Ψ Ξ => wo ρ μ (fun r1 ρ1 μ1 => (∃ (a : Addr) (i : Nat) (ks : List Key) (ds : List Dt), r1.val = .adr a ∧ μ1[i]? = some (a, Ob.fl (.dic ks ds))) ∧ we ρ1 μ1 (fun r2 ρ2 μ2 => ∃ (a b : Addr) (is : List Nat) (μ3 : My) (ks js : List Key) (ds es : List Dt), r1.val = .adr a ∧ r2.val = .adr b ∧ Ent μ2 ((a, Ob.fl (.dic ks ds)) :: (b, Ob.fl (.dic js es)) :: μ3) ∧ ks.length + js.length ≤ sizeLine ∧ ∃ ks' ds', mrgK ks ds js es = (ks', ds') ∧ Ψ (.dat .non) ρ2 ((a, Ob.fl (.dic ks' ds')) :: μ3)) Ξ) Ξ
instance (priority := 45) e3_dupd {W : WX} {to te : TE} {wo we : WE3} [a : E3 K W to wo] [b : E3 K W te we] : E3 K W (tBM K "dict" rDUpd to (tCons te tNil)) (wDUpd wo we) where
  run B C H σ ρ μ Q Ψ Ξ S h k mx := a.run B C H σ ρ μ _ _ _ S h (fun C1 H1 v r ρ1 μ1 ok s1 z => by
    obtain ⟨C1', S1, s1', q1⟩ := ok.cool
    obtain ⟨⟨x0, i0, ks0, ds0, e0, hi0⟩, z⟩ := z
    rw [e0] at q1
    cases q1
    obtain ⟨vs0, hx0, _, _, rx0⟩ := S1.has hi0
    refine ⟨Or.inr (Or.inr (Or.inl ⟨rfl, Or.inl ⟨_, hx0⟩⟩)), ?_⟩
    refine b.run B C1' H1 σ ρ1 μ1 _ _ _ S1 z (fun C2 H2 v2 r2 ρ2 μ2 ok2 s2 h2 => ?_) mx
    obtain ⟨C3, S3, s3, q2⟩ := ok2.cool
    obtain ⟨x, y, is, μ3, ks, js, ds, es, e1, e2, en, hz, ks', ds', em, h2⟩ := h2
    rw [e0] at e1
    cases e1
    rw [e2] at q2
    cases q2
    have S4 := S3.ent en
    obtain ⟨vs, hx, l, n, rl⟩ := S4.has (i := 0) rfl
    obtain ⟨ws, hy, l2, n2, rl2⟩ := S4.has (i := 1) rfl
    have ne : x0 ≠ y := fun z => by
      obtain ⟨m, ⟨m1, m2, rfl, f1, m3, m4, rfl, f2, _⟩, U, M, _⟩ := S4
      cases f1
      cases f2
      have nd := M.nd
      rw [List.map_append, List.map_append] at nd
      subst z
      simp at nd
    obtain ⟨vs', f1, f2, f3, f4⟩ := mrgK_ok rl2 l2 rl l n
    rw [em] at f1 f2 f3 f4
    refine ⟨x0, y, _, _, rfl, rfl, hx, hy, ne, ?_, ?_⟩
    · rw [List.length_zip, List.length_zip]
      omega
    · rw [f1]
      exact k _ _ _ (.dat .non) _ _ ⟨(S4.setD (i := 0) rfl f2 f3 f4).ent (Ent.cons Ent.tail), .non⟩ (s1.trans (s1'.trans (s2.trans s3))) h2) mx

end
section
variable {P : Program} {w : World} {K : PySem.W.Frag} {mg : Str → Option Value} {base : Heap}
local macro_rules | `(tactic| get_elem_tactic_trivial) => `(tactic| (repeat first | exact Wk.nil | exact Wk'.nil | refine Wk.same ?_ | refine Wk'.same ?_ | refine Wk.un (fun _ z => nomatch z) ?_ | refine Wk'.un ?_))
/-! list(enumerate(x)) -/
namespace En
section
variable {prog : Program} {w : World} {A : Around} {E : Value → Shared → Prop} {s : Shared}
end
end En
namespace En
section
variable {prog : Program} {w : World} {A : Around} {s : Shared} {R : Result → Shared → Prop}
end
end En
/-! its data -/

end
section
variable {P : Program} {w : World} {K : PySem.W.Frag} {mg : Str → Option Value} {base : Heap}
local macro_rules | `(tactic| get_elem_tactic_trivial) => `(tactic| (repeat first | exact Wk.nil | exact Wk'.nil | refine Wk.same ?_ | refine Wk'.same ?_ | refine Wk.un (fun _ z => nomatch z) ?_ | refine Wk'.un ?_))
/-! a hung thing grows cold, and a slot that names it is told as it stands -/
/-! how often a truth is in a list -/
def isBlOf (k : Bool) : Value → Bool
  | .bool b => b == k
  | _ => false
theorem count_bl {k : Bool} : ∀ {bs : List Bool} {us : List Value}, Vals (bs.map V.bl) us → us.countP (isBlOf k) = bs.count k ∧ ∀ y ∈ us, ∃ b, y = .bool b
  | [], _, h => by
    cases h
    exact ⟨rfl, fun y h => nomatch h⟩
  | b :: bs, _, h => by
    cases h with
    | @cons _ u _ us r t =>
      obtain rfl : u = .bool b := r
      obtain ⟨h1, h2⟩ := count_bl (k := k) t
      refine ⟨?_, fun y hy => ?_⟩
      · rw [List.countP_cons, List.count_cons, h1]
        rfl
      · rcases List.mem_cons.mp hy with rfl | hy
        · exact ⟨_, rfl⟩
        · exact h2 y hy
def rCntB (K : PySem.W.Frag) : V → List V → Hp → VK → Prop := fun x xs H Q => ∃ (p : Addr) (bs : List Bool) (k : Bool), x = .ref p ∧ xs = [.bl k] ∧ SqL K H p (bs.map V.bl) ∧ Q (.int (bs.count k : Nat)) H
theorem mt_countB {X : Cx} : MtR X "list.count" (rCntB X.K) := by
  intro pins s σ H x xs v us Q I rx rxs h
  obtain ⟨p, bs, k, rfl, rfl, hs, q⟩ := h
  cases rx
  obtain ⟨u, rfl, ru⟩ := rxs.one
  obtain rfl : u = .bool k := ru
  obtain ⟨its, rv, ⟨⟨cls, dd, data, sl⟩, n, ho, hc, hdn, hd⟩, _⟩ := I.list hs
  simp only at hc hd
  subst hc hd
  obtain ⟨e1, e2⟩ := count_bl (k := k) rv
  refine call_meets PySem.F.slot_list_count ⟨_, ho, rfl⟩ PySem.F.entry_list_count (PySem.F.args_list_count_2 _ _) (SeqAt.list_countAt p its.toArray n dd sl (.bool k) (isBlOf k)) ⟨ho, fun y hy => ?_, ?_⟩
  · obtain ⟨b, rfl⟩ := e2 y (by simpa using hy)
    exact SeqAt.EqAt.bool_bool b k
  · refine ⟨.int (bs.count k : Nat), H, I.tok _, ⟨s.toks, ?_⟩, q⟩
    have e : its.toArray.toList.countP (isBlOf k) = bs.count k := e1
    exact congrArg (fun z : Nat => Value.int (z : Int) s.toks) e
theorem blzB {C : Hp} : ∀ {vs : List V} {bs : List Bool}, RpL K C vs (bs.map .bl) → vs = bs.map V.bl
  | [], [], _ => rfl
  | _ :: _, [], h => nomatch h
  | [], _ :: _, h => nomatch h
  | v :: vs, b :: bs, h => by
    cases h with
    | cons r t =>
      cases r
      rw [blzB t]
      rfl
def wCntB (wl w : WE) : WE := fun ρ Ψ => wl ρ fun r ρ1 => store r ρ1 fun a ρ2 => ∃ bs : List Bool, a = .d (.lst (bs.map .bl)) ∧ w ρ2 fun r2 ρ3 => ∃ y : Bool, r2 = .dat (.bl y) ∧ Ψ (.dat (.int (bs.count y : Nat))) ρ3
instance (priority := 50) sd_cntB {tl te : TE} {wl w : WE} [a : Sd K tl wl] [b : Sd K te w] : Sd K (tBM K "list" (rCntB K) tl (tCons te tNil)) (wCntB wl w) where
  run B C H σ ρ Q Ψ S h k := a.run B C H σ ρ _ _ S h fun C1 H1 v1 r1 ρ1 S1 s1 ok1 h1 => by
    obtain ⟨C2, x, ρ2, S2, s2, ok2, h2⟩ := S1.stored ok1 h1
    obtain ⟨bs, rfl, h2⟩ := h2
    have ok2 : Rp K C2 v1 (.lst (bs.map .bl)) := ok2
    cases ok2 with
    | @lst c xs _ hc rl =>
      refine ⟨.inl ⟨rfl, _, SqL.of (S2.cold _ _ hc)⟩, b.run B C2 H1 σ ρ2 _ _ S2 h2 fun C3 H3 v3 r3 ρ3 S3 s3 ok3 h3 => ?_⟩
      obtain ⟨y, rfl, h4⟩ := h3
      have ok3 : Rp K C3 v3 (.bl y) := ok3
      cases ok3
      have ex := blzB rl
      subst ex
      exact ⟨c, bs, y, rfl, rfl, SqL.of (S3.cold _ _ (s3 _ _ hc)), k _ _ _ (.dat _) _ S3 (s1.trans (s2.trans s3)) (.int _) h4⟩
theorem flat_blB : ∀ bs : List Bool, (bs.map V.bl).all flatV = true
  | [] => rfl
  | b :: bs => by
    rw [List.map_cons, List.all_cons, flat_blB bs]
    rfl
def wIdxB3 (wl w : WE) : WE := fun ρ Ψ => wl ρ fun r ρ1 => store r ρ1 fun a ρ2 => ∃ bs : List Bool, a = .d (.lst (bs.map .bl)) ∧ w ρ2 fun r2 ρ3 => ∃ (y : Bool) (j : Nat), r2 = .dat (.bl y) ∧ bs[j]? = some y ∧ (∀ m, m < j → bs[m]? ≠ some y) ∧ Ψ (.dat (.int (j : Nat))) ρ3
instance (priority := 50) sd_idxB3 {tl te : TE} {wl w : WE} [a : Sd K tl wl] [b : Sd K te w] : Sd K (tBM K "list" (rIndex K) tl (tCons te tNil)) (wIdxB3 wl w) where
  run B C H σ ρ Q Ψ S h k := a.run B C H σ ρ _ _ S h fun C1 H1 v1 r1 ρ1 S1 s1 ok1 h1 => by
    obtain ⟨C2, x, ρ2, S2, s2, ok2, h2⟩ := S1.stored ok1 h1
    obtain ⟨bs, rfl, h2⟩ := h2
    have ok2 : Rp K C2 v1 (.lst (bs.map .bl)) := ok2
    cases ok2 with
    | @lst c xs _ hc rl =>
      refine ⟨.inl ⟨rfl, _, SqL.of (S2.cold _ _ hc)⟩, b.run B C2 H1 σ ρ2 _ _ S2 h2 fun C3 H3 v3 r3 ρ3 S3 s3 ok3 h3 => ?_⟩
      obtain ⟨y, j, rfl, e, no, h4⟩ := h3
      have ok3 : Rp K C3 v3 (.bl y) := ok3
      cases ok3
      have ex := blzB rl
      subst ex
      refine ⟨c, _, .bl y, j, .bl y, rfl, rfl, SqL.of (S3.cold _ _ (s3 _ _ hc)), rfl, flat_blB bs, by rw [List.getElem?_map, e]; rfl, by cases y <;> rfl, fun m z' hm q => ?_, k _ _ _ (.dat _) _ S3 (s1.trans (s2.trans s3)) (.int _) h4⟩
      rw [List.getElem?_map] at q
      obtain ⟨z, ez, rfl⟩ := Option.map_eq_some_iff.mp q
      have hz : z ≠ y := fun z2 => no m hm (by rw [ez, z2])
      cases z <;> cases y <;> first | rfl | exact absurd rfl hz
/-! list(range(n)) at level 3 -/

end
section
variable {P : Program} {w : World} {K : PySem.W.Frag} {mg : Str → Option Value} {base : Heap}
local macro_rules | `(tactic| get_elem_tactic_trivial) => `(tactic| (repeat first | exact Wk.nil | exact Wk'.nil | refine Wk.same ?_ | refine Wk'.same ?_ | refine Wk.un (fun _ z => nomatch z) ?_ | refine Wk'.un ?_))

/-! list(d.items()) of a dict that is hung, dict(xs) of pairs -/
namespace Dc
/-! dict(xs) -/
end Dc
/-! a keyword's default that is an empty tuple -/
theorem tupA_sq {K : PySem.W.Frag} {a : Addr} (h : tupA K a = true) (H : Hp) : SqT K H a [] := by
  unfold tupA at h
  split at h
  · next o q =>
    obtain ⟨h1, h2⟩ := He.ba h
    refine .inr ?_
    have e1 : o.cls = .type "tuple" := by
      split at h1
      · next c e => rw [e, of_decide_eq_true h1]
      · cases h1
    split at h2
    · next its n e =>
      have z := of_decide_eq_true h2
      have e3 : its = #[] := Array.eq_empty_of_size_eq_zero z
      subst e3
      exact ⟨o, #[], n, q, e1, e, by decide, .nil⟩
    · cases h2
  · cases h
theorem dw_tup {K : PySem.W.Frag} {a : Addr} (h : tupA K a = true) (C : Hp) : Rp K C (.ref a) (.tup []) := .tup (tupA_sq h C) .nil
def asPE {X : Cx} {e : Expr} (t : TE) (h : PE X e t) : PE X e t := h
def asPS {X : Cx} {e : Stmt} (t : TS) (h : PS X e t) : PS X e t := h

/-! x == y of two things of one class with an own == -/
section
variable {prog : Program} {A : Around} {E : Value → Shared → Prop} {s : Shared} {x y C f : Addr} {ox : Obj} {od : Option Obj}
end
/-! try: body, except x as n: suite, where the error is tracked in the suite too -/
section
variable {X : Cx} {x n : Str} {c : Value} {i : Nat} {body rest : List Stmt} {b1 : Stmt} {np at1 at2 : Pos} {tb : WX → TS} {ts : TS} {Wo : WX}
end

/-! isinstance of any thing and a class of one's own -/

end
section
variable {P : Program} {w : World} {K : PySem.W.Frag} {mg : Str → Option Value} {base : Heap}
local macro_rules | `(tactic| get_elem_tactic_trivial) => `(tactic| (repeat first | exact Wk.nil | exact Wk'.nil | refine Wk.same ?_ | refine Wk'.same ?_ | refine Wk.un (fun _ z => nomatch z) ?_ | refine Wk'.un ?_))
/-! sorted of ints, a dict walked by a comprehension -/
def fSortI : Dt → (List Dt → Prop) → Prop
  | .lst ds, Φ => ∃ xs : List Int, ds = xs.map .int ∧ ∀ ys : List Int, ys.Perm xs → ys.Pairwise (· ≤ ·) → Φ (ys.map .int)
  | _, _ => False
theorem rp_ints3 {C : Hp} : ∀ ns : List Int, RpL K C (ns.map V.int) (ns.map .int)
  | [] => .nil
  | n :: ns => .cons (.int n) (rp_ints3 ns)
theorem ints_back {C : Hp} : ∀ {ns : List Int} {vs : List V}, RpL K C vs (ns.map .int) → vs = ns.map V.int
  | [], _, .nil => rfl
  | n :: ns, _, .cons r t => by
    cases r
    rw [ints_back t]
    rfl
instance sb_sortI : Sb1n K (L2.rSortedI K) fSortI where
  run B C H σ ρ v d Q Φ S hv h k := by
    cases d <;> try exact False.elim h
    obtain ⟨l, vs, rfl, hl, ra⟩ := hv.list' S
    obtain ⟨xs, rfl, z⟩ := h
    exact ⟨l, xs, rfl, by rw [← ints_back ra]; exact SqL.of hl, fun ys p pm up hp => k _ _ _ _ (S.allocN hp) (Same.refl _) (S.frN hp (rp_ints3 ys)) (z ys pm up)⟩
def tLockX (t : TE) : TE := fun σ H Q => ∃ d u, H d = some u ∧ Mut (some u) ∧ ∀ od, t σ (upd H d (.frz od u)) fun v H' => H' d = some (.frz od u) ∧ Q v (upd H' d u)
theorem pe_lockX {X : Cx} {e : Expr} {t : TE} (h : PE X e t) : PE X e (tLockX t) := pe_lock h
def wLcK (is : List Nat) (w : WE3) (wg : WG) (wt : WT3) (we : WE3) (vs : List Nat) : WE3 := fun ρ μ Ψ _ => ∃ (p : Addr) (ks : List Key) (ds : List Dt) (μ0 : My), Ent μ ((p, Ob.fl (.dic ks ds)) :: μ0) ∧ ∀ (od : Obj) (ws : List V), w ρ ((p, Ob.fl (.lck ks ds od ws)) :: μ0) (fun r ρ1 μ1 => r = .dat (.adr p) ∧ ∃ μ2, Ent μ1 ((p, Ob.fl (.lck ks ds od ws)) :: μ2) ∧ (noBox ρ1 vs = true ∧ subB is vs = true) ∧ ∃ I : Nat → List Dt → List Sl → My → Prop, I 0 [] (wipeR ρ1 vs) μ2 ∧
  (∀ k acc ρ μ key, ks[k]? = some key → I k acc ρ μ → wg (kD key) ρ fun ρ2 => wt ρ2 ((p, Ob.fl (.lck ks ds od ws)) :: μ) (fun b ρ3 μ3 => if b = true then we ρ3 μ3 (fun r ρ4 μ4 => ∃ μ5, Ent μ4 ((p, Ob.fl (.lck ks ds od ws)) :: μ5) ∧ noBox ρ4 vs = true ∧ acc.length < sizeLine ∧ I (k + 1) (acc ++ [r.val]) (wipeR ρ4 vs) μ5) noX3
    else ∃ μ5, Ent μ3 ((p, Ob.fl (.lck ks ds od ws)) :: μ5) ∧ noBox ρ3 vs = true ∧ I (k + 1) acc (wipeR ρ3 vs) μ5) noX3) ∧ ∀ acc ρ μ, I ks.length acc ρ μ → noBox ρ vs = true ∧ Ψ (.new acc) (wipeR ρ vs) ((p, Ob.fl (.dic ks ds)) :: μ)) noX3
theorem kD_rp {C : Hp} (k : Key) : Rp K C (kV k) (kD k) := by
  cases k with
  | inl i => exact .int i
  | inr x => exact .str x
instance (priority := 60) e3_lcK {W : WX} {te : TE} {g : TG} {tt : TT} {tx : TE} {vs is : List Nat} {w : WE3} {wg : WG} {wt : WT3} {we : WE3} [i : E3 K W te w] [a : Sg K g wg] [s : Sw g is] [c : C3 K W tt wt] [b : E3 K W tx we] : E3 K W (tLockX (tLc (L2.iKeys te) g tt tx vs)) (wLcK is w wg wt we vs) where
  run B C H σ ρ μ Q Ψ Ξ S h kk mx := by
    obtain ⟨p, ks, ds, μ0, en, h⟩ := h
    have S0 := S.ent en
    obtain ⟨ws, hp, hl, hn, rv⟩ := S0.has (i := 0) rfl
    refine ⟨p, .dK (ks.zip ws), hp, True.intro, fun od => ?_⟩
    have SL : Sep3 K B C (upd H p (.frz od (.dK (ks.zip ws)))) σ ρ ((p, Ob.fl (.lck ks ds od ws)) :: μ0) := S0.set (i := 0) rfl fun U1 _ _ => ⟨upd_same, hl, hn, rv⟩
    refine i.run B C _ σ ρ _ _ _ _ SL (h od ws) (fun C1 H1 v r ρ1 μ1 ok1 s1 h1 => ?_) noX3_ok
    obtain ⟨rfl, μ2, en2, ⟨nb1, sub⟩, I, i0, step, fin⟩ := h1
    obtain ⟨S1, rp⟩ := ok1
    cases rp
    have S1 := S1.ent en2
    have lz : (ks.zip ws).length = ks.length := by rw [List.length_zip, ← hl, Nat.min_self]
    refine ⟨p, od, rfl, .inl ⟨ks.zip ws, (S1.has (i := 0) rfl).1, ?_⟩⟩
    intro D hD
    refine ⟨fun k n H2 => n = ks.length - k ∧ k ≤ ks.length ∧ ∃ C2 ρ2 μ2 acc, Sep3 K B C2 H2 (wipe σ vs) ρ2 ((D, .fl (.lst acc)) :: (p, Ob.fl (.lck ks ds od ws)) :: μ2) ∧ Same C1 C2 ∧ I k acc ρ2 μ2, ⟨_, rfl, Nat.zero_le _, C1, wipeR ρ1 vs, μ2, [], (S1.new hD .nil).swap nb1 (wipe2 vs), Same.refl _, i0⟩, ?_⟩
    rintro k n H2 ⟨rfl, hk, C2, ρ2, μ3, acc, S2, s2, hI⟩
    have hx : H2 p = some (.frz od (.dK (ks.zip ws))) := (S2.has (i := 1) rfl).1
    by_cases hlt : k < ks.length
    · refine .inr ⟨⟨hx, by rw [lz]; exact hlt⟩, fun H3 => ∃ C3 ρ3 μ3 acc, Sep3 K B C3 H3 (wipe σ vs) ρ3 ((D, .fl (.lst acc)) :: (p, Ob.fl (.lck ks ds od ws)) :: μ3) ∧ Same C1 C3 ∧ I (k + 1) acc ρ3 μ3, fun H3 ⟨C3, ρ3, μ3, acc, q⟩ => ⟨ks.length - (k + 1), by omega, rfl, hlt, C3, ρ3, μ3, acc, q⟩, fun x H' y => ?_⟩
      obtain ⟨eH, key, v, hkv, rfl⟩ := y
      subst eH
      have hkey : ks[k]? = some key := by
        rw [List.getElem?_zip_eq_some] at hkv
        exact hkv.1
      have st := step k acc ρ2 μ3 key hkey hI
      obtain ⟨o, hDo, okD, Sh, h0, c0, bx⟩ := S2.hold (fun c ns ds z => nomatch z)
      obtain ⟨B2, T4, back2, _⟩ := Sh.lift
      refine s.run _ _ _ _ _ (a.run B2 C2 _ _ ρ2 _ _ (fun σ4 H4 => ∃ ρ4, H4 = _ ∧ Sep K B2 C2 _ σ4 ρ4 ∧ wt ρ4 ((p, Ob.fl (.lck ks ds od ws)) :: μ3) (fun b ρ3 μ3 => if b = true then we ρ3 μ3 (fun r ρ4 μ4 => ∃ μ5, Ent μ4 ((p, Ob.fl (.lck ks ds od ws)) :: μ5) ∧ noBox ρ4 vs = true ∧ acc.length < sizeLine ∧ I (k + 1) (acc ++ [r.val]) (wipeR ρ4 vs) μ5) noX3 else ∃ μ5, Ent μ3 ((p, Ob.fl (.lck ks ds od ws)) :: μ5) ∧ noBox ρ3 vs = true ∧ I (k + 1) acc (wipeR ρ3 vs) μ5) noX3) _ T4 (kD_rp key) st fun σ4 ρ4 S4 h4 => ⟨ρ4, rfl, S4, h4⟩) fun σ4 H4 ⟨l4, o4⟩ ⟨ρ4, e4, S4, h4⟩ => ?_
      subst e4
      have w4 : wipe σ4 vs = wipe σ vs := (wipe_eq l4 o4 (subB_at sub)).trans (wipe2 vs)
      have w4' : wipe (wipe σ vs) vs = wipe σ4 vs := (wipe2 vs).trans w4.symm
      refine ⟨w4, c.run _ C2 _ σ4 ρ4 _ _ _ _ (back2 S4).1 h4 (fun C5 H5 e ρ5 μ5 S5 s5 h5 => ?_) noX3_ok⟩
      cases e with
      | false =>
        obtain ⟨μ6, en6, n5, z5⟩ := h5
        obtain ⟨S6, _⟩ := (S5.ent en6).unhold h0 c0 bx (okD.same s5)
        exact ⟨C5, _, _, acc, S6.swap n5 w4', s2.trans s5, z5⟩
      | true =>
        refine b.run _ C5 H5 σ4 ρ5 μ5 _ _ _ S5 h5 (fun C6 H6 v6 r6 ρ6 μ6 ok6 s6 h6 => ?_) noX3_ok
        obtain ⟨C7, S7, s7, q7⟩ := ok6.cool
        obtain ⟨μ7, en7, n6, z6, z7⟩ := h6
        have sx : Same C2 C7 := s5.trans (s6.trans s7)
        obtain ⟨S8, _⟩ := (S7.ent en7).unhold h0 c0 bx (okD.same sx)
        obtain ⟨us, hw, rw6⟩ := S8.has (i := 0) rfl
        exact ⟨us, hw, by rw [rw6.len]; exact z6, C7, _, _, acc ++ [r6.val], (S8.setL (i := 0) rfl (rw6.append (.cons q7 .nil))).swap n6 w4', s2.trans sx, z7⟩
    · have e : k = ks.length := by omega
      subst e
      obtain ⟨nf, z⟩ := fin _ _ _ hI
      refine .inl ⟨⟨hx, by rw [lz]; exact Nat.le_refl _⟩, hx, ?_⟩
      refine kk C2 _ _ (.new acc) _ _ ⟨D, rfl, ?_⟩ (s1.trans s2) z
      exact (S2.swap nf (wipe2 vs).symm).set (i := 1) rfl fun U1 f1 _ => ⟨ws, upd_same, f1.2.1, f1.2.2.1, f1.2.2.2⟩

end
section
variable {P : Program} {w : World} {K : PySem.W.Frag} {mg : Str → Option Value} {base : Heap}
local macro_rules | `(tactic| get_elem_tactic_trivial) => `(tactic| (repeat first | exact Wk.nil | exact Wk'.nil | refine Wk.same ?_ | refine Wk'.same ?_ | refine Wk.un (fun _ z => nomatch z) ?_ | refine Wk'.un ?_))
/-! things by names; texts in order -/
theorem up_txt : ∀ {p : Str} {l : List Str}, risingS p l = true → (p :: l).Pairwise fun a b => ¬ b.cps.toList < a.cps.toList
  | p, [], _ => List.pairwise_cons.mpr ⟨(fun _ h => nomatch h), .nil⟩
  | p, x :: r, h => by
    have h : (!ltCps x.cps.toList p.cps.toList && risingS x r) = true := h
    rw [Bool.and_eq_true] at h
    have ih := up_txt h.2
    have h1 : ¬ x.cps.toList < p.cps.toList := by
      have z := h.1
      rw [ltCps_eq] at z
      simpa using z
    refine List.pairwise_cons.mpr ⟨fun b hb => ?_, ih⟩
    rcases List.mem_cons.mp hb with rfl | hb
    · exact h1
    · have h2 := List.rel_of_pairwise_cons ih hb
      exact fun z => by
        have l1 : p.cps.toList ≤ x.cps.toList := List.not_lt.mp h1
        have l2 : x.cps.toList ≤ b.cps.toList := List.not_lt.mp h2
        exact absurd z (List.not_lt.mpr (List.le_trans l1 l2))
theorem sortedS_eq {a b : List Str} (p : a.Perm b) (ha : sortedS a = true) (hb : sortedS b = true) : a = b := by
  have pw : ∀ {l : List Str}, sortedS l = true → l.Pairwise fun a b => ¬ b.cps.toList < a.cps.toList := fun {l} h => by
    cases l with
    | nil => exact .nil
    | cons x r => exact up_txt h
  refine List.Perm.eq_of_pairwise (fun x y _ _ h1 h2 => ?_) (pw ha) (pw hb) p
  have e : x.cps.toList = y.cps.toList := List.le_antisymm (List.not_lt.mp h1) (List.not_lt.mp h2)
  have e2 : x.cps = y.cps := Array.toList_inj.mp e
  cases x
  cases y
  exact congrArg _ e2
theorem sortI_eq {a b : List Int} (p : a.Perm b) (ha : a.Pairwise (· ≤ ·)) (hb : b.Pairwise (· ≤ ·)) : a = b := PySem.W.ksm_same p ha hb
abbrev KL (X : Type) := List (Addr × Key × X)
section
variable {X : Type}
def kps (I : X → Addr → Fm → Prop) (L : KL X) : My := L.map fun x => (x.1, .pk (I x.2.2))
def kks (L : KL X) : List Key := L.map fun x => x.2.1
def kds (L : KL X) : List Dt := L.map fun x => .adr x.1
theorem kks_len (L : KL X) : (kks L).length = L.length := List.length_map ..
theorem kds_len (L : KL X) : (kds L).length = L.length := List.length_map ..
theorem kps_at {I : X → Addr → Fm → Prop} {L : KL X} {i : Nat} {x : Addr × Key × X} (h : L[i]? = some x) : Ent (kps I L) ((x.1, .pk (I x.2.2)) :: kps I (L.eraseIdx i)) := by
  refine Ent.perm ?_
  have e : L = L.take i ++ x :: L.drop (i + 1) := by
    rw [← (List.getElem?_eq_some_iff.mp h).2]
    simp
  unfold kps
  rw [List.eraseIdx_eq_take_drop_succ]
  conv => lhs; rw [e]
  rw [List.map_append, List.map_append, List.map_cons]
  exact List.perm_middle
theorem kps_back {I : X → Addr → Fm → Prop} {L : KL X} {i : Nat} {x : Addr × Key × X} (hk : i < L.length) : Ent ((x.1, .pk (I x.2.2)) :: kps I (L.eraseIdx i)) (kps I (L.set i x)) := by
  refine Ent.perm ?_
  unfold kps
  rw [List.eraseIdx_eq_take_drop_succ, List.set_eq_take_append_cons_drop, if_pos hk, List.map_append, List.map_append, List.map_cons]
  exact List.perm_middle.symm
theorem kps_snoc {I : X → Addr → Fm → Prop} {L : KL X} {x : Addr × Key × X} : Ent ((x.1, .pk (I x.2.2)) :: kps I L) (kps I (L ++ [x])) := by
  refine Ent.perm ?_
  unfold kps
  rw [List.map_append]
  exact (List.perm_append_singleton _ _).symm
theorem kset_same {L : KL X} {i : Nat} {x : Addr × Key × X} (h : L[i]? = some x) : L.set i x = L := by
  rw [← (List.getElem?_eq_some_iff.mp h).2]
  exact List.set_getElem_self _
theorem kks_set {L : KL X} {i : Nat} {u : Addr} {s : Key} {A A' : X} (h : L[i]? = some (u, s, A)) : kks (L.set i (u, s, A')) = kks L := by
  unfold kks
  rw [List.map_set]
  have e : (L.map fun x => x.2.1)[i]? = some s := by rw [List.getElem?_map, h]; rfl
  obtain ⟨l, e2⟩ := List.getElem?_eq_some_iff.mp e
  show (L.map fun x => x.2.1).set i s = _
  rw [← e2]
  exact List.set_getElem_self l
theorem kds_set {L : KL X} {i : Nat} {u : Addr} {s : Key} {A A' : X} (h : L[i]? = some (u, s, A)) : kds (L.set i (u, s, A')) = kds L := by
  unfold kds
  rw [List.map_set]
  have e : (L.map fun x => Dt.adr x.1)[i]? = some (.adr u) := by rw [List.getElem?_map, h]; rfl
  obtain ⟨l, e2⟩ := List.getElem?_eq_some_iff.mp e
  show (L.map fun x => Dt.adr x.1).set i (Dt.adr u) = _
  rw [← e2]
  exact List.set_getElem_self l
theorem getK_at : ∀ {L : KL X} {i : Nat} {u : Addr} {s : Key} {A : X}, (kks L).Nodup → L[i]? = some (u, s, A) → getK (kks L) (kds L) s = some (.adr u)
  | x :: L, 0, u, s, A, _, h => by
    cases h
    show (if s = s then some (Dt.adr u) else _) = _
    rw [if_pos rfl]
  | x :: L, i + 1, u, s, A, nd, h => by
    have h : L[i]? = some (u, s, A) := h
    have nd2 := List.nodup_cons.mp (show (x.2.1 :: kks L).Nodup from nd)
    show (if x.2.1 = s then some (Dt.adr x.1) else getK (kks L) (kds L) s) = _
    rw [if_neg (fun z => nd2.1 (by rw [z]; exact List.mem_map.mpr ⟨_, List.mem_of_getElem? h, rfl⟩))]
    exact getK_at nd2.2 h
theorem getK_no : ∀ {ks : List Key} {ds : List Dt} {s : Key}, s ∉ ks → getK ks ds s = none
  | [], _, s, _ => by cases ‹List Dt› <;> rfl
  | k :: ks, [], s, _ => rfl
  | k :: ks, d :: ds, s, h => by
    show (if k = s then some d else getK ks ds s) = none
    rw [if_neg (fun z => h (by rw [z]; exact List.mem_cons_self ..))]
    exact getK_no fun z => h (List.mem_cons_of_mem _ z)
theorem kget {L : KL X} {s : Key} (h : s ∈ kks L) : ∃ (i : Nat) (u : Addr) (A : X), L[i]? = some (u, s, A) := by
  obtain ⟨⟨u, s, A⟩, hx, rfl⟩ := List.mem_map.mp h
  obtain ⟨i, e⟩ := List.getElem?_of_mem hx
  exact ⟨i, u, A, e⟩
theorem kmem {L : KL X} {i : Nat} {u : Addr} {s : Key} {A : X} (h : L[i]? = some (u, s, A)) : s ∈ kks L := List.mem_map.mpr ⟨_, List.mem_of_getElem? h, rfl⟩
theorem kin {L : KL X} {s : Key} (nd : (kks L).Nodup) (h : s ∈ kks L) : (getK (kks L) (kds L) s).isSome = true := by
  obtain ⟨i, u, A, e⟩ := kget h
  rw [getK_at nd e]
  rfl
theorem kout {L : KL X} {s : Key} (h : s ∉ kks L) : (getK (kks L) (kds L) s).isSome = false := by
  rw [getK_no h]
  rfl
theorem putKD_new : ∀ {ks : List Key} {ds : List Dt} {s : Key} {d : Dt}, ks.length = ds.length → s ∉ ks → putKD s d ks ds = (ks ++ [s], ds ++ [d])
  | [], [], _, _, _, _ => rfl
  | k :: ks, e :: ds, s, d, l, h => by
    have ih := putKD_new (s := s) (d := d) (Nat.succ.inj l) fun z => h (List.mem_cons_of_mem _ z)
    show (if k = s then (k :: ks, d :: ds) else (k :: (putKD s d ks ds).1, e :: (putKD s d ks ds).2)) = _
    rw [if_neg (fun z => h (by rw [z]; exact List.mem_cons_self ..)), ih]
    rfl
theorem delK_at : ∀ {L : KL X} {i : Nat} {u : Addr} {s : Key} {A : X}, (kks L).Nodup → L[i]? = some (u, s, A) → delK s (kks L) (kds L) = (kks (L.eraseIdx i), kds (L.eraseIdx i))
  | x :: L, 0, u, s, A, _, h => by
    cases h
    show (if s = s then (kks L, kds L) else _) = _
    rw [if_pos rfl]
    rfl
  | x :: L, i + 1, u, s, A, nd, h => by
    have h : L[i]? = some (u, s, A) := h
    have nd2 := List.nodup_cons.mp (show (x.2.1 :: kks L).Nodup from nd)
    show (if x.2.1 = s then (kks L, kds L) else (x.2.1 :: (delK s (kks L) (kds L)).1, Dt.adr x.1 :: (delK s (kks L) (kds L)).2)) = _
    rw [if_neg (fun z => nd2.1 (by rw [z]; exact kmem h)), delK_at nd2.2 h]
    rfl
theorem kks_erase {L : KL X} {i : Nat} : kks (L.eraseIdx i) = (kks L).eraseIdx i := by
  unfold kks
  rw [List.eraseIdx_eq_take_drop_succ, List.eraseIdx_eq_take_drop_succ, List.map_append, List.map_take, List.map_drop]
theorem knd_erase {L : KL X} {i : Nat} (nd : (kks L).Nodup) : (kks (L.eraseIdx i)).Nodup := by
  rw [kks_erase]
  exact nd.sublist (List.eraseIdx_sublist ..)
theorem knd_snoc {L : KL X} {u : Addr} {s : Key} {A : X} (nd : (kks L).Nodup) (h : s ∉ kks L) : (kks (L ++ [(u, s, A)])).Nodup := by
  unfold kks at h ⊢
  rw [List.map_append]
  refine List.nodup_append.mpr ⟨nd, List.nodup_cons.mpr ⟨by simp, .nil⟩, fun a ha b hb e => ?_⟩
  subst e
  rw [List.mem_singleton.mp hb] at ha
  exact h ha
end



end
section
variable {P : Program} {w : World} {K : PySem.W.Frag} {mg : Str → Option Value} {base : Heap}
local macro_rules | `(tactic| get_elem_tactic_trivial) => `(tactic| (repeat first | exact Wk.nil | exact Wk'.nil | refine Wk.same ?_ | refine Wk'.same ?_ | refine Wk.un (fun _ z => nomatch z) ?_ | refine Wk'.un ?_))
theorem scIsNumber : FnScope ["thing"] ["thing"] (defScope sIsNumber) := ⟨rfl, rfl, rfl, by decide +kernel, rfl, by decide +kernel, by decide +kernel⟩
theorem scCommonDivisor : FnScope ["number", "other"] ["number", "other"] (defScope sCommonDivisor) := ⟨rfl, rfl, rfl, by decide +kernel, rfl, by decide +kernel, by decide +kernel⟩
theorem scIsWidth : FnScope ["thing"] ["thing"] (defScope sIsWidth) := ⟨rfl, rfl, rfl, by decide +kernel, rfl, by decide +kernel, by decide +kernel⟩
theorem scIsFactor : FnScope ["thing", "width"] ["thing", "width"] (defScope sIsFactor) := ⟨rfl, rfl, rfl, by decide +kernel, rfl, by decide +kernel, by decide +kernel⟩
theorem scLBox : FnScope ["_law_script", "_law_k", "_law_cell"] ["_law_script", "_law_k"] (defScope sLBox) := ⟨rfl, rfl, rfl, by decide +kernel, rfl, by decide +kernel, by decide +kernel⟩
theorem scLTake : FnScope ["_law_box_here", "_law_size", "_law_found", "_law_once"] ["_law_box_here", "_law_size"] (defScope sLTake) := ⟨rfl, rfl, rfl, by decide +kernel, rfl, by decide +kernel, by decide +kernel⟩
theorem scLPick : FnScope ["_law_box_here", "_law_things"] ["_law_box_here", "_law_things"] (defScope sLPick) := ⟨rfl, rfl, rfl, by decide +kernel, rfl, by decide +kernel, by decide +kernel⟩
theorem scLNames : FnScope ["_law_box_here", "_law_size", "_law_letters", "_law_begun_here", "_law_by", "_law_tail", "_law_k", "_law_at"] ["_law_box_here", "_law_size"] (defScope sLNames) := ⟨rfl, rfl, rfl, by decide +kernel, rfl, by decide +kernel, by decide +kernel⟩
theorem scLSame : FnScope ["_law_found", "_law_due", "_law_one", "_law_two"] ["_law_found", "_law_due"] (defScope sLSame) := ⟨rfl, rfl, rfl, by decide +kernel, rfl, by decide +kernel, by decide +kernel⟩
theorem scLShares : FnScope ["_law_one", "_law_two", "_law_turn"] ["_law_one", "_law_two"] (defScope sLShares) := ⟨rfl, rfl, rfl, by decide +kernel, rfl, by decide +kernel, by decide +kernel⟩
theorem scLHow : FnScope ["_law_box_here", "_law_way", "_law_width", "_law_by"] ["_law_box_here"] (defScope sLHow) := ⟨rfl, rfl, rfl, by decide +kernel, rfl, by decide +kernel, by decide +kernel⟩
theorem scLStock : FnScope ["_law_box_here", "_law_size", "_law_kept", "_law_how_here", "_law_found"] ["_law_box_here", "_law_size", "_law_kept"] (defScope sLStock) := ⟨rfl, rfl, rfl, by decide +kernel, rfl, by decide +kernel, by decide +kernel⟩
theorem scLBegun : FnScope ["_law_life_told", "_law_top"] ["_law_life_told", "_law_top"] (defScope sLBegun) := ⟨rfl, rfl, rfl, by decide +kernel, rfl, by decide +kernel, by decide +kernel⟩
theorem scLAskedNow : FnScope ["_law_w", "_law_name", "_law_own", "_law_number"] ["_law_w", "_law_name"] (defScope sLAskedNow) := ⟨rfl, rfl, rfl, by decide +kernel, rfl, by decide +kernel, by decide +kernel⟩
theorem scLAsk : FnScope ["_law_book", "_law_w", "_law_name"] ["_law_book", "_law_w", "_law_name"] (defScope sLAsk) := ⟨rfl, rfl, rfl, by decide +kernel, rfl, by decide +kernel, by decide +kernel⟩
theorem scLStands : FnScope ["_law_book", "_law_w", "_law_names_here", "_law_found", "_law_due", "_law_name", "_law_own"] ["_law_book", "_law_w"] (defScope sLStands) := ⟨rfl, rfl, rfl, by decide +kernel, rfl, by decide +kernel, by decide +kernel⟩
theorem scLRefused : FnScope ["_law_book", "_law_which", "_law_name", "_law_key", "_law_caught", "error", "_law_kinds", "_law_words"] ["_law_book", "_law_which", "_law_name", "_law_key"] (defScope sLRefused) := ⟨rfl, rfl, rfl, by decide +kernel, rfl, by decide +kernel, by decide +kernel⟩
theorem scLDeedRight : FnScope ["_law_box_here", "_law_book", "_law_w", "_law_names_here", "_law_name", "_law_way", "_law_due", "_law_found", "_law_own"] ["_law_box_here", "_law_book", "_law_w", "_law_names_here"] (defScope sLDeedRight) := ⟨rfl, rfl, rfl, by decide +kernel, rfl, by decide +kernel, by decide +kernel⟩
theorem scLRight : FnScope ["_law_box_here", "_law_top", "_law_book", "_law_names_here", "_law_k", "_law_name", "_law_w", "_law_turn"] ["_law_box_here"] (defScope sLRight) := ⟨rfl, rfl, rfl, by decide +kernel, rfl, by decide +kernel, by decide +kernel⟩
theorem scLaw : FnScope ["_law_script", "_law_k"] ["_law_script"] (defScope sLaw) := ⟨rfl, rfl, rfl, by decide +kernel, rfl, by decide +kernel, by decide +kernel⟩
theorem scMixingInit : FnScope ["self", "width", "factor"] ["self", "width", "factor"] (defScope sMixingInit) := ⟨rfl, rfl, rfl, by decide +kernel, rfl, by decide +kernel, by decide +kernel⟩
theorem scEntryInit : FnScope ["self", "key", "mixing", "policy", "plan", "many", "fixed"] ["self", "key", "mixing", "policy", "plan", "many", "fixed"] (defScope sEntryInit) := ⟨rfl, rfl, rfl, by decide +kernel, rfl, by decide +kernel, by decide +kernel⟩
theorem scBookInit : FnScope ["self", "life", "most"] ["self", "life", "most"] (defScope sBookInit) := ⟨rfl, rfl, rfl, by decide +kernel, rfl, by decide +kernel, by decide +kernel⟩
theorem scBookEntry : FnScope ["self", "name"] ["self", "name"] (defScope sBookEntry) := ⟨rfl, rfl, rfl, by decide +kernel, rfl, by decide +kernel, by decide +kernel⟩
theorem scBookKnow : FnScope ["self", "name", "key", "mixing", "policy", "plan", "many", "fixed", "used"] ["self", "name", "key", "mixing", "policy", "plan", "many", "fixed"] (defScope sBookKnow) := ⟨rfl, rfl, rfl, by decide +kernel, rfl, by decide +kernel, by decide +kernel⟩
theorem scBookPut : FnScope ["self", "name", "policy", "plan", "entry"] ["self", "name", "policy", "plan"] (defScope sBookPut) := ⟨rfl, rfl, rfl, by decide +kernel, rfl, by decide +kernel, by decide +kernel⟩
theorem scBookDrop : FnScope ["self", "name"] ["self", "name"] (defScope sBookDrop) := ⟨rfl, rfl, rfl, by decide +kernel, rfl, by decide +kernel, by decide +kernel⟩
theorem scBookAsk : FnScope ["self", "name", "entry"] ["self", "name"] (defScope sBookAsk) := ⟨rfl, rfl, rfl, by decide +kernel, rfl, by decide +kernel, by decide +kernel⟩
theorem scBookIsAsked : FnScope ["self", "entry", "number"] ["self", "entry", "number"] (defScope sBookIsAsked) := ⟨rfl, rfl, rfl, by decide +kernel, rfl, by decide +kernel, by decide +kernel⟩
theorem scBookNames : FnScope ["self"] ["self"] (defScope sBookNames) := ⟨rfl, rfl, rfl, by decide +kernel, rfl, by decide +kernel, by decide +kernel⟩
theorem scBookAsked : FnScope ["self", "name", "entry", "number"] ["self", "name"] (defScope sBookAsked) := ⟨rfl, rfl, rfl, by decide +kernel, rfl, by decide +kernel, by decide +kernel⟩
theorem scBookLast : FnScope ["self", "name", "good"] ["self", "name"] (defScope sBookLast) := ⟨rfl, rfl, rfl, by decide +kernel, rfl, by decide +kernel, by decide +kernel⟩
theorem scBookHistory : FnScope ["self", "name"] ["self", "name"] (defScope sBookHistory) := ⟨rfl, rfl, rfl, by decide +kernel, rfl, by decide +kernel, by decide +kernel⟩
theorem scBookLen : FnScope ["self"] ["self"] (defScope sBookLen) := ⟨rfl, rfl, rfl, by decide +kernel, rfl, by decide +kernel, by decide +kernel⟩
theorem scStartErrorInit : FnScope ["self", "what"] ["self", "what"] (defScope sStartErrorInit) := ⟨rfl, rfl, rfl, by decide +kernel, rfl, by decide +kernel, by decide +kernel⟩
/-- the names that are the builtins' own -/
structure Bl (mg : Str → Option Value) : Prop where
  b_ValueError : mg "ValueError" = none
  b_repr : mg "repr" = none
  b_len : mg "len" = none
  b_abs : mg "abs" = none
  b_int : mg "int" = none
  b_isinstance : mg "isinstance" = none
  b_list : mg "list" = none
  b_tuple : mg "tuple" = none
  b_str : mg "str" = none
  b_bool : mg "bool" = none
  b_all : mg "all" = none
  b_zip : mg "zip" = none
  b_range : mg "range" = none
  b_max : mg "max" = none
  b_min : mg "min" = none
  b_enumerate : mg "enumerate" = none
  b_divmod : mg "divmod" = none
  b_sorted : mg "sorted" = none
  b_set : mg "set" = none
  b_any : mg "any" = none
/-- what the top has written -/
structure Tx (K : PySem.W.Frag) (mg : Str → Option Value) where
  B : Bl mg
  c_FACTOR : ∃ t, mg "FACTOR" = some (.int 7919 t)
  c_BOARDS : ∃ t, mg "BOARDS" = some (.int 4 t)
  c_FIXED : ∃ t, mg "FIXED" = some (.int 2 t)
  c_LIFE : ∃ t, mg "LIFE" = some (.int 9 t)
  c_MACHINES : ∃ t, mg "MACHINES" = some (.int 8 t)
  c_LEAST_WIDTH : ∃ t, mg "LEAST_WIDTH" = some (.int 3 t)
  c_GREATEST : ∃ t, mg "GREATEST" = some (.int 1000000 t)
  fdWall : FuncData
  FWall : FunD K "_wall" "_wall" (defArgs sWall) (defBody sWall) (defScope sWall) [] [] (He.ga K "_wall") fdWall
  gWall : mg "_wall" = some (.ref (He.ga K "_wall"))
  fdIsNumber : FuncData
  FIsNumber : FunD K "is_number" "is_number" (defArgs sIsNumber) (defBody sIsNumber) (defScope sIsNumber) [] [] (He.ga K "is_number") fdIsNumber
  gIsNumber : mg "is_number" = some (.ref (He.ga K "is_number"))
  fdCommonDivisor : FuncData
  FCommonDivisor : FunD K "common_divisor" "common_divisor" (defArgs sCommonDivisor) (defBody sCommonDivisor) (defScope sCommonDivisor) [] [] (He.ga K "common_divisor") fdCommonDivisor
  gCommonDivisor : mg "common_divisor" = some (.ref (He.ga K "common_divisor"))
  fdIsWidth : FuncData
  FIsWidth : FunD K "is_width" "is_width" (defArgs sIsWidth) (defBody sIsWidth) (defScope sIsWidth) [] [] (He.ga K "is_width") fdIsWidth
  gIsWidth : mg "is_width" = some (.ref (He.ga K "is_width"))
  fdIsFactor : FuncData
  FIsFactor : FunD K "is_factor" "is_factor" (defArgs sIsFactor) (defBody sIsFactor) (defScope sIsFactor) [] [] (He.ga K "is_factor") fdIsFactor
  gIsFactor : mg "is_factor" = some (.ref (He.ga K "is_factor"))
  fdLBox : FuncData
  FLBox : FunD K "_law_box" "_law_box" (defArgs sLBox) (defBody sLBox) (defScope sLBox) [] [] (He.ga K "_law_box") fdLBox
  gLBox : mg "_law_box" = some (.ref (He.ga K "_law_box"))
  fdLTake : FuncData
  FLTake : FunD K "_law_take" "_law_take" (defArgs sLTake) (defBody sLTake) (defScope sLTake) [] [] (He.ga K "_law_take") fdLTake
  gLTake : mg "_law_take" = some (.ref (He.ga K "_law_take"))
  fdLPick : FuncData
  FLPick : FunD K "_law_pick" "_law_pick" (defArgs sLPick) (defBody sLPick) (defScope sLPick) [] [] (He.ga K "_law_pick") fdLPick
  gLPick : mg "_law_pick" = some (.ref (He.ga K "_law_pick"))
  fdLNames : FuncData
  FLNames : FunD K "_law_names" "_law_names" (defArgs sLNames) (defBody sLNames) (defScope sLNames) [] [] (He.ga K "_law_names") fdLNames
  gLNames : mg "_law_names" = some (.ref (He.ga K "_law_names"))
  fdLSame : FuncData
  FLSame : FunD K "_law_same" "_law_same" (defArgs sLSame) (defBody sLSame) (defScope sLSame) [] [] (He.ga K "_law_same") fdLSame
  gLSame : mg "_law_same" = some (.ref (He.ga K "_law_same"))
  fdLShares : FuncData
  FLShares : FunD K "_law_shares" "_law_shares" (defArgs sLShares) (defBody sLShares) (defScope sLShares) [] [] (He.ga K "_law_shares") fdLShares
  gLShares : mg "_law_shares" = some (.ref (He.ga K "_law_shares"))
  fdLHow : FuncData
  FLHow : FunD K "_law_how" "_law_how" (defArgs sLHow) (defBody sLHow) (defScope sLHow) [] [] (He.ga K "_law_how") fdLHow
  gLHow : mg "_law_how" = some (.ref (He.ga K "_law_how"))
  fdLStock : FuncData
  FLStock : FunD K "_law_stock" "_law_stock" (defArgs sLStock) (defBody sLStock) (defScope sLStock) [] [] (He.ga K "_law_stock") fdLStock
  gLStock : mg "_law_stock" = some (.ref (He.ga K "_law_stock"))
  fdLBegun : FuncData
  FLBegun : FunD K "_law_begun" "_law_begun" (defArgs sLBegun) (defBody sLBegun) (defScope sLBegun) [] [] (He.ga K "_law_begun") fdLBegun
  gLBegun : mg "_law_begun" = some (.ref (He.ga K "_law_begun"))
  fdLAskedNow : FuncData
  FLAskedNow : FunD K "_law_asked_now" "_law_asked_now" (defArgs sLAskedNow) (defBody sLAskedNow) (defScope sLAskedNow) [] [] (He.ga K "_law_asked_now") fdLAskedNow
  gLAskedNow : mg "_law_asked_now" = some (.ref (He.ga K "_law_asked_now"))
  fdLAsk : FuncData
  FLAsk : FunD K "_law_ask" "_law_ask" (defArgs sLAsk) (defBody sLAsk) (defScope sLAsk) [] [] (He.ga K "_law_ask") fdLAsk
  gLAsk : mg "_law_ask" = some (.ref (He.ga K "_law_ask"))
  fdLStands : FuncData
  FLStands : FunD K "_law_stands" "_law_stands" (defArgs sLStands) (defBody sLStands) (defScope sLStands) [] [] (He.ga K "_law_stands") fdLStands
  gLStands : mg "_law_stands" = some (.ref (He.ga K "_law_stands"))
  fdLRefused : FuncData
  FLRefused : FunD K "_law_refused" "_law_refused" (defArgs sLRefused) (defBody sLRefused) (defScope sLRefused) [] [] (He.ga K "_law_refused") fdLRefused
  gLRefused : mg "_law_refused" = some (.ref (He.ga K "_law_refused"))
  fdLDeedRight : FuncData
  FLDeedRight : FunD K "_law_deed_right" "_law_deed_right" (defArgs sLDeedRight) (defBody sLDeedRight) (defScope sLDeedRight) [] [] (He.ga K "_law_deed_right") fdLDeedRight
  gLDeedRight : mg "_law_deed_right" = some (.ref (He.ga K "_law_deed_right"))
  fdLRight : FuncData
  FLRight : FunD K "_law_right" "_law_right" (defArgs sLRight) (defBody sLRight) (defScope sLRight) [] [] (He.ga K "_law_right") fdLRight
  gLRight : mg "_law_right" = some (.ref (He.ga K "_law_right"))
  fdLaw : FuncData
  FLaw : FunD K "law" "law" (defArgs sLaw) (defBody sLaw) (defScope sLaw) [] [] (He.ga K "law") fdLaw
  gLaw : mg "law" = some (.ref (He.ga K "law"))
  fdMixingInit : FuncData
  FMixingInit : FunD K "__init__" "Mixing.__init__" (defArgs sMixingInit) (defBody sMixingInit) (defScope sMixingInit) [.non] [("factor", .int 7919)] (He.ma K (He.ga K "Mixing") "__init__") fdMixingInit
  mkMixing : Mk K (He.ga K "Mixing") (He.ma K (He.ga K "Mixing") "__init__")
  fdMixingEq : FuncData
  FMixingEq : FunD K "__eq__" "Mixing.__eq__" (defArgs sMixingEq) (defBody sMixingEq) (defScope sMixingEq) [] [] (He.ma K (He.ga K "Mixing") "__eq__") fdMixingEq
  mMixingEq : Meth K (He.ga K "Mixing") "__eq__" (He.ma K (He.ga K "Mixing") "__eq__")
  fdMixingRepr : FuncData
  FMixingRepr : FunD K "__repr__" "Mixing.__repr__" (defArgs sMixingRepr) (defBody sMixingRepr) (defScope sMixingRepr) [] [] (He.ma K (He.ga K "Mixing") "__repr__") fdMixingRepr
  mMixingRepr : Meth K (He.ga K "Mixing") "__repr__" (He.ma K (He.ga K "Mixing") "__repr__")
  fdMixingStr : FuncData
  FMixingStr : FunD K "__str__" "Mixing.__str__" (defArgs sMixingStr) (defBody sMixingStr) (defScope sMixingStr) [] [] (He.ma K (He.ga K "Mixing") "__str__") fdMixingStr
  mMixingStr : Meth K (He.ga K "Mixing") "__str__" (He.ma K (He.ga K "Mixing") "__str__")
  fdEntryInit : FuncData
  FEntryInit : FunD K "__init__" "Entry.__init__" (defArgs sEntryInit) (defBody sEntryInit) (defScope sEntryInit) [] [] (He.ma K (He.ga K "Entry") "__init__") fdEntryInit
  mkEntry : Mk K (He.ga K "Entry") (He.ma K (He.ga K "Entry") "__init__")
  fdBookInit : FuncData
  FBookInit : FunD K "__init__" "Book.__init__" (defArgs sBookInit) (defBody sBookInit) (defScope sBookInit) [] [("life", .int 9), ("most", .int 8)] (He.ma K (He.ga K "Book") "__init__") fdBookInit
  mkBook : Mk K (He.ga K "Book") (He.ma K (He.ga K "Book") "__init__")
  fdBookEntry : FuncData
  FBookEntry : FunD K "entry" "Book.entry" (defArgs sBookEntry) (defBody sBookEntry) (defScope sBookEntry) [] [] (He.ma K (He.ga K "Book") "entry") fdBookEntry
  mBookEntry : Meth K (He.ga K "Book") "entry" (He.ma K (He.ga K "Book") "entry")
  tdBookKnow_policy : tupA K (kda K ("Book", some "know") "policy") = true
  tdBookKnow_plan : tupA K (kda K ("Book", some "know") "plan") = true
  fdBookKnow : FuncData
  FBookKnow : FunD K "know" "Book.know" (defArgs sBookKnow) (defBody sBookKnow) (defScope sBookKnow) [] [("mixing", .non), ("policy", .ref (kda K ("Book", some "know") "policy")), ("plan", .ref (kda K ("Book", some "know") "plan")), ("many", .int 4), ("fixed", .int 2)] (He.ma K (He.ga K "Book") "know") fdBookKnow
  mBookKnow : Meth K (He.ga K "Book") "know" (He.ma K (He.ga K "Book") "know")
  fdBookPut : FuncData
  FBookPut : FunD K "put" "Book.put" (defArgs sBookPut) (defBody sBookPut) (defScope sBookPut) [] [("policy", .non), ("plan", .non)] (He.ma K (He.ga K "Book") "put") fdBookPut
  mBookPut : Meth K (He.ga K "Book") "put" (He.ma K (He.ga K "Book") "put")
  fdBookDrop : FuncData
  FBookDrop : FunD K "drop" "Book.drop" (defArgs sBookDrop) (defBody sBookDrop) (defScope sBookDrop) [] [] (He.ma K (He.ga K "Book") "drop") fdBookDrop
  mBookDrop : Meth K (He.ga K "Book") "drop" (He.ma K (He.ga K "Book") "drop")
  fdBookAsk : FuncData
  FBookAsk : FunD K "ask" "Book.ask" (defArgs sBookAsk) (defBody sBookAsk) (defScope sBookAsk) [] [] (He.ma K (He.ga K "Book") "ask") fdBookAsk
  mBookAsk : Meth K (He.ga K "Book") "ask" (He.ma K (He.ga K "Book") "ask")
  fdBookIsAsked : FuncData
  FBookIsAsked : FunD K "is_asked" "Book.is_asked" (defArgs sBookIsAsked) (defBody sBookIsAsked) (defScope sBookIsAsked) [] [] (He.ma K (He.ga K "Book") "is_asked") fdBookIsAsked
  mBookIsAsked : Meth K (He.ga K "Book") "is_asked" (He.ma K (He.ga K "Book") "is_asked")
  fdBookNames : FuncData
  FBookNames : FunD K "names" "Book.names" (defArgs sBookNames) (defBody sBookNames) (defScope sBookNames) [] [] (He.ma K (He.ga K "Book") "names") fdBookNames
  mBookNames : Meth K (He.ga K "Book") "names" (He.ma K (He.ga K "Book") "names")
  fdBookAsked : FuncData
  FBookAsked : FunD K "asked" "Book.asked" (defArgs sBookAsked) (defBody sBookAsked) (defScope sBookAsked) [] [] (He.ma K (He.ga K "Book") "asked") fdBookAsked
  mBookAsked : Meth K (He.ga K "Book") "asked" (He.ma K (He.ga K "Book") "asked")
  fdBookLast : FuncData
  FBookLast : FunD K "last" "Book.last" (defArgs sBookLast) (defBody sBookLast) (defScope sBookLast) [] [] (He.ma K (He.ga K "Book") "last") fdBookLast
  mBookLast : Meth K (He.ga K "Book") "last" (He.ma K (He.ga K "Book") "last")
  fdBookHistory : FuncData
  FBookHistory : FunD K "history" "Book.history" (defArgs sBookHistory) (defBody sBookHistory) (defScope sBookHistory) [] [] (He.ma K (He.ga K "Book") "history") fdBookHistory
  mBookHistory : Meth K (He.ga K "Book") "history" (He.ma K (He.ga K "Book") "history")
  fdBookLog : FuncData
  FBookLog : FunD K "log" "Book.log" (defArgs sBookLog) (defBody sBookLog) (defScope sBookLog) [] [] (He.ma K (He.ga K "Book") "log") fdBookLog
  mBookLog : Meth K (He.ga K "Book") "log" (He.ma K (He.ga K "Book") "log")
  fdBookLen : FuncData
  FBookLen : FunD K "__len__" "Book.__len__" (defArgs sBookLen) (defBody sBookLen) (defScope sBookLen) [] [] (He.ma K (He.ga K "Book") "__len__") fdBookLen
  mBookLen : Meth K (He.ga K "Book") "__len__" (He.ma K (He.ga K "Book") "__len__")
  fdStartErrorInit : FuncData
  FStartErrorInit : FunD K "__init__" "StartError.__init__" (defArgs sStartErrorInit) (defBody sStartErrorInit) (defScope sStartErrorInit) [] [] (He.ma K (He.ga K "StartError") "__init__") fdStartErrorInit
  clMixing : Cls K (He.ga K "Mixing")
  gMixing : mg "Mixing" = some (.ref (He.ga K "Mixing"))
  nMixing_width : NoAttr K (He.ga K "Mixing") "width"
  nMixing_factor : NoAttr K (He.ga K "Mixing") "factor"
  is_Mixing : IsF K (He.ga K "Mixing")
  clEntry : Cls K (He.ga K "Entry")
  gEntry : mg "Entry" = some (.ref (He.ga K "Entry"))
  nEntry_key : NoAttr K (He.ga K "Entry") "key"
  nEntry_mixing : NoAttr K (He.ga K "Entry") "mixing"
  nEntry_policy : NoAttr K (He.ga K "Entry") "policy"
  nEntry_plan : NoAttr K (He.ga K "Entry") "plan"
  nEntry_many : NoAttr K (He.ga K "Entry") "many"
  nEntry_fixed : NoAttr K (He.ga K "Entry") "fixed"
  nEntry_ticks : NoAttr K (He.ga K "Entry") "ticks"
  nEntry_good : NoAttr K (He.ga K "Entry") "good"
  nEntry_words : NoAttr K (He.ga K "Entry") "words"
  clBook : Cls K (He.ga K "Book")
  gBook : mg "Book" = some (.ref (He.ga K "Book"))
  nBook_life : NoAttr K (He.ga K "Book") "life"
  nBook_most : NoAttr K (He.ga K "Book") "most"
  nBook_entries : NoAttr K (He.ga K "Book") "entries"
  nBook_now : NoAttr K (He.ga K "Book") "now"
  nBook_given : NoAttr K (He.ga K "Book") "given"
  nBook_noted : NoAttr K (He.ga K "Book") "noted"
  nBook_is_busy : NoAttr K (He.ga K "Book") "is_busy"
  gStartError : mg "StartError" = some (.ref (He.ga K "StartError"))
  gBadMixing : mg "BadMixing" = some (.ref (He.ga K "BadMixing"))
  gKnown : mg "Known" = some (.ref (He.ga K "Known"))
  gUnknown : mg "Unknown" = some (.ref (He.ga K "Unknown"))
  gTooMany : mg "TooMany" = some (.ref (He.ga K "TooMany"))
  er : errOk K "StartError" ERRS = true
theorem Tx.bIsNumber {K : PySem.W.Frag} {mg : Str → Option Value} (T : Tx K mg) : Binds K T.fdIsNumber ["thing"] [] := T.FIsNumber.bindsN fun _ _ _ _ _ _ us hl => match us, hl with | [_], _ => rfl
theorem Tx.bCommonDivisor {K : PySem.W.Frag} {mg : Str → Option Value} (T : Tx K mg) : Binds K T.fdCommonDivisor ["number", "other"] [] := T.FCommonDivisor.bindsN fun _ _ _ _ _ _ us hl => match us, hl with | [_, _], _ => rfl
theorem Tx.bIsWidth {K : PySem.W.Frag} {mg : Str → Option Value} (T : Tx K mg) : Binds K T.fdIsWidth ["thing"] [] := T.FIsWidth.bindsN fun _ _ _ _ _ _ us hl => match us, hl with | [_], _ => rfl
theorem Tx.bIsFactor {K : PySem.W.Frag} {mg : Str → Option Value} (T : Tx K mg) : Binds K T.fdIsFactor ["thing", "width"] [] := T.FIsFactor.bindsN fun _ _ _ _ _ _ us hl => match us, hl with | [_, _], _ => rfl
theorem Tx.bLBox {K : PySem.W.Frag} {mg : Str → Option Value} (T : Tx K mg) : Binds K T.fdLBox ["_law_script", "_law_k"] [] := T.FLBox.bindsN fun _ _ _ _ _ _ us hl => match us, hl with | [_, _], _ => rfl
theorem Tx.bLTake {K : PySem.W.Frag} {mg : Str → Option Value} (T : Tx K mg) : Binds K T.fdLTake ["_law_box_here", "_law_size"] [] := T.FLTake.bindsN fun _ _ _ _ _ _ us hl => match us, hl with | [_, _], _ => rfl
theorem Tx.bLPick {K : PySem.W.Frag} {mg : Str → Option Value} (T : Tx K mg) : Binds K T.fdLPick ["_law_box_here", "_law_things"] [] := T.FLPick.bindsN fun _ _ _ _ _ _ us hl => match us, hl with | [_, _], _ => rfl
theorem Tx.bLNames {K : PySem.W.Frag} {mg : Str → Option Value} (T : Tx K mg) : Binds K T.fdLNames ["_law_box_here", "_law_size"] [] := T.FLNames.bindsN fun _ _ _ _ _ _ us hl => match us, hl with | [_, _], _ => rfl
theorem Tx.bLSame {K : PySem.W.Frag} {mg : Str → Option Value} (T : Tx K mg) : Binds K T.fdLSame ["_law_found", "_law_due"] [] := T.FLSame.bindsN fun _ _ _ _ _ _ us hl => match us, hl with | [_, _], _ => rfl
theorem Tx.bLShares {K : PySem.W.Frag} {mg : Str → Option Value} (T : Tx K mg) : Binds K T.fdLShares ["_law_one", "_law_two"] [] := T.FLShares.bindsN fun _ _ _ _ _ _ us hl => match us, hl with | [_, _], _ => rfl
theorem Tx.bLHow {K : PySem.W.Frag} {mg : Str → Option Value} (T : Tx K mg) : Binds K T.fdLHow ["_law_box_here"] [] := T.FLHow.bindsN fun _ _ _ _ _ _ us hl => match us, hl with | [_], _ => rfl
theorem Tx.bLStock {K : PySem.W.Frag} {mg : Str → Option Value} (T : Tx K mg) : Binds K T.fdLStock ["_law_box_here", "_law_size", "_law_kept"] [] := T.FLStock.bindsN fun _ _ _ _ _ _ us hl => match us, hl with | [_, _, _], _ => rfl
theorem Tx.bLBegun {K : PySem.W.Frag} {mg : Str → Option Value} (T : Tx K mg) : Binds K T.fdLBegun ["_law_life_told", "_law_top"] [] := T.FLBegun.bindsN fun _ _ _ _ _ _ us hl => match us, hl with | [_, _], _ => rfl
theorem Tx.bLAskedNow {K : PySem.W.Frag} {mg : Str → Option Value} (T : Tx K mg) : Binds K T.fdLAskedNow ["_law_w", "_law_name"] [] := T.FLAskedNow.bindsN fun _ _ _ _ _ _ us hl => match us, hl with | [_, _], _ => rfl
theorem Tx.bLAsk {K : PySem.W.Frag} {mg : Str → Option Value} (T : Tx K mg) : Binds K T.fdLAsk ["_law_book", "_law_w", "_law_name"] [] := T.FLAsk.bindsN fun _ _ _ _ _ _ us hl => match us, hl with | [_, _, _], _ => rfl
theorem Tx.bLStands {K : PySem.W.Frag} {mg : Str → Option Value} (T : Tx K mg) : Binds K T.fdLStands ["_law_book", "_law_w"] [] := T.FLStands.bindsN fun _ _ _ _ _ _ us hl => match us, hl with | [_, _], _ => rfl
theorem Tx.bLRefused {K : PySem.W.Frag} {mg : Str → Option Value} (T : Tx K mg) : Binds K T.fdLRefused ["_law_book", "_law_which", "_law_name", "_law_key"] [] := T.FLRefused.bindsN fun _ _ _ _ _ _ us hl => match us, hl with | [_, _, _, _], _ => rfl
theorem Tx.bLDeedRight {K : PySem.W.Frag} {mg : Str → Option Value} (T : Tx K mg) : Binds K T.fdLDeedRight ["_law_box_here", "_law_book", "_law_w", "_law_names_here"] [] := T.FLDeedRight.bindsN fun _ _ _ _ _ _ us hl => match us, hl with | [_, _, _, _], _ => rfl
theorem Tx.bLRight {K : PySem.W.Frag} {mg : Str → Option Value} (T : Tx K mg) : Binds K T.fdLRight ["_law_box_here"] [] := T.FLRight.bindsN fun _ _ _ _ _ _ us hl => match us, hl with | [_], _ => rfl
theorem Tx.bEntryInit {K : PySem.W.Frag} {mg : Str → Option Value} (T : Tx K mg) : Binds K T.fdEntryInit ["self", "key", "mixing", "policy", "plan", "many", "fixed"] [] := T.FEntryInit.bindsN fun _ _ _ _ _ _ us hl => match us, hl with | [_, _, _, _, _, _, _], _ => rfl
theorem Tx.bBookEntry {K : PySem.W.Frag} {mg : Str → Option Value} (T : Tx K mg) : Binds K T.fdBookEntry ["self", "name"] [] := T.FBookEntry.bindsN fun _ _ _ _ _ _ us hl => match us, hl with | [_, _], _ => rfl
theorem Tx.bBookDrop {K : PySem.W.Frag} {mg : Str → Option Value} (T : Tx K mg) : Binds K T.fdBookDrop ["self", "name"] [] := T.FBookDrop.bindsN fun _ _ _ _ _ _ us hl => match us, hl with | [_, _], _ => rfl
theorem Tx.bBookAsk {K : PySem.W.Frag} {mg : Str → Option Value} (T : Tx K mg) : Binds K T.fdBookAsk ["self", "name"] [] := T.FBookAsk.bindsN fun _ _ _ _ _ _ us hl => match us, hl with | [_, _], _ => rfl
theorem Tx.bBookIsAsked {K : PySem.W.Frag} {mg : Str → Option Value} (T : Tx K mg) : Binds K T.fdBookIsAsked ["self", "entry", "number"] [] := T.FBookIsAsked.bindsN fun _ _ _ _ _ _ us hl => match us, hl with | [_, _, _], _ => rfl
theorem Tx.bBookNames {K : PySem.W.Frag} {mg : Str → Option Value} (T : Tx K mg) : Binds K T.fdBookNames ["self"] [] := T.FBookNames.bindsN fun _ _ _ _ _ _ us hl => match us, hl with | [_], _ => rfl
theorem Tx.bBookAsked {K : PySem.W.Frag} {mg : Str → Option Value} (T : Tx K mg) : Binds K T.fdBookAsked ["self", "name"] [] := T.FBookAsked.bindsN fun _ _ _ _ _ _ us hl => match us, hl with | [_, _], _ => rfl
theorem Tx.bBookLast {K : PySem.W.Frag} {mg : Str → Option Value} (T : Tx K mg) : Binds K T.fdBookLast ["self", "name"] [] := T.FBookLast.bindsN fun _ _ _ _ _ _ us hl => match us, hl with | [_, _], _ => rfl
theorem Tx.bBookHistory {K : PySem.W.Frag} {mg : Str → Option Value} (T : Tx K mg) : Binds K T.fdBookHistory ["self", "name"] [] := T.FBookHistory.bindsN fun _ _ _ _ _ _ us hl => match us, hl with | [_, _], _ => rfl
theorem Tx.bBookLen {K : PySem.W.Frag} {mg : Str → Option Value} (T : Tx K mg) : Binds K T.fdBookLen ["self"] [] := T.FBookLen.bindsN fun _ _ _ _ _ _ us hl => match us, hl with | [_], _ => rfl
theorem Tx.bStartErrorInit {K : PySem.W.Frag} {mg : Str → Option Value} (T : Tx K mg) : Binds K T.fdStartErrorInit ["self", "what"] [] := T.FStartErrorInit.bindsN fun _ _ _ _ _ _ us hl => match us, hl with | [_, _], _ => rfl



end
section
variable {P : Program} {w : World} {K : PySem.W.Frag} {mg : Str → Option Value} {base : Heap}
local macro_rules | `(tactic| get_elem_tactic_trivial) => `(tactic| (repeat first | exact Wk.nil | exact Wk'.nil | refine Wk.same ?_ | refine Wk'.same ?_ | refine Wk.un (fun _ z => nomatch z) ?_ | refine Wk'.un ?_))
theorem hob_eq (s : PySem.W.SharedT) : hob s = hk.obs s.abs := obsE_eq (HandSHeadRun.getT_eq s)
theorem tx_of {K : PySem.W.Frag} {h : Heap} {mg : Str → Option Value} (X : K.In h) (G : h.Ns mainGlobals mg) (c : He.SaysD hfa hfn K) (cx : hex K = true) : ∃ T : Tx K mg, True := by
  obtain ⟨f0, F0⟩ := c.def_ 0 (d := ddWall) rfl
  obtain ⟨f1, F1⟩ := c.def_ 1 (d := ddIsNumber) rfl
  obtain ⟨f2, F2⟩ := c.def_ 2 (d := ddCommonDivisor) rfl
  obtain ⟨f3, F3⟩ := c.def_ 3 (d := ddIsWidth) rfl
  obtain ⟨f4, F4⟩ := c.def_ 4 (d := ddIsFactor) rfl
  obtain ⟨f5, F5⟩ := c.def_ 5 (d := ddLBox) rfl
  obtain ⟨f6, F6⟩ := c.def_ 6 (d := ddLTake) rfl
  obtain ⟨f7, F7⟩ := c.def_ 7 (d := ddLPick) rfl
  obtain ⟨f8, F8⟩ := c.def_ 8 (d := ddLNames) rfl
  obtain ⟨f9, F9⟩ := c.def_ 9 (d := ddLSame) rfl
  obtain ⟨f10, F10⟩ := c.def_ 10 (d := ddLShares) rfl
  obtain ⟨f11, F11⟩ := c.def_ 11 (d := ddLHow) rfl
  obtain ⟨f12, F12⟩ := c.def_ 12 (d := ddLStock) rfl
  obtain ⟨f13, F13⟩ := c.def_ 13 (d := ddLBegun) rfl
  obtain ⟨f14, F14⟩ := c.def_ 14 (d := ddLAskedNow) rfl
  obtain ⟨f15, F15⟩ := c.def_ 15 (d := ddLAsk) rfl
  obtain ⟨f16, F16⟩ := c.def_ 16 (d := ddLStands) rfl
  obtain ⟨f17, F17⟩ := c.def_ 17 (d := ddLRefused) rfl
  obtain ⟨f18, F18⟩ := c.def_ 18 (d := ddLDeedRight) rfl
  obtain ⟨f19, F19⟩ := c.def_ 19 (d := ddLRight) rfl
  obtain ⟨f20, F20⟩ := c.def_ 20 (d := ddLaw) rfl
  obtain ⟨f21, F21⟩ := c.def_ 21 (d := ddMixingInit) rfl
  obtain ⟨f22, F22⟩ := c.def_ 22 (d := ddMixingEq) rfl
  obtain ⟨f23, F23⟩ := c.def_ 23 (d := ddMixingRepr) rfl
  obtain ⟨f24, F24⟩ := c.def_ 24 (d := ddMixingStr) rfl
  obtain ⟨f25, F25⟩ := c.def_ 25 (d := ddEntryInit) rfl
  obtain ⟨f26, F26⟩ := c.def_ 26 (d := ddBookInit) rfl
  obtain ⟨f27, F27⟩ := c.def_ 27 (d := ddBookEntry) rfl
  obtain ⟨f28, F28⟩ := c.def_ 28 (d := ddBookKnow) rfl
  obtain ⟨f29, F29⟩ := c.def_ 29 (d := ddBookPut) rfl
  obtain ⟨f30, F30⟩ := c.def_ 30 (d := ddBookDrop) rfl
  obtain ⟨f31, F31⟩ := c.def_ 31 (d := ddBookAsk) rfl
  obtain ⟨f32, F32⟩ := c.def_ 32 (d := ddBookIsAsked) rfl
  obtain ⟨f33, F33⟩ := c.def_ 33 (d := ddBookNames) rfl
  obtain ⟨f34, F34⟩ := c.def_ 34 (d := ddBookAsked) rfl
  obtain ⟨f35, F35⟩ := c.def_ 35 (d := ddBookLast) rfl
  obtain ⟨f36, F36⟩ := c.def_ 36 (d := ddBookHistory) rfl
  obtain ⟨f37, F37⟩ := c.def_ 37 (d := ddBookLog) rfl
  obtain ⟨f38, F38⟩ := c.def_ 38 (d := ddBookLen) rfl
  obtain ⟨f39, F39⟩ := c.def_ 39 (d := ddStartErrorInit) rfl
  obtain ⟨cz0, zt1⟩ := He.ba cx
  obtain ⟨cz1, zt0⟩ := He.ba cz0
  obtain ⟨cz2, q0⟩ := He.ba cz1
  have e0 := cz2
  exact ⟨⟨⟨He.free_ok X G (c.fact 0 (f := .free "ValueError") rfl), He.free_ok X G (c.fact 1 (f := .free "repr") rfl), He.free_ok X G (c.fact 2 (f := .free "len") rfl), He.free_ok X G (c.fact 3 (f := .free "abs") rfl), He.free_ok X G (c.fact 4 (f := .free "int") rfl), He.free_ok X G (c.fact 5 (f := .free "isinstance") rfl), He.free_ok X G (c.fact 6 (f := .free "list") rfl), He.free_ok X G (c.fact 7 (f := .free "tuple") rfl), He.free_ok X G (c.fact 8 (f := .free "str") rfl), He.free_ok X G (c.fact 9 (f := .free "bool") rfl), He.free_ok X G (c.fact 10 (f := .free "all") rfl), He.free_ok X G (c.fact 11 (f := .free "zip") rfl), He.free_ok X G (c.fact 12 (f := .free "range") rfl), He.free_ok X G (c.fact 13 (f := .free "max") rfl), He.free_ok X G (c.fact 14 (f := .free "min") rfl), He.free_ok X G (c.fact 15 (f := .free "enumerate") rfl), He.free_ok X G (c.fact 16 (f := .free "divmod") rfl), He.free_ok X G (c.fact 17 (f := .free "sorted") rfl), He.free_ok X G (c.fact 18 (f := .free "set") rfl), He.free_ok X G (c.fact 19 (f := .free "any") rfl)⟩,
    He.int_ok X G (c.fact 41 (f := .int "FACTOR" 7919) rfl),
    He.int_ok X G (c.fact 42 (f := .int "BOARDS" 4) rfl),
    He.int_ok X G (c.fact 43 (f := .int "FIXED" 2) rfl),
    He.int_ok X G (c.fact 44 (f := .int "LIFE" 9) rfl),
    He.int_ok X G (c.fact 45 (f := .int "MACHINES" 8) rfl),
    He.int_ok X G (c.fact 46 (f := .int "LEAST_WIDTH" 3) rfl),
    He.int_ok X G (c.fact 47 (f := .int "GREATEST" 1000000) rfl),
    f0,
    F0,
    He.glo_ok X G (c.fact 20 (f := .glo "_wall") rfl),
    f1,
    F1,
    He.glo_ok X G (c.fact 21 (f := .glo "is_number") rfl),
    f2,
    F2,
    He.glo_ok X G (c.fact 22 (f := .glo "common_divisor") rfl),
    f3,
    F3,
    He.glo_ok X G (c.fact 23 (f := .glo "is_width") rfl),
    f4,
    F4,
    He.glo_ok X G (c.fact 24 (f := .glo "is_factor") rfl),
    f5,
    F5,
    He.glo_ok X G (c.fact 25 (f := .glo "_law_box") rfl),
    f6,
    F6,
    He.glo_ok X G (c.fact 26 (f := .glo "_law_take") rfl),
    f7,
    F7,
    He.glo_ok X G (c.fact 27 (f := .glo "_law_pick") rfl),
    f8,
    F8,
    He.glo_ok X G (c.fact 28 (f := .glo "_law_names") rfl),
    f9,
    F9,
    He.glo_ok X G (c.fact 29 (f := .glo "_law_same") rfl),
    f10,
    F10,
    He.glo_ok X G (c.fact 30 (f := .glo "_law_shares") rfl),
    f11,
    F11,
    He.glo_ok X G (c.fact 31 (f := .glo "_law_how") rfl),
    f12,
    F12,
    He.glo_ok X G (c.fact 32 (f := .glo "_law_stock") rfl),
    f13,
    F13,
    He.glo_ok X G (c.fact 33 (f := .glo "_law_begun") rfl),
    f14,
    F14,
    He.glo_ok X G (c.fact 34 (f := .glo "_law_asked_now") rfl),
    f15,
    F15,
    He.glo_ok X G (c.fact 35 (f := .glo "_law_ask") rfl),
    f16,
    F16,
    He.glo_ok X G (c.fact 36 (f := .glo "_law_stands") rfl),
    f17,
    F17,
    He.glo_ok X G (c.fact 37 (f := .glo "_law_refused") rfl),
    f18,
    F18,
    He.glo_ok X G (c.fact 38 (f := .glo "_law_deed_right") rfl),
    f19,
    F19,
    He.glo_ok X G (c.fact 39 (f := .glo "_law_right") rfl),
    f20,
    F20,
    He.glo_ok X G (c.fact 40 (f := .glo "law") rfl),
    f21,
    F21,
    He.mkr_ok (c.fact 50 (f := .mkr "Mixing") rfl),
    f22,
    F22,
    He.meth_ok (c.fact 53 (f := .meth "Mixing" "__eq__") rfl),
    f23,
    F23,
    He.meth_ok (c.fact 54 (f := .meth "Mixing" "__repr__") rfl),
    f24,
    F24,
    He.meth_ok (c.fact 55 (f := .meth "Mixing" "__str__") rfl),
    f25,
    F25,
    He.mkr_ok (c.fact 58 (f := .mkr "Entry") rfl),
    f26,
    F26,
    He.mkr_ok (c.fact 70 (f := .mkr "Book") rfl),
    f27,
    F27,
    He.meth_ok (c.fact 78 (f := .meth "Book" "entry") rfl),
    zt0,
    zt1,
    f28,
    F28,
    He.meth_ok (c.fact 79 (f := .meth "Book" "know") rfl),
    f29,
    F29,
    He.meth_ok (c.fact 80 (f := .meth "Book" "put") rfl),
    f30,
    F30,
    He.meth_ok (c.fact 81 (f := .meth "Book" "drop") rfl),
    f31,
    F31,
    He.meth_ok (c.fact 82 (f := .meth "Book" "ask") rfl),
    f32,
    F32,
    He.meth_ok (c.fact 83 (f := .meth "Book" "is_asked") rfl),
    f33,
    F33,
    He.meth_ok (c.fact 84 (f := .meth "Book" "names") rfl),
    f34,
    F34,
    He.meth_ok (c.fact 85 (f := .meth "Book" "asked") rfl),
    f35,
    F35,
    He.meth_ok (c.fact 86 (f := .meth "Book" "last") rfl),
    f36,
    F36,
    He.meth_ok (c.fact 87 (f := .meth "Book" "history") rfl),
    f37,
    F37,
    He.meth_ok (c.fact 88 (f := .meth "Book" "log") rfl),
    f38,
    F38,
    He.meth_ok (c.fact 89 (f := .meth "Book" "__len__") rfl),
    f39,
    F39,
    He.cls_ok (c.fact 48 (f := .cls "Mixing") rfl),
    He.glo_ok X G (c.fact 49 (f := .glo "Mixing") rfl),
    He.noat_ok (c.fact 51 (f := .noat "Mixing" "width") rfl),
    He.noat_ok (c.fact 52 (f := .noat "Mixing" "factor") rfl),
    neD_is q0,
    He.cls_ok (c.fact 56 (f := .cls "Entry") rfl),
    He.glo_ok X G (c.fact 57 (f := .glo "Entry") rfl),
    He.noat_ok (c.fact 59 (f := .noat "Entry" "key") rfl),
    He.noat_ok (c.fact 60 (f := .noat "Entry" "mixing") rfl),
    He.noat_ok (c.fact 61 (f := .noat "Entry" "policy") rfl),
    He.noat_ok (c.fact 62 (f := .noat "Entry" "plan") rfl),
    He.noat_ok (c.fact 63 (f := .noat "Entry" "many") rfl),
    He.noat_ok (c.fact 64 (f := .noat "Entry" "fixed") rfl),
    He.noat_ok (c.fact 65 (f := .noat "Entry" "ticks") rfl),
    He.noat_ok (c.fact 66 (f := .noat "Entry" "good") rfl),
    He.noat_ok (c.fact 67 (f := .noat "Entry" "words") rfl),
    He.cls_ok (c.fact 68 (f := .cls "Book") rfl),
    He.glo_ok X G (c.fact 69 (f := .glo "Book") rfl),
    He.noat_ok (c.fact 71 (f := .noat "Book" "life") rfl),
    He.noat_ok (c.fact 72 (f := .noat "Book" "most") rfl),
    He.noat_ok (c.fact 73 (f := .noat "Book" "entries") rfl),
    He.noat_ok (c.fact 74 (f := .noat "Book" "now") rfl),
    He.noat_ok (c.fact 75 (f := .noat "Book" "given") rfl),
    He.noat_ok (c.fact 76 (f := .noat "Book" "noted") rfl),
    He.noat_ok (c.fact 77 (f := .noat "Book" "is_busy") rfl),
    He.glo_ok X G (c.fact 90 (f := .glo "StartError") rfl),
    He.glo_ok X G (c.fact 91 (f := .glo "BadMixing") rfl),
    He.glo_ok X G (c.fact 92 (f := .glo "Known") rfl),
    He.glo_ok X G (c.fact 93 (f := .glo "Unknown") rfl),
    He.glo_ok X G (c.fact 94 (f := .glo "TooMany") rfl),
    e0⟩, trivial⟩

end
section
variable {P : Program} {w : World} {K : PySem.W.Frag} {mg : Str → Option Value} {base : Heap}
local macro_rules | `(tactic| get_elem_tactic_trivial) => `(tactic| (repeat first | exact Wk.nil | exact Wk'.nil | refine Wk.same ?_ | refine Wk'.same ?_ | refine Wk.un (fun _ z => nomatch z) ?_ | refine Wk'.un ?_))

end
section
variable {P : Program} {w : World} {K : PySem.W.Frag} {mg : Str → Option Value} {base : Heap}
local macro_rules | `(tactic| get_elem_tactic_trivial) => `(tactic| (repeat first | exact Wk.nil | exact Wk'.nil | refine Wk.same ?_ | refine Wk'.same ?_ | refine Wk.un (fun _ z => nomatch z) ?_ | refine Wk'.un ?_))
theorem okLBox (T : Tx K mg) : FnOk P w K mg base CX0 1 (He.ga K "_law_box") T.fdLBox ["_law_script", "_law_k"] (spLBox K) := by
  have B := T.B
  refine T.FLBox.ok scLBox (fun vs H Q E h => ?_) (fun cdv A outer s H vs Q E hr h => ?_)
  · obtain ⟨a, ns, k, rfl, _⟩ := h
    rfl
  · obtain ⟨a, ns, k, rfl, hS, hk, q⟩ := h
    refine ⟨_, PSs.nox (pss_cons (ps_set (i := 2) scLBox.nd rfl (.inl rfl) pe_int)
        (pss_cons (ps_if (pt_cmpR op_lt (pv 1) (pe_callB call_len_seq (by rfl) B.b_len PySem.boot_len (pa_cons (pv 0) pa_nil)) (nomark _)) (pss_one (ps_set (i := 2) scLBox.nd rfl (.inl rfl) (pe_ix ix_list (pv 0) (pv 1) (fun _ _ => rfl)))) pss_nil)
        (pss_one (ps_ret (pe_lst (pa_cons (pe_op op_mul (pe_callB call_abs (by rfl) B.b_abs boot_abs (pa_cons (pv 2) pa_nil)) (pe_callTy call_int1 (by rfl) B.b_int PyProof.Rows.boot_int (pa_cons (pe_cmpR op_ge (pe_callB call_abs (by rfl) B.b_abs boot_abs (pa_cons (pv 2) pa_nil)) (pe_op op_pow pe_int pe_int) (nomark _)) pa_nil))) (pa_cons (pe_op op_add (pe_op op_add (pe_op op_mod (pv 2) pe_int) (pe_op op_mul pe_int (pv 1))) pe_int) (pa_cons pe_int pa_nil)))))))), ?_⟩
    have fin : ∀ c : Int, tRet (tLst (tCons (tOp (rI CMul fun i j => .int (i * j)) (tCB (fun xs H Q => ∃ i, xs = [.int i] ∧ Q (.int (if i < 0 then -i else i)) H) (tCons (tVar 2) tNil))
        (tCB (fun xs H Q => (∃ i, xs = [.int i] ∧ Q (.int i) H) ∨ ∃ k, xs = [.bl k] ∧ Q (.int (if k then 1 else 0)) H) (tCons (tOp (rI0 fun i j => .bl (decide (j ≤ i))) (tCB (fun xs H Q => ∃ i, xs = [.int i] ∧ Q (.int (if i < 0 then -i else i)) H) (tCons (tVar 2) tNil)) (tOp (rI CPow fun i j => .int (i ^ j.toNat)) (tC (.int 10)) (tC (.int 18)))) tNil)))
        (tCons (tOp (rI0 fun i j => .int (i + j)) (tOp (rI0 fun i j => .int (i + j)) (tOp (rI (fun _ j => 0 < j) fun i j => .int (i % j)) (tVar 2) (tC (.int 2147483629))) (tOp (rI CMul fun i j => .int (i * j)) (tC (.int 7919)) (tVar 1))) (tC (.int 11))) (tCons (tC (.int 0)) tNil))))
        { nx := fun _ H' => Q .non H', rt := Q } [some (.ref a), some (.int k), some (.int c)] H := by
      intro c
      have hb : ∀ b : Bool, (0 : Int) ≤ (if c < 0 then -c else c) * (if b = true then 1 else 0) := by
        intro b
        cases b <;> simp <;> split <;> omega
      have h1 := Int.emod_nonneg c (b := 2147483629) (by decide)
      have h2 := Int.emod_lt_of_pos c (b := 2147483629) (by decide)
      refine ⟨_, rfl, c, rfl, _, rfl, c, rfl, _, _, rfl, rfl, ⟨by decide, by decide, by decide⟩, _, _, rfl, rfl, .inr ⟨_, rfl, _, _, rfl, rfl, .inr ⟨?_, ?_⟩, ?_⟩⟩
      · exact bit_lo _
      · exact bit_hi _
      · refine ⟨_, rfl, _, _, rfl, rfl, (show (0 : Int) < 2147483629 by decide), _, rfl, _, _, rfl, rfl, .inl ⟨by decide, by decide⟩, _, _, rfl, rfl, _, _, rfl, rfl, by show 3 ≤ sizeLine; decide, fun p hp => ?_⟩
        exact q p _ _ hp (hb _) (by omega) (by omega)
    refine ⟨_, rfl, _, rfl, a, _, rfl, .inl hS, _, _, rfl, rfl, _, rfl, ite2 (fun e => ?_) (fun e => ?_)⟩
    · have hlt : k < ns.length := by
        have := of_decide_eq_true e
        rw [List.length_map] at this
        omega
      refine ⟨_, rfl, _, rfl, a, _, _, _, rfl, rfl, hS, at_of (j := k) (v := .int ns[k]) rfl (by rw [List.getElem?_map, List.getElem?_eq_getElem hlt]; rfl), ?_⟩
      exact fin _
    · exact fin _
theorem okLTake (T : Tx K mg) : FnOk P w K mg base CX0 1 (He.ga K "_law_take") T.fdLTake ["_law_box_here", "_law_size"] spLTake := by
  have B := T.B
  refine T.FLTake.ok scLTake (fun vs H Q E h => ?_) (fun cdv A outer s H vs Q E hr h => ?_)
  · obtain ⟨p, m, n, rfl, _⟩ := h
    rfl
  · obtain ⟨p, m, n, rfl, hB, hn, hm, hm2, q⟩ := h
    refine ⟨_, PSs.nox (pss_cons (ps_if (pt_cmpR op_gt (pe_ix ix_list (pv 0) pe_int (fun _ _ => rfl)) pe_int (nomark _)) (pss_cons (ps_set (i := 2) scLTake.nd rfl (.inl rfl) (pe_op op_mod (pe_ix ix_list (pv 0) pe_int (fun _ _ => rfl)) (pv 1)))
        (pss_cons (ps_asg (pe_op op_fdivW (pe_ix ix_list (pv 0) pe_int (fun _ _ => rfl)) (pv 1)) (pg_sub (pv 0) pe_int set_list))
        (pss_one (ps_ret (pv 2))))) pss_nil)
        (pss_cons (ps_asg (pe_op op_add (pe_ix ix_list (pv 0) pe_int (fun _ _ => rfl)) pe_int) (pg_sub (pv 0) pe_int set_list))
        (pss_cons (ps_set (i := 3) scLTake.nd rfl (.inl rfl) (pe_op op_mod (pe_op op_pow (pe_op op_add (pe_ix ix_list (pv 0) pe_int (fun _ _ => rfl)) (pe_op op_mul pe_int (pe_ix ix_list (pv 0) pe_int (fun _ _ => rfl)))) pe_int) pe_int))
        (pss_one (ps_ret (pe_op op_mod (pe_op op_fdiv (pe_op op_mod (pe_op op_add (pe_op op_mul (pv 3) (pe_op op_add (pe_op op_mod (pv 3) pe_int) pe_int)) (pe_op op_mul (pe_ix ix_list (pv 0) pe_int (fun _ _ => rfl)) pe_int)) pe_int) pe_int) (pv 1))))))), ?_⟩
    obtain ⟨x, y, z, hp, hx, hy, hy2, hz, hzn⟩ := hB
    have hm3 : m.natAbs < 340282366920938463463374607431768211456 := by omega
    refine ⟨_, rfl, p, _, 0, .int x, rfl, rfl, SqL.of hp, atI_nat (j := 0) rfl, _, _, rfl, rfl, _, rfl, ite2 (fun e => ?_) (fun e => ?_)⟩
    · refine ⟨_, rfl, p, _, 0, .int x, rfl, rfl, SqL.of hp, atI_nat (j := 0) rfl, _, rfl, _, _, rfl, rfl, hm, ?_⟩
      refine ⟨_, rfl, p, _, 0, .int x, rfl, rfl, SqL.of hp, atI_nat (j := 0) rfl, _, rfl, _, _, rfl, rfl, wide_div (b := 128) hm hm3 (by decide) (by decide), ?_⟩
      refine ⟨_, rfl, p, _, 0, 0, rfl, rfl, hp, rfl, _, rfl, ?_⟩
      exact q _ _ But.upd ⟨_, y, z, upd_same, Int.ediv_nonneg hx (Int.le_of_lt hm), hy, hy2, hz, by omega⟩ (Int.emod_nonneg _ (by omega)) (Int.emod_lt_of_pos _ hm)
    · refine ⟨_, rfl, p, _, 2, .int z, rfl, rfl, SqL.of hp, atI_nat (j := 2) rfl, _, _, rfl, rfl, _, rfl, p, _, 2, 2, rfl, rfl, hp, rfl, ?_⟩
      have hp2 : upd H p (.lst [.int x, .int y, .int (z + 1)]) p = some (.lst [.int x, .int y, .int (z + 1)]) := upd_same
      refine ⟨_, rfl, p, _, 1, .int y, rfl, rfl, SqL.of hp2, atI_nat (j := 1) rfl, _, rfl, p, _, 2, .int (z + 1), rfl, rfl, SqL.of hp2, atI_nat (j := 2) rfl, _, _, rfl, rfl, .inl ⟨by decide, by decide⟩, _, _, rfl, rfl, _, _, rfl, rfl, ⟨by decide, by decide, ?_⟩, _, _, rfl, rfl, (show (0 : Int) < 2147483647 by decide), ?_⟩
      · have : (y + 39373 * (z + 1)).natAbs < 18446744073709551616 := by omega
        exact this
      · refine ⟨_, rfl, _, rfl, _, _, rfl, rfl, (show (0 : Int) < 40009 by decide), _, _, rfl, rfl, _, _, rfl, rfl, .inr ⟨?_, ?_⟩, _, rfl, p, _, 2, .int (z + 1), rfl, rfl, SqL.of hp2, atI_nat (j := 2) rfl, _, _, rfl, rfl, .inr ⟨by decide, by decide⟩, _, _, rfl, rfl, _, _, rfl, rfl, (show (0 : Int) < 2147483629 by decide), _, _, rfl, rfl, ⟨by decide, by decide⟩, _, rfl, _, _, rfl, rfl, hm, ?_⟩
        · have h1 := Int.emod_nonneg ((y + 39373 * (z + 1)) ^ 5 % 2147483647) (b := 40009) (by decide)
          have : -18446744073709551616 < ((y + 39373 * (z + 1)) ^ 5 % 2147483647) % 40009 + 7 := by omega
          exact this
        · have h1 := Int.emod_lt_of_pos ((y + 39373 * (z + 1)) ^ 5 % 2147483647) (b := 40009) (by decide)
          have : ((y + 39373 * (z + 1)) ^ 5 % 2147483647) % 40009 + 7 < 18446744073709551616 := by omega
          exact this
        · exact q _ _ But.upd ⟨x, y, z + 1, hp2, hx, hy, hy2, by omega, by omega⟩ (Int.emod_nonneg _ (by omega)) (Int.emod_lt_of_pos _ hm)
theorem okTakeD (T : Tx K mg) : FnOk P w K mg base CX0 1 (He.ga K "_law_take") T.fdLTake ["_law_box_here", "_law_size"] (spD K 2 wTake) := (okLTake T).imp fun vs H Q E h => take_imp h

end
section
variable {P : Program} {w : World} {K : PySem.W.Frag} {mg : Str → Option Value} {base : Heap}
local macro_rules | `(tactic| get_elem_tactic_trivial) => `(tactic| (repeat first | exact Wk.nil | exact Wk'.nil | refine Wk.same ?_ | refine Wk'.same ?_ | refine Wk.un (fun _ z => nomatch z) ?_ | refine Wk'.un ?_))
theorem okStartErrorInit (T : Tx K mg) : FnOk P w K mg base CX0 1 (He.ma K (He.ga K "StartError") "__init__") T.fdStartErrorInit ["self", "what"] (spInitE K) := by
  have B := T.B
  refine T.FStartErrorInit.ok scStartErrorInit (fun vs H Q E h => ?_) (fun cdv A outer s H vs Q E hr h => ?_)
  · obtain ⟨a, C, fI, v, rfl, _⟩ := h
    rfl
  · obtain ⟨a, C, fI, v, rfl, ha, T1, q⟩ := h
    refine ⟨_, PSs.nox (pss_one (ps_ost (pv 0) (pv 1))), ?_⟩
    refine ⟨_, rfl, _, rfl, a, C, rfl, T1.ox, T1.wh, .inl ⟨ha, fun dx hd ne => ?_⟩⟩
    exact q dx hd ne
theorem exRoot (T : Tx K mg) {c : Str} (hc : c ∈ ERRS) : PySem.W.exmOne K (.ref (He.ga K c)) (.ref (He.ga K "StartError")) = some true := by
  rw [err_ex T.er hc (by decide +kernel), decide_eq_true (rfl : ("StartError" : Str) = "StartError"), Bool.or_true]
theorem evOne (T : Tx K mg) {c e : Str} (hc : c ∈ ERRS) (he : e ∈ ERRS) {b : Bool} (h : (decide (e = c) || decide (e = ("StartError" : Str))) = b) : IsEv K c (.ref (He.ga K e)) b := by
  rw [← h]
  exact isE T.er hc he
theorem evW (T : Tx K mg) {c : Str} (hc : c ∈ ERRS) : ∃ fI, ECl K (He.ga K c) fI := ⟨_, err_cl T.er hc⟩

end
section
variable {P : Program} {w : World} {K : PySem.W.Frag} {mg : Str → Option Value} {base : Heap}
local macro_rules | `(tactic| get_elem_tactic_trivial) => `(tactic| (repeat first | exact Wk.nil | exact Wk'.nil | refine Wk.same ?_ | refine Wk'.same ?_ | refine Wk.un (fun _ z => nomatch z) ?_ | refine Wk'.un ?_))
/-! a mixing made: the old layer's promises, told over data -/
def Cop (a b : Int) : Prop := ∀ c : Int, 0 < c → c ∣ a → c ∣ b → c = 1
theorem cop_mod {a m : Int} (h : Cop a m) : Cop m (a % m) := fun c hc h1 h2 => by
  refine h c hc ?_ h1
  have e := Int.mul_ediv_add_emod a m
  rw [← e]
  exact Int.dvd_add (Int.dvd_trans h1 (Int.dvd_mul_right _ _)) h2
theorem cop_back {a m : Int} (h : Cop m (a % m)) : Cop a m := fun c hc h1 h2 => by
  refine h c hc h2 ?_
  have e := Int.mul_ediv_add_emod a m
  have e2 : a % m = a - m * (a / m) := by omega
  rw [e2]
  exact Int.dvd_sub h1 (Int.dvd_trans h2 (Int.dvd_mul_right _ _))
theorem Cop.symm {a b : Int} (h : Cop a b) : Cop b a := fun c hc h1 h2 => h c hc h2 h1
theorem cop_one (b : Int) : Cop 1 b := fun c hc h1 _ => Int.eq_one_of_dvd_one (Int.le_of_lt hc) h1
structure OkMix (w : Option Int) (f : Int) : Prop where
  f1 : 1 ≤ f
  f2 : f ≤ 1000000
  w_ : ∀ n, w = some n → 3 ≤ n ∧ n ≤ 1000000 ∧ Cop f n
def wV : Option Int → V
  | none => .non
  | some n => .int n
def wDt : Option Int → Dt
  | none => .non
  | some n => .int n
theorem rp_w {C : Hp} {v : V} {w : Option Int} (h : Rp K C v (wDt w)) : v = wV w := by
  cases w <;> cases h <;> rfl
abbrev mixD (w : Option Int) (f : Int) : Dt := .obj "Mixing" ["width", "factor"] [wDt w, .int f]
def okMixD : List Dt → Prop := fun ds => ∃ (w : Option Int) (f : Int), OkMix w f ∧ ds = [wDt w, .int f]
theorem mxf_zip (w : Option Int) (f : Int) : putF "factor" (.int f) (putF "width" (wV w) []) = (["width", "factor"] : List Str).zip [wV w, .int f] := by
  show (if ("width" : Str) = "factor" then _ else _) = _
  rw [if_neg (by decide +kernel)]
  rfl
namespace OlN
def spIsNumber : Sp := fun vs H Q _ => ∃ i : Int, vs = [.int i] ∧ Q (.bl true) H
def spIsWidth : Sp := fun vs H Q _ => ∃ w : Option Int, vs = [wV w] ∧ (∀ n, w = some n → 3 ≤ n ∧ n ≤ 1000000) ∧ Q (.bl true) H
def spIsFactor : Sp := fun vs H Q _ => ∃ (w : Option Int) (f : Int), vs = [.int f, wV w] ∧ OkMix w f ∧ Q (.bl true) H
def spCommonDivisor : Sp := fun vs H Q _ => ∃ a b : Int, vs = [.int a, .int b] ∧ 0 < a ∧ 0 ≤ b ∧ Cop a b ∧ Q (.int 1) H
def spMixingInit (K : PySem.W.Frag) : Sp := fun vs H Q _ => ∃ (p dx : Addr) (w : Option Int) (f : Int), vs = [.ref p, wV w, .int f] ∧ H p = some (.ins (He.ga K "Mixing") dx []) ∧ OkMix w f ∧
  ∀ G : Hp, G p = some (.ins (He.ga K "Mixing") dx ((["width", "factor"] : List Str).zip [wV w, .int f])) → But p H G → Q .non G
theorem okIsNumber (T : Tx K mg) : FnOk P w K mg base CX0 1 (He.ga K "is_number") T.fdIsNumber ["thing"] spIsNumber := by
  have B := T.B
  refine T.FIsNumber.ok scIsNumber (fun vs H Q E h => ?_) (fun cdv A outer s H vs Q E hr h => ?_)
  · obtain ⟨i, rfl, _⟩ := h
    rfl
  · obtain ⟨i, rfl, q⟩ := h
    refine ⟨_, PSs.nox (pss_one (ps_ret (pe_and (pe_callB call_isi (by rfl) B.b_isinstance boot_isinstance (pa_cons (pv 0) (pa_cons (pe_bltn (v := .ty "int") (by rfl) B.b_int PyProof.Rows.boot_int rfl) pa_nil))) (pe_one (pe_not (pe_callB call_isi (by rfl) B.b_isinstance boot_isinstance (pa_cons (pv 0) (pa_cons (pe_bltn (v := .ty "bool") (by rfl) B.b_bool PyProof.Rows.boot_bool rfl) pa_nil)))))))), ?_⟩
    refine ⟨_, rfl, _, _, _, _, _, rfl, .ty _, .base (.int i), kit_ty (r := true) (by decide +kernel), _, rfl, iteT ?_⟩
    exact ⟨_, rfl, _, _, _, _, _, rfl, .ty _, .base (.int i), kit_ty (r := false) (by decide +kernel), _, rfl, q⟩
theorem okCommonDivisor (T : Tx K mg) : FnOk P w K mg base CX0 1 (He.ga K "common_divisor") T.fdCommonDivisor ["number", "other"] spCommonDivisor := by
  have B := T.B
  refine T.FCommonDivisor.ok scCommonDivisor (fun vs H Q E h => ?_) (fun cdv A outer s H vs Q E hr h => ?_)
  · obtain ⟨a, b, rfl, _⟩ := h
    rfl
  · obtain ⟨a, b, rfl, ha, hb, hc, q⟩ := h
    refine ⟨_, PSs.nox (pss_cons (ps_while PassesOwn.never (pt_cmpR op_ne (pv 1) pe_int (nomark _))
        (pss_one (ps_par (i := 0) (j := 1) (by rfl) scCommonDivisor.nd rfl rfl (by decide) rfl rfl (pa_cons (pv 1) (pa_cons (pe_op op_mod (pv 0) (pv 1)) pa_nil)) (by rfl))))
        (pss_one (ps_ret (pv 0)))), ?_⟩
    refine while_by (fun σ G => G = H ∧ ∃ (x y : Int), σ = [some (.int x), some (.int y)] ∧ 0 < x ∧ 0 ≤ y ∧ Cop x y) (fun σ _ => match σ with | [_, some (.int y)] => y.toNat | _ => 0) ⟨rfl, a, b, rfl, ha, hb, hc⟩ ?_ ?_
    · rintro σ G ⟨rfl, x, y, rfl, hx, hy, hxy⟩
      refine ⟨_, rfl, rfl, _, rfl, ?_⟩
      by_cases e : y = 0
      · subst e
        rw [decide_eq_true rfl]
        refine iteF ?_
        have e1 := hxy x hx (Int.dvd_refl _) (Int.dvd_zero _)
        subst e1
        exact ⟨_, rfl, q⟩
      · rw [decide_eq_false fun z => e (V.int.inj z)]
        refine iteT ?_
        have hy1 : 0 < y := by omega
        have h1 := Int.emod_nonneg x (b := y) (by omega)
        have h2 := Int.emod_lt_of_pos x hy1
        refine ⟨_, rfl, _, rfl, _, rfl, _, _, rfl, rfl, hy1, _, _, rfl, ?_⟩
        refine ⟨⟨rfl, _, _, rfl, hy1, h1, cop_mod hxy⟩, ?_⟩
        show (x % y).toNat < y.toNat
        omega
    · intro σ G Q1 Q2 hq h
      obtain ⟨v, e1, e2, k, e3, z⟩ := h
      exact ⟨v, e1, e2, k, e3, hq _ _ z⟩
theorem okIsWidth (T : Tx K mg) : FnOk P w K mg base CX0 2 (He.ga K "is_width") T.fdIsWidth ["thing"] spIsWidth := by
  have B := T.B
  have GIsNumber : FnOk P w K mg base CX0 1 (He.ga K "is_number") T.fdIsNumber ["thing"] spIsNumber := okIsNumber T
  have bIsNumber := T.bIsNumber
  refine T.FIsWidth.ok scIsWidth (fun vs H Q E h => ?_) (fun cdv A outer s H vs Q E hr h => ?_)
  · obtain ⟨w, rfl, _⟩ := h
    rfl
  · obtain ⟨w, rfl, hw, q⟩ := h
    refine ⟨_, PSs.nox (pss_one (ps_ret (pe_or (pe_cmpR op_isN (pv 0) pe_non (nomark _)) (pe_one (pe_and (pe_call GIsNumber (hr.mono (by decide)) (by rfl) T.gIsNumber T.FIsNumber.kp bIsNumber .nil pass0 (pa_cons (pv 0) pa_nil)) (pe_one (pe_chain op_le op_le (pe_glob (v := .int 3) (by rfl) T.c_LEAST_WIDTH.choose_spec ⟨_, rfl⟩) (pv 0) (pe_glob (v := .int 1000000) (by rfl) T.c_GREATEST.choose_spec ⟨_, rfl⟩)))))))), ?_⟩
    cases w with
    | none => exact ⟨_, rfl, rfl, _, rfl, iteT q⟩
    | some n =>
      obtain ⟨h1, h2⟩ := hw n rfl
      refine ⟨_, rfl, rfl, _, rfl, iteF ?_⟩
      refine ⟨_, rfl, n, rfl, _, rfl, iteT ?_⟩
      refine ⟨_, rfl, _, _, rfl, rfl, _, rfl, ?_⟩
      rw [decide_eq_true h1]
      refine iteT ?_
      refine ⟨_, _, rfl, rfl, ?_⟩
      exact qt h2 q
theorem okIsFactor (T : Tx K mg) : FnOk P w K mg base CX0 2 (He.ga K "is_factor") T.fdIsFactor ["thing", "width"] spIsFactor := by
  have B := T.B
  have GIsNumber : FnOk P w K mg base CX0 1 (He.ga K "is_number") T.fdIsNumber ["thing"] spIsNumber := okIsNumber T
  have bIsNumber := T.bIsNumber
  have GCommonDivisor : FnOk P w K mg base CX0 1 (He.ga K "common_divisor") T.fdCommonDivisor ["number", "other"] spCommonDivisor := okCommonDivisor T
  have bCommonDivisor := T.bCommonDivisor
  refine T.FIsFactor.ok scIsFactor (fun vs H Q E h => ?_) (fun cdv A outer s H vs Q E hr h => ?_)
  · obtain ⟨w, f, rfl, _⟩ := h
    rfl
  · obtain ⟨w, f, rfl, ok, q⟩ := h
    refine ⟨_, PSs.nox (pss_cons (ps_if (PW.pt (pw_or (pt_not (pt_val (pe_call GIsNumber (hr.mono (by decide)) (by rfl) T.gIsNumber T.FIsNumber.kp bIsNumber .nil pass0 (pa_cons (pv 0) pa_nil)))) (pw_or1 (pt_not (pt_chain op_le op_le pe_int (pv 0) (pe_glob (v := .int 1000000) (by rfl) T.c_GREATEST.choose_spec ⟨_, rfl⟩)))))) (pss_one (ps_ret pe_bl)) pss_nil)
        (pss_one (ps_ret (pe_or (pe_cmpR op_isN (pv 1) pe_non (nomark _)) (pe_one (pe_cmpR op_eq (pe_call GCommonDivisor (hr.mono (by decide)) (by rfl) T.gCommonDivisor T.FCommonDivisor.kp bCommonDivisor .nil pass0 (pa_cons (pv 0) (pa_cons (pv 1) pa_nil))) pe_int (nomark _))))))), ?_⟩
    have f1 := ok.f1
    have f2 := ok.f2
    refine ⟨_, rfl, f, rfl, _, rfl, iteF ?_⟩
    refine ⟨_, rfl, _, _, rfl, rfl, _, rfl, ?_⟩
    rw [decide_eq_true f1]
    refine iteT ?_
    refine ⟨_, _, rfl, rfl, _, rfl, ?_⟩
    rw [decide_eq_true f2]
    refine iteF ?_
    cases w with
    | none => exact ⟨_, rfl, rfl, _, rfl, iteT q⟩
    | some n =>
      obtain ⟨h1, h2, h3⟩ := ok.w_ n rfl
      refine ⟨_, rfl, rfl, _, rfl, iteF ?_⟩
      exact ⟨_, rfl, _, rfl, f, n, rfl, by omega, by omega, h3, rfl, q⟩
theorem okMixingInit (T : Tx K mg) : FnOk P w K mg base CX0 3 (He.ma K (He.ga K "Mixing") "__init__") T.fdMixingInit ["self", "width", "factor"] (spMixingInit K) := by
  have B := T.B
  have GIsWidth : FnOk P w K mg base CX0 2 (He.ga K "is_width") T.fdIsWidth ["thing"] spIsWidth := okIsWidth T
  have bIsWidth := T.bIsWidth
  have GStartErrorInit : FnOk P w K mg base CX0 1 (He.ma K (He.ga K "StartError") "__init__") T.fdStartErrorInit ["self", "what"] (spInitE K) := okStartErrorInit T
  have bStartErrorInit := T.bStartErrorInit
  have GIsFactor : FnOk P w K mg base CX0 2 (He.ga K "is_factor") T.fdIsFactor ["thing", "width"] spIsFactor := okIsFactor T
  have bIsFactor := T.bIsFactor
  refine T.FMixingInit.ok scMixingInit (fun vs H Q E h => ?_) (fun cdv A outer s H vs Q E hr h => ?_)
  · obtain ⟨p, dx, w, f, rfl, _⟩ := h
    rfl
  · obtain ⟨p, dx, w, f, rfl, hp, ok, q⟩ := h
    refine ⟨_, PSs.nox (pss_cons (ps_if (pt_not (pt_val (pe_call GIsWidth (hr.mono (by decide)) (by rfl) T.gIsWidth T.FIsWidth.kp bIsWidth .nil pass0 (pa_cons (pv 1) pa_nil)))) (pss_one ps_never) pss_nil)
        (pss_cons (ps_if (pt_not (pt_val (pe_call GIsFactor (hr.mono (by decide)) (by rfl) T.gIsFactor T.FIsFactor.kp bIsFactor .nil pass0 (pa_cons (pv 2) (pa_cons (pv 1) pa_nil))))) (pss_one ps_never) pss_nil)
        (pss_cons (ps_fld (pv 0) (pv 1) rfl)
        (pss_one (ps_fld (pv 0) (pv 2) rfl))))), ?_⟩
    refine ⟨_, rfl, w, rfl, fun n e => ⟨(ok.w_ n e).1, (ok.w_ n e).2.1⟩, _, rfl, iteF ?_⟩
    refine ⟨_, rfl, _, rfl, w, f, rfl, ok, _, rfl, iteF ?_⟩
    refine ⟨_, rfl, _, rfl, p, _, dx, [], rfl, hp, T.clMixing, T.nMixing_width, by show 0 < 1000; decide, ?_⟩
    refine ⟨_, rfl, _, rfl, p, _, dx, _, rfl, upd_same, T.clMixing, T.nMixing_factor, by show 1 < 1000; decide, ?_⟩
    refine q _ (by rw [upd_same, mxf_zip]) fun b o e hb => ?_
    rw [upd_ne hb, upd_ne hb]
    exact e
theorem okMixingD (T : Tx K mg) : FnOk P w K mg base CX0 3 (He.ma K (He.ga K "Mixing") "__init__") T.fdMixingInit ["self", "width", "factor"] (spIni K "Mixing" ["width", "factor"] okMixD) := (okMixingInit T).imp fun vs H Q E h => by
  obtain ⟨p, dx, us, ds, C, rfl, hp, rl, ⟨w, f, ok, rfl⟩, _, q⟩ := h
  cases rl with
  | cons r1 rl =>
    cases rl with
    | cons r2 rl =>
      cases rl
      cases rp_w r1
      cases r2
      exact ⟨p, dx, w, f, rfl, hp, ok, q⟩
end OlN

end
section
variable {P : Program} {w : World} {K : PySem.W.Frag} {mg : Str → Option Value} {base : Heap}
local macro_rules | `(tactic| get_elem_tactic_trivial) => `(tactic| (repeat first | exact Wk.nil | exact Wk'.nil | refine Wk.same ?_ | refine Wk'.same ?_ | refine Wk.un (fun _ z => nomatch z) ?_ | refine Wk'.un ?_))
theorem okLSame (T : Tx K mg) : ∀ n : Nat, FnOk P w K mg base CX0 n (He.ga K "_law_same") T.fdLSame ["_law_found", "_law_due"] (spLSame K n)
  | 0 => ⟨fun vs H Q E h => by obtain ⟨x, y, d, _, _, _, h, _, _⟩ := h; exact absurd h (Nat.not_lt_zero _), fun A outer s H args us vs Q E _ _ _ _ h => by obtain ⟨x, y, d, _, _, _, h, _, _⟩ := h; exact absurd h (Nat.not_lt_zero _)⟩
  | n + 1 => by
    have GLSame : FnOk P w K mg base CX0 n (He.ga K "_law_same") T.fdLSame ["_law_found", "_law_due"] (spLSame K n) := okLSame T n
    have B := T.B
    have bLSame := T.bLSame
    refine T.FLSame.ok scLSame (fun vs H Q E h => ?_) (fun cdv A outer s H vs Q E hr h => ?_)
    · obtain ⟨x, y, d, rfl, _⟩ := h
      rfl
    · obtain ⟨x, y, d, rfl, hx, hy, hd, hw, q⟩ := h
      refine ⟨_, PSs.nox (pss_cons (ps_if (pt_val (pe_callB call_isiT (by rfl) B.b_isinstance boot_isinstance (pa_cons (pv 1) (pa_cons (pe_tup (pa_cons (pe_bltn (v := .ty "list") (by rfl) B.b_list PyProof.Rows.boot_list rfl) (pa_cons (pe_bltn (v := .ty "tuple") (by rfl) B.b_tuple PyProof.Rows.boot_tuple rfl) pa_nil))) pa_nil)))) (pss_cons (ps_if (PW.pt (pw_or (pt_cmpR op_ne (pe_callB call_isi (by rfl) B.b_isinstance boot_isinstance (pa_cons (pv 0) (pa_cons (pe_bltn (v := .ty "list") (by rfl) B.b_list PyProof.Rows.boot_list rfl) pa_nil))) (pe_callB call_isi (by rfl) B.b_isinstance boot_isinstance (pa_cons (pv 1) (pa_cons (pe_bltn (v := .ty "list") (by rfl) B.b_list PyProof.Rows.boot_list rfl) pa_nil))) (nomark _)) (pw_or1 (pt_cmpR op_ne (pe_callB call_isi (by rfl) B.b_isinstance boot_isinstance (pa_cons (pv 0) (pa_cons (pe_bltn (v := .ty "tuple") (by rfl) B.b_tuple PyProof.Rows.boot_tuple rfl) pa_nil))) (pe_callB call_isi (by rfl) B.b_isinstance boot_isinstance (pa_cons (pv 1) (pa_cons (pe_bltn (v := .ty "tuple") (by rfl) B.b_tuple PyProof.Rows.boot_tuple rfl) pa_nil))) (nomark _))))) (pss_one (ps_ret pe_bl)) pss_nil)
        (pss_cons (ps_if (pt_cmpR op_ne (pe_callB call_len_seq (by rfl) B.b_len PySem.boot_len (pa_cons (pv 0) pa_nil)) (pe_callB call_len_seq (by rfl) B.b_len PySem.boot_len (pa_cons (pv 1) pa_nil)) (nomark _)) (pss_one (ps_ret pe_bl)) pss_nil)
        (pss_one (ps_ret (pe_callB (cr_all rfl) (by rfl) B.b_all boot_all (pa_cons (pe_lc (own := [("_law_one", 2), ("_law_two", 3)]) (g := gTup K 2 (gCons (gName 2) (gCons (gName 3) gNil))) (tt := tYes) (by rfl) scLSame.nd (RZ.pi_zipA (by rfl) B.b_zip (pa_cons (pv 0) (pa_cons (pv 1) pa_nil))) (blkOk_by (own := [("_law_one", 2), ("_law_two", 3)]) (N := ["_law_found", "_law_due", "_law_one", "_law_two"]) (sc := defScope sLSame) (by decide +kernel)) (fun _ _ _ _ _ => by exact (pg_tup rfl (pgs_cons (pg_name (i := 2) scLSame.nd rfl (Or.inl rfl)) (pgs_cons (pg_name (i := 3) scLSame.nd rfl (Or.inl rfl)) pgs_nil)))) (fun _ _ _ _ _ => pts_nil) (fun _ _ _ _ _ => (pe_call GLSame hr (by rfl) T.gLSame T.FLSame.kp bLSame .nil pass0 (pa_cons (pv 2) (pa_cons (pv 3) pa_nil))))) pa_nil)))))) pss_nil)
        (pss_cons (ps_if (PW.pt (pw_or (pt_cmpR op_isN (pv 1) pe_non (nomark _)) (pw_or1 (pt_val (pe_callB call_isi (by rfl) B.b_isinstance boot_isinstance (pa_cons (pv 1) (pa_cons (pe_bltn (v := .ty "str") (by rfl) B.b_str PyProof.Rows.boot_str rfl) pa_nil))))))) (pss_one (ps_ret (pe_and (pe_cmpR op_eq (pv 0) (pv 1) (nomark _)) (pe_one (pe_cmpR op_eq (pe_callB call_isi (by rfl) B.b_isinstance boot_isinstance (pa_cons (pv 0) (pa_cons (pe_bltn (v := .ty "str") (by rfl) B.b_str PyProof.Rows.boot_str rfl) pa_nil))) (pe_callB call_isi (by rfl) B.b_isinstance boot_isinstance (pa_cons (pv 1) (pa_cons (pe_bltn (v := .ty "str") (by rfl) B.b_str PyProof.Rows.boot_str rfl) pa_nil))) (nomark _)))))) pss_nil)
        (pss_one (ps_ret (pe_and (pe_callB call_isi (by rfl) B.b_isinstance boot_isinstance (pa_cons (pv 0) (pa_cons (pe_bltn (v := .ty "int") (by rfl) B.b_int PyProof.Rows.boot_int rfl) pa_nil))) (pe_and (pe_cmpR op_eq (pe_callB call_isi (by rfl) B.b_isinstance boot_isinstance (pa_cons (pv 0) (pa_cons (pe_bltn (v := .ty "bool") (by rfl) B.b_bool PyProof.Rows.boot_bool rfl) pa_nil))) (pe_callB call_isi (by rfl) B.b_isinstance boot_isinstance (pa_cons (pv 1) (pa_cons (pe_bltn (v := .ty "bool") (by rfl) B.b_bool PyProof.Rows.boot_bool rfl) pa_nil))) (nomark _)) (pe_one (pe_cmpR op_eq (pv 0) (pv 1) (nomark _))))))))), ?_⟩
      refine ⟨_, rfl, (by show 2 ≤ sizeLine; decide), fun tp htp => ?_⟩
      have s1 : Same H (upd H tp (.tup [.ty "list", .ty "tuple"])) := same_new htp
      have hx1 := dp_same s1 d x hx
      have hy1 := dp_same s1 d y hy
      cases d with
      | none =>
        cases hx1; cases hy1
        refine ⟨_, tp, _, _, _, _, rfl, upd_same, cls2, .base .non, kit_none K _ (by decide +kernel) (by decide +kernel), _, rfl, iteF ?_⟩
        refine ⟨_, rfl, rfl, _, rfl, iteT ?_⟩
        refine iteT ?_
        refine ⟨_, rfl, _, rfl, rfl, _, rfl, iteT ?_⟩
        refine ⟨_, rfl, _, _, _, _, _, rfl, .ty _, .base .non, kit_ty (r := false) (by decide +kernel), _, rfl, _, _, _, _, _, rfl, .ty _, .base .non, kit_ty (r := false) (by decide +kernel), rfl, ?_⟩
        exact q _ s1
      | bool z =>
        cases hx1; cases hy1
        refine ⟨_, tp, _, _, _, _, rfl, upd_same, cls2, .base (.bl z), kit_none K _ (by decide +kernel) (by decide +kernel), _, rfl, iteF ?_⟩
        refine ⟨_, rfl, rfl, _, rfl, iteF ?_⟩
        refine ⟨_, rfl, _, _, _, _, _, rfl, .ty _, .base (.bl z), kit_ty (r := false) (by decide +kernel), _, rfl, iteF ?_⟩
        refine ⟨_, rfl, _, _, _, _, _, rfl, .ty _, .base (.bl z), kit_ty (r := true) (by decide +kernel), _, rfl, iteT ?_⟩
        refine ⟨_, rfl, _, _, _, _, _, rfl, .ty _, .base (.bl z), kit_ty (r := true) (by decide +kernel), _, rfl, _, _, _, _, _, rfl, .ty _, .base (.bl z), kit_ty (r := true) (by decide +kernel), rfl, _, rfl, iteT ?_⟩
        refine ⟨_, rfl, _, rfl, rfl, ?_⟩
        rw [decide_eq_true rfl]
        exact q _ s1
      | int z =>
        cases hx1; cases hy1
        refine ⟨_, tp, _, _, _, _, rfl, upd_same, cls2, .base (.int z), kit_none K _ (by decide +kernel) (by decide +kernel), _, rfl, iteF ?_⟩
        refine ⟨_, rfl, rfl, _, rfl, iteF ?_⟩
        refine ⟨_, rfl, _, _, _, _, _, rfl, .ty _, .base (.int z), kit_ty (r := false) (by decide +kernel), _, rfl, iteF ?_⟩
        refine ⟨_, rfl, _, _, _, _, _, rfl, .ty _, .base (.int z), kit_ty (r := true) (by decide +kernel), _, rfl, iteT ?_⟩
        refine ⟨_, rfl, _, _, _, _, _, rfl, .ty _, .base (.int z), kit_ty (r := false) (by decide +kernel), _, rfl, _, _, _, _, _, rfl, .ty _, .base (.int z), kit_ty (r := false) (by decide +kernel), rfl, _, rfl, iteT ?_⟩
        refine ⟨_, rfl, _, rfl, rfl, ?_⟩
        rw [decide_eq_true rfl]
        exact q _ s1
      | str z =>
        cases hx1; cases hy1
        refine ⟨_, tp, _, _, _, _, rfl, upd_same, cls2, .base (.str z), kit_none K _ (by decide +kernel) (by decide +kernel), _, rfl, iteF ?_⟩
        refine ⟨_, rfl, rfl, _, rfl, iteF ?_⟩
        refine ⟨_, rfl, _, _, _, _, _, rfl, .ty _, .base (.str z), kit_ty (r := true) (by decide +kernel), _, rfl, iteT ?_⟩
        refine ⟨_, rfl, _, rfl, rfl, _, rfl, ?_⟩
        rw [decide_eq_true rfl]
        refine iteT ?_
        refine ⟨_, rfl, _, _, _, _, _, rfl, .ty _, .base (.str z), kit_ty (r := true) (by decide +kernel), _, rfl, _, _, _, _, _, rfl, .ty _, .base (.str z), kit_ty (r := true) (by decide +kernel), rfl, ?_⟩
        exact q _ s1
      | list ds =>
        cases hx1 with
        | @lst a xs _ ha da =>
        cases hy1 with
        | @lst c ys _ hc dc =>
        refine ⟨_, tp, _, _, _, _, rfl, upd_same, cls2, ty_list hc, kit_list K, _, rfl, iteT ?_⟩
        refine ⟨_, rfl, _, _, _, _, _, rfl, .ty _, ty_list ha, kit_ty (r := true) (by decide +kernel), _, rfl, _, _, _, _, _, rfl, .ty _, ty_list hc, kit_ty (r := true) (by decide +kernel), rfl, _, rfl, iteF ?_⟩
        refine ⟨_, rfl, _, _, _, _, _, rfl, .ty _, ty_list ha, kit_ty (r := false) (by decide +kernel), _, rfl, _, _, _, _, _, rfl, .ty _, ty_list hc, kit_ty (r := false) (by decide +kernel), rfl, _, rfl, iteF ?_⟩
        have hl : xs.length = ys.length := (dpa_len da).trans (dpa_len dc).symm
        refine ⟨_, rfl, a, xs, rfl, .inl ha, _, rfl, c, ys, rfl, .inl hc, rfl, _, rfl, ?_⟩
        rw [decide_eq_true (by rw [hl])]
        refine iteF ?_
        refine ⟨_, rfl, _, rfl, a, c, xs, ys, rfl, .inl ⟨ha, hc, fun D hD => ?_⟩⟩
        refine lc_it (walk_zip (n := xs.length) (by omega)) (fun i G => Same (upd H tp (.tup [.ty "list", .ty "tuple"])) G ∧ G D = some (.lst (List.replicate i (.bl true)))) ⟨same_new hD, upd_same⟩ (fun i G _ h => ⟨Same.seq h.1 ha, Same.seq h.1 hc⟩) ?_ ?_
        · intro i v G G1 hi hP hy
          obtain ⟨sG, hDG⟩ := hP
          obtain ⟨T, u, v2, rfl, hT, rfl, hu, hv⟩ := hy
          obtain ⟨d1, e1, p1⟩ := dpa_at da hu
          obtain ⟨d2, e2, p2⟩ := dpa_at dc hv
          have ed : d1 = d2 := Option.some.inj (e1.symm.trans e2)
          subst ed
          have sT : Same (upd H tp (.tup [.ty "list", .ty "tuple"])) (upd G T (.tup [u, v2])) := sG.trans (same_new hT)
          have hdep : dep d1 < n := by
            have h1 := deps_at e1
            have h2 : dep.deps ds + 1 < n + 1 := hd
            omega
          have hwid : wid d1 ≤ 1000000 := by
            have h1 := wids_at e1
            have h2 : max ds.length (wid.wids ds) ≤ 1000000 := hw
            omega
          refine ⟨T, [u, v2], rfl, .inl (.inl upd_same), rfl, u, [v2], rfl, v2, [], rfl, rfl, ?_⟩
          refine ⟨rfl, ?_⟩
          unfold tYes
          refine iteT ?_
          refine ⟨_, rfl, _, rfl, u, v2, d1, rfl, dp_same sT _ _ p1, dp_same sT _ _ p2, hdep, hwid, fun G2 s2 => ?_⟩
          have hD2 : G2 D = some (.lst (List.replicate i (.bl true))) := s2 _ _ (same_new hT _ _ hDG)
          refine ⟨_, hD2, ?_, ?_, ?_⟩
          · rw [List.length_replicate]
            exact small6 (by have h1 : max ds.length (wid.wids ds) ≤ 1000000 := hw; have h2 := dpa_len da; omega)
          · intro b o e
            have hb : b ≠ D := ne_of_none e hD
            rw [upd_ne hb]
            exact s2 _ _ (sT _ _ e)
          · rw [upd_same, List.replicate_succ']
        · intro G hP
          obtain ⟨sG, hDG⟩ := hP
          have eb : List.replicate xs.length (V.bl true) = (List.replicate xs.length true).map V.bl := by rw [List.map_replicate]
          rw [eb] at hDG
          refine ⟨D, _, rfl, .inl (.inl hDG), ?_⟩
          rw [all_rep]
          exact q _ (s1.trans sG)
      | tuple ds =>
        cases hx1 with
        | @tup a xs _ ha da =>
        cases hy1 with
        | @tup c ys _ hc dc =>
        refine ⟨_, tp, _, _, _, _, rfl, upd_same, cls2, ty_tup hc, kit_tup K, _, rfl, iteT ?_⟩
        refine ⟨_, rfl, _, _, _, _, _, rfl, .ty _, ty_tup ha, kit_ty (r := false) (by decide +kernel), _, rfl, _, _, _, _, _, rfl, .ty _, ty_tup hc, kit_ty (r := false) (by decide +kernel), rfl, _, rfl, iteF ?_⟩
        refine ⟨_, rfl, _, _, _, _, _, rfl, .ty _, ty_tup ha, kit_ty (r := true) (by decide +kernel), _, rfl, _, _, _, _, _, rfl, .ty _, ty_tup hc, kit_ty (r := true) (by decide +kernel), rfl, _, rfl, iteF ?_⟩
        have hl : xs.length = ys.length := (dpa_len da).trans (dpa_len dc).symm
        refine ⟨_, rfl, a, xs, rfl, .inr ha, _, rfl, c, ys, rfl, .inr hc, rfl, _, rfl, ?_⟩
        rw [decide_eq_true (by rw [hl])]
        refine iteF ?_
        refine ⟨_, rfl, _, rfl, a, c, xs, ys, rfl, .inr ⟨ha, hc, fun D hD => ?_⟩⟩
        refine lc_it (walk_zipT hl) (fun i G => Same (upd H tp (.tup [.ty "list", .ty "tuple"])) G ∧ G D = some (.lst (List.replicate i (.bl true)))) ⟨same_new hD, upd_same⟩ (fun i G _ h => ⟨seqT_same h.1 ha, seqT_same h.1 hc⟩) ?_ ?_
        · intro i v G G1 hi hP hy
          obtain ⟨sG, hDG⟩ := hP
          obtain ⟨T, u, v2, rfl, hT, rfl, hu, hv⟩ := hy
          obtain ⟨d1, e1, p1⟩ := dpa_at da hu
          obtain ⟨d2, e2, p2⟩ := dpa_at dc hv
          have ed : d1 = d2 := Option.some.inj (e1.symm.trans e2)
          subst ed
          have sT : Same (upd H tp (.tup [.ty "list", .ty "tuple"])) (upd G T (.tup [u, v2])) := sG.trans (same_new hT)
          have hdep : dep d1 < n := by
            have h1 := deps_at e1
            have h2 : dep.deps ds + 1 < n + 1 := hd
            omega
          have hwid : wid d1 ≤ 1000000 := by
            have h1 := wids_at e1
            have h2 : max ds.length (wid.wids ds) ≤ 1000000 := hw
            omega
          refine ⟨T, [u, v2], rfl, .inl (.inl upd_same), rfl, u, [v2], rfl, v2, [], rfl, rfl, ?_⟩
          refine ⟨rfl, ?_⟩
          unfold tYes
          refine iteT ?_
          refine ⟨_, rfl, _, rfl, u, v2, d1, rfl, dp_same sT _ _ p1, dp_same sT _ _ p2, hdep, hwid, fun G2 s2 => ?_⟩
          have hD2 : G2 D = some (.lst (List.replicate i (.bl true))) := s2 _ _ (same_new hT _ _ hDG)
          refine ⟨_, hD2, ?_, ?_, ?_⟩
          · rw [List.length_replicate]
            exact small6 (by have h1 : max ds.length (wid.wids ds) ≤ 1000000 := hw; have h2 := dpa_len da; omega)
          · intro b o e
            have hb : b ≠ D := ne_of_none e hD
            rw [upd_ne hb]
            exact s2 _ _ (sT _ _ e)
          · rw [upd_same, List.replicate_succ']
        · intro G hP
          obtain ⟨sG, hDG⟩ := hP
          have eb : List.replicate xs.length (V.bl true) = (List.replicate xs.length true).map V.bl := by rw [List.map_replicate]
          rw [eb] at hDG
          refine ⟨D, _, rfl, .inl (.inl hDG), ?_⟩
          rw [all_rep]
          exact q _ (s1.trans sG)
      | dict ds => cases hx1
theorem okSameD (T : Tx K mg) (n : Nat) : FnOk P w K mg base CX0 n (He.ga K "_law_same") T.fdLSame ["_law_found", "_law_due"] (spD K 2 (wSame n)) := (okLSame T n).imp fun vs H Q E h => same_imp h

end
section
variable {P : Program} {w : World} {K : PySem.W.Frag} {mg : Str → Option Value} {base : Heap}
local macro_rules | `(tactic| get_elem_tactic_trivial) => `(tactic| (repeat first | exact Wk.nil | exact Wk'.nil | refine Wk.same ?_ | refine Wk'.same ?_ | refine Wk.un (fun _ z => nomatch z) ?_ | refine Wk'.un ?_))
def LT : Str := "abcdefghijklmnopqrstuvwxyz"
def sg (d : Nat) : Str := ⟨#[97 + d]⟩
def nm (l : List Nat) : Str := ⟨(l.map (97 + ·)).toArray⟩
structure Gd (l : List Nat) : Prop where
  lt : ∀ d ∈ l, d < 26
  lo : 1 ≤ l.length
  hi : l.length ≤ 4
theorem lt_at : ∀ d, d < 26 → LT.cps.toList[d]? = some (97 + d) := by decide +kernel
theorem nm_len (l : List Nat) : (nm l).length = l.length := by
  show (l.map (97 + ·)).toArray.size = l.length
  simp
theorem nm_size (l : List Nat) : (nm l).cps.size = l.length := nm_len l
theorem nm_cons (d : Nat) (l : List Nat) : sg d ++ nm l = nm (d :: l) := by
  show (⟨(sg d).cps ++ (nm l).cps⟩ : Str) = nm (d :: l)
  unfold nm sg
  simp
theorem nm_inj {a b : List Nat} (h : nm a = nm b) : a = b := by
  have h1 : (nm a).cps.toList = (nm b).cps.toList := by rw [h]
  have h2 : a.map (97 + ·) = b.map (97 + ·) := by simpa [nm] using h1
  have inj : ∀ (a b : List Nat), a.map (97 + ·) = b.map (97 + ·) → a = b := by
    intro a
    induction a with
    | nil =>
      intro b h
      cases b with
      | nil => rfl
      | cons => simp at h
    | cons x a ih =>
      intro b h
      cases b with
      | nil => simp at h
      | cons y b =>
        simp only [List.map_cons, List.cons.injEq] at h
        have e : x = y := by omega
        rw [e, ih b h.2]
  exact inj a b h2
theorem join_sg (l : List Nat) : Txt.join (Str.ofString "") (l.map sg) = nm l := by
  show Builtin.Str.glued _ _ = _
  rw [StrLaws.glued_eq_join]
  have go : ∀ l : List Nat, Str.join (Str.ofString "") (l.map sg) = nm l := by
    intro l
    induction l with
    | nil => rfl
    | cons d l ih =>
      cases l with
      | nil =>
        show sg d = nm [d]
        unfold sg nm
        simp
      | cons e l =>
        show sg d ++ Str.ofString "" ++ Str.join (Str.ofString "") ((e :: l).map sg) = nm (d :: e :: l)
        rw [ih, ← nm_cons d]
        show (⟨((sg d).cps ++ (Str.ofString "").cps) ++ (nm (e :: l)).cps⟩ : Str) = ⟨(sg d).cps ++ (nm (e :: l)).cps⟩
        have z : (Str.ofString "").cps = #[] := by decide +kernel
        rw [z, Array.append_empty]
  exact go l

end
section
variable {P : Program} {w : World} {K : PySem.W.Frag} {mg : Str → Option Value} {base : Heap}
local macro_rules | `(tactic| get_elem_tactic_trivial) => `(tactic| (repeat first | exact Wk.nil | exact Wk'.nil | refine Wk.same ?_ | refine Wk'.same ?_ | refine Wk.un (fun _ z => nomatch z) ?_ | refine Wk'.un ?_))
/-! names cut, names that are shown -/
theorem nm_ok {l : List Nat} (h : ∀ d ∈ l, d < 26) : PyData.strOk (nm l) = true := by
  unfold PyData.strOk nm
  rw [List.all_toArray, List.all_eq_true]
  intro c hc
  obtain ⟨d, hd, rfl⟩ := List.mem_map.mp hc
  have := h d hd
  exact decide_eq_true (by omega)
theorem nm_app (a b : List Nat) : nm a ++ nm b = nm (a ++ b) := by
  show (⟨(nm a).cps ++ (nm b).cps⟩ : Str) = nm (a ++ b)
  unfold nm
  simp
theorem nm_one (d : Nat) : sg d = nm [d] := rfl
theorem nm_cps (l : List Nat) : (nm l).cps.toList = l.map (97 + ·) := by simp [nm]
theorem nm_cutT {l : List Nat} {i : Int} (h0 : 0 ≤ i) : cutS (nm l) none (some i) = nm (l.take i.toNat) := by
  unfold cutS
  rw [nm_len, nm_cps]
  have e : HT.sIx l.length 0 none = 0 := rfl
  have e2 : HT.sIx l.length l.length (some i) = min i.toNat l.length := by
    show (if i < 0 then (i + (l.length : Int)).toNat else min i.toNat l.length) = _
    rw [if_neg (by omega)]
  rw [e, e2, List.drop_zero, Nat.sub_zero, ← List.map_take]
  unfold nm
  rw [show l.take (min i.toNat l.length) = l.take i.toNat by
    rcases Nat.le_total i.toNat l.length with h | h
    · rw [Nat.min_eq_left h]
    · rw [Nat.min_eq_right h, List.take_of_length_le h, List.take_of_length_le (Nat.le_refl _)]]
theorem nm_cutD {l : List Nat} {i : Int} (h0 : 0 ≤ i) : cutS (nm l) (some i) none = nm (l.drop i.toNat) := by
  unfold cutS
  rw [nm_len, nm_cps]
  have e : HT.sIx l.length 0 (some i) = min i.toNat l.length := by
    show (if i < 0 then (i + (l.length : Int)).toNat else min i.toNat l.length) = _
    rw [if_neg (by omega)]
  have e2 : HT.sIx l.length l.length none = l.length := rfl
  rw [e, e2, ← List.map_drop, List.take_of_length_le (by rw [List.length_map, List.length_drop]; omega)]
  unfold nm
  rw [show l.drop (min i.toNat l.length) = l.drop i.toNat by
    rcases Nat.le_total i.toNat l.length with h | h
    · rw [Nat.min_eq_left h]
    · rw [Nat.min_eq_right h, List.drop_of_length_le h, List.drop_of_length_le (Nat.le_refl _)]]
def nD (l : List Nat) : Dt := .str (nm l)
theorem nice_nm {l : List Nat} (h : Gd l) : Nice 0 4 (nD l) := nice_str (nm_ok h.lt) (b := 4) (by rw [nm_size]; exact h.hi)
end
section
variable {P : Program} {w : World} {K : PySem.W.Frag} {mg : Str → Option Value} {base : Heap}
local macro_rules | `(tactic| get_elem_tactic_trivial) => `(tactic| (repeat first | exact Wk.nil | exact Wk'.nil | refine Wk.same ?_ | refine Wk'.same ?_ | refine Wk.un (fun _ z => nomatch z) ?_ | refine Wk'.un ?_))
theorem nice_small {i : Int} (h0 : -10000000000 < i) (h1 : i < 10000000000) : Nice 0 0 (.int i) := nice_int (by
  have h2 : i.natAbs < 2 ^ 40 := by omega
  exact Nat.lt_of_lt_of_le h2 (Nat.pow_le_pow_right (by decide) (by decide)))
end
section
variable {P : Program} {w : World} {K : PySem.W.Frag} {mg : Str → Option Value} {base : Heap}
local macro_rules | `(tactic| get_elem_tactic_trivial) => `(tactic| (repeat first | exact Wk.nil | exact Wk'.nil | refine Wk.same ?_ | refine Wk'.same ?_ | refine Wk.un (fun _ z => nomatch z) ?_ | refine Wk'.un ?_))
/-! draws -/
def wPick : WF := fun ps Ψ => ∃ (n : Int) (ds : List Dt), ps = [.box n, .dat (.lst ds)] ∧ n < 900000000 ∧ ds ≠ [] ∧ ds.length ≤ 1000 ∧ ∀ d ∈ ds, Ψ (.dat d) [.box (n + 1), .dat (.lst ds)]
theorem okLPick (T : Tx K mg) : FnOk P w K mg base CX0 2 (He.ga K "_law_pick") T.fdLPick ["_law_box_here", "_law_things"] (spD K 2 wPick) := by
  have B := T.B
  have GLTake : FnOk P w K mg base CX0 1 (He.ga K "_law_take") T.fdLTake ["_law_box_here", "_law_size"] (spD K 2 wTake) := okTakeD T
  have bLTake := T.bLTake
  refine T.FLPick.ok scLPick (fun vs H Q E h => h.1) (fun cdv A outer s H vs Q E hr h => ?_)
  refine ⟨_, PSs.nox (pss_one (ps_ret (pe_ix (show IxR _ (rIx K) from ix_seq) (pv 1) (pe_call GLTake (hr.mono (by decide)) (by rfl) T.gLTake T.FLTake.kp bLTake .nil pass0 (pa_cons (pv 0) (pa_cons (pe_callB (show CallR _ _ (rLen K) from call_len) (by rfl) B.b_len PySem.boot_len (pa_cons (pv 1) pa_nil)) pa_nil))) (fun _ _ => rfl)))), ?_⟩
  refine bodyD h (fun ps Ψ hw hl => ?_)
  obtain ⟨n, ds, rfl, hn, h0, hl, q⟩ := hw
  have hp : 0 < ds.length := List.length_pos_iff.mpr h0
  refine ⟨rfl, ⟨by omega, by omega, by omega⟩, fun r r0 r1 => ?_⟩
  obtain ⟨d, ed, md⟩ := atD r0 r1
  exact ⟨d, ed, q d md⟩
end
section
variable {P : Program} {w : World} {K : PySem.W.Frag} {mg : Str → Option Value} {base : Heap}
local macro_rules | `(tactic| get_elem_tactic_trivial) => `(tactic| (repeat first | exact Wk.nil | exact Wk'.nil | refine Wk.same ?_ | refine Wk'.same ?_ | refine Wk.un (fun _ z => nomatch z) ?_ | refine Wk'.un ?_))
/-! rows, and how rules stand to them -/
theorem take_at {α : Type} {l : List α} {j : Nat} {x : α} (h : l[j]? = some x) : l.take (j + 1) = l.take j ++ [x] := by
  rw [List.take_add_one, h]
  rfl

end
section
variable {P : Program} {w : World} {K : PySem.W.Frag} {mg : Str → Option Value} {base : Heap}
local macro_rules | `(tactic| get_elem_tactic_trivial) => `(tactic| (repeat first | exact Wk.nil | exact Wk'.nil | refine Wk.same ?_ | refine Wk'.same ?_ | refine Wk.un (fun _ z => nomatch z) ?_ | refine Wk'.un ?_))
def wShares : WF := fun ps Ψ => ∃ a b : Int, ps = [.dat (.int a), .dat (.int b)] ∧ 0 < a ∧ 0 ≤ b ∧ ∀ r : Bool, (r = false → Cop a b) → Ψ (.dat (.bl r)) ps
theorem okLShares (T : Tx K mg) : FnOk P w K mg base CX0 1 (He.ga K "_law_shares") T.fdLShares ["_law_one", "_law_two"] (spD K 2 wShares) := by
  have B := T.B
  refine T.FLShares.ok scLShares (fun vs H Q E h => h.1) (fun cdv A outer s H vs Q E hr h => ?_)
  refine ⟨_, PSs.nox (pss_cons (ps_for PassesOwn.never rfl (pi_range1 (by rfl) B.b_range (pa_cons pe_int pa_nil)) (pg_name (i := 2) scLShares.nd rfl (Or.inl rfl))
        (pss_cons (ps_if (pt_cmpR (opEqA (K := K) rfl hr.units) (pv 1) pe_int (nomark _)) (pss_one (ps_ret (pe_cmpR op_gt (pv 0) pe_int (nomark _)))) pss_nil)
        (pss_one (ps_par (i := 0) (j := 1) (by rfl) scLShares.nd rfl rfl (by decide) rfl rfl (pa_cons (pv 1) (pa_cons (pe_op op_mod (pv 0) (pv 1)) pa_nil)) (by rfl)))))
        (pss_one (ps_ret pe_bl))), ?_⟩
  refine bodyD h (fun ps Ψ hw hl => ?_)
  obtain ⟨a, b, rfl, ha, hb, q⟩ := hw
  refine ⟨by decide, by decide, fun j ρ => ∃ x y : Int, ρ = [.dat (.int x), .dat (.int y), .un] ∧ 0 < x ∧ 0 ≤ y ∧ (Cop x y → Cop a b), To.of ⟨a, b, rfl, ha, hb, id⟩ (by get_elem_tactic_trivial), ?_, ?_⟩
  · rintro j ρ d hd ⟨x, y, rfl, hx, hy, hc⟩
    by_cases e : y = 0
    · refine ifT (eqSame e) ?_
      refine q (decide (1 < x)) fun e2 => hc ?_
      have : ¬ 1 < x := of_decide_eq_false e2
      have : x = 1 := by omega
      rw [this]
      exact cop_one y
    · have hy1 : 0 < y := by omega
      refine ifF (eqDiff e) ⟨hy1, ?_⟩
      exact To.of ⟨y, x % y, rfl, hy1, Int.emod_nonneg x e, fun z => hc (cop_back z)⟩ (by get_elem_tactic_trivial)
  · rintro ρ ⟨x, y, rfl, hx, hy, hc⟩
    exact q true (fun z => nomatch z)
abbrev howD (w : Option Int) (f : Int) : Dt := .tup [wDt w, .int f]
def wHow : WF := fun ps Ψ => ∃ n : Int, ps = [.box n] ∧ n < 900000000 ∧ ∀ (w : Option Int) (f m : Int), OkMix w f → m ≤ n + 5 → Ψ (.dat (howD w f)) [.box m]
theorem okLHow (T : Tx K mg) : FnOk P w K mg base CX0 2 (He.ga K "_law_how") T.fdLHow ["_law_box_here"] (spD K 1 wHow) := by
  have B := T.B
  have GLTake : FnOk P w K mg base CX0 1 (He.ga K "_law_take") T.fdLTake ["_law_box_here", "_law_size"] (spD K 2 wTake) := okTakeD T
  have bLTake := T.bLTake
  have GLShares : FnOk P w K mg base CX0 1 (He.ga K "_law_shares") T.fdLShares ["_law_one", "_law_two"] (spD K 2 wShares) := okLShares T
  have bLShares := T.bLShares
  refine T.FLHow.ok scLHow (fun vs H Q E h => h.1) (fun cdv A outer s H vs Q E hr h => ?_)
  refine ⟨_, PSs.nox (pss_cons (ps_par3 (i := 1) (j := 2) (l := 3) (by rfl) scLHow.nd rfl rfl rfl (by decide) (by decide) (by decide) rfl rfl rfl (pa_cons (pe_call GLTake (hr.mono (by decide)) (by rfl) T.gLTake T.FLTake.kp bLTake .nil pass0 (pa_cons (pv 0) (pa_cons pe_int pa_nil))) (pa_cons pe_int (pa_cons pe_int pa_nil))) (by rfl))
        (pss_cons (ps_if (pt_cmpR (opEqA (K := K) rfl hr.units) (pv 1) pe_int (nomark _)) (pss_one (ps_ret (pe_tup (pa_cons pe_non (pa_cons (pe_ix (show IxR _ (rIx K) from ix_seq) (pe_lst (pa_cons pe_int (pa_cons pe_int (pa_cons pe_int (pa_cons pe_int pa_nil))))) (pe_call GLTake (hr.mono (by decide)) (by rfl) T.gLTake T.FLTake.kp bLTake .nil pass0 (pa_cons (pv 0) (pa_cons pe_int pa_nil))) (fun _ _ => rfl)) pa_nil))))) pss_nil)
        (pss_cons (ps_set (i := 2) scLHow.nd rfl (.inl rfl) (pe_op op_add pe_int (pe_call GLTake (hr.mono (by decide)) (by rfl) T.gLTake T.FLTake.kp bLTake .nil pass0 (pa_cons (pv 0) (pa_cons (pe_ix (show IxR _ (rIx K) from ix_seq) (pe_lst (pa_cons pe_int (pa_cons pe_int (pa_cons pe_int (pa_cons pe_int pa_nil))))) (pe_call GLTake (hr.mono (by decide)) (by rfl) T.gLTake T.FLTake.kp bLTake .nil pass0 (pa_cons (pv 0) (pa_cons pe_int pa_nil))) (fun _ _ => rfl)) pa_nil)))))
        (pss_cons (ps_set (i := 3) scLHow.nd rfl (.inl rfl) (pe_op op_add pe_int (pe_call GLTake (hr.mono (by decide)) (by rfl) T.gLTake T.FLTake.kp bLTake .nil pass0 (pa_cons (pv 0) (pa_cons (pe_ix (show IxR _ (rIx K) from ix_seq) (pe_lst (pa_cons pe_int (pa_cons (pe_op op_pow pe_int pe_int) pa_nil))) (pe_call GLTake (hr.mono (by decide)) (by rfl) T.gLTake T.FLTake.kp bLTake .nil pass0 (pa_cons (pv 0) (pa_cons pe_int pa_nil))) (fun _ _ => rfl)) pa_nil)))))
        (pss_one (ps_ret (pe_tup (pa_cons (pv 2) (pa_cons (pe_ifExp (pt_val (pe_call GLShares (hr.mono (by decide)) (by rfl) T.gLShares T.FLShares.kp bLShares .nil pass0 (pa_cons (pv 2) (pa_cons (pv 3) pa_nil)))) pe_int (pv 3)) pa_nil))))))))), ?_⟩
  refine bodyD h (fun ps Ψ hw hl => ?_)
  obtain ⟨n, rfl, hn, q⟩ := hw
  refine ⟨rfl, ⟨by omega, by decide, by decide⟩, fun t t0 t1 => ?_⟩
  refine ite2 (fun e => ?_) (fun e => ?_)
  · refine ⟨by show 4 ≤ sizeLine; decide, rfl, ⟨by omega, by decide, by decide⟩, fun i i0 i1 => ?_⟩
    obtain ⟨v, ev, mv⟩ := atD (xs := [Dt.int 7919, .int 7919, .int 7, .int 1]) i0 i1
    obtain ⟨f, rfl, f1, f2⟩ : ∃ f : Int, v = .int f ∧ 1 ≤ f ∧ f ≤ 1000000 := by
      simp only [List.mem_cons, List.mem_nil_iff, or_false] at mv
      rcases mv with rfl | rfl | rfl | rfl <;> exact ⟨_, rfl, by decide, by decide⟩
    refine ⟨_, ev, by show 2 ≤ sizeLine; decide, ?_⟩
    exact q none f _ ⟨f1, f2, fun n z => nomatch z⟩ (by omega)
  · refine ⟨by show 4 ≤ sizeLine; decide, rfl, ⟨by omega, by decide, by decide⟩, fun i i0 i1 => ?_⟩
    obtain ⟨v, ev, mv⟩ := atD (xs := [Dt.int 8, .int 98, .int 498, .int 999998]) i0 i1
    obtain ⟨c, rfl, c1, c2⟩ : ∃ c : Int, v = .int c ∧ 0 < c ∧ c ≤ 999998 := by
      simp only [List.mem_cons, List.mem_nil_iff, or_false] at mv
      rcases mv with rfl | rfl | rfl | rfl <;> exact ⟨_, rfl, by decide, by decide⟩
    refine ⟨_, ev, rfl, ⟨by omega, c1, by omega⟩, fun d d0 d1 => ?_⟩
    refine ⟨⟨by decide, by decide, by decide⟩, by show 2 ≤ sizeLine; decide, rfl, ⟨by omega, by decide, by decide⟩, fun i2 i20 i21 => ?_⟩
    obtain ⟨v2, ev2, mv2⟩ := atD (xs := [Dt.int 12, .int (10 ^ 6)]) i20 i21
    obtain ⟨c', rfl, c1', c2'⟩ : ∃ c : Int, v2 = .int c ∧ 0 < c ∧ c ≤ 1000000 := by
      simp only [List.mem_cons, List.mem_nil_iff, or_false] at mv2
      rcases mv2 with rfl | rfl <;> exact ⟨_, rfl, by decide, by decide⟩
    refine ⟨_, ev2, rfl, ⟨by omega, c1', by omega⟩, fun b b0 b1 => ?_⟩
    refine ⟨rfl, 3 + d, 1 + b, rfl, by omega, by omega, fun r hr => ?_⟩
    cases r with
    | true =>
      refine ⟨by show 2 ≤ sizeLine; decide, ?_⟩
      exact q (some (3 + d)) 1 _ ⟨by decide, by decide, fun n z => by cases z; exact ⟨by omega, by omega, cop_one _⟩⟩ (by omega)
    | false =>
      refine ⟨by show 2 ≤ sizeLine; decide, ?_⟩
      exact q (some (3 + d)) (1 + b) _ ⟨by omega, by omega, fun n z => by cases z; exact ⟨by omega, by omega, (hr rfl).symm⟩⟩ (by omega)

end
section
variable {P : Program} {w : World} {K : PySem.W.Frag} {mg : Str → Option Value} {base : Heap}
local macro_rules | `(tactic| get_elem_tactic_trivial) => `(tactic| (repeat first | exact Wk.nil | exact Wk'.nil | refine Wk.same ?_ | refine Wk'.same ?_ | refine Wk.un (fun _ z => nomatch z) ?_ | refine Wk'.un ?_))
/-! books -/
theorem Ent.ofExp {μ : My} {m : Fm} (h : Exp μ m) : Ent (flat m) μ := fun m' e => by
  obtain rfl := Exp.ofFlat e
  exact ⟨m', [], h, by rw [List.append_nil]⟩
theorem Ent.toPk {μ : My} {a : Addr} {I : Addr → Fm → Prop} (h : ∀ m, Exp μ m → I a m) : Ent μ [(a, .pk I)] := fun m e => ⟨m, [], ⟨m, [], by rw [List.append_nil], h m e, rfl⟩, by rw [List.append_nil]⟩
structure En where
  key : Int
  w : Option Int
  f : Int
  po : List Dt
  pl : List Dt
  m : Nat
  k : Int
  ts : List (Int × Int)
  gd : Dt
  ws : List Dt
abbrev EF : List Str := ["key", "mixing", "policy", "plan", "many", "fixed", "ticks", "good", "words"]
def tks (ts : List (Int × Int)) : List Key := ts.map fun t => .inl t.1
def tds (ts : List (Int × Int)) : List Dt := ts.map fun t => .int t.2
def En.ds (E : En) (t x : Addr) : List Dt := [.int E.key, mixD E.w E.f, .tup E.po, .tup E.pl, .int (E.m : Nat), .int E.k, .adr t, E.gd, .adr x]
def En.μ (E : En) (a t x : Addr) : My := [(a, .fl (.ins "Entry" EF (E.ds t x))), (t, .fl (.dic (tks E.ts) (tds E.ts))), (x, .fl (.lst E.ws))]
def enI (E : En) : Addr → Fm → Prop := fun a m => ∃ t x : Addr, m = [(a, .ins "Entry" EF (E.ds t x)), (t, .dic (tks E.ts) (tds E.ts)), (x, .lst E.ws)]
theorem en_close {E : En} {a t x : Addr} : Ent (E.μ a t x) [(a, .pk (enI E))] := Ent.pack1 (I := enI E) (is := [0, 0, 0]) (m := [(a, .ins "Entry" EF (E.ds t x)), (t, .dic (tks E.ts) (tds E.ts)), (x, .lst E.ws)]) ⟨t, x, rfl⟩ rfl
def lookT : List (Int × Int) → Int → Option Int
  | [], _ => none
  | t :: r, n => if t.1 = n then some t.2 else lookT r n
theorem getK_ts : ∀ (ts : List (Int × Int)) (n : Int), getK (tks ts) (tds ts) (.inl n) = (lookT ts n).map .int
  | [], _ => rfl
  | t :: r, n => by
    show (if (Sum.inl t.1 : Key) = .inl n then some (Dt.int t.2) else getK (tks r) (tds r) (.inl n)) = (if t.1 = n then some t.2 else lookT r n).map .int
    by_cases h : t.1 = n
    · rw [if_pos (congrArg _ h), if_pos h]
      rfl
    · rw [if_neg (fun z => h (Sum.inl.inj z)), if_neg h, getK_ts r n]
theorem lookT_at {ts : List (Int × Int)} {t : Int × Int} (up : (ts.map (·.1)).Pairwise (· < ·)) (h : t ∈ ts) : lookT ts t.1 = some t.2 := by
  induction ts with
  | nil => cases h
  | cons u r ih =>
    have up : (u.1 :: r.map (·.1)).Pairwise (· < ·) := up
    rcases List.mem_cons.mp h with rfl | h
    · exact if_pos rfl
    · have lt := List.rel_of_pairwise_cons up (List.mem_map.mpr ⟨t, h, rfl⟩)
      show (if u.1 = t.1 then some u.2 else lookT r t.1) = _
      rw [if_neg (by omega)]
      exact ih up.of_cons h
def isA (now life : Int) (ts : List (Int × Int)) (n : Int) : Bool := match lookT ts n with
  | some k => decide (now - k < life)
  | none => false
def askedT (now life : Int) (ts : List (Int × Int)) : List Int := (ts.filter fun t => decide (now - t.2 < life)).map (·.1)
structure Bk where
  life : Int
  most : Int
  es : KL En
  now : Int
  gv : Int
  nt : List Dt
  by_ : Bool
abbrev BF : List Str := ["life", "most", "entries", "now", "given", "noted", "is_busy"]
def Bk.ds (B : Bk) (e n : Addr) : List Dt := [.int B.life, .int B.most, .adr e, .int B.now, .int B.gv, .adr n, .bl B.by_]
def keyS : Key → Str
  | .inr s => s
  | .inl _ => ⟨#[]⟩
def Bk.ns (B : Bk) : List Str := (kks B.es).map keyS
structure Bk.ok (B : Bk) : Prop where
  nd : (kks B.es).Nodup
  tx : kks B.es = B.ns.map .inr
  el : (B.es.length : Int) ≤ B.most
  m60 : B.most ≤ 60
  g0 : 0 ≤ B.gv
  up : ∀ x ∈ B.es, (x.2.2.ts.map (·.1)).Pairwise (· < ·)
  hi : ∀ x ∈ B.es, ∀ t ∈ x.2.2.ts, t.1 ≤ B.gv
  lo : ∀ x ∈ B.es, ∀ t ∈ x.2.2.ts, 0 ≤ t.1
  tl : ∀ x ∈ B.es, (x.2.2.ts.length : Int) ≤ B.gv
def Bk.μ (B : Bk) (a e n : Addr) : My := (a, .fl (.ins "Book" BF (B.ds e n))) :: (e, .fl (.dic (kks B.es) (kds B.es))) :: (n, .fl (.lst B.nt)) :: kps enI B.es
def bkI (B : Bk) : Addr → Fm → Prop := fun a m => B.ok ∧ ∃ e n, Exp (B.μ a e n) m
instance bk_ins {B : Bk} : PkIns (bkI B) "Book" BF := ⟨fun a m ⟨_, e, n, h⟩ => by
  obtain ⟨x, y, rfl, h1, _⟩ := h
  cases h1
  exact ⟨_, List.mem_cons_self ..⟩⟩
theorem bk_close {B : Bk} {a e n : Addr} (ok : B.ok) : Ent (B.μ a e n) [(a, .pk (bkI B))] := Ent.toPk fun _ h => ⟨ok, e, n, h⟩
/-- its chunks, one entry's apart -/
def Bk.μ1 (B : Bk) (a e n : Addr) (i : Nat) (E : En) (x t w : Addr) : My := E.μ x t w ++ (a, .fl (.ins "Book" BF (B.ds e n))) :: (e, .fl (.dic (kks B.es) (kds B.es))) :: (n, .fl (.lst B.nt)) :: kps enI (B.es.eraseIdx i)
theorem bk_close1 {B : Bk} {a e n x t w : Addr} {i : Nat} {s : Key} {E : En} (ok : B.ok) (h : B.es[i]? = some (x, s, E)) : Ent (B.μ1 a e n i E x t w) [(a, .pk (bkI B))] := by
  refine Ent.trans (Ent.app en_close (.refl _)) (Ent.trans (Ent.pick (is := [1, 1, 1, 0]) rfl) (Ent.trans (Ent.app (μ1 := [_, _, _]) (.refl _) ?_) (bk_close (e := e) (n := n) ok)))
  have z := kps_back (I := enI) (x := (x, s, E)) (List.getElem?_eq_some_iff.mp h).1
  rw [kset_same h] at z
  exact z
theorem flat_app : ∀ (m1 m2 : Fm), flat (m1 ++ m2) = flat m1 ++ flat m2 := fun m1 m2 => List.map_append ..
theorem kps_openG {X : Type} {I : X → Addr → Fm → Prop} : ∀ {L : KL X} {i : Nat} {x : Addr} {s : Key} {A : X}, L[i]? = some (x, s, A) → ∀ {m : Fm}, Exp (kps I L) m → ∃ m1, I A x m1 ∧ Ent (flat m) (flat m1 ++ kps I (L.eraseIdx i))
  | y :: L, 0, x, s, A, h, m, ⟨m1, m2, e, h1, h2⟩ => by
    cases h
    subst e
    rw [flat_app]
    exact ⟨m1, h1, Ent.app (.refl _) (Ent.ofExp h2)⟩
  | y :: L, i + 1, x, s, A, h, m, ⟨m1, m2, e, h1, h2⟩ => by
    obtain ⟨m3, h3, z⟩ := kps_openG (L := L) (i := i) h h2
    subst e
    rw [flat_app]
    refine ⟨m3, h3, Ent.trans (Ent.close (I := I y.2.2) (a := y.1) h1) (Ent.trans (Ent.cons z) ?_)⟩
    exact Ent.perm List.perm_middle.symm
theorem kps_open {L : KL En} {i : Nat} {x : Addr} {s : Key} {E : En} (h : L[i]? = some (x, s, E)) {m : Fm} (ex : Exp (kps enI L) m) : ∃ t w, Ent (flat m) (E.μ x t w ++ kps enI (L.eraseIdx i)) := by
  obtain ⟨m1, ⟨t, w, rfl⟩, z⟩ := kps_openG h ex
  exact ⟨t, w, z⟩
theorem bk_open {B : Bk} {a e n x : Addr} {i : Nat} {s : Key} {E : En} {m : Fm} (h : B.es[i]? = some (x, s, E)) (ex : Exp (B.μ a e n) m) : ∃ t w, Ent (flat m) (B.μ1 a e n i E x t w) := by
  obtain ⟨m1, m2, rfl, h1, m3, m4, rfl, h2, m5, m6, rfl, h3, h4⟩ := ex
  cases h1
  cases h2
  cases h3
  obtain ⟨t, w, z⟩ := kps_open h h4
  exact ⟨t, w, Ent.trans (Ent.app (μ1 := [_, _, _]) (.refl _) z) (Ent.pick (is := [3, 3, 3]) rfl)⟩
theorem bk_closeS {B B' : Bk} {a e n x t w : Addr} {i : Nat} {s : Key} {E E' : En} (ok : B'.ok) (h : B.es[i]? = some (x, s, E)) (hs : B'.es = B.es.set i (x, s, E')) : Ent (E'.μ x t w ++ (a, .fl (.ins "Book" BF (B'.ds e n))) :: (e, .fl (.dic (kks B.es) (kds B.es))) :: (n, .fl (.lst B'.nt)) :: kps enI (B.es.eraseIdx i)) [(a, .pk (bkI B'))] := by
  have hlt := (List.getElem?_eq_some_iff.mp h).1
  have z := bk_close1 (B := B') (a := a) (e := e) (n := n) (t := t) (w := w) (i := i) (x := x) (s := s) (E := E') ok (by rw [hs, List.getElem?_set, if_pos rfl, if_pos hlt])
  unfold Bk.μ1 at z
  rw [hs, kks_set h, kds_set h, List.eraseIdx_set_eq] at z
  exact z
theorem fldEn (T : Tx K mg) : ∀ f, f ∈ EF → FldOk K "Entry" f := fun f h => by
  simp only [List.mem_cons, List.mem_nil_iff, or_false] at h
  rcases h with rfl | rfl | rfl | rfl | rfl | rfl | rfl | rfl | rfl
  · exact ⟨T.clEntry, T.nEntry_key⟩
  · exact ⟨T.clEntry, T.nEntry_mixing⟩
  · exact ⟨T.clEntry, T.nEntry_policy⟩
  · exact ⟨T.clEntry, T.nEntry_plan⟩
  · exact ⟨T.clEntry, T.nEntry_many⟩
  · exact ⟨T.clEntry, T.nEntry_fixed⟩
  · exact ⟨T.clEntry, T.nEntry_ticks⟩
  · exact ⟨T.clEntry, T.nEntry_good⟩
  · exact ⟨T.clEntry, T.nEntry_words⟩
theorem fldBk (T : Tx K mg) : ∀ f, f ∈ BF → FldOk K "Book" f := fun f h => by
  simp only [List.mem_cons, List.mem_nil_iff, or_false] at h
  rcases h with rfl | rfl | rfl | rfl | rfl | rfl | rfl
  · exact ⟨T.clBook, T.nBook_life⟩
  · exact ⟨T.clBook, T.nBook_most⟩
  · exact ⟨T.clBook, T.nBook_entries⟩
  · exact ⟨T.clBook, T.nBook_now⟩
  · exact ⟨T.clBook, T.nBook_given⟩
  · exact ⟨T.clBook, T.nBook_noted⟩
  · exact ⟨T.clBook, T.nBook_is_busy⟩
end
section
variable {P : Program} {w : World} {K : PySem.W.Frag} {mg : Str → Option Value} {base : Heap}
local macro_rules | `(tactic| get_elem_tactic_trivial) => `(tactic| (repeat first | exact Wk.nil | exact Wk'.nil | refine Wk.same ?_ | refine Wk'.same ?_ | refine Wk.un (fun _ z => nomatch z) ?_ | refine Wk'.un ?_))
/-! made -/
def wEnInit : W3F := fun ps μ Ψ _ => ∃ (a : Addr) (E : En) (dp dl : Dt), ps = [.dat (.adr a), .dat (.int E.key), .dat (mixD E.w E.f), .dat dp, .dat dl, .dat (.int (E.m : Nat)), .dat (.int E.k)] ∧ μ = [(a, .fl (.ins "Entry" [] []))] ∧ (dp = .tup E.po ∨ dp = .lst E.po) ∧ (dl = .tup E.pl ∨ dl = .lst E.pl) ∧ E.ts = [] ∧ E.gd = .non ∧ E.ws = [] ∧ Ψ (.dat .non) ps [(a, .pk (enI E))]
theorem okEntryInit (T : Tx K mg) : FnOk P w K mg base CX0 1 (He.ma K (He.ga K "Entry") "__init__") T.fdEntryInit ["self", "key", "mixing", "policy", "plan", "many", "fixed"] (sp3 K 7 wEnInit) := by
  have B := T.B
  refine T.FEntryInit.ok scEntryInit (fun vs H Q E h => h.1) (fun cdv A outer s H vs Q E hr h => ?_)
  refine ⟨_, PSs.nox (pss_cons (asPS (sFld K _ _ "key") (ps_fld (pv 0) (pv 1) rfl))
        (pss_cons (asPS (sFld K _ _ "mixing") (ps_fld (pv 0) (pv 2) rfl))
        (pss_cons (asPS (sFld K _ _ "policy") (ps_fld (pv 0) (pe_callTy (show CallR _ _ (cTuple K) from call_tuple_of) (by rfl) B.b_tuple PyProof.Rows.boot_tuple (pa_cons (pv 3) pa_nil)) rfl))
        (pss_cons (asPS (sFld K _ _ "plan") (ps_fld (pv 0) (pe_callTy (show CallR _ _ (cTuple K) from call_tuple_of) (by rfl) B.b_tuple PyProof.Rows.boot_tuple (pa_cons (pv 4) pa_nil)) rfl))
        (pss_cons (asPS (sFld K _ _ "many") (ps_fld (pv 0) (pv 5) rfl))
        (pss_cons (asPS (sFld K _ _ "fixed") (ps_fld (pv 0) (pv 6) rfl))
        (pss_cons (asPS (sFld K _ _ "ticks") (ps_fld (pv 0) pe_dnewK rfl))
        (pss_cons (asPS (sFld K _ _ "good") (ps_fld (pv 0) pe_non rfl))
        (pss_one (asPS (sFld K _ _ "words") (ps_fld (pv 0) (peNew3 (pe_lst pa_nil)) rfl))))))))))), ?_⟩
  refine body3 h (fun ps μ Ψ Ξ hw hl => ?_)
  obtain ⟨a, E, dp, dl, rfl, rfl, hdp, hdl, e1, e2, e3, q⟩ := hw
  obtain ⟨key, w, f, po, pl, m, k, ts, gd, ws⟩ := E
  obtain rfl : ts = [] := e1
  obtain rfl : gd = .non := e2
  obtain rfl : ws = [] := e3
  have hdp : dp = .tup po ∨ dp = .lst po := hdp
  have hdl : dl = .tup pl ∨ dl = .lst pl := hdl
  rcases hdp with rfl | rfl <;> rcases hdl with rfl | rfl
  all_goals
    refine ⟨0, "Entry", ([] : List Str), [], rfl, ⟨.inr (fldEn T _ (by simp)), by decide⟩, _, _, rfl, ?_⟩
    refine ⟨0, "Entry", (["key"] : List Str), [.int key], rfl, ⟨.inr (fldEn T _ (by simp)), by decide⟩, _, _, rfl, ?_⟩
    refine ⟨0, "Entry", (["key", "mixing"] : List Str), [.int key, mixD w f], rfl, ⟨.inr (fldEn T _ (by simp)), by decide⟩, _, _, rfl, ?_⟩
    refine ⟨0, "Entry", (["key", "mixing", "policy"] : List Str), [.int key, mixD w f, .tup po], rfl, ⟨.inr (fldEn T _ (by simp)), by decide⟩, _, _, rfl, ?_⟩
    refine ⟨0, "Entry", (["key", "mixing", "policy", "plan"] : List Str), [.int key, mixD w f, .tup po, .tup pl], rfl, ⟨.inr (fldEn T _ (by simp)), by decide⟩, _, _, rfl, ?_⟩
    refine ⟨0, "Entry", (["key", "mixing", "policy", "plan", "many"] : List Str), [.int key, mixD w f, .tup po, .tup pl, .int (m : Nat)], rfl, ⟨.inr (fldEn T _ (by simp)), by decide⟩, _, _, rfl, ?_⟩
    refine fun t => ⟨1, "Entry", (["key", "mixing", "policy", "plan", "many", "fixed"] : List Str), [.int key, mixD w f, .tup po, .tup pl, .int (m : Nat), .int k], rfl, ⟨.inr (fldEn T _ (by simp)), by decide⟩, _, _, rfl, ?_⟩
    refine ⟨1, "Entry", (["key", "mixing", "policy", "plan", "many", "fixed", "ticks"] : List Str), [.int key, mixD w f, .tup po, .tup pl, .int (m : Nat), .int k, .adr t], rfl, ⟨.inr (fldEn T _ (by simp)), by decide⟩, _, _, rfl, ?_⟩
    refine ⟨by show 0 ≤ sizeLine; decide, fun x => ⟨2, "Entry", (["key", "mixing", "policy", "plan", "many", "fixed", "ticks", "good"] : List Str), [.int key, mixD w f, .tup po, .tup pl, .int (m : Nat), .int k, .adr t, .non], rfl, ⟨.inr (fldEn T _ (by simp)), by decide⟩, _, _, rfl, ?_⟩⟩
    exact ⟨_, Ent.trans (Ent.pick (is := [2, 1, 0]) rfl) (en_close (E := ⟨key, w, f, po, pl, m, k, [], .non, []⟩) (t := t) (x := x)), q⟩
end
section
variable {P : Program} {w : World} {K : PySem.W.Frag} {mg : Str → Option Value} {base : Heap}
local macro_rules | `(tactic| get_elem_tactic_trivial) => `(tactic| (repeat first | exact Wk.nil | exact Wk'.nil | refine Wk.same ?_ | refine Wk'.same ?_ | refine Wk.un (fun _ z => nomatch z) ?_ | refine Wk'.un ?_))
/-! an entry by its name -/
def wBkEntry : W3F := fun ps μ Ψ Ξ => ∃ (a e n : Addr) (B : Bk) (s : Str), ps = [.dat (.adr a), .dat (.str s)] ∧ μ = [(a, .fl (.ins "Book" BF (B.ds e n))), (e, .fl (.dic (kks B.es) (kds B.es)))] ∧ (kks B.es).Nodup ∧ ((∃ (i : Nat) (x : Addr) (E : En), B.es[i]? = some (x, .inr s, E) ∧ Ψ (.dat (.adr x)) ps μ) ∨ (Sum.inr s ∉ kks B.es ∧ Ξ "Unknown" (.str s) ps μ))
theorem okBookEntry (T : Tx K mg) : FnOk P w K mg base (L2N.CX P w) 3 (He.ma K (He.ga K "Book") "entry") T.fdBookEntry ["self", "name"] (sp3 K 2 wBkEntry) := by
  have B := T.B
  have GStartErrorInit : FnOk P w K mg base CX0 1 (He.ma K (He.ga K "StartError") "__init__") T.fdStartErrorInit ["self", "what"] (spInitE K) := okStartErrorInit T
  have bStartErrorInit := T.bStartErrorInit
  refine T.FBookEntry.ok scBookEntry (fun vs H Q E h => h.1) (fun cdv A outer s H vs Q E hr h => ?_)
  refine ⟨_, (pss_cons (ps_if (pt_cmp (show PC _ _ _ _ (tDNotIn _ _) from pc_dnotin (Nat.lt_of_le_of_lt (Nat.add_le_add_left (by decide : 1 ≤ 64) _) hr.units) (pv 1) (asPE (tFld3 K _ "entries") (pe_fld (pv 0) rfl)))) (pss_one (ps_raiseD rfl (L2N.takes_of rfl rfl rfl rfl) (pmk_errD (err_cl T.er (c := "Unknown") (by decide +kernel)) GStartErrorInit (hr.mono (by decide)) bStartErrorInit (by rfl) T.gUnknown (by exact (pa_cons (pv 1) pa_nil))))) pss_nil)
        (pss_one (ps_ret (asPE (tDGet _ _) (pe_dget (Nat.lt_of_le_of_lt (Nat.add_le_add_left (by decide : 1 ≤ 64) _) hr.units) (asPE (tFld3 K _ "entries") (pe_fld (pv 0) rfl)) (pv 1) (fun _ _ => rfl)))))), ?_⟩
  refine body3 h (fun ps μ Ψ Ξ hw hl => ?_)
  obtain ⟨a, e, n, B, s, rfl, rfl, nd, q⟩ := hw
  rcases q with ⟨i, x, E, hi, q⟩ | ⟨h, q⟩
  · have h := kmem hi
    refine ⟨0, _, _, _, rfl, .adr e, rfl, kks B.es, kds B.es, .inr s, .hung 1 rfl, rfl, ifF (by rw [kin nd h]; rfl) ?_⟩
    refine ⟨0, _, _, _, rfl, .adr e, rfl, kks B.es, kds B.es, .inr s, .adr x, .hung 1 rfl, rfl, getK_at nd hi, ?_⟩
    exact ⟨_, .refl _, q⟩
  · refine ⟨0, _, _, _, rfl, .adr e, rfl, kks B.es, kds B.es, .inr s, .hung 1 rfl, rfl, ifT (by rw [kout h]; rfl) ?_⟩
    exact ⟨"Unknown", rfl, _, .refl _, q⟩
end
section
variable {P : Program} {w : World} {K : PySem.W.Frag} {mg : Str → Option Value} {base : Heap}
local macro_rules | `(tactic| get_elem_tactic_trivial) => `(tactic| (repeat first | exact Wk.nil | exact Wk'.nil | refine Wk.same ?_ | refine Wk'.same ?_ | refine Wk.un (fun _ z => nomatch z) ?_ | refine Wk'.un ?_))
/-! a book made -/
def Bk.new (life most : Int) : Bk := ⟨life, most, [], 0, 0, [], false⟩
def wBkInit : W3F := fun ps μ Ψ _ => ∃ (a : Addr) (life most : Int), ps = [.dat (.adr a), .dat (.int life), .dat (.int most)] ∧ μ = [(a, .fl (.ins "Book" [] []))] ∧ 0 ≤ most ∧ most ≤ 60 ∧ Ψ (.dat .non) ps [(a, .pk (bkI (Bk.new life most)))]
theorem Bk.new_ok {life most : Int} (h0 : 0 ≤ most) (h1 : most ≤ 60) : (Bk.new life most).ok := ⟨.nil, rfl, h0, h1, Int.le_refl _, (fun x h => nomatch h), (fun x h => nomatch h), (fun x h => nomatch h), fun x h => nomatch h⟩
theorem okBookInit (T : Tx K mg) : FnOk P w K mg base CX0 1 (He.ma K (He.ga K "Book") "__init__") T.fdBookInit ["self", "life", "most"] (sp3 K 3 wBkInit) := by
  have B := T.B
  refine T.FBookInit.ok scBookInit (fun vs H Q E h => h.1) (fun cdv A outer s H vs Q E hr h => ?_)
  refine ⟨_, PSs.nox (pss_cons (asPS (sFld K _ _ "life") (ps_fld (pv 0) (pv 1) rfl))
        (pss_cons (asPS (sFld K _ _ "most") (ps_fld (pv 0) (pv 2) rfl))
        (pss_cons (asPS (sFld K _ _ "entries") (ps_fld (pv 0) pe_dnewK rfl))
        (pss_cons (asPS (sFld K _ _ "now") (ps_fld (pv 0) pe_int rfl))
        (pss_cons (asPS (sFld K _ _ "given") (ps_fld (pv 0) pe_int rfl))
        (pss_cons (asPS (sFld K _ _ "noted") (ps_fld (pv 0) (peNew3 (pe_lst pa_nil)) rfl))
        (pss_one (asPS (sFld K _ _ "is_busy") (ps_fld (pv 0) pe_bl rfl))))))))), ?_⟩
  refine body3 h (fun ps μ Ψ Ξ hw hl => ?_)
  obtain ⟨a, life, most, rfl, rfl, h0, h1, q⟩ := hw
  refine ⟨0, "Book", ([] : List Str), [], rfl, ⟨.inr (fldBk T _ (by simp)), by decide⟩, _, _, rfl, ?_⟩
  refine ⟨0, "Book", (["life"] : List Str), [.int life], rfl, ⟨.inr (fldBk T _ (by simp)), by decide⟩, _, _, rfl, ?_⟩
  refine fun e => ⟨1, "Book", (["life", "most"] : List Str), [.int life, .int most], rfl, ⟨.inr (fldBk T _ (by simp)), by decide⟩, _, _, rfl, ?_⟩
  refine ⟨1, "Book", (["life", "most", "entries"] : List Str), [.int life, .int most, .adr e], rfl, ⟨.inr (fldBk T _ (by simp)), by decide⟩, _, _, rfl, ?_⟩
  refine ⟨1, "Book", (["life", "most", "entries", "now"] : List Str), [.int life, .int most, .adr e, .int 0], rfl, ⟨.inr (fldBk T _ (by simp)), by decide⟩, _, _, rfl, ?_⟩
  refine ⟨by show 0 ≤ sizeLine; decide, fun n => ⟨2, "Book", (["life", "most", "entries", "now", "given"] : List Str), [.int life, .int most, .adr e, .int 0, .int 0], rfl, ⟨.inr (fldBk T _ (by simp)), by decide⟩, _, _, rfl, ?_⟩⟩
  refine ⟨2, "Book", (["life", "most", "entries", "now", "given", "noted"] : List Str), [.int life, .int most, .adr e, .int 0, .int 0, .adr n], rfl, ⟨.inr (fldBk T _ (by simp)), by decide⟩, _, _, rfl, ?_⟩
  exact ⟨_, Ent.trans (Ent.pick (is := [2, 1, 0]) rfl) (bk_close (B := Bk.new life most) (e := e) (n := n) (Bk.new_ok h0 h1)), q⟩
end
section
variable {P : Program} {w : World} {K : PySem.W.Frag} {mg : Str → Option Value} {base : Heap}
local macro_rules | `(tactic| get_elem_tactic_trivial) => `(tactic| (repeat first | exact Wk.nil | exact Wk'.nil | refine Wk.same ?_ | refine Wk'.same ?_ | refine Wk.un (fun _ z => nomatch z) ?_ | refine Wk'.un ?_))
/-! what a book tells -/
def wBkLen : W3F := fun ps μ Ψ _ => ∃ (a : Addr) (B : Bk), ps = [.dat (.adr a)] ∧ μ = [(a, .pk (bkI B))] ∧ Ψ (.dat (.int (B.es.length : Nat))) ps μ
theorem okBookLen (T : Tx K mg) : FnOk P w K mg base CX0 1 (He.ma K (He.ga K "Book") "__len__") T.fdBookLen ["self"] (sp3 K 1 wBkLen) := by
  have B := T.B
  refine T.FBookLen.ok scBookLen (fun vs H Q E h => h.1) (fun cdv A outer s H vs Q E hr h => ?_)
  refine ⟨_, PSs.nox (pss_one (psOpen (psGhost (ps_ret (pe_callB (show CallR _ _ rLenD from cr_lenD) (by rfl) B.b_len PySem.boot_len (pa_cons (asPE (tFld3 K _ "entries") (pe_fld (pv 0) rfl)) pa_nil)))))), ?_⟩
  refine body3 h (fun ps μ Ψ Ξ hw hl => ?_)
  obtain ⟨a, B, rfl, rfl, q⟩ := hw
  refine ⟨a, _, [], .refl _, ?_⟩
  rintro m ⟨ok, e, n, ex⟩
  rw [List.append_nil]
  refine ⟨_, Ent.ofExp ex, 0, _, _, _, rfl, .adr e, rfl, e, 1, kks B.es, kds B.es, rfl, rfl, ?_⟩
  rw [kks_len]
  exact ⟨_, bk_close ok, q⟩
def wBkNames : W3F := fun ps μ Ψ _ => ∃ (a : Addr) (B : Bk), ps = [.dat (.adr a)] ∧ μ = [(a, .pk (bkI B))] ∧ ∀ ys : List Str, ys.Perm B.ns → sortedS ys = true → Ψ (.new (ys.map .str)) ps μ
theorem okBookNames (T : Tx K mg) : FnOk P w K mg base CX0 1 (He.ma K (He.ga K "Book") "names") T.fdBookNames ["self"] (sp3 K 1 wBkNames) := by
  have B := T.B
  refine T.FBookNames.ok scBookNames (fun vs H Q E h => h.1) (fun cdv A outer s H vs Q E hr h => ?_)
  refine ⟨_, PSs.nox (pss_one (psOpen (psGhost (ps_ret (pe_callB (show CallR _ _ (DSet.rSortSQ K) from DSet.cr_sortSQ) (by rfl) B.b_sorted (by decide +kernel) (pa_cons (pe_callTy (show CallR _ _ rListK from cr_listK rfl) (by rfl) B.b_list PyProof.Rows.boot_list (pa_cons (asPE (tFld3 K _ "entries") (pe_fld (pv 0) rfl)) pa_nil)) pa_nil)))))), ?_⟩
  refine body3 h (fun ps μ Ψ Ξ hw hl => ?_)
  obtain ⟨a, B, rfl, rfl, q⟩ := hw
  refine ⟨a, _, [], .refl _, ?_⟩
  rintro m ⟨ok, e, n, ex⟩
  rw [List.append_nil]
  have el := ok.el
  have m60 := ok.m60
  have nl : B.ns.length = B.es.length := by unfold Bk.ns; rw [List.length_map, kks_len]
  refine ⟨_, Ent.ofExp ex, 0, _, _, _, rfl, .adr e, rfl, kks B.es, kds B.es, .hung 1 rfl, B.ns, by rw [ok.tx, List.map_map]; rfl, by omega, fun ys pm up => ?_⟩
  exact ⟨_, bk_close ok, q ys pm up⟩
def wBkHist : W3F := fun ps μ Ψ Ξ => ∃ (a : Addr) (B : Bk) (s : Str), ps = [.dat (.adr a), .dat (.str s)] ∧ μ = [(a, .pk (bkI B))] ∧ ((∃ (i : Nat) (x : Addr) (E : En), B.es[i]? = some (x, .inr s, E) ∧ Ψ (.new E.ws) ps μ) ∨ (Sum.inr s ∉ kks B.es ∧ Ξ "Unknown" (.str s) ps μ))
theorem kbAllN {K : PySem.W.Frag} {x qual : Str} {params : Arguments} {body : List Stmt} {scope : Scope} {kws : List (Str × V)} {f : Addr} {fd : FuncData} {ps : List Str} (F : FunD K x qual params body scope [] kws f fd) (n : Nat) (ks : List Str) (is : List Nat)
    (h : ∀ (kV doc pm : Value) (an : Option Addr) (cdv ct : Value) (us ws : List Value), us.length = n → ws.length = ks.length → bindArgs (PySem.W.fnOf x qual params body scope .none kV doc pm an cdv ct) ⟨us, ks.zip ws⟩ = pure (ps.zip (gP is us ws))) :
    ∃ g : List Value → List Value → List Value, KBn K fd ps n ks g (gB is []) := by
  obtain ⟨oc, od, dV, kV, doc, pm, an, cdv, ct, osl, rfl, lk, hcd, hD, hK⟩ := F.ex
  rcases hD with ⟨_, rfl⟩ | ⟨e, _⟩
  · exact ⟨gP is, ⟨fun s us ws _ l1 l2 => .of_eq (h kV doc pm an cdv ct us ws l1 l2), fun r1 r2 => by
      unfold gB
      rw [List.append_nil]
      exact gP_vals is r1 r2⟩⟩
  · exact absurd rfl e

theorem Tx.kbBookEntry_2 {K : PySem.W.Frag} {mg : Str → Option Value} (T : Tx K mg) : ∃ g : List Value → List Value → List Value, KBn K T.fdBookEntry ["self", "name"] 2 [] g (gB [0, 1] []) := kbAllN T.FBookEntry 2 [] [0, 1] fun kV doc pm an cdv ct us ws h1 h2 => match us, ws, h1, h2 with
  | [u0, u1], [], _, _ => rfl
theorem okBookHistory (T : Tx K mg) : FnOk P w K mg base (L2N.CX P w) 4 (He.ma K (He.ga K "Book") "history") T.fdBookHistory ["self", "name"] (sp3 K 2 wBkHist) := by
  have B := T.B
  have GBookEntry : FnOk P w K mg base (L2N.CX P w) 3 (He.ma K (He.ga K "Book") "entry") T.fdBookEntry ["self", "name"] (sp3 K 2 wBkEntry) := okBookEntry T
  have bBookEntry := T.bBookEntry
  obtain ⟨_, kbBookEntry_2⟩ := T.kbBookEntry_2
  refine T.FBookHistory.ok scBookHistory (fun vs H Q E h => h.1) (fun cdv A outer s H vs Q E hr h => ?_)
  refine ⟨_, (pss_one (psOpen (psGhost (ps_ret (pe_callTy (show CallR _ _ (cList K) from call_list_of) (by rfl) B.b_list PyProof.Rows.boot_list (pa_cons (asPE (tFld3 K _ "words") (pe_fld (asPE (tMeth3 _ _ 1 0 _ _ _ _ _ _) (pe_meth3 (ks := []) (pv 0) T.clBook T.mBookEntry GBookEntry (hr.mono (by decide)) kbBookEntry_2 (fun σ => L2N.passAt (L2N.takes_of rfl rfl rfl rfl) σ) (pa_cons (pv 1) pa_nil) pk_nil)) rfl)) pa_nil)))))), ?_⟩
  refine body3 h (fun ps μ Ψ Ξ hw hl => ?_)
  obtain ⟨a, B, s, rfl, rfl, q⟩ := hw
  refine ⟨a, _, [], .refl _, ?_⟩
  rintro m ⟨ok, e, n, ex⟩
  rw [List.append_nil]
  rcases q with ⟨i, x, E, hi, q⟩ | ⟨h, q⟩
  · obtain ⟨t, w, en⟩ := bk_open hi ex
    refine ⟨_, en, ⟨_, _, HdAt.cons (HdAt.cons (HdAt.cons .fl)), rfl, rfl⟩, ⟨rfl, rfl, rfl⟩, [_, _], _, Ent.pick (is := [3, 3]) rfl, a, e, n, B, s, rfl, rfl, ok.nd, .inl ⟨i, x, E, hi, ?_⟩⟩
    refine ⟨2, _, _, _, rfl, .adr w, rfl, 4, _, rfl, ?_⟩
    exact ⟨_, Ent.trans (Ent.pick (is := [2, 2, 2, 0, 0, 0]) rfl) (bk_close1 ok hi), q⟩
  · exact ⟨_, Ent.ofExp ex, ⟨_, _, .fl, rfl, rfl⟩, ⟨rfl, rfl, rfl⟩, [_, _], _, Ent.pick (is := [0, 0]) rfl, a, e, n, B, s, rfl, rfl, ok.nd, .inr ⟨h, _, bk_close ok, q⟩⟩
def wBkLast : W3F := fun ps μ Ψ Ξ => ∃ (a : Addr) (B : Bk) (s : Str), ps = [.dat (.adr a), .dat (.str s)] ∧ μ = [(a, .pk (bkI B))] ∧ ((∃ (i : Nat) (x : Addr) (E : En), B.es[i]? = some (x, .inr s, E) ∧ ((E.gd = .non ∧ Ψ (.dat .non) ps μ) ∨ ∃ (g : Dt) (l : List Dt), E.gd = .tup [g, .tup l] ∧ Ψ (.dat (.tup [g, .lst l])) ps μ)) ∨ (Sum.inr s ∉ kks B.es ∧ Ξ "Unknown" (.str s) ps μ))
theorem okBookLast (T : Tx K mg) : FnOk P w K mg base (L2N.CX P w) 4 (He.ma K (He.ga K "Book") "last") T.fdBookLast ["self", "name"] (sp3 K 2 wBkLast) := by
  have B := T.B
  have GBookEntry : FnOk P w K mg base (L2N.CX P w) 3 (He.ma K (He.ga K "Book") "entry") T.fdBookEntry ["self", "name"] (sp3 K 2 wBkEntry) := okBookEntry T
  have bBookEntry := T.bBookEntry
  obtain ⟨_, kbBookEntry_2⟩ := T.kbBookEntry_2
  refine T.FBookLast.ok scBookLast (fun vs H Q E h => h.1) (fun cdv A outer s H vs Q E hr h => ?_)
  refine ⟨_, (pss_cons (psOpen (psGhost (ps_set (i := 2) scBookLast.nd rfl (.inl rfl) (asPE (tFld3 K _ "good") (pe_fld (asPE (tMeth3 _ _ 1 0 _ _ _ _ _ _) (pe_meth3 (ks := []) (pv 0) T.clBook T.mBookEntry GBookEntry (hr.mono (by decide)) kbBookEntry_2 (fun σ => L2N.passAt (L2N.takes_of rfl rfl rfl rfl) σ) (pa_cons (pv 1) pa_nil) pk_nil)) rfl)))))
        (pss_one (ps_ret (pe_ifExp (pt_cmpR (show OpR _ _ rIsNone from op_isN) (pv 2) pe_non (nomark _)) pe_non (pe_tup (pa_cons (pe_ix (show IxR _ (rIx K) from ix_seq) (pv 2) pe_int (fun _ _ => rfl)) (pa_cons (pe_callTy (show CallR _ _ (cList K) from call_list_of) (by rfl) B.b_list PyProof.Rows.boot_list (pa_cons (pe_ix (show IxR _ (rIx K) from ix_seq) (pv 2) pe_int (fun _ _ => rfl)) pa_nil)) pa_nil))))))), ?_⟩
  refine body3 h (fun ps μ Ψ Ξ hw hl => ?_)
  obtain ⟨a, B, s, rfl, rfl, q⟩ := hw
  refine ⟨a, _, [], .refl _, ?_⟩
  rintro m ⟨ok, e, n, ex⟩
  rw [List.append_nil]
  rcases q with ⟨i, x, E, hi, q⟩ | ⟨h, q⟩
  · obtain ⟨t, w, en⟩ := bk_open hi ex
    refine ⟨_, en, ⟨_, _, HdAt.cons (HdAt.cons (HdAt.cons .fl)), rfl, rfl⟩, ⟨rfl, rfl, rfl⟩, [_, _], _, Ent.pick (is := [3, 3]) rfl, a, e, n, B, s, rfl, rfl, ok.nd, .inl ⟨i, x, E, hi, ?_⟩⟩
    refine ⟨2, _, _, _, rfl, E.gd, rfl, ?_⟩
    rcases q with ⟨hg, q⟩ | ⟨g, l, hg, q⟩
    · rw [hg]
      exact ⟨rfl, _, Ent.trans (Ent.pick (is := [2, 2, 2, 0, 0, 0]) rfl) (bk_close1 ok hi), q⟩
    · rw [hg]
      exact ⟨rfl, g, rfl, .tup l, rfl, by show 2 ≤ sizeLine; decide, _, Ent.trans (Ent.pick (is := [2, 2, 2, 0, 0, 0]) rfl) (bk_close1 ok hi), q⟩
  · exact ⟨_, Ent.ofExp ex, ⟨_, _, .fl, rfl, rfl⟩, ⟨rfl, rfl, rfl⟩, [_, _], _, Ent.pick (is := [0, 0]) rfl, a, e, n, B, s, rfl, rfl, ok.nd, .inr ⟨h, _, bk_close ok, q⟩⟩
end
section
variable {P : Program} {w : World} {K : PySem.W.Frag} {mg : Str → Option Value} {base : Heap}
local macro_rules | `(tactic| get_elem_tactic_trivial) => `(tactic| (repeat first | exact Wk.nil | exact Wk'.nil | refine Wk.same ?_ | refine Wk'.same ?_ | refine Wk.un (fun _ z => nomatch z) ?_ | refine Wk'.un ?_))
/-! the numbers asked -/
def wBkIsA : W3F := fun ps μ Ψ _ => ∃ (a x e n t w : Addr) (B : Bk) (E : En) (j : Int), ps = [.dat (.adr a), .dat (.adr x), .dat (.int j)] ∧ μ = [(a, .fl (.ins "Book" BF (B.ds e n))), (x, .fl (.ins "Entry" EF (E.ds t w))), (t, .fl (.dic (tks E.ts) (tds E.ts)))] ∧ Ψ (.dat (.bl (isA B.now B.life E.ts j))) ps μ
theorem okBookIsAsked (T : Tx K mg) : FnOk P w K mg base CX0 1 (He.ma K (He.ga K "Book") "is_asked") T.fdBookIsAsked ["self", "entry", "number"] (sp3 K 3 wBkIsA) := by
  have B := T.B
  refine T.FBookIsAsked.ok scBookIsAsked (fun vs H Q E h => h.1) (fun cdv A outer s H vs Q E hr h => ?_)
  refine ⟨_, PSs.nox (pss_one (ps_ret (pe_and (pe_cmp (show PC _ _ _ _ (tDIn _ _) from pc_din (Nat.lt_of_le_of_lt (Nat.add_le_add_left (by decide : 1 ≤ 64) _) hr.units) (pv 2) (asPE (tFld3 K _ "ticks") (pe_fld (pv 1) rfl)))) (pe_one (pe_cmpR op_lt (pe_op op_sub (asPE (tFld3 K _ "now") (pe_fld (pv 0) rfl)) (asPE (tDGet _ _) (pe_dget (Nat.lt_of_le_of_lt (Nat.add_le_add_left (by decide : 1 ≤ 64) _) hr.units) (asPE (tFld3 K _ "ticks") (pe_fld (pv 1) rfl)) (pv 2) (fun _ _ => rfl)))) (asPE (tFld3 K _ "life") (pe_fld (pv 0) rfl)) (nomark _)))))), ?_⟩
  refine body3 h (fun ps μ Ψ Ξ hw hl => ?_)
  obtain ⟨a, x, e, n, t, w, B, E, j, rfl, rfl, q⟩ := hw
  have ek := getK_ts E.ts j
  refine ⟨1, _, _, _, rfl, .adr t, rfl, tks E.ts, tds E.ts, .inl j, .hung 2 rfl, rfl, ?_⟩
  unfold isA at q
  cases h : lookT E.ts j with
  | none =>
    rw [h] at ek q
    refine ifF (by rw [ek]; rfl) ⟨_, .refl _, q⟩
  | some k =>
    rw [h] at ek q
    refine ifT (by rw [ek]; rfl) ?_
    refine ⟨0, _, _, _, rfl, .int B.now, rfl, 1, _, _, _, rfl, .adr t, rfl, tks E.ts, tds E.ts, .inl j, .int k, .hung 2 rfl, rfl, ek, 0, _, _, _, rfl, .int B.life, rfl, ?_⟩
    exact ⟨_, .refl _, q⟩
theorem asked_eq {now life : Int} {ts : List (Int × Int)} (up : (ts.map (·.1)).Pairwise (· < ·)) : (ts.map (·.1)).filter (isA now life ts) = askedT now life ts := by
  unfold askedT
  rw [List.filter_map]
  congr 1
  refine List.filter_congr fun t ht => ?_
  show isA now life ts t.1 = _
  unfold isA
  rw [lookT_at up ht]
theorem le_of_lt_pw {l : List Int} (h : l.Pairwise (· < ·)) : l.Pairwise (· ≤ ·) := h.imp fun h => Int.le_of_lt h
theorem tks_kD (ts : List (Int × Int)) : (tks ts).map kD = (ts.map (·.1)).map .int := by
  unfold tks
  rw [List.map_map, List.map_map]
  rfl
def wBkAsked : W3F := fun ps μ Ψ Ξ => ∃ (a : Addr) (B : Bk) (s : Str), ps = [.dat (.adr a), .dat (.str s)] ∧ μ = [(a, .pk (bkI B))] ∧ B.gv < 1000000 ∧ ((∃ (i : Nat) (x : Addr) (E : En), B.es[i]? = some (x, .inr s, E) ∧ Ψ (.new ((askedT B.now B.life E.ts).map .int)) ps μ) ∨ (Sum.inr s ∉ kks B.es ∧ Ξ "Unknown" (.str s) ps μ))
theorem Tx.kbBookIsAsked_3 {K : PySem.W.Frag} {mg : Str → Option Value} (T : Tx K mg) : ∃ g : List Value → List Value → List Value, KBn K T.fdBookIsAsked ["self", "entry", "number"] 3 [] g (gB [0, 1, 2] []) := kbAllN T.FBookIsAsked 3 [] [0, 1, 2] fun kV doc pm an cdv ct us ws h1 h2 => match us, ws, h1, h2 with
  | [u0, u1, u2], [], _, _ => rfl
theorem okBookAsked (T : Tx K mg) : FnOk P w K mg base (L2N.CX P w) 4 (He.ma K (He.ga K "Book") "asked") T.fdBookAsked ["self", "name"] (sp3 K 2 wBkAsked) := by
  have B := T.B
  have GBookEntry : FnOk P w K mg base (L2N.CX P w) 3 (He.ma K (He.ga K "Book") "entry") T.fdBookEntry ["self", "name"] (sp3 K 2 wBkEntry) := okBookEntry T
  have bBookEntry := T.bBookEntry
  have GBookIsAsked : FnOk P w K mg base CX0 1 (He.ma K (He.ga K "Book") "is_asked") T.fdBookIsAsked ["self", "entry", "number"] (sp3 K 3 wBkIsA) := okBookIsAsked T
  have bBookIsAsked := T.bBookIsAsked
  obtain ⟨_, kbBookEntry_2⟩ := T.kbBookEntry_2
  obtain ⟨_, kbBookIsAsked_3⟩ := T.kbBookIsAsked_3
  refine T.FBookAsked.ok scBookAsked (fun vs H Q E h => h.1) (fun cdv A outer s H vs Q E hr h => ?_)
  refine ⟨_, (pss_cons (psOpen (psGhost (ps_set (i := 2) scBookAsked.nd rfl (.inr rfl) (asPE (tMeth3 _ _ 1 0 _ _ _ _ _ _) (pe_meth3 (ks := []) (pv 0) T.clBook T.mBookEntry GBookEntry (hr.mono (by decide)) kbBookEntry_2 (fun σ => L2N.passAt (L2N.takes_of rfl rfl rfl rfl) σ) (pa_cons (pv 1) pa_nil) pk_nil)))))
        (pss_one (psGhost (ps_ret (pe_lc (own := [("number", 3)]) (g := gName 3) (by rfl) scBookAsked.nd (piAny (K := K) rfl (pe_callB (show CallR _ _ (L2.rSortedI K) from L2.cr_sortedI) (by rfl) B.b_sorted (by decide +kernel) (pa_cons (pe_callTy (show CallR _ _ rListK from cr_listK rfl) (by rfl) B.b_list PyProof.Rows.boot_list (pa_cons (asPE (tFld3 K _ "ticks") (pe_fld (pv 2) rfl)) pa_nil)) pa_nil))) (blkOk_by (own := [("number", 3)]) (N := ["self", "name", "entry", "number"]) (sc := defScope sBookAsked) (by decide +kernel)) (fun _ _ _ _ _ => by exact (pg_name (i := 3) scBookAsked.nd rfl (Or.inl rfl))) (fun _ _ _ _ _ => pts_one (pt_val (asPE (tMeth3 _ _ 2 0 _ _ _ _ _ _) (pe_meth3 (ks := []) (pv 0) T.clBook T.mBookIsAsked GBookIsAsked (hr.mono (by decide)) kbBookIsAsked_3 (pass0S (fun cls d _ H => E cls d H)) (pa_cons (pv 2) (pa_cons (pv 3) pa_nil)) pk_nil)))) (fun _ _ _ _ _ => (pv 3))))))), ?_⟩
  refine body3 h (fun ps μ Ψ Ξ hw hl => ?_)
  obtain ⟨a, B, s, rfl, rfl, gl, q⟩ := hw
  refine ⟨a, _, [], .refl _, ?_⟩
  rintro m ⟨ok, e, n, ex⟩
  rw [List.append_nil]
  rcases q with ⟨i, x, E, hi, q⟩ | ⟨h, q⟩
  · obtain ⟨t, w, en⟩ := bk_open hi ex
    have hm := List.mem_of_getElem? hi
    have up := ok.up _ hm
    have tl := ok.tl _ hm
    have tl : (E.ts.length : Int) ≤ B.gv := tl
    refine ⟨_, en, ⟨_, _, HdAt.cons (HdAt.cons (HdAt.cons .fl)), rfl, rfl⟩, ⟨rfl, rfl, rfl⟩, [_, _], _, Ent.pick (is := [3, 3]) rfl, a, e, n, B, s, rfl, rfl, ok.nd, .inl ⟨i, x, E, hi, ?_⟩⟩
    refine ⟨_, Ent.pick (is := [0, 1, 1]) rfl, ?_⟩
    refine ⟨1, _, _, _, rfl, .adr t, rfl, tks E.ts, tds E.ts, .hung 2 rfl, E.ts.map (·.1), tks_kD E.ts, fun ys pm po => ?_⟩
    obtain rfl := sortI_eq pm po (le_of_lt_pw up)
    have sz : sizeLine = 16777216 := by decide
    refine ⟨⟨rfl, rfl⟩, fun k acc ρ μ => acc = (((E.ts.map (·.1)).take k).filter (isA B.now B.life E.ts)).map .int ∧ k ≤ E.ts.length ∧ ρ = [.dat (.adr a), .dat (.str s), .dat (.adr x), .un] ∧ μ = (a, .fl (.ins "Book" BF (B.ds e n))) :: (x, .fl (.ins "Entry" EF (E.ds t w))) :: (t, .fl (.dic (tks E.ts) (tds E.ts))) :: (e, .fl (.dic (kks B.es) (kds B.es))) :: (w, .fl (.lst E.ws)) :: (n, .fl (.lst B.nt)) :: kps enI (B.es.eraseIdx i), ⟨rfl, Nat.zero_le _, rfl, rfl⟩, ?_, ?_⟩
    · rintro k acc ρ μ d hd ⟨rfl, hk, rfl, rfl⟩
      rw [List.getElem?_map] at hd
      obtain ⟨j, hj, rfl⟩ := Option.map_eq_some_iff.mp hd
      have hlt := (List.getElem?_eq_some_iff.mp hj).1
      rw [List.length_map] at hlt
      have ac : (((E.ts.map (·.1)).take k).filter (isA B.now B.life E.ts)).length ≤ k := Nat.le_trans (List.length_filter_le ..) (by rw [List.length_take]; omega)
      refine ⟨⟨_, _, .fl, rfl, rfl⟩, ⟨rfl, rfl, rfl⟩, [_, _, _], _, Ent.pick (is := [0, 0, 0]) rfl, a, x, e, n, t, w, B, E, j, rfl, rfl, ?_⟩
      cases c : isA B.now B.life E.ts j with
      | true =>
        refine ⟨rfl, by rw [List.length_map]; omega, ?_, hlt, rfl, rfl⟩
        rw [take_at hj, List.filter_append, List.filter_cons_of_pos c, List.map_append]
        rfl
      | false =>
        refine ⟨rfl, ?_, hlt, rfl, rfl⟩
        rw [take_at hj, List.filter_append, List.filter_cons_of_neg (by rw [c]; decide), List.filter_nil, List.append_nil]
    · rintro acc ρ μ ⟨rfl, -, rfl, rfl⟩
      rw [List.length_map, List.take_length, asked_eq up]
      exact ⟨rfl, _, Ent.trans (Ent.pick (is := [1, 1, 2, 0, 0, 0]) rfl) (bk_close1 ok hi), q⟩
  · exact ⟨_, Ent.ofExp ex, ⟨_, _, .fl, rfl, rfl⟩, ⟨rfl, rfl, rfl⟩, [_, _], _, Ent.pick (is := [0, 0]) rfl, a, e, n, B, s, rfl, rfl, ok.nd, .inr ⟨h, _, bk_close ok, q⟩⟩
end
section
variable {P : Program} {w : World} {K : PySem.W.Frag} {mg : Str → Option Value} {base : Heap}
local macro_rules | `(tactic| get_elem_tactic_trivial) => `(tactic| (repeat first | exact Wk.nil | exact Wk'.nil | refine Wk.same ?_ | refine Wk'.same ?_ | refine Wk.un (fun _ z => nomatch z) ?_ | refine Wk'.un ?_))
/-! a number asked -/
def Bk.setE (B : Bk) (i : Nat) (x : Addr) (s : Key) (E : En) : Bk := { B with es := B.es.set i (x, s, E) }
def Bk.ask (B : Bk) (i : Nat) (x : Addr) (s : Key) (E : En) : Bk := { B with gv := B.gv + 1, es := B.es.set i (x, s, { E with ts := E.ts ++ [(B.gv + 1, B.now)] }) }
theorem Bk.ns_set {B : Bk} {i : Nat} {x : Addr} {s : Key} {E E' : En} (h : B.es[i]? = some (x, s, E)) {gv : Int} : (⟨B.life, B.most, B.es.set i (x, s, E'), B.now, gv, B.nt, B.by_⟩ : Bk).ns = B.ns := by
  unfold Bk.ns
  show (kks (B.es.set i (x, s, E'))).map keyS = _
  rw [kks_set h]
theorem Bk.ok.ask {B : Bk} (ok : B.ok) {i : Nat} {x : Addr} {s : Key} {E : En} (h : B.es[i]? = some (x, s, E)) : (B.ask i x s E).ok := by
  have hm := List.mem_of_getElem? h
  have mem : ∀ y ∈ (B.ask i x s E).es, y ∈ B.es ∨ y = (x, s, { E with ts := E.ts ++ [(B.gv + 1, B.now)] }) := fun y hy => List.mem_or_eq_of_mem_set hy
  refine ⟨?_, ?_, ?_, ok.m60, ?_, fun y hy => ?_, fun y hy => ?_, fun y hy => ?_, fun y hy => ?_⟩
  · show (kks (B.es.set i _)).Nodup
    rw [kks_set h]
    exact ok.nd
  · rw [show (B.ask i x s E).ns = B.ns from Bk.ns_set h]
    show kks (B.es.set i _) = _
    rw [kks_set h]
    exact ok.tx
  · show ((B.es.set i _).length : Int) ≤ _
    rw [List.length_set]
    exact ok.el
  · have := ok.g0
    show 0 ≤ B.gv + 1
    omega
  · rcases mem y hy with z | rfl
    · exact ok.up y z
    · show ((E.ts ++ [(B.gv + 1, B.now)]).map (·.1)).Pairwise (· < ·)
      rw [List.map_append]
      refine List.pairwise_append.mpr ⟨ok.up _ hm, List.pairwise_singleton .., fun u hu v hv => ?_⟩
      obtain ⟨t, ht, rfl⟩ := List.mem_map.mp hu
      have e : v = B.gv + 1 := List.mem_singleton.mp hv
      have := ok.hi _ hm t ht
      omega
  · intro t ht
    show t.1 ≤ B.gv + 1
    rcases mem y hy with z | rfl
    · have := ok.hi y z t ht
      omega
    · rcases List.mem_append.mp ht with z | z
      · have := ok.hi _ hm t z
        omega
      · rw [List.mem_singleton.mp z]
        exact Int.le_refl _
  · intro t ht
    rcases mem y hy with z | rfl
    · exact ok.lo y z t ht
    · rcases List.mem_append.mp ht with z | z
      · exact ok.lo _ hm t z
      · rw [List.mem_singleton.mp z]
        have := ok.g0
        show 0 ≤ B.gv + 1
        omega
  · show (y.2.2.ts.length : Int) ≤ B.gv + 1
    rcases mem y hy with z | rfl
    · have := ok.tl y z
      omega
    · have := ok.tl _ hm
      show ((E.ts ++ [(B.gv + 1, B.now)]).length : Int) ≤ B.gv + 1
      rw [List.length_append]
      have : (E.ts.length : Int) ≤ B.gv := this
      show ((E.ts.length + 1 : Nat) : Int) ≤ _
      omega
theorem tks_snoc {ts : List (Int × Int)} {j k : Int} (h : (Sum.inl j : Key) ∉ tks ts) : putKD (.inl j) (.int k) (tks ts) (tds ts) = (tks (ts ++ [(j, k)]), tds (ts ++ [(j, k)])) := by
  rw [putKD_new (by unfold tks tds; rw [List.length_map, List.length_map]) h]
  unfold tks tds
  rw [List.map_append, List.map_append]
  rfl
def oAddIB : Dt → Dt → (Dt → Prop) → Prop
  | .int i, .int j, Φ => Φ (.int (i + j))
  | _, _, _ => False
instance so_addIB : So K rAdd oAddIB where
  run B C H σ ρ x y dx dy Q Φ S hx hy h k := by
    cases dx <;> cases dy <;> try exact False.elim h
    exact ⟨_, _, hx.int, hy.int, k _ _ _ _ S (Same.refl _) (.int _) h⟩
def wBkAsk : W3F := fun ps μ Ψ Ξ => ∃ (a : Addr) (B : Bk) (s : Str), ps = [.dat (.adr a), .dat (.str s)] ∧ μ = [(a, .pk (bkI B))] ∧ B.gv < 1000000 ∧ ((∃ (i : Nat) (x : Addr) (E : En), B.es[i]? = some (x, .inr s, E) ∧ Ψ (.dat (.int (B.gv + 1))) ps [(a, .pk (bkI (B.ask i x (.inr s) E)))]) ∨ (Sum.inr s ∉ kks B.es ∧ Ξ "Unknown" (.str s) ps μ))
theorem okBookAsk (T : Tx K mg) : FnOk P w K mg base (L2N.CX P w) 4 (He.ma K (He.ga K "Book") "ask") T.fdBookAsk ["self", "name"] (sp3 K 2 wBkAsk) := by
  have B := T.B
  have GBookEntry : FnOk P w K mg base (L2N.CX P w) 3 (He.ma K (He.ga K "Book") "entry") T.fdBookEntry ["self", "name"] (sp3 K 2 wBkEntry) := okBookEntry T
  have bBookEntry := T.bBookEntry
  obtain ⟨_, kbBookEntry_2⟩ := T.kbBookEntry_2
  refine T.FBookAsk.ok scBookAsk (fun vs H Q E h => h.1) (fun cdv A outer s H vs Q E hr h => ?_)
  refine ⟨_, (pss_cons (psOpen (psGhost (ps_set (i := 2) scBookAsk.nd rfl (.inl rfl) (asPE (tMeth3 _ _ 1 0 _ _ _ _ _ _) (pe_meth3 (ks := []) (pv 0) T.clBook T.mBookEntry GBookEntry (hr.mono (by decide)) kbBookEntry_2 (fun σ => L2N.passAt (L2N.takes_of rfl rfl rfl rfl) σ) (pa_cons (pv 1) pa_nil) pk_nil)))))
        (pss_cons (asPS (sFldAug K _ _ rAdd "given") (ps_fldaug (pv 0) pe_int in_add))
        (pss_cons (ps_asg (asPE (tFld3 K _ "now") (pe_fld (pv 0) rfl)) (pg_sub (asPE (tFld3 K _ "ticks") (pe_fld (pv 2) rfl)) (asPE (tFld3 K _ "given") (pe_fld (pv 0) rfl)) (set_dict (Nat.lt_of_le_of_lt (Nat.add_le_add_left (by decide : 1 ≤ 64) _) hr.units))))
        (pss_one (ps_ret (asPE (tFld3 K _ "given") (pe_fld (pv 0) rfl))))))), ?_⟩
  refine body3 h (fun ps μ Ψ Ξ hw hl => ?_)
  obtain ⟨a, B, s, rfl, rfl, gl, q⟩ := hw
  have sz : sizeLine = 16777216 := by decide
  refine ⟨a, _, [], .refl _, ?_⟩
  rintro m ⟨ok, e, n, ex⟩
  rw [List.append_nil]
  rcases q with ⟨i, x, E, hi, q⟩ | ⟨h, q⟩
  · obtain ⟨t, w, en⟩ := bk_open hi ex
    have hm := List.mem_of_getElem? hi
    have tl := ok.tl _ hm
    have tl : (E.ts.length : Int) ≤ B.gv := tl
    have nin : (Sum.inl (B.gv + 1) : Key) ∉ tks E.ts := fun z => by
      obtain ⟨u, hu, e⟩ := List.mem_map.mp z
      have := ok.hi _ hm u hu
      have : u.1 = B.gv + 1 := Sum.inl.inj e
      omega
    refine ⟨_, en, ⟨_, _, HdAt.cons (HdAt.cons (HdAt.cons .fl)), rfl, rfl⟩, ⟨rfl, rfl, rfl⟩, [_, _], _, Ent.pick (is := [3, 3]) rfl, a, e, n, B, s, rfl, rfl, ok.nd, .inl ⟨i, x, E, hi, ?_⟩⟩
    refine ⟨0, _, _, _, rfl, .int B.gv, rfl, 0, BF, _, rfl, ⟨rfl, by decide⟩, BF, (B.ask i x (.inr s) E).ds e n, rfl, ?_⟩
    refine ⟨0, _, _, _, rfl, .int B.now, rfl, 2, _, _, _, rfl, .adr t, rfl, 0, _, _, _, rfl, .int (B.gv + 1), rfl, t, 3, tks E.ts, tds E.ts, .inl (B.gv + 1), rfl, rfl, rfl, by unfold tks; rw [List.length_map]; omega, _, _, tks_snoc nin, ?_⟩
    exact ⟨0, _, _, _, rfl, .int (B.gv + 1), rfl, _, Ent.trans (Ent.pick (is := [2, 2, 2, 0, 0, 0]) rfl) (bk_closeS (E' := { E with ts := E.ts ++ [(B.gv + 1, B.now)] }) (ok.ask hi) hi rfl), q⟩
  · exact ⟨_, Ent.ofExp ex, ⟨_, _, .fl, rfl, rfl⟩, ⟨rfl, rfl, rfl⟩, [_, _], _, Ent.pick (is := [0, 0]) rfl, a, e, n, B, s, rfl, rfl, ok.nd, .inr ⟨h, _, bk_close ok, q⟩⟩
end
section
variable {P : Program} {w : World} {K : PySem.W.Frag} {mg : Str → Option Value} {base : Heap}
local macro_rules | `(tactic| get_elem_tactic_trivial) => `(tactic| (repeat first | exact Wk.nil | exact Wk'.nil | refine Wk.same ?_ | refine Wk'.same ?_ | refine Wk.un (fun _ z => nomatch z) ?_ | refine Wk'.un ?_))
/-! otherwise, dropped, known -/
theorem mk0 (T : Tx K mg) : ∃ ds, Vals [.non, .int 7919] ds ∧ Binds K T.fdMixingInit ["self", "width", "factor"] ds := T.FMixingInit.binds (ps := ["self", "width", "factor"]) 1 0 (by decide) rfl (fun TT D doc pm an cdv ct us its ks h1 h2 h3 => match us, its, ks, h1, h2, h3 with
  | [u], [i], [k], _, _, _ => ⟨_, rfl, _, _, _, _, _, _, rfl, rfl, rfl⟩) (by decide)
theorem Bk.ok.setE {B : Bk} (ok : B.ok) {i : Nat} {x : Addr} {s : Key} {E E' : En} (h : B.es[i]? = some (x, s, E)) (ht : E'.ts = E.ts) : (B.setE i x s E').ok := by
  have hm := List.mem_of_getElem? h
  have mem : ∀ y ∈ (B.setE i x s E').es, y ∈ B.es ∨ y = (x, s, E') := fun y hy => List.mem_or_eq_of_mem_set hy
  refine ⟨?_, ?_, ?_, ok.m60, ok.g0, fun y hy => ?_, fun y hy => ?_, fun y hy => ?_, fun y hy => ?_⟩
  · show (kks (B.es.set i _)).Nodup
    rw [kks_set h]
    exact ok.nd
  · rw [show (B.setE i x s E').ns = B.ns from Bk.ns_set h]
    show kks (B.es.set i _) = _
    rw [kks_set h]
    exact ok.tx
  · show ((B.es.set i _).length : Int) ≤ _
    rw [List.length_set]
    exact ok.el
  all_goals
    rcases mem y hy with z | rfl
  · exact ok.up y z
  · show (E'.ts.map (·.1)).Pairwise (· < ·)
    rw [ht]
    exact ok.up _ hm
  · exact ok.hi y z
  · show ∀ t ∈ E'.ts, t.1 ≤ B.gv
    rw [ht]
    exact ok.hi _ hm
  · exact ok.lo y z
  · show ∀ t ∈ E'.ts, 0 ≤ t.1
    rw [ht]
    exact ok.lo _ hm
  · exact ok.tl y z
  · show (E'.ts.length : Int) ≤ B.gv
    rw [ht]
    exact ok.tl _ hm
def Opl (d : Dt) (o : Option (List Dt)) : Prop := (o = none ∧ d = .non) ∨ ∃ l, o = some l ∧ (d = .lst l ∨ d = .tup l)
def En.put (E : En) (o1 o2 : Option (List Dt)) : En := { E with po := o1.getD E.po, pl := o2.getD E.pl }
def wBkPut : W3F := fun ps μ Ψ Ξ => ∃ (a : Addr) (B : Bk) (s : Str) (d1 d2 : Dt) (o1 o2 : Option (List Dt)), ps = [.dat (.adr a), .dat (.str s), .dat d1, .dat d2] ∧ μ = [(a, .pk (bkI B))] ∧ Opl d1 o1 ∧ Opl d2 o2 ∧ ((∃ (i : Nat) (x : Addr) (E : En), B.es[i]? = some (x, .inr s, E) ∧ Ψ (.dat .non) ps [(a, .pk (bkI (B.setE i x (.inr s) (E.put o1 o2))))]) ∨ (Sum.inr s ∉ kks B.es ∧ Ξ "Unknown" (.str s) ps μ))
theorem okBookPut (T : Tx K mg) : FnOk P w K mg base (L2N.CX P w) 4 (He.ma K (He.ga K "Book") "put") T.fdBookPut ["self", "name", "policy", "plan"] (sp3 K 4 wBkPut) := by
  have B := T.B
  have GBookEntry : FnOk P w K mg base (L2N.CX P w) 3 (He.ma K (He.ga K "Book") "entry") T.fdBookEntry ["self", "name"] (sp3 K 2 wBkEntry) := okBookEntry T
  have bBookEntry := T.bBookEntry
  obtain ⟨_, kbBookEntry_2⟩ := T.kbBookEntry_2
  refine T.FBookPut.ok scBookPut (fun vs H Q E h => h.1) (fun cdv A outer s H vs Q E hr h => ?_)
  refine ⟨_, (pss_cons (psOpen (psGhost (ps_set (i := 4) scBookPut.nd rfl (.inl rfl) (asPE (tMeth3 _ _ 1 0 _ _ _ _ _ _) (pe_meth3 (ks := []) (pv 0) T.clBook T.mBookEntry GBookEntry (hr.mono (by decide)) kbBookEntry_2 (fun σ => L2N.passAt (L2N.takes_of rfl rfl rfl rfl) σ) (pa_cons (pv 1) pa_nil) pk_nil)))))
        (pss_cons (ps_if (pt_cmpR (show OpR _ _ rNotNone from op_notN) (pv 2) pe_non (nomark _)) (pss_one (asPS (sFld K _ _ "policy") (ps_fld (pv 4) (pe_callTy (show CallR _ _ (cTuple K) from call_tuple_of) (by rfl) B.b_tuple PyProof.Rows.boot_tuple (pa_cons (pv 2) pa_nil)) rfl))) pss_nil)
        (pss_one (ps_if (pt_cmpR (show OpR _ _ rNotNone from op_notN) (pv 3) pe_non (nomark _)) (pss_one (asPS (sFld K _ _ "plan") (ps_fld (pv 4) (pe_callTy (show CallR _ _ (cTuple K) from call_tuple_of) (by rfl) B.b_tuple PyProof.Rows.boot_tuple (pa_cons (pv 3) pa_nil)) rfl))) pss_nil)))), ?_⟩
  refine body3 h (fun ps μ Ψ Ξ hw hl => ?_)
  obtain ⟨a, B, s, d1, d2, o1, o2, rfl, rfl, h1, h2, q⟩ := hw
  refine ⟨a, _, [], .refl _, ?_⟩
  rintro m ⟨ok, e, n, ex⟩
  rw [List.append_nil]
  rcases q with ⟨i, x, E, hi, q⟩ | ⟨h, q⟩
  · obtain ⟨t, w, en⟩ := bk_open hi ex
    have dec9 : EF.length < 1000 := by decide
    have fin := bk_closeS (B := B) (a := a) (e := e) (n := n) (t := t) (w := w) (E' := E.put o1 o2) (ok.setE (E' := E.put o1 o2) hi rfl) hi rfl
    refine ⟨_, en, ⟨_, _, HdAt.cons (HdAt.cons (HdAt.cons .fl)), rfl, rfl⟩, ⟨rfl, rfl, rfl⟩, [_, _], _, Ent.pick (is := [3, 3]) rfl, a, e, n, B, s, rfl, rfl, ok.nd, .inl ⟨i, x, E, hi, ?_⟩⟩
    rcases h1 with ⟨rfl, rfl⟩ | ⟨l1, rfl, rfl | rfl⟩ <;> rcases h2 with ⟨rfl, rfl⟩ | ⟨l2, rfl, rfl | rfl⟩
    all_goals first
      | exact ⟨rfl, rfl, _, Ent.trans (Ent.pick (is := [2, 2, 2, 0, 0, 0]) rfl) fin, q⟩
      | exact ⟨rfl, rfl, 2, "Entry", EF, _, rfl, ⟨.inl rfl, dec9⟩, _, _, rfl, _, Ent.trans (Ent.pick (is := [2, 2, 2, 0, 0, 0]) rfl) fin, q⟩
      | exact ⟨rfl, 2, "Entry", EF, _, rfl, ⟨.inl rfl, dec9⟩, _, _, rfl, rfl, _, Ent.trans (Ent.pick (is := [2, 2, 2, 0, 0, 0]) rfl) fin, q⟩
      | exact ⟨rfl, 2, "Entry", EF, _, rfl, ⟨.inl rfl, dec9⟩, _, _, rfl, rfl, 2, "Entry", EF, _, rfl, ⟨.inl rfl, dec9⟩, _, _, rfl, _, Ent.trans (Ent.pick (is := [2, 2, 2, 0, 0, 0]) rfl) fin, q⟩
  · exact ⟨_, Ent.ofExp ex, ⟨_, _, .fl, rfl, rfl⟩, ⟨rfl, rfl, rfl⟩, [_, _], _, Ent.pick (is := [0, 0]) rfl, a, e, n, B, s, rfl, rfl, ok.nd, .inr ⟨h, _, bk_close ok, q⟩⟩
theorem Bk.ok.drop {B : Bk} (ok : B.ok) {i : Nat} {x : Addr} {s : Key} {E : En} (h : B.es[i]? = some (x, s, E)) : ({ B with es := B.es.eraseIdx i } : Bk).ok := by
  have hlt := (List.getElem?_eq_some_iff.mp h).1
  have sub : ∀ y ∈ B.es.eraseIdx i, y ∈ B.es := fun y hy => (List.eraseIdx_sublist ..).mem hy
  refine ⟨knd_erase ok.nd, ?_, ?_, ok.m60, ok.g0, fun y hy => ok.up y (sub y hy), fun y hy => ok.hi y (sub y hy), fun y hy => ok.lo y (sub y hy), fun y hy => ok.tl y (sub y hy)⟩
  · show kks (B.es.eraseIdx i) = ((kks (B.es.eraseIdx i)).map keyS).map .inr
    rw [kks_erase]
    have e := ok.tx
    unfold Bk.ns at e
    rw [List.eraseIdx_eq_take_drop_succ, List.map_append, List.map_append, List.map_take, List.map_take, List.map_drop, List.map_drop, ← e]
  · have := ok.el
    show ((B.es.eraseIdx i).length : Int) ≤ B.most
    rw [List.length_eraseIdx_of_lt hlt]
    omega
def wBkDrop : W3F := fun ps μ Ψ Ξ => ∃ (a : Addr) (B : Bk) (s : Str), ps = [.dat (.adr a), .dat (.str s)] ∧ μ = [(a, .pk (bkI B))] ∧ ((∃ (i : Nat) (x : Addr) (E : En), B.es[i]? = some (x, .inr s, E) ∧ Ψ (.dat .non) ps [(a, .pk (bkI { B with es := B.es.eraseIdx i }))]) ∨ (Sum.inr s ∉ kks B.es ∧ Ξ "Unknown" (.str s) ps μ))
theorem okBookDrop (T : Tx K mg) : FnOk P w K mg base (L2N.CX P w) 4 (He.ma K (He.ga K "Book") "drop") T.fdBookDrop ["self", "name"] (sp3 K 2 wBkDrop) := by
  have B := T.B
  have GBookEntry : FnOk P w K mg base (L2N.CX P w) 3 (He.ma K (He.ga K "Book") "entry") T.fdBookEntry ["self", "name"] (sp3 K 2 wBkEntry) := okBookEntry T
  have bBookEntry := T.bBookEntry
  obtain ⟨_, kbBookEntry_2⟩ := T.kbBookEntry_2
  refine T.FBookDrop.ok scBookDrop (fun vs H Q E h => h.1) (fun cdv A outer s H vs Q E hr h => ?_)
  refine ⟨_, (pss_cons (psOpen (psGhost (ps_expr (asPE (tMeth3 _ _ 1 0 _ _ _ _ _ _) (pe_meth3 (ks := []) (pv 0) T.clBook T.mBookEntry GBookEntry (hr.mono (by decide)) kbBookEntry_2 (fun σ => L2N.passAt (L2N.takes_of rfl rfl rfl rfl) σ) (pa_cons (pv 1) pa_nil) pk_nil)))))
        (pss_one (asPS (sDDel _ _) (ps_ddel (asPE (tFld3 K _ "entries") (pe_fld (pv 0) rfl)) (pv 1))))), ?_⟩
  refine body3 h (fun ps μ Ψ Ξ hw hl => ?_)
  obtain ⟨a, B, s, rfl, rfl, q⟩ := hw
  refine ⟨a, _, [], .refl _, ?_⟩
  rintro m ⟨ok, e, n, ex⟩
  rw [List.append_nil]
  rcases q with ⟨i, x, E, hi, q⟩ | ⟨h, q⟩
  · obtain ⟨t, w, en⟩ := bk_open hi ex
    refine ⟨_, en, ⟨_, _, HdAt.cons (HdAt.cons (HdAt.cons .fl)), rfl, rfl⟩, ⟨rfl, rfl, rfl⟩, [_, _], _, Ent.pick (is := [3, 3]) rfl, a, e, n, B, s, rfl, rfl, ok.nd, .inl ⟨i, x, E, hi, ?_⟩⟩
    refine ⟨0, _, _, _, rfl, .adr e, rfl, e, 1, kks B.es, kds B.es, .inr s, rfl, rfl, rfl, kin ok.nd (kmem hi), _, _, delK_at ok.nd hi, ?_⟩
    exact ⟨_, Ent.trans (Ent.pick (is := [2, 2, 2]) rfl) (Ent.trans (Ent.right (μ1 := [_, _, _])) (bk_close (B := { B with es := B.es.eraseIdx i }) (a := a) (e := e) (n := n) (ok.drop hi))), q⟩
  · exact ⟨_, Ent.ofExp ex, ⟨_, _, .fl, rfl, rfl⟩, ⟨rfl, rfl, rfl⟩, [_, _], _, Ent.pick (is := [0, 0]) rfl, a, e, n, B, s, rfl, rfl, ok.nd, .inr ⟨h, _, bk_close ok, q⟩⟩
def Bk.add (B : Bk) (x : Addr) (s : Key) (E : En) : Bk := { B with es := B.es ++ [(x, s, E)] }
theorem Bk.ok.add {B : Bk} (ok : B.ok) {x : Addr} {s : Str} {E : En} (h : (Sum.inr s : Key) ∉ kks B.es) (l : (B.es.length : Int) < B.most) (ht : E.ts = []) : (B.add x (.inr s) E).ok := by
  have mem : ∀ y ∈ (B.add x (.inr s) E).es, y ∈ B.es ∨ y = (x, .inr s, E) := fun y hy => (List.mem_append.mp hy).imp id List.mem_singleton.mp
  refine ⟨knd_snoc ok.nd h, ?_, ?_, ok.m60, ok.g0, fun y hy => ?_, fun y hy => ?_, fun y hy => ?_, fun y hy => ?_⟩
  · show kks (B.es ++ [(x, .inr s, E)]) = ((kks (B.es ++ [(x, .inr s, E)])).map keyS).map .inr
    have e := ok.tx
    unfold Bk.ns at e
    have e2 : kks (B.es ++ [(x, .inr s, E)]) = kks B.es ++ [.inr s] := List.map_append ..
    rw [e2, List.map_append, List.map_append, ← e]
    rfl
  · show ((B.es ++ [_]).length : Int) ≤ B.most
    rw [List.length_append]
    show ((B.es.length + 1 : Nat) : Int) ≤ _
    omega
  all_goals
    rcases mem y hy with z | rfl
  · exact ok.up y z
  · show (E.ts.map (·.1)).Pairwise (· < ·)
    rw [ht]
    exact .nil
  · exact ok.hi y z
  · show ∀ t ∈ E.ts, t.1 ≤ B.gv
    rw [ht]
    exact fun t z => nomatch z
  · exact ok.lo y z
  · show ∀ t ∈ E.ts, 0 ≤ t.1
    rw [ht]
    exact fun t z => nomatch z
  · exact ok.tl y z
  · show (E.ts.length : Int) ≤ B.gv
    rw [ht]
    exact ok.g0
def wBkKnow : W3F := fun ps μ Ψ Ξ => ∃ (a : Addr) (B : Bk) (s : Str) (E : En) (mx dp dl : Dt), ps = [.dat (.adr a), .dat (.str s), .dat (.int E.key), .dat mx, .dat dp, .dat dl, .dat (.int (E.m : Nat)), .dat (.int E.k)] ∧ μ = [(a, .pk (bkI B))] ∧ ((mx = .non ∧ E.w = none ∧ E.f = 7919) ∨ mx = mixD E.w E.f) ∧ (dp = .tup E.po ∨ dp = .lst E.po) ∧ (dl = .tup E.pl ∨ dl = .lst E.pl) ∧ E.ts = [] ∧ E.gd = .non ∧ E.ws = [] ∧
  (((Sum.inr s : Key) ∈ kks B.es ∧ Ξ "Known" (.str s) ps μ) ∨ ((Sum.inr s : Key) ∉ kks B.es ∧ B.most ≤ B.es.length ∧ Ξ "TooMany" (.int B.most) ps μ) ∨ ((Sum.inr s : Key) ∉ kks B.es ∧ B.es.length < B.most ∧ ∀ x, Ψ (.dat .non) ps [(a, .pk (bkI (B.add x (.inr s) E)))]))
theorem Tx.kbEntryInit_7 {K : PySem.W.Frag} {mg : Str → Option Value} (T : Tx K mg) : ∃ g : List Value → List Value → List Value, KBn K T.fdEntryInit ["self", "key", "mixing", "policy", "plan", "many", "fixed"] 7 [] g (gB [0, 1, 2, 3, 4, 5, 6] []) := kbAllN T.FEntryInit 7 [] [0, 1, 2, 3, 4, 5, 6] fun kV doc pm an cdv ct us ws h1 h2 => match us, ws, h1, h2 with
  | [u0, u1, u2, u3, u4, u5, u6], [], _, _ => rfl
theorem okBookKnow (T : Tx K mg) : FnOk P w K mg base (L2N.CX P w) 6 (He.ma K (He.ga K "Book") "know") T.fdBookKnow ["self", "name", "key", "mixing", "policy", "plan", "many", "fixed"] (sp3 K 8 wBkKnow) := by
  have B := T.B
  have GEntryInit : FnOk P w K mg base CX0 1 (He.ma K (He.ga K "Entry") "__init__") T.fdEntryInit ["self", "key", "mixing", "policy", "plan", "many", "fixed"] (sp3 K 7 wEnInit) := okEntryInit T
  have bEntryInit := T.bEntryInit
  have GStartErrorInit : FnOk P w K mg base CX0 1 (He.ma K (He.ga K "StartError") "__init__") T.fdStartErrorInit ["self", "what"] (spInitE K) := okStartErrorInit T
  have bStartErrorInit := T.bStartErrorInit
  have GMixingInit : FnOk P w K mg base CX0 3 (He.ma K (He.ga K "Mixing") "__init__") T.fdMixingInit ["self", "width", "factor"] (spIni K "Mixing" ["width", "factor"] okMixD) := OlN.okMixingD T
  obtain ⟨_, rMixingInit_2, bMixingInit_2⟩ := mk0 T
  obtain ⟨_, kbEntryInit_7⟩ := T.kbEntryInit_7
  refine T.FBookKnow.ok scBookKnow (fun vs H Q E h => h.1) (fun cdv A outer s H vs Q E hr h => ?_)
  refine ⟨_, (pss_cons (psOpen (psGhost (ps_if (pt_cmp (show PC _ _ _ _ (tDIn _ _) from pc_din (Nat.lt_of_le_of_lt (Nat.add_le_add_left (by decide : 1 ≤ 64) _) hr.units) (pv 1) (asPE (tFld3 K _ "entries") (pe_fld (pv 0) rfl)))) (pss_one (ps_raiseD rfl (L2N.takes_of rfl rfl rfl rfl) (pmk_errD (err_cl T.er (c := "Known") (by decide +kernel)) GStartErrorInit (hr.mono (by decide)) bStartErrorInit (by rfl) T.gKnown (by exact (pa_cons (pv 1) pa_nil))))) pss_nil)))
        (pss_cons (ps_if (pt_cmpR op_ge (pe_callB (show CallR _ _ rLenD from cr_lenD) (by rfl) B.b_len PySem.boot_len (pa_cons (asPE (tFld3 K _ "entries") (pe_fld (pv 0) rfl)) pa_nil)) (asPE (tFld3 K _ "most") (pe_fld (pv 0) rfl)) (nomark _)) (pss_one (ps_raiseD rfl (L2N.takes_of rfl rfl rfl rfl) (pmk_errD (err_cl T.er (c := "TooMany") (by decide +kernel)) GStartErrorInit (hr.mono (by decide)) bStartErrorInit (by rfl) T.gTooMany (by exact (pa_cons (asPE (tFld3 K _ "most") (pe_fld (pv 0) rfl)) pa_nil))))) pss_nil)
        (pss_cons (ps_set (i := 8) scBookKnow.nd rfl (.inl rfl) (pePure (pe_ifExp (pt_cmpR (show OpR _ _ rIsNone from op_isN) (pv 3) pe_non (nomark _)) (pe_make0 T.mkMixing GMixingInit (hr.mono (by decide)) (by rfl) T.gMixing bMixingInit_2 rMixingInit_2 pass0) (pv 3))))
        (pss_one (ps_asg (asPE (tMake3 _ 6 0 _ _ _ _ _) (pe_make3 (ks := []) T.mkEntry GEntryInit (hr.mono (by decide)) (by rfl) T.gEntry kbEntryInit_7 (pass0S (fun cls d _ H => E cls d H)) (pa_cons (pv 2) (pa_cons (pv 8) (pa_cons (pv 4) (pa_cons (pv 5) (pa_cons (pv 6) (pa_cons (pv 7) pa_nil)))))) pk_nil)) (pg_sub (asPE (tFld3 K _ "entries") (pe_fld (pv 0) rfl)) (pv 1) (set_dict (Nat.lt_of_le_of_lt (Nat.add_le_add_left (by decide : 1 ≤ 64) _) hr.units)))))))), ?_⟩
  refine body3 h (fun ps μ Ψ Ξ hw hl => ?_)
  obtain ⟨a, B, s, E, mx, dp, dl, rfl, rfl, hmx, hdp, hdl, e1, e2, e3, q⟩ := hw
  refine ⟨a, _, [], .refl _, ?_⟩
  rintro m ⟨ok, e, n, ex⟩
  rw [List.append_nil]
  have el := ok.el
  have m60 := ok.m60
  have sz : sizeLine = 16777216 := by decide
  refine ⟨_, Ent.ofExp ex, ?_⟩
  rcases q with ⟨h, q⟩ | ⟨h, hl, q⟩ | ⟨h, hl, q⟩
  · exact ⟨0, _, _, _, rfl, .adr e, rfl, kks B.es, kds B.es, .inr s, .hung 1 rfl, rfl, ifT (kin ok.nd h) ⟨"Known", rfl, _, bk_close ok, q⟩⟩
  · refine ⟨0, _, _, _, rfl, .adr e, rfl, kks B.es, kds B.es, .inr s, .hung 1 rfl, rfl, ifF (kout h) ?_⟩
    refine ⟨0, _, _, _, rfl, .adr e, rfl, e, 1, kks B.es, kds B.es, rfl, rfl, 0, _, _, _, rfl, .int B.most, rfl, ifT (decide_eq_true (by rw [kks_len]; exact hl)) ?_⟩
    exact ⟨0, _, _, _, rfl, .int B.most, rfl, "TooMany", rfl, _, bk_close ok, q⟩
  · refine ⟨0, _, _, _, rfl, .adr e, rfl, kks B.es, kds B.es, .inr s, .hung 1 rfl, rfl, ifF (kout h) ?_⟩
    refine ⟨0, _, _, _, rfl, .adr e, rfl, e, 1, kks B.es, kds B.es, rfl, rfl, 0, _, _, _, rfl, .int B.most, rfl, ifF (decide_eq_false (by rw [kks_len]; omega)) ?_⟩
    refine ⟨mixD E.w E.f, ?_, ?_⟩
    · rcases hmx with ⟨rfl, h1, h2⟩ | rfl
      · rw [h1, h2]
        exact ⟨rfl, ⟨⟨none, 7919, ⟨by decide, by decide, fun n z => nomatch z⟩, rfl⟩, rfl, rfl⟩, rfl, rfl⟩
      · exact ⟨rfl, rfl, rfl⟩
    refine ⟨⟨rfl, rfl⟩, "Entry", rfl, fun x => ⟨rfl, [], _, .refl _, x, E, dp, dl, rfl, rfl, hdp, hdl, e1, e2, e3, ?_⟩⟩
    refine ⟨1, _, _, _, rfl, .adr e, rfl, e, 2, kks B.es, kds B.es, .inr s, rfl, rfl, rfl, by rw [kks_len]; omega, _, _, putKD_new (by rw [kks_len, kds_len]) h, ?_⟩
    have ek : kks (B.es ++ [(x, Sum.inr s, E)]) = kks B.es ++ [.inr s] := List.map_append ..
    have ed : kds (B.es ++ [(x, Sum.inr s, E)]) = kds B.es ++ [.adr x] := List.map_append ..
    refine ⟨_, Ent.trans (Ent.pick (is := [1, 1, 1]) rfl) (Ent.trans (Ent.app (μ1 := [_, _, _]) (.refl _) (kps_snoc (I := enI) (x := (x, .inr s, E)))) ?_), q x⟩
    have z := bk_close (B := B.add x (.inr s) E) (a := a) (e := e) (n := n) (ok.add h hl e1)
    unfold Bk.μ at z
    rw [show (B.add x (.inr s) E).es = B.es ++ [(x, Sum.inr s, E)] from rfl, ek, ed] at z
    exact z

end
section
variable {P : Program} {w : World} {K : PySem.W.Frag} {mg : Str → Option Value} {base : Heap}
local macro_rules | `(tactic| get_elem_tactic_trivial) => `(tactic| (repeat first | exact Wk.nil | exact Wk'.nil | refine Wk.same ?_ | refine Wk'.same ?_ | refine Wk.un (fun _ z => nomatch z) ?_ | refine Wk'.un ?_))
/-! names drawn, unlike -/
namespace Nu
def nmU (l : List Nat) (t b y : Int) (i : Nat) : List Nat := l.take t.toNat ++ [((b + y * ((0 : Int) + (i : Nat))) % 26).toNat] ++ l.drop t.toNat
def wNamesU : List Sl → (List Dt → List Sl → Prop) → Prop := fun ps Ψ => ∃ (n k : Int), ps = [.box n, .dat (.int k)] ∧ n < 800000000 ∧ 0 ≤ k ∧ k ≤ 26 ∧ ∀ (ls : List (List Nat)) (m : Int) (z : Nat), (∀ l ∈ ls, Gd l) → (ls.length : Int) = k → ls.Nodup → (∀ l ∈ ls, l.length = z) → m ≤ n + 7 → Ψ (ls.map nD) [.box m, .dat (.int k)]
theorem nmU_ne {l : List Nat} {t b y : Int} (hy : y = 1 ∨ y = 3 ∨ y = 7 ∨ y = 25) {i j : Nat} (h : i < j) (hj : j < 26) : nmU l t b y i ≠ nmU l t b y j := fun e => by
  unfold nmU at e
  rw [List.append_assoc, List.append_assoc] at e
  have e := List.append_cancel_left e
  have e : ((b + y * ((0 : Int) + (i : Nat))) % 26).toNat = ((b + y * ((0 : Int) + (j : Nat))) % 26).toNat := (List.cons.inj e).1
  rcases hy with rfl | rfl | rfl | rfl <;> omega
theorem nmU_nd {l : List Nat} {t b y : Int} (hy : y = 1 ∨ y = 3 ∨ y = 7 ∨ y = 25) {n : Nat} (hn : n ≤ 26) : ((List.range n).map (nmU l t b y)).Nodup := by
  refine List.pairwise_map.mpr (List.pairwise_lt_range.imp_of_mem fun {i j} hi hj h => nmU_ne hy h ?_)
  have := List.mem_range.mp hj
  omega
theorem sum_sgU : ∀ l : List Nat, ((l.map sg).map (·.length)).sum = l.length
  | [] => rfl
  | d :: l => by
    show (sg d).length + ((l.map sg).map (·.length)).sum = _
    rw [sum_sgU l]
    show 1 + l.length = l.length + 1
    omega
theorem okLNames (T : Tx K mg) : FnOk P w K mg base CX0 2 (He.ga K "_law_names") T.fdLNames ["_law_box_here", "_law_size"] (spN K 2 wNamesU) := by
  have B := T.B
  have GLTake : FnOk P w K mg base CX0 1 (He.ga K "_law_take") T.fdLTake ["_law_box_here", "_law_size"] (spD K 2 wTake) := okTakeD T
  have bLTake := T.bLTake
  refine T.FLNames.ok scLNames (fun vs H Q E h => h.1) (fun cdv A outer s H vs Q E hr h => ?_)
  refine ⟨_, PSs.nox (pss_cons (ps_asg (pe_tup (pa_cons pe_str (pa_cons (pe_call GLTake (hr.mono (by decide)) (by rfl) T.gLTake T.FLTake.kp bLTake .nil pass0 (pa_cons (pv 0) (pa_cons pe_int pa_nil))) (pa_cons (pe_ix (show IxR _ (rIx K) from ix_seq) (pe_lst (pa_cons pe_int (pa_cons pe_int (pa_cons pe_int (pa_cons pe_int pa_nil))))) (pe_call GLTake (hr.mono (by decide)) (by rfl) T.gLTake T.FLTake.kp bLTake .nil pass0 (pa_cons (pv 0) (pa_cons pe_int pa_nil))) (fun _ _ => rfl)) pa_nil)))) (show PG _ _ (gTup K 3 _) from pg_tup rfl (pgs_cons (pg_name (i := 2) scLNames.nd rfl (Or.inr rfl)) (pgs_cons (pg_name (i := 3) scLNames.nd rfl (Or.inr rfl)) (pgs_cons (pg_name (i := 4) scLNames.nd rfl (Or.inr rfl)) pgs_nil)))))
        (pss_cons (ps_set (i := 5) scLNames.nd rfl (.inr rfl) (show PE _ _ (tM1 (cJoin K) _ _) from pe_join pe_str (pe_lc (own := [("_law_k", 6)]) (g := gName 6) (tt := tYes) (by rfl) scLNames.nd (pi_range1 (by rfl) B.b_range (pa_cons (pe_call GLTake (hr.mono (by decide)) (by rfl) T.gLTake T.FLTake.kp bLTake .nil pass0 (pa_cons (pv 0) (pa_cons pe_int pa_nil))) pa_nil)) (blkOk_by (own := [("_law_k", 6)]) (N := ["_law_box_here", "_law_size", "_law_letters", "_law_begun_here", "_law_by", "_law_tail", "_law_k", "_law_at"]) (sc := defScope sLNames) (by decide +kernel)) (fun _ _ _ _ _ => by exact (pg_name (i := 6) scLNames.nd rfl (Or.inl rfl))) (fun _ _ _ _ _ => pts_nil) (fun _ _ _ _ _ => (pe_ix (show IxR _ (rIx K) from ix_seq) (pv 2) (pe_call GLTake (hr.mono (by decide)) (by rfl) T.gLTake T.FLTake.kp bLTake .nil pass0 (pa_cons (pv 0) (pa_cons pe_int pa_nil))) (fun _ _ => rfl))))))
        (pss_cons (ps_set (i := 7) scLNames.nd rfl (.inr rfl) (pe_call GLTake (hr.mono (by decide)) (by rfl) T.gLTake T.FLTake.kp bLTake .nil pass0 (pa_cons (pv 0) (pa_cons (pe_op op_add (pe_callB (show CallR _ _ (rLen K) from call_len) (by rfl) B.b_len PySem.boot_len (pa_cons (pv 5) pa_nil)) pe_int) pa_nil))))
        (pss_one (ps_ret (pe_lc (own := [("_law_k", 6)]) (g := gName 6) (tt := tYes) (by rfl) scLNames.nd (pi_range1 (by rfl) B.b_range (pa_cons (pv 1) pa_nil)) (blkOk_by (own := [("_law_k", 6)]) (N := ["_law_box_here", "_law_size", "_law_letters", "_law_begun_here", "_law_by", "_law_tail", "_law_k", "_law_at"]) (sc := defScope sLNames) (by decide +kernel)) (fun _ _ _ _ _ => by exact (pg_name (i := 6) scLNames.nd rfl (Or.inl rfl))) (fun _ _ _ _ _ => pts_nil) (fun _ _ _ _ _ => (pe_op (show OpR _ _ rAddS from op_add_str) (pe_op (show OpR _ _ rAddS from op_add_str) (pe_slice (show SlR _ rSlS from sl_str) (pv 5) po_none (po_some (pv 7))) (pe_ix (show IxR _ (rIx K) from ix_seq) (pv 2) (pe_op op_mod (pe_op op_add (pv 3) (pe_op op_mul (pv 4) (pv 6))) pe_int) (fun _ _ => rfl))) (pe_slice (show SlR _ rSlS from sl_str) (pv 5) (po_some (pv 7)) po_none))))))))), ?_⟩
  refine bodyD h (fun ps Ψ hw hl => ?_)
  obtain ⟨n, k, rfl, hn, h0, h1, q⟩ := hw
  refine ⟨rfl, ⟨by omega, by decide, by decide⟩, fun b b0 b1 => ⟨by show 4 ≤ sizeLine; decide, rfl, ⟨by omega, by decide, by decide⟩, fun c c0 c1 => ?_⟩⟩
  obtain ⟨v, ev, mv⟩ := atD (xs := [Dt.int 1, .int 3, .int 7, .int 25]) c0 c1
  obtain ⟨y, rfl, y0, y1, hy⟩ : ∃ y : Int, v = .int y ∧ 0 ≤ y ∧ y ≤ 25 ∧ (y = 1 ∨ y = 3 ∨ y = 7 ∨ y = 25) := by
    simp only [List.mem_cons, List.mem_nil_iff, or_false] at mv
    rcases mv with rfl | rfl | rfl | rfl <;> exact ⟨_, rfl, by decide, by decide, by decide⟩
  have sz : sizeLine = 16777216 := by decide
  refine ⟨_, ev, by show 3 ≤ sizeLine; decide, rfl, rfl, ⟨by omega, by decide, by decide⟩, fun r r0 r1 => ?_⟩
  refine ⟨by omega, by omega, ⟨rfl, rfl⟩, fun j acc ρ => ∃ (l : List Nat) (m : Int), acc = (l.map sg).map .str ∧ ρ = [.box m, .dat (.int k), .dat (.str LT), .dat (.int b), .dat (.int y), .un, .un, .un] ∧ l.length = j ∧ (∀ d ∈ l, d < 26) ∧ m ≤ n + 3 + j, ⟨[], _, rfl, rfl, rfl, (fun _ z => nomatch z), by omega⟩, ?_, ?_⟩
  · rintro j acc ρ d hd ⟨l, m, rfl, rfl, hlen, hl, hm⟩
    obtain ⟨hj, rfl⟩ := rng_at hd
    refine ⟨rfl, ⟨by omega, by decide, by decide⟩, fun c c0 c1 => ?_⟩
    have hc : c.toNat < 26 := by omega
    refine ⟨by decide, 97 + c.toNat, atD_of c0 (lt_at _ hc), rfl, ?_, l ++ [c.toNat], _, ?_, rfl, ?_, ?_, ?_⟩
    · rw [List.length_map, List.length_map]
      exact small6 (by omega)
    · rw [List.map_append, List.map_append]
      rfl
    · rw [List.length_append, hlen]
      rfl
    · intro k hk
      rcases List.mem_append.mp hk with z | z
      · exact hl k z
      · rw [List.mem_singleton.mp z]
        exact hc
    · omega
  · rintro acc ρ ⟨l, m, rfl, rfl, hlen, hl, hm⟩
    rw [rng_len] at hlen hm
    refine ⟨rfl, l.map sg, txts_map _, ?_, ?_⟩
    · rw [sum_sgU, List.length_map]
      show l.length + l.length * 0 ≤ _
      omega
    rw [join_sg]
    refine ⟨by rw [nm_len]; omega, rfl, ⟨by omega, by rw [nm_len]; omega, by rw [nm_len]; omega⟩, fun t t0 t1 => ?_⟩
    rw [nm_len] at t1
    refine ⟨by omega, by omega, ⟨rfl, rfl⟩, fun j acc ρ => ∃ ls : List (List Nat), acc = ls.map nD ∧ (∀ x ∈ ls, Gd x) ∧ ls = (List.range j).map (nmU l t b y) ∧ ρ = [.box (m + 1), .dat (.int k), .dat (.str LT), .dat (.int b), .dat (.int y), .dat (.str (nm l)), .un, .dat (.int t)], ⟨[], rfl, (fun _ z => nomatch z), rfl, rfl⟩, ?_, ?_⟩
    · rintro j acc ρ d hd ⟨ls, rfl, gls, els, rfl⟩
      have hlj : ls.length = j := by rw [els, List.length_map, List.length_range]
      obtain ⟨hj, rfl⟩ := rng_at hd
      have hm26 : 0 ≤ (b + y * ((0 : Int) + (j : Nat))) % 26 ∧ (b + y * ((0 : Int) + (j : Nat))) % 26 < 26 := ⟨Int.emod_nonneg _ (by decide), Int.emod_lt_of_pos _ (by decide)⟩
      have hc : ((b + y * ((0 : Int) + (j : Nat))) % 26).toNat < 26 := by omega
      have lT : (nm l).length ≤ sizeLine := by rw [nm_len]; omega
      have e1 : cutS (nm l) none (some t) ++ (⟨#[97 + ((b + y * ((0 : Int) + (j : Nat))) % 26).toNat]⟩ : Str) ++ cutS (nm l) (some t) none = nm (l.take t.toNat ++ [((b + y * ((0 : Int) + (j : Nat))) % 26).toNat] ++ l.drop t.toNat) := by
        rw [nm_cutT t0, nm_cutD t0, ← nm_app, ← nm_app]
        rfl
      have c1 : (cutS (nm l) none (some t)).length ≤ 3 := by rw [nm_cutT t0, nm_len, List.length_take]; omega
      have c2 : (cutS (nm l) (some t) none).length ≤ 3 := by rw [nm_cutD t0, nm_len, List.length_drop]; omega
      refine ⟨lT, .inl ⟨by omega, by omega⟩, (show (0 : Int) < 26 by decide), by decide, 97 + ((b + y * ((0 : Int) + (j : Nat))) % 26).toNat, atD_of hm26.1 (lt_at _ hc), ?_⟩
      have l12 : (cutS (nm l) none (some t) ++ (⟨#[97 + ((b + y * ((0 : Int) + (j : Nat))) % 26).toNat]⟩ : Str)).length ≤ 4 := by
        rw [nm_cutT t0]
        show (nm _ ++ sg _).length ≤ 4
        rw [nm_one, nm_app, nm_len, List.length_append, List.length_take]
        show _ + 1 ≤ 4
        omega
      refine ⟨by show _ + 1 ≤ sizeLine; omega, lT, by omega, rfl, ?_, ls ++ [l.take t.toNat ++ [((b + y * ((0 : Int) + (j : Nat))) % 26).toNat] ++ l.drop t.toNat], ?_, ?_, ?_, rfl⟩
      · rw [List.length_map]
        exact small6 (by omega)
      · rw [List.map_append]
        show _ ++ [Dt.str _] = _ ++ [nD _]
        rw [e1]
        rfl
      · intro x hx
        rcases List.mem_append.mp hx with z | z
        · exact gls x z
        · rw [List.mem_singleton.mp z]
          refine ⟨fun d hd => ?_, ?_, ?_⟩
          · rcases List.mem_append.mp hd with z | z
            · rcases List.mem_append.mp z with z | z
              · exact hl d (List.mem_of_mem_take z)
              · rw [List.mem_singleton.mp z]
                exact hc
            · exact hl d (List.mem_of_mem_drop z)
          · rw [List.length_append, List.length_append]
            show 1 ≤ _ + 1 + _
            omega
          · rw [List.length_append, List.length_append, List.length_take, List.length_drop]
            show _ + 1 + _ ≤ 4
            omega
      · rw [els, List.range_succ, List.map_append]
        rfl
    · rintro acc ρ ⟨ls, rfl, gls, els, rfl⟩
      have hlj : ls.length = k.toNat := by rw [els, List.length_map, List.length_range, rng_len]
      refine ⟨rfl, ?_⟩
      refine q ls _ (l.length + 1) gls (by omega) ?_ (fun x hx => ?_) (by omega)
      · rw [els, rng_len]
        exact nmU_nd hy (by omega)
      · rw [els] at hx
        obtain ⟨i, -, rfl⟩ := List.mem_map.mp hx
        unfold nmU
        rw [List.length_append, List.length_append, List.length_take, List.length_drop]
        show _ + 1 + _ = _
        omega
end Nu

end
section
variable {P : Program} {w : World} {K : PySem.W.Frag} {mg : Str → Option Value} {base : Heap}
local macro_rules | `(tactic| get_elem_tactic_trivial) => `(tactic| (repeat first | exact Wk.nil | exact Wk'.nil | refine Wk.same ?_ | refine Wk'.same ?_ | refine Wk.un (fun _ z => nomatch z) ?_ | refine Wk'.un ?_))
/-! len(x) of a thing with an own __len__, at level 3 -/
section
variable {prog : Program} {w : World} {A : Around} {E : Value → Shared → Prop} {s : Shared} {x C f : Addr} {ox : Obj} {od : Option Obj} {K : PySem.W.Frag}
theorem klo_call {Q : Value → Shared → Prop} (X : K.In s.heap) (I : PySem.W.InstAt s.heap x ox C od) (hs : PySem.W.findIn K (.ref C) "__len__" = some (some (.ref f))) (hf : PySem.W.isFn K (.ref f) = true)
    (h : wpAny (model prog w) A.in1 (call (.ref f) [.ref x]) (fun r s' => ∃ n u, r = .int n u ∧ 0 ≤ n ∧ n < 2 ^ 63 ∧ Q (.int n s'.toks) { s' with toks := s'.toks + 1 }) E s) : wpAny (model prog w) A (call (.builtin "len") [.ref x]) Q E s := by
  refine Calls.call_function_entry kind_len plain_len entry_len (args_len1 _) ?_
  unfold Builtin.«len»
  refine wpAny_bind (m := oneArg "len" _) (wpAny_pure ?_)
  refine wpAny_bind (m := callSpecial? (.ref x) (Str.ofString "__len__")) (PySem.W.special_fn X I hs (beq_iff_eq.mp hf) (wpAny_mono h (fun r s' hr => ?_) fun _ _ y => y))
  obtain ⟨n, u, rfl, h0, h1, hq⟩ := hr
  refine wpAny_bind (wpAny_holding (wpAny_pure ?_))
  refine wpAny_bind (wpAny_letGo ?_)
  show wpAny _ _ (if n < 0 then _ else _) _ _ _
  rw [if_neg (by omega)]
  show wpAny _ _ (if n ≥ 2 ^ 63 then _ else _) _ _ _
  rw [if_neg (by omega)]
  exact wpAny_bind (wpAny_mkInt (wpAny_pure ⟨_, rfl, hq⟩))
end
def rLenOwn (C : Addr) (sp : Sp) : List V → Hp → VK → Prop := fun xs H Q => ∃ a dx fs, xs = [V.ref a] ∧ H a = some (.ins C dx fs) ∧ sp [.ref a] H (fun v G => ∃ n : Int, v = .int n ∧ 0 ≤ n ∧ n < 2 ^ 63 ∧ Q (.int n) G) E0
theorem cLenOwn {X : Cx} {C f : Addr} {fd : FuncData} {ps : List Str} {n : Nat} {sp : Sp} (M : Meth X.K C "__len__" f)
    (F : FnOk X.prog X.w X.K X.mg X.base CX0 n f fd ps sp) (hb : Binds X.K fd ps []) (hr : Room (n + 1) X.A) : CallR X (.builtin "len") (rLenOwn C sp) := by
  intro pins s σ H xs us Q I r h
  obtain ⟨a, dx, fs, rfl, ha, hsp⟩ := h
  obtain ⟨u, rfl, ru⟩ := r.one
  cases (show u = Value.ref a from ru)
  obtain ⟨mA, J, _⟩ := ins_get I.hok ha
  obtain ⟨od, J, _⟩ := J.look
  have hr2 : Room n X.A.in1 := Room.in1 hr
  refine klo_call I.kIn J M.at_ M.fn ?_
  have hl := F.len _ _ _ _ hsp
  have r1 : Vals [V.ref a] [Value.ref a] := .cons rfl .nil
  refine wpAny_call (codeAny_mono (F.run X.A.in1 X.stack s H ⟨[.ref a], []⟩ [.ref a] [.ref a] _ E0 hr2 I.env0.in1 (by
    have := hb s [.ref a] I.kIn (by simpa using hl)
    simpa using this) r1 hsp) fun r s' hq => ?_)
  cases r with
  | error e => exact False.elim hq
  | ok fl =>
    cases fl with
    | ret w =>
      obtain ⟨z, H', I', rz, m, ez, m0, m1, q⟩ := I.after hq
      subst ez
      obtain ⟨u, e⟩ := (show ∃ u, w = Value.int m u from rz)
      cases e
      exact ⟨m, u, rfl, m0, m1, .int m, H', I'.tok _, ⟨_, rfl⟩, q⟩
    | next => exact False.elim hq
    | brk => exact False.elim hq
    | cont => exact False.elim hq
def wLenOwn (c : Str) (wf : W3F) (wo : WE3) : WE3 := fun ρ μ Ψ Ξ => wo ρ μ (fun r ρ0 μ0 => match r with
  | .dat (.adr x) => (∃ ns, HdAt μ0 x c ns) ∧ ∃ ν νr, Ent μ0 (ν ++ νr) ∧ call3 wf [.d (.adr x)] ρ0 ν νr (fun r ρ' μ' => ∃ n : Int, r = .dat (.int n) ∧ 0 ≤ n ∧ n < 2 ^ 63 ∧ Ψ (.dat (.int n)) ρ' μ') noX3
  | _ => False) Ξ
instance (priority := 45) e3_lenOwn {W : WX} {c : Str} {wf : W3F} {te : TE} {wo : WE3} [o : E3 K W te wo] : E3 K W (tCB (rLenOwn (He.ga K c) (sp3 K 1 wf)) (tCons te tNil)) (wLenOwn c wf wo) where
  run B C H σ ρ μ Q Ψ Ξ S h k mx := o.run B C H σ ρ μ _ _ _ S h (fun C0 H0 v0 r0 ρ0 μ0 ok0 s0 h0 => by
    cases r0 with
    | new ds => exact False.elim h0
    | dat d0 =>
      obtain ⟨S0, rp0⟩ := ok0
      cases d0 <;> try exact False.elim h0
      rename_i xx
      obtain ⟨⟨ns, hd⟩, ν, νr, en, h2⟩ := h0
      cases rp0
      obtain ⟨ds, dx, vs0, e1, _⟩ := hd.at S0
      refine ⟨xx, dx, _, rfl, e1, ?_⟩
      refine Sep3.calls S0 en (.cons (show ArOk K C0 σ (V.ref xx) (.d (.adr xx)) from .adr xx) .nil) rfl h2 (fun C' G v r ρ' μ' ok s z => ?_) fun C' G cls d2 c d ρ' μ' S' ex z => z.elim
      obtain ⟨m, rfl, m0, m1, z⟩ := z
      obtain ⟨S', rp⟩ := ok
      cases rp
      exact ⟨m, rfl, m0, m1, k C' G _ (.dat (.int m)) _ _ ⟨S', .int m⟩ (s0.trans s) z⟩) mx

end
section
variable {P : Program} {w : World} {K : PySem.W.Frag} {mg : Str → Option Value} {base : Heap}
local macro_rules | `(tactic| get_elem_tactic_trivial) => `(tactic| (repeat first | exact Wk.nil | exact Wk'.nil | refine Wk.same ?_ | refine Wk'.same ?_ | refine Wk.un (fun _ z => nomatch z) ?_ | refine Wk'.un ?_))
/-! a raising def where it does not raise -/
def wfN3 (wf : W3F) : W3F := fun ps μ Ψ _ => wf ps μ Ψ noX3
theorem sp3_calm {n : Nat} {wf : W3F} {vs : List V} {H : Hp} {Q : VK} {E E2 : XK} (h : sp3 K n (wfN3 wf) vs H Q E) : sp3 K n wf vs H Q E2 := by
  obtain ⟨hl, C, U, bx, ps, μ, m, Ψ, Ξ, S, e, M, hU, hf, k, kx⟩ := h
  exact ⟨hl, C, U, bx, ps, μ, m, Ψ, noX3, S, e, M, hU, hf, k, fun C' G cls dd c d ps' μ' _ _ z => False.elim z⟩
theorem FnOk.calm3 {k : Nat} {f : Addr} {fd : FuncData} {ps : List Str} {n : Nat} {wf : W3F} (F : FnOk P w K mg base (L2N.CX P w) k f fd ps (sp3 K n wf)) : FnOk P w K mg base CX0 k f fd ps (sp3 K n (wfN3 wf)) := by
  refine ⟨fun vs H Q E h => F.len vs H Q (fun _ _ _ => False) (sp3_calm (E := E) h), fun A outer s H args us vs Q E hr h0 b r h => codeAny_mono (F.run A outer s H args us vs Q (fun _ _ _ => False) hr h0 b r (sp3_calm (E := E) h)) fun r s' q => ?_⟩
  cases r with
  | ok fl => cases fl <;> exact q
  | error e =>
    obtain ⟨a, B, H', cls, d, e1, fl, rest⟩ := q
    exact rest.2.2.2.2.2.elim
/-! a value of either kind is taken as read -/

end
section
variable {P : Program} {w : World} {K : PySem.W.Frag} {mg : Str → Option Value} {base : Heap}
local macro_rules | `(tactic| get_elem_tactic_trivial) => `(tactic| (repeat first | exact Wk.nil | exact Wk'.nil | refine Wk.same ?_ | refine Wk'.same ?_ | refine Wk.un (fun _ z => nomatch z) ?_ | refine Wk'.un ?_))
theorem len_bulkS : ∀ ds : List Dt, ds.length ≤ PyData.bulkAll (pys ds)
  | [] => Nat.le_refl _
  | d :: ds => by
    have := len_bulkS ds
    simp only [pys, PyData.bulkAll, List.length_cons]
    omega
mutual
theorem dep_le : ∀ d : Dt, dep d.py ≤ d.py.depth
  | .lst ds => by
    show dep.deps (pys ds) + 1 ≤ PyData.depthAll (pys ds) + 1
    exact Nat.succ_le_succ (deps_le ds)
  | .tup ds => by
    show dep.deps (pys ds) + 1 ≤ PyData.depthAll (pys ds) + 1
    exact Nat.succ_le_succ (deps_le ds)
  | .non => Nat.zero_le _
  | .bl _ => Nat.zero_le _
  | .int _ => Nat.zero_le _
  | .str _ => Nat.zero_le _
  | .obj _ _ _ => Nat.zero_le _
  | .err _ _ => Nat.zero_le _
  | .adr _ => Nat.zero_le _
  | .dic _ _ => Nat.zero_le _
  | .scr _ => Nat.zero_le _
theorem deps_le : ∀ ds : List Dt, dep.deps (pys ds) ≤ PyData.depthAll (pys ds)
  | [] => Nat.le_refl _
  | d :: ds => by
    have h1 := dep_le d
    have h2 := deps_le ds
    show max (dep d.py) (dep.deps (pys ds)) ≤ max d.py.depth (PyData.depthAll (pys ds))
    omega
end
theorem pys_len : ∀ ds : List Dt, (pys ds).length = ds.length
  | [] => rfl
  | _ :: ds => congrArg Nat.succ (pys_len ds)
mutual
theorem wid_le : ∀ d : Dt, wid d.py ≤ d.py.bulk
  | .lst ds => by
    have h1 := wids_le ds
    have h2 := len_bulkS ds
    have h3 := pys_len ds
    show max (pys ds).length (wid.wids (pys ds)) ≤ PyData.bulkAll (pys ds)
    omega
  | .tup ds => by
    have h1 := wids_le ds
    have h2 := len_bulkS ds
    have h3 := pys_len ds
    show max (pys ds).length (wid.wids (pys ds)) ≤ PyData.bulkAll (pys ds)
    omega
  | .non => Nat.zero_le _
  | .bl _ => Nat.zero_le _
  | .int _ => Nat.zero_le _
  | .str _ => Nat.zero_le _
  | .obj _ _ _ => Nat.zero_le _
  | .err _ _ => Nat.zero_le _
  | .adr _ => Nat.zero_le _
  | .dic _ _ => Nat.zero_le _
  | .scr _ => Nat.zero_le _
theorem wids_le : ∀ ds : List Dt, wid.wids (pys ds) ≤ PyData.bulkAll (pys ds)
  | [] => Nat.le_refl _
  | d :: ds => by
    have h1 := wid_le d
    have h2 := wids_le ds
    show max (wid d.py) (wid.wids (pys ds)) ≤ d.py.bulk + 1 + PyData.bulkAll (pys ds)
    omega
end
theorem Nice.same {n b k : Nat} {d : Dt} (h : Nice n b d) (hn : n < k) (hb : b ≤ 1000000) : d.pure = true ∧ dep d.py < k ∧ wid d.py ≤ 1000000 := ⟨h.pu, Nat.lt_of_le_of_lt (Nat.le_trans (dep_le d) h.dp) hn, Nat.le_trans (Nat.le_trans (wid_le d) h.bk) hb⟩

end
section
variable {P : Program} {w : World} {K : PySem.W.Frag} {mg : Str → Option Value} {base : Heap}
local macro_rules | `(tactic| get_elem_tactic_trivial) => `(tactic| (repeat first | exact Wk.nil | exact Wk'.nil | refine Wk.same ?_ | refine Wk'.same ?_ | refine Wk.un (fun _ z => nomatch z) ?_ | refine Wk'.un ?_))
/-! the law's own keeping -/
abbrev OWK : List Key := [.inr "key", .inr "how", .inr "size", .inr "kept", .inr "rules", .inr "plan", .inr "asked", .inr "last", .inr "history"]
def ods (s : Addr) : List Dt := [.int 7, .tup [.non, .int 7919], .int 4, .int 2, .lst [], .lst [], .adr s, .non, .lst []]
def owμ (ts : List (Int × Int)) (o s : Addr) : My := [(o, .fl (.dic OWK (ods s))), (s, .fl (.dic (tks ts) (tds ts)))]
def owI (ts : List (Int × Int)) : Addr → Fm → Prop := fun o m => ∃ s : Addr, m = [(o, .dic OWK (ods s)), (s, .dic (tks ts) (tds ts))]
theorem ow_close {ts : List (Int × Int)} {o s : Addr} : Ent (owμ ts o s) [(o, .pk (owI ts))] := Ent.pack1 (I := owI ts) (is := [0, 0]) (m := [(o, .dic OWK (ods s)), (s, .dic (tks ts) (tds ts))]) ⟨s, rfl⟩ rfl
structure Wo where
  life : Int
  top : Int
  tk : Int
  nx : Int
  L : KL (List (Int × Int))
abbrev WKs : List Key := [.inr "life", .inr "top", .inr "ticks", .inr "next", .inr "known"]
def Wo.ds (W : Wo) (k : Addr) : List Dt := [.int W.life, .int W.top, .int W.tk, .int W.nx, .adr k]
def Wo.μ (W : Wo) (w k : Addr) : My := (w, .fl (.dic WKs (W.ds k))) :: (k, .fl (.dic (kks W.L) (kds W.L))) :: kps owI W.L
def woI (W : Wo) : Addr → Fm → Prop := fun w m => ∃ k, Exp (W.μ w k) m
theorem wo_close {W : Wo} {w k : Addr} : Ent (W.μ w k) [(w, .pk (woI W))] := Ent.toPk fun _ h => ⟨k, h⟩
/-- one apart -/
def Wo.μ1 (W : Wo) (w k : Addr) (i : Nat) (ts : List (Int × Int)) (o s : Addr) : My := owμ ts o s ++ (w, .fl (.dic WKs (W.ds k))) :: (k, .fl (.dic (kks W.L) (kds W.L))) :: kps owI (W.L.eraseIdx i)
theorem wo_open {W : Wo} {w k o : Addr} {i : Nat} {s : Key} {ts : List (Int × Int)} {m : Fm} (h : W.L[i]? = some (o, s, ts)) (ex : Exp (W.μ w k) m) : ∃ a, Ent (flat m) (W.μ1 w k i ts o a) := by
  obtain ⟨m1, m2, rfl, h1, m3, m4, rfl, h2, h3⟩ := ex
  cases h1
  cases h2
  obtain ⟨m5, ⟨a, rfl⟩, z⟩ := kps_openG h h3
  exact ⟨a, Ent.trans (Ent.app (μ1 := [_, _]) (.refl _) z) (Ent.pick (is := [2, 2]) rfl)⟩
theorem wo_closeS {W W' : Wo} {w k o a : Addr} {i : Nat} {s : Key} {ts ts' : List (Int × Int)} (h : W.L[i]? = some (o, s, ts)) (hs : W'.L = W.L.set i (o, s, ts')) : Ent (owμ ts' o a ++ (w, .fl (.dic WKs (W'.ds k))) :: (k, .fl (.dic (kks W.L) (kds W.L))) :: kps owI (W.L.eraseIdx i)) [(w, .pk (woI W'))] := by
  have hlt := (List.getElem?_eq_some_iff.mp h).1
  refine Ent.trans (Ent.app (μ1 := owμ ts' o a) ow_close (.refl _)) (Ent.trans (Ent.pick (is := [1, 1, 0]) rfl) (Ent.trans (Ent.app (μ1 := [_, _]) (.refl _) (kps_back (I := owI) (x := (o, s, ts')) hlt)) ?_))
  have z := wo_close (W := W') (w := w) (k := k)
  unfold Wo.μ at z
  rw [hs, kks_set h, kds_set h] at z
  exact z
structure St (B : Bk) (W : Wo) : Prop where
  ok : B.ok
  life : B.life = W.life
  most : B.most = W.top
  now : B.now = W.tk
  nx : W.nx = B.gv + 1
  es : W.L.map (fun x => (x.2.1, x.2.2)) = B.es.map (fun x => (x.2.1, x.2.2.ts))
  gd : ∀ x ∈ B.es, x.2.2.gd = .non ∧ x.2.2.ws = []
theorem St.ks {B : Bk} {W : Wo} (S : St B W) : kks W.L = kks B.es := by
  have e := congrArg (fun l : List (Key × List (Int × Int)) => l.map (·.1)) S.es
  unfold kks
  rw [List.map_map, List.map_map] at e
  exact e
theorem St.at {B : Bk} {W : Wo} (S : St B W) {i : Nat} {x : Addr} {s : Key} {E : En} (h : B.es[i]? = some (x, s, E)) : ∃ o, W.L[i]? = some (o, s, E.ts) := by
  have e : (W.L.map (fun x => (x.2.1, x.2.2)))[i]? = some (s, E.ts) := by rw [S.es, List.getElem?_map, h]; rfl
  rw [List.getElem?_map] at e
  obtain ⟨⟨o, s2, t2⟩, h2, e2⟩ := Option.map_eq_some_iff.mp e
  cases e2
  exact ⟨o, h2⟩
theorem St.ln {B : Bk} {W : Wo} (S : St B W) : W.L.length = B.es.length := by
  have e := congrArg List.length S.es
  rw [List.length_map, List.length_map] at e
  exact e
end
section
variable {P : Program} {w : World} {K : PySem.W.Frag} {mg : Str → Option Value} {base : Heap}
local macro_rules | `(tactic| get_elem_tactic_trivial) => `(tactic| (repeat first | exact Wk.nil | exact Wk'.nil | refine Wk.same ?_ | refine Wk'.same ?_ | refine Wk.un (fun _ z => nomatch z) ?_ | refine Wk'.un ?_))
/-! the numbers asked now -/
def wNow60 : W3F := fun ps μ Ψ _ => ∃ (w k o a : Addr) (W : Wo) (s : Str) (i : Nat) (ts : List (Int × Int)), ps = [.dat (.adr w), .dat (.str s)] ∧ μ = [(o, .fl (.dic OWK (ods a))), (a, .fl (.dic (tks ts) (tds ts))), (w, .fl (.dic WKs (W.ds k))), (k, .fl (.dic (kks W.L) (kds W.L)))] ∧ (kks W.L).Nodup ∧ W.L[i]? = some (o, .inr s, ts) ∧ (ts.map (·.1)).Pairwise (· < ·) ∧ ts.length < 1000000 ∧ Ψ (.new ((askedT W.tk W.life ts).map .int)) ps μ
theorem okLAskedNow (T : Tx K mg) : FnOk P w K mg base CX0 2 (He.ga K "_law_asked_now") T.fdLAskedNow ["_law_w", "_law_name"] (sp3 K 2 wNow60) := by
  have B := T.B
  refine T.FLAskedNow.ok scLAskedNow (fun vs H Q E h => h.1) (fun cdv A outer s H vs Q E hr h => ?_)
  refine ⟨_, PSs.nox (pss_cons (ps_set (i := 2) scLAskedNow.nd rfl (.inr rfl) (asPE (tDGet _ _) (pe_dget (Nat.lt_of_le_of_lt (Nat.add_le_add_left (by decide : 1 ≤ 64) _) hr.units) (asPE (tDGet _ _) (pe_dget (Nat.lt_of_le_of_lt (Nat.add_le_add_left (by decide : 1 ≤ 64) _) hr.units) (asPE (tDGet _ _) (pe_dget (Nat.lt_of_le_of_lt (Nat.add_le_add_left (by decide : 1 ≤ 64) _) hr.units) (pv 0) pe_str (fun _ _ => rfl))) (pv 1) (fun _ _ => rfl))) pe_str (fun _ _ => rfl))))
        (pss_one (ps_ret (pe_callB (show CallR _ _ (L2.rSortedI K) from L2.cr_sortedI) (by rfl) B.b_sorted (by decide +kernel) (pa_cons (pe_lockX (pe_lc (own := [("_law_number", 3)]) (g := gName 3) (by rfl) scLAskedNow.nd (pi_keys (pv 2)) (blkOk_by (own := [("_law_number", 3)]) (N := ["_law_w", "_law_name", "_law_own", "_law_number"]) (sc := defScope sLAskedNow) (by decide +kernel)) (fun _ _ _ _ _ => by exact (pg_name (i := 3) scLAskedNow.nd rfl (Or.inl rfl))) (fun _ _ _ _ _ => pts_one (pt_cmpR op_lt (pe_op op_sub (asPE (tDGet _ _) (pe_dget (Nat.lt_of_le_of_lt (Nat.add_le_add_left (by decide : 1 ≤ 64) _) hr.units) (pv 0) pe_str (fun _ _ => rfl))) (asPE (tDGet _ _) (pe_dget (Nat.lt_of_le_of_lt (Nat.add_le_add_left (by decide : 1 ≤ 64) _) hr.units) (pv 2) (pv 3) (fun _ _ => rfl)))) (asPE (tDGet _ _) (pe_dget (Nat.lt_of_le_of_lt (Nat.add_le_add_left (by decide : 1 ≤ 64) _) hr.units) (pv 0) pe_str (fun _ _ => rfl))) (nomark _))) (fun _ _ _ _ _ => (pv 3)))) pa_nil))))), ?_⟩
  refine body3 h (fun ps μ Ψ Ξ hw hl => ?_)
  obtain ⟨w, k, o, a, W, s, i, ts, rfl, rfl, nd, hi, up, tl, q⟩ := hw
  have sz : sizeLine = 16777216 := by decide
  refine ⟨WKs, W.ds k, .inr "known", .adr k, .hung 2 rfl, rfl, rfl, kks W.L, kds W.L, .inr s, .adr o, .hung 3 rfl, rfl, getK_at nd hi, OWK, ods a, .inr "asked", .adr a, .hung 0 rfl, rfl, rfl, ?_⟩
  refine ⟨a, tks ts, tds ts, (o, .fl (.dic OWK (ods a))) :: (w, .fl (.dic WKs (W.ds k))) :: (k, .fl (.dic (kks W.L) (kds W.L))) :: [], (Ent.pick (is := [1]) rfl : Ent _ ([_] ++ _)), fun od ws => ⟨rfl, _, .refl _, ⟨rfl, rfl⟩, fun j acc ρ μ => acc = (((ts.map (·.1)).take j).filter (isA W.tk W.life ts)).map .int ∧ j ≤ ts.length ∧ ρ = [.dat (.adr w), .dat (.str s), .dat (.adr a), .un] ∧ μ = (o, .fl (.dic OWK (ods a))) :: (w, .fl (.dic WKs (W.ds k))) :: (k, .fl (.dic (kks W.L) (kds W.L))) :: [], ⟨rfl, Nat.zero_le _, rfl, rfl⟩, ?_, ?_⟩⟩
  · rintro j acc ρ μ key hk ⟨rfl, hj, rfl, rfl⟩
    unfold tks at hk
    rw [List.getElem?_map] at hk
    obtain ⟨t, ht, rfl⟩ := Option.map_eq_some_iff.mp hk
    have hlt := (List.getElem?_eq_some_iff.mp ht).1
    have hm := List.mem_of_getElem? ht
    have hj1 : (ts.map (·.1))[j]? = some t.1 := by rw [List.getElem?_map, ht]; rfl
    have ac : (((ts.map (·.1)).take j).filter (isA W.tk W.life ts)).length ≤ j := Nat.le_trans (List.length_filter_le ..) (by rw [List.length_take]; omega)
    have lk := lookT_at up hm
    have ei : isA W.tk W.life ts t.1 = decide (W.tk - t.2 < W.life) := by unfold isA; rw [lk]
    refine ⟨WKs, W.ds k, .inr "ticks", .int W.tk, .hung 2 rfl, rfl, rfl, tks ts, tds ts, .inl t.1, .int t.2, .locked 0 rfl, rfl, by rw [getK_ts, lk]; rfl, WKs, W.ds k, .inr "life", .int W.life, .hung 2 rfl, rfl, rfl, ?_⟩
    by_cases c : W.tk - t.2 < W.life
    · rw [decide_eq_true c] at ei
      refine ifT (decide_eq_true c) ⟨_, .refl _, rfl, by rw [List.length_map]; omega, ?_, hlt, rfl, rfl⟩
      rw [take_at hj1, List.filter_append, List.filter_cons_of_pos ei, List.map_append]
      rfl
    · rw [decide_eq_false c] at ei
      refine ifF (decide_eq_false c) ⟨_, .refl _, rfl, ?_, hlt, rfl, rfl⟩
      rw [take_at hj1, List.filter_append, List.filter_cons_of_neg (by rw [ei]; decide), List.filter_nil, List.append_nil]
  · rintro acc ρ μ ⟨rfl, -, rfl, rfl⟩
    have el : (tks ts).length = (ts.map (·.1)).length := by unfold tks; rw [List.length_map, List.length_map]
    rw [el, List.take_length, asked_eq up]
    refine ⟨rfl, _, rfl, fun ys pm po => ?_⟩
    obtain rfl := sortI_eq pm po (le_of_lt_pw (by rw [← asked_eq up]; exact up.filter _))
    exact ⟨_, (Ent.pick (is := [1, 0]) rfl : Ent _ ([_, _] ++ _)), q⟩
end
section
variable {P : Program} {w : World} {K : PySem.W.Frag} {mg : Str → Option Value} {base : Heap}
local macro_rules | `(tactic| get_elem_tactic_trivial) => `(tactic| (repeat first | exact Wk.nil | exact Wk'.nil | refine Wk.same ?_ | refine Wk'.same ?_ | refine Wk.un (fun _ z => nomatch z) ?_ | refine Wk'.un ?_))
/-! a number asked -/
def Wo.ask (W : Wo) (i : Nat) (o : Addr) (s : Key) (ts : List (Int × Int)) : Wo := { W with nx := W.nx + 1, L := W.L.set i (o, s, ts ++ [(W.nx, W.tk)]) }
theorem St.ask {B : Bk} {W : Wo} (S : St B W) {i : Nat} {x o : Addr} {s : Key} {E : En} (h : B.es[i]? = some (x, s, E)) (h2 : W.L[i]? = some (o, s, E.ts)) : St (B.ask i x s E) (W.ask i o s E.ts) := by
  refine ⟨S.ok.ask h, S.life, S.most, S.now, ?_, ?_, fun y hy => ?_⟩
  · show W.nx + 1 = B.gv + 1 + 1
    rw [S.nx]
  · show (W.L.set i _).map _ = (B.es.set i _).map _
    rw [List.map_set, List.map_set, S.es, S.nx, S.now]
  · rcases List.mem_or_eq_of_mem_set hy with z | rfl
    · exact S.gd y z
    · show E.gd = .non ∧ E.ws = []
      exact S.gd _ (List.mem_of_getElem? h)
def wAsk60 : W3F := fun ps μ Ψ _ => ∃ (b w : Addr) (B : Bk) (W : Wo) (s : Str) (i : Nat) (x o : Addr) (E : En), ps = [.dat (.adr b), .dat (.adr w), .dat (.str s)] ∧ μ = [(b, .pk (bkI B)), (w, .pk (woI W))] ∧ St B W ∧ B.gv < 1000 ∧ B.es[i]? = some (x, .inr s, E) ∧ W.L[i]? = some (o, .inr s, E.ts) ∧ Ψ (.dat (.bl true)) ps [(b, .pk (bkI (B.ask i x (.inr s) E))), (w, .pk (woI (W.ask i o (.inr s) E.ts)))]
theorem Tx.kbLSame_2 {K : PySem.W.Frag} {mg : Str → Option Value} (T : Tx K mg) : ∃ g : List Value → List Value → List Value, KBn K T.fdLSame ["_law_found", "_law_due"] 2 [] g (gB [0, 1] []) := kbAllN T.FLSame 2 [] [0, 1] fun kV doc pm an cdv ct us ws h1 h2 => match us, ws, h1, h2 with
  | [u0, u1], [], _, _ => rfl
theorem Tx.kbBookAsk_2 {K : PySem.W.Frag} {mg : Str → Option Value} (T : Tx K mg) : ∃ g : List Value → List Value → List Value, KBn K T.fdBookAsk ["self", "name"] 2 [] g (gB [0, 1] []) := kbAllN T.FBookAsk 2 [] [0, 1] fun kV doc pm an cdv ct us ws h1 h2 => match us, ws, h1, h2 with
  | [u0, u1], [], _, _ => rfl
theorem okLAsk (T : Tx K mg) : FnOk P w K mg base CX0 7 (He.ga K "_law_ask") T.fdLAsk ["_law_book", "_law_w", "_law_name"] (sp3 K 3 wAsk60) := by
  have B := T.B
  have GLSame : FnOk P w K mg base CX0 6 (He.ga K "_law_same") T.fdLSame ["_law_found", "_law_due"] _ := FnOk.up3 (okSameD T 6)
  have bLSame := T.bLSame
  have GBookAsk : FnOk P w K mg base CX0 4 (He.ma K (He.ga K "Book") "ask") T.fdBookAsk ["self", "name"] (sp3 K 2 (wfN3 wBkAsk)) := FnOk.calm3 (okBookAsk T)
  have bBookAsk := T.bBookAsk
  obtain ⟨_, kbBookAsk_2⟩ := T.kbBookAsk_2
  obtain ⟨_, kbLSame_2⟩ := T.kbLSame_2
  refine T.FLAsk.ok scLAsk (fun vs H Q E h => h.1) (fun cdv A outer s H vs Q E hr h => ?_)
  refine ⟨_, PSs.nox (pss_cons (psOpen (psGhost (ps_asg (asPE (tDGet _ _) (pe_dget (Nat.lt_of_le_of_lt (Nat.add_le_add_left (by decide : 1 ≤ 64) _) hr.units) (pv 1) pe_str (fun _ _ => rfl))) (pg_sub (asPE (tDGet _ _) (pe_dget (Nat.lt_of_le_of_lt (Nat.add_le_add_left (by decide : 1 ≤ 64) _) hr.units) (asPE (tDGet _ _) (pe_dget (Nat.lt_of_le_of_lt (Nat.add_le_add_left (by decide : 1 ≤ 64) _) hr.units) (asPE (tDGet _ _) (pe_dget (Nat.lt_of_le_of_lt (Nat.add_le_add_left (by decide : 1 ≤ 64) _) hr.units) (pv 1) pe_str (fun _ _ => rfl))) (pv 2) (fun _ _ => rfl))) pe_str (fun _ _ => rfl))) (asPE (tDGet _ _) (pe_dget (Nat.lt_of_le_of_lt (Nat.add_le_add_left (by decide : 1 ≤ 64) _) hr.units) (pv 1) pe_str (fun _ _ => rfl))) (set_dict (Nat.lt_of_le_of_lt (Nat.add_le_add_left (by decide : 1 ≤ 64) _) hr.units))))))
        (pss_cons (ps_asg (pe_op op_add (asPE (tDGet _ _) (pe_dget (Nat.lt_of_le_of_lt (Nat.add_le_add_left (by decide : 1 ≤ 64) _) hr.units) (pv 1) pe_str (fun _ _ => rfl))) pe_int) (pg_sub (pv 1) pe_str (set_dict (Nat.lt_of_le_of_lt (Nat.add_le_add_left (by decide : 1 ≤ 64) _) hr.units))))
        (pss_one (ps_ret (asPE (tCall3 2 0 _ _ _ _ _) (pe_call3 (ks := []) GLSame (hr.mono (by decide)) (by rfl) T.gLSame T.FLSame.kp kbLSame_2 (pass0S (fun cls d _ H => E cls d H)) (pa_cons (asPE (tMeth3 _ _ 1 0 _ _ _ _ _ _) (pe_meth3 (ks := []) (pv 0) T.clBook T.mBookAsk GBookAsk (hr.mono (by decide)) kbBookAsk_2 (pass0S (fun cls d _ H => E cls d H)) (pa_cons (pv 2) pa_nil) pk_nil)) (pa_cons (pe_op op_sub (asPE (tDGet _ _) (pe_dget (Nat.lt_of_le_of_lt (Nat.add_le_add_left (by decide : 1 ≤ 64) _) hr.units) (pv 1) pe_str (fun _ _ => rfl))) pe_int) pa_nil)) pk_nil)))))), ?_⟩
  refine body3 h (fun ps μ Ψ Ξ hw hl => ?_)
  obtain ⟨b, w, B, W, s, i, x, o, E, rfl, rfl, S, gl, hb, hw, q⟩ := hw
  have nd : (kks W.L).Nodup := by rw [S.ks]; exact S.ok.nd
  have tl := S.ok.tl _ (List.mem_of_getElem? hb)
  have tl : (E.ts.length : Int) ≤ B.gv := tl
  have sz : sizeLine = 16777216 := by decide
  have nin : (Sum.inl W.nx : Key) ∉ tks E.ts := fun z => by
    obtain ⟨u, hu, e⟩ := List.mem_map.mp z
    have := S.ok.hi _ (List.mem_of_getElem? hb) u hu
    have : u.1 = W.nx := Sum.inl.inj e
    have := S.nx
    omega
  refine ⟨w, _, [(b, .pk (bkI B))], Ent.perm (.swap _ _ _), ?_⟩
  rintro m ⟨k, ex⟩
  obtain ⟨a, en⟩ := wo_open hw ex
  refine ⟨_, Ent.trans (Ent.app en (.refl _)) (Ent.perm List.perm_append_comm), ?_⟩
  refine ⟨WKs, W.ds k, .inr "ticks", .int W.tk, .hung 3 rfl, rfl, rfl, WKs, W.ds k, .inr "known", .adr k, .hung 3 rfl, rfl, rfl, kks W.L, kds W.L, .inr s, .adr o, .hung 4 rfl, rfl, getK_at nd hw, OWK, ods a, .inr "asked", .adr a, .hung 1 rfl, rfl, rfl, WKs, W.ds k, .inr "next", .int W.nx, .hung 3 rfl, rfl, rfl, a, 2, tks E.ts, tds E.ts, .inl W.nx, rfl, rfl, rfl, by unfold tks; rw [List.length_map]; omega, _, _, tks_snoc nin, ?_⟩
  refine ⟨WKs, W.ds k, .inr "next", .int W.nx, .hung 3 rfl, rfl, rfl, w, 3, WKs, W.ds k, .inr "next", rfl, rfl, rfl, by show 5 < sizeLine; decide, WKs, (W.ask i o (.inr s) E.ts).ds k, rfl, ?_⟩
  refine ⟨⟨_, _, .pk, rfl, rfl⟩, ⟨rfl, rfl, rfl⟩, [_], _, .refl _, b, B, s, rfl, rfl, by omega, .inl ⟨i, x, E, hb, ?_⟩⟩
  refine ⟨WKs, (W.ask i o (.inr s) E.ts).ds k, .inr "next", .int (W.nx + 1), .hung 3 rfl, rfl, rfl, ⟨rfl, rfl, rfl⟩, [], _, .refl _, _, _, rfl, ?_⟩
  have g0 := S.ok.g0
  obtain ⟨pu, dp, wd⟩ := (nice_small (i := B.gv + 1) (by omega) (by omega)).same (k := 6) (by decide) (by decide)
  refine ⟨congrArg Dt.int (by have := S.nx; omega), pu, dp, wd, ?_⟩
  exact ⟨_, Ent.app (μ1 := [_]) (.refl _) (wo_closeS (W := W) (W' := W.ask i o (.inr s) E.ts) hw rfl), q⟩
end
section
variable {P : Program} {w : World} {K : PySem.W.Frag} {mg : Str → Option Value} {base : Heap}
local macro_rules | `(tactic| get_elem_tactic_trivial) => `(tactic| (repeat first | exact Wk.nil | exact Wk'.nil | refine Wk.same ?_ | refine Wk'.same ?_ | refine Wk.un (fun _ z => nomatch z) ?_ | refine Wk'.un ?_))
/-! whether all stands as it was kept -/
def wStands60 : W3F := fun ps μ Ψ _ => ∃ (b w : Addr) (B : Bk) (W : Wo), ps = [.dat (.adr b), .dat (.adr w)] ∧ μ = [(b, .pk (bkI B)), (w, .pk (woI W))] ∧ St B W ∧ B.gv < 1000 ∧ B.most ≤ 9 ∧ (∀ x ∈ B.es, ∃ l, x.2.1 = .inr (nm l) ∧ Gd l) ∧ Ψ (.dat (.bl true)) ps μ
theorem Tx.kbLAskedNow_2 {K : PySem.W.Frag} {mg : Str → Option Value} (T : Tx K mg) : ∃ g : List Value → List Value → List Value, KBn K T.fdLAskedNow ["_law_w", "_law_name"] 2 [] g (gB [0, 1] []) := kbAllN T.FLAskedNow 2 [] [0, 1] fun kV doc pm an cdv ct us ws h1 h2 => match us, ws, h1, h2 with
  | [u0, u1], [], _, _ => rfl
theorem Tx.kbBookAsked_2 {K : PySem.W.Frag} {mg : Str → Option Value} (T : Tx K mg) : ∃ g : List Value → List Value → List Value, KBn K T.fdBookAsked ["self", "name"] 2 [] g (gB [0, 1] []) := kbAllN T.FBookAsked 2 [] [0, 1] fun kV doc pm an cdv ct us ws h1 h2 => match us, ws, h1, h2 with
  | [u0, u1], [], _, _ => rfl
theorem Tx.kbBookHistory_2 {K : PySem.W.Frag} {mg : Str → Option Value} (T : Tx K mg) : ∃ g : List Value → List Value → List Value, KBn K T.fdBookHistory ["self", "name"] 2 [] g (gB [0, 1] []) := kbAllN T.FBookHistory 2 [] [0, 1] fun kV doc pm an cdv ct us ws h1 h2 => match us, ws, h1, h2 with
  | [u0, u1], [], _, _ => rfl
theorem Tx.kbBookLast_2 {K : PySem.W.Frag} {mg : Str → Option Value} (T : Tx K mg) : ∃ g : List Value → List Value → List Value, KBn K T.fdBookLast ["self", "name"] 2 [] g (gB [0, 1] []) := kbAllN T.FBookLast 2 [] [0, 1] fun kV doc pm an cdv ct us ws h1 h2 => match us, ws, h1, h2 with
  | [u0, u1], [], _, _ => rfl
theorem Tx.kbBookNames_1 {K : PySem.W.Frag} {mg : Str → Option Value} (T : Tx K mg) : ∃ g : List Value → List Value → List Value, KBn K T.fdBookNames ["self"] 1 [] g (gB [0] []) := kbAllN T.FBookNames 1 [] [0] fun kV doc pm an cdv ct us ws h1 h2 => match us, ws, h1, h2 with
  | [u0], [], _, _ => rfl
theorem okLStands (T : Tx K mg) : FnOk P w K mg base CX0 7 (He.ga K "_law_stands") T.fdLStands ["_law_book", "_law_w"] (sp3 K 2 wStands60) := by
  have B := T.B
  have GLSame : FnOk P w K mg base CX0 6 (He.ga K "_law_same") T.fdLSame ["_law_found", "_law_due"] _ := FnOk.up3 (okSameD T 6)
  have bLSame := T.bLSame
  have GBookNames : FnOk P w K mg base CX0 1 (He.ma K (He.ga K "Book") "names") T.fdBookNames ["self"] (sp3 K 1 wBkNames) := okBookNames T
  have bBookNames := T.bBookNames
  have GBookAsked : FnOk P w K mg base CX0 4 (He.ma K (He.ga K "Book") "asked") T.fdBookAsked ["self", "name"] (sp3 K 2 (wfN3 wBkAsked)) := FnOk.calm3 (okBookAsked T)
  have bBookAsked := T.bBookAsked
  have GBookLast : FnOk P w K mg base CX0 4 (He.ma K (He.ga K "Book") "last") T.fdBookLast ["self", "name"] (sp3 K 2 (wfN3 wBkLast)) := FnOk.calm3 (okBookLast T)
  have bBookLast := T.bBookLast
  have GBookHistory : FnOk P w K mg base CX0 4 (He.ma K (He.ga K "Book") "history") T.fdBookHistory ["self", "name"] (sp3 K 2 (wfN3 wBkHist)) := FnOk.calm3 (okBookHistory T)
  have bBookHistory := T.bBookHistory
  have GLAskedNow : FnOk P w K mg base CX0 2 (He.ga K "_law_asked_now") T.fdLAskedNow ["_law_w", "_law_name"] (sp3 K 2 wNow60) := okLAskedNow T
  have bLAskedNow := T.bLAskedNow
  have bBookLen := T.bBookLen
  have GBookLen : FnOk P w K mg base CX0 1 (He.ma K (He.ga K "Book") "__len__") T.fdBookLen ["self"] (sp3 K 1 wBkLen) := okBookLen T
  obtain ⟨_, kbBookAsked_2⟩ := T.kbBookAsked_2
  obtain ⟨_, kbBookHistory_2⟩ := T.kbBookHistory_2
  obtain ⟨_, kbBookLast_2⟩ := T.kbBookLast_2
  obtain ⟨_, kbBookNames_1⟩ := T.kbBookNames_1
  obtain ⟨_, kbLAskedNow_2⟩ := T.kbLAskedNow_2
  obtain ⟨_, kbLSame_2⟩ := T.kbLSame_2
  refine T.FLStands.ok scLStands (fun vs H Q E h => h.1) (fun cdv A outer s H vs Q E hr h => ?_)
  refine ⟨_, PSs.nox (pss_cons (psOpen (psGhost (ps_set (i := 2) scLStands.nd rfl (.inl rfl) (pe_callB (show CallR _ _ rSortK from cr_sortK rfl) (by rfl) B.b_sorted (by decide +kernel) (pa_cons (asPE (tDGet _ _) (pe_dget (Nat.lt_of_le_of_lt (Nat.add_le_add_left (by decide : 1 ≤ 64) _) hr.units) (pv 1) pe_str (fun _ _ => rfl))) pa_nil)))))
        (pss_cons (ps_par (i := 3) (j := 4) (by rfl) scLStands.nd rfl rfl (by decide) rfl rfl (pa_cons (pe_lst (pa_cons (asPE (tMeth3 _ _ 0 0 _ _ _ _ _ _) (pe_meth30 (ks := []) (pv 0) T.clBook T.mBookNames GBookNames (hr.mono (by decide)) kbBookNames_1 (pass0S (fun cls d _ H => E cls d H)) pk_nil)) (pa_cons (pe_callB (cLenOwn T.mBookLen GBookLen bBookLen (hr.mono (by decide))) (by rfl) B.b_len PySem.boot_len (pa_cons (pv 0) pa_nil)) pa_nil))) (pa_cons (pe_lst (pa_cons (pv 2) (pa_cons (pe_callB (show CallR _ _ (rLen K) from call_len) (by rfl) B.b_len PySem.boot_len (pa_cons (pv 2) pa_nil)) pa_nil))) pa_nil)) (by rfl))
        (pss_cons (ps_for PassesOwn.never rfl (piAny (K := K) rfl (pv 2)) (pg_name (i := 5) scLStands.nd rfl (Or.inl rfl))
        (pss_cons (psOpen (ps_set (i := 6) scLStands.nd rfl (.inl rfl) (asPE (tDGet _ _) (pe_dget (Nat.lt_of_le_of_lt (Nat.add_le_add_left (by decide : 1 ≤ 64) _) hr.units) (asPE (tDGet _ _) (pe_dget (Nat.lt_of_le_of_lt (Nat.add_le_add_left (by decide : 1 ≤ 64) _) hr.units) (pv 1) pe_str (fun _ _ => rfl))) (pv 5) (fun _ _ => rfl)))))
        (pss_cons (ps_set (i := 3) scLStands.nd rfl (.inl rfl) (pe_op op_cat (pv 3) (pe_lst (pa_cons (asPE (tMeth3 _ _ 1 0 _ _ _ _ _ _) (pe_meth3 (ks := []) (pv 0) T.clBook T.mBookAsked GBookAsked (hr.mono (by decide)) kbBookAsked_2 (pass0S (fun cls d _ H => E cls d H)) (pa_cons (pv 5) pa_nil) pk_nil)) (pa_cons (asPE (tMeth3 _ _ 1 0 _ _ _ _ _ _) (pe_meth3 (ks := []) (pv 0) T.clBook T.mBookLast GBookLast (hr.mono (by decide)) kbBookLast_2 (pass0S (fun cls d _ H => E cls d H)) (pa_cons (pv 5) pa_nil) pk_nil)) (pa_cons (asPE (tMeth3 _ _ 1 0 _ _ _ _ _ _) (pe_meth3 (ks := []) (pv 0) T.clBook T.mBookHistory GBookHistory (hr.mono (by decide)) kbBookHistory_2 (pass0S (fun cls d _ H => E cls d H)) (pa_cons (pv 5) pa_nil) pk_nil)) pa_nil))))))
        (pss_one (ps_set (i := 4) scLStands.nd rfl (.inl rfl) (pe_op op_cat (pv 4) (pe_lst (pa_cons (asPE (tCall3 2 0 _ _ _ _ _) (pe_call3 (ks := []) GLAskedNow (hr.mono (by decide)) (by rfl) T.gLAskedNow T.FLAskedNow.kp kbLAskedNow_2 (pass0S (fun cls d _ H => E cls d H)) (pa_cons (pv 1) (pa_cons (pv 5) pa_nil)) pk_nil)) (pa_cons (asPE (tDGet _ _) (pe_dget (Nat.lt_of_le_of_lt (Nat.add_le_add_left (by decide : 1 ≤ 64) _) hr.units) (pv 6) pe_str (fun _ _ => rfl))) (pa_cons (asPE (tDGet _ _) (pe_dget (Nat.lt_of_le_of_lt (Nat.add_le_add_left (by decide : 1 ≤ 64) _) hr.units) (pv 6) pe_str (fun _ _ => rfl))) pa_nil))))))))))
        (pss_one (ps_ret (asPE (tCall3 2 0 _ _ _ _ _) (pe_call3 (ks := []) GLSame (hr.mono (by decide)) (by rfl) T.gLSame T.FLSame.kp kbLSame_2 (pass0S (fun cls d _ H => E cls d H)) (pa_cons (pv 3) (pa_cons (pv 4) pa_nil)) pk_nil))))))), ?_⟩
  refine body3 h (fun ps μ Ψ Ξ hw hl => ?_)
  obtain ⟨b, w, B, W, rfl, rfl, S, gl, m9, gd, q⟩ := hw
  have sz : sizeLine = 16777216 := by decide
  refine ⟨w, _, [(b, .pk (bkI B))], Ent.perm (.swap _ _ _), ?_⟩
  rintro m ⟨k, ex⟩
  refine ⟨_, Ent.trans (Ent.app (Ent.ofExp ex) (.refl _)) (Ent.perm List.perm_append_comm), ?_⟩
  have el := S.ok.el
  have ekW : kks W.L = B.ns.map .inr := by rw [S.ks]; exact S.ok.tx
  have nd : (kks W.L).Nodup := by rw [S.ks]; exact S.ok.nd
  have nl : B.ns.length = B.es.length := by unfold Bk.ns; rw [List.length_map, kks_len]
  refine ⟨WKs, W.ds k, .inr "known", .adr k, .hung 1 rfl, rfl, rfl, kks W.L, kds W.L, B.ns, .hung 2 rfl, ekW, by rw [kks_len, S.ln]; omega, fun ys pm up => ?_⟩
  have yl : ys.length = B.es.length := by rw [pm.length_eq, nl]
  refine ⟨⟨_, _, .pk, rfl, rfl⟩, ⟨rfl, rfl, rfl⟩, [_], _, .refl _, b, B, rfl, rfl, fun zs pm2 up2 => ?_⟩
  obtain rfl : ys = zs := (sortedS_eq (pm2.trans pm.symm) up2 up).symm
  refine ⟨⟨_, .pk⟩, [_], _, .refl _, b, B, rfl, rfl, (B.es.length : Nat), rfl, by omega, by omega, ?_⟩
  have nys : ∀ s ∈ ys, ∃ l, s = nm l ∧ Gd l := fun s hs => by
    have h := pm.mem_iff.mp hs
    unfold Bk.ns kks at h
    rw [List.map_map] at h
    obtain ⟨x, hx, e⟩ := List.mem_map.mp h
    obtain ⟨l, e2, g⟩ := gd x hx
    refine ⟨l, ?_, g⟩
    rw [← e]
    show keyS x.2.1 = _
    rw [e2]
    rfl
  have n1 : Nice 1 10000 (.lst (ys.map .str)) := by
    refine (nice_lst (n := 0) (b := 4) fun d hd => ?_).mono (Nat.le_refl _) (by rw [List.length_map]; omega)
    obtain ⟨s, hs, rfl⟩ := List.mem_map.mp hd
    obtain ⟨l, rfl, g⟩ := nys s hs
    exact nice_nm g
  have n2 : Nice 1 10000 (.int (ys.map Dt.str).length) := (nice_small (by omega) (by rw [List.length_map]; omega)).mono (by decide) (by decide)
  have e0 : (Dt.int (B.es.length : Nat)) = .int (ys.map Dt.str).length := congrArg Dt.int (by rw [List.length_map, yl])
  refine ⟨by show 2 ≤ sizeLine; decide, by show 2 ≤ sizeLine; decide, ?_⟩
  rw [e0]
  refine ⟨fun j ρ μ => ∃ (D : List Dt) (s3 s4 : Sl), D.length ≤ 2 + 3 * j ∧ (∀ d ∈ D, Nice 1 10000 d) ∧ (s3 = .hot D ∨ s3 = .dat (.lst D)) ∧ (s4 = .hot D ∨ s4 = .dat (.lst D)) ∧ ρ = [.dat (.adr b), .dat (.adr w), .dat (.lst (ys.map .str)), s3, s4, .un, .un] ∧ μ = (b, .pk (bkI B)) :: (w, .fl (.dic WKs (W.ds k))) :: (k, .fl (.dic (kks W.L) (kds W.L))) :: kps owI W.L, To3.of ⟨_, _, _, ?_, ?_, .inr rfl, .inr rfl, rfl, rfl⟩ (by get_elem_tactic_trivial), ?_, ?_⟩
  · show 2 ≤ 2 + 3 * 0
    omega
  · intro d hd
    rcases List.mem_cons.mp hd with rfl | hd
    · exact n1
    · rw [List.mem_singleton.mp hd]
      exact n2
  · rintro j ρ μ d hd ⟨D, s3, s4, dl, dn, h3, h4, rfl, rfl⟩
    rw [List.getElem?_map] at hd
    obtain ⟨s, hs, rfl⟩ := Option.map_eq_some_iff.mp hd
    have hjl := (List.getElem?_eq_some_iff.mp hs).1
    have hsn : s ∈ B.ns := pm.mem_iff.mp (List.mem_of_getElem? hs)
    have hk : Sum.inr s ∈ kks B.es := by rw [S.ok.tx]; exact List.mem_map.mpr ⟨s, hsn, rfl⟩
    obtain ⟨i, x, E, hi⟩ := kget hk
    obtain ⟨o, hw⟩ := S.at hi
    have hE := List.mem_of_getElem? hi
    obtain ⟨g1, g2⟩ := S.gd _ hE
    have g1 : E.gd = .non := g1
    have g2 : E.ws = [] := g2
    have upE : (E.ts.map (·.1)).Pairwise (· < ·) := S.ok.up _ hE
    have tlE : (E.ts.length : Int) ≤ B.gv := S.ok.tl _ hE
    have na : Nice 1 10000 (.lst ((askedT B.now B.life E.ts).map .int)) := by
      have la : (askedT B.now B.life E.ts).length ≤ 1000 := by
        unfold askedT
        rw [List.length_map]
        exact Nat.le_trans (List.length_filter_le ..) (by omega)
      refine (nice_lst (n := 0) (b := 0) fun d hd => ?_).mono (Nat.le_refl _) (by rw [List.length_map]; omega)
      obtain ⟨v, hv, rfl⟩ := List.mem_map.mp hd
      unfold askedT at hv
      obtain ⟨t, ht, rfl⟩ := List.mem_map.mp hv
      have ht := (List.mem_filter.mp ht).1
      have a1 := S.ok.hi _ hE t ht
      have a2 := S.ok.lo _ hE t ht
      exact nice_small (by omega) (by omega)
    refine ⟨o, owI E.ts, (b, .pk (bkI B)) :: (w, .fl (.dic WKs (W.ds k))) :: (k, .fl (.dic (kks W.L) (kds W.L))) :: kps owI (W.L.eraseIdx i), Ent.trans (Ent.app (μ1 := [_, _, _]) (.refl _) (kps_at hw)) (Ent.pick (is := [3]) rfl : Ent _ ([_] ++ _)), ?_⟩
    rintro m0 ⟨a, rfl⟩
    refine ⟨WKs, W.ds k, .inr "known", .adr k, .hung 3 rfl, rfl, rfl, kks W.L, kds W.L, .inr s, .adr o, .hung 4 rfl, rfl, getK_at nd hw, ?_⟩
    have nD : ∀ d ∈ D ++ [.lst ((askedT B.now B.life E.ts).map .int), .non, .lst []], Nice 1 10000 d := fun d hd => by
      rcases List.mem_append.mp hd with z | z
      · exact dn d z
      · simp only [List.mem_cons, List.mem_nil_iff, or_false] at z
        rcases z with rfl | rfl | rfl
        · exact na
        · exact nice_non.mono (by decide) (by decide)
        · exact (nice_lst (n := 0) (b := 0) (ds := []) fun d hd => nomatch hd).mono (by decide) (by decide)
    have back := kps_back (I := owI) (x := (o, Sum.inr s, E.ts)) (List.getElem?_eq_some_iff.mp hw).1
    rw [kset_same hw] at back
    rcases h3 with rfl | rfl <;> rcases h4 with rfl | rfl
    all_goals
      refine ⟨⟨_, _, HdAt.cons (HdAt.cons .pk), rfl, rfl⟩, ⟨rfl, rfl, rfl⟩, [_], _, Ent.pick (is := [2]) rfl, b, B, s, rfl, rfl, by omega, .inl ⟨i, x, E, hi, ?_⟩⟩
      refine ⟨⟨_, _, .pk, rfl, rfl⟩, ⟨rfl, rfl, rfl⟩, [_], _, .refl _, b, B, s, rfl, rfl, .inl ⟨i, x, E, hi, .inl ⟨g1, ?_⟩⟩⟩
      refine ⟨⟨_, _, .pk, rfl, rfl⟩, ⟨rfl, rfl, rfl⟩, [_], _, .refl _, b, B, s, rfl, rfl, .inl ⟨i, x, E, hi, ?_⟩⟩
      rw [g2]
      refine ⟨by show 3 ≤ sizeLine; decide, by show D.length + 3 ≤ sizeLine; omega, ?_⟩
      refine ⟨⟨rfl, rfl, rfl⟩, [_, _, _, _], _, Ent.pick (is := [1, 1, 1, 1]) rfl, w, k, o, a, W, s, i, E.ts, rfl, rfl, nd, hw, upE, by omega, ?_⟩
      refine ⟨OWK, ods a, .inr "last", .non, .hung 0 rfl, rfl, rfl, OWK, ods a, .inr "history", .lst [], .hung 0 rfl, rfl, rfl, ?_⟩
      refine ⟨by show 3 ≤ sizeLine; decide, by show D.length + 3 ≤ sizeLine; omega, ?_⟩
      refine To3.by_ (Ent.trans (Ent.app (μ1 := owμ E.ts o a) ow_close (.refl _)) (Ent.trans (Ent.pick (is := [3, 1, 1]) rfl) (Ent.app (μ1 := [_, _, _]) (.refl _) back))) ⟨D ++ [.lst ((askedT B.now B.life E.ts).map .int), .non, .lst []], _, _, ?_, nD, .inl rfl, .inl ?_, rfl, rfl⟩ (by get_elem_tactic_trivial)
      · rw [List.length_append]
        show D.length + 3 ≤ 2 + 3 * (j + 1)
        omega
      · show Sl.hot (D ++ [.lst ((askedT W.tk W.life E.ts).map .int), .non, .lst []]) = _
        rw [S.now, S.life]
  · rintro ρ μ ⟨D, s3, s4, dl, dn, h3, h4, rfl, rfl⟩
    rw [List.length_map] at dl
    obtain ⟨pu, dp, wd⟩ := (nice_lst dn).same (k := 6) (by decide) (by
      have : D.length ≤ 29 := by omega
      exact Nat.le_trans (Nat.mul_le_mul_right _ this) (by decide))
    rcases h3 with rfl | rfl <;> rcases h4 with rfl | rfl
    all_goals
      exact ⟨⟨rfl, rfl, rfl⟩, [], _, .refl _, _, _, rfl, rfl, pu, dp, wd, _, Ent.app (μ1 := [_]) (.refl _) (wo_close (W := W) (w := w) (k := k)), q⟩

end
section
variable {P : Program} {w : World} {K : PySem.W.Frag} {mg : Str → Option Value} {base : Heap}
local macro_rules | `(tactic| get_elem_tactic_trivial) => `(tactic| (repeat first | exact Wk.nil | exact Wk'.nil | refine Wk.same ?_ | refine Wk'.same ?_ | refine Wk.un (fun _ z => nomatch z) ?_ | refine Wk'.un ?_))
/-! what is refused -/
def E60 : En := ⟨7, none, 7919, [], [], 4, 2, [], .non, []⟩
def wRef60 : W3F := fun ps μ Ψ _ => ∃ (b : Addr) (B : Bk) (s : Str) (h : Int), ps = [.dat (.adr b), .dat (.int h), .dat (.str s), .dat (.int 7)] ∧ μ = [(b, .pk (bkI B))] ∧ B.gv < 1000 ∧
  ((h = 0 ∧ (Sum.inr s : Key) ∈ kks B.es ∧ Ψ (.dat (.tup [.str "known", .str s])) ps μ) ∨ (h = 0 ∧ (Sum.inr s : Key) ∉ kks B.es ∧ B.most ≤ B.es.length ∧ Ψ (.dat (.tup [.str "many", .int B.most])) ps μ) ∨
   (h = 0 ∧ (Sum.inr s : Key) ∉ kks B.es ∧ B.es.length < B.most ∧ ∀ x, Ψ (.dat (.tup [.str "done", .non])) ps [(b, .pk (bkI (B.add x (.inr s) E60)))]) ∨
   (1 ≤ h ∧ h ≤ 6 ∧ (Sum.inr s : Key) ∉ kks B.es ∧ Ψ (.dat (.tup [.str "unknown", .str s])) ps μ))
theorem Tx.kbBookDrop_2 {K : PySem.W.Frag} {mg : Str → Option Value} (T : Tx K mg) : ∃ g : List Value → List Value → List Value, KBn K T.fdBookDrop ["self", "name"] 2 [] g (gB [0, 1] []) := kbAllN T.FBookDrop 2 [] [0, 1] fun kV doc pm an cdv ct us ws h1 h2 => match us, ws, h1, h2 with
  | [u0, u1], [], _, _ => rfl
theorem Tx.kbBookKnow_3 {K : PySem.W.Frag} {mg : Str → Option Value} (T : Tx K mg) : ∃ g : List Value → List Value → List Value, KBn K T.fdBookKnow ["self", "name", "key", "mixing", "policy", "plan", "many", "fixed"] 3 [] g (gB [0, 1, 2, 3, 4, 5, 6, 7] [.non, .ref (kda K ("Book", some "know") "policy"), .ref (kda K ("Book", some "know") "plan"), .int 4, .int 2]) := kbKw T.FBookKnow 3 [] [0, 1, 2, 3, 4, 5, 6, 7] [("mixing", .non), ("policy", .ref (kda K ("Book", some "know") "policy")), ("plan", .ref (kda K ("Book", some "know") "plan")), ("many", .int 4), ("fixed", .int 2)] (by simp) (by simp) fun D doc pm an cdv ct us mv ws h1 h2 h3 => match us, mv, ws, h1, h2, h3 with
  | [u0, u1, u2], [m0, m1, m2, m3, m4], [], _, _, _ => ⟨_, _, _, _, _, _, rfl, rfl, ⟨_, _, _, _, _, _, rfl, rfl, ⟨_, _, _, _, _, _, rfl, rfl, ⟨_, _, _, _, _, _, rfl, rfl, ⟨_, _, _, _, _, _, rfl, rfl, rfl⟩⟩⟩⟩⟩
theorem Tx.kbBookPut_2_plan_policy {K : PySem.W.Frag} {mg : Str → Option Value} (T : Tx K mg) : ∃ g : List Value → List Value → List Value, KBn K T.fdBookPut ["self", "name", "policy", "plan"] 2 ["plan", "policy"] g (gB [0, 1, 3, 2] []) := kbKw T.FBookPut 2 ["plan", "policy"] [0, 1, 3, 2] [] (by simp) (by simp) fun D doc pm an cdv ct us mv ws h1 h2 h3 => match us, mv, ws, h1, h2, h3 with
  | [u0, u1], [], [w0, w1], _, _, _ => rfl
theorem Tx.kbBookPut_2_policy {K : PySem.W.Frag} {mg : Str → Option Value} (T : Tx K mg) : ∃ g : List Value → List Value → List Value, KBn K T.fdBookPut ["self", "name", "policy", "plan"] 2 ["policy"] g (gB [0, 1, 2, 3] [.non]) := kbKw T.FBookPut 2 ["policy"] [0, 1, 2, 3] [("plan", .non)] (by simp) (by simp) fun D doc pm an cdv ct us mv ws h1 h2 h3 => match us, mv, ws, h1, h2, h3 with
  | [u0, u1], [m0], [w0], _, _, _ => ⟨_, _, _, _, _, _, rfl, rfl, rfl⟩
theorem okLRefused (T : Tx K mg) : FnOk P w K mg base CX0 8 (He.ga K "_law_refused") T.fdLRefused ["_law_book", "_law_which", "_law_name", "_law_key"] (sp3 K 4 wRef60) := by
  have B := T.B
  have GBookKnow : FnOk P w K mg base (L2.CX P w) 6 (He.ma K (He.ga K "Book") "know") T.fdBookKnow ["self", "name", "key", "mixing", "policy", "plan", "many", "fixed"] (sp3 K 8 wBkKnow) := FnOk.nl (okBookKnow T)
  have GBookDrop : FnOk P w K mg base (L2.CX P w) 4 (He.ma K (He.ga K "Book") "drop") T.fdBookDrop ["self", "name"] (sp3 K 2 wBkDrop) := FnOk.nl (okBookDrop T)
  have bBookDrop := T.bBookDrop
  have GBookPut : FnOk P w K mg base (L2.CX P w) 4 (He.ma K (He.ga K "Book") "put") T.fdBookPut ["self", "name", "policy", "plan"] (sp3 K 4 wBkPut) := FnOk.nl (okBookPut T)
  have GBookAsk : FnOk P w K mg base (L2.CX P w) 4 (He.ma K (He.ga K "Book") "ask") T.fdBookAsk ["self", "name"] (sp3 K 2 wBkAsk) := FnOk.nl (okBookAsk T)
  have bBookAsk := T.bBookAsk
  have GBookAsked : FnOk P w K mg base (L2.CX P w) 4 (He.ma K (He.ga K "Book") "asked") T.fdBookAsked ["self", "name"] (sp3 K 2 wBkAsked) := FnOk.nl (okBookAsked T)
  have bBookAsked := T.bBookAsked
  have GBookLast : FnOk P w K mg base (L2.CX P w) 4 (He.ma K (He.ga K "Book") "last") T.fdBookLast ["self", "name"] (sp3 K 2 wBkLast) := FnOk.nl (okBookLast T)
  have bBookLast := T.bBookLast
  have GBookHistory : FnOk P w K mg base (L2.CX P w) 4 (He.ma K (He.ga K "Book") "history") T.fdBookHistory ["self", "name"] (sp3 K 2 wBkHist) := FnOk.nl (okBookHistory T)
  have bBookHistory := T.bBookHistory
  haveI : Dw K [V.non, V.ref (kda K ("Book", some "know") "policy"), V.ref (kda K ("Book", some "know") "plan"), V.int 4, V.int 2] [Dt.non, .tup [], .tup [], .int 4, .int 2] := ⟨fun C => .cons .non (.cons (dw_tup T.tdBookKnow_policy C) (.cons (dw_tup T.tdBookKnow_plan C) (.cons (.int 4) (.cons (.int 2) .nil))))⟩
  obtain ⟨_, kbBookAsk_2⟩ := T.kbBookAsk_2
  obtain ⟨_, kbBookAsked_2⟩ := T.kbBookAsked_2
  obtain ⟨_, kbBookDrop_2⟩ := T.kbBookDrop_2
  obtain ⟨_, kbBookHistory_2⟩ := T.kbBookHistory_2
  obtain ⟨_, kbBookKnow_3⟩ := T.kbBookKnow_3
  obtain ⟨_, kbBookLast_2⟩ := T.kbBookLast_2
  obtain ⟨_, kbBookPut_2_plan_policy⟩ := T.kbBookPut_2_plan_policy
  obtain ⟨_, kbBookPut_2_policy⟩ := T.kbBookPut_2_policy
  refine T.FLRefused.ok scLRefused (fun vs H Q E h => h.1) (fun cdv A outer s H vs Q E hr h => ?_)
  refine ⟨_, PSs.nox (pss_cons (ps_set (i := 4) scLRefused.nd rfl (.inl rfl) pe_non)
        (pss_cons (show PS _ _ (tTry K _ 5 _ _ (fun _ _ _ _ => False)) from ps_try_keep (i := 5) (Wo := fun _ _ _ _ => False) rfl rfl rfl scLRefused.nd rfl rfl ⟨rfl, by decide, Or.inl T.gStartError⟩ takes0
        (fun W pn xe tk po => (pss_one (ps_if (pt_cmpR (opEqA (K := K) rfl hr.units) (pv 1) pe_int (nomark _)) (pss_one (ps_expr (asPE (tMeth3 _ _ 2 0 _ _ _ _ _ _) (pe_meth3 (ks := []) (pv 0) T.clBook T.mBookKnow GBookKnow (hr.mono (by decide)) kbBookKnow_3 (fun σ => passAt tk σ) (pa_cons (pv 2) (pa_cons (pv 3) pa_nil)) pk_nil)))) (pss_one (ps_if (pt_cmpR (opEqA (K := K) rfl hr.units) (pv 1) pe_int (nomark _)) (pss_one (ps_expr (asPE (tMeth3 _ _ 1 0 _ _ _ _ _ _) (pe_meth3 (ks := []) (pv 0) T.clBook T.mBookDrop GBookDrop (hr.mono (by decide)) kbBookDrop_2 (fun σ => passAt tk σ) (pa_cons (pv 2) pa_nil) pk_nil)))) (pss_one (ps_if (pt_cmpR (opEqA (K := K) rfl hr.units) (pv 1) pe_int (nomark _)) (pss_one (ps_if (pt_cmpR (show OpR _ _ rLtA from opLtA) (pv 2) pe_str (nomark _)) (pss_one (ps_expr (asPE (tMeth3 _ _ 1 1 _ _ _ _ _ _) (pe_meth3 (ks := ["policy"]) (pv 0) T.clBook T.mBookPut GBookPut (hr.mono (by decide)) kbBookPut_2_policy (fun σ => passAt tk σ) (pa_cons (pv 2) pa_nil) (pk_cons (pe_lst pa_nil) pk_nil))))) (pss_one (ps_expr (asPE (tMeth3 _ _ 1 2 _ _ _ _ _ _) (pe_meth3 (ks := ["plan", "policy"]) (pv 0) T.clBook T.mBookPut GBookPut (hr.mono (by decide)) kbBookPut_2_plan_policy (fun σ => passAt tk σ) (pa_cons (pv 2) pa_nil) (pk_cons (pe_lst pa_nil) (pk_cons (pe_lst pa_nil) pk_nil)))))))) (pss_one (ps_if (pt_cmpR (opEqA (K := K) rfl hr.units) (pv 1) pe_int (nomark _)) (pss_one (ps_expr (asPE (tMeth3 _ _ 1 0 _ _ _ _ _ _) (pe_meth3 (ks := []) (pv 0) T.clBook T.mBookAsk GBookAsk (hr.mono (by decide)) kbBookAsk_2 (fun σ => passAt tk σ) (pa_cons (pv 2) pa_nil) pk_nil)))) (pss_one (ps_if (pt_cmpR (opEqA (K := K) rfl hr.units) (pv 1) pe_int (nomark _)) (pss_one (ps_expr (asPE (tMeth3 _ _ 1 0 _ _ _ _ _ _) (pe_meth3 (ks := []) (pv 0) T.clBook T.mBookAsked GBookAsked (hr.mono (by decide)) kbBookAsked_2 (fun σ => passAt tk σ) (pa_cons (pv 2) pa_nil) pk_nil)))) (pss_one (ps_if (pt_cmpR (opEqA (K := K) rfl hr.units) (pv 1) pe_int (nomark _)) (pss_one (ps_expr (asPE (tMeth3 _ _ 1 0 _ _ _ _ _ _) (pe_meth3 (ks := []) (pv 0) T.clBook T.mBookLast GBookLast (hr.mono (by decide)) kbBookLast_2 (fun σ => passAt tk σ) (pa_cons (pv 2) pa_nil) pk_nil)))) (pss_one (ps_expr (asPE (tMeth3 _ _ 1 0 _ _ _ _ _ _) (pe_meth3 (ks := []) (pv 0) T.clBook T.mBookHistory GBookHistory (hr.mono (by decide)) kbBookHistory_2 (fun σ => passAt tk σ) (pa_cons (pv 2) pa_nil) pk_nil)))))))))))))))))
        (fun a oe cls d pn hz hf => (pss_one (ps_set (i := 4) scLRefused.nd rfl (.inl rfl) (pv 5)))))
        (pss_cons (ps_if (pt_cmpR (show OpR _ _ rIsNone from op_isN) (pv 4) pe_non (nomark _)) (pss_one (ps_ret (pe_tup (pa_cons pe_str (pa_cons pe_non pa_nil))))) pss_nil)
        (pss_cons (ps_set (i := 6) scLRefused.nd rfl (.inl rfl) (pe_lst (pa_cons (pe_callB (show CallR _ _ (rIsC K) from call_isC) (by rfl) B.b_isinstance boot_isinstance (pa_cons (pv 4) (pa_cons (pe_glob (v := .ref (He.ga K "Known")) (by rfl) T.gKnown rfl) pa_nil))) (pa_cons (pe_callB (show CallR _ _ (rIsC K) from call_isC) (by rfl) B.b_isinstance boot_isinstance (pa_cons (pv 4) (pa_cons (pe_glob (v := .ref (He.ga K "TooMany")) (by rfl) T.gTooMany rfl) pa_nil))) (pa_cons (pe_callB (show CallR _ _ (rIsC K) from call_isC) (by rfl) B.b_isinstance boot_isinstance (pa_cons (pv 4) (pa_cons (pe_glob (v := .ref (He.ga K "Unknown")) (by rfl) T.gUnknown rfl) pa_nil))) pa_nil)))))
        (pss_cons (ps_set (i := 7) scLRefused.nd rfl (.inl rfl) (pe_lst (pa_cons pe_str (pa_cons pe_str (pa_cons pe_str pa_nil)))))
        (pss_one (ps_ret (pe_ifExp (pt_cmpR (opEqA (K := K) rfl hr.units) (show PE _ _ (tBM K "list" (rCntB K) _ _) from (pe_bm PySem.F.plainAttrs_list PySem.F.slot_list_count PySem.F.type_list_count mt_countB (pv 6) (pa_cons pe_bl pa_nil))) pe_int (nomark _)) (pe_tup (pa_cons (pe_ix (show IxR _ (rIx K) from ix_seq) (pv 7) (show PE _ _ (tBM K "list" (rIndex K) _ _) from (pe_bm PySem.F.plainAttrs_list PySem.F.slot_list_index PySem.F.type_list_index mt_index (pv 6) (pa_cons pe_bl pa_nil))) (fun _ _ => rfl)) (pa_cons (show PE _ _ (tWhatC K _) from pe_whatC (pv 4)) pa_nil))) (pe_tup (pa_cons pe_str (pa_cons pe_non pa_nil))))))))))), ?_⟩
  refine body3 h (fun ps μ Ψ Ξ hw hl => ?_)
  obtain ⟨b, B, s, h, rfl, rfl, gl, q⟩ := hw
  have h1 : ("Known" : Str) ∈ ERRS := by decide +kernel
  have h2 : ("TooMany" : Str) ∈ ERRS := by decide +kernel
  have h3 : ("Unknown" : Str) ∈ ERRS := by decide +kernel
  have k11 : IsEv K "Known" (.ref (He.ga K "Known")) true := evOne T h1 h1 (by decide +kernel)
  have k12 : IsEv K "Known" (.ref (He.ga K "TooMany")) false := evOne T h1 h2 (by decide +kernel)
  have k13 : IsEv K "Known" (.ref (He.ga K "Unknown")) false := evOne T h1 h3 (by decide +kernel)
  have k21 : IsEv K "TooMany" (.ref (He.ga K "Known")) false := evOne T h2 h1 (by decide +kernel)
  have k22 : IsEv K "TooMany" (.ref (He.ga K "TooMany")) true := evOne T h2 h2 (by decide +kernel)
  have k23 : IsEv K "TooMany" (.ref (He.ga K "Unknown")) false := evOne T h2 h3 (by decide +kernel)
  have k31 : IsEv K "Unknown" (.ref (He.ga K "Known")) false := evOne T h3 h1 (by decide +kernel)
  have k32 : IsEv K "Unknown" (.ref (He.ga K "TooMany")) false := evOne T h3 h2 (by decide +kernel)
  have k33 : IsEv K "Unknown" (.ref (He.ga K "Unknown")) true := evOne T h3 h3 (by decide +kernel)
  have s3 : 3 ≤ sizeLine := by decide
  have s2 : 2 ≤ sizeLine := by decide
  rcases q with ⟨rfl, hk, q⟩ | ⟨rfl, hk, hl, q⟩ | ⟨rfl, hk, hl, q⟩ | ⟨l1, l6, hk, q⟩
  · refine ⟨⟨_, _, .pk, rfl, rfl⟩, ⟨rfl, rfl, rfl⟩, [_], [], .refl _, b, B, s, E60, .non, .tup [], .tup [], rfl, rfl, .inl ⟨rfl, rfl, rfl⟩, .inl rfl, .inl rfl, rfl, rfl, rfl, .inl ⟨hk, ?_⟩⟩
    refine ⟨exRoot T h1, ⟨by decide, by show 5 < 8; decide⟩, ?_⟩
    exact ⟨rfl, true, k11, false, k12, false, k13, s3, s3, [true, false, false], rfl, true, rfl, [true, false, false], rfl, true, 0, rfl, rfl, (fun m hm => absurd hm (Nat.not_lt_zero _)), .str "known", rfl, evW T h1, s2, _, .refl _, q⟩
  · refine ⟨⟨_, _, .pk, rfl, rfl⟩, ⟨rfl, rfl, rfl⟩, [_], [], .refl _, b, B, s, E60, .non, .tup [], .tup [], rfl, rfl, .inl ⟨rfl, rfl, rfl⟩, .inl rfl, .inl rfl, rfl, rfl, rfl, .inr (.inl ⟨hk, hl, ?_⟩)⟩
    refine ⟨exRoot T h2, ⟨by decide, by show 5 < 8; decide⟩, ?_⟩
    exact ⟨rfl, false, k21, true, k22, false, k23, s3, s3, [false, true, false], rfl, true, rfl, [false, true, false], rfl, true, 1, rfl, rfl, (fun m hm => by obtain rfl : m = 0 := by omega
                                                                                                                                                               decide), .str "many", rfl, evW T h2, s2, _, .refl _, q⟩
  · refine ⟨⟨_, _, .pk, rfl, rfl⟩, ⟨rfl, rfl, rfl⟩, [_], [], .refl _, b, B, s, E60, .non, .tup [], .tup [], rfl, rfl, .inl ⟨rfl, rfl, rfl⟩, .inl rfl, .inl rfl, rfl, rfl, rfl, .inr (.inr ⟨hk, hl, fun x => ?_⟩)⟩
    exact ⟨rfl, s2, _, .refl _, q x⟩
  · have tl : ∀ m : Nat, m < 2 → [false, false, true][m]? ≠ some true := fun m hm => by
      have hm : m = 0 ∨ m = 1 := by omega
      rcases hm with rfl | rfl <;> decide
    obtain ⟨k, rfl⟩ : ∃ k : Nat, h = (k : Int) := ⟨h.toNat, by omega⟩
    have hk6 : k = 1 ∨ k = 2 ∨ k = 3 ∨ k = 4 ∨ k = 5 ∨ k = 6 := by omega
    have ex := exRoot T h3
    rcases hk6 with rfl | rfl | rfl | rfl | rfl | rfl
    · refine ⟨⟨_, _, .pk, rfl, rfl⟩, ⟨rfl, rfl, rfl⟩, [_], [], .refl _, b, B, s, rfl, rfl, .inr ⟨hk, ?_⟩⟩
      exact ⟨ex, ⟨by decide, by show 5 < 8; decide⟩, rfl, false, k31, false, k32, true, k33, s3, s3, [false, false, true], rfl, true, rfl, [false, false, true], rfl, true, 2, rfl, rfl, tl, .str "unknown", rfl, evW T h3, s2, _, .refl _, q⟩
    · have s0 : 0 ≤ sizeLine := by decide
      refine ite2 (fun _ => ?_) (fun _ => ?_)
      · refine ⟨⟨_, _, .pk, rfl, rfl⟩, s0, ⟨rfl, rfl, rfl⟩, [_], [], .refl _, b, B, s, .lst [], .non, some [], none, rfl, rfl, .inr ⟨[], rfl, .inl rfl⟩, .inl ⟨rfl, rfl⟩, .inr ⟨hk, ?_⟩⟩
        exact ⟨ex, ⟨by decide, by show 5 < 8; decide⟩, rfl, false, k31, false, k32, true, k33, s3, s3, [false, false, true], rfl, true, rfl, [false, false, true], rfl, true, 2, rfl, rfl, tl, .str "unknown", rfl, evW T h3, s2, _, .refl _, q⟩
      · refine ⟨⟨_, _, .pk, rfl, rfl⟩, s0, s0, ⟨rfl, rfl, rfl⟩, [_], [], .refl _, b, B, s, .lst [], .lst [], some [], some [], rfl, rfl, .inr ⟨[], rfl, .inl rfl⟩, .inr ⟨[], rfl, .inl rfl⟩, .inr ⟨hk, ?_⟩⟩
        exact ⟨ex, ⟨by decide, by show 5 < 8; decide⟩, rfl, false, k31, false, k32, true, k33, s3, s3, [false, false, true], rfl, true, rfl, [false, false, true], rfl, true, 2, rfl, rfl, tl, .str "unknown", rfl, evW T h3, s2, _, .refl _, q⟩
    · refine ⟨⟨_, _, .pk, rfl, rfl⟩, ⟨rfl, rfl, rfl⟩, [_], [], .refl _, b, B, s, rfl, rfl, by omega, .inr ⟨hk, ?_⟩⟩
      exact ⟨ex, ⟨by decide, by show 5 < 8; decide⟩, rfl, false, k31, false, k32, true, k33, s3, s3, [false, false, true], rfl, true, rfl, [false, false, true], rfl, true, 2, rfl, rfl, tl, .str "unknown", rfl, evW T h3, s2, _, .refl _, q⟩
    · refine ⟨⟨_, _, .pk, rfl, rfl⟩, ⟨rfl, rfl, rfl⟩, [_], [], .refl _, b, B, s, rfl, rfl, by omega, .inr ⟨hk, ?_⟩⟩
      exact ⟨ex, ⟨by decide, by show 5 < 8; decide⟩, rfl, false, k31, false, k32, true, k33, s3, s3, [false, false, true], rfl, true, rfl, [false, false, true], rfl, true, 2, rfl, rfl, tl, .str "unknown", rfl, evW T h3, s2, _, .refl _, q⟩
    · refine ⟨⟨_, _, .pk, rfl, rfl⟩, ⟨rfl, rfl, rfl⟩, [_], [], .refl _, b, B, s, rfl, rfl, .inr ⟨hk, ?_⟩⟩
      exact ⟨ex, ⟨by decide, by show 5 < 8; decide⟩, rfl, false, k31, false, k32, true, k33, s3, s3, [false, false, true], rfl, true, rfl, [false, false, true], rfl, true, 2, rfl, rfl, tl, .str "unknown", rfl, evW T h3, s2, _, .refl _, q⟩
    · refine ⟨⟨_, _, .pk, rfl, rfl⟩, ⟨rfl, rfl, rfl⟩, [_], [], .refl _, b, B, s, rfl, rfl, .inr ⟨hk, ?_⟩⟩
      exact ⟨ex, ⟨by decide, by show 5 < 8; decide⟩, rfl, false, k31, false, k32, true, k33, s3, s3, [false, false, true], rfl, true, rfl, [false, false, true], rfl, true, 2, rfl, rfl, tl, .str "unknown", rfl, evW T h3, s2, _, .refl _, q⟩

end
section
variable {P : Program} {w : World} {K : PySem.W.Frag} {mg : Str → Option Value} {base : Heap}
local macro_rules | `(tactic| get_elem_tactic_trivial) => `(tactic| (repeat first | exact Wk.nil | exact Wk'.nil | refine Wk.same ?_ | refine Wk'.same ?_ | refine Wk.un (fun _ z => nomatch z) ?_ | refine Wk'.un ?_))
/-! a new drawer given at once, at level 3 -/
def bx3 (ρ1 : List Sl) (Ψ : Ro → List Sl → My → Prop) (r : Ro) (ρ' : List Sl) (μ' : My) : Prop := (∃ n, ρ' = (ρ1 ++ [Sl.box 0]).set ρ1.length (.box n)) ∧ Ψ r ρ1 μ'
def bxX3 (ρ1 : List Sl) (Ξ : XE3) (c : Str) (d : Dt) (ρ' : List Sl) (μ' : My) : Prop := (∃ n, ρ' = (ρ1 ++ [Sl.box 0]).set ρ1.length (.box n)) ∧ Ξ c d ρ1 μ'
def wCallBox3 (wf : W3F) (wa : WA) : WE3 := fun ρ μ Ψ Ξ => wa ρ fun as ρ1 => match as with
  | [.d (.scr _), .d (.int k)] => (0 ≤ k ∧ k ≤ 1000) ∧ ∃ ν νr, Ent μ (ν ++ νr) ∧ wf [.box 0] ν (two3 ρ1.length (ρ1 ++ [Sl.box 0]) νr (bx3 ρ1 Ψ)) (twoX3 ρ1.length (ρ1 ++ [Sl.box 0]) νr (bxX3 ρ1 Ξ))
  | _ => False
theorem Sep3.cutEnd {B : Bs} {C H C0 H0 : Hp} {σ : L2.St} {ρ : List Sl} {x : Option V} {s : Sl} {μ : My} (S : Sep3 K B C H (σ ++ [x]) (ρ ++ [s]) μ) (S0 : Sep K B C0 H0 σ ρ) : Sep3 K B C H σ ρ μ := by
  obtain ⟨m, e, U, M, S⟩ := S
  have S0' : ∀ i a, (B.hang U).bx = some (i, a) → σ[i]? = some (some (V.ref a)) ∧ ∃ n, ρ[i]? = some (.box n) := S0.par
  refine ⟨m, e, U, M, ?_⟩
  have hl := S0.len
  have up : ∀ {i : Nat} {t : Sl}, ρ[i]? = some t → (ρ ++ [s])[i]? = some t ∧ (σ ++ [x])[i]? = σ[i]? := fun {i t} h => by
    have li : i < ρ.length := (List.getElem?_eq_some_iff.mp h).1
    exact ⟨by rw [List.getElem?_append_left li]; exact h, List.getElem?_append_left (by omega)⟩
  refine ⟨S.cold, hl, fun i t h => ?_, fun i j a t u n h1 h2 m1 m2 e1 e2 => ?_, S.grow, S.new, S.dom, S.keep, fun i a ds h e => ?_, fun i a n h e => ?_, fun i a h => S0' i a h, S.pz⟩
  · have z := S.sl i t (up h).1
    rw [(up h).2] at z
    exact z
  · exact S.ne i j a t u n (up h1).1 (up h2).1 m1 m2 (by rw [(up h1).2]; exact e1) (by rw [(up h2).2]; exact e2)
  · exact S.loc i a ds (up h).1 (by rw [(up h).2]; exact e)
  · exact S.lob i a n (up h).1 (by rw [(up h).2]; exact e)
instance (priority := 1200) e3_callBox {W : WX} {wf : W3F} {E2 : XK} {ta : TA} {wa : WA} [a : Sa K ta wa] : E3 K W (tCall3 1 0 (sp3 K 1 wf) (gB [0] []) (L2.WE W) (tCons (tCall (spLBox K) [] E2 ta) tNil) tNil) (wCallBox3 wf wa) where
  run B C H σ ρ μ Q Ψ Ξ S h k mx := by
    obtain ⟨B1, S1, back, _⟩ := S.lift
    refine a.run B1 C H σ ρ _ _ S1 h fun C1 H1 vs as ρ1 S2 s2 ok1 h1 => ?_
    split at h1
    · rename_i ns j
      obtain ⟨⟨k0, k1⟩, ν, νr, en, h1⟩ := h1
      match ok1 with
      | .cons (v := v1) r1 (.cons (v := v2) r2 .nil) =>
        cases r2
        cases r1 with
        | @scr b _ hs =>
          have ek : V.int j = V.int ((j.toNat : Nat) : Int) := by rw [Int.toNat_of_nonneg k0]
          refine ⟨b, ns, j.toNat, by rw [ek]; rfl, S2.cold.seq hs, by omega, fun p x y hp hx hy hy2 => ?_⟩
          have S3 := ((back S2).1).ent en
          have Sx : Sep3 K B C1 (upd H1 p (.lst [.int x, .int y, .int 0])) (σ ++ [some (.ref p)]) (ρ1 ++ [.box 0]) (ν ++ νr) := by
            obtain ⟨m, e, U, M, S4⟩ := S3
            exact ⟨m, e, U, M, S4.ext hp hx hy hy2⟩
          have q1 : (ρ1 ++ [Sl.box 0])[ρ1.length]? = some (.box 0) := by rw [List.getElem?_append_right (Nat.le_refl _), Nat.sub_self]; rfl
          have oi : (σ ++ [some (V.ref p)])[ρ1.length]? = some (some (.ref p)) := by rw [← S2.len, List.getElem?_append_right (Nat.le_refl _), Nat.sub_self]; rfl
          have cut : ∀ {C' G : Hp} {ρ' : List Sl} {μ' : My}, Sep3 K B C' G (σ ++ [some (V.ref p)]) ρ' μ' → (∃ n, ρ' = (ρ1 ++ [Sl.box 0]).set ρ1.length (.box n)) → Sep3 K B C' G σ ρ1 μ' := fun {C' G ρ' μ'} z ⟨n, e⟩ => by
            subst e
            rw [List.set_append_right _ _ (Nat.le_refl _), Nat.sub_self] at z
            exact Sep3.cutEnd (s := .box n) z S3.sep
          refine ⟨rfl, rfl, Sep3.handB (vs := []) (ds := []) Sx q1 oi .nil rfl h1 (fun C' G v r ρ' μ' ok s' z => ?_) fun C' G cls d2 c d ρ' μ' S' ex z => ?_⟩
          · obtain ⟨z1, z2⟩ := z
            refine k C' G v r ρ1 μ' ?_ (((back S2).2).trans s') z2
            cases r with
            | dat d => exact ⟨cut ok.1 z1, ok.2⟩
            | new ds =>
              obtain ⟨x, rfl, S4⟩ := ok
              exact ⟨x, rfl, cut S4 z1⟩
          · obtain ⟨z1, z2⟩ := z
            exact mx _ _ _ _ _ _ _ _ _ (cut S' z1) ex z2
    · exact h1.elim

end
section
variable {P : Program} {w : World} {K : PySem.W.Frag} {mg : Str → Option Value} {base : Heap}
local macro_rules | `(tactic| get_elem_tactic_trivial) => `(tactic| (repeat first | exact Wk.nil | exact Wk'.nil | refine Wk.same ?_ | refine Wk'.same ?_ | refine Wk.un (fun _ z => nomatch z) ?_ | refine Wk'.un ?_))
/-! a drawer written down and given at once, with two numbers -/
def wCallLit (u v : Int) (wf : W3F) : WE3 := fun ρ μ Ψ Ξ => ∃ ν νr, Ent μ (ν ++ νr) ∧ wf [.box 0, .dat (.int u), .dat (.int v)] ν (two3 ρ.length (ρ ++ [Sl.box 0]) νr (bx3 ρ Ψ)) (twoX3 ρ.length (ρ ++ [Sl.box 0]) νr (bxX3 ρ Ξ))
instance (priority := 1200) e3_callLit {W : WX} {u v : Int} {wf : W3F} : E3 K W (tCall3 3 0 (sp3 K 3 wf) (gB [0, 1, 2] []) (L2.WE W) (tCons (tLst (tCons (tC (.int 0)) (tCons (tC (.int 5)) (tCons (tC (.int 0)) tNil)))) (tCons (tC (.int u)) (tCons (tC (.int v)) tNil))) tNil) (wCallLit u v wf) where
  run B C H σ ρ μ Q Ψ Ξ S h k mx := by
    obtain ⟨ν, νr, en, h1⟩ := h
    refine ⟨by show 3 ≤ sizeLine; decide, fun p hp => ?_⟩
    have S3 := S.ent en
    have Sx : Sep3 K B C (upd H p (.lst [.int 0, .int 5, .int 0])) (σ ++ [some (.ref p)]) (ρ ++ [.box 0]) (ν ++ νr) := by
      obtain ⟨m, e, U, M, S4⟩ := S3
      exact ⟨m, e, U, M, S4.ext hp (by decide) (by decide) (by decide)⟩
    have sl := S.sep.len
    have q1 : (ρ ++ [Sl.box 0])[ρ.length]? = some (.box 0) := by rw [List.getElem?_append_right (Nat.le_refl _), Nat.sub_self]; rfl
    have oi : (σ ++ [some (V.ref p)])[ρ.length]? = some (some (.ref p)) := by rw [← sl, List.getElem?_append_right (Nat.le_refl _), Nat.sub_self]; rfl
    have cut : ∀ {C' G : Hp} {ρ' : List Sl} {μ' : My}, Sep3 K B C' G (σ ++ [some (V.ref p)]) ρ' μ' → (∃ n, ρ' = (ρ ++ [Sl.box 0]).set ρ.length (.box n)) → Sep3 K B C' G σ ρ μ' := fun {C' G ρ' μ'} z ⟨n, e⟩ => by
      subst e
      rw [List.set_append_right _ _ (Nat.le_refl _), Nat.sub_self] at z
      exact Sep3.cutEnd (s := .box n) z S3.sep
    refine ⟨rfl, rfl, Sep3.handB (vs := [.int u, .int v]) (ds := [.int u, .int v]) Sx q1 oi (.cons (.int u) (.cons (.int v) .nil)) rfl h1 (fun C' G x r ρ' μ' ok s' z => ?_) fun C' G cls d2 c d ρ' μ' S' ex z => ?_⟩
    · obtain ⟨z1, z2⟩ := z
      refine k C' G x r ρ μ' ?_ s' z2
      cases r with
      | dat d => exact ⟨cut ok.1 z1, ok.2⟩
      | new ds =>
        obtain ⟨y, rfl, S4⟩ := ok
        exact ⟨y, rfl, cut S4 z1⟩
    · obtain ⟨z1, z2⟩ := z
      exact mx _ _ _ _ _ _ _ _ _ (cut S' z1) ex z2

end
section
variable {P : Program} {w : World} {K : PySem.W.Frag} {mg : Str → Option Value} {base : Heap}
local macro_rules | `(tactic| get_elem_tactic_trivial) => `(tactic| (repeat first | exact Wk.nil | exact Wk'.nil | refine Wk.same ?_ | refine Wk'.same ?_ | refine Wk.un (fun _ z => nomatch z) ?_ | refine Wk'.un ?_))
/-! a text none times or once -/
def rMulS01 : R2 := fun x y H Q => ∃ (a : Str) (k : Bool), x = .str a ∧ y = .int (if k = true then 1 else 0) ∧ Q (.str (if k = true then a else Str.empty)) H
theorem opMulS01 {X : Cx} : OpR X (binaryOp .Mult) rMulS01 := by
  intro pins s σ H x y v u Q I rx ry h
  obtain ⟨a, k, rfl, rfl, q⟩ := h
  obtain ⟨t, rfl⟩ := rx
  obtain ⟨t', rfl⟩ := ry
  cases k with
  | false => exact P.mul_str_none (by show (0 : Int) < 1; decide) (by show ¬ (0 : Int) < -(2 ^ 63); decide) ⟨.str Str.empty, H, I.tok _, ⟨_, rfl⟩, q⟩
  | true => exact P.mul_str (n := 1) (by decide) (fun _ h => by simp at h) (fun _ h => by simp at h) ⟨.str a, H, I, ⟨_, rfl⟩, q⟩
def oMulS01 : Dt → Dt → (Dt → Prop) → Prop
  | .str a, .int k, Φ => (k = 0 ∨ k = 1) ∧ Φ (.str (if k = 1 then a else Str.empty))
  | _, _, _ => False
instance so_mulS01 : So K rMulS01 oMulS01 where
  run B C H σ ρ x y dx dy Q Φ S hx hy h k := by
    cases dx <;> cases dy <;> try exact False.elim h
    obtain ⟨hk, h⟩ := h
    cases hx.str
    cases hy.int
    rcases hk with rfl | rfl
    · exact ⟨_, false, rfl, rfl, k _ _ _ _ S (Same.refl _) (.str _) h⟩
    · exact ⟨_, true, rfl, rfl, k _ _ _ _ S (Same.refl _) (.str _) h⟩

end
section
variable {P : Program} {w : World} {K : PySem.W.Frag} {mg : Str → Option Value} {base : Heap}
local macro_rules | `(tactic| get_elem_tactic_trivial) => `(tactic| (repeat first | exact Wk.nil | exact Wk'.nil | refine Wk.same ?_ | refine Wk'.same ?_ | refine Wk.un (fun _ z => nomatch z) ?_ | refine Wk'.un ?_))
/-! what is kept at first -/
def wStock60 : W3F := fun ps μ Ψ _ => ∃ (n z k : Int), ps = [.box n, .dat (.int z), .dat (.int k)] ∧ μ = [] ∧ n < 800000000 ∧ ∀ (key f m : Int) (w : Option Int) (o s : Addr), 0 ≤ key → key ≤ 1000000 → OkMix w f → m ≤ n + 6 → Ψ (.dat (.adr o)) [.box m, .dat (.int z), .dat (.int k)] [(o, .fl (.dic OWK [.int key, howD w f, .int z, .int k, .lst [], .lst [], .adr s, .non, .lst []])), (s, .fl (.dic [] []))]
theorem Tx.kbLHow_1 {K : PySem.W.Frag} {mg : Str → Option Value} (T : Tx K mg) : ∃ g : List Value → List Value → List Value, KBn K T.fdLHow ["_law_box_here"] 1 [] g (gB [0] []) := kbAllN T.FLHow 1 [] [0] fun kV doc pm an cdv ct us ws h1 h2 => match us, ws, h1, h2 with
  | [u0], [], _, _ => rfl
theorem Tx.kbLTake_2 {K : PySem.W.Frag} {mg : Str → Option Value} (T : Tx K mg) : ∃ g : List Value → List Value → List Value, KBn K T.fdLTake ["_law_box_here", "_law_size"] 2 [] g (gB [0, 1] []) := kbAllN T.FLTake 2 [] [0, 1] fun kV doc pm an cdv ct us ws h1 h2 => match us, ws, h1, h2 with
  | [u0, u1], [], _, _ => rfl
theorem okLStock (T : Tx K mg) : FnOk P w K mg base CX0 3 (He.ga K "_law_stock") T.fdLStock ["_law_box_here", "_law_size", "_law_kept"] (sp3 K 3 wStock60) := by
  have B := T.B
  have GLHow : FnOk P w K mg base CX0 2 (He.ga K "_law_how") T.fdLHow ["_law_box_here"] _ := FnOk.up3 (okLHow T)
  have bLHow := T.bLHow
  have GLTake : FnOk P w K mg base CX0 1 (He.ga K "_law_take") T.fdLTake ["_law_box_here", "_law_size"] _ := FnOk.up3 (okTakeD T)
  have bLTake := T.bLTake
  obtain ⟨_, kbLHow_1⟩ := T.kbLHow_1
  obtain ⟨_, kbLTake_2⟩ := T.kbLTake_2
  refine T.FLStock.ok scLStock (fun vs H Q E h => h.1) (fun cdv A outer s H vs Q E hr h => ?_)
  refine ⟨_, PSs.nox (pss_cons (ps_set (i := 3) scLStock.nd rfl (.inl rfl) (asPE (tCall3 1 0 _ _ _ _ _) (pe_call3 (ks := []) GLHow (hr.mono (by decide)) (by rfl) T.gLHow T.FLHow.kp kbLHow_1 (pass0S (fun cls d _ H => E cls d H)) (pa_cons (pv 0) pa_nil) pk_nil)))
        (pss_cons (ps_set (i := 4) scLStock.nd rfl (.inl rfl) (asPE (tDisp _) (pe_disp (pps_cons pe_str (asPE (tCall3 2 0 _ _ _ _ _) (pe_call3 (ks := []) GLTake (hr.mono (by decide)) (by rfl) T.gLTake T.FLTake.kp kbLTake_2 (pass0S (fun cls d _ H => E cls d H)) (pa_cons (pv 0) (pa_cons (pe_op op_add (pe_op op_pow pe_int pe_int) pe_int) pa_nil)) pk_nil)) (pps_cons pe_str (pv 3) (pps_cons pe_str (pv 1) (pps_cons pe_str (pv 2) (pps_cons pe_str (pe_lst pa_nil) (pps_cons pe_str (pe_lst pa_nil) pps_nil)))))) rfl rfl (by simp) (by decide))))
        (pss_cons (ps_expr (asPE (tBM K "dict" rDUpd _ _) ((pe_bm PySem.F.plainAttrs_dict PySem.F.slot_dict_update PySem.F.type_dict_update mtd_update (pv 4) (pa_cons (asPE (tDisp _) (pe_disp (pps_cons pe_str pe_dnewK (pps_cons pe_str pe_non (pps_cons pe_str (pe_lst pa_nil) pps_nil))) rfl rfl (by simp) (by decide))) pa_nil)))))
        (pss_one (ps_ret (pv 4)))))), ?_⟩
  refine body3 h (fun ps μ Ψ Ξ hw hl => ?_)
  obtain ⟨n, z, k, rfl, rfl, hn, q⟩ := hw
  have s0 : 0 ≤ sizeLine := by decide
  refine ⟨⟨rfl, rfl, rfl⟩, [], _, .refl _, n, rfl, by omega, fun w f m om hm => ?_⟩
  refine ⟨⟨by decide, by decide, by decide⟩, ⟨rfl, rfl, rfl⟩, [], _, .refl _, ⟨by omega, by decide, by decide⟩, fun key k0 k1 => ?_⟩
  have k1 : key < 10 ^ 6 + 1 := k1
  refine ⟨s0, s0, _, rfl, _, rfl, _, rfl, _, rfl, _, rfl, _, rfl, by decide, [.inr "key", .inr "how", .inr "size", .inr "kept", .inr "rules", .inr "plan"], [.int key, howD w f, .int z, .int k, .lst [], .lst []], rfl, fun o => ?_⟩
  refine ⟨⟨o, 0, _, _, rfl, rfl⟩, fun s => ⟨s0, _, rfl, _, rfl, _, rfl, by decide, [.inr "asked", .inr "last", .inr "history"], [.adr s, .non, .lst []], rfl, fun y => ?_⟩⟩
  refine ⟨o, y, [], [(s, .fl (.dic [] []))], _, _, _, _, rfl, rfl, Ent.keep (is := [2, 0, 0]) rfl, by decide, OWK, [.int key, howD w f, .int z, .int k, .lst [], .lst [], .adr s, .non, .lst []], rfl, ?_⟩
  exact ⟨_, .refl _, q key f (m + 1) w o s k0 (by omega) om (by omega)⟩
def wBegun60 : W3F := fun ps μ Ψ _ => ∃ (life top : Int), ps = [.dat (.int life), .dat (.int top)] ∧ μ = [] ∧ ∀ w, Ψ (.dat (.adr w)) ps [(w, .pk (woI ⟨life, top, 0, 1, []⟩))]
theorem okLBegun (T : Tx K mg) : FnOk P w K mg base CX0 1 (He.ga K "_law_begun") T.fdLBegun ["_law_life_told", "_law_top"] (sp3 K 2 wBegun60) := by
  have B := T.B
  refine T.FLBegun.ok scLBegun (fun vs H Q E h => h.1) (fun cdv A outer s H vs Q E hr h => ?_)
  refine ⟨_, PSs.nox (pss_one (ps_ret (asPE (tDisp _) (pe_disp (pps_cons pe_str (pv 0) (pps_cons pe_str (pv 1) (pps_cons pe_str pe_int (pps_cons pe_str pe_int (pps_cons pe_str pe_dnewK pps_nil))))) rfl rfl (by simp) (by decide))))), ?_⟩
  refine body3 h (fun ps μ Ψ Ξ hw hl => ?_)
  obtain ⟨life, top, rfl, rfl, q⟩ := hw
  exact fun k => ⟨_, rfl, _, rfl, _, rfl, _, rfl, _, rfl, by decide, WKs, [.int life, .int top, .int 0, .int 1, .adr k], rfl, fun w => ⟨_, wo_close (W := ⟨life, top, 0, 1, []⟩) (w := w) (k := k), q w⟩⟩
end
section
variable {P : Program} {w : World} {K : PySem.W.Frag} {mg : Str → Option Value} {base : Heap}
local macro_rules | `(tactic| get_elem_tactic_trivial) => `(tactic| (repeat first | exact Wk.nil | exact Wk'.nil | refine Wk.same ?_ | refine Wk'.same ?_ | refine Wk.un (fun _ z => nomatch z) ?_ | refine Wk'.un ?_))
/-! a deed -/
def Wo.add (W : Wo) (o : Addr) (s : Key) : Wo := { W with L := W.L ++ [(o, s, [])] }
def Wo.drop (W : Wo) (i : Nat) : Wo := { W with L := W.L.eraseIdx i }
theorem St.add {B : Bk} {W : Wo} (S : St B W) {x o : Addr} {s : Str} (h : (Sum.inr s : Key) ∉ kks B.es) (l : (B.es.length : Int) < B.most) : St (B.add x (.inr s) E60) (W.add o (.inr s)) := by
  refine ⟨S.ok.add h l rfl, S.life, S.most, S.now, S.nx, ?_, fun y hy => ?_⟩
  · show (W.L ++ [_]).map _ = (B.es ++ [_]).map _
    rw [List.map_append, List.map_append, S.es]
    rfl
  · rcases List.mem_append.mp hy with z | z
    · exact S.gd y z
    · rw [List.mem_singleton.mp z]
      exact ⟨rfl, rfl⟩
theorem map_eraseIdx' {α β : Type} (f : α → β) (l : List α) (i : Nat) : (l.eraseIdx i).map f = (l.map f).eraseIdx i := by
  rw [List.eraseIdx_eq_take_drop_succ, List.eraseIdx_eq_take_drop_succ, List.map_append, List.map_take, List.map_drop]
theorem St.drop {B : Bk} {W : Wo} (S : St B W) {i : Nat} {x : Addr} {s : Key} {E : En} (h : B.es[i]? = some (x, s, E)) : St { B with es := B.es.eraseIdx i } (W.drop i) := by
  refine ⟨S.ok.drop h, S.life, S.most, S.now, S.nx, ?_, fun y hy => S.gd y ((List.eraseIdx_sublist ..).mem hy)⟩
  show (W.L.eraseIdx i).map _ = (B.es.eraseIdx i).map _
  rw [map_eraseIdx', map_eraseIdx', S.es]
theorem St.put {B : Bk} {W : Wo} (S : St B W) {i : Nat} {x : Addr} {s : Key} {E : En} {o1 o2 : Option (List Dt)} (h : B.es[i]? = some (x, s, E)) : St (B.setE i x s (E.put o1 o2)) W := by
  refine ⟨S.ok.setE h rfl, S.life, S.most, S.now, S.nx, ?_, fun y hy => ?_⟩
  · show W.L.map _ = (B.es.set i _).map _
    rw [List.map_set, S.es]
    have e : (B.es.map fun x => (x.2.1, x.2.2.ts))[i]? = some (s, E.ts) := by rw [List.getElem?_map, h]; rfl
    obtain ⟨l, e2⟩ := List.getElem?_eq_some_iff.mp e
    show _ = (B.es.map fun x => (x.2.1, x.2.2.ts)).set i (s, E.ts)
    rw [← e2]
    exact (List.set_getElem_self l).symm
  · rcases List.mem_or_eq_of_mem_set hy with z | rfl
    · exact S.gd y z
    · show E.gd = .non ∧ E.ws = []
      exact S.gd _ (List.mem_of_getElem? h)
theorem nice_tw {x : Str} {d : Dt} (h : PyData.strOk x = true) (h2 : x.cps.size ≤ 10) (hd : Nice 0 10 d) : Nice 1 22 (.tup [.str x, d]) := by
  refine (nice_tup (n := 0) (b := 10) (ds := [.str x, d]) fun e he => ?_).mono (Nat.le_refl _) (by show 2 * 11 ≤ 22; decide)
  simp only [List.mem_cons, List.mem_nil_iff, or_false] at he
  rcases he with rfl | rfl
  · exact nice_str h h2
  · exact hd
def wDeed60 : W3F := fun ps μ Ψ _ => ∃ (n : Int) (b w : Addr) (B : Bk) (W : Wo) (ls : List (List Nat)), ps = [.box n, .dat (.adr b), .dat (.adr w), .dat (.lst (ls.map nD))] ∧ μ = [(b, .pk (bkI B)), (w, .pk (woI W))] ∧ n < 700000000 ∧ St B W ∧ B.gv < 900 ∧ B.most ≤ 9 ∧ ls ≠ [] ∧ ls.length ≤ 20 ∧ (∀ l ∈ ls, Gd l) ∧
  ∀ (B' : Bk) (W' : Wo) (m : Int), St B' W' → B'.gv ≤ B.gv + 1 → B'.most = B.most → (∀ s ∈ kks B'.es, s ∈ kks B.es ∨ ∃ l ∈ ls, s = .inr (nm l)) → m ≤ n + 10 → Ψ (.dat (.bl true)) [.box m, .dat (.adr b), .dat (.adr w), .dat (.lst (ls.map nD))] [(b, .pk (bkI B')), (w, .pk (woI W'))]
theorem Tx.kbLAsk_3 {K : PySem.W.Frag} {mg : Str → Option Value} (T : Tx K mg) : ∃ g : List Value → List Value → List Value, KBn K T.fdLAsk ["_law_book", "_law_w", "_law_name"] 3 [] g (gB [0, 1, 2] []) := kbAllN T.FLAsk 3 [] [0, 1, 2] fun kV doc pm an cdv ct us ws h1 h2 => match us, ws, h1, h2 with
  | [u0, u1, u2], [], _, _ => rfl
theorem Tx.kbLPick_2 {K : PySem.W.Frag} {mg : Str → Option Value} (T : Tx K mg) : ∃ g : List Value → List Value → List Value, KBn K T.fdLPick ["_law_box_here", "_law_things"] 2 [] g (gB [0, 1] []) := kbAllN T.FLPick 2 [] [0, 1] fun kV doc pm an cdv ct us ws h1 h2 => match us, ws, h1, h2 with
  | [u0, u1], [], _, _ => rfl
theorem Tx.kbLRefused_4 {K : PySem.W.Frag} {mg : Str → Option Value} (T : Tx K mg) : ∃ g : List Value → List Value → List Value, KBn K T.fdLRefused ["_law_book", "_law_which", "_law_name", "_law_key"] 4 [] g (gB [0, 1, 2, 3] []) := kbAllN T.FLRefused 4 [] [0, 1, 2, 3] fun kV doc pm an cdv ct us ws h1 h2 => match us, ws, h1, h2 with
  | [u0, u1, u2, u3], [], _, _ => rfl
theorem Tx.kbLStock_3 {K : PySem.W.Frag} {mg : Str → Option Value} (T : Tx K mg) : ∃ g : List Value → List Value → List Value, KBn K T.fdLStock ["_law_box_here", "_law_size", "_law_kept"] 3 [] g (gB [0, 1, 2] []) := kbAllN T.FLStock 3 [] [0, 1, 2] fun kV doc pm an cdv ct us ws h1 h2 => match us, ws, h1, h2 with
  | [u0, u1, u2], [], _, _ => rfl
theorem Tx.kbBookPut_2_plan {K : PySem.W.Frag} {mg : Str → Option Value} (T : Tx K mg) : ∃ g : List Value → List Value → List Value, KBn K T.fdBookPut ["self", "name", "policy", "plan"] 2 ["plan"] g (gB [0, 1, 3, 2] [.non]) := kbKw T.FBookPut 2 ["plan"] [0, 1, 3, 2] [("policy", .non)] (by simp) (by simp) fun D doc pm an cdv ct us mv ws h1 h2 h3 => match us, mv, ws, h1, h2, h3 with
  | [u0, u1], [m0], [w0], _, _, _ => ⟨_, _, _, _, _, _, rfl, rfl, rfl⟩
theorem okLDeedRight (T : Tx K mg) : FnOk P w K mg base CX0 9 (He.ga K "_law_deed_right") T.fdLDeedRight ["_law_box_here", "_law_book", "_law_w", "_law_names_here"] (sp3 K 4 wDeed60) := by
  have B := T.B
  have GLPick : FnOk P w K mg base CX0 2 (He.ga K "_law_pick") T.fdLPick ["_law_box_here", "_law_things"] _ := FnOk.up3 (okLPick T)
  have bLPick := T.bLPick
  have GLTake : FnOk P w K mg base CX0 1 (He.ga K "_law_take") T.fdLTake ["_law_box_here", "_law_size"] _ := FnOk.up3 (okTakeD T)
  have bLTake := T.bLTake
  have GLRefused : FnOk P w K mg base CX0 8 (He.ga K "_law_refused") T.fdLRefused ["_law_book", "_law_which", "_law_name", "_law_key"] (sp3 K 4 wRef60) := okLRefused T
  have bLRefused := T.bLRefused
  have GLSame : FnOk P w K mg base CX0 6 (He.ga K "_law_same") T.fdLSame ["_law_found", "_law_due"] _ := FnOk.up3 (okSameD T 6)
  have bLSame := T.bLSame
  have GLAsk : FnOk P w K mg base CX0 7 (He.ga K "_law_ask") T.fdLAsk ["_law_book", "_law_w", "_law_name"] (sp3 K 3 wAsk60) := okLAsk T
  have bLAsk := T.bLAsk
  have GLStock : FnOk P w K mg base CX0 3 (He.ga K "_law_stock") T.fdLStock ["_law_box_here", "_law_size", "_law_kept"] (sp3 K 3 wStock60) := okLStock T
  have bLStock := T.bLStock
  have GBookDrop : FnOk P w K mg base CX0 4 (He.ma K (He.ga K "Book") "drop") T.fdBookDrop ["self", "name"] (sp3 K 2 (wfN3 wBkDrop)) := FnOk.calm3 (okBookDrop T)
  have bBookDrop := T.bBookDrop
  have GBookPut : FnOk P w K mg base CX0 4 (He.ma K (He.ga K "Book") "put") T.fdBookPut ["self", "name", "policy", "plan"] (sp3 K 4 (wfN3 wBkPut)) := FnOk.calm3 (okBookPut T)
  obtain ⟨_, kbBookDrop_2⟩ := T.kbBookDrop_2
  obtain ⟨_, kbBookPut_2_plan⟩ := T.kbBookPut_2_plan
  obtain ⟨_, kbLAsk_3⟩ := T.kbLAsk_3
  obtain ⟨_, kbLPick_2⟩ := T.kbLPick_2
  obtain ⟨_, kbLRefused_4⟩ := T.kbLRefused_4
  obtain ⟨_, kbLSame_2⟩ := T.kbLSame_2
  obtain ⟨_, kbLStock_3⟩ := T.kbLStock_3
  obtain ⟨_, kbLTake_2⟩ := T.kbLTake_2
  refine T.FLDeedRight.ok scLDeedRight (fun vs H Q E h => h.1) (fun cdv A outer s H vs Q E hr h => ?_)
  refine ⟨_, PSs.nox (pss_cons (ps_par (i := 4) (j := 5) (by rfl) scLDeedRight.nd rfl rfl (by decide) rfl rfl (pa_cons (asPE (tCall3 2 0 _ _ _ _ _) (pe_call3 (ks := []) GLPick (hr.mono (by decide)) (by rfl) T.gLPick T.FLPick.kp kbLPick_2 (pass0S (fun cls d _ H => E cls d H)) (pa_cons (pv 0) (pa_cons (pv 3) pa_nil)) pk_nil)) (pa_cons (asPE (tCall3 2 0 _ _ _ _ _) (pe_call3 (ks := []) GLTake (hr.mono (by decide)) (by rfl) T.gLTake T.FLTake.kp kbLTake_2 (pass0S (fun cls d _ H => E cls d H)) (pa_cons (pv 0) (pa_cons pe_int pa_nil)) pk_nil)) pa_nil)) (by rfl))
        (pss_cons (psOpen (psGhost (ps_if (pt_cmpR op_lt (pv 5) pe_int (nomark _)) (pss_cons (ps_set (i := 6) scLDeedRight.nd rfl (.inl rfl) (pe_ifExp (pt_cmp (show PC _ _ _ _ (tDIn _ _) from pc_din (Nat.lt_of_le_of_lt (Nat.add_le_add_left (by decide : 1 ≤ 64) _) hr.units) (pv 4) (asPE (tDGet _ _) (pe_dget (Nat.lt_of_le_of_lt (Nat.add_le_add_left (by decide : 1 ≤ 64) _) hr.units) (pv 2) pe_str (fun _ _ => rfl))))) (pe_tup (pa_cons pe_str (pa_cons (pv 4) pa_nil))) (pe_tup (pa_cons pe_str (pa_cons (asPE (tDGet _ _) (pe_dget (Nat.lt_of_le_of_lt (Nat.add_le_add_left (by decide : 1 ≤ 64) _) hr.units) (pv 2) pe_str (fun _ _ => rfl))) pa_nil)))))
        (pss_cons (ps_if (PW.pt (pw_and (pt_cmp (show PC _ _ _ _ (tDNotIn _ _) from pc_dnotin (Nat.lt_of_le_of_lt (Nat.add_le_add_left (by decide : 1 ≤ 64) _) hr.units) (pv 4) (asPE (tDGet _ _) (pe_dget (Nat.lt_of_le_of_lt (Nat.add_le_add_left (by decide : 1 ≤ 64) _) hr.units) (pv 2) pe_str (fun _ _ => rfl))))) (pw_and1 (pt_cmpR op_lt (pe_callB (show CallR _ _ rLenD from cr_lenD) (by rfl) B.b_len PySem.boot_len (pa_cons (asPE (tDGet _ _) (pe_dget (Nat.lt_of_le_of_lt (Nat.add_le_add_left (by decide : 1 ≤ 64) _) hr.units) (pv 2) pe_str (fun _ _ => rfl))) pa_nil)) (asPE (tDGet _ _) (pe_dget (Nat.lt_of_le_of_lt (Nat.add_le_add_left (by decide : 1 ≤ 64) _) hr.units) (pv 2) pe_str (fun _ _ => rfl))) (nomark _))))) (pss_one (ps_set (i := 6) scLDeedRight.nd rfl (.inl rfl) (pe_tup (pa_cons pe_str (pa_cons pe_non pa_nil))))) pss_nil)
        (pss_cons (ps_set (i := 7) scLDeedRight.nd rfl (.inl rfl) (asPE (tCall3 4 0 _ _ _ _ _) (pe_call3 (ks := []) GLRefused (hr.mono (by decide)) (by rfl) T.gLRefused T.FLRefused.kp kbLRefused_4 (pass0S (fun cls d _ H => E cls d H)) (pa_cons (pv 1) (pa_cons pe_int (pa_cons (pv 4) (pa_cons pe_int pa_nil)))) pk_nil)))
        (pss_cons (ps_if (pt_cmpR (opEqA (K := K) rfl hr.units) (pe_ix (show IxR _ (rIx K) from ix_seq) (pv 6) pe_int (fun _ _ => rfl)) pe_str (nomark _)) (pss_cons (ps_set (i := 8) scLDeedRight.nd rfl (.inl rfl) (asPE (tCall3 3 0 _ _ _ _ _) (pe_call3 (ks := []) GLStock (hr.mono (by decide)) (by rfl) T.gLStock T.FLStock.kp kbLStock_3 (pass0S (fun cls d _ H => E cls d H)) (pa_cons (pe_lst (pa_cons pe_int (pa_cons pe_int (pa_cons pe_int pa_nil)))) (pa_cons pe_int (pa_cons pe_int pa_nil))) pk_nil)))
        (pss_cons (ps_expr (asPE (tBM K "dict" rDUpd _ _) ((pe_bm PySem.F.plainAttrs_dict PySem.F.slot_dict_update PySem.F.type_dict_update mtd_update (pv 8) (pa_cons (asPE (tDisp _) (pe_disp (pps_cons pe_str pe_int (pps_cons pe_str (pe_tup (pa_cons pe_non (pa_cons pe_int pa_nil))) pps_nil)) rfl rfl (by simp) (by decide))) pa_nil)))))
        (pss_one (ps_asg (pv 8) (pg_sub (asPE (tDGet _ _) (pe_dget (Nat.lt_of_le_of_lt (Nat.add_le_add_left (by decide : 1 ≤ 64) _) hr.units) (pv 2) pe_str (fun _ _ => rfl))) (pv 4) (set_dict (Nat.lt_of_le_of_lt (Nat.add_le_add_left (by decide : 1 ≤ 64) _) hr.units))))))) pss_nil)
        (pss_one (ps_ret (asPE (tCall3 2 0 _ _ _ _ _) (pe_call3 (ks := []) GLSame (hr.mono (by decide)) (by rfl) T.gLSame T.FLSame.kp kbLSame_2 (pass0S (fun cls d _ H => E cls d H)) (pa_cons (pv 7) (pa_cons (pv 6) pa_nil)) pk_nil)))))))) pss_nil)))
        (pss_cons (ps_if (pt_cmp (show PC _ _ _ _ (tDNotIn _ _) from pc_dnotin (Nat.lt_of_le_of_lt (Nat.add_le_add_left (by decide : 1 ≤ 64) _) hr.units) (pv 4) (asPE (tDGet _ _) (pe_dget (Nat.lt_of_le_of_lt (Nat.add_le_add_left (by decide : 1 ≤ 64) _) hr.units) (pv 2) pe_str (fun _ _ => rfl))))) (pss_one (ps_ret (asPE (tCall3 2 0 _ _ _ _ _) (pe_call3 (ks := []) GLSame (hr.mono (by decide)) (by rfl) T.gLSame T.FLSame.kp kbLSame_2 (pass0S (fun cls d _ H => E cls d H)) (pa_cons (asPE (tCall3 4 0 _ _ _ _ _) (pe_call3 (ks := []) GLRefused (hr.mono (by decide)) (by rfl) T.gLRefused T.FLRefused.kp kbLRefused_4 (pass0S (fun cls d _ H => E cls d H)) (pa_cons (pv 1) (pa_cons (pe_op op_add pe_int (asPE (tCall3 2 0 _ _ _ _ _) (pe_call3 (ks := []) GLTake (hr.mono (by decide)) (by rfl) T.gLTake T.FLTake.kp kbLTake_2 (pass0S (fun cls d _ H => E cls d H)) (pa_cons (pv 0) (pa_cons pe_int pa_nil)) pk_nil))) (pa_cons (pv 4) (pa_cons pe_int pa_nil)))) pk_nil)) (pa_cons (pe_tup (pa_cons pe_str (pa_cons (pv 4) pa_nil))) pa_nil)) pk_nil)))) pss_nil)
        (pss_cons (ps_if (pt_cmpR (opEqA (K := K) rfl hr.units) (pv 5) pe_int (nomark _)) (pss_cons (ps_expr (asPE (tDPop1 _ _) (pe_dpop1 (asPE (tDGet _ _) (pe_dget (Nat.lt_of_le_of_lt (Nat.add_le_add_left (by decide : 1 ≤ 64) _) hr.units) (pv 2) pe_str (fun _ _ => rfl))) (pv 4) ⟨rfl, rfl, rfl, rfl⟩)))
        (pss_one (ps_ret (pe_cmpR (show OpR _ _ rIsNone from op_isN) (asPE (tMeth3 _ _ 1 0 _ _ _ _ _ _) (pe_meth3 (ks := []) (pv 1) T.clBook T.mBookDrop GBookDrop (hr.mono (by decide)) kbBookDrop_2 (pass0S (fun cls d _ H => E cls d H)) (pa_cons (pv 4) pa_nil) pk_nil)) pe_non (nomark _))))) pss_nil)
        (pss_one (ps_ret (pe_ifExp (pt_cmpR op_lt (pv 5) pe_int (nomark _)) (asPE (tCall3 3 0 _ _ _ _ _) (pe_call3 (ks := []) GLAsk (hr.mono (by decide)) (by rfl) T.gLAsk T.FLAsk.kp kbLAsk_3 (pass0S (fun cls d _ H => E cls d H)) (pa_cons (pv 1) (pa_cons (pv 2) (pa_cons (pv 4) pa_nil))) pk_nil)) (pe_cmpR (show OpR _ _ rIsNone from op_isN) (asPE (tMeth3 _ _ 1 1 _ _ _ _ _ _) (pe_meth3 (ks := ["plan"]) (pv 1) T.clBook T.mBookPut GBookPut (hr.mono (by decide)) kbBookPut_2_plan (pass0S (fun cls d _ H => E cls d H)) (pa_cons (pv 4) pa_nil) (pk_cons (pe_lst pa_nil) pk_nil))) pe_non (nomark _))))))))), ?_⟩
  refine body3 h (fun ps μ Ψ Ξ hw hl => ?_)
  obtain ⟨n, b, w, B, W, ls, rfl, rfl, hn, S, gl, m9, lne, lle, gls, q⟩ := hw
  have sz : sizeLine = 16777216 := by decide
  have s2 : 2 ≤ sizeLine := by decide
  refine ⟨⟨rfl, rfl, rfl⟩, [], _, .refl _, n, ls.map nD, rfl, by omega, (fun z => lne (List.map_eq_nil_iff.mp z)), by rw [List.length_map]; omega, fun e he => ?_⟩
  obtain ⟨l, hl0, rfl⟩ := List.mem_map.mp he
  have gl0 := gls l hl0
  refine ⟨⟨rfl, rfl, rfl⟩, [], _, .refl _, ⟨by omega, by decide, by decide⟩, fun v v0 v9 => ?_⟩
  have v9 : v < 9 := v9
  refine ⟨w, _, [(b, .pk (bkI B))], Ent.perm (.swap _ _ _), ?_⟩
  rintro m ⟨k, ex⟩
  refine ⟨_, Ent.trans (Ent.app (Ent.ofExp ex) (.refl _)) (Ent.perm List.perm_append_comm), ?_⟩
  have ekW := S.ks
  have nd : (kks W.L).Nodup := by rw [S.ks]; exact S.ok.nd
  have close : Ent ((b, .pk (bkI B)) :: W.μ w k) [(b, .pk (bkI B)), (w, .pk (woI W))] := Ent.app (μ1 := [_]) (.refl _) wo_close
  have nl : Nice 0 10 (nD l) := (nice_nm gl0).mono (by decide) (by decide)
  by_cases c4 : v < 4
  · refine ifT (decide_eq_true c4) ?_
    by_cases hk : (Sum.inr (nm l) : Key) ∈ kks W.L
    · refine ⟨WKs, W.ds k, .inr "known", .adr k, .hung 1 rfl, rfl, rfl, kks W.L, kds W.L, .inr (nm l), .hung 2 rfl, rfl, ifT (kin nd hk) ?_⟩
      refine ⟨s2, WKs, W.ds k, .inr "known", .adr k, .hung 1 rfl, rfl, rfl, kks W.L, kds W.L, .inr (nm l), .hung 2 rfl, rfl, ifF (by rw [kin nd hk]; rfl) ?_⟩
      refine ⟨⟨rfl, rfl, rfl⟩, [_], _, .refl _, b, B, nm l, 0, rfl, rfl, by omega, .inl ⟨rfl, by rw [← ekW]; exact hk, ?_⟩⟩
      obtain ⟨pu, dp, wd⟩ := (nice_tw (x := "known") (by decide +kernel) (by decide +kernel) nl).same (k := 6) (by decide) (by decide)
      refine ⟨.str "known", rfl, ?_⟩
      exact ⟨⟨rfl, rfl, rfl⟩, [], _, .refl _, _, _, rfl, rfl, pu, dp, wd, _, close, q B W _ S (by omega) rfl (fun s h => .inl h) (by omega)⟩
    · have hkB : (Sum.inr (nm l) : Key) ∉ kks B.es := by rw [← ekW]; exact hk
      have lnW := S.ln
      refine ⟨WKs, W.ds k, .inr "known", .adr k, .hung 1 rfl, rfl, rfl, kks W.L, kds W.L, .inr (nm l), .hung 2 rfl, rfl, ifF (kout hk) ?_⟩
      refine ⟨WKs, W.ds k, .inr "top", .int W.top, .hung 1 rfl, rfl, rfl, s2, WKs, W.ds k, .inr "known", .adr k, .hung 1 rfl, rfl, rfl, kks W.L, kds W.L, .inr (nm l), .hung 2 rfl, rfl, ifT (by rw [kout hk]; rfl) ?_⟩
      refine ⟨WKs, W.ds k, .inr "known", .adr k, .hung 1 rfl, rfl, rfl, k, 2, kks W.L, kds W.L, rfl, rfl, WKs, W.ds k, .inr "top", .int W.top, .hung 1 rfl, rfl, rfl, ?_⟩
      have el := S.ok.el
      by_cases hl : (B.es.length : Int) < B.most
      · refine ifT (decide_eq_true (by rw [kks_len, lnW, ← S.most]; exact hl)) ⟨s2, ?_⟩
        refine ⟨⟨rfl, rfl, rfl⟩, [_], _, .refl _, b, B, nm l, 0, rfl, rfl, by omega, .inr (.inr (.inl ⟨rfl, hkB, hl, fun x => ?_⟩))⟩
        refine ⟨.str "done", rfl, ?_⟩
        refine ⟨[], _, .refl _, 0, 4, 2, rfl, rfl, by decide, fun key f m1 w0 o a k0 k1 om hm1 => ⟨⟨m1, rfl⟩, ?_⟩⟩
        refine ⟨⟨o, 0, _, _, rfl, rfl⟩, s2, _, rfl, _, rfl, by decide, [.inr "key", .inr "how"], [.int 7, .tup [.non, .int 7919]], rfl, fun y => ?_⟩
        refine ⟨o, y, [], (a, .fl (.dic [] [])) :: (b, .pk (bkI (B.add x (.inr (nm l)) E60))) :: W.μ w k, _, _, _, _, rfl, rfl, (Ent.pick (is := [1, 0]) rfl : Ent _ ([_, _] ++ _)), by decide, OWK, ods a, rfl, ?_⟩
        refine ⟨WKs, W.ds k, .inr "known", .adr k, .hung 3 rfl, rfl, rfl, k, 4, kks W.L, kds W.L, .inr (nm l), rfl, rfl, rfl, by rw [kks_len]; omega, _, _, putKD_new (by rw [kks_len, kds_len]) hk, ?_⟩
        obtain ⟨pu, dp, wd⟩ := (nice_tw (x := "done") (d := .non) (by decide +kernel) (by decide +kernel) (nice_non.mono (by decide) (by decide))).same (k := 6) (by decide) (by decide)
        have ek : kks (W.add o (.inr (nm l))).L = kks W.L ++ [.inr (nm l)] := List.map_append ..
        have ed : kds (W.add o (.inr (nm l))).L = kds W.L ++ [.adr o] := List.map_append ..
        have cl2 := wo_close (W := W.add o (.inr (nm l))) (w := w) (k := k)
        unfold Wo.μ at cl2
        rw [ek, ed] at cl2
        refine ⟨⟨rfl, rfl, rfl⟩, [], _, .refl _, _, _, rfl, rfl, pu, dp, wd, _, Ent.trans (Ent.app (μ1 := owμ [] o a) ow_close (.refl _)) (Ent.trans (Ent.pick (is := [1, 1, 1]) rfl) (Ent.trans (Ent.app (μ1 := [_, _, _]) (.refl _) (kps_snoc (I := owI) (x := (o, .inr (nm l), [])))) (Ent.app (μ1 := [_]) (.refl _) cl2))), q _ _ _ (S.add hkB hl) (by show B.gv ≤ _; omega) rfl (fun s h => ?_) (by omega)⟩
        have e3 : kks (B.add x (.inr (nm l)) E60).es = kks B.es ++ [.inr (nm l)] := List.map_append ..
        rw [e3] at h
        rcases List.mem_append.mp h with z | z
        · exact .inl z
        · exact .inr ⟨l, hl0, List.mem_singleton.mp z⟩
      · refine ifF (decide_eq_false (by rw [kks_len, lnW, ← S.most]; exact hl)) ?_
        refine ⟨⟨rfl, rfl, rfl⟩, [_], _, .refl _, b, B, nm l, 0, rfl, rfl, by omega, .inr (.inl ⟨rfl, hkB, by omega, ?_⟩)⟩
        obtain ⟨pu, dp, wd⟩ := (nice_tw (x := "many") (d := .int B.most) (by decide +kernel) (by decide +kernel) ((nice_small (by omega) (by omega)).mono (by decide) (by decide))).same (k := 6) (by decide) (by decide)
        refine ⟨.str "many", rfl, ?_⟩
        exact ⟨⟨rfl, rfl, rfl⟩, [], _, .refl _, _, _, rfl, (by rw [S.most]; rfl), pu, dp, wd, _, close, q B W _ S (by omega) rfl (fun s h => .inl h) (by omega)⟩
  · refine ifF (decide_eq_false c4) ?_
    by_cases hk : (Sum.inr (nm l) : Key) ∈ kks W.L
    · refine ⟨WKs, W.ds k, .inr "known", .adr k, .hung 1 rfl, rfl, rfl, kks W.L, kds W.L, .inr (nm l), .hung 2 rfl, rfl, ifF (by rw [kin nd hk]; rfl) ?_⟩
      obtain ⟨i, x, E, hi⟩ := kget (show (Sum.inr (nm l) : Key) ∈ kks B.es by rw [← ekW]; exact hk)
      obtain ⟨o, hw⟩ := S.at hi
      by_cases c5 : v = 4
      · refine ifT (eqSame c5) ?_
        refine ⟨WKs, W.ds k, .inr "known", .adr k, .hung 1 rfl, rfl, rfl, ⟨_, _, .hung 2 rfl⟩, k, 2, kks W.L, kds W.L, .inr (nm l), .adr o, rfl, rfl, rfl, getK_at nd hw, _, _, delK_at nd hw, ?_⟩
        refine ⟨⟨_, _, .pk, rfl, rfl⟩, ⟨rfl, rfl, rfl⟩, [_], _, .refl _, b, B, nm l, rfl, rfl, .inl ⟨i, x, E, hi, ?_⟩⟩
        refine ⟨rfl, _, Ent.trans (Ent.app (μ1 := [_, _, _]) (.refl _) (Ent.trans (kps_at hw) Ent.tail)) (Ent.app (μ1 := [_]) (.refl _) (wo_close (W := W.drop i))), q _ _ _ (S.drop hi) (by show B.gv ≤ _; omega) rfl (fun s h => .inl ?_) (by omega)⟩
        have h : s ∈ kks (B.es.eraseIdx i) := h
        rw [kks_erase] at h
        exact (List.eraseIdx_sublist ..).mem h
      · refine ifF (eqDiff c5) ?_
        by_cases c7 : v < 7
        · refine ifT (decide_eq_true c7) ?_
          exact ⟨⟨rfl, rfl, rfl⟩, [_, _], [], Ent.trans close Ent.app0, b, w, B, W, nm l, i, x, o, E, rfl, rfl, S, by omega, hi, hw, _, .refl _, q _ _ _ (S.ask hi hw) (Int.le_refl _) rfl (fun s h => .inl (by rw [← kks_set hi]; exact h)) (by omega)⟩
        · refine ifF (decide_eq_false c7) ?_
          refine ⟨⟨_, _, .pk, rfl, rfl⟩, Nat.zero_le _, ⟨rfl, rfl, rfl⟩, [_], _, .refl _, b, B, nm l, .non, .lst [], none, some [], rfl, rfl, .inl ⟨rfl, rfl⟩, .inr ⟨[], rfl, .inl rfl⟩, .inl ⟨i, x, E, hi, ?_⟩⟩
          exact ⟨rfl, _, Ent.app (μ1 := [_]) (.refl _) (wo_close (W := W)), q _ _ _ (S.put hi) (by show B.gv ≤ _; omega) rfl (fun s h => .inl (by rw [← kks_set hi]; exact h)) (by omega)⟩
    · have hkB : (Sum.inr (nm l) : Key) ∉ kks B.es := by rw [← ekW]; exact hk
      refine ⟨WKs, W.ds k, .inr "known", .adr k, .hung 1 rfl, rfl, rfl, kks W.L, kds W.L, .inr (nm l), .hung 2 rfl, rfl, ifT (by rw [kout hk]; rfl) ?_⟩
      refine ⟨⟨rfl, rfl, rfl⟩, [], _, .refl _, ⟨by omega, by decide, by decide⟩, fun r r0 r6 => ?_⟩
      have r6 : r < 6 := r6
      refine ⟨⟨rfl, rfl, rfl⟩, [_], _, .refl _, b, B, nm l, 1 + r, rfl, rfl, by omega, .inr (.inr (.inr ⟨by omega, by omega, hkB, ?_⟩))⟩
      obtain ⟨pu, dp, wd⟩ := (nice_tw (x := "unknown") (by decide +kernel) (by decide +kernel) nl).same (k := 6) (by decide) (by decide)
      exact ⟨s2, ⟨rfl, rfl, rfl⟩, [], _, .refl _, _, _, rfl, rfl, pu, dp, wd, _, close, q B W _ S (by omega) rfl (fun s h => .inl h) (by omega)⟩

end
section
variable {P : Program} {w : World} {K : PySem.W.Frag} {mg : Str → Option Value} {base : Heap}
local macro_rules | `(tactic| get_elem_tactic_trivial) => `(tactic| (repeat first | exact Wk.nil | exact Wk'.nil | refine Wk.same ?_ | refine Wk'.same ?_ | refine Wk.un (fun _ z => nomatch z) ?_ | refine Wk'.un ?_))
/-! a book, deed by deed -/
def qn (i : Nat) (l : List Nat) : List Nat := if i % 2 = 1 ∧ l.length < 4 then l ++ [16] else l
theorem Gd.qn {l : List Nat} (g : Gd l) (i : Nat) : Gd (qn i l) := by
  unfold Sl.qn
  split
  · next h =>
    refine ⟨fun d hd => ?_, ?_, ?_⟩
    · rcases List.mem_append.mp hd with z | z
      · exact g.lt d z
      · rw [List.mem_singleton.mp z]
        decide
    · rw [List.length_append]
      show 1 ≤ _ + 1
      omega
    · rw [List.length_append]
      show _ + 1 ≤ 4
      omega
  · exact g
def N60 (ls : List (List Nat)) : List (List Nat) := (List.range 11).map fun i => qn i (ls.getD i [])
theorem N60_at {ls : List (List Nat)} {i : Nat} {l : List Nat} (h : ls[i]? = some l) (hi : i < 11) : (N60 ls)[i]? = some (qn i l) := by
  unfold N60
  rw [List.getElem?_map, List.getElem?_range hi]
  show some (qn i (ls.getD i [])) = _
  rw [List.getD_eq_getElem?_getD, h]
  rfl
theorem N60_ne {ls : List (List Nat)} {z : Nat} (nd : ls.Nodup) (ln : ls.length = 11) (hz : ∀ l ∈ ls, l.length = z) {l : List Nat} (h : ls[10]? = some l) : ∀ x ∈ (N60 ls).take 10, x ≠ l := fun x hx e => by
  obtain ⟨i, hi⟩ := List.getElem?_of_mem hx
  rw [List.getElem?_take] at hi
  split at hi
  · next h10 =>
    obtain ⟨y, hy⟩ : ∃ y, ls[i]? = some y := ⟨_, List.getElem?_eq_getElem (by omega)⟩
    rw [N60_at hy (by omega)] at hi
    cases hi
    have z1 := hz y (List.mem_of_getElem? hy)
    have z2 := hz l (List.mem_of_getElem? h)
    unfold qn at e
    split at e
    · have := congrArg List.length e
      rw [List.length_append] at this
      have : y.length + 1 = l.length := this
      omega
    · obtain ⟨a1, a2⟩ := List.getElem?_eq_some_iff.mp hy
      obtain ⟨b1, b2⟩ := List.getElem?_eq_some_iff.mp h
      have := (List.getElem_inj (h₀ := a1) (h₁ := b1) nd).mp (by rw [a2, b2]; exact e)
      omega
  · cases hi
theorem N60_gd {ls : List (List Nat)} (ln : ls.length = 11) (g : ∀ l ∈ ls, Gd l) : ∀ x ∈ N60 ls, Gd x := fun x hx => by
  unfold N60 at hx
  obtain ⟨i, hi, rfl⟩ := List.mem_map.mp hx
  have hi := List.mem_range.mp hi
  show Gd (qn i (ls.getD i []))
  rw [List.getD_eq_getElem?_getD, List.getElem?_eq_getElem (by omega)]
  exact (g _ (List.getElem_mem _)).qn i
def wRight60 : W3F := fun ps μ Ψ _ => ∃ n : Int, ps = [.box n] ∧ μ = [] ∧ n < 400000000 ∧ ∀ m : Int, m ≤ n + 6000 → Ψ (.dat (.bl true)) [.box m] []
theorem Tx.kbLBegun_2 {K : PySem.W.Frag} {mg : Str → Option Value} (T : Tx K mg) : ∃ g : List Value → List Value → List Value, KBn K T.fdLBegun ["_law_life_told", "_law_top"] 2 [] g (gB [0, 1] []) := kbAllN T.FLBegun 2 [] [0, 1] fun kV doc pm an cdv ct us ws h1 h2 => match us, ws, h1, h2 with
  | [u0, u1], [], _, _ => rfl
theorem Tx.kbLDeedRight_4 {K : PySem.W.Frag} {mg : Str → Option Value} (T : Tx K mg) : ∃ g : List Value → List Value → List Value, KBn K T.fdLDeedRight ["_law_box_here", "_law_book", "_law_w", "_law_names_here"] 4 [] g (gB [0, 1, 2, 3] []) := kbAllN T.FLDeedRight 4 [] [0, 1, 2, 3] fun kV doc pm an cdv ct us ws h1 h2 => match us, ws, h1, h2 with
  | [u0, u1, u2, u3], [], _, _ => rfl
theorem Tx.kbLStands_2 {K : PySem.W.Frag} {mg : Str → Option Value} (T : Tx K mg) : ∃ g : List Value → List Value → List Value, KBn K T.fdLStands ["_law_book", "_law_w"] 2 [] g (gB [0, 1] []) := kbAllN T.FLStands 2 [] [0, 1] fun kV doc pm an cdv ct us ws h1 h2 => match us, ws, h1, h2 with
  | [u0, u1], [], _, _ => rfl
theorem Tx.kbBookInit_1_most {K : PySem.W.Frag} {mg : Str → Option Value} (T : Tx K mg) : ∃ g : List Value → List Value → List Value, KBn K T.fdBookInit ["self", "life", "most"] 1 ["most"] g (gB [0, 2, 1] [.int 9]) := kbKw T.FBookInit 1 ["most"] [0, 2, 1] [("life", .int 9)] (by simp) (by simp) fun D doc pm an cdv ct us mv ws h1 h2 h3 => match us, mv, ws, h1, h2, h3 with
  | [u0], [m0], [w0], _, _, _ => ⟨_, _, _, _, _, _, rfl, rfl, rfl⟩
theorem Tx.kbBookInit_1 {K : PySem.W.Frag} {mg : Str → Option Value} (T : Tx K mg) : ∃ g : List Value → List Value → List Value, KBn K T.fdBookInit ["self", "life", "most"] 1 [] g (gB [0, 1, 2] [.int 9, .int 8]) := kbKw T.FBookInit 1 [] [0, 1, 2] [("life", .int 9), ("most", .int 8)] (by simp) (by simp) fun D doc pm an cdv ct us mv ws h1 h2 h3 => match us, mv, ws, h1, h2, h3 with
  | [u0], [m0, m1], [], _, _, _ => ⟨_, _, _, _, _, _, rfl, rfl, ⟨_, _, _, _, _, _, rfl, rfl, rfl⟩⟩
theorem okLRight (T : Tx K mg) : FnOk P w K mg base CX0 10 (He.ga K "_law_right") T.fdLRight ["_law_box_here"] (sp3 K 1 wRight60) := by
  have B := T.B
  have GLBegun : FnOk P w K mg base CX0 1 (He.ga K "_law_begun") T.fdLBegun ["_law_life_told", "_law_top"] (sp3 K 2 wBegun60) := okLBegun T
  have bLBegun := T.bLBegun
  have GLTake : FnOk P w K mg base CX0 1 (He.ga K "_law_take") T.fdLTake ["_law_box_here", "_law_size"] _ := FnOk.up3 (okTakeD T)
  have bLTake := T.bLTake
  have GLNames : FnOk P w K mg base CX0 2 (He.ga K "_law_names") T.fdLNames ["_law_box_here", "_law_size"] (spN K 2 Nu.wNamesU) := Nu.okLNames T
  have bLNames := T.bLNames
  have GLStands : FnOk P w K mg base CX0 7 (He.ga K "_law_stands") T.fdLStands ["_law_book", "_law_w"] (sp3 K 2 wStands60) := okLStands T
  have bLStands := T.bLStands
  have GBookInit : FnOk P w K mg base CX0 1 (He.ma K (He.ga K "Book") "__init__") T.fdBookInit ["self", "life", "most"] (sp3 K 3 wBkInit) := okBookInit T
  have GLSame : FnOk P w K mg base CX0 6 (He.ga K "_law_same") T.fdLSame ["_law_found", "_law_due"] _ := FnOk.up3 (okSameD T 6)
  have bLSame := T.bLSame
  have GLDeedRight : FnOk P w K mg base CX0 9 (He.ga K "_law_deed_right") T.fdLDeedRight ["_law_box_here", "_law_book", "_law_w", "_law_names_here"] (sp3 K 4 wDeed60) := okLDeedRight T
  have bLDeedRight := T.bLDeedRight
  have GLRefused : FnOk P w K mg base CX0 8 (He.ga K "_law_refused") T.fdLRefused ["_law_book", "_law_which", "_law_name", "_law_key"] (sp3 K 4 wRef60) := okLRefused T
  have bLRefused := T.bLRefused
  obtain ⟨_, kbBookInit_1⟩ := T.kbBookInit_1
  obtain ⟨_, kbBookInit_1_most⟩ := T.kbBookInit_1_most
  obtain ⟨_, kbLBegun_2⟩ := T.kbLBegun_2
  obtain ⟨_, kbLDeedRight_4⟩ := T.kbLDeedRight_4
  obtain ⟨_, kbLRefused_4⟩ := T.kbLRefused_4
  obtain ⟨_, kbLSame_2⟩ := T.kbLSame_2
  obtain ⟨_, kbLStands_2⟩ := T.kbLStands_2
  obtain ⟨_, kbLTake_2⟩ := T.kbLTake_2
  refine T.FLRight.ok scLRight (fun vs H Q E h => h.1) (fun cdv A outer s H vs Q E hr h => ?_)
  refine ⟨_, PSs.nox (pss_cons (ps_set (i := 1) scLRight.nd rfl (.inl rfl) (pe_ix (show IxR _ (rIx K) from ix_seq) (pe_lst (pa_cons pe_non (pa_cons (asPE (tCall3 2 0 _ _ _ _ _) (pe_call3 (ks := []) GLTake (hr.mono (by decide)) (by rfl) T.gLTake T.FLTake.kp kbLTake_2 (pass0S (fun cls d _ H => E cls d H)) (pa_cons (pv 0) (pa_cons pe_int pa_nil)) pk_nil)) (pa_cons (pe_op op_add pe_int (asPE (tCall3 2 0 _ _ _ _ _) (pe_call3 (ks := []) GLTake (hr.mono (by decide)) (by rfl) T.gLTake T.FLTake.kp kbLTake_2 (pass0S (fun cls d _ H => E cls d H)) (pa_cons (pv 0) (pa_cons pe_int pa_nil)) pk_nil))) pa_nil)))) (asPE (tCall3 2 0 _ _ _ _ _) (pe_call3 (ks := []) GLTake (hr.mono (by decide)) (by rfl) T.gLTake T.FLTake.kp kbLTake_2 (pass0S (fun cls d _ H => E cls d H)) (pa_cons (pv 0) (pa_cons pe_int pa_nil)) pk_nil)) (fun _ _ => rfl)))
        (pss_cons (ps_par (i := 2) (j := 3) (by rfl) scLRight.nd rfl rfl (by decide) rfl rfl (pa_cons (pe_ifExp (pt_cmpR (show OpR _ _ rIsNone from op_isN) (pv 1) pe_non (nomark _)) (asPE (tMake3 _ 0 0 _ _ _ _ _) (pe_make30 (ks := []) T.mkBook GBookInit (hr.mono (by decide)) (by rfl) T.gBook kbBookInit_1 (pass0S (fun cls d _ H => E cls d H)) pk_nil)) (asPE (tMake3 _ 0 1 _ _ _ _ _) (pe_make30 (ks := ["most"]) T.mkBook GBookInit (hr.mono (by decide)) (by rfl) T.gBook kbBookInit_1_most (pass0S (fun cls d _ H => E cls d H)) (pk_cons (pv 1) pk_nil)))) (pa_cons (pe_call GLNames (hr.mono (by decide)) (by rfl) T.gLNames T.FLNames.kp bLNames .nil pass0 (pa_cons (pv 0) (pa_cons pe_int pa_nil))) pa_nil)) (by rfl))
        (pss_cons (ps_setLc (i := 3) (own := [("_law_k", 4), ("_law_name", 5)]) (g := gTup K 2 (gCons (gName 4) (gCons (gName 5) gNil))) (tt := tYes) (by rfl) scLRight.nd rfl rfl (sw_true rfl rfl rfl (by decide +kernel)) (show PI _ _ _ (iEnumA K _) from (pi_enumA rfl (by rfl) B.b_enumerate (pa_cons (pv 3) pa_nil))) (blkOk_by (own := [("_law_k", 4), ("_law_name", 5)]) (N := ["_law_box_here", "_law_top", "_law_book", "_law_names_here", "_law_k", "_law_name", "_law_w", "_law_turn"]) (sc := defScope sLRight) (by decide +kernel)) (fun _ _ _ _ _ => by exact (show PG _ _ (gTup K 2 _) from pg_tup rfl (pgs_cons (pg_name (i := 4) scLRight.nd rfl (Or.inl rfl)) (pgs_cons (pg_name (i := 5) scLRight.nd rfl (Or.inl rfl)) pgs_nil)))) (fun _ _ _ _ _ => pts_nil) (fun _ _ _ _ _ => (pe_op (show OpR _ _ rAddS from op_add_str) (pv 5) (pe_op (show OpR _ _ rMulS01 from opMulS01) pe_str (pePure (pe_callTy (show CallR _ _ cInt1 from call_int1) (by rfl) B.b_int PyProof.Rows.boot_int (pa_cons (pe_and (pe_cmpR (opEqA (K := K) rfl hr.units) (pe_op op_mod (pv 4) pe_int) pe_int (nomark _)) (pe_one (pe_cmpR op_lt (pe_callB (show CallR _ _ (rLen K) from call_len) (by rfl) B.b_len PySem.boot_len (pa_cons (pv 5) pa_nil)) pe_int (nomark _)))) pa_nil)))))))
        (pss_cons (ps_set (i := 6) scLRight.nd rfl (.inl rfl) (asPE (tCall3 2 0 _ _ _ _ _) (pe_call3 (ks := []) GLBegun (hr.mono (by decide)) (by rfl) T.gLBegun T.FLBegun.kp kbLBegun_2 (pass0S (fun cls d _ H => E cls d H)) (pa_cons (pe_glob (v := .int 9) (by rfl) T.c_LIFE.choose_spec ⟨_, rfl⟩) (pa_cons (pe_ifExp (pt_cmpR (show OpR _ _ rIsNone from op_isN) (pv 1) pe_non (nomark _)) (pe_glob (v := .int 8) (by rfl) T.c_MACHINES.choose_spec ⟨_, rfl⟩) (pv 1)) pa_nil)) pk_nil)))
        (pss_cons (ps_for PassesOwn.never rfl (pi_range1 (by rfl) B.b_range (pa_cons (pe_op op_add pe_int (asPE (tCall3 2 0 _ _ _ _ _) (pe_call3 (ks := []) GLTake (hr.mono (by decide)) (by rfl) T.gLTake T.FLTake.kp kbLTake_2 (pass0S (fun cls d _ H => E cls d H)) (pa_cons (pv 0) (pa_cons pe_int pa_nil)) pk_nil))) pa_nil)) (pg_name (i := 7) scLRight.nd rfl (Or.inl rfl))
        (pss_cons (ps_if (PW.pt (pw_or (pt_not (pt_val (asPE (tCall3 4 0 _ _ _ _ _) (pe_call3 (ks := []) GLDeedRight (hr.mono (by decide)) (by rfl) T.gLDeedRight T.FLDeedRight.kp kbLDeedRight_4 (pass0S (fun cls d _ H => E cls d H)) (pa_cons (pv 0) (pa_cons (pv 2) (pa_cons (pv 6) (pa_cons (pe_slice (show SlR _ (rSlL K) from sl_list) (pv 3) po_none (po_some pe_int)) pa_nil)))) pk_nil)))) (pw_or1 (pt_not (pt_val (asPE (tCall3 2 0 _ _ _ _ _) (pe_call3 (ks := []) GLStands (hr.mono (by decide)) (by rfl) T.gLStands T.FLStands.kp kbLStands_2 (pass0S (fun cls d _ H => E cls d H)) (pa_cons (pv 2) (pa_cons (pv 6) pa_nil)) pk_nil))))))) (pss_one (ps_ret pe_bl)) pss_nil)
        (pss_one (ps_if (pt_not (pt_val (asPE (tCall3 2 0 _ _ _ _ _) (pe_call3 (ks := []) GLSame (hr.mono (by decide)) (by rfl) T.gLSame T.FLSame.kp kbLSame_2 (pass0S (fun cls d _ H => E cls d H)) (pa_cons (asPE (tCall3 4 0 _ _ _ _ _) (pe_call3 (ks := []) GLRefused (hr.mono (by decide)) (by rfl) T.gLRefused T.FLRefused.kp kbLRefused_4 (pass0S (fun cls d _ H => E cls d H)) (pa_cons (pv 2) (pa_cons (pe_op op_add pe_int (asPE (tCall3 2 0 _ _ _ _ _) (pe_call3 (ks := []) GLTake (hr.mono (by decide)) (by rfl) T.gLTake T.FLTake.kp kbLTake_2 (pass0S (fun cls d _ H => E cls d H)) (pa_cons (pv 0) (pa_cons pe_int pa_nil)) pk_nil))) (pa_cons (pe_ix (show IxR _ (rIx K) from ix_seq) (pv 3) pe_int (fun _ _ => rfl)) (pa_cons pe_int pa_nil)))) pk_nil)) (pa_cons (pe_tup (pa_cons pe_str (pa_cons (pe_ix (show IxR _ (rIx K) from ix_seq) (pv 3) pe_int (fun _ _ => rfl)) pa_nil))) pa_nil)) pk_nil)))) (pss_one (ps_ret pe_bl)) pss_nil))))
        (pss_one (ps_ret (pe_and (pe_cmpR (opEqA (K := K) rfl hr.units) (pe_glob (v := .int 8) (by rfl) T.c_MACHINES.choose_spec ⟨_, rfl⟩) pe_int (nomark _)) (pe_one (asPE (tCall3 2 0 _ _ _ _ _) (pe_call3 (ks := []) GLStands (hr.mono (by decide)) (by rfl) T.gLStands T.FLStands.kp kbLStands_2 (pass0S (fun cls d _ H => E cls d H)) (pa_cons (pv 2) (pa_cons (pv 6) pa_nil)) pk_nil))))))))))), ?_⟩
  refine body3 h (fun ps μ Ψ Ξ hw hl => ?_)
  obtain ⟨n, rfl, rfl, hn, q⟩ := hw
  have sz : sizeLine = 16777216 := by decide
  refine ⟨⟨rfl, rfl, rfl⟩, [], [], .refl _, ⟨by omega, by decide, by decide⟩, fun v v0 v9 => ?_⟩
  have v9 : v < 9 := v9
  refine ⟨⟨rfl, rfl, rfl⟩, [], [], .refl _, ⟨by omega, by decide, by decide⟩, fun u u0 u3 => ⟨by show 3 ≤ sizeLine; decide, ?_⟩⟩
  have u3 : u < 3 := u3
  refine ⟨⟨rfl, rfl, rfl⟩, [], [], .refl _, ⟨by omega, by decide, by decide⟩, fun r r0 r3 => ?_⟩
  have r3 : r < 3 := r3
  obtain ⟨td, T, etd, T0, T8, htd⟩ : ∃ (td : Dt) (T : Int), atI [.non, .int v, .int (1 + u)] r = some td ∧ 0 ≤ T ∧ T ≤ 8 ∧ ((td = .non ∧ T = 8) ∨ td = .int T) := by
    have hr : r = 0 ∨ r = 1 ∨ r = 2 := by omega
    rcases hr with rfl | rfl | rfl
    · exact ⟨.non, 8, rfl, by decide, by decide, .inl ⟨rfl, rfl⟩⟩
    · exact ⟨.int v, v, rfl, by omega, by omega, .inr rfl⟩
    · exact ⟨.int (1 + u), 1 + u, rfl, by omega, by omega, .inr rfl⟩
  refine ⟨td, etd, ?_⟩
  rcases htd with ⟨rfl, rfl⟩ | rfl
  case' inl => refine ⟨rfl, ⟨rfl, rfl⟩, "Book", rfl, fun b => ⟨rfl, [], [], .refl _, b, 9, 8, rfl, rfl, by decide, by decide, ?_⟩⟩
  case' inr => refine ⟨rfl, ⟨rfl, rfl⟩, "Book", rfl, fun b => ⟨rfl, [], [], .refl _, b, 9, T, rfl, rfl, T0, by omega, ?_⟩⟩
  all_goals
    refine ⟨rfl, n + 1 + 1 + 1, 11, rfl, by omega, by decide, by decide, fun ls m1 z gls l11 nd lz hm1 => ?_⟩
    have l11 : ls.length = 11 := by omega
    refine ⟨⟨rfl, rfl⟩, fun j acc ρ => acc = ((N60 ls).take j).map nD ∧ j ≤ 11 ∧ ρ = [.box m1, _, .dat (.adr b), .dat (.lst (ls.map nD)), .un, .un, .un, .un], ⟨rfl, by omega, rfl⟩, ?_, ?_⟩
    · rintro j acc ρ d hd ⟨rfl, hj, rfl⟩
      obtain ⟨y, hy, rfl⟩ := enumD_at hd
      rw [List.getElem?_map] at hy
      obtain ⟨l, hl, rfl⟩ := Option.map_eq_some_iff.mp hy
      have hlt := (List.getElem?_eq_some_iff.mp hl).1
      have gl := gls l (List.mem_of_getElem? hl)
      have hN := N60_at hl (by omega : j < 11)
      have gi := gl.hi
      have ln : (nm l).length = l.length := nm_len l
      have ej : ((N60 ls).take (j + 1)).map nD = ((N60 ls).take j).map nD ++ [nD (qn j l)] := by rw [take_at hN, List.map_append]; rfl
      have la : (((N60 ls).take j).map nD).length < sizeLine := by rw [List.length_map, List.length_take]; omega
      refine ⟨rfl, .int (if j % 2 = 1 ∧ l.length < 4 then 1 else 0), ?_, ?_⟩
      · by_cases c : ((0 + j : Nat) : Int) % 2 = 1
        · refine ⟨(show (0 : Int) < 2 by decide), ifT (eqSame c) ⟨by rw [ln]; omega, ?_, rfl⟩⟩
          by_cases c4 : l.length < 4
          · have a1 : decide (((nm l).length : Int) < 4) = true := decide_eq_true (by rw [ln]; omega)
            have a2 : j % 2 = 1 ∧ l.length < 4 := ⟨by omega, c4⟩
            rw [if_pos a1, if_pos a2]
          · have a1 : ¬ decide (((nm l).length : Int) < 4) = true := fun z => c4 (by have := of_decide_eq_true z; rw [ln] at this; omega)
            have a2 : ¬ (j % 2 = 1 ∧ l.length < 4) := fun z => c4 z.2
            rw [if_neg a1, if_neg a2]
        · refine ⟨(show (0 : Int) < 2 by decide), ifF (eqDiff c) ⟨?_, rfl⟩⟩
          have a2 : ¬ (j % 2 = 1 ∧ l.length < 4) := fun z => c (by have := z.1; omega)
          rw [if_neg a2]
          rfl
      · by_cases h : j % 2 = 1 ∧ l.length < 4
        · rw [if_pos h]
          refine ⟨.inr rfl, by show (nm l).length + 1 ≤ sizeLine; omega, rfl, la, ?_, by omega, rfl⟩
          rw [ej]
          have e2 : qn j l = l ++ [16] := if_pos h
          rw [e2]
          show _ ++ [Dt.str (nm l ++ ("q" : Str))] = _ ++ [Dt.str (nm (l ++ [16]))]
          rw [← nm_app]
          rfl
        · rw [if_neg h]
          refine ⟨.inl rfl, by show (nm l).length + 0 ≤ sizeLine; omega, rfl, la, ?_, by omega, rfl⟩
          rw [ej]
          have e2 : qn j l = l := if_neg h
          rw [e2]
          show _ ++ [Dt.str (nm l ++ Str.empty)] = _ ++ [Dt.str (nm l)]
          have e3 : nm l ++ Str.empty = nm l := by
            show (⟨(nm l).cps ++ #[]⟩ : Str) = nm l
            rw [Array.append_empty]
          rw [e3]
    · rintro acc ρ ⟨rfl, -, rfl⟩
      have nN : (N60 ls).length = 11 := by unfold N60; rw [List.length_map, List.length_range]
      rw [enumD_len, List.length_map, l11, List.take_of_length_le (by omega)]
      refine ⟨rfl, rfl, ⟨rfl, rfl, rfl⟩, [], _, .refl _, 9, _, rfl, rfl, fun w => ?_⟩
      refine ⟨⟨rfl, rfl, rfl⟩, [], _, .refl _, ⟨by omega, by decide, by decide⟩, fun c c0 c21 => ?_⟩
      have c21 : c < 21 := c21
      first | generalize slotOf (Ro.dat (Dt.int T)) = y | generalize slotOf (Ro.dat Dt.non) = y
      refine ⟨by omega, by omega, fun t ρ μ => ∃ (B : Bk) (W : Wo) (m : Int), St B W ∧ B.gv ≤ (t : Nat) ∧ B.most ≤ 8 ∧ (∀ s ∈ kks B.es, ∃ l ∈ (N60 ls).take 10, s = .inr (nm l)) ∧ m ≤ m1 + 1 + 20 * (t : Nat) ∧ ρ = [.box m, y, .dat (.adr b), .hot ((N60 ls).map nD), .un, .un, .dat (.adr w), .un] ∧ μ = [(b, .pk (bkI B)), (w, .pk (woI W))], To3.by_ (Ent.pick (is := [1, 0]) rfl : Ent _ ([_, _] ++ _)) ⟨Bk.new 9 _, ⟨9, _, 0, 1, []⟩, m1 + 1, ⟨Bk.new_ok ?_ ?_, rfl, rfl, rfl, rfl, rfl, fun x h => nomatch h⟩, Int.le_refl _, ?_, (fun s h => nomatch h), by omega, rfl, rfl⟩ (by get_elem_tactic_trivial), ?_, ?_⟩
      · omega
      · omega
      · first | exact T8 | exact Int.le_refl _
      · rintro t ρ μ d hd ⟨B, W, m, S, gv, bm, kn, hm, rfl, rfl⟩
        obtain ⟨ht, rfl⟩ := rng_at hd
        have tu : (t : Int) < 20 + c := by omega
        have gl10 : cutD ((N60 ls).map nD) none (some 10) = ((N60 ls).take 10).map nD := by rw [cut_take (by decide), List.map_take]; rfl
        obtain ⟨l, hl⟩ : ∃ l, ls[10]? = some l := ⟨_, List.getElem?_eq_getElem (by omega)⟩
        have hl10 : (N60 ls)[10]? = some l := by
          have z := N60_at hl (by decide : 10 < 11)
          rwa [show qn 10 l = l from if_neg (fun z => absurd z.1 (by decide))] at z
        have n10 : ((N60 ls).take 10).length = 10 := by rw [List.length_take]; omega
        refine ⟨⟨rfl, rfl, rfl⟩, [_, _], [], Ent.app0, m, b, w, B, W, (N60 ls).take 10, by rw [← gl10]; rfl, rfl, by omega, S, by omega, by omega, (fun z => by rw [z] at n10; cases n10), by omega, (fun x hx => N60_gd l11 gls x (List.mem_of_mem_take hx)), fun B' W' m' S' gv' bm' kn' hm' => ?_⟩
        have kn2 : ∀ s ∈ kks B'.es, ∃ l ∈ (N60 ls).take 10, s = .inr (nm l) := fun s h => by
          rcases kn' s h with z | z
          · exact kn s z
          · exact z
        refine ⟨⟨rfl, rfl, rfl⟩, [_, _], [], Ent.app0, b, w, B', W', rfl, rfl, S', by omega, by omega, (fun x hx => ?_), ?_⟩
        · obtain ⟨l2, h2, e2⟩ := kn2 x.2.1 (List.mem_map.mpr ⟨x, hx, rfl⟩)
          exact ⟨l2, e2, N60_gd l11 gls l2 (List.mem_of_mem_take h2)⟩
        refine ⟨⟨rfl, rfl, rfl⟩, [], _, .refl _, ⟨by omega, by decide, by decide⟩, fun g g0 g6 => ?_⟩
        have g6 : g < 6 := g6
        have at10 : atI ((N60 ls).map nD) 10 = some (nD l) := atI_nat (j := 10) (by rw [List.getElem?_map, hl10]; rfl)
        have nin : (Sum.inr (nm l) : Key) ∉ kks B'.es := fun z => by
          obtain ⟨l2, h2, e2⟩ := kn2 _ z
          exact N60_ne nd l11 lz hl l2 h2 (nm_inj (Sum.inr.inj e2)).symm
        have nl0 : Nice 0 10 (nD l) := (nice_nm (gls l (List.mem_of_getElem? hl))).mono (by decide) (by decide)
        obtain ⟨pu, dp, wd⟩ := (nice_tw (x := "unknown") (by decide +kernel) (by decide +kernel) nl0).same (k := 6) (by decide) (by decide)
        refine ⟨nD l, at10, ⟨rfl, rfl, rfl⟩, [_], _, .refl _, b, B', nm l, 1 + g, rfl, rfl, by omega, .inr (.inr (.inr ⟨by omega, by omega, nin, ?_⟩))⟩
        refine ⟨nD l, at10, by show 2 ≤ sizeLine; decide, ⟨rfl, rfl, rfl⟩, [], _, .refl _, _, _, rfl, rfl, pu, dp, wd, ?_⟩
        exact To3.by_ (.refl _) ⟨B', W', m' + 1, S', by omega, by omega, kn2, by omega, rfl, rfl⟩ (by get_elem_tactic_trivial)
      · rintro ρ μ ⟨B, W, m, S, gv, bm, kn, hm, rfl, rfl⟩
        rw [rng_len] at hm gv
        refine ⟨⟨rfl, rfl, rfl⟩, [_, _], [], Ent.app0, b, w, B, W, rfl, rfl, S, by omega, by omega, (fun x hx => ?_), ?_⟩
        · obtain ⟨l2, h2, e2⟩ := kn x.2.1 (List.mem_map.mpr ⟨x, hx, rfl⟩)
          exact ⟨l2, e2, N60_gd l11 gls l2 (List.mem_of_mem_take h2)⟩
        exact ⟨_, .nil, q m (by omega)⟩
end
section
variable {P : Program} {w : World} {K : PySem.W.Frag} {mg : Str → Option Value} {base : Heap}
local macro_rules | `(tactic| get_elem_tactic_trivial) => `(tactic| (repeat first | exact Wk.nil | exact Wk'.nil | refine Wk.same ?_ | refine Wk'.same ?_ | refine Wk.un (fun _ z => nomatch z) ?_ | refine Wk'.un ?_))
theorem bls_reps : ∀ n : Nat, bls (List.replicate n (Dt.bl true)) = some (List.replicate n true)
  | 0 => rfl
  | n + 1 => by
    rw [List.replicate_succ, List.replicate_succ]
    show (match bls (List.replicate n (Dt.bl true)) with | some bs => some (true :: bs) | none => none) = _
    rw [bls_reps n]
theorem all_reps (n : Nat) : (List.replicate n true).all id = true := List.all_eq_true.mpr fun b hb => (List.mem_replicate.mp hb).2
end
section
variable {P : Program} {w : World} {K : PySem.W.Frag} {mg : Str → Option Value} {base : Heap}
local macro_rules | `(tactic| get_elem_tactic_trivial) => `(tactic| (repeat first | exact Wk.nil | exact Wk'.nil | refine Wk.same ?_ | refine Wk'.same ?_ | refine Wk.un (fun _ z => nomatch z) ?_ | refine Wk'.un ?_))
/-! the law -/
def wLaw3 : W3F := fun ps μ Ψ _ => ∃ ns : List Int, ps = [.dat (.scr ns)] ∧ μ = [] ∧ ns.length ≤ 63 ∧ Ψ (.dat (.bl true)) ps []
theorem law_sp3 {vs : List V} {H : Hp} {Q : VK} {E : XK} (h : spLawD K vs H Q E) : sp3 K 1 wLaw3 vs H Q E := by
  obtain ⟨l, C, bx, ps, Ψ0, S, hw, k⟩ := h
  match ps, S, hw with
  | [.dat (.scr ns)], S, hw =>
    refine ⟨l, C, fun _ => none, bx, _, [], [], fun r ps' _ => r = .dat (.bl true) ∧ ps' = [.dat (.scr ns)], fun _ _ _ _ => False, S, rfl, ⟨.nil, fun a f h => (nomatch h), fun a o h => (nomatch h), fun a o h => (nomatch h)⟩, fun a o h => (nomatch h), ⟨ns, rfl, rfl, hw.1, rfl, rfl⟩, fun C' G v r ps' μ' ok e => ?_, fun _ _ _ _ _ _ _ _ _ _ z => z.elim⟩
    obtain ⟨rfl, rfl⟩ := e
    obtain ⟨⟨m, e, U, M, S'⟩, rp⟩ := ok
    have eB : subU H (fun _ => none) = H := funext fun a => subU_off rfl
    have S2 := S'.unhang M
    rw [eB] at S2
    exact k C' G v (.dat (.bl true)) _ S2 rp hw.2

theorem Tx.kbLRight_1 {K : PySem.W.Frag} {mg : Str → Option Value} (T : Tx K mg) : ∃ g : List Value → List Value → List Value, KBn K T.fdLRight ["_law_box_here"] 1 [] g (gB [0] []) := kbAllN T.FLRight 1 [] [0] fun kV doc pm an cdv ct us ws h1 h2 => match us, ws, h1, h2 with
  | [u0], [], _, _ => rfl
theorem okLaw (T : Tx K mg) : FnOk P w K mg base CX0 11 (He.ga K "law") T.fdLaw ["_law_script"] (spLawD K) := by
  have B := T.B
  have GLRight : FnOk P w K mg base CX0 10 (He.ga K "_law_right") T.fdLRight ["_law_box_here"] (sp3 K 1 wRight60) := okLRight T
  have bLRight := T.bLRight
  have GLBox : FnOk P w K mg base CX0 1 (He.ga K "_law_box") T.fdLBox ["_law_script", "_law_k"] (spLBox K) := okLBox T
  have bLBox := T.bLBox
  obtain ⟨_, kbLRight_1⟩ := T.kbLRight_1
  refine T.FLaw.ok scLaw (fun vs H Q E h => h.1) (fun cdv A outer s H vs Q E hr h => ?_)
  refine ⟨_, PSs.nox (pss_one (ps_ret (pe_callB (show CallR _ _ (rAll K) from cr_all rfl) (by rfl) B.b_all boot_all (pa_cons (pe_lc (own := [("_law_k", 1)]) (g := gName 1) (tt := tYes) (by rfl) scLaw.nd (pi_range1 (by rfl) B.b_range (pa_cons (pe_op op_add pe_int (pe_callB (show CallR _ _ cMin2 from call_min2 rfl) (by rfl) B.b_min boot_min (pa_cons pe_int (pa_cons (pe_callB (show CallR _ _ (rLen K) from call_len) (by rfl) B.b_len PySem.boot_len (pa_cons (pv 0) pa_nil)) pa_nil)))) pa_nil)) (blkOk_by (own := [("_law_k", 1)]) (N := ["_law_script", "_law_k"]) (sc := defScope sLaw) (by decide +kernel)) (fun _ _ _ _ _ => by exact (pg_name (i := 1) scLaw.nd rfl (Or.inl rfl))) (fun _ _ _ _ _ => pts_nil) (fun _ _ _ _ _ => (asPE (tCall3 1 0 _ _ _ _ _) (pe_call3 (ks := []) GLRight (hr.mono (by decide)) (by rfl) T.gLRight T.FLRight.kp kbLRight_1 (pass0S (fun cls d _ H => E cls d H)) (pa_cons (pe_call GLBox (hr.mono (by decide)) (by rfl) T.gLBox T.FLBox.kp bLBox .nil pass0 (pa_cons (pv 0) (pa_cons (pv 1) pa_nil))) pa_nil) pk_nil)))) pa_nil)))), ?_⟩
  refine body3 (law_sp3 h) (fun ps μ Ψ Ξ hw hl => ?_)
  obtain ⟨ns, rfl, rfl, lns, q⟩ := hw
  have sz : sizeLine = 16777216 := by decide
  refine ⟨by omega, ?_⟩
  obtain ⟨c, ec, c0, c5⟩ : ∃ c : Int, (1 + if (ns.length : Int) < 4 then (ns.length : Int) else 4) = c ∧ 0 ≤ c ∧ c ≤ 5 := ⟨_, rfl, by split <;> omega, by split <;> omega⟩
  rw [ec]
  refine ⟨by omega, ⟨rfl, rfl⟩, fun j acc ρ μ => acc = List.replicate j (.bl true) ∧ j ≤ 5 ∧ ρ = [.dat (.scr ns), .un] ∧ μ = [], ⟨rfl, Nat.zero_le _, rfl, rfl⟩, ?_, ?_⟩
  · rintro j acc ρ μ d hd ⟨rfl, hj, rfl, rfl⟩
    obtain ⟨hj2, rfl⟩ := rng_at hd
    refine ⟨⟨by omega, by omega⟩, [], [], .refl _, 0, rfl, rfl, by decide, fun m hm => ⟨⟨_, rfl⟩, ?_⟩⟩
    refine ⟨rfl, by rw [List.length_replicate]; omega, ?_, by omega, rfl, rfl⟩
    rw [List.replicate_succ']
    rfl
  · rintro acc ρ μ ⟨rfl, -, rfl, rfl⟩
    refine ⟨rfl, _, bls_reps _, ?_⟩
    rw [all_reps]
    exact ⟨_, .refl _, q⟩
end
section
variable {P : Program} {w : World} {K : PySem.W.Frag} {mg : Str → Option Value} {base : Heap}
local macro_rules | `(tactic| get_elem_tactic_trivial) => `(tactic| (repeat first | exact Wk.nil | exact Wk'.nil | refine Wk.same ?_ | refine Wk'.same ?_ | refine Wk.un (fun _ z => nomatch z) ?_ | refine Wk'.un ?_))


end
end Sl
open PySem PySem.W PySem.Calls PyProof.Rows
set_option maxRecDepth 100000 in
set_option maxHeartbeats 0 in
theorem PySem.Challenge.cw_startlog_k60_machines_known_holds : PySem.Challenge.rw_startlog_k60_machines_known.Holds := by
  w_on; o_law
  refine HandSHeadRun.head_any (r := OpenLaw.row PySem.Challenge.rw_startlog_k60_machines_known) (q := view (OpenLaw.row PySem.Challenge.rw_startlog_k60_machines_known).prog [40]) (H := Sl.hk) (ob := Sl.hob) (M := 8000) (loose := Sl.hloose) (d := HandSHeadRun.topDef (OpenLaw.row PySem.Challenge.rw_startlog_k60_machines_known).prog 40) (kwd := []) Sl.hob_eq
    (by kernel_rfl) (fun s => by kernel_rfl) Sl.hrun (by kernel_rfl) (by kernel_rfl) (by kernel_rfl) (by rfl) (by first | assumption | decide +kernel) (by decide +kernel) ⟨rfl, rfl, rfl, rfl, rfl, by decide +kernel⟩ ?hw ?hc
  case hw => w_witness2
  case hc =>
    refine L2.walk_ofE (l := PySem.Challenge.rw_startlog_k60_machines_known) (n := 63) (k := 11) (x := "_law_script") (CX := L2.CX0) rfl (by decide) (by kernel_rfl) ⟨rfl, by decide, by decide⟩ ?F (fun _ _ _ _ z => z)
    intro w mg fa h Y G hmg0
    obtain ⟨K, KX, c, cx⟩ := Y
    have hmg : mg ("law" : PySem.Str) = some (.ref fa) := by
      have e : (HandSHeadRun.topDef (OpenLaw.row PySem.Challenge.rw_startlog_k60_machines_known).prog 40).name = ("law" : PySem.Str) := by kernel_rfl
      rw [← e]
      exact hmg0
    obtain ⟨T, _⟩ := Sl.tx_of KX G c cx
    have e := hmg.symm.trans T.gLaw
    cases e
    exact ⟨K, T.fdLaw, Sl.spLawD K, KX, fun s v => L2.FunD.bindsA (ps := ["_law_script"]) T.FLaw (fun _ _ _ _ _ _ us hl => match us, hl with | [_], _ => rfl) s [v] rfl, fun H a ns hl _ hS => Sl.law_imp hl hS, fun base _ _ => Sl.okLaw T⟩
