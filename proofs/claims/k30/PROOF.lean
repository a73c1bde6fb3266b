import PyProof.Rows.All
import Wide.All
import OpenK.AllK
import Wide.FinOn
import KE.KStateDown
import Lean
import HandS.ForMost
import HandS.More
import HandS.WordsExc
import HandS.IsInst
import HandS.Defaults
import HandS.MakeKwOnly
import HandS.Walk
import HandS.Zip
import HandS.Replace
import HandS.Style
import HandS.Flow
import HandS.Strs
import HandS.Wide
import HandS.WideBits
import HandS.Head0
import HandS.Head1
import HandS.Head2
import HandS.HeadEnd
import HandS.HeadHook1
import HandS.HeadHook2
import HandS.RaiseMore
import HandS.Deep
import HandS.TupAny
import KE.GoesMore
import HandS.SetFor
import PyProof.Rows.SetFrom
import PyProof.Rows.SortShell
import PyProof.Rows.SortStr
import PyProof.Rows.SortShellK
import KE.GoesNew
import KE.GoesEnum
import HandS.TupMul
import HandS.Star
import PyProof.Rows.StrInSeq3
import HandS.ExcInit
import HandS.ExcIs
import HandS.ExcField
import KE.KExcIs
import HandS.ExcCtx
import HandS.SuiteRaise
import HandS.RaiseFrom
import HandS.ExcInitHot
import HandS.CallSlots
import HandS.Conv
import HandS.Small
import HandS.DictComp
import HandS.ListItems
import HandS.Finally
import HandS.TryMany
import HandS.FStr
import HandS.NoneIn
import PyProof.DictUpdate
import KE.KItemsList
import PyProof.EnumMake
import PyProof.ListNew
import PySem.Challenge.RW_startlog_k30_hands_made_and_refused
set_option Elab.async false
set_option synthInstance.maxHeartbeats 0
set_option synthInstance.maxSize 100000
set_option linter.all false
set_option maxRecDepth 100000
set_option maxHeartbeats 4000000
namespace Sl
open PySem PySem.Spec PyProof.Rows L2
section
variable {P : Program} {w : World} {K : PySem.W.Frag} {mg : Str → Option Value} {base : Heap}
def obsE (n : Nat) (fa : List He.Fa) (fn : List He.DefD) (ex : PySem.W.Frag → Bool) (g : Addr → Option Obj) : He.AlD × Bool := (He.obsD fa fn (He.frG g (He.asD g n)), ex (He.frG g (He.asD g n)))
def hookE (n : Nat) (fa : List He.Fa) (fn : List He.DefD) (ex : PySem.W.Frag → Bool) : PySem.W.Hook where
  α := He.AlD × Bool
  obs := fun s => obsE n fa fn ex s.heap.get?
  val := fun _ => (He.valD fn, true)
  says := fun _ h => ∃ K : PySem.W.Frag, K.In h ∧ He.SaysD fa fn K ∧ ex K = true
  of := fun _ _ e => ⟨_, He.frG_in, congrArg Prod.fst e, congrArg Prod.snd e⟩
  keeps := fun _ _ _ ⟨K, hK, c⟩ k => ⟨K, PySem.W.Frag.In.keeps hK k, c⟩
def oexB (K : PySem.W.Frag) (C : Addr) : Bool := match K.lookup C with
  | some ⟨.type "type", _, .cls cd, sl⟩ => (match cd.mro, sl.toList with
    | .ref D :: bm, [_, _, _, _, some (.builtin n), _] => (D == C) && ((n == "ValueError.__new__") && ((!cd.hasDel) && (cd.hasDict && PySem.HandSPX.refsVE bm)))
    | _, _ => false)
  | _ => false
def eclB (K : PySem.W.Frag) (C fI : Addr) : Bool := oexB K C && (He.eqO (PySem.W.findIn K (.ref C) "__setattr__") (some (some (.builtin "object.__setattr__"))) && (decide (PySem.W.subIn K (.ref C) (.type "BaseException") = some true) && (decide (PySem.W.typeIn K (.ref C) = some (.type "type")) && (PySem.W.keepIn K (.ref C) &&
  (He.eqO (PySem.W.findIn K (.ref C) "__getattribute__") (some (some (.builtin "BaseException.__getattribute__"))) && (He.eqO (PySem.W.findIn K (.ref C) "__getattr__") (some none) && (PySem.W.hasDictIn K C && (He.eqO (PySem.W.findIn K (.ref C) "__class__") (some (some (.builtin "object.__class__"))) &&
  (He.eqO (PySem.W.specialIn K (.builtin "object.__class__") "__get__") (some (some (.builtin "getset_descriptor.__get__"))) && (decide (PySem.W.takesIn K (.builtin "object.__class__") = some true) && (decide (PySem.W.mroIn K C (.type "object") = some true) && (He.eqO (PySem.W.findIn K (.ref C) "what") (some none) &&
  (He.eqO (PySem.W.findIn K (.ref C) "__init__") (some (some (.ref fI))) && decide (PySem.W.typeIn K (.ref fI) = some (.type "function")))))))))))))))
def errOk (K : PySem.W.Frag) (root : Str) (cs : List Str) : Bool := cs.all fun c => eclB K (He.ga K c) (He.ma K (He.ga K root) "__init__") && (decide (PySem.W.kitOne K (.ref (He.ga K c)) (.type "ValueError") = some true) &&
  cs.all fun e => decide (PySem.W.kitOne K (.ref (He.ga K c)) (.ref (He.ga K e)) = some (decide (e = c) || decide (e = root))) && decide (PySem.W.subIn K (.ref (He.ga K c)) (.ref (He.ga K e)) = some (decide (e = c) || decide (e = root))))
def neD (K : PySem.W.Frag) (c : Str) : Bool := (PySem.W.findIn K (.ref (He.ga K c)) "__ne__" == some (some (.builtin "object.__ne__"))) && (PySem.W.subIn K (.ref (He.ga K c)) (.type "object") == some true) &&
  (PySem.W.findIn K (.ref (He.ga K c)) "__class__" == some (some (.builtin "object.__class__"))) && (PySem.W.specialIn K (.builtin "object.__class__") "__get__" == some (some (.builtin "getset_descriptor.__get__"))) &&
  (PySem.W.takesIn K (.builtin "object.__class__") == some true) && (PySem.W.mroIn K (He.ga K c) (.type "object") == some true)
def kda (K : PySem.W.Frag) (p : Str × Option Str) (x : Str) : Addr := match K.lookup (He.fAd K p) with
  | some o => (match o.data with
    | .func fd => (match fd.kwdefaults with
      | .ref D => (match PySem.W.nsIn K D x with
        | some (some (.ref a)) => a
        | _ => 0)
      | _ => 0)
    | _ => 0)
  | none => 0
def tupA (K : PySem.W.Frag) (a : Addr) : Bool := match K.lookup a with
  | some o => (match o.cls with
    | .type c => decide (c = "tuple")
    | _ => false) && (match o.data with
    | .seq its _ => decide (its.size = 0)
    | _ => false)
  | none => false
def IK : List String := ["NoneType", "bool", "int", "str", "list", "tuple"]
def isoD (K : PySem.W.Frag) (c : Str) : Bool := IK.all fun s => PySem.W.kitOne K (.type s) (.ref (He.ga K c)) == some false
def top (i : Nat) : Stmt := PySem.Challenge.pw_startlog_k30_hands_made_and_refused.main.body.getD i (.Pass ⟨0, 0, 0, 0⟩)
abbrev sIsNumber : Stmt := top 5
abbrev sIsWithin : Stmt := top 6
abbrev sMeasure : Stmt := top 11
abbrev sIsName : Stmt := top 15
abbrev sIsPlacedBody : Stmt := top 20
abbrev sAreLoads : Stmt := top 21
abbrev sAreLies : Stmt := top 22
abbrev sTrueNotes : Stmt := top 23
abbrev sLBox : Stmt := top 26
abbrev sLTake : Stmt := top 27
abbrev sLPick : Stmt := top 28
abbrev sLFolded : Stmt := top 29
abbrev sLNames : Stmt := top 30
abbrev sLSame : Stmt := top 31
abbrev sLFields : Stmt := top 32
abbrev sLIsNumber : Stmt := top 33
abbrev sLIsName : Stmt := top 34
abbrev sLTriples : Stmt := top 35
abbrev sLDue : Stmt := top 36
abbrev sLOddPart : Stmt := top 37
abbrev sLTold : Stmt := top 38
abbrev sLGood : Stmt := top 39
abbrev sLRight : Stmt := top 40
abbrev sLaw : Stmt := top 41
abbrev sHandInit : Stmt := inClass (top 24) 0
abbrev sHandNotes : Stmt := inClass (top 24) 1
abbrev sHandEq : Stmt := inClass (top 24) 2
abbrev sHandStr : Stmt := inClass (top 24) 3
abbrev sStartErrorInit : Stmt := inClass (top 1) 0
def ERRS : List Str := ["StartError", "BadHand", "BadMachine"]
def ddIsNumber : He.DefD := ⟨("is_number", none), "is_number", "is_number", defArgs sIsNumber, defBody sIsNumber, defScope sIsNumber, [], []⟩
def ddIsWithin : He.DefD := ⟨("is_within", none), "is_within", "is_within", defArgs sIsWithin, defBody sIsWithin, defScope sIsWithin, [], []⟩
def ddMeasure : He.DefD := ⟨("measure", none), "measure", "measure", defArgs sMeasure, defBody sMeasure, defScope sMeasure, [], []⟩
def ddIsName : He.DefD := ⟨("is_name", none), "is_name", "is_name", defArgs sIsName, defBody sIsName, defScope sIsName, [], []⟩
def ddIsPlacedBody : He.DefD := ⟨("is_placed_body", none), "is_placed_body", "is_placed_body", defArgs sIsPlacedBody, defBody sIsPlacedBody, defScope sIsPlacedBody, [], []⟩
def ddAreLoads : He.DefD := ⟨("are_loads", none), "are_loads", "are_loads", defArgs sAreLoads, defBody sAreLoads, defScope sAreLoads, [], []⟩
def ddAreLies : He.DefD := ⟨("are_lies", none), "are_lies", "are_lies", defArgs sAreLies, defBody sAreLies, defScope sAreLies, [], []⟩
def ddTrueNotes : He.DefD := ⟨("true_notes", none), "true_notes", "true_notes", defArgs sTrueNotes, defBody sTrueNotes, defScope sTrueNotes, [], []⟩
def ddLBox : He.DefD := ⟨("_law_box", none), "_law_box", "_law_box", defArgs sLBox, defBody sLBox, defScope sLBox, [], []⟩
def ddLTake : He.DefD := ⟨("_law_take", none), "_law_take", "_law_take", defArgs sLTake, defBody sLTake, defScope sLTake, [], []⟩
def ddLPick : He.DefD := ⟨("_law_pick", none), "_law_pick", "_law_pick", defArgs sLPick, defBody sLPick, defScope sLPick, [], []⟩
def ddLFolded : He.DefD := ⟨("_law_folded", none), "_law_folded", "_law_folded", defArgs sLFolded, defBody sLFolded, defScope sLFolded, [], []⟩
def ddLNames : He.DefD := ⟨("_law_names", none), "_law_names", "_law_names", defArgs sLNames, defBody sLNames, defScope sLNames, [], []⟩
def ddLSame : He.DefD := ⟨("_law_same", none), "_law_same", "_law_same", defArgs sLSame, defBody sLSame, defScope sLSame, [], []⟩
def ddLFields : He.DefD := ⟨("_law_fields", none), "_law_fields", "_law_fields", defArgs sLFields, defBody sLFields, defScope sLFields, [], []⟩
def ddLIsNumber : He.DefD := ⟨("_law_is_number", none), "_law_is_number", "_law_is_number", defArgs sLIsNumber, defBody sLIsNumber, defScope sLIsNumber, [], []⟩
def ddLIsName : He.DefD := ⟨("_law_is_name", none), "_law_is_name", "_law_is_name", defArgs sLIsName, defBody sLIsName, defScope sLIsName, [], []⟩
def ddLTriples : He.DefD := ⟨("_law_triples", none), "_law_triples", "_law_triples", defArgs sLTriples, defBody sLTriples, defScope sLTriples, [], []⟩
def ddLDue : He.DefD := ⟨("_law_due", none), "_law_due", "_law_due", defArgs sLDue, defBody sLDue, defScope sLDue, [], []⟩
def ddLOddPart : He.DefD := ⟨("_law_odd_part", none), "_law_odd_part", "_law_odd_part", defArgs sLOddPart, defBody sLOddPart, defScope sLOddPart, [], []⟩
def ddLTold : He.DefD := ⟨("_law_told", none), "_law_told", "_law_told", defArgs sLTold, defBody sLTold, defScope sLTold, [], []⟩
def ddLGood : He.DefD := ⟨("_law_good", none), "_law_good", "_law_good", defArgs sLGood, defBody sLGood, defScope sLGood, [], []⟩
def ddLRight : He.DefD := ⟨("_law_right", none), "_law_right", "_law_right", defArgs sLRight, defBody sLRight, defScope sLRight, [], []⟩
def ddLaw : He.DefD := ⟨("law", none), "law", "law", defArgs sLaw, defBody sLaw, defScope sLaw, [], []⟩
def ddHandInit : He.DefD := ⟨("Hand", some "__init__"), "__init__", "Hand.__init__", defArgs sHandInit, defBody sHandInit, defScope sHandInit, [], [("loads", .adr fun K => kda K ("Hand", some "__init__") "loads"), ("lies", .adr fun K => kda K ("Hand", some "__init__") "lies")]⟩
def ddHandNotes : He.DefD := ⟨("Hand", some "notes"), "notes", "Hand.notes", defArgs sHandNotes, defBody sHandNotes, defScope sHandNotes, [], []⟩
def ddHandEq : He.DefD := ⟨("Hand", some "__eq__"), "__eq__", "Hand.__eq__", defArgs sHandEq, defBody sHandEq, defScope sHandEq, [], []⟩
def ddHandStr : He.DefD := ⟨("Hand", some "__str__"), "__str__", "Hand.__str__", defArgs sHandStr, defBody sHandStr, defScope sHandStr, [], []⟩
def ddStartErrorInit : He.DefD := ⟨("StartError", some "__init__"), "__init__", "StartError.__init__", defArgs sStartErrorInit, defBody sStartErrorInit, defScope sStartErrorInit, [], []⟩
def hfn : List He.DefD := [ddIsNumber, ddIsWithin, ddMeasure, ddIsName, ddIsPlacedBody, ddAreLoads, ddAreLies, ddTrueNotes, ddLBox, ddLTake, ddLPick, ddLFolded, ddLNames, ddLSame, ddLFields, ddLIsNumber, ddLIsName, ddLTriples, ddLDue, ddLOddPart, ddLTold, ddLGood, ddLRight, ddLaw, ddHandInit, ddHandNotes, ddHandEq, ddHandStr, ddStartErrorInit]
def hfa : List He.Fa := [.free "ValueError", .free "repr", .free "len", .free "abs", .free "int", .free "isinstance", .free "list", .free "tuple", .free "str", .free "bool", .free "all", .free "zip", .free "range", .free "max", .free "min", .free "enumerate", .free "divmod", .free "sorted", .free "set", .free "any", .glo "is_number", .glo "is_within", .glo "measure", .glo "is_name", .glo "is_placed_body", .glo "are_loads", .glo "are_lies", .glo "true_notes", .glo "_law_box", .glo "_law_take", .glo "_law_pick", .glo "_law_folded", .glo "_law_names", .glo "_law_same", .glo "_law_fields", .glo "_law_is_number", .glo "_law_is_name", .glo "_law_triples", .glo "_law_due", .glo "_law_odd_part", .glo "_law_told", .glo "_law_good", .glo "_law_right", .glo "law", .int "NOTES" 9973, .int "TIMES" 48271, .int "MORE" 11, .str "LETTERS" "abcdefghijklmnopqrstuvwxyz", .int "LONGEST" 4, .int "MOST_BOARDS" 8, .int "GREATEST_BODY" 1000000, .int "MOST_LOADS" 3, .cls "Hand", .glo "Hand", .mkr "Hand", .noat "Hand" "name", .noat "Hand" "body", .noat "Hand" "loads", .noat "Hand" "lies", .meth "Hand" "notes", .meth "Hand" "__eq__", .meth "Hand" "__str__", .glo "StartError", .glo "BadHand", .glo "BadMachine"]
def hex (K : PySem.W.Frag) : Bool := errOk K "StartError" ERRS && neD K "Hand" && tupA K (kda K ("Hand", some "__init__") "loads") && tupA K (kda K ("Hand", some "__init__") "lies") && isoD K "Hand"
abbrev hR : PySem.W.OpenRow := PySem.W.OpenLaw.row PySem.Challenge.rw_startlog_k30_hands_made_and_refused
abbrev hk : PySem.W.Hook := hookE 5 hfa hfn hex
def hob (s : PySem.W.SharedT) : He.AlD × Bool := obsE 5 hfa hfn hex (HandSHeadRun.getT s)
def hloose0 : List Str := ["NOTES", "TIMES", "MORE", "LETTERS", "LONGEST", "MOST_BOARDS", "GREATEST_BODY", "MOST_LOADS", "StartError", "BadHand", "BadMachine", "Hand"]
def hloose1 : List Str := ["is_number", "is_within", "measure", "is_name", "is_placed_body", "are_loads", "are_lies", "true_notes", "_law_box", "_law_take", "_law_pick", "_law_folded"]
def hloose2 : List Str := ["_law_names", "_law_same", "_law_fields", "_law_is_number", "_law_is_name", "_law_triples", "_law_due", "_law_odd_part", "_law_told", "_law_good", "_law_right"]
def hloose : List Str := hloose0 ++ hloose1 ++ hloose2
theorem opt3 {α β γ δ : Type} {o : Option α} {f : α → β} {g : α → γ} {h : α → δ} {a : β} {b : γ} {c : δ} (ha : o.map f = some a) (hb : o.map g = some b) (hc : o.map h = some c) : o.map (fun s => (f s, g s, h s)) = some (a, b, c) := by
  cases o with
  | none => cases ha
  | some x =>
    cases ha
    cases hb
    cases hc
    rfl
section
open PySem PySem.W PySem.Calls PyProof.Rows HandSHeadRun
theorem hrunA (w : World) (os : OsState) : (endF (stepQ (denQ tabQ) hR.prog w) 8000 hR.prog w os).map (fun s => looksF hR.prog (boot_heap w.params) s.abs) = some true := by
  kernel_rfl
theorem hrunB (w : World) (os : OsState) : (endF (stepQ (denQ tabQ) hR.prog w) 8000 hR.prog w os).map (fun s => seenQ (PySem.W.view hR.prog [41]) hloose (importedModules hR.prog.main.body) (fun s => xlAt (PySem.W.view hR.prog [41]) [] s && recOk hR.toRowW.records s) s.abs) = some (openGood (PySem.W.view hR.prog [41]) hloose) := by
  kernel_rfl
theorem hrunC (w : World) (os : OsState) : (endF (stepQ (denQ tabQ) hR.prog w) 8000 hR.prog w os).map (fun s => hob s) = some (hk.val w) := by
  kernel_rfl
end
theorem hrun (w : World) : HandSHeadRun.RunEq hR (PySem.W.view hR.prog [41]) hk hob 8000 hloose w := by
  intro os
  exact opt3 (hrunA w os) (hrunB w os) (hrunC w os)
end
section
variable {P : Program} {w : World} {K : PySem.W.Frag} {mg : Str → Option Value} {base : Heap}

end
section
variable {P : Program} {w : World} {K : PySem.W.Frag} {mg : Str → Option Value} {base : Heap}
/-! what the head is asked for besides -/
theorem obsE_eq {n : Nat} {fa : List He.Fa} {fn : List He.DefD} {ex : PySem.W.Frag → Bool} {g : Addr → Option Obj} {s : Shared} (h : ∀ a, g a = s.heap.get? a) : obsE n fa fn ex g = (hookE n fa fn ex).obs s := by
  have e : g = s.heap.get? := funext h
  rw [e]
  rfl
/-! heaps -/
theorem same_new {H : Hp} {p : Addr} {o : HO} (h : H p = none) : Same H (upd H p o) := fun b x e => by
  rw [upd_ne (ne_of_none e h)]
  exact e
/-- all that was tracked is as it was, but for p -/
def But (p : Addr) (H G : Hp) : Prop := ∀ b o, H b = some o → b ≠ p → G b = some o
theorem But.upd {p : Addr} {H : Hp} {o : HO} : But p H (upd H p o) := fun b x e n => by
  rw [upd_ne n]
  exact e
/-- a box of draws at p, at most n of them by the second way -/
def Box (H : Hp) (p : Addr) (n : Int) : Prop := ∃ x y z : Int, H p = some (.lst [.int x, .int y, .int z]) ∧ 0 ≤ x ∧ 0 ≤ y ∧ y < 1099511627776 ∧ 0 ≤ z ∧ z ≤ n
theorem Box.same {H G : Hp} {p : Addr} {n : Int} (b : Box H p n) (s : Same H G) : Box G p n := by
  obtain ⟨x, y, z, e, h⟩ := b
  exact ⟨x, y, z, s _ _ e, h⟩
theorem seqL_but {K : PySem.W.Frag} {H G : Hp} {p a : Addr} {xs : List V} (s : But p H G) (h : SqL K H a xs) (n : a ≠ p) : SqL K G a xs := by
  rcases h with (h | ⟨o, h⟩) | h
  · exact .inl (.inl (s _ _ h n))
  · exact .inl (.inr ⟨o, s _ _ h n⟩)
  · exact .inr h
theorem seqT_same {K : PySem.W.Frag} {H G : Hp} {a : Addr} {xs : List V} (s : Same H G) (h : SqT K H a xs) : SqT K G a xs := by
  rcases h with (h | ⟨o, h⟩) | h
  · exact .inl (.inl (s _ _ h))
  · exact .inl (.inr ⟨o, s _ _ h⟩)
  · exact .inr h
theorem bit_lo (b : Bool) : -(2 ^ 64 : Int) < (if b = true then 1 else 0 : Int) := by cases b <;> decide
theorem bit_hi (b : Bool) : (if b = true then 1 else 0 : Int) < 2 ^ 64 := by cases b <;> decide
/-! kinds -/
theorem ty_list {K : PySem.W.Frag} {H : Hp} {a : Addr} {xs : List V} (h : SqL K H a xs) : TyX K H (.ref a) (.type "list") := by
  rcases h with (h | ⟨o, h⟩) | ⟨o, its, n, h1, h2, _⟩
  · exact .base (.lst h)
  · exact .base (.frz h)
  · exact .kList h1 h2
theorem ty_tup {K : PySem.W.Frag} {H : Hp} {a : Addr} {xs : List V} (h : SqT K H a xs) : TyX K H (.ref a) (.type "tuple") := by
  rcases h with (h | ⟨o, h⟩) | ⟨o, its, n, h1, h2, _⟩
  · exact .base (.tup h)
  · exact .fTuple h
  · exact .kTuple h1 h2
mutual
theorem dp_same {K : PySem.W.Frag} {H G : Hp} (s : Same H G) : ∀ (d : PyData) (v : V), Dp K H v d → Dp K G v d
  | .none, _, h => by cases h; exact .non
  | .bool b, _, h => by cases h; exact .bl b
  | .int i, _, h => by cases h; exact .int i
  | .str x, _, h => by cases h; exact .str x
  | .list ds, _, h => by
    cases h with
    | lst a b => exact .lst (s.seq a) (dps_same s ds _ b)
  | .tuple ds, _, h => by
    cases h with
    | tup a b => exact .tup (seqT_same s a) (dps_same s ds _ b)
  | .dict _, _, h => by cases h
theorem dps_same {K : PySem.W.Frag} {H G : Hp} (s : Same H G) : ∀ (ds : List PyData) (vs : List V), DpAll K H vs ds → DpAll K G vs ds
  | [], _, h => by cases h; exact .nil
  | d :: ds, _, h => by
    cases h with
    | cons a b => exact .cons (dp_same s d _ a) (dps_same s ds _ b)
end
theorem dpa_len {K : PySem.W.Frag} {H : Hp} : ∀ {vs : List V} {ds : List PyData}, DpAll K H vs ds → vs.length = ds.length
  | _, _, .nil => rfl
  | _, _, .cons _ t => congrArg Nat.succ (dpa_len t)
theorem dpa_at {K : PySem.W.Frag} {H : Hp} : ∀ {vs : List V} {ds : List PyData} {i : Nat} {v : V}, DpAll K H vs ds → vs[i]? = some v → ∃ d, ds[i]? = some d ∧ Dp K H v d
  | _, _, i, v, .nil, h => by simp at h
  | _, _, 0, v, .cons a t, h => by
    have e := Option.some.inj h
    subst e
    exact ⟨_, rfl, a⟩
  | _, _, i + 1, v, .cons a t, h => dpa_at (i := i) t h
/-- how deep a datum is -/
def dep : PyData → Nat
  | .list ds => deps ds + 1
  | .tuple ds => deps ds + 1
  | _ => 0
where deps : List PyData → Nat
  | [] => 0
  | d :: ds => max (dep d) (deps ds)
theorem deps_at : ∀ {ds : List PyData} {i : Nat} {d : PyData}, ds[i]? = some d → dep d ≤ dep.deps ds
  | [], i, d, h => by simp at h
  | c :: ds, 0, d, h => by
    have e := Option.some.inj h
    subst e
    exact Nat.le_max_left _ _
  | c :: ds, i + 1, d, h => Nat.le_trans (deps_at (i := i) (ds := ds) h) (Nat.le_max_right _ _)
/-- how wide it is, at most -/
def wid : PyData → Nat
  | .list ds => max ds.length (wids ds)
  | .tuple ds => max ds.length (wids ds)
  | _ => 0
where wids : List PyData → Nat
  | [] => 0
  | d :: ds => max (wid d) (wids ds)
theorem wids_at : ∀ {ds : List PyData} {i : Nat} {d : PyData}, ds[i]? = some d → wid d ≤ wid.wids ds
  | [], i, d, h => by simp at h
  | c :: ds, 0, d, h => by
    have e := Option.some.inj h
    subst e
    exact Nat.le_max_left _ _
  | c :: ds, i + 1, d, h => Nat.le_trans (wids_at (i := i) (ds := ds) h) (Nat.le_max_right _ _)
theorem small6 {n : Nat} (h : n < 1000000) : n < sizeLine := Nat.lt_of_lt_of_le h (by decide)
/-! a call by keywords alone -/
section
variable {X : Cx} {CX : CXT} {k : Nat} {f : Addr} {fd : FuncData} {ps ks : List Str} {sp : Sp} {E : XK} {x : Str} {p pos : Pos} {kws : List Keyword} {tk : TA} {g : List Value → List Value → List Value} {gV : List V → List V → List V}
end
/-! a call of a def without defaults by keywords -/
/-- lists of numbers as data -/
theorem dpa_ints {K : PySem.W.Frag} {H : Hp} : ∀ l : List Int, DpAll K H (l.map V.int) (l.map PyData.int)
  | [] => .nil
  | i :: l => .cons (.int i) (dpa_ints l)
/-- the two ways of a conditional expression joined: what either gives, P says -/
theorem ifx {c : Prop} [Decidable c] {ta tb : TE} {σ : L2.St} {H : Hp} {C : VK} (P : V → Hp → Prop) (h1 : c → ∀ C : VK, (∀ v G, P v G → C v G) → ta σ H C) (h2 : ¬ c → ∀ C : VK, (∀ v G, P v G → C v G) → tb σ H C) (k : ∀ v G, P v G → C v G) : if c then ta σ H C else tb σ H C := by
  by_cases h : c
  · rw [if_pos h]
    exact h1 h C k
  · rw [if_neg h]
    exact h2 h C k
/-! the drawer of numbers -/
def spLBox (K : PySem.W.Frag) : Sp := fun vs H Q _ => ∃ (a : Addr) (ns : List Int) (k : Nat), vs = [.ref a, .int k] ∧ SqL K H a (ns.map V.int) ∧ k ≤ 1000 ∧
  ∀ (p : Addr) (x y : Int), H p = none → 0 ≤ x → 0 ≤ y → y < 1099511627776 → Q (.ref p) (upd H p (.lst [.int x, .int y, .int 0]))
def spLTake : Sp := fun vs H Q _ => ∃ (p : Addr) (m n : Int), vs = [.ref p, .int m] ∧ Box H p n ∧ n < 1099511627776 ∧ 0 < m ∧ m < 340282366920938463463374607431768211456 ∧
  ∀ (r : Int) (G : Hp), But p H G → Box G p (n + 1) → 0 ≤ r → r < m → Q (.int r) G
theorem walk_zipT {K : PySem.W.Frag} {a b : Addr} {xs ys : List V} (hn : xs.length = ys.length) : Walk (RZ.ItzT K a b) xs.length (fun H => SqT K H a xs ∧ SqT K H b ys) (YPair (fun i => xs[i]?) (fun i => ys[i]?)) := by
  refine ⟨fun i _ hi q => ?_, fun _ q => ⟨xs, ys, q.1, q.2, by omega⟩, fun i H v H' _ q y => ?_⟩
  · have h2 : i < ys.length := by omega
    exact ⟨xs, ys, xs[i], ys[i], q.1, q.2, by simp [hi], by simp [h2]⟩
  · obtain ⟨T, x, z, h1, h2, h3, h4, h5⟩ := y
    exact ⟨T, x, z, h1, h2, h3, h4 xs q.1, h5 ys q.2⟩
theorem all_rep (n : Nat) : (List.replicate n true).all id = true := by
  induction n with
  | zero => rfl
  | succ n ih => rw [List.replicate_succ, List.all_cons, ih]; rfl
theorem kit_none (K : PySem.W.Frag) (t : String) (h1 : kitB t "list" = some false) (h2 : kitB t "tuple" = some false) : PySem.W.kitAny K (.type t) [.type "list", .type "tuple"] = some false :=
  kitAny_cons (kit_ty h1) (fun _ => kitAny_cons (kit_ty h2) (fun _ => rfl) (fun z => Bool.noConfusion z)) (fun z => Bool.noConfusion z)
theorem kit_list (K : PySem.W.Frag) : PySem.W.kitAny K (.type "list") [.type "list", .type "tuple"] = some true :=
  kitAny_cons (kit_ty (r := true) (by decide +kernel)) (fun z => Bool.noConfusion z) (fun _ => rfl)
theorem kit_tup (K : PySem.W.Frag) : PySem.W.kitAny K (.type "tuple") [.type "list", .type "tuple"] = some true :=
  kitAny_cons (kit_ty (r := false) (by decide +kernel)) (fun _ => kitAny_cons (kit_ty (r := true) (by decide +kernel)) (fun z => Bool.noConfusion z) (fun _ => rfl)) (fun z => Bool.noConfusion z)
theorem cls2 : Paired ClsV [.ty "list", .ty "tuple"] [.type "list", .type "tuple"] := .cons (.ty _) (.cons (.ty _) .nil)
/-! two things alike, kind by kind -/
def spLSame (K : PySem.W.Frag) (n : Nat) : Sp := fun vs H Q _ => ∃ (x y : V) (d : PyData), vs = [x, y] ∧ Dp K H x d ∧ Dp K H y d ∧ dep d < n ∧ wid d ≤ 1000000 ∧ ∀ G, Same H G → Q (.bl true) G


end
section
variable {P : Program} {w : World} {K : PySem.W.Frag} {mg : Str → Option Value} {base : Heap}
/-- at a: an error of class cls, its dict d -/
def exv (a : Addr) (cls : Value) (d : Option Addr) : HO := .ext fun h => ∃ (oe : Obj) (vs : Array Value), h.get? a = some oe ∧ Zc cls d oe ∧ oe.data = .fields vs
/-! data: what a value stands for, whatever the heap -/
inductive Dt where
  | non | bl (b : Bool) | int (i : Int) | str (x : Str) | lst (ds : List Dt) | tup (ds : List Dt) | obj (c : Str) (ns : List Str) (ds : List Dt) | scr (ns : List Int) | err (c : Str) (d : Dt) | adr (a : Addr) | dic (ks : List Key) (ds : List Dt)
mutual
inductive Rp (K : PySem.W.Frag) (C : Hp) : V → Dt → Prop
  | non : Rp K C .non .non
  | bl (b : Bool) : Rp K C (.bl b) (.bl b)
  | int (i : Int) : Rp K C (.int i) (.int i)
  | str (x : Str) : Rp K C (.str x) (.str x)
  | lst {a : Addr} {xs : List V} {ds : List Dt} : C a = some (.lst xs) → RpL K C xs ds → Rp K C (.ref a) (.lst ds)
  | scr {a : Addr} {ns : List Int} : SqL K C a (ns.map V.int) → Rp K C (.ref a) (.scr ns)
  | tup {a : Addr} {xs : List V} {ds : List Dt} : SqT K C a xs → RpL K C xs ds → Rp K C (.ref a) (.tup ds)
  | obj {c : Str} {x dx : Addr} {ns : List Str} {vs : List V} {ds : List Dt} : C x = some (.ins (He.ga K c) dx (ns.zip vs)) → C dx = some (.own x) → ns.length = vs.length → RpL K C vs ds → Rp K C (.ref x) (.obj c ns ds)
  | adr (a : Addr) : Rp K C (.ref a) (.adr a)
  | dic {a : Addr} {ks : List Key} {vs : List V} {ds : List Dt} : Rd C a (.dK (ks.zip vs)) → ks.length = vs.length → ks.Nodup → RpL K C vs ds → Rp K C (.ref a) (.dic ks ds)
  | err {c : Str} {a dd : Addr} {v : V} {d : Dt} : C a = some (exv a (.ref (He.ga K c)) (some dd)) → C dd = some (.xd [(("what" : Str), v)]) → Rp K C v d → Rp K C (.ref a) (.err c d)
inductive RpL (K : PySem.W.Frag) (C : Hp) : List V → List Dt → Prop
  | nil : RpL K C [] []
  | cons {v : V} {vs : List V} {d : Dt} {ds : List Dt} : Rp K C v d → RpL K C vs ds → RpL K C (v :: vs) (d :: ds)
end
mutual
theorem Rp.same_ {K : PySem.W.Frag} {C G : Hp} (s : Same C G) : ∀ (d : Dt) (v : V), Rp K C v d → Rp K G v d
  | .non, _, h => by cases h; exact .non
  | .bl b, _, h => by cases h; exact .bl b
  | .int i, _, h => by cases h; exact .int i
  | .str x, _, h => by cases h; exact .str x
  | .lst ds, _, h => by
    cases h with
    | lst a b => exact .lst (s _ _ a) (RpL.same_ s ds _ b)
  | .tup ds, _, h => by
    cases h with
    | tup a b => exact .tup (seqT_same s a) (RpL.same_ s ds _ b)
  | .scr ns, _, h => by
    cases h with
    | scr a => exact .scr (s.seq a)
  | .obj c ns ds, _, h => by
    cases h with
    | obj a b l e => exact .obj (s _ _ a) (s _ _ b) l (RpL.same_ s ds _ e)
  | .adr a, _, h => by cases h; exact .adr a
  | .dic ks ds, _, h => by
    cases h with
    | dic a l n e => exact .dic (a.imp (s _ _) fun ⟨o, q⟩ => ⟨o, s _ _ q⟩) l n (RpL.same_ s ds _ e)
  | .err c d, _, h => by
    cases h with
    | err a b e => exact .err (s _ _ a) (s _ _ b) (Rp.same_ s d _ e)
theorem RpL.same_ {K : PySem.W.Frag} {C G : Hp} (s : Same C G) : ∀ (ds : List Dt) (vs : List V), RpL K C vs ds → RpL K G vs ds
  | [], _, h => by cases h; exact .nil
  | d :: ds, _, h => by
    cases h with
    | cons a b => exact .cons (Rp.same_ s d _ a) (RpL.same_ s ds _ b)
end
theorem Rp.same {K : PySem.W.Frag} {C G : Hp} {v : V} {d : Dt} (h : Rp K C v d) (s : Same C G) : Rp K G v d := Rp.same_ s d v h
theorem RpL.same {K : PySem.W.Frag} {C G : Hp} {vs : List V} {ds : List Dt} (h : RpL K C vs ds) (s : Same C G) : RpL K G vs ds := RpL.same_ s ds vs h
theorem RpL.len {K : PySem.W.Frag} {C : Hp} : ∀ {vs : List V} {ds : List Dt}, RpL K C vs ds → vs.length = ds.length
  | _, _, .nil => rfl
  | _, _, .cons _ t => congrArg Nat.succ (RpL.len t)
theorem RpL.at {K : PySem.W.Frag} {C : Hp} : ∀ {vs : List V} {ds : List Dt} {i : Nat} {v : V}, RpL K C vs ds → vs[i]? = some v → ∃ d, ds[i]? = some d ∧ Rp K C v d
  | _, _, i, v, .nil, h => by simp at h
  | _, _, 0, v, .cons a t, h => by
    have e := Option.some.inj h
    subst e
    exact ⟨_, rfl, a⟩
  | _, _, i + 1, v, .cons a t, h => RpL.at (i := i) t h
theorem RpL.at' {K : PySem.W.Frag} {C : Hp} : ∀ {vs : List V} {ds : List Dt} {i : Nat} {d : Dt}, RpL K C vs ds → ds[i]? = some d → ∃ v, vs[i]? = some v ∧ Rp K C v d
  | _, _, i, d, .nil, h => by simp at h
  | _, _, 0, d, .cons a t, h => by
    have e := Option.some.inj h
    subst e
    exact ⟨_, rfl, a⟩
  | _, _, i + 1, d, .cons a t, h => RpL.at' (i := i) t h
theorem RpL.append {K : PySem.W.Frag} {C : Hp} : ∀ {vs ws : List V} {ds es : List Dt}, RpL K C vs ds → RpL K C ws es → RpL K C (vs ++ ws) (ds ++ es)
  | _, _, _, _, .nil, h => h
  | _, _, _, _, .cons a t, h => .cons a (RpL.append t h)
theorem RpL.take {K : PySem.W.Frag} {C : Hp} : ∀ {vs : List V} {ds : List Dt} (n : Nat), RpL K C vs ds → RpL K C (vs.take n) (ds.take n)
  | _, _, 0, _ => .nil
  | _, _, _ + 1, .nil => .nil
  | _, _, n + 1, .cons a t => .cons a (RpL.take n t)
theorem RpL.drop {K : PySem.W.Frag} {C : Hp} : ∀ {vs : List V} {ds : List Dt} (n : Nat), RpL K C vs ds → RpL K C (vs.drop n) (ds.drop n)
  | _, _, 0, h => h
  | _, _, _ + 1, .nil => .nil
  | _, _, n + 1, .cons a t => RpL.drop n t
theorem RpL.set {K : PySem.W.Frag} {C : Hp} {v : V} {d : Dt} (r : Rp K C v d) : ∀ {vs : List V} {ds : List Dt} (n : Nat), RpL K C vs ds → RpL K C (vs.set n v) (ds.set n d)
  | _, _, _, .nil => .nil
  | _, _, 0, .cons _ t => .cons r t
  | _, _, n + 1, .cons a t => .cons a (RpL.set r n t)
theorem RpL.rev {K : PySem.W.Frag} {C : Hp} : ∀ {vs : List V} {ds : List Dt}, RpL K C vs ds → RpL K C vs.reverse ds.reverse
  | _, _, .nil => .nil
  | _, _, .cons a t => by
    rw [List.reverse_cons, List.reverse_cons]
    exact (RpL.rev t).append (.cons a .nil)
/-! a def's names, by what they stand for -/
inductive Sl where
  | un | dat (d : Dt) | hot (ds : List Dt) | box (n : Int)
inductive Rs where
  | dat (d : Dt) | hot (i : Nat) (ds : List Dt) | box (i : Nat) (n : Int)
def Sl.mut : Sl → Bool
  | .hot _ => true
  | .box _ => true
  | _ => false
structure Bs where
  C0 : Hp
  H0 : Hp
  bx : Option (Nat × Addr)
def SlOk (K : PySem.W.Frag) (C H : Hp) (x : Option (Option V)) : Sl → Prop
  | .un => True
  | .dat d => ∃ v, x = some (some v) ∧ Rp K C v d
  | .hot ds => ∃ a vs, x = some (some (.ref a)) ∧ H a = some (.lst vs) ∧ RpL K C vs ds ∧ C a = none
  | .box n => ∃ p, x = some (some (.ref p)) ∧ Box H p n ∧ C p = none
structure Sep (K : PySem.W.Frag) (B : Bs) (C H : Hp) (σ : L2.St) (ρ : List Sl) : Prop where
  cold : Same C H
  len : σ.length = ρ.length
  sl : ∀ (i : Nat) (s : Sl), ρ[i]? = some s → SlOk K C H σ[i]? s
  ne : ∀ (i j : Nat) (a : Addr) (s t : Sl), i ≠ j → ρ[i]? = some s → ρ[j]? = some t → s.mut = true → t.mut = true → σ[i]? = some (some (V.ref a)) → σ[j]? = some (some (V.ref a)) → False
  grow : Same B.C0 C
  new : ∀ a o, C a = some o → B.C0 a = none → B.H0 a = none
  dom : ∀ a, B.H0 a ≠ none → H a ≠ none
  keep : ∀ a o, B.H0 a = some o → (∀ i, B.bx ≠ some (i, a)) → H a = some o
  loc : ∀ (i : Nat) (a : Addr) (ds : List Dt), ρ[i]? = some (.hot ds) → σ[i]? = some (some (V.ref a)) → B.H0 a = none
  lob : ∀ (i : Nat) (a : Addr) (n : Int), ρ[i]? = some (.box n) → σ[i]? = some (some (V.ref a)) → B.H0 a = none ∨ B.bx = some (i, a)
  par : ∀ (i : Nat) (a : Addr), B.bx = some (i, a) → σ[i]? = some (some (V.ref a)) ∧ ∃ n, ρ[i]? = some (.box n)
  pz : ∀ (i : Nat) (a : Addr), B.bx = some (i, a) → i = 0
section
variable {B : Bs} {C H : Hp} {σ : L2.St} {ρ : List Sl}
theorem Sep.mutH (S : Sep K B C H σ ρ) {i : Nat} {s : Sl} {a : Addr} (h : ρ[i]? = some s) (m : s.mut = true) (e : σ[i]? = some (some (V.ref a))) : C a = none ∧ H a ≠ none := by
  have q := S.sl i s h
  cases s with
  | un => cases m
  | dat d => cases m
  | hot ds =>
    obtain ⟨b, vs, e2, h2, _, h3⟩ := q
    rw [e] at e2
    cases e2
    exact ⟨h3, by rw [h2]; exact fun z => nomatch z⟩
  | box n =>
    obtain ⟨b, e2, ⟨x, y, z, h2, _⟩, h3⟩ := q
    rw [e] at e2
    cases e2
    exact ⟨h3, by rw [h2]; exact fun z => nomatch z⟩
theorem Sep.alloc (S : Sep K B C H σ ρ) {p : Addr} {o : HO} (hp : H p = none) : Sep K B (upd C p o) (upd H p o) σ ρ := by
  have cp : C p = none := S.cold.free hp
  have sC : Same C (upd C p o) := same_new cp
  have sH : Same H (upd H p o) := same_new hp
  have ha : ∀ a, H a ≠ none → a ≠ p := fun a h e => h (by rw [e]; exact hp)
  refine ⟨fun b x e => ?_, S.len, fun i s h => ?_, S.ne, S.grow.trans sC, fun a x e n => ?_, fun a h => ?_, fun a x h n => sH _ _ (S.keep a x h n), S.loc, S.lob, S.par, S.pz⟩
  · by_cases z : b = p
    · subst z
      rw [upd_same] at e ⊢
      exact e
    · rw [upd_ne z] at e ⊢
      exact S.cold _ _ e
  · have q := S.sl i s h
    cases s with
    | un => trivial
    | dat d =>
      obtain ⟨v, e, r⟩ := q
      exact ⟨v, e, r.same sC⟩
    | hot ds =>
      obtain ⟨a, vs, e, h2, r, h3⟩ := q
      have np := ha a (by rw [h2]; exact fun z => nomatch z)
      exact ⟨a, vs, e, sH _ _ h2, r.same sC, by rw [upd_ne np]; exact h3⟩
    | box n =>
      obtain ⟨a, e, b, h3⟩ := q
      have np := ha a (by obtain ⟨x, y, z, h2, _⟩ := b; rw [h2]; exact fun z => nomatch z)
      exact ⟨a, e, b.same sH, by rw [upd_ne np]; exact h3⟩
  · by_cases z : a = p
    · subst z
      cases q : B.H0 a with
      | none => rfl
      | some u => exact absurd hp (S.dom a (by rw [q]; exact fun z => nomatch z))
    · rw [upd_ne z] at e
      exact S.new a x e n
  · by_cases z : a = p
    · subst z
      rw [upd_same]
      exact fun z => nomatch z
    · rw [upd_ne z]
      exact S.dom a h
theorem get_set {α : Type} {l : List α} {i j : Nat} {x y : α} (h : (l.set i x)[j]? = some y) : (i = j ∧ x = y ∧ i < l.length) ∨ (i ≠ j ∧ l[j]? = some y) := by
  rw [List.getElem?_set] at h
  by_cases e : i = j
  · rw [if_pos e] at h
    by_cases z : i < l.length
    · rw [if_pos (e ▸ z)] at h
      exact .inl ⟨e, Option.some.inj h, z⟩
    · rw [if_neg (e ▸ z)] at h
      cases h
  · rw [if_neg e] at h
    exact .inr ⟨e, h⟩
theorem set_at {α : Type} {l : List α} {i : Nat} {x : α} (h : i < l.length) : (l.set i x)[i]? = some x := by
  rw [List.getElem?_set, if_pos rfl, if_pos h]
theorem set_off {α : Type} {l : List α} {i j : Nat} {x : α} (h : i ≠ j) : (l.set i x)[j]? = l[j]? := by
  rw [List.getElem?_set, if_neg h]
/-- slot i is put anew -/
theorem Sep.put (S : Sep K B C H σ ρ) {i : Nat} {x : Option V} {s : Sl} (hb : i = 0 → ∀ n, ρ[i]? ≠ some (.box n)) (ok : i < ρ.length → SlOk K C H (some x) s) (hm : s.mut = true → ∀ a, x = some (.ref a) → (∀ j t, i ≠ j → ρ[j]? = some t → t.mut = true → σ[j]? ≠ some (some (V.ref a))) ∧ B.H0 a = none) :
    Sep K B C H (σ.set i x) (ρ.set i s) := by
  have hl := S.len
  refine ⟨S.cold, by rw [List.length_set, List.length_set, S.len], fun j t h => ?_, fun j k a t u n h1 h2 m1 m2 e1 e2 => ?_, S.grow, S.new, S.dom, S.keep, fun j a ds h e => ?_, fun j a n h e => ?_, fun j a h => ?_, S.pz⟩
  · rcases get_set h with ⟨rfl, rfl, l⟩ | ⟨n, h⟩
    · rw [set_at (by omega)]
      exact ok l
    · rw [set_off n]
      exact S.sl j t h
  · rcases get_set h1 with ⟨rfl, rfl, l⟩ | ⟨n1, h1⟩
    · rw [set_at (by omega)] at e1
      rw [set_off n] at h2 e2
      exact (hm m1 a (Option.some.inj e1)).1 k u n h2 m2 e2
    · rw [set_off n1] at e1
      rcases get_set h2 with ⟨rfl, rfl, l⟩ | ⟨n2, h2⟩
      · rw [set_at (by omega)] at e2
        exact (hm m2 a (Option.some.inj e2)).1 j t n1 h1 m1 e1
      · rw [set_off n2] at e2
        exact S.ne j k a t u n h1 h2 m1 m2 e1 e2
  · rcases get_set h with ⟨rfl, rfl, l⟩ | ⟨n, h⟩
    · rw [set_at (by omega)] at e
      exact (hm rfl a (Option.some.inj e)).2
    · rw [set_off n] at e
      exact S.loc j a ds h e
  · rcases get_set h with ⟨rfl, rfl, l⟩ | ⟨n, h⟩
    · rw [set_at (by omega)] at e
      exact .inl (hm rfl a (Option.some.inj e)).2
    · rw [set_off n] at e
      exact S.lob j a _ h e
  · obtain ⟨e, m, h2⟩ := S.par j a h
    have n : i ≠ j := fun z => hb (z.trans (S.pz j a h)) m (by rw [z]; exact h2)
    rw [set_off n, set_off n]
    exact ⟨e, m, h2⟩
theorem Sep.dat (S : Sep K B C H σ ρ) {i : Nat} {v : V} {d : Dt} (hb : i = 0 → ∀ n, ρ[i]? ≠ some (.box n)) (r : Rp K C v d) : Sep K B C H (σ.set i (some v)) (ρ.set i (.dat d)) :=
  S.put hb (fun _ => ⟨v, rfl, r⟩) fun z => nomatch z
theorem Sep.un (S : Sep K B C H σ ρ) {i : Nat} {x : Option V} (hb : i = 0 → ∀ n, ρ[i]? ≠ some (.box n)) : Sep K B C H (σ.set i x) (ρ.set i .un) :=
  S.put hb (fun _ => trivial) fun z => nomatch z
/-- a mutable thing grows cold -/
theorem Sep.cool (S : Sep K B C H σ ρ) {i : Nat} {ds : List Dt} {v : V} (h : ρ[i]? = some (.hot ds)) (e : σ[i]? = some (some v)) : ∃ C', Sep K B C' H σ (ρ.set i (.dat (.lst ds))) ∧ Same C C' ∧ Rp K C' v (.lst ds) := by
  obtain ⟨a, vs, e2, ha, r, ca⟩ := S.sl i _ h
  rw [e] at e2
  cases e2
  have sC : Same C (upd C a (.lst vs)) := same_new ca
  have R : Rp K (upd C a (.lst vs)) (.ref a) (.lst ds) := .lst upd_same (r.same sC)
  have li : i < ρ.length := by
    cases Nat.lt_or_ge i ρ.length with
    | inl h => exact h
    | inr g =>
      rw [List.getElem?_eq_none g] at h
      cases h
  refine ⟨upd C a (.lst vs), ⟨fun b o q => ?_, by rw [List.length_set]; exact S.len, fun j t q => ?_, fun j k b t u n h1 h2 m1 m2 e1 e2 => ?_, S.grow.trans sC, fun b o q n => ?_, S.dom, S.keep, fun j b es q q2 => ?_, fun j b n q q2 => ?_, fun j b q => ?_, S.pz⟩, sC, R⟩
  · by_cases z : b = a
    · subst z
      rw [upd_same] at q
      rw [ha]
      exact q
    · rw [upd_ne z] at q
      exact S.cold _ _ q
  · rcases get_set q with ⟨rfl, rfl, l⟩ | ⟨n, q⟩
    · exact ⟨_, e, R⟩
    · have w := S.sl j t q
      cases t with
      | un => trivial
      | dat d =>
        obtain ⟨v, e, r⟩ := w
        exact ⟨v, e, r.same sC⟩
      | hot es =>
        obtain ⟨b, ws, e3, h2, r2, h3⟩ := w
        have np : b ≠ a := fun z => S.ne i j a _ _ n h q rfl rfl e (z ▸ e3)
        exact ⟨b, ws, e3, h2, r2.same sC, by rw [upd_ne np]; exact h3⟩
      | box m =>
        obtain ⟨b, e3, h2, h3⟩ := w
        have np : b ≠ a := fun z => S.ne i j a _ _ n h q rfl rfl e (z ▸ e3)
        exact ⟨b, e3, h2, by rw [upd_ne np]; exact h3⟩
  · rcases get_set h1 with ⟨rfl, rfl, l⟩ | ⟨n1, h1⟩
    · cases m1
    rcases get_set h2 with ⟨rfl, rfl, l⟩ | ⟨n2, h2⟩
    · cases m2
    exact S.ne j k b t u n h1 h2 m1 m2 e1 e2
  · by_cases z : b = a
    · subst z
      exact S.loc i b ds h e
    · rw [upd_ne z] at q
      exact S.new b o q n
  · rcases get_set q with ⟨rfl, z, l⟩ | ⟨n, q⟩
    · cases z
    · exact S.loc j b es q q2
  · rcases get_set q with ⟨rfl, z, l⟩ | ⟨n, q⟩
    · cases z
    · exact S.lob j b _ q q2
  · obtain ⟨e3, m, h2⟩ := S.par j b q
    have n : i ≠ j := fun z => by rw [← z, h] at h2; cases h2
    exact ⟨e3, m, by rw [set_off n]; exact h2⟩
/-- a mutable list is changed -/
theorem Sep.hot (S : Sep K B C H σ ρ) {i : Nat} {ds es : List Dt} {a : Addr} {ws : List V} (h : ρ[i]? = some (.hot ds)) (e : σ[i]? = some (some (V.ref a))) (r : RpL K C ws es) : Sep K B C (upd H a (.lst ws)) σ (ρ.set i (.hot es)) := by
  have ca := (S.mutH h rfl e).1
  have h0 := S.loc i a ds h e
  have nC : ∀ b o, C b = some o → b ≠ a := fun b o q z => by rw [z, ca] at q; cases q
  refine ⟨fun b o q => by rw [upd_ne (nC b o q)]; exact S.cold _ _ q, by rw [List.length_set]; exact S.len, fun j t q => ?_, fun j k b t u n h1 h2 m1 m2 e1 e2 => ?_, S.grow, S.new, fun b q => ?_, fun b o q n => ?_, fun j b es q q2 => ?_, fun j b n q q2 => ?_, fun j b q => ?_, S.pz⟩
  · rcases get_set q with ⟨rfl, rfl, l⟩ | ⟨n, q⟩
    · exact ⟨a, ws, e, upd_same, r, ca⟩
    · have w := S.sl j t q
      cases t with
      | un => trivial
      | dat d => exact w
      | hot fs =>
        obtain ⟨b, us, e3, h2, r2, h3⟩ := w
        have np : b ≠ a := fun z => S.ne i j a _ _ n h q rfl rfl e (z ▸ e3)
        exact ⟨b, us, e3, by rw [upd_ne np]; exact h2, r2, h3⟩
      | box m =>
        obtain ⟨b, e3, ⟨x, y, z, h2, hh⟩, h3⟩ := w
        have np : b ≠ a := fun z => S.ne i j a _ _ n h q rfl rfl e (z ▸ e3)
        exact ⟨b, e3, ⟨x, y, z, by rw [upd_ne np]; exact h2, hh⟩, h3⟩
  · have back : ∀ {m : Nat} {t : Sl}, (ρ.set i (.hot es))[m]? = some t → t.mut = true → ∃ t', ρ[m]? = some t' ∧ t'.mut = true := fun {m t} z y => by
      rcases get_set z with ⟨rfl, rfl, l⟩ | ⟨n, z⟩
      · exact ⟨_, h, rfl⟩
      · exact ⟨t, z, y⟩
    obtain ⟨t', h1, m1⟩ := back h1 m1
    obtain ⟨u', h2, m2⟩ := back h2 m2
    exact S.ne j k b t' u' n h1 h2 m1 m2 e1 e2
  · by_cases z : b = a
    · rw [z, upd_same]
      exact fun z => nomatch z
    · rw [upd_ne z]
      exact S.dom b q
  · have np : b ≠ a := fun z => by rw [z, h0] at q; cases q
    rw [upd_ne np]
    exact S.keep b o q n
  · rcases get_set q with ⟨rfl, z, l⟩ | ⟨n, q⟩
    · exact S.loc _ b ds h q2
    · exact S.loc j b _ q q2
  · rcases get_set q with ⟨rfl, z, l⟩ | ⟨n, q⟩
    · cases z
    · exact S.lob j b _ q q2
  · obtain ⟨e3, m, h2⟩ := S.par j b q
    have n : i ≠ j := fun z => by rw [← z, h] at h2; cases h2
    exact ⟨e3, m, by rw [set_off n]; exact h2⟩
end

end
section
variable {P : Program} {w : World} {K : PySem.W.Frag} {mg : Str → Option Value} {base : Heap}
/-! readings over data -/
inductive Ar where
  | d (x : Dt) | b (i : Nat)
inductive Ro where
  | dat (d : Dt) | new (ds : List Dt)
abbrev WE := List Sl → (Rs → List Sl → Prop) → Prop
abbrev WN := List Sl → (List Dt → List Sl → Prop) → Prop
abbrev WT := List Sl → (Bool → List Sl → Prop) → Prop
abbrev WA := List Sl → (List Ar → List Sl → Prop) → Prop
abbrev WG := Dt → List Sl → (List Sl → Prop) → Prop
def RsOk (K : PySem.W.Frag) (C : Hp) (σ : L2.St) (ρ : List Sl) (v : V) : Rs → Prop
  | .dat d => Rp K C v d
  | .hot i ds => σ[i]? = some (some v) ∧ ρ[i]? = some (.hot ds)
  | .box i n => σ[i]? = some (some v) ∧ ρ[i]? = some (.box n)
/-- data, or a list that may be changed of such -/
def Rt (K : PySem.W.Frag) (C H : Hp) (v : V) (d : Dt) : Prop := Rp K C v d ∨ ∃ a vs ds, v = .ref a ∧ d = .lst ds ∧ H a = some (.lst vs) ∧ RpL K C vs ds
def Fr (K : PySem.W.Frag) (B : Bs) (C H : Hp) (σ : L2.St) (ρ : List Sl) (a : Addr) (ds : List Dt) : Prop :=
  (∃ vs, H a = some (.lst vs) ∧ RpL K C vs ds) ∧ C a = none ∧ B.H0 a = none ∧ ∀ (j : Nat) (t : Sl), ρ[j]? = some t → t.mut = true → σ[j]? ≠ some (some (V.ref a))
class Sd (K : PySem.W.Frag) (t : TE) (w : outParam WE) : Prop where
  run : ∀ (B : Bs) (C H : Hp) (σ : L2.St) (ρ : List Sl) (Q : VK) (Ψ : Rs → List Sl → Prop), Sep K B C H σ ρ → w ρ Ψ → (∀ C' G v r ρ', Sep K B C' G σ ρ' → Same C C' → RsOk K C' σ ρ' v r → Ψ r ρ' → Q v G) → t σ H Q
class Sn (K : PySem.W.Frag) (t : TE) (w : outParam WN) : Prop where
  run : ∀ (B : Bs) (C H : Hp) (σ : L2.St) (ρ : List Sl) (Q : VK) (Ψ : List Dt → List Sl → Prop), Sep K B C H σ ρ → w ρ Ψ → (∀ C' G a ds ρ', Sep K B C' G σ ρ' → Same C C' → Fr K B C' G σ ρ' a ds → Ψ ds ρ' → Q (.ref a) G) → t σ H Q
class Sc (K : PySem.W.Frag) (t : TT) (w : outParam WT) : Prop where
  run : ∀ (B : Bs) (C H : Hp) (σ : L2.St) (ρ : List Sl) (Q : Bool → Hp → Prop) (Ψ : Bool → List Sl → Prop), Sep K B C H σ ρ → w ρ Ψ → (∀ C' G b ρ', Sep K B C' G σ ρ' → Same C C' → Ψ b ρ' → Q b G) → t σ H Q
def ArOk (K : PySem.W.Frag) (C : Hp) (σ : L2.St) (v : V) : Ar → Prop
  | .d x => Rp K C v x
  | .b i => σ[i]? = some (some v)
inductive ArL (K : PySem.W.Frag) (C : Hp) (σ : L2.St) : List V → List Ar → Prop
  | nil : ArL K C σ [] []
  | cons {v : V} {vs : List V} {a : Ar} {as : List Ar} : ArOk K C σ v a → ArL K C σ vs as → ArL K C σ (v :: vs) (a :: as)
class Sa (K : PySem.W.Frag) (t : TA) (w : outParam WA) : Prop where
  run : ∀ (B : Bs) (C H : Hp) (σ : L2.St) (ρ : List Sl) (Q : List V → Hp → Prop) (Ψ : List Ar → List Sl → Prop), Sep K B C H σ ρ → w ρ Ψ → (∀ C' G vs as ρ', Sep K B C' G σ ρ' → Same C C' → ArL K C' σ vs as → Ψ as ρ' → Q vs G) → t σ H Q
theorem ArOk.same {C G : Hp} {σ : L2.St} {v : V} {a : Ar} (h : ArOk K C σ v a) (s : Same C G) : ArOk K G σ v a := by
  cases a with
  | d x => exact Rp.same h s
  | b i => exact h
theorem ArL.same {C G : Hp} {σ : L2.St} (s : Same C G) : ∀ {vs : List V} {as : List Ar}, ArL K C σ vs as → ArL K G σ vs as
  | _, _, .nil => .nil
  | _, _, .cons h t => .cons (h.same s) (ArL.same s t)
/-- what is put into a thing grows cold -/
def store (r : Rs) (ρ : List Sl) (k : Ar → List Sl → Prop) : Prop := match r with
  | .dat d => k (.d d) ρ
  | .hot i ds => k (.d (.lst ds)) (ρ.set i (.dat (.lst ds)))
  | .box i _ => k (.b i) ρ
def Rs.val (ρ : List Sl) : Rs → Option Dt
  | .dat d => some d
  | .hot i _ => match ρ[i]? with
    | some (.hot ds) => some (.lst ds)
    | some (.dat d) => some d
    | _ => none
  | .box _ _ => none
def dats : List Ar → Option (List Dt)
  | [] => some []
  | .d x :: as => match dats as with
    | some ds => some (x :: ds)
    | none => none
  | .b _ :: _ => none
theorem ArL.dats {C : Hp} {σ : L2.St} : ∀ {vs : List V} {as : List Ar} {ds : List Dt}, ArL K C σ vs as → dats as = some ds → RpL K C vs ds
  | _, _, ds, .nil, e => by cases e; exact .nil
  | _, .d x :: as, ds, .cons h t, e => by
    unfold Sl.dats at e
    cases q : Sl.dats as with
    | none => rw [q] at e; cases e
    | some es =>
      rw [q] at e
      cases e
      exact .cons h (ArL.dats t q)
  | _, .b i :: as, ds, .cons h t, e => by cases e
section
variable {B : Bs} {C H G : Hp} {σ : L2.St} {ρ : List Sl}
theorem Sep.stored (S : Sep K B C H σ ρ) {v : V} {r : Rs} {k : Ar → List Sl → Prop} (h : RsOk K C σ ρ v r) (hk : store r ρ k) : ∃ C' a ρ', Sep K B C' H σ ρ' ∧ Same C C' ∧ ArOk K C' σ v a ∧ k a ρ' := by
  cases r with
  | dat d => exact ⟨C, .d d, ρ, S, Same.refl _, h, hk⟩
  | hot i ds =>
    obtain ⟨C', S', s, r⟩ := S.cool h.2 h.1
    exact ⟨C', .d (.lst ds), _, S', s, r, hk⟩
  | box i n => exact ⟨C, .b i, ρ, S, Same.refl _, h.1, hk⟩
theorem Sep.valOf (S : Sep K B C H σ ρ) {C0 : Hp} {ρ0 : List Sl} {v : V} {r : Rs} {d : Dt} (h : RsOk K C0 σ ρ0 v r) (s : Same C0 C) (e : r.val ρ = some d) : Rt K C H v d := by
  cases r with
  | dat d' => cases e; exact .inl (Rp.same h s)
  | hot i ds =>
    obtain ⟨h1, h2⟩ := h
    unfold Rs.val at e
    dsimp only at e
    cases q : ρ[i]? with
    | none => rw [q] at e; cases e
    | some t =>
      rw [q] at e
      cases t with
      | un => cases e
      | dat d' =>
        cases e
        obtain ⟨u, e1, r⟩ := S.sl i _ q
        rw [h1] at e1
        cases e1
        exact .inl r
      | hot es =>
        cases e
        obtain ⟨a, vs, e1, ha, r, _⟩ := S.sl i _ q
        rw [h1] at e1
        cases e1
        exact .inr ⟨a, vs, es, rfl, rfl, ha, r⟩
      | box n => cases e
  | box i n => cases e
theorem Sep.allocN (S : Sep K B C H σ ρ) {p : Addr} {o : HO} (hp : H p = none) : Sep K B C (upd H p o) σ ρ := by
  have sH : Same H (upd H p o) := same_new hp
  refine ⟨S.cold.trans sH, S.len, fun i s h => ?_, S.ne, S.grow, S.new, fun a h => ?_, fun a x h n => sH _ _ (S.keep a x h n), S.loc, S.lob, S.par, S.pz⟩
  · have q := S.sl i s h
    cases s with
    | un => trivial
    | dat d => exact q
    | hot ds =>
      obtain ⟨a, vs, e, h2, r, h3⟩ := q
      exact ⟨a, vs, e, sH _ _ h2, r, h3⟩
    | box n =>
      obtain ⟨a, e, b, h3⟩ := q
      exact ⟨a, e, b.same sH, h3⟩
  · by_cases z : a = p
    · subst z
      rw [upd_same]
      exact fun z => nomatch z
    · rw [upd_ne z]
      exact S.dom a h
theorem Sep.free0 (S : Sep K B C H σ ρ) {p : Addr} (hp : H p = none) : B.H0 p = none := by
  cases q : B.H0 p with
  | none => rfl
  | some u => exact absurd hp (S.dom p (by rw [q]; exact fun z => nomatch z))
theorem Sep.nohot (S : Sep K B C H σ ρ) {p : Addr} (hp : H p = none) : ∀ (j : Nat) (t : Sl), ρ[j]? = some t → t.mut = true → σ[j]? ≠ some (some (V.ref p)) := fun j t h m e => (S.mutH h m e).2 hp
theorem Sep.frN (S : Sep K B C H σ ρ) {p : Addr} {vs : List V} {ds : List Dt} (hp : H p = none) (r : RpL K C vs ds) : Fr K B C (upd H p (.lst vs)) σ ρ p ds :=
  ⟨⟨vs, upd_same, r⟩, S.cold.free hp, S.free0 hp, S.nohot hp⟩
/-- a new list grows cold -/
theorem Fr.cool {a : Addr} {ds : List Dt} (f : Fr K B C H σ ρ a ds) (S : Sep K B C H σ ρ) : ∃ C', Sep K B C' H σ ρ ∧ Same C C' ∧ Rp K C' (.ref a) (.lst ds) := by
  obtain ⟨⟨vs, ha, r⟩, ca, h0, nh⟩ := f
  have sC : Same C (upd C a (.lst vs)) := same_new ca
  refine ⟨upd C a (.lst vs), ⟨fun b o q => ?_, S.len, fun j t q => ?_, S.ne, S.grow.trans sC, fun b o q n => ?_, S.dom, S.keep, S.loc, S.lob, S.par, S.pz⟩, sC, .lst upd_same (r.same sC)⟩
  · by_cases z : b = a
    · subst z
      rw [upd_same] at q
      rw [ha]
      exact q
    · rw [upd_ne z] at q
      exact S.cold _ _ q
  · have w := S.sl j t q
    cases t with
    | un => trivial
    | dat d =>
      obtain ⟨v, e, r⟩ := w
      exact ⟨v, e, r.same sC⟩
    | hot es =>
      obtain ⟨b, ws, e3, h2, r2, h3⟩ := w
      have np : b ≠ a := fun z => nh j _ q rfl (z ▸ e3)
      exact ⟨b, ws, e3, h2, r2.same sC, by rw [upd_ne np]; exact h3⟩
    | box m =>
      obtain ⟨b, e3, h2, h3⟩ := w
      have np : b ≠ a := fun z => nh j _ q rfl (z ▸ e3)
      exact ⟨b, e3, h2, by rw [upd_ne np]; exact h3⟩
  · by_cases z : b = a
    · subst z
      exact h0
    · rw [upd_ne z] at q
      exact S.new b o q n
theorem Rt.list' {v : V} {ds : List Dt} (S : Sep K B C H σ ρ) (h : Rt K C H v (.lst ds)) : ∃ a vs, v = .ref a ∧ H a = some (.lst vs) ∧ RpL K C vs ds := by
  rcases h with h | ⟨b, vs, es, e1, e2, h, r⟩
  · cases h with
    | lst h r => exact ⟨_, _, rfl, S.cold _ _ h, r⟩
  · cases e1
    cases e2
    exact ⟨b, vs, rfl, h, r⟩
theorem Rt.tup' {v : V} {ds : List Dt} (S : Sep K B C H σ ρ) (h : Rt K C H v (.tup ds)) : ∃ a vs, v = .ref a ∧ SqT K H a vs ∧ RpL K C vs ds := by
  rcases h with h | ⟨b, vs, es, e1, e2, h, r⟩
  · cases h with
    | tup h r => exact ⟨_, _, rfl, seqT_same S.cold h, r⟩
  · cases e2
theorem Rt.int {v : V} {i : Int} (h : Rt K C H v (.int i)) : v = .int i := by
  rcases h with h | ⟨b, vs, es, e1, e2, h, r⟩
  · cases h; rfl
  · cases e2
theorem Rt.bl {v : V} {b : Bool} (h : Rt K C H v (.bl b)) : v = .bl b := by
  rcases h with h | ⟨b, vs, es, e1, e2, h, r⟩
  · cases h; rfl
  · cases e2
theorem Rt.str {v : V} {x : Str} (h : Rt K C H v (.str x)) : v = .str x := by
  rcases h with h | ⟨b, vs, es, e1, e2, h, r⟩
  · cases h; rfl
  · cases e2
theorem Rt.non {v : V} (h : Rt K C H v .non) : v = .non := by
  rcases h with h | ⟨b, vs, es, e1, e2, h, r⟩
  · cases h; rfl
  · cases e2
end
/-! names, constants -/
def wVar (i : Nat) : WE := fun ρ Ψ => match ρ[i]? with
  | some (.dat d) => Ψ (.dat d) ρ
  | some (.hot ds) => Ψ (.hot i ds) ρ
  | some (.box n) => Ψ (.box i n) ρ
  | _ => False
instance sd_var {i : Nat} : Sd K (tVar i) (wVar i) where
  run B C H σ ρ Q Ψ S h k := by
    unfold wVar at h
    cases q : ρ[i]? with
    | none => rw [q] at h; exact h.elim
    | some t =>
      rw [q] at h
      have s := S.sl i t q
      cases t with
      | un => exact h.elim
      | dat d =>
        obtain ⟨v, e, r⟩ := s
        exact ⟨v, e, k _ _ _ (.dat d) _ S (Same.refl _) r h⟩
      | hot ds =>
        obtain ⟨a, vs, e, _⟩ := s
        exact ⟨_, e, k _ _ _ (.hot i ds) _ S (Same.refl _) ⟨e, q⟩ h⟩
      | box n =>
        obtain ⟨a, e, _⟩ := s
        exact ⟨_, e, k _ _ _ (.box i n) _ S (Same.refl _) ⟨e, q⟩ h⟩
def datV : V → Option Dt
  | .non => some .non
  | .bl b => some (.bl b)
  | .int i => some (.int i)
  | .str x => some (.str x)
  | _ => none
theorem datV_ok {C : Hp} : ∀ {v : V} {d : Dt}, datV v = some d → Rp K C v d
  | .non, _, e => by cases e; exact .non
  | .bl b, _, e => by cases e; exact .bl b
  | .int i, _, e => by cases e; exact .int i
  | .str x, _, e => by cases e; exact .str x
def wC (v : V) : WE := fun ρ Ψ => match datV v with
  | some d => Ψ (.dat d) ρ
  | none => False
instance sd_c {v : V} : Sd K (tC v) (wC v) where
  run B C H σ ρ Q Ψ S h k := by
    unfold wC at h
    cases q : datV v with
    | none => rw [q] at h; exact h.elim
    | some d =>
      rw [q] at h
      exact k _ _ _ (.dat d) _ S (Same.refl _) (datV_ok q) h
/-! two operands -/
class So (K : PySem.W.Frag) (r : R2) (op : outParam (Dt → Dt → (Dt → Prop) → Prop)) : Prop where
  run : ∀ (B : Bs) (C H : Hp) (σ : L2.St) (ρ : List Sl) (x y : V) (dx dy : Dt) (Q : VK) (Φ : Dt → Prop), Sep K B C H σ ρ → Rt K C H x dx → Rt K C H y dy → op dx dy Φ → (∀ C' G v d, Sep K B C' G σ ρ → Same C C' → Rp K C' v d → Φ d → Q v G) → r x y H Q
def wOp (op : Dt → Dt → (Dt → Prop) → Prop) (wa wb : WE) : WE := fun ρ Ψ => wa ρ fun r1 ρ1 => wb ρ1 fun r2 ρ2 => match r1.val ρ2, r2.val ρ2 with
  | some d1, some d2 => op d1 d2 fun d => Ψ (.dat d) ρ2
  | _, _ => False
instance sd_op {r : R2} {op : Dt → Dt → (Dt → Prop) → Prop} {ta tb : TE} {wa wb : WE} [o : So K r op] [a : Sd K ta wa] [b : Sd K tb wb] : Sd K (tOp r ta tb) (wOp op wa wb) where
  run B C H σ ρ Q Ψ S h k := by
    refine a.run B C H σ ρ _ _ S h fun C1 H1 v1 r1 ρ1 S1 s1 ok1 h1 => ?_
    refine b.run B C1 H1 σ ρ1 _ _ S1 h1 fun C2 H2 v2 r2 ρ2 S2 s2 ok2 h2 => ?_
    cases q1 : r1.val ρ2 with
    | none => simp only [q1] at h2
    | some d1 =>
      cases q2 : r2.val ρ2 with
      | none => simp only [q1, q2] at h2
      | some d2 =>
        simp only [q1, q2] at h2
        exact o.run B C2 H2 σ ρ2 _ _ _ _ _ _ S2 (S2.valOf ok1 s2 q1) (S2.valOf ok2 (Same.refl _) q2) h2 fun C' G v d S' s' r' z => k _ _ _ (.dat d) _ S' (s1.trans (s2.trans s')) r' z
def oI (P : Int → Int → Prop) (g : Int → Int → V) : Dt → Dt → (Dt → Prop) → Prop
  | .int i, .int j, Φ => P i j ∧ (match datV (g i j) with | some d => Φ d | none => False)
  | _, _, _ => False
theorem oI_run {P : Int → Int → Prop} {g : Int → Int → V} {C H : Hp} {x y : V} {dx dy : Dt} {Φ : Dt → Prop} (hx : Rt K C H x dx) (hy : Rt K C H y dy) (h : oI P g dx dy Φ) : ∃ i j d, x = .int i ∧ y = .int j ∧ P i j ∧ datV (g i j) = some d ∧ Φ d := by
  cases dx <;> cases dy <;> try exact False.elim h
  rename_i i j
  obtain ⟨p, z⟩ := h
  cases q : datV (g i j) with
  | none => rw [q] at z; exact z.elim
  | some d =>
    rw [q] at z
    exact ⟨i, j, d, hx.int, hy.int, p, q, z⟩
instance so_I {P : Int → Int → Prop} {g : Int → Int → V} : So K (rI P g) (oI P g) where
  run B C H σ ρ x y dx dy Q Φ S hx hy h k := by
    obtain ⟨i, j, d, rfl, rfl, p, q, z⟩ := oI_run hx hy h
    exact ⟨i, j, rfl, rfl, p, k _ _ _ _ S (Same.refl _) (datV_ok q) z⟩
def oI0 (g : Int → Int → V) : Dt → Dt → (Dt → Prop) → Prop
  | .int i, .int j, Φ => (match datV (g i j) with | some d => Φ d | none => False)
  | _, _, _ => False
theorem oI0_run {g : Int → Int → V} {C H : Hp} {x y : V} {dx dy : Dt} {Φ : Dt → Prop} (hx : Rt K C H x dx) (hy : Rt K C H y dy) (h : oI0 g dx dy Φ) : ∃ i j d, x = .int i ∧ y = .int j ∧ datV (g i j) = some d ∧ Φ d := by
  cases dx <;> cases dy <;> try exact False.elim h
  rename_i i j
  have z : (match datV (g i j) with | some d => Φ d | none => False) := h
  cases q : datV (g i j) with
  | none => rw [q] at z; exact z.elim
  | some d =>
    rw [q] at z
    exact ⟨i, j, d, hx.int, hy.int, q, z⟩
instance so_I0 {g : Int → Int → V} : So K (rI0 g) (oI0 g) where
  run B C H σ ρ x y dx dy Q Φ S hx hy h k := by
    obtain ⟨i, j, d, rfl, rfl, q, z⟩ := oI0_run hx hy h
    exact ⟨i, j, rfl, rfl, k _ _ _ _ S (Same.refl _) (datV_ok q) z⟩
/-! xs[i] -/
def oIxL : Dt → Dt → (Dt → Prop) → Prop
  | .lst ds, .int i, Φ => ∃ d, atI ds i = some d ∧ Φ d
  | _, _, _ => False
def oIxT : Dt → Dt → (Dt → Prop) → Prop
  | .tup ds, .int i, Φ => ∃ d, atI ds i = some d ∧ Φ d
  | _, _, _ => False
theorem RpL.atI {C : Hp} {vs : List V} {ds : List Dt} {i : Int} {d : Dt} (r : RpL K C vs ds) (e : L2.atI ds i = some d) : ∃ v, L2.atI vs i = some v ∧ Rp K C v d := by
  unfold L2.atI at e ⊢
  rw [r.len]
  cases q : ixN ds.length i with
  | none => rw [q] at e; cases e
  | some j =>
    rw [q] at e
    exact r.at' (i := j) e
instance so_ixL : So K (rIxL K) oIxL where
  run B C H σ ρ x y dx dy Q Φ S hx hy h k := by
    cases dx <;> cases dy <;> try exact False.elim h
    obtain ⟨d, e, z⟩ := h
    obtain ⟨a, vs, rfl, hs, r⟩ := hx.list' S
    obtain ⟨v, ev, rv⟩ := r.atI e
    exact ⟨a, vs, _, v, rfl, hy.int, SqL.of hs, ev, k _ _ _ _ S (Same.refl _) rv z⟩
instance so_ixT : So K (rIxT K) oIxT where
  run B C H σ ρ x y dx dy Q Φ S hx hy h k := by
    cases dx <;> cases dy <;> try exact False.elim h
    obtain ⟨d, e, z⟩ := h
    obtain ⟨a, vs, rfl, hs, r⟩ := hx.tup' S
    obtain ⟨v, ev, rv⟩ := r.atI e
    exact ⟨a, vs, _, v, rfl, hy.int, hs, ev, k _ _ _ _ S (Same.refl _) rv z⟩
/-! new lists -/
def wCool (w : WN) : WE := fun ρ Ψ => w ρ fun ds ρ' => Ψ (.dat (.lst ds)) ρ'
instance (priority := low) sd_new {t : TE} {w : WN} [n : Sn K t w] : Sd K t (wCool w) where
  run B C H σ ρ Q Ψ S h k := n.run B C H σ ρ _ _ S h fun C1 H1 a ds ρ1 S1 s1 f z => by
    obtain ⟨C', S', s', r'⟩ := f.cool S1
    exact k _ _ _ (.dat (.lst ds)) _ S' (s1.trans s') r' z
def wANil : WA := fun ρ Ψ => Ψ [] ρ
def wACons (wa : WE) (wr : WA) : WA := fun ρ Ψ => wa ρ fun r ρ1 => store r ρ1 fun a ρ2 => wr ρ2 fun as ρ3 => Ψ (a :: as) ρ3
instance sa_nil : Sa K tNil wANil where
  run B C H σ ρ Q Ψ S h k := k _ _ _ _ _ S (Same.refl _) .nil h
instance sa_cons {ta : TE} {tr : TA} {wa : WE} {wr : WA} [a : Sd K ta wa] [b : Sa K tr wr] : Sa K (tCons ta tr) (wACons wa wr) where
  run B C H σ ρ Q Ψ S h k := by
    refine a.run B C H σ ρ _ _ S h fun C1 H1 v1 r1 ρ1 S1 s1 ok1 h1 => ?_
    obtain ⟨C2, x, ρ2, S2, s2, ok2, h2⟩ := S1.stored ok1 h1
    refine b.run B C2 H1 σ ρ2 _ _ S2 h2 fun C3 H3 vs as ρ3 S3 s3 ok3 h3 => ?_
    exact k _ _ _ _ _ S3 (s1.trans (s2.trans s3)) (.cons (ok2.same s3) ok3) h3
def wLst (wa : WA) : WN := fun ρ Ψ => wa ρ fun as ρ1 => match dats as with
  | some ds => ds.length ≤ sizeLine ∧ Ψ ds ρ1
  | none => False
instance sn_lst {ta : TA} {wa : WA} [a : Sa K ta wa] : Sn K (tLst ta) (wLst wa) where
  run B C H σ ρ Q Ψ S h k := by
    refine a.run B C H σ ρ _ _ S h fun C1 H1 vs as ρ1 S1 s1 ok1 h1 => ?_
    cases q : dats as with
    | none => simp only [q] at h1
    | some ds =>
      simp only [q] at h1
      have r := ok1.dats q
      exact ⟨by rw [r.len]; exact h1.1, fun p hp => k _ _ _ _ _ (S1.allocN hp) s1 (S1.frN hp r) h1.2⟩
def wTup (wa : WA) : WE := fun ρ Ψ => wa ρ fun as ρ1 => match dats as with
  | some ds => ds.length ≤ sizeLine ∧ Ψ (.dat (.tup ds)) ρ1
  | none => False
instance sd_tup {ta : TA} {wa : WA} [a : Sa K ta wa] : Sd K (tTup ta) (wTup wa) where
  run B C H σ ρ Q Ψ S h k := by
    refine a.run B C H σ ρ _ _ S h fun C1 H1 vs as ρ1 S1 s1 ok1 h1 => ?_
    cases q : dats as with
    | none => simp only [q] at h1
    | some ds =>
      simp only [q] at h1
      have r := ok1.dats q
      refine ⟨by rw [r.len]; exact h1.1, fun p hp => ?_⟩
      have sC : Same C1 (upd C1 p (.tup vs)) := same_new (S1.cold.free hp)
      exact k _ _ _ (.dat (.tup ds)) _ (S1.alloc hp) (s1.trans sC) (.tup (.inl (.inl upd_same)) (r.same sC)) h1.2
class Sno (K : PySem.W.Frag) (r : R2) (op : outParam (Dt → Dt → (List Dt → Prop) → Prop)) : Prop where
  run : ∀ (B : Bs) (C H : Hp) (σ : L2.St) (ρ : List Sl) (x y : V) (dx dy : Dt) (Q : VK) (Φ : List Dt → Prop), Sep K B C H σ ρ → Rt K C H x dx → Rt K C H y dy → op dx dy Φ → (∀ C' G a ds, Sep K B C' G σ ρ → Same C C' → Fr K B C' G σ ρ a ds → Φ ds → Q (.ref a) G) → r x y H Q
def wNop (op : Dt → Dt → (List Dt → Prop) → Prop) (wa wb : WE) : WN := fun ρ Ψ => wa ρ fun r1 ρ1 => wb ρ1 fun r2 ρ2 => match r1.val ρ2, r2.val ρ2 with
  | some d1, some d2 => op d1 d2 fun d => Ψ d ρ2
  | _, _ => False
instance sn_op {r : R2} {op : Dt → Dt → (List Dt → Prop) → Prop} {ta tb : TE} {wa wb : WE} [o : Sno K r op] [a : Sd K ta wa] [b : Sd K tb wb] : Sn K (tOp r ta tb) (wNop op wa wb) where
  run B C H σ ρ Q Ψ S h k := by
    refine a.run B C H σ ρ _ _ S h fun C1 H1 v1 r1 ρ1 S1 s1 ok1 h1 => ?_
    refine b.run B C1 H1 σ ρ1 _ _ S1 h1 fun C2 H2 v2 r2 ρ2 S2 s2 ok2 h2 => ?_
    cases q1 : r1.val ρ2 with
    | none => simp only [q1] at h2
    | some d1 =>
      cases q2 : r2.val ρ2 with
      | none => simp only [q1, q2] at h2
      | some d2 =>
        simp only [q1, q2] at h2
        exact o.run B C2 H2 σ ρ2 _ _ _ _ _ _ S2 (S2.valOf ok1 s2 q1) (S2.valOf ok2 (Same.refl _) q2) h2 fun C' G v d S' s' r' z => k _ _ _ _ _ S' (s1.trans (s2.trans s')) r' z

end
section
variable {P : Program} {w : World} {K : PySem.W.Frag} {mg : Str → Option Value} {base : Heap}
local macro_rules | `(tactic| get_elem_tactic_trivial) => `(tactic| (repeat first | exact Wk.nil | exact Wk'.nil | refine Wk.same ?_ | refine Wk'.same ?_ | refine Wk.un (fun _ z => nomatch z) ?_ | refine Wk'.un ?_))
/-! tests -/
def isBl (r : Rs) (k : Bool → Prop) : Prop := match r with
  | .dat (.bl b) => k b
  | _ => False
def wTest (w : WE) : WT := fun ρ Ψ => w ρ fun r ρ1 => isBl r fun b => Ψ b ρ1
theorem wTest_run {C : Hp} {σ : L2.St} {ρ : List Sl} {v : V} {r : Rs} {k : Bool → Prop} (ok : RsOk K C σ ρ v r) (h : isBl r k) : ∃ b, v = .bl b ∧ k b := by
  cases r with
  | dat d =>
    cases d <;> try exact False.elim h
    cases ok
    exact ⟨_, rfl, h⟩
  | hot i ds => exact False.elim h
  | box i n => exact False.elim h
instance sc_b {t : TE} {w : WE} [a : Sd K t w] : Sc K (tB t) (wTest w) where
  run B C H σ ρ Q Ψ S h k := a.run B C H σ ρ _ _ S h fun C1 H1 v1 r1 ρ1 S1 s1 ok1 h1 => by
    obtain ⟨b, rfl, z⟩ := wTest_run ok1 h1
    exact ⟨b, rfl, k _ _ _ _ S1 s1 z⟩
instance sc_test {t : TE} {w : WE} [a : Sd K t w] : Sc K (tTest t) (wTest w) where
  run B C H σ ρ Q Ψ S h k := a.run B C H σ ρ _ _ S h fun C1 H1 v1 r1 ρ1 S1 s1 ok1 h1 => by
    obtain ⟨b, rfl, z⟩ := wTest_run ok1 h1
    exact ⟨b, rfl, k _ _ _ _ S1 s1 z⟩
def wOr (wa wb : WT) : WT := fun ρ Ψ => wa ρ fun b ρ1 => if b = true then Ψ true ρ1 else wb ρ1 Ψ
def wNot (wa : WT) : WT := fun ρ Ψ => wa ρ fun b ρ1 => Ψ (!b) ρ1
instance sc_or {ta tb : TT} {wa wb : WT} [a : Sc K ta wa] [b : Sc K tb wb] : Sc K (tOr ta tb) (wOr wa wb) where
  run B C H σ ρ Q Ψ S h k := a.run B C H σ ρ _ _ S h fun C1 H1 c ρ1 S1 s1 h1 => by
    cases c with
    | false => exact b.run B C1 H1 σ ρ1 _ _ S1 h1 fun C2 H2 e ρ2 S2 s2 h2 => k _ _ _ _ S2 (s1.trans s2) h2
    | true => exact k _ _ _ _ S1 s1 h1
instance sc_not {ta : TT} {wa : WT} [a : Sc K ta wa] : Sc K (tNot ta) (wNot wa) where
  run B C H σ ρ Q Ψ S h k := a.run B C H σ ρ _ _ S h fun C1 H1 c ρ1 S1 s1 h1 => k _ _ _ _ S1 s1 h1
instance sc_yes : Sc K tYes (fun ρ Ψ => Ψ true ρ) where
  run B C H σ ρ Q Ψ S h k := k _ _ _ _ S (Same.refl _) h
def wBl (w : WT) : WE := fun ρ Ψ => w ρ fun b ρ1 => Ψ (.dat (.bl b)) ρ1
instance sd_not {ta : TE} {wa : WE} [a : Sd K ta wa] : Sd K (tNotV ta) (wBl (wNot (wTest wa))) where
  run B C H σ ρ Q Ψ S h k := a.run B C H σ ρ _ _ S h fun C1 H1 v1 r1 ρ1 S1 s1 ok1 h1 => by
    obtain ⟨b, rfl, z⟩ := wTest_run ok1 h1
    exact ⟨b, rfl, k _ _ _ (.dat _) _ S1 s1 (.bl _) z⟩
def wAndV (wa : WT) (wb : WE) : WE := fun ρ Ψ => wa ρ fun b ρ1 => if b = true then wb ρ1 Ψ else Ψ (.dat (.bl false)) ρ1
instance sd_and {ta tb : TE} {wa wb : WE} [a : Sd K ta wa] [b : Sd K tb wb] : Sd K (tAndV ta tb) (wAndV (wTest wa) wb) where
  run B C H σ ρ Q Ψ S h k := a.run B C H σ ρ _ _ S h fun C1 H1 v1 r1 ρ1 S1 s1 ok1 h1 => by
    obtain ⟨c, rfl, z⟩ := wTest_run ok1 h1
    refine ⟨c, rfl, ?_⟩
    cases c with
    | true => exact b.run B C1 H1 σ ρ1 _ _ S1 z fun C2 H2 v2 r2 ρ2 S2 s2 ok2 h2 => k _ _ _ _ _ S2 (s1.trans s2) ok2 h2
    | false => exact k _ _ _ (.dat _) _ S1 s1 (.bl _) z
def wIf (wc : WT) (wa wb : WE) : WE := fun ρ Ψ => wc ρ fun b ρ1 => if b = true then wa ρ1 Ψ else wb ρ1 Ψ
instance sd_if {tc : TT} {ta tb : TE} {wc : WT} {wa wb : WE} [c : Sc K tc wc] [a : Sd K ta wa] [b : Sd K tb wb] : Sd K (tIf tc ta tb) (wIf wc wa wb) where
  run B C H σ ρ Q Ψ S h k := c.run B C H σ ρ _ _ S h fun C1 H1 e ρ1 S1 s1 h1 => by
    cases e with
    | true => exact a.run B C1 H1 σ ρ1 _ _ S1 h1 fun C2 H2 v2 r2 ρ2 S2 s2 ok2 h2 => k _ _ _ _ _ S2 (s1.trans s2) ok2 h2
    | false => exact b.run B C1 H1 σ ρ1 _ _ S1 h1 fun C2 H2 v2 r2 ρ2 S2 s2 ok2 h2 => k _ _ _ _ _ S2 (s1.trans s2) ok2 h2
/-- a < b < c: b a plain value -/
def wChain (o o' : Dt → Dt → (Dt → Prop) → Prop) (wa wb wc : WE) : WE := fun ρ Ψ => wa ρ fun r1 ρ1 => wb ρ1 fun r2 ρ2 => match r1, r2 with
  | .dat d1, .dat d2 => o d1 d2 fun d => match d with
    | .bl b => if b = true then wc ρ2 fun r3 ρ3 => match r3 with
      | .dat d3 => o' d2 d3 fun d => Ψ (.dat d) ρ3
      | _ => False
      else Ψ (.dat (.bl false)) ρ2
    | _ => False
  | _, _ => False
instance sd_chain {r r' : R2} {o o' : Dt → Dt → (Dt → Prop) → Prop} {ta tb tc : TE} {wa wb wc : WE} [p : So K r o] [p' : So K r' o'] [a : Sd K ta wa] [b : Sd K tb wb] [c : Sd K tc wc] : Sd K (tChain r r' ta tb tc) (wChain o o' wa wb wc) where
  run B C H σ ρ Q Ψ S h k := by
    refine a.run B C H σ ρ _ _ S h fun C1 H1 v1 r1 ρ1 S1 s1 ok1 h1 => ?_
    refine b.run B C1 H1 σ ρ1 _ _ S1 h1 fun C2 H2 v2 r2 ρ2 S2 s2 ok2 h2 => ?_
    cases r1 <;> cases r2 <;> try exact False.elim h2
    rename_i d1 d2
    refine p.run B C2 H2 σ ρ2 _ _ _ _ _ _ S2 (.inl (Rp.same ok1 s2)) (.inl ok2) h2 fun C3 H3 v d S3 s3 r3 z => ?_
    cases d <;> try exact False.elim z
    rename_i e
    cases r3
    refine ⟨e, rfl, ?_⟩
    cases e with
    | false => exact k _ _ _ (.dat _) _ S3 (s1.trans (s2.trans s3)) (.bl _) z
    | true =>
      refine c.run B C3 H3 σ ρ2 _ _ S3 z fun C4 H4 v4 r4 ρ4 S4 s4 ok4 h4 => ?_
      cases r4 <;> try exact False.elim h4
      refine p'.run B C4 H4 σ ρ4 _ _ _ _ _ _ S4 (.inl ((Rp.same ok2 s3).same s4)) (.inl ok4) h4 fun C5 H5 v5 d5 S5 s5 r5 z5 => ?_
      exact k _ _ _ (.dat _) _ S5 (s1.trans (s2.trans (s3.trans (s4.trans s5)))) r5 z5
/-! builtins by name -/
/-! statements -/
structure Fs where
  nx : List Sl → Prop
  rt : Ro → List Sl → Prop
  bk : List Sl → Prop
  ct : List Sl → Prop
abbrev WS := List Sl → Fs → Prop
def RoOk (K : PySem.W.Frag) (B : Bs) (C H : Hp) (σ : L2.St) (ρ : List Sl) (v : V) : Ro → Prop
  | .dat d => Rp K C v d
  | .new ds => ∃ a, v = .ref a ∧ Fr K B C H σ ρ a ds
structure Meets (K : PySem.W.Frag) (B : Bs) (Φ : Fs) (D : Ends) : Prop where
  nx : ∀ C H σ ρ, Sep K B C H σ ρ → Φ.nx ρ → D.nx σ H
  rt : ∀ C H σ ρ v r, Sep K B C H σ ρ → RoOk K B C H σ ρ v r → Φ.rt r ρ → D.rt v H
  bk : ∀ C H σ ρ, Sep K B C H σ ρ → Φ.bk ρ → D.bk σ H
  ct : ∀ C H σ ρ, Sep K B C H σ ρ → Φ.ct ρ → D.ct σ H
class Ss (K : PySem.W.Frag) (t : TS) (w : outParam WS) : Prop where
  run : ∀ (B : Bs) (C H : Hp) (σ : L2.St) (ρ : List Sl) (D : Ends) (Φ : Fs), Sep K B C H σ ρ → w ρ Φ → Meets K B Φ D → t D σ H
instance ss_next : Ss K tNext (fun ρ Φ => Φ.nx ρ) where
  run B C H σ ρ D Φ S h m := m.nx _ _ _ _ S h
def wSeq (wt wu : WS) : WS := fun ρ Φ => wt ρ { Φ with nx := fun ρ' => wu ρ' Φ }
instance ss_seq {t u : TS} {wt wu : WS} [a : Ss K t wt] [b : Ss K u wu] : Ss K (tSeq t u) (wSeq wt wu) where
  run B C H σ ρ D Φ S h m := a.run B C H σ ρ _ _ S h ⟨fun C1 H1 σ1 ρ1 S1 z => b.run B C1 H1 σ1 ρ1 _ _ S1 z m, m.rt, m.bk, m.ct⟩
/-- slot i, no box of the def's own, is put -/
def put (i : Nat) (s : Sl) (ρ : List Sl) (k : List Sl → Prop) : Prop := match i, ρ[i]? with
  | 0, some (.box _) => False
  | _, _ => k (ρ.set i s)
theorem put_run {i : Nat} {s : Sl} {ρ : List Sl} {k : List Sl → Prop} (h : put i s ρ k) : (i = 0 → ∀ n, ρ[i]? ≠ some (.box n)) ∧ k (ρ.set i s) := by
  unfold put at h
  split at h
  · exact h.elim
  · rename_i x y z
    exact ⟨fun e n q => z n e q, h⟩
class Sg (K : PySem.W.Frag) (g : TG) (w : outParam WG) : Prop where
  run : ∀ (B : Bs) (C H : Hp) (σ : L2.St) (ρ : List Sl) (v : V) (d : Dt) (Q : L2.St → Hp → Prop) (Ψ : List Sl → Prop), Sep K B C H σ ρ → Rp K C v d → w d ρ Ψ → (∀ σ' ρ', Sep K B C H σ' ρ' → Ψ ρ' → Q σ' H) → g v σ H Q
instance sg_name {i : Nat} : Sg K (gName i) (fun d ρ k => put i (.dat d) ρ k) where
  run B C H σ ρ v d Q Ψ S r h k := by
    obtain ⟨h1, h2⟩ := put_run h
    exact k _ _ (S.dat h1 r) h2
class Sgs (K : PySem.W.Frag) (g : TGs) (w : outParam (List Dt → List Sl → (List Sl → Prop) → Prop)) : Prop where
  run : ∀ (B : Bs) (C H : Hp) (σ : L2.St) (ρ : List Sl) (vs : List V) (ds : List Dt) (Q : L2.St → Hp → Prop) (Ψ : List Sl → Prop), Sep K B C H σ ρ → RpL K C vs ds → w ds ρ Ψ → (∀ σ' ρ', Sep K B C H σ' ρ' → Ψ ρ' → Q σ' H) → g vs σ H Q
def wgNil : List Dt → List Sl → (List Sl → Prop) → Prop
  | [], ρ, k => k ρ
  | _ :: _, _, _ => False
def wgCons (w : WG) (ws : List Dt → List Sl → (List Sl → Prop) → Prop) : List Dt → List Sl → (List Sl → Prop) → Prop
  | [], _, _ => False
  | d :: ds, ρ, k => w d ρ fun ρ1 => ws ds ρ1 k
instance sgs_nil : Sgs K gNil wgNil where
  run B C H σ ρ vs ds Q Ψ S r h k := by
    cases r with
    | nil => exact And.intro rfl (k _ _ S h)
    | cons a b => exact False.elim h
instance sgs_cons {g : TG} {gs : TGs} {w : WG} {ws : List Dt → List Sl → (List Sl → Prop) → Prop} [a : Sg K g w] [b : Sgs K gs ws] : Sgs K (gCons g gs) (wgCons w ws) where
  run B C H σ ρ vs ds Q Ψ S r h k := by
    cases r with
    | nil => exact False.elim h
    | cons r1 r2 => exact ⟨_, _, rfl, a.run B C H σ ρ _ _ _ _ S r1 h fun σ1 ρ1 S1 h1 => b.run B C H σ1 ρ1 _ _ _ _ S1 r2 h1 k⟩
def wgTup (n : Nat) (ws : List Dt → List Sl → (List Sl → Prop) → Prop) : WG
  | .tup ds, ρ, k => ds.length = n ∧ ws ds ρ k
  | _, _, _ => False
instance sg_tup {n : Nat} {gs : TGs} {ws : List Dt → List Sl → (List Sl → Prop) → Prop} [a : Sgs K gs ws] : Sg K (gTup K n gs) (wgTup n ws) where
  run B C H σ ρ v d Q Ψ S r h k := by
    cases d <;> try exact False.elim h
    cases r with
    | tup hs rl => exact ⟨_, _, rfl, seqT_same S.cold hs, by rw [rl.len]; exact h.1, a.run B C H σ ρ _ _ _ _ S rl h.2 k⟩
def wAsg (w : WE) (wg : WG) : WS := fun ρ Φ => w ρ fun r ρ1 => store r ρ1 fun a ρ2 => match a with
  | .d x => wg x ρ2 Φ.nx
  | .b _ => False
instance (priority := 900) ss_asg {te : TE} {g : TG} {w : WE} {wg : WG} [a : Sd K te w] [b : Sg K g wg] : Ss K (tAsg te g) (wAsg w wg) where
  run B C H σ ρ D Φ S h m := a.run B C H σ ρ _ _ S h fun C1 H1 v1 r1 ρ1 S1 s1 ok1 h1 => by
    obtain ⟨C2, x, ρ2, S2, s2, ok2, h2⟩ := S1.stored ok1 h1
    cases x with
    | b i => exact False.elim h2
    | d x => exact b.run B C2 H1 σ ρ2 _ _ _ _ S2 ok2 h2 fun σ' ρ' S' z => m.nx _ _ _ _ S' z
def wAsgN (i : Nat) (w : WN) : WS := fun ρ Φ => w ρ fun ds ρ1 => put i (.hot ds) ρ1 Φ.nx
instance ss_asgN {te : TE} {i : Nat} {w : WN} [a : Sn K te w] : Ss K (tAsg te (gName i)) (wAsgN i w) where
  run B C H σ ρ D Φ S h m := a.run B C H σ ρ _ _ S h fun C1 H1 a ds ρ1 S1 s1 f z => by
    obtain ⟨h1, h2⟩ := put_run z
    obtain ⟨⟨vs, ha, r⟩, ca, h0, nh⟩ := f
    exact m.nx _ _ _ _ (S1.put (x := some (.ref a)) (s := .hot ds) h1 (fun _ => ⟨a, vs, rfl, ha, r, ca⟩) fun _ b e => by cases e; exact ⟨fun j t _ => nh j t, h0⟩) h2
def wPar (i j : Nat) (wa : WA) : WS := fun ρ Φ => wa ρ fun as ρ1 => match dats as with
  | some [x, y] => put i (.dat x) ρ1 fun ρ2 => put j (.dat y) ρ2 Φ.nx
  | _ => False
instance ss_par {i j : Nat} {ta : TA} {wa : WA} [a : Sa K ta wa] : Ss K (tPar i j ta) (wPar i j wa) where
  run B C H σ ρ D Φ S h m := a.run B C H σ ρ _ _ S h fun C1 H1 vs as ρ1 S1 s1 ok1 h1 => by
    cases q : dats as with
    | none => simp only [q] at h1
    | some ds =>
      simp only [q] at h1
      have r := ok1.dats q
      match ds, r, h1 with
      | [x, y], .cons r1 (.cons r2 .nil), h1 =>
        obtain ⟨p1, h2⟩ := put_run h1
        obtain ⟨p2, h3⟩ := put_run h2
        exact ⟨_, _, rfl, m.nx _ _ _ _ ((S1.dat p1 r1).dat p2 r2) h3⟩
def wRet (w : WE) : WS := fun ρ Φ => w ρ fun r ρ1 => match r with
  | .dat d => Φ.rt (.dat d) ρ1
  | .hot i ds => Φ.rt (.new ds) (ρ1.set i .un)
  | .box _ _ => False
instance (priority := 900) ss_ret {te : TE} {w : WE} [a : Sd K te w] : Ss K (tRet te) (wRet w) where
  run B C H σ ρ D Φ S h m := a.run B C H σ ρ _ _ S h fun C1 H1 v1 r1 ρ1 S1 s1 ok1 h1 => by
    cases r1 with
    | dat d => exact m.rt _ _ _ _ _ (.dat d) S1 ok1 h1
    | box i n => exact False.elim h1
    | hot i ds =>
      obtain ⟨e1, e2⟩ := ok1
      obtain ⟨b, vs, e3, hb, r, cb⟩ := S1.sl i _ e2
      rw [e1] at e3
      cases e3
      have S2 := S1.un (i := i) (x := some (.ref b)) (fun _ n z => by rw [e2] at z; cases z)
      have eσ : σ.set i (some (V.ref b)) = σ := by
        apply List.ext_getElem?
        intro j
        by_cases z : i = j
        · subst z
          rw [set_at (by
            cases Nat.lt_or_ge i σ.length with
            | inl h => exact h
            | inr g => rw [List.getElem?_eq_none g] at e1; cases e1)]
          exact e1.symm
        · rw [set_off z]
      rw [eσ] at S2
      refine m.rt _ _ _ _ _ (.new ds) S2 ⟨b, rfl, ⟨vs, hb, r⟩, cb, S1.loc i b ds e2 e1, fun j t q mt e => ?_⟩ h1
      rcases get_set q with ⟨rfl, rfl, _⟩ | ⟨n, q⟩
      · cases mt
      · exact S1.ne i j b _ _ n e2 q rfl mt e1 e
def wRetN' (w : WN) : WS := fun ρ Φ => w ρ fun ds ρ1 => Φ.rt (.new ds) ρ1
instance ss_retN' {te : TE} {w : WN} [a : Sn K te w] : Ss K (tRet te) (wRetN' w) where
  run B C H σ ρ D Φ S h m := a.run B C H σ ρ _ _ S h fun C1 H1 b ds ρ1 S1 s1 f z => m.rt _ _ _ _ _ (.new ds) S1 ⟨b, rfl, f⟩ z
def wIfS (wc : WT) (wt wu : WS) : WS := fun ρ Φ => wc ρ fun b ρ1 => if b = true then wt ρ1 Φ else wu ρ1 Φ
instance ss_if {tc : TT} {t u : TS} {wc : WT} {wt wu : WS} [c : Sc K tc wc] [a : Ss K t wt] [b : Ss K u wu] : Ss K (tIfS tc t u) (wIfS wc wt wu) where
  run B C H σ ρ D Φ S h m := c.run B C H σ ρ _ _ S h fun C1 H1 e ρ1 S1 s1 h1 => by
    cases e with
    | true => exact a.run B C1 H1 σ ρ1 _ _ S1 h1 m
    | false => exact b.run B C1 H1 σ ρ1 _ _ S1 h1 m
/-- some slots are let go of -/
inductive Wk' : List Sl → List Sl → Prop
  | nil : Wk' [] []
  | same {s : Sl} {ρ ρ' : List Sl} : Wk' ρ ρ' → Wk' (s :: ρ) (s :: ρ')
  | un {s : Sl} {ρ ρ' : List Sl} : Wk' ρ ρ' → Wk' (s :: ρ) (.un :: ρ')
inductive Wk : List Sl → List Sl → Prop
  | nil : Wk [] []
  | same {s : Sl} {ρ ρ' : List Sl} : Wk' ρ ρ' → Wk (s :: ρ) (s :: ρ')
  | un {s : Sl} {ρ ρ' : List Sl} : (∀ n, s ≠ .box n) → Wk' ρ ρ' → Wk (s :: ρ) (.un :: ρ')
theorem Wk'.len : ∀ {ρ ρ' : List Sl}, Wk' ρ ρ' → ρ.length = ρ'.length
  | _, _, .nil => rfl
  | _, _, .same h => congrArg Nat.succ h.len
  | _, _, .un h => congrArg Nat.succ h.len
theorem Wk'.at : ∀ {ρ ρ' : List Sl} {i : Nat} {s : Sl}, Wk' ρ ρ' → ρ'[i]? = some s → s ≠ .un → ρ[i]? = some s
  | _, _, i, s, .nil, h, n => h
  | _, _, 0, s, .same w, h, n => h
  | _, _, 0, s, .un w, h, n => absurd (Option.some.inj h).symm n
  | _, _, i + 1, s, .same w, h, n => Wk'.at (i := i) w h n
  | _, _, i + 1, s, .un w, h, n => Wk'.at (i := i) w h n
theorem Wk.len : ∀ {ρ ρ' : List Sl}, Wk ρ ρ' → ρ.length = ρ'.length
  | _, _, .nil => rfl
  | _, _, .same h => congrArg Nat.succ h.len
  | _, _, .un _ h => congrArg Nat.succ h.len
theorem Wk.at : ∀ {ρ ρ' : List Sl} {i : Nat} {s : Sl}, Wk ρ ρ' → ρ'[i]? = some s → s ≠ .un → ρ[i]? = some s
  | _, _, i, s, .nil, h, n => h
  | _, _, 0, s, .same w, h, n => h
  | _, _, 0, s, .un _ w, h, n => absurd (Option.some.inj h).symm n
  | _, _, i + 1, s, .same w, h, n => Wk'.at (i := i) w h n
  | _, _, i + 1, s, .un _ w, h, n => Wk'.at (i := i) w h n
theorem Wk.box : ∀ {ρ ρ' : List Sl} {n : Int}, Wk ρ ρ' → ρ[0]? = some (.box n) → ρ'[0]? = some (.box n)
  | _, _, n, .nil, h => h
  | _, _, n, .same w, h => h
  | _, _, n, .un z w, h => absurd (Option.some.inj h) (z n)
theorem Sep.weak {B : Bs} {C H : Hp} {σ : L2.St} {ρ ρ' : List Sl} (S : Sep K B C H σ ρ) (w : Wk ρ ρ') : Sep K B C H σ ρ' := by
  have mu : ∀ {t : Sl}, t.mut = true → t ≠ .un := fun m z => by rw [z] at m; cases m
  refine ⟨S.cold, by rw [← w.len]; exact S.len, fun i s h => ?_, fun i j a s t n h1 h2 m1 m2 e1 e2 => S.ne i j a s t n (w.at h1 (mu m1)) (w.at h2 (mu m2)) m1 m2 e1 e2, S.grow, S.new, S.dom, S.keep, fun i a ds h e => S.loc i a ds (w.at h fun z => nomatch z) e, fun i a n h e => S.lob i a n (w.at h fun z => nomatch z) e, fun i a h => ?_, S.pz⟩
  · cases s with
    | un => trivial
    | dat d => exact S.sl i _ (w.at h fun z => nomatch z)
    | hot ds => exact S.sl i _ (w.at h fun z => nomatch z)
    | box n => exact S.sl i _ (w.at h fun z => nomatch z)
  · obtain ⟨h1, n, h2⟩ := S.par i a h
    have e := S.pz i a h
    subst e
    exact ⟨h1, n, w.box h2⟩
/-- to a state that is known less of -/
def To (I : List Sl → Prop) (ρ : List Sl) : Prop := ∃ ρ', Wk ρ ρ' ∧ I ρ'
theorem To.of {I : List Sl → Prop} {ρ ρ' : List Sl} (h : I ρ') (w : Wk ρ ρ') : To I ρ := ⟨ρ', w, h⟩
local macro_rules | `(tactic| get_elem_tactic_trivial) => `(tactic| (repeat first | exact Wk.nil | exact Wk'.nil | refine Wk.same ?_ | refine Wk'.same ?_ | refine Wk.un (fun _ z => nomatch z) ?_ | refine Wk'.un ?_))
/-! loops -/
def ItD (K : PySem.W.Frag) (J : It) (C : Hp) (items : List Dt) : Prop := ∀ B C2 H2 σ2 ρ2, Sep K B C2 H2 σ2 ρ2 → Same C C2 →
  (∀ i, i < items.length → J.go i H2) ∧ J.stop items.length H2 ∧ ∀ i x H' d, items[i]? = some d → J.yld i H2 x H' → ∃ C3, Sep K B C3 H' σ2 ρ2 ∧ Same C2 C3 ∧ Rp K C3 x d
abbrev WI := List Sl → (List Dt → List Sl → Prop) → Prop
class Si (K : PySem.W.Frag) (t : TI) (w : outParam WI) : Prop where
  run : ∀ (B : Bs) (C H : Hp) (σ : L2.St) (ρ : List Sl) (R : It → Hp → Prop) (Ψ : List Dt → List Sl → Prop), Sep K B C H σ ρ → w ρ Ψ → (∀ C' G J items ρ', Sep K B C' G σ ρ' → Same C C' → ItD K J C' items → Ψ items ρ' → R J G) → t σ H R
def wFor (wi : WI) (wg : WG) (wb : WS) : WS := fun ρ Φ => wi ρ fun items ρ1 => ∃ I : Nat → List Sl → Prop, To (I 0) ρ1 ∧
  (∀ k ρ d, items[k]? = some d → I k ρ → wg d ρ fun ρ2 => wb ρ2 { Φ with nx := To (I (k + 1)), ct := To (I (k + 1)), bk := Φ.nx }) ∧ ∀ ρ, I items.length ρ → Φ.nx ρ
instance ss_for {ti : TI} {g : TG} {tb : TS} {wi : WI} {wg : WG} {wb : WS} [i : Si K ti wi] [a : Sg K g wg] [b : Ss K tb wb] : Ss K (tFor ti g tb) (wFor wi wg wb) where
  run B C H σ ρ D Φ S h m := i.run B C H σ ρ _ _ S h fun C1 H1 J items ρ1 S1 s1 hJ h1 => by
    obtain ⟨I, ⟨ρ0, w0, i0⟩, step, fin⟩ := h1
    refine ⟨fun k n σ2 H2 => n = items.length - k ∧ k ≤ items.length ∧ ∃ C2 ρ2, Sep K B C2 H2 σ2 ρ2 ∧ Same C1 C2 ∧ I k ρ2, ⟨_, rfl, Nat.zero_le _, C1, ρ0, S1.weak w0, Same.refl _, i0⟩, ?_⟩
    rintro k n σ2 H2 ⟨rfl, hk, C2, ρ2, S2, s2, hI⟩
    obtain ⟨go, stop, yld⟩ := hJ B C2 H2 σ2 ρ2 S2 s2
    by_cases hlt : k < items.length
    · refine .inr ⟨go k hlt, fun σ3 H3 => ∃ C3 ρ3, Sep K B C3 H3 σ3 ρ3 ∧ Same C1 C3 ∧ I (k + 1) ρ3, fun σ3 H3 ⟨C3, ρ3, S3, s3, h3⟩ => ⟨items.length - (k + 1), by omega, rfl, hlt, C3, ρ3, S3, s3, h3⟩, fun x H' y => ?_⟩
      obtain ⟨C3, S3, s3, r3⟩ := yld k x H' items[k] (List.getElem?_eq_getElem hlt) y
      have st := step k ρ2 _ (List.getElem?_eq_getElem hlt) hI
      refine a.run B C3 H' σ2 ρ2 _ _ _ _ S3 r3 st fun σ4 ρ4 S4 h4 => ?_
      -- the body, over a base that keeps C1's things
      have keep : ∀ C5 H5 σ5 ρ5, Sep K ⟨C3, B.H0, B.bx⟩ C5 H5 σ5 ρ5 → Sep K B C5 H5 σ5 ρ5 ∧ Same C1 C5 := fun C5 H5 σ5 ρ5 z =>
        ⟨⟨z.cold, z.len, z.sl, z.ne, (S3.grow).trans z.grow, fun a o e n => (match q : C3 a with
            | none => z.new a o e q
            | some u => S3.new a u q n), z.dom, z.keep, z.loc, z.lob, z.par, z.pz⟩, (s2.trans s3).trans z.grow⟩
      have S4' : Sep K ⟨C3, B.H0, B.bx⟩ C3 H' σ4 ρ4 := ⟨S4.cold, S4.len, S4.sl, S4.ne, Same.refl _, fun a o e n => (by rw [show C3 a = none from n] at e; cases e), S4.dom, S4.keep, S4.loc, S4.lob, S4.par, S4.pz⟩
      refine b.run ⟨C3, B.H0, B.bx⟩ C3 H' σ4 ρ4 _ _ S4' h4 ⟨fun C5 H5 σ5 ρ5 z h5 => ?_, fun C5 H5 σ5 ρ5 v r z ok h5 => ?_, fun C5 H5 σ5 ρ5 z h5 => ?_, fun C5 H5 σ5 ρ5 z h5 => ?_⟩
      · obtain ⟨ρ6, w6, h6⟩ := h5
        exact ⟨C5, ρ6, (keep _ _ _ _ z).1.weak w6, (keep _ _ _ _ z).2, h6⟩
      · refine m.rt _ _ _ _ v r (keep _ _ _ _ z).1 ?_ h5
        cases r with
        | dat d => exact ok
        | new ds => exact ok
      · exact m.nx _ _ _ _ (keep _ _ _ _ z).1 h5
      · obtain ⟨ρ6, w6, h6⟩ := h5
        exact ⟨C5, ρ6, (keep _ _ _ _ z).1.weak w6, (keep _ _ _ _ z).2, h6⟩
    · have e : k = items.length := by omega
      subst e
      exact .inl ⟨stop, m.nx _ _ _ _ S2 (fin _ hI)⟩
def rngD (lo : Int) (n : Nat) : List Dt := (List.range n).map fun k => .int (lo + (k : Nat))
theorem rng_len {lo : Int} {n : Nat} : (rngD lo n).length = n := by unfold rngD; rw [List.length_map, List.length_range]
theorem rng_at {lo : Int} {n i : Nat} {d : Dt} (h : (rngD lo n)[i]? = some d) : i < n ∧ d = .int (lo + (i : Nat)) := by
  unfold rngD at h
  rw [List.getElem?_map] at h
  by_cases z : i < n
  · rw [List.getElem?_range z] at h
    cases h
    exact ⟨z, rfl⟩
  · rw [List.getElem?_eq_none (by rw [List.length_range]; omega)] at h
    cases h
theorem itd_range {C : Hp} {lo : Int} {n : Nat} : ItD K (Itr lo n) C (rngD lo n) := fun B3 C3 H3 σ3 ρ3 S3 s3 => by
  rw [rng_len]
  refine ⟨fun i hi => hi, Nat.le_refl _, fun i y H' d hd yl => ?_⟩
  obtain ⟨rfl, rfl⟩ := yl
  obtain ⟨_, rfl⟩ := rng_at hd
  exact ⟨C3, S3, Same.refl _, .int _⟩
def rng1 (as : List Ar) (k : List Dt → Prop) : Prop := match as with
  | [.d (.int j)] => -4611686018427387904 ≤ j ∧ j < 4611686018427387904 ∧ k (rngD 0 j.toNat)
  | _ => False
theorem rng1_run {as : List Ar} {k : List Dt → Prop} (h : rng1 as k) : ∃ j, as = [.d (.int j)] ∧ -4611686018427387904 ≤ j ∧ j < 4611686018427387904 ∧ k (rngD 0 j.toNat) := by
  unfold rng1 at h
  split at h
  · exact ⟨_, rfl, h⟩
  · exact h.elim
def wiRng1 (wa : WA) : WI := fun ρ Ψ => wa ρ fun as ρ1 => rng1 as fun l => Ψ l ρ1
instance si_rng1 {ta : TA} {wa : WA} [a : Sa K ta wa] : Si K (iRng1 ta) (wiRng1 wa) where
  run B C H σ ρ R Ψ S h k := a.run B C H σ ρ _ _ S h fun C1 H1 vs as ρ1 S1 s1 ok1 h1 => by
    obtain ⟨j, rfl, h1⟩ := rng1_run h1
    match ok1 with
    | .cons r .nil =>
      cases r
      exact ⟨j, rfl, h1.1, h1.2.1, k _ _ _ _ _ S1 s1 itd_range h1.2.2⟩

end
section
variable {P : Program} {w : World} {K : PySem.W.Frag} {mg : Str → Option Value} {base : Heap}
local macro_rules | `(tactic| get_elem_tactic_trivial) => `(tactic| (repeat first | exact Wk.nil | exact Wk'.nil | refine Wk.same ?_ | refine Wk'.same ?_ | refine Wk.un (fun _ z => nomatch z) ?_ | refine Wk'.un ?_))
/-! a new thing is held while others go on -/
def Bs.hold (B : Bs) (D : Addr) (o : HO) : Bs := ⟨B.C0, upd B.H0 D o, B.bx⟩
section
variable {B : Bs} {C H G : Hp} {σ : L2.St} {ρ : List Sl}
theorem Sep.bxne (S : Sep K B C H σ ρ) {D : Addr} (nh : ∀ (j : Nat) (t : Sl), ρ[j]? = some t → t.mut = true → σ[j]? ≠ some (some (V.ref D))) (i : Nat) : B.bx ≠ some (i, D) := fun e => by
  obtain ⟨h1, n, h2⟩ := S.par i D e
  exact nh i _ h2 rfl h1
theorem Sep.hold (S : Sep K B C H σ ρ) {D : Addr} {o : HO} (hD : H D = some o) (cD : C D = none) (nh : ∀ (j : Nat) (t : Sl), ρ[j]? = some t → t.mut = true → σ[j]? ≠ some (some (V.ref D))) : Sep K (B.hold D o) C H σ ρ := by
  have nD : ∀ (j : Nat) (t : Sl) (a : Addr), ρ[j]? = some t → t.mut = true → σ[j]? = some (some (V.ref a)) → a ≠ D := fun j t a h m e z => nh j t h m (z ▸ e)
  refine ⟨S.cold, S.len, S.sl, S.ne, S.grow, fun a x e n => ?_, fun a h => ?_, fun a x h n => ?_, fun i a ds h e => ?_, fun i a n h e => ?_, S.par, S.pz⟩
  · have z : a ≠ D := fun q => by rw [q, cD] at e; cases e
    show upd B.H0 D o a = none
    rw [upd_ne z]
    exact S.new a x e n
  · by_cases z : a = D
    · rw [z, hD]
      exact fun q => nomatch q
    · have h' : upd B.H0 D o a ≠ none := h
      rw [upd_ne z] at h'
      exact S.dom a h'
  · have h' : upd B.H0 D o a = some x := h
    by_cases z : a = D
    · rw [z, upd_same] at h'
      rw [z, hD]
      exact h'
    · rw [upd_ne z] at h'
      exact S.keep a x h' n
  · show upd B.H0 D o a = none
    rw [upd_ne (nD i _ a h rfl e)]
    exact S.loc i a ds h e
  · show upd B.H0 D o a = none ∨ _
    rw [upd_ne (nD i _ a h rfl e)]
    exact S.lob i a n h e
theorem Sep.unhold {D : Addr} {o : HO} (S : Sep K (B.hold D o) C H σ ρ) (h0 : B.H0 D = none) (c0 : B.C0 D = none) (bx : ∀ i, B.bx ≠ some (i, D)) : Sep K B C H σ ρ ∧ H D = some o ∧ C D = none ∧ ∀ (j : Nat) (t : Sl), ρ[j]? = some t → t.mut = true → σ[j]? ≠ some (some (V.ref D)) := by
  have up : ∀ a, (B.hold D o).H0 a = none → B.H0 a = none := fun a h => by
    by_cases z : a = D
    · rw [z]; exact h0
    · have h' : upd B.H0 D o a = none := h
      rw [upd_ne z] at h'
      exact h'
  have atD : (B.hold D o).H0 D = some o := upd_same
  have hc : C D = none := by
    cases q : C D with
    | none => rfl
    | some x =>
      have := S.new D x q c0
      rw [atD] at this
      cases this
  refine ⟨⟨S.cold, S.len, S.sl, S.ne, S.grow, fun a x e n => up a (S.new a x e n), fun a h => S.dom a ?_, fun a x h n => S.keep a x ?_ n, fun i a ds h e => up a (S.loc i a ds h e), fun i a n h e => (S.lob i a n h e).imp (up a) id, S.par, S.pz⟩, S.keep D o atD bx, hc, fun j t h m e => ?_⟩
  · show upd B.H0 D o a ≠ none
    by_cases z : a = D
    · rw [z, upd_same]
      exact fun q => nomatch q
    · rw [upd_ne z]
      exact h
  · show upd B.H0 D o a = some x
    rw [upd_ne (fun z => by rw [z, h0] at h; cases h)]
    exact h
  · cases t with
    | un => cases m
    | dat d => cases m
    | hot ds =>
      have := S.loc j D ds h e
      rw [atD] at this
      cases this
    | box n =>
      rcases S.lob j D n h e with q | q
      · rw [atD] at q
        cases q
      · exact bx j q
/-- slots wiped -/
def wipeR (ρ : List Sl) : List Nat → List Sl
  | [] => ρ
  | v :: vs => (wipeR ρ vs).set v .un
def isBox : Option Sl → Bool
  | some (.box _) => true
  | _ => false
def noBox (ρ : List Sl) (vs : List Nat) : Bool := vs.all fun v => v != 0 || !isBox ρ[v]?
theorem noBox_at {ρ : List Sl} {vs : List Nat} (h : noBox ρ vs = true) : ∀ v ∈ vs, v = 0 → ∀ n, ρ[v]? ≠ some (.box n) := fun v hv z n e => by
  have := List.all_eq_true.mp h v hv
  rw [e, z] at this
  cases this
def subB (is vs : List Nat) : Bool := is.all fun i => vs.contains i
theorem subB_at {is vs : List Nat} (h : subB is vs = true) : ∀ i ∈ is, i ∈ vs := fun i hi => by
  have := List.all_eq_true.mp h i hi
  exact List.contains_iff_mem.mp this
theorem wipeR_at : ∀ (vs : List Nat) (j : Nat) (t : Sl), (wipeR ρ vs)[j]? = some t → (j ∈ vs ∧ t = .un) ∨ (j ∉ vs ∧ ρ[j]? = some t)
  | [], j, t, h => .inr ⟨by simp, h⟩
  | v :: vs, j, t, h => by
    rcases get_set h with ⟨rfl, rfl, _⟩ | ⟨n, h⟩
    · exact .inl ⟨by simp, rfl⟩
    · rcases wipeR_at vs j t h with ⟨a, b⟩ | ⟨a, b⟩
      · exact .inl ⟨List.mem_cons_of_mem _ a, b⟩
      · exact .inr ⟨fun z => by
          rcases List.mem_cons.mp z with z | z
          · exact n z.symm
          · exact a z, b⟩
theorem wipe_off : ∀ (vs : List Nat) (j : Nat), j ∉ vs → (wipe σ vs)[j]? = σ[j]?
  | [], _, _ => rfl
  | v :: vs, j, h => by
    show ((wipe σ vs).set v none)[j]? = _
    rw [set_off (fun z => h (by rw [z]; exact List.mem_cons_self ..))]
    exact wipe_off vs j fun z => h (List.mem_cons_of_mem _ z)
theorem wipeR_len : ∀ vs : List Nat, (wipeR ρ vs).length = ρ.length
  | [] => rfl
  | v :: vs => by
    show ((wipeR ρ vs).set v .un).length = _
    rw [List.length_set]
    exact wipeR_len vs
theorem wipeR_keep : ∀ (vs : List Nat) (j : Nat), j ∉ vs → (wipeR ρ vs)[j]? = ρ[j]?
  | [], _, _ => rfl
  | v :: vs, j, h => by
    show ((wipeR ρ vs).set v .un)[j]? = _
    rw [set_off (fun z => h (by rw [z]; exact List.mem_cons_self ..))]
    exact wipeR_keep vs j fun z => h (List.mem_cons_of_mem _ z)
/-- the slots vs are no matter -/
theorem Sep.swap {σ' : L2.St} {vs : List Nat} (S : Sep K B C H σ ρ) (nb : noBox ρ vs = true) (e : wipe σ' vs = wipe σ vs) : Sep K B C H σ' (wipeR ρ vs) := by
  have at_ : ∀ (j : Nat) (t : Sl), (wipeR ρ vs)[j]? = some t → t ≠ .un → ρ[j]? = some t ∧ σ'[j]? = σ[j]? := fun j t h n => by
    rcases wipeR_at vs j t h with ⟨_, z⟩ | ⟨a, b⟩
    · exact absurd z n
    · refine ⟨b, ?_⟩
      rw [← wipe_off (σ := σ') vs j a, ← wipe_off (σ := σ) vs j a, e]
  have mu : ∀ {t : Sl}, t.mut = true → t ≠ .un := fun m z => by rw [z] at m; cases m
  have le : σ'.length = σ.length := by rw [← wipe_length σ' vs, ← wipe_length σ vs, e]
  refine ⟨S.cold, by rw [wipeR_len, le]; exact S.len, fun i s h => ?_, fun i j a s t n h1 h2 m1 m2 e1 e2 => ?_, S.grow, S.new, S.dom, S.keep, fun i a ds h q => ?_, fun i a n h q => ?_, fun i a h => ?_, S.pz⟩
  · cases s with
    | un => trivial
    | dat d => rw [(at_ i _ h (fun z => nomatch z)).2]; exact S.sl i _ (at_ i _ h (fun z => nomatch z)).1
    | hot ds => rw [(at_ i _ h (fun z => nomatch z)).2]; exact S.sl i _ (at_ i _ h (fun z => nomatch z)).1
    | box n => rw [(at_ i _ h (fun z => nomatch z)).2]; exact S.sl i _ (at_ i _ h (fun z => nomatch z)).1
  · rw [(at_ i _ h1 (mu m1)).2] at e1
    rw [(at_ j _ h2 (mu m2)).2] at e2
    exact S.ne i j a s t n (at_ i _ h1 (mu m1)).1 (at_ j _ h2 (mu m2)).1 m1 m2 e1 e2
  · rw [(at_ i _ h (fun z => nomatch z)).2] at q
    exact S.loc i a ds (at_ i _ h (fun z => nomatch z)).1 q
  · rw [(at_ i _ h (fun z => nomatch z)).2] at q
    exact S.lob i a n (at_ i _ h (fun z => nomatch z)).1 q
  · obtain ⟨h1, n, h2⟩ := S.par i a h
    have ni : i ∉ vs := fun z => noBox_at nb i z (S.pz i a h) n h2
    refine ⟨?_, n, by rw [wipeR_keep vs i ni]; exact h2⟩
    rw [← wipe_off (σ := σ') vs i ni, e, wipe_off vs i ni]
    exact h1
end
theorem wipe_wipe {σ : L2.St} : ∀ vs : List Nat, ∀ j : Nat, (wipe (wipe σ vs) vs)[j]? = (wipe σ vs)[j]? := fun vs j => by
  have key : ∀ (ws : List Nat) (τ : L2.St), (∀ v ∈ ws, ∀ x, τ[v]? = some x → x = none) → wipe τ ws = τ := fun ws => by
    induction ws with
    | nil => intro τ _; rfl
    | cons v ws ih =>
      intro τ h
      show (wipe τ ws).set v none = τ
      rw [ih τ fun u hu => h u (List.mem_cons_of_mem _ hu)]
      apply List.ext_getElem?
      intro i
      by_cases z : v = i
      · subst z
        by_cases l : v < τ.length
        · rw [set_at l, List.getElem?_eq_getElem l]
          exact congrArg some (h v (List.mem_cons_self ..) _ (List.getElem?_eq_getElem l)).symm
        · rw [List.getElem?_eq_none (by rw [List.length_set]; omega), List.getElem?_eq_none (by omega)]
      · rw [set_off z]
  have wiped : ∀ (ws : List Nat) (τ : L2.St), ∀ v ∈ ws, ∀ x, (wipe τ ws)[v]? = some x → x = none := fun ws => by
    induction ws with
    | nil => intro τ v hv; cases hv
    | cons u ws ih =>
      intro τ v hv x h
      rcases get_set (show ((wipe τ ws).set u none)[v]? = some x from h) with ⟨_, rfl, _⟩ | ⟨n, h⟩
      · rfl
      · rcases List.mem_cons.mp hv with q | q
        · exact absurd q.symm n
        · exact ih τ v q x h
  rw [key vs (wipe σ vs) (wiped vs σ)]
theorem wipe2 {σ : L2.St} (vs : List Nat) : wipe (wipe σ vs) vs = wipe σ vs := List.ext_getElem? (wipe_wipe vs)
theorem wipe_in {σ : L2.St} : ∀ (vs : List Nat) (j : Nat), j ∈ vs → (wipe σ vs)[j]? = if j < σ.length then some none else none
  | [], j, h => by cases h
  | v :: vs, j, h => by
    show ((wipe σ vs).set v none)[j]? = _
    by_cases z : v = j
    · subst z
      by_cases l : v < σ.length
      · rw [set_at (by rw [wipe_length]; exact l), if_pos l]
      · rw [List.getElem?_eq_none (by rw [List.length_set, wipe_length]; omega), if_neg l]
    · rw [set_off z]
      refine wipe_in vs j ?_
      rcases List.mem_cons.mp h with q | q
      · exact absurd q.symm z
      · exact q
theorem wipe_eq {σ σ' : L2.St} {vs is : List Nat} (l : σ'.length = σ.length) (h : ∀ j : Nat, j ∉ is → σ'[j]? = σ[j]?) (sub : ∀ i ∈ is, i ∈ vs) : wipe σ' vs = wipe σ vs := by
  apply List.ext_getElem?
  intro j
  by_cases z : j ∈ vs
  · rw [wipe_in vs j z, wipe_in vs j z, l]
  · rw [wipe_off vs j z, wipe_off vs j z, h j fun q => z (sub j q)]
/-- the slots that a target writes -/
class Sw (g : TG) (is : outParam (List Nat)) : Prop where
  run : ∀ (v : V) (σ : L2.St) (H : Hp) (R R' : L2.St → Hp → Prop), g v σ H R → (∀ σ' H', (σ'.length = σ.length ∧ ∀ j : Nat, j ∉ is → σ'[j]? = σ[j]?) → R σ' H' → R' σ' H') → g v σ H R'
class Sws (g : TGs) (is : outParam (List Nat)) : Prop where
  run : ∀ (v : List V) (σ : L2.St) (H : Hp) (R R' : L2.St → Hp → Prop), g v σ H R → (∀ σ' H', (σ'.length = σ.length ∧ ∀ j : Nat, j ∉ is → σ'[j]? = σ[j]?) → R σ' H' → R' σ' H') → g v σ H R'
instance sw_name {i : Nat} : Sw (gName i) [i] where
  run v σ H R R' h k := k _ _ ⟨by rw [List.length_set], fun j n => set_off fun z => n (by rw [z]; exact List.mem_cons_self ..)⟩ h
instance sws_nil : Sws gNil [] where
  run v σ H R R' h k := And.intro h.1 (k _ _ ⟨rfl, fun _ _ => rfl⟩ h.2)
instance sws_cons {g : TG} {gs : TGs} {is js : List Nat} [a : Sw g is] [b : Sws gs js] : Sws (gCons g gs) (is ++ js) where
  run v σ H R R' h k := by
    obtain ⟨u, r, e, h⟩ := h
    refine ⟨u, r, e, a.run _ _ _ _ _ h fun σ1 H1 ⟨l1, o1⟩ h1 => b.run _ _ _ _ _ h1 fun σ2 H2 ⟨l2, o2⟩ h2 => k _ _ ⟨l2.trans l1, fun j n => ?_⟩ h2⟩
    rw [o2 j fun z => n (List.mem_append_right _ z), o1 j fun z => n (List.mem_append_left _ z)]
instance sw_tup {K : PySem.W.Frag} {n : Nat} {gs : TGs} {is : List Nat} [b : Sws gs is] : Sw (gTup K n gs) is where
  run v σ H R R' h k := by
    obtain ⟨a, xs, e, hs, l, h⟩ := h
    exact ⟨a, xs, e, hs, l, b.run _ _ _ _ _ h k⟩
/-! [e for x in it if t] -/
def lcEnd (vs : List Nat) (acc : List Dt) (a : Ar) (ρ : List Sl) (k : List Dt → List Sl → Prop) : Prop := match a with
  | .d x => noBox ρ vs = true ∧ acc.length < sizeLine ∧ k (acc ++ [x]) (wipeR ρ vs)
  | .b _ => False
def wLc (is : List Nat) (wi : WI) (wg : WG) (wt : WT) (we : WE) (vs : List Nat) : WN := fun ρ Ψ => wi ρ fun items ρ1 => (noBox ρ1 vs = true ∧ subB is vs = true) ∧ ∃ I : Nat → List Dt → List Sl → Prop, I 0 [] (wipeR ρ1 vs) ∧
  (∀ k acc ρ d, items[k]? = some d → I k acc ρ → wg d ρ fun ρ2 => wt ρ2 fun b ρ3 => if b = true then we ρ3 fun r ρ4 => store r ρ4 fun a ρ5 => lcEnd vs acc a ρ5 (I (k + 1))
    else noBox ρ3 vs = true ∧ I (k + 1) acc (wipeR ρ3 vs)) ∧ ∀ acc ρ, I items.length acc ρ → noBox ρ vs = true ∧ Ψ acc (wipeR ρ vs)
instance sn_lc {ti : TI} {g : TG} {tt : TT} {te : TE} {vs is : List Nat} {wi : WI} {wg : WG} {wt : WT} {we : WE} [i : Si K ti wi] [a : Sg K g wg] [s : Sw g is] [c : Sc K tt wt] [b : Sd K te we] : Sn K (tLc ti g tt te vs) (wLc is wi wg wt we vs) where
  run B C H σ ρ Q Ψ S h kk := i.run B C H σ ρ _ _ S h fun C1 H1 J items ρ1 S1 s1 hJ h1 => by
    obtain ⟨⟨nb1, sub⟩, I, i0, step, fin⟩ := h1
    intro D hD
    have h0D := S1.free0 hD
    have cD1 := S1.cold.free hD
    have c0D : B.C0 D = none := S1.grow.free cD1
    have nh1 := S1.nohot hD
    have bxD := S1.bxne nh1
    refine ⟨fun k n H2 => n = items.length - k ∧ k ≤ items.length ∧ ∃ C2 ρ2 ws acc, Sep K B C2 H2 (wipe σ vs) ρ2 ∧ Same C1 C2 ∧ H2 D = some (.lst ws) ∧ C2 D = none ∧ (∀ (j : Nat) (t : Sl), ρ2[j]? = some t → t.mut = true → (wipe σ vs)[j]? ≠ some (some (V.ref D))) ∧ RpL K C2 ws acc ∧ I k acc ρ2, ⟨_, rfl, Nat.zero_le _, C1, wipeR ρ1 vs, [], [], ?_, Same.refl _, upd_same, cD1, ?_, .nil, i0⟩, ?_⟩
    · exact (S1.allocN hD).swap nb1 (wipe2 vs)
    · exact ((S1.swap (σ' := wipe σ vs) nb1 (wipe2 vs))).nohot hD
    rintro k n H2 ⟨rfl, hk, C2, ρ2, ws, acc, S2, s2, hD2, cD2, nh2, r2, hI⟩
    have S2' := S2.hold hD2 cD2 nh2
    obtain ⟨go, stop, yld⟩ := hJ _ C2 H2 _ ρ2 S2' s2
    by_cases hlt : k < items.length
    · refine .inr ⟨go k hlt, fun H3 => ∃ C3 ρ3 ws acc, Sep K B C3 H3 (wipe σ vs) ρ3 ∧ Same C1 C3 ∧ H3 D = some (.lst ws) ∧ C3 D = none ∧ (∀ (j : Nat) (t : Sl), ρ3[j]? = some t → t.mut = true → (wipe σ vs)[j]? ≠ some (some (V.ref D))) ∧ RpL K C3 ws acc ∧ I (k + 1) acc ρ3, fun H3 ⟨C3, ρ3, ws, acc, q⟩ => ⟨items.length - (k + 1), by omega, rfl, hlt, C3, ρ3, ws, acc, q⟩, fun x H' y => ?_⟩
      obtain ⟨C3, S3, s3, r3⟩ := yld k x H' items[k] (List.getElem?_eq_getElem hlt) y
      have st := step k acc ρ2 _ (List.getElem?_eq_getElem hlt) hI
      refine s.run _ _ _ _ _ (a.run _ C3 H' _ ρ2 _ _ (fun σ4 H4 => ∃ ρ4, H4 = H' ∧ Sep K (B.hold D (.lst ws)) C3 H' σ4 ρ4 ∧ wt ρ4 fun b ρ3 => if b = true then we ρ3 fun r ρ4 => store r ρ4 fun a ρ5 => lcEnd vs acc a ρ5 (I (k + 1)) else noBox ρ3 vs = true ∧ I (k + 1) acc (wipeR ρ3 vs)) _ S3 r3 st fun σ4 ρ4 S4 h4 => ⟨ρ4, rfl, S4, h4⟩) fun σ4 H4 ⟨l4, o4⟩ ⟨ρ4, e4, S4, h4⟩ => ?_
      subst e4
      have w4 : wipe σ4 vs = wipe σ vs := (wipe_eq l4 o4 (subB_at sub)).trans (wipe2 vs)
      refine ⟨w4, c.run _ C3 _ σ4 ρ4 _ _ S4 h4 fun C5 H5 e ρ5 S5 s5 h5 => ?_⟩
      have w4' : wipe (wipe σ vs) vs = wipe σ4 vs := (wipe2 vs).trans w4.symm
      cases e with
      | false =>
        obtain ⟨n5, z5⟩ := h5
        obtain ⟨S6, q6, c6, nh6⟩ := (S5.swap n5 w4').unhold h0D c0D bxD
        exact ⟨C5, _, ws, acc, S6, s2.trans (s3.trans s5), q6, c6, nh6, r2.same (s3.trans s5), z5⟩
      | true =>
        refine b.run _ C5 H5 σ4 ρ5 _ _ S5 h5 fun C6 H6 v6 r6 ρ6 S6 s6 ok6 h6 => ?_
        obtain ⟨C7, x7, ρ7, S7, s7, ok7, h7⟩ := S6.stored ok6 h6
        cases x7 with
        | b i => exact False.elim h7
        | d x =>
          obtain ⟨n7, z7, z8⟩ := h7
          obtain ⟨S8, q8, c8, nh8⟩ := (S7.swap n7 w4').unhold h0D c0D bxD
          have sm := s3.trans (s5.trans (s6.trans s7))
          refine ⟨ws, q8, by rw [r2.len]; exact z7, C7, _, ws ++ [v6], acc ++ [x], ?_, s2.trans sm, upd_same, c8, nh8, (r2.same sm).append (.cons ok7 .nil), z8⟩
          have hd := (S8.hold q8 c8 nh8)
          refine ⟨fun b o q => ?_, S8.len, fun j t q => ?_, S8.ne, S8.grow, S8.new, fun b q => ?_, fun b o q n => ?_, S8.loc, S8.lob, S8.par, S8.pz⟩
          · rw [upd_ne (fun z => by rw [z, c8] at q; cases q)]
            exact S8.cold _ _ q
          · have w := S8.sl j t q
            cases t with
            | un => trivial
            | dat d => exact w
            | hot es =>
              obtain ⟨b, us, e3, g2, g3, g4⟩ := w
              have np : b ≠ D := fun z => nh8 j _ q rfl (z ▸ e3)
              exact ⟨b, us, e3, by rw [upd_ne np]; exact g2, g3, g4⟩
            | box m =>
              obtain ⟨b, e3, ⟨x, y, z, g2, g3⟩, g4⟩ := w
              have np : b ≠ D := fun z => nh8 j _ q rfl (z ▸ e3)
              exact ⟨b, e3, ⟨x, y, z, by rw [upd_ne np]; exact g2, g3⟩, g4⟩
          · by_cases z : b = D
            · rw [z, upd_same]
              exact fun z => nomatch z
            · rw [upd_ne z]
              exact S8.dom b q
          · rw [upd_ne (fun z => by rw [z, h0D] at q; cases q)]
            exact S8.keep b o q n
    · have e : k = items.length := by omega
      subst e
      obtain ⟨nf, z⟩ := fin _ _ hI
      have S3 := S2.swap (σ' := σ) nf (wipe2 vs).symm
      refine .inl ⟨stop, kk C2 H2 D acc _ S3 (s1.trans s2) ⟨⟨ws, hD2, r2⟩, cD2, h0D, fun j t q m e => ?_⟩ z⟩
      rcases wipeR_at vs j t q with ⟨_, q2⟩ | ⟨nj, q2⟩
      · rw [q2] at m
        cases m
      · exact nh2 j t q2 m (by rw [wipe_off vs j nj]; exact e)

end
section
variable {P : Program} {w : World} {K : PySem.W.Frag} {mg : Str → Option Value} {base : Heap}
local macro_rules | `(tactic| get_elem_tactic_trivial) => `(tactic| (repeat first | exact Wk.nil | exact Wk'.nil | refine Wk.same ?_ | refine Wk'.same ?_ | refine Wk.un (fun _ z => nomatch z) ?_ | refine Wk'.un ?_))
/-! defs over data -/
abbrev WF := List Sl → (Ro → List Sl → Prop) → Prop
def spD (K : PySem.W.Frag) (n : Nat) (wf : WF) : Sp := fun vs H Q _ => vs.length = n ∧ ∃ (C : Hp) (bx : Option (Nat × Addr)) (ps : List Sl) (Ψ : Ro → List Sl → Prop), Sep K ⟨C, H, bx⟩ C H (vs.map some) ps ∧ wf ps Ψ ∧
  ∀ C' G v r ps', Sep K ⟨C, H, bx⟩ C' G (vs.map some) ps' → RoOk K ⟨C, H, bx⟩ C' G (vs.map some) ps' v r → Ψ r ps' → Q v G
/-- one that tells a new list -/
def spN (K : PySem.W.Frag) (n : Nat) (wf : List Sl → (List Dt → List Sl → Prop) → Prop) : Sp := spD K n fun ps Ψ => wf ps fun ds ps' => Ψ (.new ds) ps'
def mrg : List Sl → List Sl → List Sl
  | [], _ => []
  | .box n :: ps, [] => .box n :: mrg ps []
  | .box _ :: ps, s :: ρ => s :: mrg ps ρ
  | p :: ps, [] => p :: mrg ps []
  | p :: ps, _ :: ρ => p :: mrg ps ρ
theorem mrg_len : ∀ ps ρ : List Sl, (mrg ps ρ).length = ps.length
  | [], _ => by unfold mrg; rfl
  | p :: ps, [] => by cases p <;> (unfold mrg; exact congrArg Nat.succ (mrg_len ps []))
  | p :: ps, s :: ρ => by cases p <;> (unfold mrg; exact congrArg Nat.succ (mrg_len ps ρ))
theorem mrg_at : ∀ (ps ρ : List Sl) (i : Nat) (s : Sl), (mrg ps ρ)[i]? = some s → (∃ n, ps[i]? = some (.box n) ∧ (ρ[i]? = some s ∨ (ρ[i]? = none ∧ s = .box n))) ∨ (ps[i]? = some s ∧ ∀ n, s ≠ .box n)
  | [], _, i, s, h => by unfold mrg at h; simp at h
  | p :: ps, [], 0, s, h => by
    cases p <;> (unfold mrg at h; have e := Option.some.inj h; subst e)
    · exact .inr ⟨rfl, fun n z => nomatch z⟩
    · exact .inr ⟨rfl, fun n z => nomatch z⟩
    · exact .inr ⟨rfl, fun n z => nomatch z⟩
    · exact .inl ⟨_, rfl, .inr ⟨rfl, rfl⟩⟩
  | p :: ps, t :: ρ, 0, s, h => by
    cases p <;> (unfold mrg at h; have e := Option.some.inj h; subst e)
    · exact .inr ⟨rfl, fun n z => nomatch z⟩
    · exact .inr ⟨rfl, fun n z => nomatch z⟩
    · exact .inr ⟨rfl, fun n z => nomatch z⟩
    · exact .inl ⟨_, rfl, .inl rfl⟩
  | p :: ps, [], i + 1, s, h => by
    have h2 : (mrg ps [])[i]? = some s := by cases p <;> (unfold mrg at h; exact h)
    rcases mrg_at ps [] i s h2 with ⟨n, a, b⟩ | q
    · refine .inl ⟨n, a, ?_⟩
      rcases b with b | b
      · simp at b
      · exact .inr ⟨rfl, b.2⟩
    · exact .inr q
  | p :: ps, t :: ρ, i + 1, s, h => by
    have h2 : (mrg ps ρ)[i]? = some s := by cases p <;> (unfold mrg at h; exact h)
    exact mrg_at ps ρ i s h2
theorem mrg_box : ∀ (ps ρ : List Sl) (i : Nat) (n m : Int), ps[i]? = some (.box n) → ρ[i]? = some (.box m) → (mrg ps ρ)[i]? = some (.box m)
  | p :: ps, t :: ρ, 0, n, m, h, g => by
    have e := Option.some.inj h
    subst e
    unfold mrg
    exact g
  | p :: ps, t :: ρ, i + 1, n, m, h, g => by
    have := mrg_box ps ρ i n m h g
    cases p <;> (unfold mrg; exact this)
  | [], _, i, n, m, h, g => by simp at h
  | p :: ps, [], i, n, m, h, g => by simp at g
/-- a def's own end, told of its arguments -/
theorem Sep.args {C H C' G : Hp} {bx : Option (Nat × Addr)} {vs : List V} {ps ρ : List Sl} {σ : L2.St} (S0 : Sep K ⟨C, H, bx⟩ C H (vs.map some) ps) (S : Sep K ⟨C, H, bx⟩ C' G σ ρ) : Sep K ⟨C, H, bx⟩ C' G (vs.map some) (mrg ps ρ) := by
  have nohot : ∀ (i : Nat) (ds : List Dt), ps[i]? ≠ some (.hot ds) := fun i ds e => by
    obtain ⟨a, us, e2, ha, _⟩ := S0.sl i _ e
    have := S0.loc i a ds e e2
    rw [show (⟨C, H, bx⟩ : Bs).H0 a = H a from rfl, ha] at this
    cases this
  have box : ∀ (i : Nat) (n : Int), ps[i]? = some (.box n) → ∃ a m, bx = some (i, a) ∧ (vs.map some)[i]? = some (some (V.ref a)) ∧ σ[i]? = some (some (V.ref a)) ∧ ρ[i]? = some (.box m) := fun i n e => by
    obtain ⟨a, e2, ⟨x, y, z, ha, _⟩, _⟩ := S0.sl i _ e
    rcases S0.lob i a n e e2 with q | q
    · rw [show (⟨C, H, bx⟩ : Bs).H0 a = H a from rfl, ha] at q
      cases q
    · obtain ⟨g1, m, g2⟩ := S.par i a q
      exact ⟨a, m, q, e2, g1, g2⟩
  have case_ : ∀ (i : Nat) (s : Sl), (mrg ps ρ)[i]? = some s → (∃ a m, s = .box m ∧ bx = some (i, a) ∧ (vs.map some)[i]? = some (some (V.ref a)) ∧ σ[i]? = some (some (V.ref a)) ∧ ρ[i]? = some (.box m)) ∨ (ps[i]? = some s ∧ s.mut = false) := fun i s h => by
    rcases mrg_at ps ρ i s h with ⟨n, e, q⟩ | ⟨e, q⟩
    · obtain ⟨a, m, g1, g2, g3, g4⟩ := box i n e
      rcases q with q | ⟨q, _⟩
      · rw [g4] at q
        cases q
        exact .inl ⟨a, m, rfl, g1, g2, g3, g4⟩
      · rw [g4] at q
        cases q
    · cases s with
      | un => exact .inr ⟨e, rfl⟩
      | dat d => exact .inr ⟨e, rfl⟩
      | hot ds => exact absurd e (nohot i ds)
      | box n => exact absurd rfl (q n)
  refine ⟨S.cold, by rw [mrg_len]; exact S0.len, fun i s h => ?_, fun i j a s t n h1 h2 m1 m2 e1 e2 => ?_, S.grow, S.new, S.dom, S.keep, fun i a ds h e => ?_, fun i a n h e => ?_, fun i a h => ?_, S.pz⟩
  · rcases case_ i s h with ⟨a, m, rfl, g1, g2, g3, g4⟩ | ⟨g1, g2⟩
    · obtain ⟨b, e, q⟩ := S.sl i _ g4
      rw [g3] at e
      cases e
      exact ⟨a, g2, q⟩
    · have q := S0.sl i s g1
      cases s with
      | un => trivial
      | dat d =>
        obtain ⟨v, e, r⟩ := q
        exact ⟨v, e, r.same S.grow⟩
      | hot ds => cases g2
      | box n => cases g2
  · rcases case_ i s h1 with ⟨b, m, rfl, g1, _⟩ | ⟨_, g2⟩
    · rcases case_ j t h2 with ⟨c, m', rfl, k1, _⟩ | ⟨_, g2⟩
      · rw [g1] at k1
        cases k1
        exact n rfl
      · rw [g2] at m2
        cases m2
    · rw [g2] at m1
      cases m1
  · rcases case_ i _ h with ⟨b, m, z, g1, _⟩ | ⟨_, g2⟩
    · cases z
    · cases g2
  · rcases case_ i _ h with ⟨b, m, z, g1, g2, _⟩ | ⟨_, g2⟩
    · rw [g2] at e
      cases e
      exact .inr g1
    · cases g2
  · obtain ⟨h1, n, h2⟩ := S0.par i a h
    obtain ⟨g1, m, g2⟩ := S.par i a h
    exact ⟨h1, m, mrg_box ps ρ i n m h2 g2⟩
def fin (ps : List Sl) (Ψ : Ro → List Sl → Prop) : Fs := ⟨fun ρ => Ψ (.dat .non) (mrg ps ρ), fun r ρ => Ψ r (mrg ps ρ), fun _ => False, fun _ => False⟩
theorem start_sep {C H : Hp} {bx : Option (Nat × Addr)} {N : List Str} {vs : List V} {ps : List Sl} (S : Sep K ⟨C, H, bx⟩ C H (vs.map some) ps) : Sep K ⟨C, H, bx⟩ C H (start N vs) (ps ++ List.replicate (N.length - vs.length) .un) := by
  have hl : vs.length = ps.length := by have := S.len; rw [List.length_map] at this; exact this
  have at_ : ∀ (i : Nat) (s : Sl), (ps ++ List.replicate (N.length - vs.length) Sl.un)[i]? = some s → s ≠ .un → ps[i]? = some s ∧ (start N vs)[i]? = (vs.map some)[i]? := fun i s h n => by
    by_cases z : i < ps.length
    · rw [List.getElem?_append_left z] at h
      refine ⟨h, ?_⟩
      unfold L2.start
      rw [List.getElem?_append_left (by rw [List.length_map]; omega)]
    · rw [List.getElem?_append_right (by omega)] at h
      have := List.mem_of_getElem? h
      exact absurd (List.eq_of_mem_replicate this) n
  have mu : ∀ {t : Sl}, t.mut = true → t ≠ .un := fun m z => by rw [z] at m; cases m
  refine ⟨S.cold, ?_, fun i s h => ?_, fun i j a s t n h1 h2 m1 m2 e1 e2 => ?_, S.grow, S.new, S.dom, S.keep, fun i a ds h e => ?_, fun i a n h e => ?_, fun i a h => ?_, S.pz⟩
  · unfold L2.start
    rw [List.length_append, List.length_append, List.length_replicate, List.length_replicate, List.length_map, hl]
  · cases s with
    | un => trivial
    | dat d => rw [(at_ i _ h (fun z => nomatch z)).2]; exact S.sl i _ (at_ i _ h (fun z => nomatch z)).1
    | hot ds => rw [(at_ i _ h (fun z => nomatch z)).2]; exact S.sl i _ (at_ i _ h (fun z => nomatch z)).1
    | box n => rw [(at_ i _ h (fun z => nomatch z)).2]; exact S.sl i _ (at_ i _ h (fun z => nomatch z)).1
  · rw [(at_ i _ h1 (mu m1)).2] at e1
    rw [(at_ j _ h2 (mu m2)).2] at e2
    exact S.ne i j a s t n (at_ i _ h1 (mu m1)).1 (at_ j _ h2 (mu m2)).1 m1 m2 e1 e2
  · rw [(at_ i _ h (fun z => nomatch z)).2] at e
    exact S.loc i a ds (at_ i _ h (fun z => nomatch z)).1 e
  · rw [(at_ i _ h (fun z => nomatch z)).2] at e
    exact S.lob i a n (at_ i _ h (fun z => nomatch z)).1 e
  · obtain ⟨h1, n, h2⟩ := S.par i a h
    have li : i < ps.length := by
      cases Nat.lt_or_ge i ps.length with
      | inl h => exact h
      | inr g => rw [List.getElem?_eq_none g] at h2; cases h2
    refine ⟨?_, n, by rw [List.getElem?_append_left li]; exact h2⟩
    unfold L2.start
    rw [List.getElem?_append_left (by rw [List.length_map]; omega)]
    exact h1
theorem bodyD {t : TS} {w : WS} [s : Ss K t w] {N : List Str} {vs : List V} {H : Hp} {Q : VK} {E : XK} {n : Nat} {wf : WF} (h : spD K n wf vs H Q E) (hw : ∀ ps Ψ, wf ps Ψ → ps.length = n → w (ps ++ List.replicate (N.length - n) .un) (fin ps Ψ)) :
    t { nx := fun _ H' => Q .non H', rt := Q } (start N vs) H := by
  obtain ⟨hl, C, bx, ps, Ψ, S, hf, k⟩ := h
  have lp : ps.length = n := by have := S.len; rw [List.length_map] at this; omega
  have S1 := start_sep (N := N) S
  have h1 := hw ps Ψ hf lp
  rw [← hl] at h1
  refine s.run _ C H _ _ _ _ S1 h1 ⟨fun C1 H1 σ1 ρ1 S2 z => k _ _ _ (.dat .non) _ (S.args S2) .non z, fun C1 H1 σ1 ρ1 v r S2 ok z => ?_, fun C1 H1 σ1 ρ1 S2 z => False.elim z, fun C1 H1 σ1 ρ1 S2 z => False.elim z⟩
  refine k _ _ _ r _ (S.args S2) ?_ z
  cases r with
  | dat d => exact ok
  | new ds =>
    obtain ⟨a, e, f1, f2, f3, f4⟩ := ok
    refine ⟨a, e, f1, f2, f3, fun j u hj m ej => ?_⟩
    have S3 := S.args S2
    have q := S3.mutH hj m ej
    have f3' : H a = none := f3
    cases u with
    | un => cases m
    | dat d => cases m
    | hot es => 
      rcases mrg_at ps ρ1 j _ hj with ⟨m, e1, e2⟩ | ⟨e1, _⟩
      · rcases e2 with e2 | ⟨_, e2⟩
        · obtain ⟨b, us, e5, hb, _⟩ := S3.sl j _ hj
          rw [ej] at e5
          cases e5
          have := S.mutH e1 rfl ej
          exact this.2 f3'
        · cases e2
      · have := S.mutH e1 rfl ej
        exact this.2 f3'
    | box n =>
      rcases mrg_at ps ρ1 j _ hj with ⟨m, e1, e2⟩ | ⟨e1, z⟩
      · have := S.mutH e1 rfl ej
        exact this.2 f3'
      · exact z n rfl
/-! calls -/
def Ro.val : Ro → Dt
  | .dat d => d
  | .new ds => .lst ds
class Dv (vs : List V) (ds : outParam (List Dt)) : Prop where
  run : ∀ (K : PySem.W.Frag) (C : Hp), RpL K C vs ds
instance dv_nil : Dv [] [] := ⟨fun _ _ => .nil⟩
def boxK (i : Nat) (ρ : List Sl) (Ψ : Ro → List Sl → Prop) (r : Ro) (ps : List Sl) : Prop := match ps with
  | .box n :: _ => Ψ r (ρ.set i (.box n))
  | _ => False
def callW (wf : WF) (as : List Ar) (dd : List Dt) (ρ : List Sl) (Ψ : Ro → List Sl → Prop) : Prop := match as with
  | .b i :: as => match ρ[i]?, dats as with
    | some (.box n), some ds => wf (.box n :: (ds ++ dd).map .dat) (boxK i ρ Ψ)
    | _, _ => False
  | as => match dats as with
    | some ds => wf ((ds ++ dd).map .dat) fun r _ => Ψ r ρ
    | none => False
section
variable {B : Bs} {C H G C' : Hp} {σ : L2.St} {ρ : List Sl}
/-- behind a call that is handed no box -/
theorem Sep.after (S : Sep K B C H σ ρ) {τ : L2.St} {π : List Sl} (S' : Sep K ⟨C, H, none⟩ C' G τ π) : Sep K B C' G σ ρ := by
  have kp : ∀ a o, H a = some o → G a = some o := fun a o h => S'.keep a o h fun i z => nomatch z
  have cn : ∀ a o, H a = some o → C a = none → C' a = none := fun a o h c => by
    cases q : C' a with
    | none => rfl
    | some u =>
      have : H a = none := S'.new a u q c
      rw [h] at this
      cases this
  refine ⟨S'.cold, S.len, fun i s h => ?_, S.ne, S.grow.trans S'.grow, fun a o e n => ?_, fun a h => S'.dom a (S.dom a h), fun a o h n => kp a o (S.keep a o h n), S.loc, S.lob, S.par, S.pz⟩
  · have q := S.sl i s h
    cases s with
    | un => trivial
    | dat d =>
      obtain ⟨v, e, r⟩ := q
      exact ⟨v, e, r.same S'.grow⟩
    | hot ds =>
      obtain ⟨a, vs, e, ha, r, ca⟩ := q
      exact ⟨a, vs, e, kp _ _ ha, r.same S'.grow, cn _ _ ha ca⟩
    | box n =>
      obtain ⟨a, e, ⟨x, y, z, ha, hh⟩, ca⟩ := q
      exact ⟨a, e, ⟨x, y, z, kp _ _ ha, hh⟩, cn _ _ ha ca⟩
  · cases q : C a with
    | some u => exact S.new a u q n
    | none => exact S.free0 (S'.new a o e q)
/-- behind a call that is handed the box at slot i -/
theorem Sep.afterB (S : Sep K B C H σ ρ) {p : Addr} {i : Nat} {m n : Int} {τ : L2.St} {π : List Sl} (hi : ρ[i]? = some (.box m)) (ei : σ[i]? = some (some (V.ref p))) (S' : Sep K ⟨C, H, some (0, p)⟩ C' G τ π) (hn : π[0]? = some (.box n)) : Sep K B C' G σ (ρ.set i (.box n)) := by
  have kp : ∀ a o, H a = some o → a ≠ p → G a = some o := fun a o h z => S'.keep a o h fun i q => by cases q; exact z rfl
  have cn : ∀ a o, H a = some o → C a = none → C' a = none := fun a o h c => by
    cases q : C' a with
    | none => rfl
    | some u =>
      have : H a = none := S'.new a u q c
      rw [h] at this
      cases this
  obtain ⟨e0, m', e1⟩ := S'.par 0 p rfl
  obtain ⟨p', e2, bG, cp⟩ := S'.sl 0 _ hn
  rw [e0] at e2
  cases e2
  have back : ∀ {j : Nat} {t : Sl}, (ρ.set i (.box n))[j]? = some t → t.mut = true → ∃ t', ρ[j]? = some t' ∧ t'.mut = true := fun {j t} z y => by
    rcases get_set z with ⟨rfl, rfl, l⟩ | ⟨_, z⟩
    · exact ⟨_, hi, rfl⟩
    · exact ⟨t, z, y⟩
  refine ⟨S'.cold, by rw [List.length_set]; exact S.len, fun j s h => ?_, fun j k a t u q h1 h2 m1 m2 e1 e2 => ?_, S.grow.trans S'.grow, fun a o e n => ?_, fun a h => S'.dom a (S.dom a h), fun a o h n => kp a o (S.keep a o h n) fun z => ?_, fun j a ds h e => ?_, fun j a n h e => ?_, fun j a h => ?_, S.pz⟩
  · rcases get_set h with ⟨rfl, rfl, l⟩ | ⟨nj, h⟩
    · exact ⟨p, ei, bG, cp⟩
    · have q := S.sl j s h
      cases s with
      | un => trivial
      | dat d =>
        obtain ⟨v, e, r⟩ := q
        exact ⟨v, e, r.same S'.grow⟩
      | hot ds =>
        obtain ⟨a, vs, e, ha, r, ca⟩ := q
        exact ⟨a, vs, e, kp _ _ ha (fun z => S.ne i j p _ _ nj hi h rfl rfl ei (z ▸ e)), r.same S'.grow, cn _ _ ha ca⟩
      | box n =>
        obtain ⟨a, e, ⟨x, y, z, ha, hh⟩, ca⟩ := q
        have na : a ≠ p := fun z => S.ne i j p _ _ nj hi h rfl rfl ei (z ▸ e)
        exact ⟨a, e, ⟨x, y, z, kp _ _ ha na, hh⟩, cn _ _ ha ca⟩
  · obtain ⟨t', h1, m1⟩ := back h1 m1
    obtain ⟨u', h2, m2⟩ := back h2 m2
    exact S.ne j k a t' u' q h1 h2 m1 m2 e1 e2
  · cases q : C a with
    | some u => exact S.new a u q n
    | none => exact S.free0 (S'.new a o e q)
  · subst z
    rcases S.lob i a m hi ei with q | q
    · rw [h] at q
      cases q
    · exact n i q
  · rcases get_set h with ⟨rfl, z, l⟩ | ⟨nj, h⟩
    · cases z
    · exact S.loc j a ds h e
  · rcases get_set h with ⟨rfl, z, l⟩ | ⟨nj, h⟩
    · exact S.lob i a m hi e
    · exact S.lob j a n h e
  · obtain ⟨h1, n', h2⟩ := S.par j a h
    by_cases z : i = j
    · subst z
      refine ⟨h1, n, set_at ?_⟩
      cases Nat.lt_or_ge i ρ.length with
      | inl h => exact h
      | inr g => rw [List.getElem?_eq_none g] at hi; cases hi
    · exact ⟨h1, n', by rw [set_off z]; exact h2⟩
theorem sep_dats {vs : List V} {ds : List Dt} (S : Sep K B C H σ ρ) (r : RpL K C vs ds) : Sep K ⟨C, H, none⟩ C H (vs.map some) (ds.map .dat) := by
  have at_ : ∀ (i : Nat) (s : Sl), (ds.map Sl.dat)[i]? = some s → ∃ d, s = .dat d ∧ ds[i]? = some d := fun i s h => by
    rw [List.getElem?_map] at h
    cases q : ds[i]? with
    | none => rw [q] at h; cases h
    | some d => rw [q] at h; cases h; exact ⟨d, rfl, rfl⟩
  refine ⟨S.cold, by rw [List.length_map, List.length_map]; exact r.len, fun i s h => ?_, fun i j a s t n h1 h2 m1 m2 e1 e2 => ?_, Same.refl _, fun a o e n => ?_, fun a h => h, fun a o h n => h, fun i a ds h e => ?_, fun i a n h e => ?_, (fun i a h => nomatch h), fun i a h => nomatch h⟩
  · obtain ⟨d, rfl, e⟩ := at_ i s h
    obtain ⟨v, ev, rv⟩ := r.at' e
    exact ⟨v, by rw [List.getElem?_map, ev]; rfl, rv⟩
  · obtain ⟨d, rfl, e⟩ := at_ i s h1
    cases m1
  · have n' : C a = none := n
    rw [n'] at e
    cases e
  · obtain ⟨d, z, e⟩ := at_ i _ h
    cases z
  · obtain ⟨d, z, e⟩ := at_ i _ h
    cases z
theorem sep_box {vs : List V} {ds : List Dt} {p : Addr} {i : Nat} {m : Int} (S : Sep K B C H σ ρ) (hi : ρ[i]? = some (.box m)) (ei : σ[i]? = some (some (V.ref p))) (r : RpL K C vs ds) : Sep K ⟨C, H, some (0, p)⟩ C H ((V.ref p :: vs).map some) (.box m :: ds.map .dat) := by
  have D := sep_dats S r
  obtain ⟨p', e2, bG, cp⟩ := S.sl i _ hi
  rw [ei] at e2
  cases e2
  refine ⟨S.cold, by have := D.len; simp only [List.length_map, List.length_cons] at this ⊢; omega, fun j s h => ?_, fun j k a s t n h1 h2 m1 m2 e1 e2 => ?_, Same.refl _, D.new, fun a h => h, fun a o h n => h, fun j a es h e => ?_, fun j a n h e => ?_, fun j a h => ?_, fun j a h => by cases h; rfl⟩
  · cases j with
    | zero =>
      have e := Option.some.inj h
      subst e
      exact ⟨p, rfl, bG, cp⟩
    | succ j => exact D.sl j s h
  · cases j with
    | zero =>
      cases k with
      | zero => exact n rfl
      | succ k =>
        have h2' : (ds.map Sl.dat)[k]? = some t := h2
        rw [List.getElem?_map] at h2'
        cases q : ds[k]? with
        | none => rw [q] at h2'; cases h2'
        | some d => rw [q] at h2'; cases h2'; cases m2
    | succ j =>
      have h1' : (ds.map Sl.dat)[j]? = some s := h1
      rw [List.getElem?_map] at h1'
      cases q : ds[j]? with
      | none => rw [q] at h1'; cases h1'
      | some d => rw [q] at h1'; cases h1'; cases m1
  · cases j with
    | zero => cases h
    | succ j => exact D.loc j a es h e
  · cases j with
    | zero =>
      have e' := Option.some.inj (Option.some.inj e)
      cases e'
      exact .inr rfl
    | succ j =>
      have h1' : (ds.map Sl.dat)[j]? = some (.box n) := h
      rw [List.getElem?_map] at h1'
      cases q : ds[j]? with
      | none => rw [q] at h1'; cases h1'
      | some d => rw [q] at h1'; cases h1'
  · cases h
    exact ⟨rfl, m, rfl⟩
/-- what a call asks, and tells -/
theorem Sep.calls {n : Nat} {wf : WF} {vs dvs : List V} {as : List Ar} {dd : List Dt} {Q : VK} {E : XK} {Ψ : Ro → List Sl → Prop} (S : Sep K B C H σ ρ) (ok : ArL K C σ vs as) (dv : RpL K C dvs dd) (hn : (as.length + dd.length) = n) (h : callW wf as dd ρ Ψ)
    (k : ∀ C' G v r ρ', Sep K B C' G σ ρ' → Same C C' → RoOk K B C' G σ ρ' v r → Ψ r ρ' → Q v G) : spD K n wf (vs ++ dvs) H Q E := by
  have la : vs.length = as.length := by
    have : ∀ {vs : List V} {as : List Ar}, ArL K C σ vs as → vs.length = as.length := fun {vs as} z => by
      induction z with
      | nil => rfl
      | cons _ _ ih => exact congrArg Nat.succ ih
    exact this ok
  refine ⟨by rw [List.length_append, la, dv.len]; exact hn, ?_⟩
  have news : ∀ {bx : Option (Nat × Addr)} {C' G : Hp} {τ : L2.St} {π ρ' : List Sl} {v : V} {r : Ro}, Sep K ⟨C, H, bx⟩ C' G τ π → (∀ (j : Nat) (t : Sl) (a : Addr), ρ'[j]? = some t → t.mut = true → σ[j]? = some (some (V.ref a)) → H a ≠ none) → RoOk K ⟨C, H, bx⟩ C' G τ π v r → RoOk K B C' G σ ρ' v r := fun {bx C' G τ π ρ' v r} S' hh q => by
    cases r with
    | dat d => exact q
    | new ds =>
      obtain ⟨a, e, f1, f2, f3, f4⟩ := q
      exact ⟨a, e, f1, f2, S.free0 f3, fun j t h m ej => hh j t a h m ej f3⟩
  have plain : dats as = none ∨ (∃ ds, dats as = some ds) := by
    cases dats as with
    | none => exact .inl rfl
    | some ds => exact .inr ⟨ds, rfl⟩
  have noB : ∀ ds, dats as = some ds → wf ((ds ++ dd).map .dat) (fun r _ => Ψ r ρ) → ∃ (C₁ : Hp) (bx : Option (Nat × Addr)) (ps : List Sl) (Ψ : Ro → List Sl → Prop), Sep K ⟨C₁, H, bx⟩ C₁ H ((vs ++ dvs).map some) ps ∧ wf ps Ψ ∧
      ∀ C' G v r ps', Sep K ⟨C₁, H, bx⟩ C' G ((vs ++ dvs).map some) ps' → RoOk K ⟨C₁, H, bx⟩ C' G ((vs ++ dvs).map some) ps' v r → Ψ r ps' → Q v G := fun ds e hw =>
    ⟨C, none, _, _, sep_dats S ((ok.dats e).append dv), hw, fun C' G v r ps' S' q z => k _ _ _ _ _ (S.after S') S'.grow (news S' (fun j t a h m ej => (S.mutH h m ej).2) q) z⟩
  match as, ok, h with
  | [], ok, h => exact noB [] rfl h
  | .d x :: as, ok, h =>
    unfold callW at h
    cases q : dats (.d x :: as) with
    | none => simp only [q] at h
    | some ds =>
      simp only [q] at h
      exact noB ds q h
  | .b i :: as, .cons (v := v) (vs := us) oi ok, h =>
    unfold callW at h
    dsimp only at h
    cases q1 : ρ[i]? with
    | none => simp only [q1] at h
    | some t =>
      cases q2 : dats as with
      | none => cases t <;> simp only [q1, q2] at h
      | some ds =>
        cases t <;> simp only [q1, q2] at h
        rename_i m
        have oi' : σ[i]? = some (some v) := oi
        obtain ⟨p, e2, _⟩ := S.sl i _ q1
        rw [oi'] at e2
        cases e2
        refine ⟨C, some (0, p), _, _, sep_box S q1 oi' ((ok.dats q2).append dv), h, fun C' G v r ps' S' q z => ?_⟩
        unfold boxK at z
        cases ps' with
        | nil => exact False.elim z
        | cons s ps' =>
          cases s <;> try exact False.elim z
          rename_i n'
          have S2 := S.afterB q1 oi' S' rfl
          refine k _ _ _ _ _ S2 S'.grow (news S' (fun j t a hj m ej => ?_) q) z
          rcases get_set hj with ⟨rfl, rfl, l⟩ | ⟨nj, hj⟩
          · exact (S.mutH q1 rfl ej).2
          · exact (S.mutH hj m ej).2
end
theorem ArL.len {C : Hp} {σ : L2.St} : ∀ {vs : List V} {as : List Ar}, ArL K C σ vs as → vs.length = as.length
  | _, _, .nil => rfl
  | _, _, .cons _ t => congrArg Nat.succ (ArL.len t)
def wCall (n : Nat) (wf : WF) (dd : List Dt) (wa : WA) : WE := fun ρ Ψ => wa ρ fun as ρ1 => as.length + dd.length = n ∧ callW wf as dd ρ1 fun r ρ2 => Ψ (.dat r.val) ρ2
instance sd_call {n : Nat} {wf : WF} {dvs : List V} {dd : List Dt} {E : XK} {ta : TA} {wa : WA} [v : Dv dvs dd] [a : Sa K ta wa] : Sd K (tCall (spD K n wf) dvs E ta) (wCall n wf dd wa) where
  run B C H σ ρ Q Ψ S h k := a.run B C H σ ρ _ _ S h fun C1 H1 vs as ρ1 S1 s1 ok1 h1 => by
    refine S1.calls ok1 (v.run K C1) h1.1 h1.2 fun C' G v r ρ' S' s' q z => ?_
    cases r with
    | dat d => exact k _ _ _ (.dat d) _ S' (s1.trans s') q z
    | new ds =>
      obtain ⟨b, rfl, f⟩ := q
      obtain ⟨C2, S2, s2, r2⟩ := f.cool S'
      exact k _ _ _ (.dat (.lst ds)) _ S2 (s1.trans (s'.trans s2)) r2 z
def wCallN (n : Nat) (wf : List Sl → (List Dt → List Sl → Prop) → Prop) (dd : List Dt) (wa : WA) : WN := fun ρ Ψ => wa ρ fun as ρ1 => as.length + dd.length = n ∧ callW (fun ps Ψ => wf ps fun ds ps' => Ψ (.new ds) ps') as dd ρ1 fun r ρ2 => match r with
  | .new ds => Ψ ds ρ2
  | .dat _ => False
instance sn_call {n : Nat} {wf : List Sl → (List Dt → List Sl → Prop) → Prop} {dvs : List V} {dd : List Dt} {E : XK} {ta : TA} {wa : WA} [v : Dv dvs dd] [a : Sa K ta wa] : Sn K (tCall (spN K n wf) dvs E ta) (wCallN n wf dd wa) where
  run B C H σ ρ Q Ψ S h k := a.run B C H σ ρ _ _ S h fun C1 H1 vs as ρ1 S1 s1 ok1 h1 => by
    refine S1.calls ok1 (v.run K C1) h1.1 h1.2 fun C' G v r ρ' S' s' q z => ?_
    cases r with
    | dat d => exact False.elim z
    | new ds =>
      obtain ⟨b, rfl, f⟩ := q
      exact k _ _ _ _ _ S' (s1.trans s') f z

end
section
variable {P : Program} {w : World} {K : PySem.W.Frag} {mg : Str → Option Value} {base : Heap}
local macro_rules | `(tactic| get_elem_tactic_trivial) => `(tactic| (repeat first | exact Wk.nil | exact Wk'.nil | refine Wk.same ?_ | refine Wk'.same ?_ | refine Wk.un (fun _ z => nomatch z) ?_ | refine Wk'.un ?_))
/-! defs that show things: while they run nothing else is being shown -/
structure FnOkG (P : Program) (w : World) (K : PySem.W.Frag) (mg : Str → Option Value) (base : Heap) (k : Nat) (f : Addr) (fd : FuncData) (ps : List Str) (sp : Sp) : Prop where
  len : ∀ vs H Q E, sp vs H Q E → vs.length = ps.length
  run : ∀ (A : Around) (outer : List Env) (s : Shared) (H : Hp) (args : Args) (us : List Value) (vs : List V) (Q : VK) (E : XK), A.guards = some [] → Room k A → Env0 P w K mg base A outer s H → BindsTo s fd args (ps.zip us) → Vals vs us → sp vs H Q E →
    codeAny (model P w) A (.call (.ref f) args) (CR CX0 outer P w H s Q E) s
theorem okG_of {x qual : Str} {params : Arguments} {body : List Stmt} {scope : Scope} {dvs : List V} {kws : List (Str × V)} {f : Addr} {fd : FuncData} {N ps : List Str} {k : Nat} {sp : Sp} (F : FunD K x qual params body scope dvs kws f fd) (Z : FnScope N ps scope) (hlen : ∀ vs H Q E, sp vs H Q E → vs.length = ps.length)
    (bd : ∀ (cdv : Value) (A : Around) (outer : List Env) (s : Shared) (H : Hp) (vs : List V) (Q : VK) (E : XK), A.guards = some [] → Room k (A.deeper (envOfC qual scope s.heap.objs.size f cdv)) → sp vs H Q E →
      ∃ t, PSs (cxOf CX0 P w K mg base N qual scope f cdv A outer s H E) body t ∧ t { nx := fun _ H' => Q .non H', rt := Q } (L2.start N vs) H) : FnOkG P w K mg base (k + 1) f fd ps sp := by
  obtain ⟨oc, od, dV, kV, doc, pm, an, cdv, ct, osl, efd, lk, hcd, _, _⟩ := F.ex
  subst efd
  refine ⟨hlen, fun A outer s H args us vs Q E gd hr e0 hb r hsp => ?_⟩
  have there : ∀ b o, base.get? b = some o → s.heap.get? b = some o := fun b o e => (e0.bs b o e).1
  have inK : K.In s.heap := e0.mod.kin.keeps there
  have small : s.heap.NoLimit := e0.mod.nolimit.keeps there
  have kinds : ∀ y ∈ ps.zip us, scope.names.lookup y.1 = some .local ∨ (scope.names.lookup y.1 = some .cell ∧ ((cellsFrom (s.heap.objs.size + 1) scope.names []).lookup y.1).isSome = true) := by
    rintro ⟨n, v⟩ hy
    cases Z.par n (List.of_mem_zip hy).1 with
    | inl q => exact .inl q
    | inr q => exact .inr ⟨q, PySem.W.cellsFrom_some _ _ _ (.inl q)⟩
  apply codeAny_call_function hr.depth (inK _ _ lk) rfl Z.co Z.gen rfl (PySem.W.codeRec_of inK hcd)
  apply hb
  apply wpAny_newFunctionEnv_cells Z.kind kinds
  intro env he s1 y
  subst he
  obtain ⟨t, ht, hq⟩ := bd cdv A outer s H vs Q E gd (hr.deeper _) hsp
  have I := inv_start (CX := CX0) (E := E) Z hr.hd e0 (hlen _ _ _ _ hsp) r y
  refine ⟨small.keeps y.toInCall.keep, codeAny_func (wpAny_mono (ht.run [] s1 (L2.start N vs) H _ I hq) (fun fl s' hs => ?_) fun _ _ z => z)⟩
  match fl, hs with
  | .ret u, ⟨v, σ', H', J, rv, q⟩ => exact ⟨v, H', J.os, J.bare, J.base, J.hok, rv, q⟩
  | .next, ⟨σ', H', J, q⟩ => exact ⟨V.non, H', J.os, J.bare, J.base, J.hok, rfl, q⟩
  | .brk, ⟨_, _, _, q⟩ => exact q.elim
  | .cont, ⟨_, _, _, q⟩ => exact q.elim
section
variable {X : Cx} {k : Nat} {f : Addr} {fd : FuncData} {ps : List Str} {sp : Sp} {dvs : List V} {ds : List Value} {E : XK} {x : Str} {p pos : Pos} {e : Expr} {es : List Expr} {t : TA}
/-- repr of data -/
def cRepr (K : PySem.W.Frag) : List V → Hp → VK → Prop := fun xs H Q => ∃ x d, xs = [x] ∧ Dp K H x d ∧ d.showable = true ∧ d.depth ≤ 60 ∧ d.shown.length ≤ sizeLine ∧ Q (.str d.shown) H
mutual
theorem dp_lay {H : Hp} : ∀ (d : PyData) (v : V), Dp K H v d → d.hasDict = false
  | .none, _, _ => by simp only [PyData.hasDict]
  | .bool _, _, _ => by simp only [PyData.hasDict]
  | .int _, _, _ => by simp only [PyData.hasDict]
  | .str _, _, _ => by simp only [PyData.hasDict]
  | .list ds, _, h => by
    cases h with
    | lst a b =>
      simp only [PyData.hasDict]
      exact dp_lays ds _ b
  | .tuple ds, _, h => by
    cases h with
    | tup a b =>
      simp only [PyData.hasDict]
      exact dp_lays ds _ b
  | .dict _, _, h => by cases h
theorem dp_lays {H : Hp} : ∀ (ds : List PyData) (vs : List V), DpAll K H vs ds → PyData.hasDictAll ds = false
  | [], _, _ => by simp only [PyData.hasDictAll]
  | d :: ds, _, h => by
    cases h with
    | cons a b => simp only [PyData.hasDictAll, dp_lay d _ a, dp_lays ds _ b, Bool.or_self]
end
theorem call_reprD (gd : X.A.guards = some []) (hu : X.A.units + 64 < cLine) : CallR X (.builtin "repr") (cRepr X.K) := by
  intro pins s σ H xs us Q I r h
  obtain ⟨x, d, rfl, hd, hs, hp, hz, q⟩ := h
  obtain ⟨u, rfl, ru⟩ := vals1 r
  obtain ⟨as, rd⟩ := Dp.reads I d x u hd ru
  have nd := PyData.noDict_hsm (as := as) (dp_lay d x hd)
  cases hd with
  | non =>
    cases ru
    exact PySem.P.repr_of_none ⟨.str _, H, I.tok _, ⟨_, rfl⟩, q⟩
  | bl b =>
    cases ru
    exact PySem.P.repr_of_bool ⟨.str _, H, I.tok _, ⟨_, by simp only [PyData.shown]; cases b <;> rfl⟩, q⟩
  | int i =>
    obtain ⟨t, rfl⟩ := ru
    exact PySem.P.repr_of_int (by simpa [PyData.showable] using hs) ⟨.str _, H, I.tok _, ⟨_, rfl⟩, q⟩
  | str z =>
    obtain ⟨t, rfl⟩ := ru
    exact PySem.P.repr_of_str ⟨.str _, H, I.tok _, ⟨_, rfl⟩, q⟩ hz
  | lst h1 h2 =>
    cases ru
    exact repr_of_reads' rd hs nd gd (by omega) (fun _ _ e => e) (fun h' u tk hk => ⟨.str _, H, I.kept hk, ⟨_, rfl⟩, q⟩) hz
  | tup h1 h2 =>
    cases ru
    exact repr_of_reads' rd hs nd gd (by omega) (fun _ _ e => e) (fun h' u tk hk => ⟨.str _, H, I.kept hk, ⟨_, rfl⟩, q⟩) hz
end
/-! the end of a law that shows things -/
theorem law_G {mb : Str → Option Value} {k : Nat} {fa a : Addr} {fd : FuncData} {x : Str} {sp : Sp} {s₁ : Shared} {vs : List Value} {ns : List Int}
    (KX : K.In s₁.heap) (hns : s₁.heap.Ns mainGlobals mg) (hb : s₁.heap.Ns builtinsNs mb) (hbb : ∀ y : Str, y ≠ "__name__" → mb y = bootBuiltins y) (hlim : s₁.heap.NoLimit) (hg : s₁.gens = #[])
    (ha : s₁.heap.get? a = some { cls := .type "list", data := .seq vs.toArray }) (hi : IntsAre vs ns) (hl : ns.length ≤ sizeLine) (hr : Room k callerA)
    (F : ∀ b0 : Heap, K.In b0 → b0.Ns mainGlobals mg → FnOkG P w K mg b0 k fa fd [x] sp) (hbind : ∀ (s : Shared) (u : Value), BindsTo s fd ⟨[u], []⟩ [(x, u)])
    (hsp : ∀ H : Hp, SqL K H a (ns.map V.int) → sp [.ref a] H (fun v _ => v = .bl true) fun _ _ _ => False) :
    codeAny (model P w) callerA (.call (.ref fa) ⟨[.ref a], []⟩) (fun r s' => r = .ok (.ret (.bool true)) ∧ OldK s₁.heap s'.heap ∧ s'.os = s₁.os ∧ AllBare s'.gens) s₁ := by
  have rv := vals_ints hi
  -- H: the script alone, or nothing
  have go : ∀ H : Hp, SqL K H a (ns.map V.int) → HOk P w H s₁.heap → (∀ b u, H b = some u → b = a ∧ K.lookup b = none ∧ ∃ o xs, u = .frz o (.lst xs)) →
      codeAny (model P w) callerA (.call (.ref fa) ⟨[.ref a], []⟩) (fun r s' => r = .ok (.ret (.bool true)) ∧ OldK s₁.heap s'.heap ∧ s'.os = s₁.os ∧ AllBare s'.gens) s₁ := by
    intro H hS hok hA
    have free : ∀ {b : Addr} {o : Obj} {es : Array DictEntry} {ep : Nat}, s₁.heap.get? b = some o → o.data = .dict es ep → H b = none := by
      intro b o es ep e d
      match q : H b with
      | none => rfl
      | some u =>
        obtain ⟨rfl, _⟩ := hA b u q
        rw [ha] at e
        cases e
        cases (show Data.seq vs.toArray _ = Data.dict es ep from d)
    have ns_ : ∀ {b : Addr} {m : Str → Option Value}, s₁.heap.Ns b m → (hidT s₁.heap H).Ns b m := by
      rintro b m ⟨o, es, ep, e, d, r⟩
      exact ⟨o, es, ep, hidT_get e (free e d), d, r⟩
    have kb : K.In (hidT s₁.heap H) := by
      intro b o e
      refine hidT_get (KX b o e) ?_
      match q : H b with
      | none => rfl
      | some u =>
        have z := (hA b u q).2.1
        rw [e] at z
        cases z
    have lim : (hidT s₁.heap H).NoLimit := by
      obtain ⟨mc, h1, h2⟩ := hlim
      exact ⟨mc, ns_ h1, h2⟩
    have e0 : Env0 P w K mg (hidT s₁.heap H) callerA [] s₁ H := by
      refine ⟨rfl, ⟨kb, ns_ hns, ⟨mb, ns_ hb, hbb⟩, lim⟩, fun b o e => of_hidT e, Nat.le_of_eq (hidT_size _ _), trivial, fun b z => ?_, hok, .of_eq hg⟩
      exact absurd (show b ∈ ([] : List Addr) from z) (by simp)
    have run := (F _ kb (ns_ hns)).run callerA [] s₁ H ⟨[.ref a], []⟩ [.ref a] [.ref a] _ _ rfl hr e0 (hbind s₁ (.ref a)) (.cons rfl .nil) (hsp H hS)
    refine codeAny_mono run fun r s' h => ?_
    match r, h with
    | .error e, h => exact False.elim h
    | .ok .next, h => exact False.elim h
    | .ok .brk, h => exact False.elim h
    | .ok .cont, h => exact False.elim h
    | .ok (.ret u), ⟨v, H', os, bare, un, hok', r', q⟩ =>
      cases (show v = .bl true from q)
      cases (show u = Value.bool true from r')
      refine ⟨rfl, OldK.of_keep fun b o e => ?_, os, bare⟩
      match z : H b with
      | none => exact un.keep b o e z (by intro y; exact absurd (show b ∈ ([] : List Addr) from y) (by simp)) (by simp)
      | some u =>
        obtain ⟨_, _, ob, xs, rfl⟩ := hA b u z
        have z2 := un.frzs b ob _ z
        have e1 := (hok b _ z).1
        rw [e] at e1
        cases e1
        exact (hok' b _ z2).1
  by_cases hk : K.lookup a = none
  · refine go (fun b => if b = a then some (.frz { cls := .type "list", data := .seq vs.toArray } (.lst (ns.map V.int))) else none) (.inl (.inr ⟨{ cls := .type "list", data := .seq vs.toArray }, if_pos rfl⟩)) (fun b u z => ?_) fun b u z => ?_
    · by_cases q : b = a
      · subst q
        cases (if_pos rfl).symm.trans z
        exact ⟨ha, by rw [List.length_map]; exact hl, vs, _, rv, ha⟩
      · cases (if_neg q).symm.trans z
    · by_cases q : b = a
      · subst q
        cases (if_pos rfl).symm.trans z
        exact ⟨rfl, hk, _, _, rfl⟩
      · cases (if_neg q).symm.trans z
  · obtain ⟨o, ho⟩ : ∃ o, K.lookup a = some o := Option.ne_none_iff_exists'.mp hk
    have e := KX a o ho
    rw [ha] at e
    cases e
    exact go (fun _ => none) (.inr ⟨_, vs.toArray, _, ho, rfl, rfl, rfl, by rw [List.size_toArray, hi.length]; exact hl, by simpa using rv⟩) (fun b u z => nomatch z) fun b u z => nomatch z
theorem walk_G {l : PySem.W.OpenLaw} {n k : Nat} {q : Program} {loose : List Str} {XP : (Str → Option Value) → Heap → Prop} {YP : World → Heap → Prop} {d : DefRec} {x : Str}
    (hn : l.most = some n) (hn2 : n ≤ sizeLine) (hdf : d.params.defaults = []) (hr : Room k callerA)
    (F : ∀ (w : World) (mg : Str → Option Value) (fa : Addr) (h : Heap), YP w h → h.Ns mainGlobals mg → mg d.name = some (.ref fa) →
      ∃ (K : PySem.W.Frag) (fd : FuncData) (sp : Sp), K.In h ∧ (∀ (s : Shared) (u : Value), BindsTo s fd ⟨[u], []⟩ [(x, u)]) ∧
        (∀ (H : Hp) (a : Addr) (ns : List Int), ns.length ≤ n → SqL K H a (ns.map V.int) → sp [.ref a] H (fun v _ => v = .bl true) fun _ _ _ => False) ∧
        ∀ b0 : Heap, K.In b0 → b0.Ns mainGlobals mg → FnOkG l.prog w K mg b0 k fa fd [x] sp) : PySem.W.WalkO q loose XP YP l.row.toRowW d [] (fun f vs => PySem.call f vs) := by
  apply Att.attach_call hn hdf
  intro w s₀ s₁ mg mb fa o pm cd doc a vs ns G Y ho hd hcd hmg hobj hints hlen hg
  obtain ⟨K, fd, sp, KX, hb, hsp, hF⟩ := F w mg fa _ Y G.T.g hmg
  exact law_G KX G.T.g G.T.b G.T.builtins G.T.nolimit hg hobj hints (Nat.le_trans hlen hn2) hr hF hb fun H hS => hsp H a ns hlen hS

end
section
variable {P : Program} {w : World} {K : PySem.W.Frag} {mg : Str → Option Value} {base : Heap}
local macro_rules | `(tactic| get_elem_tactic_trivial) => `(tactic| (repeat first | exact Wk.nil | exact Wk'.nil | refine Wk.same ?_ | refine Wk'.same ?_ | refine Wk.un (fun _ z => nomatch z) ?_ | refine Wk'.un ?_))
/-! as the library's data -/
mutual
def Dt.py : Dt → PyData
  | .non => .none
  | .bl b => .bool b
  | .int i => .int i
  | .str x => .str x
  | .lst ds => .list (pys ds)
  | .tup ds => .tuple (pys ds)
  | .obj _ _ _ => .none
  | .err _ _ => .none
  | .adr _ => .none
  | .dic _ _ => .none
  | .scr _ => .none
def pys : List Dt → List PyData
  | [] => []
  | d :: ds => d.py :: pys ds
end
mutual
def Dt.pure : Dt → Bool
  | .lst ds => pures ds
  | .tup ds => pures ds
  | .obj _ _ _ => false
  | .err _ _ => false
  | .adr _ => false
  | .dic _ _ => false
  | .scr _ => false
  | _ => true
def pures : List Dt → Bool
  | [] => true
  | d :: ds => d.pure && pures ds
end
mutual
theorem Rp.dp {C : Hp} : ∀ (d : Dt) (v : V), Rp K C v d → d.pure = true → Dp K C v d.py
  | .non, _, h, _ => by cases h; exact .non
  | .bl b, _, h, _ => by cases h; exact .bl b
  | .int i, _, h, _ => by cases h; exact .int i
  | .str x, _, h, _ => by cases h; exact .str x
  | .lst ds, _, h, p => by
    cases h with
    | lst a b => exact .lst (SqL.of a) (RpL.dp ds _ b (by simpa only [Dt.pure] using p))
  | .tup ds, _, h, p => by
    cases h with
    | tup a b => exact .tup a (RpL.dp ds _ b (by simpa only [Dt.pure] using p))
  | .obj _ _ _, _, _, p => by simp only [Dt.pure] at p; cases p
  | .err _ _, _, _, p => by simp only [Dt.pure] at p; cases p
  | .adr _, _, _, p => by simp only [Dt.pure] at p; cases p
  | .dic _ _, _, _, p => by simp only [Dt.pure] at p; cases p
  | .scr _, _, _, p => by simp only [Dt.pure] at p; cases p
theorem RpL.dp {C : Hp} : ∀ (ds : List Dt) (vs : List V), RpL K C vs ds → pures ds = true → DpAll K C vs (pys ds)
  | [], _, h, _ => by cases h; exact .nil
  | d :: ds, _, h, p => by
    cases h with
    | cons a b =>
      simp only [pures, Bool.and_eq_true] at p
      exact .cons (Rp.dp d _ a p.1) (RpL.dp ds _ b p.2)
end
theorem Rt.dp {B : Bs} {C H : Hp} {σ : L2.St} {ρ : List Sl} {v : V} {d : Dt} (S : Sep K B C H σ ρ) (h : Rt K C H v d) (p : d.pure = true) : Dp K H v d.py := by
  rcases h with h | ⟨a, vs, ds, rfl, rfl, ha, r⟩
  · exact dp_same S.cold _ _ (Rp.dp d v h p)
  · exact .lst (SqL.of ha) (dps_same S.cold _ _ (RpL.dp ds vs r (by simpa only [Dt.pure] using p)))
structure Nice (n b : Nat) (d : Dt) : Prop where
  pu : d.pure = true
  lay : d.py.canLay0 = true
  sh : d.py.showable = true
  lv : d.py.leavesShort 1921 = true
  dp : d.py.depth ≤ n
  bk : d.py.bulk ≤ b
theorem Nice.mono {n b m c : Nat} {d : Dt} (h : Nice n b d) (h1 : n ≤ m) (h2 : b ≤ c) : Nice m c d := ⟨h.pu, h.lay, h.sh, h.lv, Nat.le_trans h.dp h1, Nat.le_trans h.bk h2⟩
theorem log_lt {i : Int} {k : Nat} (hk : 0 < k) (h : i.natAbs < 2 ^ k) : i.natAbs.log2 < k := by
  by_cases z : i.natAbs = 0
  · rw [z]
    exact hk
  · exact (Nat.log2_lt z).mpr h
theorem nice_int {i : Int} (h : i.natAbs < 2 ^ 1900) : Nice 0 0 (.int i) := by
  have h1 : i.natAbs.log2 < 1920 := Nat.lt_trans (log_lt (by decide) h) (by decide)
  refine ⟨rfl, rfl, ?_, ?_, Nat.le_refl _, Nat.le_refl _⟩
  · show PyData.showable (.int i) = true
    simp only [PyData.showable, decide_eq_true_eq]
    exact h1
  · show PyData.leavesShort 1921 (.int i) = true
    simp only [PyData.leavesShort, decide_eq_true_eq]
    exact PyProof.Rows.int_text_len_1921 h1
theorem nices {n b : Nat} : ∀ {ds : List Dt}, (∀ d ∈ ds, Nice n b d) → pures ds = true ∧ PyData.canLayAll0 (pys ds) = true ∧ PyData.showableAll (pys ds) = true ∧ PyData.leavesShortAll 1921 (pys ds) = true ∧ PyData.depthAll (pys ds) ≤ n ∧ PyData.bulkAll (pys ds) ≤ ds.length * (b + 1)
  | [], _ => ⟨rfl, rfl, rfl, rfl, Nat.zero_le _, Nat.zero_le _⟩
  | d :: ds, h => by
    obtain ⟨h1, h2, h3, h4, h5, h6⟩ := nices (ds := ds) fun e he => h e (List.mem_cons_of_mem _ he)
    have q := h d (List.mem_cons_self ..)
    refine ⟨?_, ?_, ?_, ?_, ?_, ?_⟩
    · simp only [pures, q.pu, h1, Bool.and_self]
    · simp only [pys, PyData.canLayAll0, q.lay, h2, Bool.and_self]
    · simp only [pys, PyData.showableAll, q.sh, h3, Bool.and_self]
    · simp only [pys, PyData.leavesShortAll, q.lv, h4, Bool.and_self]
    · simp only [pys, PyData.depthAll]
      exact Nat.max_le.mpr ⟨q.dp, h5⟩
    · simp only [pys, PyData.bulkAll, List.length_cons]
      have := q.bk
      have e : (ds.length + 1) * (b + 1) = ds.length * (b + 1) + (b + 1) := by rw [Nat.succ_mul]
      omega
theorem nice_lst {n b : Nat} {ds : List Dt} (h : ∀ d ∈ ds, Nice n b d) : Nice (n + 1) (ds.length * (b + 1)) (.lst ds) := by
  obtain ⟨h1, h2, h3, h4, h5, h6⟩ := nices h
  refine ⟨?_, ?_, ?_, ?_, ?_, ?_⟩
  · simp only [Dt.pure]; exact h1
  · simp only [Dt.py, PyData.canLay0]; exact h2
  · simp only [Dt.py, PyData.showable]; exact h3
  · simp only [Dt.py, PyData.leavesShort]; exact h4
  · simp only [Dt.py, PyData.depth]; omega
  · simp only [Dt.py, PyData.bulk]; exact h6
theorem nice_tup {n b : Nat} {ds : List Dt} (h : ∀ d ∈ ds, Nice n b d) : Nice (n + 1) (ds.length * (b + 1)) (.tup ds) := by
  obtain ⟨h1, h2, h3, h4, h5, h6⟩ := nices h
  refine ⟨?_, ?_, ?_, ?_, ?_, ?_⟩
  · simp only [Dt.pure]; exact h1
  · simp only [Dt.py, PyData.canLay0]; exact h2
  · simp only [Dt.py, PyData.showable]; exact h3
  · simp only [Dt.py, PyData.leavesShort]; exact h4
  · simp only [Dt.py, PyData.depth]; omega
  · simp only [Dt.py, PyData.bulk]; exact h6
theorem Nice.shaped {n b : Nat} {d : Dt} (h : Nice n b d) (hn : n ≤ 60) : SeqAt.shaped d.py = true := by
  unfold SeqAt.shaped
  rw [h.lay, Bool.true_and, decide_eq_true_eq]
  have := h.dp
  omega
theorem Nice.short {n b : Nat} {d : Dt} (h : Nice n b d) (hb : b ≤ 8000) : d.py.shown.length ≤ sizeLine := by
  have q := PyData.shown_le_bulk 1921 (by decide) d.py h.lv
  have w := h.bk
  have e : sizeLine = 16777216 := by decide
  rw [e]
  omega
/-! == and != of data -/
def eD (d e : Dt) : Bool := PyData.eqv d.py e.py
def oEqD (neg : Bool) (d e : Dt) (Φ : Dt → Prop) : Prop := (d.pure = true ∧ e.pure = true ∧ SeqAt.shaped d.py = true ∧ SeqAt.shaped e.py = true) ∧ Φ (.bl (if neg then !eD d e else eD d e))
instance so_eqD : So K (rEqD K) (oEqD false) where
  run B C H σ ρ x y dx dy Q Φ S hx hy h k := by
    obtain ⟨⟨h1, h2, h3, h4⟩, z⟩ := h
    exact ⟨_, _, hx.dp S h1, hy.dp S h2, h3, h4, k _ _ _ _ S (Same.refl _) (.bl _) z⟩
instance so_neD : So K (rNeD K) (oEqD true) where
  run B C H σ ρ x y dx dy Q Φ S hx hy h k := by
    obtain ⟨⟨h1, h2, h3, h4⟩, z⟩ := h
    exact ⟨_, _, hx.dp S h1, hy.dp S h2, h3, h4, k _ _ _ _ S (Same.refl _) (.bl _) z⟩
/-! is None -/
def rIsNone : R2 := fun x y H Q => y = .non ∧ Q (.bl (decide (x = .non))) H
def isNon : Dt → Bool
  | .non => true
  | _ => false
def oIsN (neg : Bool) (d e : Dt) (Φ : Dt → Prop) : Prop := e = .non ∧ Φ (.bl (if neg then !isNon d else isNon d))
theorem isNon_ok {C H : Hp} {x : V} {d : Dt} (h : Rt K C H x d) : decide (x = V.non) = isNon d := by
  rcases h with h | ⟨a, vs, ds, rfl, rfl, _⟩
  · cases h <;> rfl
  · rfl
instance so_isN : So K rIsNone (oIsN false) where
  run B C H σ ρ x y dx dy Q Φ S hx hy h k := by
    obtain ⟨rfl, z⟩ := h
    exact ⟨hy.non, by rw [isNon_ok hx]; exact k _ _ _ _ S (Same.refl _) (.bl _) z⟩
/-! lists made of two -/
def oCat : Dt → Dt → (List Dt → Prop) → Prop
  | .lst ds, .lst es, Φ => ds.length + es.length ≤ sizeLine ∧ Φ (ds ++ es)
  | _, _, _ => False
instance sno_cat : Sno K rCat oCat where
  run B C H σ ρ x y dx dy Q Φ S hx hy h k := by
    cases dx <;> cases dy <;> try exact False.elim h
    obtain ⟨a, vs, rfl, ha, ra⟩ := hx.list' S
    obtain ⟨b, ws, rfl, hb, rb⟩ := hy.list' S
    exact ⟨a, b, vs, ws, rfl, rfl, ha, hb, by rw [ra.len, rb.len]; exact h.1, fun p hp => k _ _ _ _ (S.allocN hp) (Same.refl _) (S.frN hp (ra.append rb)) h.2⟩
def oRep : Dt → Dt → (List Dt → Prop) → Prop
  | .lst ds, .int k, Φ => (-9223372036854775808 ≤ k ∧ k < 9223372036854775808 ∧ ds.length * k.toNat ≤ sizeLine) ∧ Φ (List.replicate k.toNat ds).flatten
  | _, _, _ => False
theorem RpL.reps {C : Hp} {vs : List V} {ds : List Dt} (r : RpL K C vs ds) : ∀ n : Nat, RpL K C (List.replicate n vs).flatten (List.replicate n ds).flatten
  | 0 => .nil
  | n + 1 => by
    rw [List.replicate_succ, List.replicate_succ, List.flatten_cons, List.flatten_cons]
    exact r.append (RpL.reps r n)
instance sno_rep : Sno K rRep oRep where
  run B C H σ ρ x y dx dy Q Φ S hx hy h k := by
    cases dx <;> cases dy <;> try exact False.elim h
    obtain ⟨a, vs, rfl, ha, ra⟩ := hx.list' S
    obtain ⟨⟨h1, h2, h3⟩, z⟩ := h
    exact ⟨a, _, vs, rfl, hy.int, ha, h1, h2, by rw [ra.len]; exact h3, fun p hp => k _ _ _ _ (S.allocN hp) (Same.refl _) (S.frN hp (ra.reps _)) z⟩
/-! slices -/
def cutD (ds : List Dt) (lo hi : Option Int) : List Dt := (ds.drop (HT.sIx ds.length 0 lo)).take (HT.sIx ds.length ds.length hi - HT.sIx ds.length 0 lo)
theorem RpL.cut {C : Hp} {vs : List V} {ds : List Dt} (r : RpL K C vs ds) (lo hi : Option Int) : RpL K C (cutV vs lo hi) (cutD ds lo hi) := by
  unfold cutV cutD
  rw [r.len]
  exact (r.drop _).take _
abbrev WO := List Sl → (Option Int → List Sl → Prop) → Prop
class Sop (K : PySem.W.Frag) (t : TO) (w : outParam WO) : Prop where
  run : ∀ (B : Bs) (C H : Hp) (σ : L2.St) (ρ : List Sl) (Q : Option Int → Hp → Prop) (Ψ : Option Int → List Sl → Prop), Sep K B C H σ ρ → w ρ Ψ → (∀ C' G o ρ', Sep K B C' G σ ρ' → Same C C' → Ψ o ρ' → Q o G) → t σ H Q
instance sop_no : Sop K tNoPart (fun ρ Ψ => Ψ none ρ) where
  run B C H σ ρ Q Ψ S h k := k _ _ _ _ S (Same.refl _) h
def isInt (r : Rs) (k : Int → Prop) : Prop := match r with
  | .dat (.int i) => k i
  | _ => False
theorem isInt_run {C : Hp} {σ : L2.St} {ρ : List Sl} {v : V} {r : Rs} {k : Int → Prop} (ok : RsOk K C σ ρ v r) (h : isInt r k) : ∃ i, v = .int i ∧ k i := by
  cases r with
  | dat d =>
    cases d <;> try exact False.elim h
    cases ok
    exact ⟨_, rfl, h⟩
  | hot i ds => exact False.elim h
  | box i n => exact False.elim h
instance sop_part {t : TE} {w : WE} [a : Sd K t w] : Sop K (tPart t) (fun ρ Ψ => w ρ fun r ρ1 => isInt r fun i => Ψ (some i) ρ1) where
  run B C H σ ρ Q Ψ S h k := a.run B C H σ ρ _ _ S h fun C1 H1 v1 r1 ρ1 S1 s1 ok1 h1 => by
    obtain ⟨i, rfl, z⟩ := isInt_run ok1 h1
    exact ⟨i, rfl, k _ _ _ _ S1 s1 z⟩
def wSlL (w : WE) (wl wh : WO) : WN := fun ρ Ψ => w ρ fun r ρ1 => wl ρ1 fun lo ρ2 => wh ρ2 fun hi ρ3 => match r.val ρ3 with
  | some (.lst ds) => Ψ (cutD ds lo hi) ρ3
  | _ => False
instance sn_slL {te : TE} {tl th : TO} {w : WE} {wl wh : WO} [a : Sd K te w] [b : Sop K tl wl] [c : Sop K th wh] : Sn K (tSl (rSlL K) te tl th) (wSlL w wl wh) where
  run B C H σ ρ Q Ψ S h k := by
    refine a.run B C H σ ρ _ _ S h fun C1 H1 v1 r1 ρ1 S1 s1 ok1 h1 => ?_
    refine b.run B C1 H1 σ ρ1 _ _ S1 h1 fun C2 H2 lo ρ2 S2 s2 h2 => ?_
    refine c.run B C2 H2 σ ρ2 _ _ S2 h2 fun C3 H3 hi ρ3 S3 s3 h3 => ?_
    cases q : r1.val ρ3 with
    | none => simp only [q] at h3
    | some d =>
      simp only [q] at h3
      cases d <;> try exact False.elim h3
      obtain ⟨x, vs, rfl, ha, ra⟩ := (S3.valOf ok1 (s2.trans s3) q).list' S3
      exact ⟨x, vs, rfl, SqL.of ha, fun p hp => k _ _ _ _ _ (S3.allocN hp) (s1.trans (s2.trans s3)) (S3.frN hp (ra.cut lo hi)) h3⟩
def wRevL (w : WE) : WN := fun ρ Ψ => w ρ fun r ρ1 => match r.val ρ1 with
  | some (.lst ds) => Ψ ds.reverse ρ1
  | _ => False
instance sn_revL {te : TE} {w : WE} [a : Sd K te w] : Sn K (tRevL K te) (wRevL w) where
  run B C H σ ρ Q Ψ S h k := by
    refine a.run B C H σ ρ _ _ S h fun C1 H1 v1 r1 ρ1 S1 s1 ok1 h1 => ?_
    cases q : r1.val ρ1 with
    | none => simp only [q] at h1
    | some d =>
      simp only [q] at h1
      cases d <;> try exact False.elim h1
      obtain ⟨x, vs, rfl, ha, ra⟩ := (S1.valOf ok1 (Same.refl _) q).list' S1
      exact ⟨x, vs, rfl, SqL.of ha, fun p hp => k _ _ _ _ _ (S1.allocN hp) s1 (S1.frN hp ra.rev) h1⟩
/-! builtins of one thing -/
class Sb1 (K : PySem.W.Frag) (r : List V → Hp → VK → Prop) (f : outParam (Dt → (Dt → Prop) → Prop)) : Prop where
  run : ∀ (B : Bs) (C H : Hp) (σ : L2.St) (ρ : List Sl) (v : V) (d : Dt) (Q : VK) (Φ : Dt → Prop), Sep K B C H σ ρ → Rt K C H v d → f d Φ → (∀ C' G v d, Sep K B C' G σ ρ → Same C C' → Rp K C' v d → Φ d → Q v G) → r [v] H Q
def wCB1 (f : Dt → (Dt → Prop) → Prop) (wa : WE) : WE := fun ρ Ψ => wa ρ fun r ρ1 => match r.val ρ1 with
  | some d => f d fun e => Ψ (.dat e) ρ1
  | none => False
instance sd_cb1 {r : List V → Hp → VK → Prop} {f : Dt → (Dt → Prop) → Prop} {ta : TE} {wa : WE} [b : Sb1 K r f] [a : Sd K ta wa] : Sd K (tCB r (tCons ta tNil)) (wCB1 f wa) where
  run B C H σ ρ Q Ψ S h k := a.run B C H σ ρ _ _ S h fun C1 H1 v1 r1 ρ1 S1 s1 ok1 h1 => by
    cases q : r1.val ρ1 with
    | none => simp only [q] at h1
    | some d =>
      simp only [q] at h1
      exact b.run B C1 H1 σ ρ1 _ _ _ _ S1 (S1.valOf ok1 (Same.refl _) q) h1 fun C2 H2 v d S2 s2 r2 z => k _ _ _ (.dat d) _ S2 (s1.trans s2) r2 z
class Sb1n (K : PySem.W.Frag) (r : List V → Hp → VK → Prop) (f : outParam (Dt → (List Dt → Prop) → Prop)) : Prop where
  run : ∀ (B : Bs) (C H : Hp) (σ : L2.St) (ρ : List Sl) (v : V) (d : Dt) (Q : VK) (Φ : List Dt → Prop), Sep K B C H σ ρ → Rt K C H v d → f d Φ → (∀ C' G a ds, Sep K B C' G σ ρ → Same C C' → Fr K B C' G σ ρ a ds → Φ ds → Q (.ref a) G) → r [v] H Q
def wCB1n (f : Dt → (List Dt → Prop) → Prop) (wa : WE) : WN := fun ρ Ψ => wa ρ fun r ρ1 => match r.val ρ1 with
  | some d => f d fun e => Ψ e ρ1
  | none => False
instance sn_cb1 {r : List V → Hp → VK → Prop} {f : Dt → (List Dt → Prop) → Prop} {ta : TE} {wa : WE} [b : Sb1n K r f] [a : Sd K ta wa] : Sn K (tCB r (tCons ta tNil)) (wCB1n f wa) where
  run B C H σ ρ Q Ψ S h k := a.run B C H σ ρ _ _ S h fun C1 H1 v1 r1 ρ1 S1 s1 ok1 h1 => by
    cases q : r1.val ρ1 with
    | none => simp only [q] at h1
    | some d =>
      simp only [q] at h1
      exact b.run B C1 H1 σ ρ1 _ _ _ _ S1 (S1.valOf ok1 (Same.refl _) q) h1 fun C2 H2 a ds S2 s2 f2 z => k _ _ _ _ _ S2 (s1.trans s2) f2 z
def fLen : Dt → (Dt → Prop) → Prop
  | .lst ds, Φ => Φ (.int ds.length)
  | .tup ds, Φ => Φ (.int ds.length)
  | .scr ns, Φ => Φ (.int ns.length)
  | .str x, Φ => x.length ≤ sizeLine ∧ Φ (.int x.length)
  | _, _ => False
instance sb_len : Sb1 K (rLen K) fLen where
  run B C H σ ρ v d Q Φ S hv h k := by
    cases d <;> try exact False.elim h
    · cases hv.str
      exact ⟨_, _, rfl, ⟨h.1, rfl⟩, k _ _ _ _ S (Same.refl _) (.int _) h.2⟩
    · obtain ⟨a, vs, rfl, ha, ra⟩ := hv.list' S
      exact ⟨_, _, rfl, .inl ⟨vs, SqL.of ha, rfl⟩, by rw [ra.len]; exact k _ _ _ _ S (Same.refl _) (.int _) h⟩
    · obtain ⟨a, vs, rfl, ha, ra⟩ := hv.tup' S
      exact ⟨_, _, rfl, .inr ⟨vs, ha, rfl⟩, by rw [ra.len]; exact k _ _ _ _ S (Same.refl _) (.int _) h⟩
    · rcases hv with hv | ⟨_, _, _, _, e, _⟩
      · cases hv with
        | scr a => exact ⟨_, _, rfl, .inl ⟨_, S.cold.seq a, by rw [List.length_map]⟩, k _ _ _ _ S (Same.refl _) (.int _) h⟩
      · cases e
/-- bools -/
def bls : List Dt → Option (List Bool)
  | [] => some []
  | .bl b :: ds => match bls ds with
    | some bs => some (b :: bs)
    | none => none
  | _ :: _ => none
theorem bls_ok {C : Hp} : ∀ {vs : List V} {ds : List Dt} {bs : List Bool}, RpL K C vs ds → bls ds = some bs → vs = bs.map V.bl
  | _, _, bs, .nil, e => by cases e; rfl
  | _, .bl b :: ds, bs, .cons h t, e => by
    cases h
    unfold bls at e
    cases q : bls ds with
    | none => rw [q] at e; cases e
    | some cs =>
      rw [q] at e
      cases e
      rw [bls_ok t q]
      rfl
  | _, .non :: ds, bs, .cons h t, e => by cases e
  | _, .int _ :: ds, bs, .cons h t, e => by cases e
  | _, .str _ :: ds, bs, .cons h t, e => by cases e
  | _, .lst _ :: ds, bs, .cons h t, e => by cases e
  | _, .tup _ :: ds, bs, .cons h t, e => by cases e
  | _, .obj _ _ _ :: ds, bs, .cons h t, e => by cases e
  | _, .err _ _ :: ds, bs, .cons h t, e => by cases e
  | _, .scr _ :: ds, bs, .cons h t, e => by cases e
def fAll : Dt → (Dt → Prop) → Prop
  | .lst ds, Φ => ∃ bs, bls ds = some bs ∧ Φ (.bl (bs.all id))
  | _, _ => False
instance sb_all : Sb1 K (rAll K) fAll where
  run B C H σ ρ v d Q Φ S hv h k := by
    cases d <;> try exact False.elim h
    obtain ⟨bs, e, z⟩ := h
    obtain ⟨a, vs, rfl, ha, ra⟩ := hv.list' S
    exact ⟨a, bs, rfl, by rw [← bls_ok ra e]; exact SqL.of ha, k _ _ _ _ S (Same.refl _) (.bl _) z⟩
def cList (K : PySem.W.Frag) : List V → Hp → VK → Prop := fun xs H Q => ∃ p ys, xs = [.ref p] ∧ (SqL K H p ys ∨ SqT K H p ys) ∧ ∀ l, H l = none → Q (.ref l) (upd H l (.lst ys))
def fList : Dt → (List Dt → Prop) → Prop
  | .lst ds, Φ => Φ ds
  | .tup ds, Φ => Φ ds
  | _, _ => False
instance sb_list : Sb1n K (cList K) fList where
  run B C H σ ρ v d Q Φ S hv h k := by
    cases d <;> try exact False.elim h
    · obtain ⟨a, vs, rfl, ha, ra⟩ := hv.list' S
      exact ⟨a, vs, rfl, .inl (SqL.of ha), fun p hp => k _ _ _ _ (S.allocN hp) (Same.refl _) (S.frN hp ra) h⟩
    · obtain ⟨a, vs, rfl, ha, ra⟩ := hv.tup' S
      exact ⟨a, vs, rfl, .inr ha, fun p hp => k _ _ _ _ (S.allocN hp) (Same.refl _) (S.frN hp ra) h⟩
def cTuple (K : PySem.W.Frag) : List V → Hp → VK → Prop := fun xs H Q => ∃ p ys, xs = [.ref p] ∧ ((SqL K H p ys ∧ ∀ l, H l = none → Q (.ref l) (upd H l (.tup ys))) ∨ (SqT K H p ys ∧ Q (.ref p) H))
def fTuple : Dt → (Dt → Prop) → Prop
  | .lst ds, Φ => Φ (.tup ds)
  | .tup ds, Φ => Φ (.tup ds)
  | _, _ => False
instance sb_tuple : Sb1 K (cTuple K) fTuple where
  run B C H σ ρ v d Q Φ S hv h k := by
    cases d <;> try exact False.elim h
    · obtain ⟨a, vs, rfl, ha, ra⟩ := hv.list' S
      refine ⟨a, vs, rfl, .inl ⟨SqL.of ha, fun p hp => ?_⟩⟩
      have sC : Same C (upd C p (.tup vs)) := same_new (S.cold.free hp)
      exact k _ _ _ _ (S.alloc hp) sC (.tup (.inl (.inl upd_same)) (ra.same sC)) h
    · rcases hv with hv | ⟨_, _, _, _, e, _⟩
      · cases hv with
        | tup a b => exact ⟨_, _, rfl, .inr ⟨seqT_same S.cold a, k _ _ _ _ S (Same.refl _) (.tup a b) h⟩⟩
      · cases e
/-- how it is shown -/
@[irreducible] def shw (d : Dt) : Str := d.py.shown
theorem shw_eq (d : Dt) : shw d = d.py.shown := by unfold shw; rfl
def fRepr (d : Dt) (Φ : Dt → Prop) : Prop := Nice 60 8000 d ∧ Φ (.str (shw d))
instance sb_repr : Sb1 K (cRepr K) fRepr where
  run B C H σ ρ v d Q Φ S hv h k := by
    obtain ⟨n, z⟩ := h
    rw [shw_eq] at z
    exact ⟨v, d.py, rfl, hv.dp S n.pu, n.sh, n.dp, n.short (Nat.le_refl _), k _ _ _ _ S (Same.refl _) (.str _) z⟩
/-! methods of a list that may be changed -/
def hotAt (i : Nat) (ρ : List Sl) (k : List Dt → Prop) : Prop := match ρ[i]? with
  | some (.hot ds) => k ds
  | _ => False
theorem hotAt_run {i : Nat} {ρ : List Sl} {k : List Dt → Prop} (h : hotAt i ρ k) : ∃ ds, ρ[i]? = some (.hot ds) ∧ k ds := by
  unfold hotAt at h
  cases q : ρ[i]? with
  | none => rw [q] at h; exact h.elim
  | some t => rw [q] at h; cases t <;> first | exact ⟨_, rfl, h⟩ | exact False.elim h
def isD (a : Ar) (k : Dt → Prop) : Prop := match a with
  | .d x => k x
  | .b _ => False
/-! the drawer -/
theorem Sep.boxed {B : Bs} {C H G : Hp} {σ : L2.St} {ρ : List Sl} (S : Sep K B C H σ ρ) {i : Nat} {p : Addr} {n m : Int} (hi : ρ[i]? = some (.box n)) (ei : σ[i]? = some (some (V.ref p))) (b : But p H G) (hb : Box G p m) : Sep K B C G σ (ρ.set i (.box m)) := by
  have cp := (S.mutH hi rfl ei).1
  have kp : ∀ a o, H a = some o → a ≠ p → G a = some o := b
  have back : ∀ {j : Nat} {t : Sl}, (ρ.set i (.box m))[j]? = some t → t.mut = true → ∃ t', ρ[j]? = some t' ∧ t'.mut = true := fun {j t} z y => by
    rcases get_set z with ⟨rfl, rfl, l⟩ | ⟨_, z⟩
    · exact ⟨_, hi, rfl⟩
    · exact ⟨t, z, y⟩
  refine ⟨fun a o q => kp a o (S.cold _ _ q) fun z => (by rw [z, cp] at q; cases q), by rw [List.length_set]; exact S.len, fun j s h => ?_, fun j k a t u q h1 h2 m1 m2 e1 e2 => ?_, S.grow, S.new, fun a h => ?_, fun a o h n => kp a o (S.keep a o h n) fun z => ?_, fun j a ds h e => ?_, fun j a n h e => ?_, fun j a h => ?_, S.pz⟩
  · rcases get_set h with ⟨rfl, rfl, l⟩ | ⟨nj, h⟩
    · exact ⟨p, ei, hb, cp⟩
    · have q := S.sl j s h
      cases s with
      | un => trivial
      | dat d => exact q
      | hot ds =>
        obtain ⟨a, vs, e, ha, r, ca⟩ := q
        exact ⟨a, vs, e, kp _ _ ha (fun z => S.ne i j p _ _ nj hi h rfl rfl ei (z ▸ e)), r, ca⟩
      | box n =>
        obtain ⟨a, e, ⟨x, y, z, ha, hh⟩, ca⟩ := q
        have na : a ≠ p := fun z => S.ne i j p _ _ nj hi h rfl rfl ei (z ▸ e)
        exact ⟨a, e, ⟨x, y, z, kp _ _ ha na, hh⟩, ca⟩
  · obtain ⟨t', h1, m1⟩ := back h1 m1
    obtain ⟨u', h2, m2⟩ := back h2 m2
    exact S.ne j k a t' u' q h1 h2 m1 m2 e1 e2
  · have q := S.dom a h
    by_cases z : a = p
    · obtain ⟨x, y, w, hh, _⟩ := hb
      rw [z, hh]
      exact fun z => nomatch z
    · cases e : H a with
      | none => exact absurd e q
      | some o =>
        rw [kp a o e z]
        exact fun z => nomatch z
  · subst z
    rcases S.lob i a _ hi ei with q | q
    · rw [h] at q
      cases q
    · exact n i q
  · rcases get_set h with ⟨rfl, z, l⟩ | ⟨nj, h⟩
    · cases z
    · exact S.loc j a ds h e
  · rcases get_set h with ⟨rfl, z, l⟩ | ⟨nj, h⟩
    · exact S.lob i a _ hi e
    · exact S.lob j a n h e
  · obtain ⟨h1, n', h2⟩ := S.par j a h
    by_cases z : i = j
    · subst z
      refine ⟨h1, m, set_at ?_⟩
      cases Nat.lt_or_ge i ρ.length with
      | inl h => exact h
      | inr g => rw [List.getElem?_eq_none g] at hi; cases hi
    · exact ⟨h1, n', by rw [set_off z]; exact h2⟩
def wTake : WF := fun ps Ψ => match ps with
  | [.box n, .dat (.int m)] => (n < 1000000000 ∧ 0 < m ∧ m < 340282366920938463463374607431768211456) ∧ ∀ r : Int, 0 ≤ r → r < m → Ψ (.dat (.int r)) [.box (n + 1), .dat (.int m)]
  | _ => False
theorem take_imp {vs : List V} {H : Hp} {Q : VK} {E : XK} (h : spD K 2 wTake vs H Q E) : spLTake vs H Q E := by
  obtain ⟨hl, C, bx, ps, Ψ, S, hw, k⟩ := h
  unfold wTake at hw
  split at hw
  · rename_i n m
    obtain ⟨⟨h1, h2, h3⟩, hw⟩ := hw
    match vs, hl with
    | [a, b], _ =>
      obtain ⟨p, e, hb, _⟩ := S.sl 0 _ rfl
      obtain ⟨v, e2, r⟩ := S.sl 1 _ rfl
      cases (Option.some.inj (Option.some.inj e))
      cases (Option.some.inj (Option.some.inj e2))
      cases r
      exact ⟨p, m, n, rfl, hb, by omega, h2, h3, fun r G bt bG r0 r1 => k C G (.int r) (.dat (.int r)) _ (S.boxed (i := 0) rfl rfl bt bG) (.int r) (hw r r0 r1)⟩
  · exact hw.elim
/-- a new drawer, in slot i -/
def wBox (i : Nat) (wa : WA) : WS := fun ρ Φ => wa ρ fun as ρ1 => match as with
  | [.d (.scr _), .d (.int k)] => (0 ≤ k ∧ k ≤ 1000) ∧ put i (.box 0) ρ1 Φ.nx
  | _ => False
instance ss_box {i : Nat} {ta : TA} {wa : WA} {E : XK} [a : Sa K ta wa] : Ss K (tAsg (tCall (spLBox K) [] E ta) (gName i)) (wBox i wa) where
  run B C H σ ρ D Φ S h m := a.run B C H σ ρ _ _ S h fun C1 H1 vs as ρ1 S1 s1 ok1 h1 => by
    split at h1
    · rename_i ns k
      obtain ⟨⟨k0, k1⟩, h1⟩ := h1
      obtain ⟨h2, h3⟩ := put_run h1
      match ok1 with
      | .cons (v := v1) r1 (.cons (v := v2) r2 .nil) =>
        cases r2
        cases r1 with
        | @scr b _ hs =>
          have ek : V.int k = V.int ((k.toNat : Nat) : Int) := by rw [Int.toNat_of_nonneg k0]
          refine ⟨b, ns, k.toNat, by rw [ek]; rfl, S1.cold.seq hs, by omega, fun p x y hp hx hy hy2 => ?_⟩
          exact m.nx _ _ _ _ ((S1.allocN hp).put (x := some (.ref p)) (s := .box 0) h2 (fun _ => ⟨p, rfl, ⟨x, y, 0, upd_same, hx, hy, hy2, Int.le_refl _, Int.le_refl _⟩, S1.cold.free hp⟩) fun _ b e => by cases e; exact ⟨fun j t _ => S1.nohot hp j t, S1.free0 hp⟩) h3
    · exact h1.elim
/-! the law -/
def spLawD (K : PySem.W.Frag) : Sp := spD K 1 fun ps Ψ => match ps with
  | [.dat (.scr ns)] => ns.length ≤ 63 ∧ Ψ (.dat (.bl true)) ps
  | _ => False
theorem law_imp {H : Hp} {a : Addr} {ns : List Int} (hl : ns.length ≤ 63) (h : SqL K H a (ns.map V.int)) : spLawD K [.ref a] H (fun v _ => v = .bl true) fun _ _ _ => False := by
  refine ⟨rfl, H, none, [.dat (.scr ns)], fun r _ => r = .dat (.bl true), ⟨Same.refl _, rfl, fun i s e => ?_, fun i j a s t n h1 h2 m1 m2 e1 e2 => ?_, Same.refl _, fun a o e n => (by rw [show H a = none from n] at e; cases e), fun a h => h, fun a o h n => h, fun i a ds h e => ?_, fun i a n h e => ?_, fun i a h => (nomatch h), fun i a h => (nomatch h)⟩, ⟨hl, rfl⟩, fun C' G v r ps' S' ok e => ?_⟩
  · match i, e with
    | 0, e =>
      cases e
      exact ⟨_, rfl, .scr h⟩
    | i + 1, e => simp at e
  · match i, h1 with
    | 0, h1 => cases h1; cases m1
    | i + 1, h1 => simp at h1
  · match i, h with
    | 0, h => cases h
    | i + 1, h => simp at h
  · match i, h with
    | 0, h => cases h
    | i + 1, h => simp at h
  · subst e
    cases ok
    rfl

end
section
variable {P : Program} {w : World} {K : PySem.W.Frag} {mg : Str → Option Value} {base : Heap}
local macro_rules | `(tactic| get_elem_tactic_trivial) => `(tactic| (repeat first | exact Wk.nil | exact Wk'.nil | refine Wk.same ?_ | refine Wk'.same ?_ | refine Wk.un (fun _ z => nomatch z) ?_ | refine Wk'.un ?_))
/-! subscripts of lists, tuples, texts -/
def oIx : Dt → Dt → (Dt → Prop) → Prop
  | .lst ds, .int i, Φ => ∃ d, atI ds i = some d ∧ Φ d
  | .tup ds, .int i, Φ => ∃ d, atI ds i = some d ∧ Φ d
  | .str z, .int i, Φ => z.length ≤ sizeLine ∧ ∃ c, atI z.cps.toList i = some c ∧ Φ (.str ⟨#[c]⟩)
  | _, _, _ => False
instance so_ix : So K (rIx K) oIx where
  run B C H σ ρ x y dx dy Q Φ S hx hy h k := by
    cases dx <;> cases dy <;> try exact False.elim h
    · obtain ⟨z, c, e, q⟩ := h
      exact .inr (.inr ⟨_, _, c, hx.str, hy.int, z, e, k _ _ _ _ S (Same.refl _) (.str _) q⟩)
    · exact .inl (so_ixL.run B C H σ ρ _ _ _ _ Q Φ S hx hy h k)
    · exact .inr (.inl (so_ixT.run B C H σ ρ _ _ _ _ Q Φ S hx hy h k))
/-! what a for walks -/
section
variable {X : Cx} {tg e : Expr} {te : TE}
def iAny (K : PySem.W.Frag) (te : TE) : TI := fun σ H R => te σ H fun x H1 => ∃ a, x = .ref a ∧ (((∃ xs, SqL K H1 a xs) ∧ R (Itl K a) H1) ∨ ((∃ xs, SqT K H1 a xs) ∧ R (Itt K a) H1))
theorem piAny (hk : X.K = K) (he : PE X e te) : PI X tg e (iAny K te) := by
  subst hk
  constructor
  intro pins s σ H R I h
  apply thn (he.run pins s σ H _ I h)
  rintro v s1 ⟨x, H1, I1, r1, a, rfl, q⟩
  cases r1
  have fresh : ∀ b ∈ [s1.heap.objs.size], FpOk X pins H1 b := by
    intro b hb
    rw [List.mem_singleton.mp hb]
    exact I1.fpOk (Nat.le_refl _) (I1.hok.fresh (Nat.le_refl _))
  rcases q with ⟨⟨xs, hq⟩, q⟩ | ⟨⟨xs, hq⟩, q⟩
  · obtain ⟨its, _, pl, _⟩ := I1.list hq
    apply wpAny_pyIter_list pl.isList
    exact ⟨_, _, _, _, H1, rfl, I1.kept (t' := s1.toks) fun b o z => Heap.get?_push_of_some _ z, turn_list a _, ⟨_, Heap.get?_push_size _ rfl, rfl, rfl⟩, fresh, q⟩
  · obtain ⟨its, _, pl, _⟩ := I1.tuple hq
    apply wpAny_pyIter_tuple (show s1.heap.IsTuple a its.toArray from pl)
    exact ⟨_, _, _, _, H1, rfl, I1.kept (t' := s1.toks) fun b o z => Heap.get?_push_of_some _ z, turn_tuple a _, ⟨_, Heap.get?_push_size _ rfl, rfl, rfl⟩, fresh, q⟩
end
def seqOf (a : Ar) (k : List Dt → Prop) : Prop := match a with
  | .d (.lst ds) => k ds
  | .d (.tup ds) => k ds
  | _ => False
def wiAny (w : WE) : WI := fun ρ Ψ => w ρ fun r ρ1 => store r ρ1 fun a ρ2 => seqOf a fun ds => Ψ ds ρ2
theorem itd_list {C : Hp} {a : Addr} {xs : List V} {ds : List Dt} (hs : C a = some (.lst xs)) (rl : RpL K C xs ds) : ItD K (Itl K a) C ds := fun B3 C3 H3 σ3 ρ3 S3 s3 => by
  have q : SqL K H3 a xs := SqL.of (S3.cold _ _ (s3 _ _ hs))
  have lq := rl.len
  refine ⟨fun i hi => ⟨xs, xs[i], q, by simp [lq, hi]⟩, ⟨xs, q, by omega⟩, fun i y H' d hd yl => ?_⟩
  obtain ⟨rfl, yl⟩ := yl
  obtain ⟨d', hd', r'⟩ := rl.at (yl xs q)
  rw [hd] at hd'
  cases hd'
  exact ⟨C3, S3, Same.refl _, r'.same s3⟩
theorem itd_tup {C : Hp} {a : Addr} {xs : List V} {ds : List Dt} (hs : SqT K C a xs) (rl : RpL K C xs ds) : ItD K (Itt K a) C ds := fun B3 C3 H3 σ3 ρ3 S3 s3 => by
  have q := seqT_same S3.cold (seqT_same s3 hs)
  have lq := rl.len
  refine ⟨fun i hi => ⟨xs, xs[i], q, by simp [lq, hi]⟩, ⟨xs, q, by omega⟩, fun i y H' d hd yl => ?_⟩
  obtain ⟨rfl, yl⟩ := yl
  obtain ⟨d', hd', r'⟩ := rl.at (yl xs q)
  rw [hd] at hd'
  cases hd'
  exact ⟨C3, S3, Same.refl _, r'.same s3⟩
instance si_any {te : TE} {w : WE} [a : Sd K te w] : Si K (iAny K te) (wiAny w) where
  run B C H σ ρ R Ψ S h k := a.run B C H σ ρ _ _ S h fun C1 H1 v1 r1 ρ1 S1 s1 ok1 h1 => by
    obtain ⟨C2, x, ρ2, S2, s2, ok2, h2⟩ := S1.stored ok1 h1
    cases x with
    | b i => exact False.elim h2
    | d x =>
      cases x <;> try exact False.elim h2
      · cases ok2 with
        | lst hs rl => exact ⟨_, rfl, .inl ⟨⟨_, SqL.of (S2.cold _ _ hs)⟩, k _ _ _ _ _ S2 (s1.trans s2) (itd_list hs rl) h2⟩⟩
      · cases ok2 with
        | tup hs rl => exact ⟨_, rfl, .inr ⟨⟨_, seqT_same S2.cold hs⟩, k _ _ _ _ _ S2 (s1.trans s2) (itd_tup hs rl) h2⟩⟩
/-- the signs of a text -/
def signs (z : Str) : List Dt := z.cps.toList.map fun c => .str ⟨#[c]⟩
def wiStr (w : WE) : WI := fun ρ Ψ => w ρ fun r ρ1 => match r with
  | .dat (.str z) => Ψ (signs z) ρ1
  | _ => False
instance si_str {te : TE} {w : WE} [a : Sd K te w] : Si K (iStr te) (wiStr w) where
  run B C H σ ρ R Ψ S h k := a.run B C H σ ρ _ _ S h fun C1 H1 v1 r1 ρ1 S1 s1 ok1 h1 => by
    cases r1 with
    | hot i ds => exact False.elim h1
    | box i n => exact False.elim h1
    | dat x =>
      cases x <;> try exact False.elim h1
      rename_i z
      cases ok1
      refine ⟨z, rfl, k _ _ _ _ _ S1 s1 (fun B3 C3 H3 σ3 ρ3 S3 s3 => ?_) h1⟩
      have el : (signs z).length = z.cps.size := by unfold signs; rw [List.length_map, Array.length_toList]
      have W := walk_str (z := z)
      refine ⟨fun i hi => W.goes i H3 (by omega) trivial, by rw [el]; exact W.stops H3 trivial, fun i y H' d hd yl => ?_⟩
      have hi : i < z.cps.size := by
        cases Nat.lt_or_ge i z.cps.size with
        | inl h => exact h
        | inr g => rw [List.getElem?_eq_none (by omega)] at hd; cases hd
      obtain ⟨rfl, c, hc, rfl⟩ := W.yields i H3 y H' hi trivial yl
      refine ⟨C3, S3, Same.refl _, ?_⟩
      unfold signs at hd
      rw [List.getElem?_map, Array.getElem?_toList, hc] at hd
      cases hd
      exact .str _
/-! == and != of all kinds -/
def rEqA (K : PySem.W.Frag) : R2 := fun x y H Q => rEq x y H Q ∨ rEqD K x y H Q
def rNeA (K : PySem.W.Frag) : R2 := fun x y H Q => rNe x y H Q ∨ rNeD K x y H Q
section
variable {X : Cx}
theorem opEqA (hk : X.K = K) (hu : X.A.units + 64 < cLine) : OpR X (compareOp .Eq) (rEqA K) := by
  subst hk
  exact op_eq.or (op_eqD hu)
theorem opNeA (hk : X.K = K) (hu : X.A.units + 64 < cLine) : OpR X (compareOp .NotEq) (rNeA K) := by
  subst hk
  exact op_ne.or (op_neD hu)
end
def oEqA (neg : Bool) : Dt → Dt → (Dt → Prop) → Prop
  | .int i, .int j, Φ => Φ (.bl (if neg then !decide (i = j) else decide (i = j)))
  | .str i, .str j, Φ => Φ (.bl (if neg then !decide (i = j) else decide (i = j)))
  | .bl i, .bl j, Φ => Φ (.bl (if neg then !decide (i = j) else decide (i = j)))
  | d, e, Φ => oEqD neg d e Φ
theorem dec_V {α : Type} [DecidableEq α] {f : α → V} (inj : ∀ {a b : α}, f a = f b → a = b) (i j : α) : decide (f i = f j) = decide (i = j) := by
  by_cases h : i = j
  · rw [h, decide_eq_true rfl, decide_eq_true rfl]
  · rw [decide_eq_false h, decide_eq_false fun z => h (inj z)]
instance so_EqA : So K (rEqA K) (oEqA false) where
  run B C H σ ρ x y dx dy Q Φ S hx hy h k := by
    cases dx <;> cases dy <;> first
      | exact .inr (so_eqD.run B C H σ ρ _ _ _ _ Q Φ S hx hy h k)
      | (cases hx.int; cases hy.int; exact .inl ⟨rfl, by rw [dec_V (f := V.int) V.int.inj]; exact k _ _ _ _ S (Same.refl _) (.bl _) h⟩)
      | (cases hx.str; cases hy.str; exact .inl ⟨rfl, by rw [dec_V (f := V.str) V.str.inj]; exact k _ _ _ _ S (Same.refl _) (.bl _) h⟩)
      | (cases hx.bl; cases hy.bl; exact .inl ⟨rfl, by rw [dec_V (f := V.bl) V.bl.inj]; exact k _ _ _ _ S (Same.refl _) (.bl _) h⟩)
instance so_NeA : So K (rNeA K) (oEqA true) where
  run B C H σ ρ x y dx dy Q Φ S hx hy h k := by
    cases dx <;> cases dy <;> first
      | exact .inr (so_neD.run B C H σ ρ _ _ _ _ Q Φ S hx hy h k)
      | (cases hx.int; cases hy.int; exact .inl ⟨rfl, by rw [dec_V (f := V.int) V.int.inj]; exact k _ _ _ _ S (Same.refl _) (.bl _) h⟩)
      | (cases hx.str; cases hy.str; exact .inl ⟨rfl, by rw [dec_V (f := V.str) V.str.inj]; exact k _ _ _ _ S (Same.refl _) (.bl _) h⟩)
      | (cases hx.bl; cases hy.bl; exact .inl ⟨rfl, by rw [dec_V (f := V.bl) V.bl.inj]; exact k _ _ _ _ S (Same.refl _) (.bl _) h⟩)
/-! calls by keywords -/
def gP (is : List Nat) {α : Type} (us ws : List α) : List α := is.filterMap fun i => (us ++ ws)[i]?
theorem gP_vals (is : List Nat) {vs zs : List V} {us ws : List Value} (h1 : Vals vs us) (h2 : Vals zs ws) : Vals (gP is vs zs) (gP is us ws) := by
  have h := h1.append h2
  unfold gP
  induction is with
  | nil => exact .nil
  | cons i is ih =>
    rw [List.filterMap_cons, List.filterMap_cons]
    cases q : (vs ++ zs)[i]? with
    | none =>
      rw [h.none_of q]
      exact ih
    | some v =>
      obtain ⟨u, e, r⟩ := h.get q
      rw [e]
      exact .cons r ih
theorem ArL.ofRp {C : Hp} {σ : L2.St} : ∀ {vs : List V} {ds : List Dt}, RpL K C vs ds → ArL K C σ vs (ds.map .d)
  | _, _, .nil => .nil
  | _, _, .cons h t => .cons h (ArL.ofRp t)

end
section
variable {P : Program} {w : World} {K : PySem.W.Frag} {mg : Str → Option Value} {base : Heap}
local macro_rules | `(tactic| get_elem_tactic_trivial) => `(tactic| (repeat first | exact Wk.nil | exact Wk'.nil | refine Wk.same ?_ | refine Wk'.same ?_ | refine Wk.un (fun _ z => nomatch z) ?_ | refine Wk'.un ?_))
/-! words for reading -/
theorem ifF {b : Bool} {p q : Prop} (h : b = false) (hq : q) : if b = true then p else q := by rw [h, if_neg Bool.false_ne_true]; exact hq
theorem ifT {b : Bool} {p q : Prop} (h : b = true) (hp : p) : if b = true then p else q := by rw [h, if_pos rfl]; exact hp
theorem atD {α : Type} {xs : List α} {r : Int} (h0 : 0 ≤ r) (h1 : r < xs.length) : ∃ v, atI xs r = some v ∧ v ∈ xs := by
  obtain ⟨j, rfl⟩ : ∃ j : Nat, r = (j : Int) := ⟨r.toNat, by omega⟩
  have hj : j < xs.length := by omega
  exact ⟨xs[j], atI_nat (List.getElem?_eq_getElem hj), List.getElem_mem hj⟩
theorem cut_drop {ds : List Dt} {i : Int} (h0 : 0 ≤ i) : cutD ds (some i) none = ds.drop i.toNat := by
  unfold cutD
  have e : HT.sIx ds.length 0 (some i) = min i.toNat ds.length := by
    show (if i < 0 then (i + (ds.length : Int)).toNat else min i.toNat ds.length) = _
    rw [if_neg (by omega)]
  rw [e]
  show (ds.drop (min i.toNat ds.length)).take (ds.length - min i.toNat ds.length) = _
  rw [List.take_of_length_le (by rw [List.length_drop]; omega)]
  by_cases h : i.toNat ≤ ds.length
  · rw [Nat.min_eq_left h]
  · rw [Nat.min_eq_right (by omega), List.drop_length, List.drop_eq_nil_of_le (by omega)]
theorem neDiff {α : Type} [DecidableEq α] {x y : α} (h : x ≠ y) : (if true = true then !decide (x = y) else decide (x = y)) = true := by rw [if_pos rfl, decide_eq_false h]; rfl
theorem eqSame {α : Type} [DecidableEq α] {x y : α} (h : x = y) : (if false = true then !decide (x = y) else decide (x = y)) = true := by rw [if_neg Bool.false_ne_true, decide_eq_true h]
theorem eqDiff {α : Type} [DecidableEq α] {x y : α} (h : x ≠ y) : (if false = true then !decide (x = y) else decide (x = y)) = false := by rw [if_neg Bool.false_ne_true, decide_eq_false h]
/-! the ways of an if joined -/
/-! a test or a thing that changes nothing, by its outcome -/
def tPureT (t : TT) : TT := t
def wPureT (w : WT) : WT := fun ρ Ψ => ∃ b : Bool, (w ρ fun c ρ1 => c = b ∧ ρ1 = ρ) ∧ Ψ b ρ
instance sc_pure {t : TT} {w : WT} [a : Sc K t w] : Sc K (tPureT t) (wPureT w) where
  run B C H σ ρ Q Ψ S h k := by
    obtain ⟨b, h1, h2⟩ := h
    exact a.run B C H σ ρ _ _ S h1 fun C1 H1 c ρ1 S1 s1 ⟨e1, e2⟩ => by
      subst e1 e2
      exact k _ _ _ _ S1 s1 h2
theorem ptPure {X : Cx} {e : Expr} {t : TT} (h : PT X e t) : PT X e (tPureT t) := h
theorem atD_of {α : Type} {xs : List α} {r : Int} {v : α} (h0 : 0 ≤ r) (h : xs[r.toNat]? = some v) : atI xs r = some v := by
  have e : r = ((r.toNat : Nat) : Int) := by omega
  rw [e]
  exact atI_nat h

end
section
variable {P : Program} {w : World} {K : PySem.W.Frag} {mg : Str → Option Value} {base : Heap}
local macro_rules | `(tactic| get_elem_tactic_trivial) => `(tactic| (repeat first | exact Wk.nil | exact Wk'.nil | refine Wk.same ?_ | refine Wk'.same ?_ | refine Wk.un (fun _ z => nomatch z) ?_ | refine Wk'.un ?_))
/-! two names put at once, one or both of them a new list -/
theorem Fr.held {B : Bs} {C H : Hp} {σ : L2.St} {ρ : List Sl} {a : Addr} {ds : List Dt} (f : Fr K B C H σ ρ a ds) (S : Sep K B C H σ ρ) : ∃ vs, H a = some (.lst vs) ∧ RpL K C vs ds ∧ Sep K (B.hold a (.lst vs)) C H σ ρ ∧ B.C0 a = none ∧ ∀ i, B.bx ≠ some (i, a) := by
  obtain ⟨⟨vs, ha, r⟩, ca, h0, nh⟩ := f
  exact ⟨vs, ha, r, S.hold ha ca nh, S.grow.free ca, S.bxne nh⟩
theorem Sep.putHot {B : Bs} {C H : Hp} {σ : L2.St} {ρ : List Sl} {i : Nat} {a : Addr} {ds : List Dt} (S : Sep K B C H σ ρ) (f : Fr K B C H σ ρ a ds) (hb : i = 0 → ∀ n, ρ[i]? ≠ some (.box n)) : Sep K B C H (σ.set i (some (.ref a))) (ρ.set i (.hot ds)) := by
  obtain ⟨⟨vs, ha, r⟩, ca, h0, nh⟩ := f
  exact S.put (x := some (.ref a)) (s := .hot ds) hb (fun _ => ⟨a, vs, rfl, ha, r, ca⟩) fun _ b e => by cases e; exact ⟨fun j t _ => nh j t, h0⟩
def wParN1 (i j : Nat) (wa : WN) (wb : WE) : WS := fun ρ Φ => wa ρ fun ds ρ1 => wb ρ1 fun r ρ2 => store r ρ2 fun a ρ3 => isD a fun d => put i (.hot ds) ρ3 fun ρ4 => put j (.dat d) ρ4 Φ.nx
theorem isD_run {C : Hp} {σ : L2.St} {v : V} {a : Ar} {k : Dt → Prop} (ok : ArOk K C σ v a) (h : isD a k) : ∃ d, Rp K C v d ∧ k d := by
  cases a with
  | d x => exact ⟨x, ok, h⟩
  | b i => exact False.elim h
instance (priority := 1100) ss_parN1 {i j : Nat} {ta tb : TE} {wa : WN} {wb : WE} [a : Sn K ta wa] [b : Sd K tb wb] : Ss K (tPar i j (tCons ta (tCons tb tNil))) (wParN1 i j wa wb) where
  run B C H σ ρ D Φ S h m := a.run B C H σ ρ _ _ S h fun C1 H1 x ds ρ1 S1 s1 f h1 => by
    obtain ⟨vs, hx, rx, Sh, c0, bx⟩ := f.held S1
    refine b.run _ C1 H1 σ ρ1 _ _ Sh h1 fun C2 H2 v2 r2 ρ2 S2 s2 ok2 h2 => ?_
    obtain ⟨C3, y, ρ3, S3, s3, ok3, h3⟩ := S2.stored ok2 h2
    obtain ⟨d, r3, h3⟩ := isD_run ok3 h3
    obtain ⟨S4, q4, c4, nh4⟩ := S3.unhold f.2.2.1 c0 bx
    obtain ⟨p1, h4⟩ := put_run h3
    obtain ⟨p2, h5⟩ := put_run h4
    exact ⟨_, _, rfl, m.nx _ _ _ _ ((S4.putHot ⟨⟨vs, q4, rx.same (s2.trans s3)⟩, c4, f.2.2.1, nh4⟩ p1).dat p2 r3) h5⟩
/-! extend -/
/-! texts -/
def rAddS : R2 := fun x y H Q => ∃ i j, x = .str i ∧ y = .str j ∧ i.length + j.length ≤ sizeLine ∧ Q (.str (i ++ j)) H
def oAddS : Dt → Dt → (Dt → Prop) → Prop
  | .str i, .str j, Φ => i.length + j.length ≤ sizeLine ∧ Φ (.str (i ++ j))
  | _, _, _ => False
instance so_addS : So K rAddS oAddS where
  run B C H σ ρ x y dx dy Q Φ S hx hy h k := by
    cases dx <;> cases dy <;> try exact False.elim h
    exact ⟨_, _, hx.str, hy.str, h.1, k _ _ _ _ S (Same.refl _) (.str _) h.2⟩
/-- texts -/
def txts : List Dt → Option (List Str)
  | [] => some []
  | .str x :: ds => match txts ds with
    | some xs => some (x :: xs)
    | none => none
  | _ :: _ => none
theorem txts_map : ∀ xs : List Str, txts (xs.map .str) = some xs
  | [] => rfl
  | x :: xs => by
    show (match txts (xs.map .str) with | some ys => some (x :: ys) | none => none) = _
    rw [txts_map xs]
theorem txts_ok {C : Hp} : ∀ {vs : List V} {ds : List Dt} {xs : List Str}, RpL K C vs ds → txts ds = some xs → vs = xs.map V.str
  | _, _, xs, .nil, e => by cases e; rfl
  | _, .str b :: ds, xs, .cons h t, e => by
    cases h
    unfold txts at e
    cases q : txts ds with
    | none => rw [q] at e; cases e
    | some cs =>
      rw [q] at e
      cases e
      rw [txts_ok t q]
      rfl
  | _, .non :: ds, bs, .cons h t, e => by cases e
  | _, .int _ :: ds, bs, .cons h t, e => by cases e
  | _, .bl _ :: ds, bs, .cons h t, e => by cases e
  | _, .lst _ :: ds, bs, .cons h t, e => by cases e
  | _, .tup _ :: ds, bs, .cons h t, e => by cases e
  | _, .obj _ _ _ :: ds, bs, .cons h t, e => by cases e
  | _, .err _ _ :: ds, bs, .cons h t, e => by cases e
  | _, .scr _ :: ds, bs, .cons h t, e => by cases e
/-- a text's method of one thing -/
class Sm1 (K : PySem.W.Frag) (r : V → List V → Hp → VK → Prop) (f : outParam (Str → Dt → (Dt → Prop) → Prop)) : Prop where
  run : ∀ (B : Bs) (C H : Hp) (σ : L2.St) (ρ : List Sl) (x : Str) (y : V) (d : Dt) (Q : VK) (Φ : Dt → Prop), Sep K B C H σ ρ → Rt K C H y d → f x d Φ → (∀ C' G v e, Sep K B C' G σ ρ → Same C C' → Rp K C' v e → Φ e → Q v G) → r (.str x) [y] H Q
def isStr (r : Rs) (k : Str → Prop) : Prop := match r with
  | .dat (.str x) => k x
  | _ => False
theorem isStr_run {C : Hp} {σ : L2.St} {ρ : List Sl} {v : V} {r : Rs} {k : Str → Prop} (ok : RsOk K C σ ρ v r) (h : isStr r k) : ∃ x, v = .str x ∧ k x := by
  cases r with
  | dat d =>
    cases d <;> try exact False.elim h
    cases ok
    exact ⟨_, rfl, h⟩
  | hot i ds => exact False.elim h
  | box i n => exact False.elim h
def wM1 (f : Str → Dt → (Dt → Prop) → Prop) (wo we : WE) : WE := fun ρ Ψ => wo ρ fun r ρ1 => isStr r fun x => we ρ1 fun r2 ρ2 => match r2.val ρ2 with
  | some d => f x d fun e => Ψ (.dat e) ρ2
  | none => False
instance sd_m1 {r : V → List V → Hp → VK → Prop} {f : Str → Dt → (Dt → Prop) → Prop} {to te : TE} {wo we : WE} [m : Sm1 K r f] [a : Sd K to wo] [b : Sd K te we] : Sd K (tM1 r to te) (wM1 f wo we) where
  run B C H σ ρ Q Ψ S h k := a.run B C H σ ρ _ _ S h fun C1 H1 v1 r1 ρ1 S1 s1 ok1 h1 => by
    obtain ⟨x, rfl, h1⟩ := isStr_run ok1 h1
    refine ⟨⟨x, rfl⟩, b.run B C1 H1 σ ρ1 _ _ S1 h1 fun C2 H2 v2 r2 ρ2 S2 s2 ok2 h2 => ?_⟩
    cases q : r2.val ρ2 with
    | none => simp only [q] at h2
    | some d =>
      simp only [q] at h2
      exact m.run B C2 H2 σ ρ2 x v2 d Q _ S2 (S2.valOf ok2 (Same.refl _) q) h2 fun C3 H3 v e S3 s3 r3 z => k _ _ _ (.dat e) _ S3 (s1.trans (s2.trans s3)) r3 z
def cJoin (K : PySem.W.Frag) : V → List V → Hp → VK → Prop := fun x xs H Q => ∃ a p, ∃ ys : List Str, x = .str a ∧ xs = [.ref p] ∧ (SqL K H p (ys.map V.str) ∨ SqT K H p (ys.map V.str)) ∧ (ys.map (·.length)).sum + ys.length * a.length ≤ 16777216 ∧ Q (.str (Txt.join a ys)) H
def fJoin (x : Str) : Dt → (Dt → Prop) → Prop
  | .lst ds, Φ => ∃ ys, txts ds = some ys ∧ (ys.map (·.length)).sum + ys.length * x.length ≤ 16777216 ∧ Φ (.str (Txt.join x ys))
  | _, _ => False
instance sm_join : Sm1 K (cJoin K) fJoin where
  run B C H σ ρ x y d Q Φ S hy h k := by
    cases d <;> try exact False.elim h
    obtain ⟨ys, e, z, h⟩ := h
    obtain ⟨a, vs, rfl, ha, ra⟩ := hy.list' S
    exact ⟨x, a, ys, rfl, rfl, .inl (by rw [← txts_ok ra e]; exact SqL.of ha), z, k _ _ _ _ S (Same.refl _) (.str _) h⟩

end
section
variable {P : Program} {w : World} {K : PySem.W.Frag} {mg : Str → Option Value} {base : Heap}
local macro_rules | `(tactic| get_elem_tactic_trivial) => `(tactic| (repeat first | exact Wk.nil | exact Wk'.nil | refine Wk.same ?_ | refine Wk'.same ?_ | refine Wk.un (fun _ z => nomatch z) ?_ | refine Wk'.un ?_))
/-! tuples cut and joined -/
def wSlT (w : WE) (wl wh : WO) : WE := fun ρ Ψ => w ρ fun r ρ1 => wl ρ1 fun lo ρ2 => wh ρ2 fun hi ρ3 => match r with
  | .dat (.tup ds) => Ψ (.dat (.tup (cutD ds lo hi))) ρ3
  | _ => False
theorem cut_whole {ds : List Dt} {lo hi : Option Int} (h : HT.sIx ds.length 0 lo = 0 ∧ HT.sIx ds.length ds.length hi = ds.length) : cutD ds lo hi = ds := by
  unfold cutD
  rw [h.1, h.2, List.drop_zero, Nat.sub_zero, List.take_length]
instance sd_slT {te : TE} {tl th : TO} {w : WE} {wl wh : WO} [a : Sd K te w] [b : Sop K tl wl] [c : Sop K th wh] : Sd K (tSl (rSlA K) te tl th) (wSlT w wl wh) where
  run B C H σ ρ Q Ψ S h k := by
    refine a.run B C H σ ρ _ _ S h fun C1 H1 v1 r1 ρ1 S1 s1 ok1 h1 => ?_
    refine b.run B C1 H1 σ ρ1 _ _ S1 h1 fun C2 H2 lo ρ2 S2 s2 h2 => ?_
    refine c.run B C2 H2 σ ρ2 _ _ S2 h2 fun C3 H3 hi ρ3 S3 s3 h3 => ?_
    cases r1 with
    | hot i ds => exact False.elim h3
    | box i n => exact False.elim h3
    | dat d =>
      cases d <;> try exact False.elim h3
      rename_i ds
      cases Rp.same ok1 (s2.trans s3) with
      | @tup x vs _ hs rl =>
        have lq := rl.len
        refine ⟨x, vs, rfl, seqT_same S3.cold hs, fun hw => ?_, fun _ p hp => ?_⟩
        · rw [lq] at hw
          replace h3 : Ψ (.dat (.tup (cutD ds lo hi))) ρ3 := h3
          rw [cut_whole hw] at h3
          exact k _ _ _ (.dat (.tup ds)) _ S3 (s1.trans (s2.trans s3)) (.tup hs rl) h3
        · have sC : Same C3 (upd C3 p (.tup (cutV vs lo hi))) := same_new (S3.cold.free hp)
          exact k _ _ _ (.dat (.tup (cutD ds lo hi))) _ (S3.alloc hp) (s1.trans (s2.trans (s3.trans sC))) (.tup (.inl (.inl upd_same)) ((rl.cut lo hi).same sC)) h3
def oCatT : Dt → Dt → (Dt → Prop) → Prop
  | .tup ds, .tup es, Φ => ds.length + es.length ≤ sizeLine ∧ Φ (.tup (ds ++ es))
  | _, _, _ => False
instance so_catT : So K (rCatA K) oCatT where
  run B C H σ ρ x y dx dy Q Φ S hx hy h k := by
    cases dx <;> cases dy <;> try exact False.elim h
    rename_i ds es
    obtain ⟨h1, h2⟩ := h
    have hx' : Rp K C x (.tup ds) := by
      rcases hx with hx | ⟨_, _, _, _, e, _⟩
      · exact hx
      · cases e
    have hy' : Rp K C y (.tup es) := by
      rcases hy with hy | ⟨_, _, _, _, e, _⟩
      · exact hy
      · cases e
    cases hx' with
    | @tup a vs _ ha ra =>
    cases hy' with
    | @tup b ws _ hb rb =>
      refine ⟨a, b, vs, ws, rfl, rfl, seqT_same S.cold ha, seqT_same S.cold hb, by rw [ra.len, rb.len]; exact h1, fun e => ?_, fun _ e => ?_, fun _ _ p hp => ?_⟩
      · have : ds = [] := by
          subst e
          cases ra
          rfl
        subst this
        exact k _ _ _ _ S (Same.refl _) (.tup hb rb) h2
      · have : es = [] := by
          subst e
          cases rb
          rfl
        subst this
        rw [List.append_nil] at h2
        exact k _ _ _ _ S (Same.refl _) (.tup ha ra) h2
      · have sC : Same C (upd C p (.tup (vs ++ ws))) := same_new (S.cold.free hp)
        exact k _ _ _ _ (S.alloc hp) sC (.tup (.inl (.inl upd_same)) ((ra.append rb).same sC)) h2
/-! calls by keywords that tell a new list -/
theorem nice_str {x : Str} (h : PyData.strOk x = true) {b : Nat} (hb : x.cps.size ≤ b) : Nice 0 b (.str x) := by
  refine ⟨rfl, ?_, ?_, ?_, Nat.le_refl _, ?_⟩
  · show PyData.canLay0 (.str x) = true
    simp only [PyData.canLay0]
    exact h
  · show PyData.showable (.str x) = true
    simp only [PyData.showable]
  · show PyData.leavesShort 1921 (.str x) = true
    simp only [PyData.leavesShort]
    rw [List.all_eq_true]
    intro c hc
    rw [decide_eq_true_eq]
    have := Array.all_eq_true_iff_forall_mem.mp h c (Array.mem_def.mpr hc)
    have h2 : c < 0x110000 := of_decide_eq_true this
    exact Nat.lt_of_lt_of_le h2 (by decide)
  · show PyData.bulk (.str x) ≤ b
    simp only [PyData.bulk]
    exact hb

end
section
variable {P : Program} {w : World} {K : PySem.W.Frag} {mg : Str → Option Value} {base : Heap}
local macro_rules | `(tactic| get_elem_tactic_trivial) => `(tactic| (repeat first | exact Wk.nil | exact Wk'.nil | refine Wk.same ?_ | refine Wk'.same ?_ | refine Wk.un (fun _ z => nomatch z) ?_ | refine Wk'.un ?_))
/-! kinds -/
def kindS : Dt → Option String
  | .non => some "NoneType"
  | .bl _ => some "bool"
  | .int _ => some "int"
  | .str _ => some "str"
  | .lst _ => some "list"
  | .tup _ => some "tuple"
  | .scr _ => some "list"
  | .obj _ _ _ => none
  | .err _ _ => none
  | .adr _ => none
  | .dic _ _ => none
theorem kind_ty {B : Bs} {C H : Hp} {σ : L2.St} {ρ : List Sl} {v : V} {d : Dt} {k : String} (S : Sep K B C H σ ρ) (h : Rt K C H v d) (e : kindS d = some k) : TyX K H v (.type k) := by
  cases d <;> cases e
  · cases h.non; exact .base .non
  · cases h.bl; exact .base (.bl _)
  · cases h.int; exact .base (.int _)
  · cases h.str; exact .base (.str _)
  · obtain ⟨a, vs, rfl, ha, _⟩ := h.list' S; exact ty_list (SqL.of ha)
  · obtain ⟨a, vs, rfl, ha, _⟩ := h.tup' S; exact ty_tup ha
  · rcases h with h | ⟨_, _, _, _, e, _⟩
    · cases h with
      | scr a => exact ty_list (S.cold.seq a)
    · cases e
class KindT (c : String) (f : outParam (Dt → Bool)) : Prop where
  ok : ∀ d k, kindS d = some k → kitB k c = some (f d)
def kInt : Dt → Bool
  | .int _ => true
  | .bl _ => true
  | _ => false
def kBool : Dt → Bool
  | .bl _ => true
  | _ => false
def kStr : Dt → Bool
  | .str _ => true
  | _ => false
def kList : Dt → Bool
  | .lst _ => true
  | .scr _ => true
  | _ => false
def kTup : Dt → Bool
  | .tup _ => true
  | _ => false
instance : KindT "int" kInt := ⟨fun d k h => by cases d <;> cases h <;> first | (show kitB _ _ = some true; decide +kernel) | (show kitB _ _ = some false; decide +kernel)⟩
instance : KindT "bool" kBool := ⟨fun d k h => by cases d <;> cases h <;> first | (show kitB _ _ = some true; decide +kernel) | (show kitB _ _ = some false; decide +kernel)⟩
instance : KindT "str" kStr := ⟨fun d k h => by cases d <;> cases h <;> first | (show kitB _ _ = some true; decide +kernel) | (show kitB _ _ = some false; decide +kernel)⟩
instance : KindT "list" kList := ⟨fun d k h => by cases d <;> cases h <;> first | (show kitB _ _ = some true; decide +kernel) | (show kitB _ _ = some false; decide +kernel)⟩
instance : KindT "tuple" kTup := ⟨fun d k h => by cases d <;> cases h <;> first | (show kitB _ _ = some true; decide +kernel) | (show kitB _ _ = some false; decide +kernel)⟩
def noObj (d : Dt) (k : Prop) : Prop := match d with
  | .obj _ _ _ => False
  | .err _ _ => False
  | .adr _ => False
  | .dic _ _ => False
  | _ => k
theorem noObj_run {d : Dt} {k : Prop} (h : noObj d k) : (∃ s, kindS d = some s) ∧ k := by
  cases d <;> first | exact ⟨⟨_, rfl⟩, h⟩ | exact False.elim h
def wIsi (f : Dt → Bool) (wa : WE) : WE := fun ρ Ψ => wa ρ fun r ρ1 => match r.val ρ1 with
  | some d => noObj d (Ψ (.dat (.bl (f d))) ρ1)
  | none => False
instance sd_isi {c : String} {f : Dt → Bool} {ta : TE} {wa : WE} [kt : KindT c f] [a : Sd K ta wa] : Sd K (tCB (rIsi K) (tCons ta (tCons (tC (.ty c)) tNil))) (wIsi f wa) where
  run B C H σ ρ Q Ψ S h k := a.run B C H σ ρ _ _ S h fun C1 H1 v1 r1 ρ1 S1 s1 ok1 h1 => by
    cases q : r1.val ρ1 with
    | none => simp only [q] at h1
    | some d =>
      simp only [q] at h1
      obtain ⟨⟨s, e⟩, z⟩ := noObj_run h1
      exact ⟨v1, .ty c, .type s, .type c, f d, rfl, .ty _, kind_ty S1 (S1.valOf ok1 (Same.refl _) q) e, kit_ty (kt.ok d s e), k _ _ _ (.dat _) _ S1 s1 (.bl _) z⟩
def wIsi2 (f g : Dt → Bool) (wa : WE) : WE := fun ρ Ψ => wa ρ fun r ρ1 => match r with
  | .dat d => noObj d (Ψ (.dat (.bl (f d || g d))) ρ1)
  | .hot _ ds => Ψ (.dat (.bl (f (.lst ds) || g (.lst ds)))) ρ1
  | .box _ _ => False
instance sd_isi2 {c c2 : String} {f g : Dt → Bool} {ta : TE} {wa : WE} [kt : KindT c f] [kt2 : KindT c2 g] [a : Sd K ta wa] : Sd K (tCB (rIsiT K) (tCons ta (tCons (tTup (tCons (tC (.ty c)) (tCons (tC (.ty c2)) tNil))) tNil))) (wIsi2 f g wa) where
  run B C H σ ρ Q Ψ S h k := a.run B C H σ ρ _ _ S h fun C1 H1 v1 r1 ρ1 S1 s1 ok1 h1 => by
    refine ⟨by show 2 ≤ sizeLine; decide, fun p hp => ?_⟩
    have S2 := S1.alloc (o := .tup [.ty c, .ty c2]) hp
    have sC : Same C1 (upd C1 p (.tup [.ty c, .ty c2])) := same_new (S1.cold.free hp)
    have fin : ∀ (d : Dt) (s : String), Rt K (upd C1 p (.tup [.ty c, .ty c2])) (upd H1 p (.tup [.ty c, .ty c2])) v1 d → kindS d = some s → Ψ (.dat (.bl (f d || g d))) ρ1 → rIsiT K [v1, .ref p] (upd H1 p (.tup [.ty c, .ty c2])) Q := fun d s rt e z => by
      refine ⟨v1, p, _, _, [.type c, .type c2], f d || g d, rfl, upd_same, .cons (.ty _) (.cons (.ty _) .nil), kind_ty S2 rt e, ?_, k _ _ _ (.dat _) _ S2 (s1.trans sC) (.bl _) z⟩
      refine kitAny_cons (kit_ty (kt.ok d s e)) (fun z => kitAny_cons (kit_ty (kt2.ok d s e)) (fun y => ?_) (fun y => ?_)) (fun z => ?_)
      · rw [z, y]; rfl
      · rw [z, y]; rfl
      · rw [z]; rfl
    cases r1 with
    | box i n => exact False.elim h1
    | dat d =>
      obtain ⟨⟨s, e⟩, z⟩ := noObj_run h1
      exact fin d s (.inl (Rp.same ok1 sC)) e z
    | hot i ds =>
      obtain ⟨b, vs, e3, hb, r, cb⟩ := S2.sl i _ ok1.2
      rw [ok1.1] at e3
      cases e3
      exact fin (.lst ds) "list" (.inr ⟨b, vs, ds, rfl, rfl, hb, r⟩) rfl h1
/-! in, not in -/
section
variable {X : Cx}
end
/-! is, is not of truths -/
/-! the top's tuples -/
theorem rp_strs {C : Hp} : ∀ xs : List Str, RpL K C (xs.map V.str) (xs.map Dt.str)
  | [] => .nil
  | x :: xs => .cons (.str x) (rp_strs xs)
/-! xs[i] = e -/
def wSet (i : Nat) (we wi : WE) : WS := fun ρ Φ => we ρ fun r ρ1 => store r ρ1 fun a ρ2 => isD a fun d => hotAt i ρ2 fun _ => wi ρ2 fun r2 ρ3 => isInt r2 fun k => hotAt i ρ3 fun ds => ∃ j, ixN ds.length k = some j ∧ Φ.nx (ρ3.set i (.hot (ds.set j d)))
instance ss_set {i : Nat} {te ti : TE} {we wi : WE} [a : Sd K te we] [b : Sd K ti wi] : Ss K (tAsg te (gSub (tVar i) ti rSetL)) (wSet i we wi) where
  run B C H σ ρ D Φ S h m := a.run B C H σ ρ _ _ S h fun C1 H1 v1 r1 ρ1 S1 s1 ok1 h1 => by
    obtain ⟨C2, y, ρ2, S2, s2, ok2, h2⟩ := S1.stored ok1 h1
    obtain ⟨d, r2, h2⟩ := isD_run ok2 h2
    obtain ⟨ds0, e0, h2⟩ := hotAt_run h2
    obtain ⟨c, vs0, e, hc, _⟩ := S2.sl i _ e0
    refine ⟨_, e, b.run B C2 H1 σ ρ2 _ _ S2 h2 fun C3 H3 v3 r3 ρ3 S3 s3 ok3 h3 => ?_⟩
    obtain ⟨k, rfl, h3⟩ := isInt_run ok3 h3
    obtain ⟨ds, e2, j, ej, h4⟩ := hotAt_run h3
    obtain ⟨c', vs, e3, hc3, rl, _⟩ := S3.sl i _ e2
    rw [e] at e3
    cases e3
    exact ⟨c, vs, k, j, rfl, rfl, hc3, by rw [rl.len]; exact ej, m.nx _ _ _ _ (S3.hot e2 e (rl.set (r2.same s3) j)) h4⟩

end
section
variable {P : Program} {w : World} {K : PySem.W.Frag} {mg : Str → Option Value} {base : Heap}
local macro_rules | `(tactic| get_elem_tactic_trivial) => `(tactic| (repeat first | exact Wk.nil | exact Wk'.nil | refine Wk.same ?_ | refine Wk'.same ?_ | refine Wk.un (fun _ z => nomatch z) ?_ | refine Wk'.un ?_))
/-! one sign in a text -/
def rSgn : R2 := fun x y H Q => ∃ (c : Nat) (z : Str), x = .str ⟨#[c]⟩ ∧ y = .str z ∧ Q (.bl (decide (c ∈ z.cps.toList))) H
def oSgn : Dt → Dt → (Dt → Prop) → Prop
  | .str x, .str z, Φ => ∃ c, x = ⟨#[c]⟩ ∧ Φ (.bl (decide (c ∈ z.cps.toList)))
  | _, _, _ => False
instance so_sgn : So K rSgn oSgn where
  run B C H σ ρ x y dx dy Q Φ S hx hy h k := by
    cases dx <;> cases dy <;> try exact False.elim h
    obtain ⟨c, rfl, z⟩ := h
    exact ⟨c, _, hx.str, hy.str, k _ _ _ _ S (Same.refl _) (.bl _) z⟩
theorem Sep.same {B : Bs} {C H G : Hp} {σ : L2.St} {ρ : List Sl} (S : Sep K B C H σ ρ) (s : Same H G) : Sep K B C G σ ρ := by
  refine ⟨S.cold.trans s, S.len, fun i t h => ?_, S.ne, S.grow, S.new, fun a h => ?_, fun a o h n => s _ _ (S.keep a o h n), S.loc, S.lob, S.par, S.pz⟩
  · have q := S.sl i t h
    cases t with
    | un => trivial
    | dat d => exact q
    | hot ds =>
      obtain ⟨a, vs, e, h2, r, h3⟩ := q
      exact ⟨a, vs, e, s _ _ h2, r, h3⟩
    | box n =>
      obtain ⟨a, e, b, h3⟩ := q
      exact ⟨a, e, b.same s, h3⟩
  · have q := S.dom a h
    cases e : H a with
    | none => exact absurd e q
    | some o => rw [s _ _ e]; exact fun z => nomatch z
/-! two things alike -/
def wSame (n : Nat) : WF := fun ps Ψ => ∃ d e : Dt, ps = [.dat d, .dat e] ∧ d = e ∧ d.pure = true ∧ dep d.py < n ∧ wid d.py ≤ 1000000 ∧ Ψ (.dat (.bl true)) ps
theorem same_imp {n : Nat} {vs : List V} {H : Hp} {Q : VK} {E : XK} (h : spD K 2 (wSame n) vs H Q E) : spLSame K n vs H Q E := by
  obtain ⟨hl, C, bx, ps, Ψ, S, ⟨d, e, rfl, rfl, hp, hd, hw, z⟩, k⟩ := h
  match vs, hl with
  | [a, b], _ =>
    obtain ⟨v, e1, r1⟩ := S.sl 0 _ rfl
    obtain ⟨u, e2, r2⟩ := S.sl 1 _ rfl
    cases (Option.some.inj (Option.some.inj e1))
    cases (Option.some.inj (Option.some.inj e2))
    exact ⟨a, b, d.py, rfl, dp_same S.cold _ _ (Rp.dp d a r1 hp), dp_same S.cold _ _ (Rp.dp d b r2 hp), hd, hw, fun G s => k C G (.bl true) (.dat (.bl true)) _ (S.same s) (.bl true) z⟩
/-! one operand -/
def wUn (g : Int → V) (wa : WE) : WE := fun ρ Ψ => wa ρ fun r ρ1 => isInt r fun i => match datV (g i) with
  | some d => Ψ (.dat d) ρ1
  | none => False
instance sd_un {g : Int → V} {ta : TE} {wa : WE} [a : Sd K ta wa] : Sd K (tUn (rU g) ta) (wUn g wa) where
  run B C H σ ρ Q Ψ S h k := a.run B C H σ ρ _ _ S h fun C1 H1 v1 r1 ρ1 S1 s1 ok1 h1 => by
    obtain ⟨i, rfl, z⟩ := isInt_run ok1 h1
    cases q : datV (g i) with
    | none => simp only [q] at z
    | some d =>
      simp only [q] at z
      exact ⟨i, rfl, k _ _ _ (.dat d) _ S1 s1 (datV_ok q) z⟩

end
section
variable {P : Program} {w : World} {K : PySem.W.Frag} {mg : Str → Option Value} {base : Heap}
local macro_rules | `(tactic| get_elem_tactic_trivial) => `(tactic| (repeat first | exact Wk.nil | exact Wk'.nil | refine Wk.same ?_ | refine Wk'.same ?_ | refine Wk.un (fun _ z => nomatch z) ?_ | refine Wk'.un ?_))
/-! enumerate of a tuple -/
/-! their data -/
def zipD : List Dt → List Dt → List Dt
  | a :: as, b :: bs => .tup [a, b] :: zipD as bs
  | _, _ => []
theorem zipD_at : ∀ {as bs : List Dt} {i : Nat} {d : Dt}, (zipD as bs)[i]? = some d → ∃ x y, as[i]? = some x ∧ bs[i]? = some y ∧ d = .tup [x, y]
  | a :: as, b :: bs, 0, d, h => ⟨a, b, rfl, rfl, (Option.some.inj h).symm⟩
  | a :: as, b :: bs, i + 1, d, h => zipD_at (as := as) (bs := bs) (i := i) h
  | [], _, i, d, h => by simp [zipD] at h
  | _ :: _, [], i, d, h => by simp [zipD] at h
theorem zipD_len : ∀ (as bs : List Dt), (zipD as bs).length = min as.length bs.length
  | a :: as, b :: bs => by
    show (zipD as bs).length + 1 = min (as.length + 1) (bs.length + 1)
    rw [zipD_len as bs]
    omega
  | [], bs => by simp [zipD]
  | _ :: _, [] => by simp [zipD]

end
section
variable {P : Program} {w : World} {K : PySem.W.Frag} {mg : Str → Option Value} {base : Heap}
local macro_rules | `(tactic| get_elem_tactic_trivial) => `(tactic| (repeat first | exact Wk.nil | exact Wk'.nil | refine Wk.same ?_ | refine Wk'.same ?_ | refine Wk.un (fun _ z => nomatch z) ?_ | refine Wk'.un ?_))
/-! a sign's place in a text; a text cut -/
def wSlS (w : WE) (wl wh : WO) : WE := fun ρ Ψ => w ρ fun r ρ1 => isStr r fun z => wl ρ1 fun lo ρ2 => wh ρ2 fun hi ρ3 => z.length ≤ sizeLine ∧ Ψ (.dat (.str (cutS z lo hi))) ρ3
instance sd_slS {te : TE} {tl th : TO} {w : WE} {wl wh : WO} [a : Sd K te w] [b : Sop K tl wl] [c : Sop K th wh] : Sd K (tSl rSlS te tl th) (wSlS w wl wh) where
  run B C H σ ρ Q Ψ S h k := a.run B C H σ ρ _ _ S h fun C1 H1 v1 r1 ρ1 S1 s1 ok1 h1 => by
    obtain ⟨z, rfl, h1⟩ := isStr_run ok1 h1
    refine b.run B C1 H1 σ ρ1 _ _ S1 h1 fun C2 H2 lo ρ2 S2 s2 h2 => ?_
    refine c.run B C2 H2 σ ρ2 _ _ S2 h2 fun C3 H3 hi ρ3 S3 s3 h3 => ?_
    exact ⟨z, rfl, h3.1, k _ _ _ (.dat (.str _)) _ S3 (s1.trans (s2.trans s3)) (.str _) h3.2⟩


end
section
variable {P : Program} {w : World} {K : PySem.W.Frag} {mg : Str → Option Value} {base : Heap}
local macro_rules | `(tactic| get_elem_tactic_trivial) => `(tactic| (repeat first | exact Wk.nil | exact Wk'.nil | refine Wk.same ?_ | refine Wk'.same ?_ | refine Wk.un (fun _ z => nomatch z) ?_ | refine Wk'.un ?_))
namespace DSet
section
variable {P : Program} {w : World} {K : Type} [DecidableEq K]
/-- no two entries are of one key -/
def Apart (kd : KeyKind P w K) (l : List (Int × Value)) : Prop := l.Pairwise fun e f => ∀ k, kd.is k e.2 = true → kd.is k f.2 = true → False
/-- what is asked of the entries and the table of a set that will be walked -/
structure Walk (kd : KeyKind P w K) (S : K → Bool) (es : Array (Int × Value)) (t : SetTable) : Prop where
  el : ElemsOf kd es.toList
  mem : ∀ k, S k = true ↔ ∃ e ∈ es.toList, kd.is k e.2 = true
  few : es.size < scanBound
  fit : t.fits es.size = true
  ap : Apart kd es.toList
  up : Ris t.place.toList
  led : w.params.followText "set-order" = true ∨ t.led = true
/-- the set at a -/
def Is (kd : KeyKind P w K) (h : Heap) (a : Addr) (S : K → Bool) (n : Nat) : Prop :=
  ∃ o es ep t, h.get? a = some o ∧ o.ExactSet ∧ o.data = .set es ep t ∧ es.size = n ∧ Walk kd S es t
variable {kd : KeyKind P w K} {S : K → Bool} {n : Nat} {a : Addr}
theorem Is.keep {h h' : Heap} (R : Is kd h a S n) (k : ∀ o, h.get? a = some o → h'.get? a = some o) : Is kd h' a S n := by
  obtain ⟨o, es, ep, t, ho, r⟩ := R
  exact ⟨o, es, ep, t, k o ho, r⟩
theorem Is.cast {h : Heap} {S' : K → Bool} (R : Is kd h a S n) (e : ∀ k, S k = S' k) : Is kd h a S' n := (funext e : S = S') ▸ R
theorem Walk.perm {es es' : Array (Int × Value)} {t t' : SetTable} (W : Walk kd S es t) (p : es'.toList.Perm es.toList) (f : t'.fits es'.size = true) (u : Ris t'.place.toList) (l : t'.led = t.led) : Walk kd S es' t' := by
  have z : es'.size = es.size := by
    have := p.length_eq
    simpa using this
  refine ⟨W.el.perm p, fun k => (W.mem k).trans ⟨fun ⟨e, m, q⟩ => ⟨e, p.mem_iff.mpr m, q⟩, fun ⟨e, m, q⟩ => ⟨e, p.mem_iff.mp m, q⟩⟩, z ▸ W.few, f, ?_, u, W.led.imp id fun x => l.trans x⟩
  exact (List.Perm.pairwise_iff (R := fun e f : Int × Value => ∀ k, kd.is k e.2 = true → kd.is k f.2 = true → False) (fun {x y} hxy k h1 h2 => hxy k h2 h1) p).mpr W.ap
theorem put_get {h : Heap} {o : Obj} {es es' : Array (Int × Value)} {ep : Nat} {t t' : SetTable} (ho : h.get? a = some o) (hd : o.data = .set es ep t) : (h.update a (Obj.putSet es' t')).get? a = some { o with data := .set es' (ep + 1) t' } := store_at ho hd
variable {A : Around} {E : Value → Shared → Prop} {s : Shared}
theorem more_tail {g : Bool → Sem Unit} (free : ∀ (b : Bool) (s₁ : Shared) (Q' : Unit → Shared → Prop), Q' () s₁ → wpAny (model P w) A (g b) Q' E s₁) {o : Obj} {es : Array (Int × Value)} {ep : Nat} {t : SetTable}
    (ho : s.heap.get? a = some o) (x : o.ExactSet) (hd : o.data = .set es ep t) {es1 : Array (Int × Value)} {t2 : SetTable} {S' : K → Bool} (W : Walk kd S' es1 t2) {dm : Bool} {R : Option Bool → Shared → Prop}
    (fin : ∀ h', Heap.SameBut a s.heap h' → Is kd h' a S' es1.size → R (some true) { s with heap := h' }) :
    wpAny (model P w) A (do storeSet a es1 t2; if (!dm && t2.tooFull) = true then do { g (relayAll t2 es1 (SetTable.grown es1.size)).2.2; storeSet a (relayAll t2 es1 (SetTable.grown es1.size)).1 (relayAll t2 es1 (SetTable.grown es1.size)).2.1; pure (some true) } else pure (some true)) R E s := by
  have first := put_get (es' := es1) (t' := t2) ho hd
  have same := Heap.SameBut.update s.heap a (Obj.putSet es1 t2)
  refine wpAny_bind (wpAny_storeSet_of ho hd ?_ (fits_of_scanBound W.few))
  split
  case isFalse => exact wpAny_pure (fin _ same ⟨_, es1, _, t2, first, x, rfl, rfl, W⟩)
  case isTrue =>
    have pm := relayAll_perm t2 es1 (SetTable.grown es1.size)
    have W' := W.perm (es' := (relayAll t2 es1 (SetTable.grown es1.size)).1) (t' := (relayAll t2 es1 (SetTable.grown es1.size)).2.1) pm (relayAll_fits t2 es1 (SetTable.grown es1.size)) (relayAll_ris t2 es1 (SetTable.grown es1.size)) (relayAll_led t2 es1 (SetTable.grown es1.size))
    have z : (relayAll t2 es1 (SetTable.grown es1.size)).1.size = es1.size := by
      have := pm.length_eq
      simpa using this
    refine wpAny_bind (free _ _ _ (wpAny_bind (wpAny_storeSet_of first rfl ?_ (fits_of_scanBound W'.few))))
    exact wpAny_pure (fin _ (same.trans (Heap.SameBut.update _ a _)) ⟨_, _, _, _, put_get first rfl, x, rfl, z, W'⟩)
theorem more {k : K} {x : Value} {Q : Bool → Shared → Prop} (kx : kd.is k x = true) (sc : x.scannable = true) (R : Is kd s.heap a S n) (room : n + 1 < scanBound)
    (fin : ∀ h', Heap.SameBut a s.heap h' → ∀ m, m ≤ n + 1 → Is kd h' a (fun j => S j || decide (j = k)) m → Q (!S k) { s with heap := h' }) : wpAny (model P w) A (setAddHashed a x (kd.hash k)) Q E s := by
  obtain ⟨o, es, ep, t, ho, ex, hd, hn, W⟩ := R
  unfold setAddHashed setAddHashedIn
  refine wpAny_holding (wpAny_bind (wpAny_setState_of ho hd W.fit ?_))
  dsimp only
  rw [byScan_of sc W.few W.el, if_pos rfl]
  unfold setAddByScan
  refine wpAny_bind (wpAny_bind (wpAny_rule (wpAny_bind (wpAny_setScan_of kx ho hd W.fit W.el ?_))))
  cases met : List.findIdx? (fun e => kd.is k e.2) es.toList with
  | some j =>
    obtain ⟨lt, is, _⟩ := List.findIdx?_eq_some_iff_getElem.mp met
    have yes : S k = true := (W.mem k).mpr ⟨es.toList[j], List.getElem_mem lt, is⟩
    have e2 : ∀ i, (S i || decide (i = k)) = S i := fun i => by
      by_cases z : i = k
      · rw [z, yes, Bool.true_or]
      · rw [decide_eq_false z, Bool.or_false]
    have q := fin s.heap (Heap.SameBut.refl a s.heap) n (Nat.le_succ _) (Is.cast ⟨o, es, ep, t, ho, ex, hd, hn, W⟩ fun i => (e2 i).symm)
    rw [yes] at q
    exact wpAny_pure (wpAny_pure q)
  | none =>
    have out : ∀ e ∈ es.toList, kd.is k e.2 = false := fun e he => List.findIdx?_eq_none_iff.mp met e he |> fun z => by simpa using z
    have no : S k = false := by
      cases q : S k with
      | false => rfl
      | true =>
        obtain ⟨e, he, q2⟩ := (W.mem k).mp q
        rw [out e he] at q2
        exact nomatch q2
    have pm := layNew_perm t es (kd.hash k) x
    have ft := layNew_fits t es (kd.hash k) x
    have up := layNew_ris t es (kd.hash k) x W.up
    have ld := layNew_led t es (kd.hash k) x
    dsimp only
    generalize layNew t es (kd.hash k) x = Z at pm ft up ld ⊢
    obtain ⟨es1, t1, dm, gave⟩ := Z
    dsimp only at pm ft up ld ⊢
    rw [Array.toList_push] at pm
    have z1 : es1.size = n + 1 := by
      have := pm.length_eq
      simp at this
      omega
    have W1 : Walk kd (fun j => S j || decide (j = k)) es1 t1 := by
      refine ⟨(W.el.push kx sc).perm pm, fun i => mem_push_iff kx W.mem pm i, by omega, ft, ?_, up, W.led.imp id fun z => ld.trans z⟩
      refine (List.Perm.pairwise_iff (R := fun e f : Int × Value => ∀ k, kd.is k e.2 = true → kd.is k f.2 = true → False) (fun {x y} hxy k h1 h2 => hxy k h2 h1) pm).mpr (List.pairwise_append.mpr ⟨W.ap, List.pairwise_singleton .., fun e he f hf i h1 h2 => ?_⟩)
      rw [List.mem_singleton.mp hf] at h2
      have := kd.inj x i k h2 kx
      rw [this, out e he] at h1
      exact nomatch h1
    have W2 : Walk kd (fun j => S j || decide (j = k)) es1 { t1 with plain := false } := ⟨W1.el, W1.mem, W1.few, SetTable.fits_plain_off W1.fit, W1.ap, W1.up, W1.led⟩
    have fin2 : ∀ h', Heap.SameBut a s.heap h' → Is kd h' a (fun j => S j || decide (j = k)) es1.size → Q true { s with heap := h' } := fun h' sb r => by
      have q := fin h' sb es1.size (by omega) r
      rw [no] at q
      exact q
    have free : ∀ (b : Bool) (s₁ : Shared) (Q' : Unit → Shared → Prop), Q' () s₁ → wpAny (model P w) A (match b with | true => rule "set.scan.the-table-gave-way" | false => pure ()) Q' E s₁ := fun b s₁ Q' q => by
      cases b
      · exact wpAny_pure q
      · exact wpAny_rule q
    refine wpAny_bind (free _ _ _ ?_)
    split
    · refine wpAny_bind ?_
      rw [hashByValue_scannable 8 sc]
      refine wpAny_pure ?_
      have fin3 : ∀ h', Heap.SameBut a s.heap h' → Is kd h' a (fun j => S j || decide (j = k)) es1.size → wpAny (model P w) A (pure true) Q E { s with heap := h' } := fun h' sb r => wpAny_pure (fin2 h' sb r)
      split
      · exact more_tail (fun b s₁ Q' q => free b s₁ Q' q) ho ex hd W1 fin3
      · exact more_tail (fun b s₁ Q' q => free b s₁ Q' q) ho ex hd W2 fin3
    · refine wpAny_bind (wpAny_pure ?_)
      exact more_tail (fun b s₁ Q' q => free b s₁ Q' q) ho ex hd W1 fun h' sb r => wpAny_pure (fin2 h' sb r)
end
end DSet
end
section
variable {P : Program} {w : World} {K : PySem.W.Frag} {mg : Str → Option Value} {base : Heap}
local macro_rules | `(tactic| get_elem_tactic_trivial) => `(tactic| (repeat first | exact Wk.nil | exact Wk'.nil | refine Wk.same ?_ | refine Wk'.same ?_ | refine Wk.un (fun _ z => nomatch z) ?_ | refine Wk'.un ?_))
namespace DSet
section
variable {P : Program} {w : World} {A : Around} {E : Value → Shared → Prop} {s : Shared} {K : Type} [DecidableEq K] {kd : KeyKind P w K}
theorem none_yet {h : Heap} {a : Addr} (ho : h.get? a = some { cls := .type "set", dict := none, data := .set #[] 0 (.fresh 0 0 (!w.params.followText "set-order")) }) : Is kd h a (fun _ => false) 0 := by
  refine ⟨_, #[], 0, _, ho, ⟨rfl, rfl, rfl⟩, rfl, rfl, ⟨fun e he => by simp at he, fun k => by simp, by decide, by rfl, List.Pairwise.nil, List.Pairwise.nil, ?_⟩⟩
  show _ ∨ (!w.params.followText "set-order") = true
  cases w.params.followText "set-order" <;> simp
/-- the loop of set(..) -/
theorem grow {I : Addr} {fp wr : List Addr} {G : Array GenState → Array GenState → Prop} {n : Nat} {Pv : Nat → Value → Prop} {St : Nat → Shared → Prop} {R : Result → Shared → Prop} (W : WalksS P w A.in1 I fp wr G n Pv St) (T : Addr) (off : T ∉ fp)
    (ks : List K) (hn : n = ks.length) (few : ks.length + 1 < scanBound) (at_ : ∀ i v, Pv i v → ∃ k, ks[i]? = some k ∧ kd.is k v = true ∧ v.scannable = true) :
    ∀ (d i : Nat) (s : Shared), n - i = d → i ≤ n → St i s → (∃ c, c ≤ i ∧ Is kd s.heap T (fun j => decide (j ∈ ks.take i)) c) → (∀ s' c, Moved (T :: wr) G s s' → c ≤ n → Is kd s'.heap T (fun j => decide (j ∈ ks)) c → R (.ok (.ret .none)) s') →
      codeAny (model P w) A (.builtin "set.update.loop" ⟨[.ref T, .ref I], []⟩) R s := by
  have offw : T ∉ wr := fun z => off (W.sub _ z)
  have wide : ∀ b ∈ wr, b ∈ T :: wr := fun b hb => List.mem_cons_of_mem _ hb
  intro d
  induction d with
  | zero =>
    intro i s h1 h2 st ⟨c, hc, X⟩ fin
    obtain rfl : i = n := by omega
    rw [List.take_of_length_le (by omega)] at X
    refine codeAny_builtin F.entry_set_update_loop ?_
    rw [Around.under_plainId F.plain_set_update_loop _]
    refine wpAny_bind (m := pyNext (.ref I)) (W.done s _ _ st fun s' mv => ?_)
    exact wpAny_pure (fin s' c (mv.mono wide) hc (X.keep fun o e => mv.heap T o offw e))
  | succ d ih =>
    intro i s h1 h2 st ⟨c, hc, X⟩ fin
    have lt : i < n := by omega
    refine codeAny_builtin F.entry_set_update_loop ?_
    rw [Around.under_plainId F.plain_set_update_loop _]
    refine wpAny_bind (m := pyNext (.ref I)) (W.item i s _ _ lt st fun v s' pv st' mv => ?_)
    obtain ⟨z, zi, kz, sz⟩ := at_ i v pv
    have X1 : Is kd s'.heap T (fun j => decide (j ∈ ks.take i)) c := X.keep fun o e => mv.heap T o offw e
    refine wpAny_bind (m := holding [v] (setAdd T v)) (wpAny_holding ?_)
    unfold setAdd
    refine wpAny_holding (wpAny_bind (kd.pyHash (k := z) kz ?_))
    refine more (s := { s' with toks := s'.toks + 1 }) kz sz X1 (by omega) fun h' sb m hm X2 => ?_
    have X3 : Is kd h' T (fun j => decide (j ∈ ks.take (i + 1))) m := X2.cast fun j => by
      rw [List.take_add_one, zi]
      simp [List.mem_append]
    have far : ∀ b ∈ fp, ∀ o, s'.heap.get? b = some o → h'.get? b = some o := fun b hb o e => by
      rw [sb.2 b fun q : b = T => off (q ▸ hb)]
      exact e
    refine wpAny_pure ⟨plainId_quiet F.plain_set_update_loop _, ih (i + 1) _ (by omega) lt (W.frame _ s' _ _ st' (Nat.le_succ _) far) ⟨m, by omega, X3⟩ fun s2 c2 mv2 hc2 X4 => ?_⟩
    refine fin s2 c2 (Moved.trans W.gtrans ((mv.mono wide).then_heap (Nat.le_succ _) fun b o hb e => ?_) mv2) hc2 X4
    rw [sb.2 b fun q : b = T => hb (q ▸ List.mem_cons_self)]
    exact e
/-- set(xs), xs a list of keys -/
theorem made {l : Addr} {items : Array Value} (ks : List K) {Q : Value → Shared → Prop} (calm : A.handled = none) (hl : s.heap.IsList l items) (len : items.size = ks.length) (few : ks.length + 1 < scanBound) (at_ : ∀ (i : Nat) (v : Value), items[i]? = some v → ∃ k, ks[i]? = some k ∧ kd.is k v = true ∧ v.scannable = true)
    (fin : ∀ (h' : Heap) (tk c : Nat), Is kd h' s.heap.objs.size (fun j => decide (j ∈ ks)) c → c ≤ ks.length → (∀ b o, s.heap.get? b = some o → h'.get? b = some o) → Q (.ref s.heap.objs.size) { s with heap := h', toks := tk }) :
    wpAny (model P w) A (call (.type "set") [.ref l]) Q E s := by
  generalize eo : ({ cls := .type "set", dict := none, data := .set #[] 0 (.fresh 0 0 (!w.params.followText "set-order")) } : Obj) = O
  obtain ⟨c, tl, hmro⟩ := F.called_set.mro
  have made1 := F.called_set.made
  have sub1 := F.called_set.sub
  have not1 := F.called_set.notType
  have can1 := F.called_set.canCreate
  have ct1 := F.typeCall_set_1 (.ref l)
  refine wpAny_call (codeAny_of_tree (?_ : wpAny _ _ (callAny (.type "set") _) _ _ _))
  refine wpAny_pure ⟨Code.quiet_builtin _ (by decide +kernel), codeAny_builtin F.entry_type_call ?_⟩
  rw [Around.under_plain (weight_type_call_type "set" [.ref l] []) rfl]
  repeat (any_goals (first | assumption | wp_step))
  refine codeAny_mono (code_set_led1 (.ref l) (E := E) (Q₁ := fun obj s₁ => obj = .ref s.heap.objs.size ∧ s₁ = { s with heap := s.heap.push O }) ⟨rfl, by rw [eo]⟩) fun r s₁ hr => ?_
  match r, hr with
  | .error e, hr => exact hr
  | .ok (.ret obj), hr =>
    obtain ⟨rfl, rfl⟩ := hr
    have hT0 : (s.heap.push O).get? s.heap.objs.size = some O := Heap.get?_push_size _ (by rw [← eo]; rfl)
    have hT : Shared.TypeIs { s with heap := s.heap.push O } (.ref s.heap.objs.size) "set" := ⟨_, hT0, by rw [← eo]⟩
    have li := F.called_set.init.lookup
    have bi := F.called_set.init.bind (.ref s.heap.objs.size)
    repeat (any_goals (first | assumption | wp_step))
    refine codeAny_mono (codeAny_call_builtin (R := wants (fun r s₂ => r = .none ∧ ∃ h' tk c, s₂ = { s with heap := h', toks := tk } ∧ Is kd h' s.heap.objs.size (fun j => decide (j ∈ ks)) c ∧ c ≤ ks.length ∧ (∀ b o, s.heap.get? b = some o → h'.get? b = some o)) E) F.called_set.init.plain F.entry_set_init (check_set_init_1 hT ?_)) fun r₂ s₂ hr₂ => ?_
    · have hl1 : (s.heap.push O).IsList l items := hl.push _
      obtain ⟨⟨c0, d0, x0, sl0⟩, hol, rfl, nl, rfl⟩ := hl
      have lts : l < s.heap.objs.size := Heap.lt_size hol
      have at1 : (s.heap.push O).get? l = some { cls := .type "list", dict := d0, data := .seq items nl, slots := sl0 } := Heap.get?_push_of_some _ hol
      have sls := F.sub_list_set
      have slf := F.sub_list_frozenset
      have nd : (Value.type "list" == Value.type "dict") = false := by decide
      have zs : (s.heap.push O).objs.size = s.heap.objs.size + 1 := Heap.size_push ..
      have neI : l ≠ (s.heap.push O).objs.size := by rw [zs]; exact Nat.ne_of_lt (Nat.lt_succ_of_lt lts)
      have off : s.heap.objs.size ∉ [(s.heap.push O).objs.size, l] := by
        simp only [List.mem_cons, List.not_mem_nil, or_false, not_or]
        exact ⟨by rw [zs]; exact Nat.ne_of_lt (Nat.lt_succ_self _), Nat.ne_of_gt lts⟩
      subst eo
      unfold Builtin.«set.__init__» noKeywords Builtin.Frozenset.updateFrom
      generalize ePI : pyIter = PI
      wp_walk
      subst ePI
      refine wpAny_pyIter_list hl1 ?_
      refine wpAny_bind (wpAny_runValue ?_)
      refine grow (kd := kd) ((Walks.list (by simp [calm]) _ l neI items).toS) s.heap.objs.size off ks len few at_ (items.size - 0) 0 _ (by omega) (Nat.zero_le _) ⟨⟨_, Heap.get?_push_size _ rfl, rfl, rfl⟩, (hl1.push _)⟩ ⟨0, Nat.le_refl 0, ?_⟩ ?_
      · refine Is.cast (none_yet (kd := kd) (Heap.get?_push_of_some _ hT0)) fun k => by simp
      · intro s' c' mv hc' X
        obtain ⟨h', g2, d', tk', os'⟩ := s'
        obtain rfl : g2 = s.gens := mv.gens
        obtain rfl : d' = s.drawn := mv.drawn
        obtain rfl : os' = s.os := mv.os
        show wpAny _ _ _ _ _ _
        refine wpAny_pure ?_
        show wpAny _ _ (ret Value.none) _ _ _
        refine wpAny_pure ⟨rfl, h', tk', c', rfl, X, by omega, fun b o e => ?_⟩
        have lb : b < s.heap.objs.size := Heap.lt_size e
        refine mv.heap b o ?_ (Heap.get?_push_of_some _ (Heap.get?_push_of_some _ e))
        simp only [List.mem_cons, List.not_mem_nil, or_false, not_or]
        exact ⟨Nat.ne_of_lt lb, by rw [Heap.size_push]; exact Nat.ne_of_lt (Nat.lt_succ_of_lt lb)⟩
    · match r₂, hr₂ with
      | .error e, hr₂ => exact hr₂
      | .ok (.ret r), hr₂ =>
        obtain ⟨rfl, h', tk, c', rfl, X, hc', keep⟩ := hr₂
        repeat (any_goals (first | assumption | wp_step))
        exact fin _ _ _ X hc' keep
      | .ok (.next), hr₂ => exact hr₂.elim
end
end DSet
end
section
variable {P : Program} {w : World} {K : PySem.W.Frag} {mg : Str → Option Value} {base : Heap}
local macro_rules | `(tactic| get_elem_tactic_trivial) => `(tactic| (repeat first | exact Wk.nil | exact Wk'.nil | refine Wk.same ?_ | refine Wk'.same ?_ | refine Wk.un (fun _ z => nomatch z) ?_ | refine Wk'.un ?_))
namespace DSet
theorem nodup_vals {P : Program} {w : World} {es : List (Int × Value)} (ap : Apart (mixKind P w) es) (el : ElemsOf (mixKind P w) es) : (es.map (·.2)).Pairwise fun u v => ∀ k, keyIs k u = true → keyIs k v = true → False :=
  List.Pairwise.map _ (fun _ _ h => h) ap
section
variable {P : Program} {w : World} {A : Around} {E : Value → Shared → Prop} {s : Shared}
/-- sorted(set), by any rule of order that sorts what the walk tells -/
theorem sorted_by {a : Addr} {S : Key → Bool} {n : Nat} {Q : Value → Shared → Prop} {Ok : List Value → List Value → Prop} (R : Is (mixKind P w) s.heap a S n) (calm : A.handled = none) (few : n < 64)
    (sorts : ∀ (vs : List Value) (b : Addr) (s1 : Shared) (PP : Fin → Shared → Prop), vs.length = n → (∀ v ∈ vs, ∃ k, S k = true ∧ keyIs k v = true) → (∀ k, S k = true → ∃ v ∈ vs, keyIs k v = true) → vs.Pairwise (fun u v => ∀ k, keyIs k u = true → keyIs k v = true → False) →
      s1.heap.get? b = some (seqObj "list" vs.toArray 0) → (∀ out : Array Value, Ok vs out.toList → PP (.done (.ret .none)) { s1 with heap := sortedHeap s1.heap b vs out }) → wpAny (model P w) (A.in1.in1) (Builtin.«list.sort» ⟨[.ref b], []⟩) PP E s1)
    (fin : ∀ s' p (out : Array Value) (c : Nat) (vs : List Value), vs.length = n → (∀ v ∈ vs, ∃ k, S k = true ∧ keyIs k v = true) → (∀ k, S k = true → ∃ v ∈ vs, keyIs k v = true) → vs.Pairwise (fun u v => ∀ k, keyIs k u = true → keyIs k v = true → False) →
      (∀ b o, s.heap.get? b = some o → s'.heap.get? b = some o) → s'.gens = s.gens → s'.os = s.os → s.heap.objs.size ≤ p → s'.heap.get? p = some (seqObj "list" out c) → Ok vs out.toList → Q (.ref p) s') :
    wpAny (model P w) A (call (.builtin "sorted") [.ref a]) Q E s := by
  obtain ⟨o, es, ep, t, ho, ex, hd, hn, W⟩ := R
  refine Calls.call_function_entry kind_sorted plain_sorted entry_sorted (args_sorted1 _) ?_
  unfold Builtin.«sorted»
  refine wpAny_bind (m := checkCount "sorted" 1 1 _) (wpAny_pure (wpAny_bind (collect_set (A := A.in1) calm ⟨o, ho, ex.1, hd⟩ W.fit W.few W.up W.led fun s1 vs k1 hz g1 o1 pm => ?_)))
  have len : vs.length = n := by
    have := pm.length_eq
    simp at this
    omega
  have in1 : ∀ v ∈ vs, ∃ k, S k = true ∧ keyIs k v = true := fun v hv => by
    obtain ⟨e, he, rfl⟩ := List.mem_map.mp (pm.mem_iff.mp hv)
    obtain ⟨⟨k, hk, _⟩, _⟩ := W.el e he
    exact ⟨k, (W.mem k).mpr ⟨e, he, hk⟩, hk⟩
  have in2 : ∀ k, S k = true → ∃ v ∈ vs, keyIs k v = true := fun k hk => by
    obtain ⟨e, he, q⟩ := (W.mem k).mp hk
    exact ⟨e.2, pm.mem_iff.mpr (List.mem_map_of_mem he), q⟩
  have ap : vs.Pairwise (fun u v => ∀ k, keyIs k u = true → keyIs k v = true → False) := (List.Perm.pairwise_iff (R := fun u v : Value => ∀ k, keyIs k u = true → keyIs k v = true → False) (fun {x y} hxy k h1 h2 => hxy k h2 h1) pm).mpr (nodup_vals W.ap W.el)
  refine wpAny_bind (wpAny_newList ?_ (by rw [len, sizeLine_eq]; omega))
  have at1 : (s1.heap.push (seqObj "list" vs.toArray 0)).get? s1.heap.objs.size = some (seqObj "list" vs.toArray 0) := Heap.get?_push_size _ rfl
  refine wpAny_bind (wpAny_holding (wpAny_call_entry slot_list_sort ⟨_, at1, rfl⟩ entry_list_sort (sorts vs _ _ _ len in1 in2 ap at1 fun out ok => ⟨_, rfl, ?_⟩) (args_list_sort _)))
  obtain ⟨c, hc⟩ := sortedHeap_at (vs := vs) (out := out) at1
  refine wpAny_pure ⟨_, rfl, fin _ s1.heap.objs.size out c vs len in1 in2 ap (fun b u e => ?_) g1 o1 hz hc ok⟩
  have q := k1 b u e
  have lt := Heap.lt_size q
  show (sortedHeap (s1.heap.push (seqObj "list" vs.toArray 0)) s1.heap.objs.size vs out).get? b = some u
  rw [sortedHeap_old (Nat.ne_of_lt lt) (by rw [size_push']; exact Nat.lt_succ_of_lt lt)]
  exact Heap.get?_push_of_some _ q
end
end DSet
end
section
variable {P : Program} {w : World} {K : PySem.W.Frag} {mg : Str → Option Value} {base : Heap}
local macro_rules | `(tactic| get_elem_tactic_trivial) => `(tactic| (repeat first | exact Wk.nil | exact Wk'.nil | refine Wk.same ?_ | refine Wk'.same ?_ | refine Wk.un (fun _ z => nomatch z) ?_ | refine Wk'.un ?_))
namespace DSet
section
variable {P : Program} {w : World} {A : Around} {E : Value → Shared → Prop} {s : Shared}
theorem sort_txt {a : Addr} {vs : List Value} {ss : List Str} {n : Nat} {PP : Fin → Shared → Prop} (ho : s.heap.get? a = some (seqObj "list" vs.toArray n)) (hS : StrsAre vs ss) (few : vs.length < 64)
    (fin : ∀ (out : Array Value) (ss' : List Str), StrsAre out.toList ss' → ss'.Perm ss → sortedS ss' = true → PP (.done (.ret .none)) { s with heap := sortedHeap s.heap a vs out }) :
    wpAny (model P w) A (Builtin.«list.sort» ⟨[.ref a], []⟩) PP E s := by
  refine list_sort_treeK strKind_oneLt ho hS.keysOf (fun v₁ v₂ rest e => keyKind_strs (by rw [← e]; exact hS)) few fun st' pm up => ?_
  obtain ⟨ss', h1, h2, h3⟩ := sorted_out_str hS pm up
  exact fin _ ss' h1 h2 h3
end
def inB {K : Type} [DecidableEq K] (ks : List K) (j : K) : Bool := decide (j ∈ ks)
theorem inB_iff {K : Type} [DecidableEq K] {ks : List K} {j : K} : inB ks j = true ↔ j ∈ ks := decide_eq_true_iff
/-- a set of keys in the layer -/
def SetQ (P : Program) (w : World) (a : Addr) (S : Key → Bool) (n : Nat) : HO := .ext fun h => Is (mixKind P w) h a S n
theorem setQ_new {w : World} {P : Program} {H : Hp} {h : Heap} {a : Addr} {S : Key → Bool} {n : Nat} (R : Is (mixKind P w) h a S n) : ObjOk P w H h a (SetQ P w a S n) := by
  have ⟨o, _, _, _, ho, _⟩ := R
  exact ⟨R, ⟨o, ho⟩, fun h1 h2 p k => Is.keep p k⟩
theorem key_at {P : Program} {w : World} : ∀ {ks : List Key} {us : List Value}, Vals (ks.map kV) us → us.length = ks.length ∧ ∀ (i : Nat) (v : Value), us[i]? = some v → ∃ k, ks[i]? = some k ∧ (mixKind P w).is k v = true ∧ v.scannable = true
  | [], _, .nil => ⟨rfl, fun i v h => by simp at h⟩
  | k :: ks, u :: us, .cons r t => by
    obtain ⟨l, f⟩ := key_at (P := P) (w := w) t
    refine ⟨by simp [l], fun i v h => ?_⟩
    cases i with
    | zero =>
      obtain rfl : u = v := by simpa using h
      refine ⟨k, rfl, kV_is r, ?_⟩
      cases k with
      | inl i =>
        obtain ⟨t, rfl⟩ := r
        rfl
      | inr x =>
        obtain ⟨t, rfl⟩ := r
        rfl
    | succ i => exact f i v (by simpa using h)
def rSetQ (K : PySem.W.Frag) (P : Program) (w : World) : List V → Hp → VK → Prop := fun xs H Q => ∃ (l : Addr) (ks : List Key), xs = [V.ref l] ∧ SqL K H l (ks.map kV) ∧ ks.length + 1 < scanBound ∧ ∀ a n, H a = none → n ≤ ks.length → Q (.ref a) (upd H a (SetQ P w a (inB ks) n))
theorem cr_setQ {X : Cx} (hc : X.calm = true) : CallR X (.type "set") (rSetQ X.K X.prog X.w) := by
  intro pins s σ H xs us Q I r h
  obtain ⟨l, ks, rfl, hl, few, q⟩ := h
  rw [Vals.ref1 r]
  obtain ⟨its, rv, pl, hz⟩ := I.list hl
  obtain ⟨len, at_⟩ := key_at (P := X.prog) (w := X.w) rv
  refine made (kd := mixKind X.prog X.w) ks (I.ok.hd hc) pl.isList (by simpa using len) few (fun i v h => at_ i v (by simpa using h)) fun h' tk c R hc' keep => ?_
  exact ⟨.ref s.heap.objs.size, _, I.laid (t' := tk) keep (Nat.le_refl _) (setQ_new R), rfl, q _ c (I.hok.fresh (Nat.le_refl _)) hc'⟩
def rSortQ (P : Program) (w : World) : List V → Hp → VK → Prop := fun vs H Q => ∃ (a : Addr) (S : Key → Bool) (n : Nat), vs = [V.ref a] ∧ H a = some (SetQ P w a S n) ∧ n < 64 ∧
  (((∀ k, S k = true → ∃ i, k = .inl i) ∧ ∀ (ns : List Int) (p : Addr), ns.Pairwise (· < ·) → (∀ i, i ∈ ns ↔ S (.inl i) = true) → ns.length = n → H p = none → Q (.ref p) (upd H p (.lst (ns.map V.int)))) ∨
   ((∀ k, S k = true → ∃ x, k = .inr x) ∧ ∀ (ss : List Str) (p : Addr), sortedS ss = true → ss.Nodup → (∀ x, x ∈ ss ↔ S (.inr x) = true) → ss.length = n → H p = none → Q (.ref p) (upd H p (.lst (ss.map V.str)))))
theorem lt_of_le {l : List Int} (h : l.Pairwise (· ≤ ·)) (d : l.Nodup) : l.Pairwise (· < ·) := lt_of_le_nodup l h d
theorem laid_list {X : Cx} {pins : List (Addr × Obj)} {σ : L2.St} {H : Hp} {s s' : Shared} {p : Addr} {xs : List V} {out : Array Value} {c : Nat} (I : Inv X pins σ H s) (k : ∀ b o, s.heap.get? b = some o → s'.heap.get? b = some o) (g : s'.gens = s.gens) (o : s'.os = s.os) (hp : s.heap.objs.size ≤ p)
    (hg : s'.heap.get? p = some (seqObj "list" out c)) (hv : Vals xs out.toList) (hl : xs.length ≤ sizeLine) : Inv X pins σ (upd H p (.lst xs)) s' := by
  have J : Inv X pins σ (upd H p (.lst xs)) { s with heap := s'.heap, gens := s'.gens, drawn := s'.drawn, toks := s'.toks } :=
    I.call (ch := []) (Un.laid k hp (I.hok.fresh hp)) (I.hok.laid k hp ⟨hl, out.toList, c, hv, hg⟩) (by rw [g]; exact I.bare) (fun _ z => nomatch z)
  cases s'
  cases s
  cases o
  exact J
def keyV : Value → Key
  | .int i _ => .inl i
  | .str x _ => .inr x
  | _ => .inl 0
theorem keyV_eq {k : Key} {v : Value} (h : keyIs k v = true) : keyV v = k := by
  rcases keyIs_shape h with ⟨i, t, rfl, rfl⟩ | ⟨x, t, rfl, rfl⟩ <;> rfl
theorem cr_sortQ {X : Cx} (hc : X.calm = true) : CallR X (.builtin "sorted") (rSortQ X.prog X.w) := by
  intro pins s σ H vs us Q I r h
  obtain ⟨a, S, n, rfl, ha, few, q⟩ := h
  have R : Is (mixKind X.prog X.w) s.heap a S n := (I.hok a _ ha).1
  rw [Vals.ref1 r]
  have small : n ≤ sizeLine := by rw [sizeLine_eq]; omega
  rcases q with ⟨oi, q⟩ | ⟨os, q⟩
  · refine sorted_by (Ok := fun vs out => ∃ ns : List Int, IntsAre out ns ∧ ns.Perm (vs.map Builtin.Re.reRawOf) ∧ ns.Pairwise (· ≤ ·)) R (I.ok.hd hc) few (fun vs b s1 PP len in1 in2 ap at1 fin => ?_) fun s' p out c vs len in1 in2 ap k g o hp hg ok => ?_
    · have hI : IntsAre vs (vs.map Builtin.Re.reRawOf) := ints_of vs fun v hv => by
        obtain ⟨k, hk, kv⟩ := in1 v hv
        obtain ⟨i, rfl⟩ := oi k hk
        rcases keyIs_shape kv with ⟨j, t, _, rfl⟩ | ⟨x, t, e, _⟩
        · exact ⟨j, t, rfl⟩
        · cases e
      exact list_sort_tree at1 hI (by omega) fun out ns h1 h2 h3 => fin out ⟨ns, h1, h2, h3⟩
    · obtain ⟨ns, h1, h2, h3⟩ := ok
      have l1 : ns.length = n := by rw [h2.length_eq, List.length_map]; exact len
      have int : ∀ v ∈ vs, ∃ i t, v = .int i t ∧ S (.inl i) = true := fun v hv => by
        obtain ⟨k, hk, kv⟩ := in1 v hv
        obtain ⟨i, rfl⟩ := oi k hk
        rcases keyIs_shape kv with ⟨j, t, e, rfl⟩ | ⟨x, t, e, _⟩
        · exact ⟨j, t, rfl, by cases e; exact hk⟩
        · cases e
      have mem : ∀ i, i ∈ ns ↔ S (.inl i) = true := fun i => by
        rw [h2.mem_iff, List.mem_map]
        constructor
        · rintro ⟨v, hv, e⟩
          obtain ⟨j, t, rfl, hj⟩ := int v hv
          obtain rfl : j = i := e
          exact hj
        · intro hi
          obtain ⟨v, hv, kv⟩ := in2 _ hi
          obtain ⟨j, t, rfl, _⟩ := int v hv
          have := keyV_eq kv
          exact ⟨_, hv, Sum.inl.inj this⟩
      have nd : ns.Nodup := by
        refine h2.nodup_iff.mpr (List.pairwise_map.mpr (ap.imp_of_mem fun {u v} hu hv no e => ?_))
        obtain ⟨i, t, rfl, _⟩ := int u hu
        obtain ⟨j, t', rfl, _⟩ := int v hv
        obtain rfl : i = j := e
        exact no (.inl i) (keyIs_int i t) (keyIs_int i t')
      exact ⟨.ref p, _, laid_list I k g o hp hg (vals_of_ints h1) (by rw [List.length_map, l1]; exact small), rfl, q ns p (lt_of_le h3 nd) mem l1 (I.hok.fresh hp)⟩
  · refine sorted_by (Ok := fun vs out => ∃ ss : List Str, StrsAre out ss ∧ ss.Perm (vs.map strOf) ∧ sortedS ss = true) R (I.ok.hd hc) few (fun vs b s1 PP len in1 in2 ap at1 fin => ?_) fun s' p out c vs len in1 in2 ap k g o hp hg ok => ?_
    · have hI : StrsAre vs (vs.map strOf) := strsAre_map vs fun v hv => by
        obtain ⟨k, hk, kv⟩ := in1 v hv
        obtain ⟨x, rfl⟩ := os k hk
        rcases keyIs_shape kv with ⟨j, t, e, _⟩ | ⟨y, t, _, rfl⟩
        · cases e
        · exact ⟨y, t, rfl⟩
      exact sort_txt at1 hI (by omega) fun out ss h1 h2 h3 => fin out ⟨ss, h1, h2, h3⟩
    · obtain ⟨ss, h1, h2, h3⟩ := ok
      have l1 : ss.length = n := by rw [h2.length_eq, List.length_map]; exact len
      have txt : ∀ v ∈ vs, ∃ x t, v = .str x t ∧ S (.inr x) = true := fun v hv => by
        obtain ⟨k, hk, kv⟩ := in1 v hv
        obtain ⟨i, rfl⟩ := os k hk
        rcases keyIs_shape kv with ⟨j, t, e, _⟩ | ⟨y, t, e, rfl⟩
        · cases e
        · exact ⟨y, t, rfl, by cases e; exact hk⟩
      have mem : ∀ x, x ∈ ss ↔ S (.inr x) = true := fun x => by
        rw [h2.mem_iff, List.mem_map]
        constructor
        · rintro ⟨v, hv, e⟩
          obtain ⟨y, t, rfl, hy⟩ := txt v hv
          obtain rfl : y = x := e
          exact hy
        · intro hi
          obtain ⟨v, hv, kv⟩ := in2 _ hi
          obtain ⟨y, t, rfl, _⟩ := txt v hv
          have := keyV_eq kv
          exact ⟨_, hv, Sum.inr.inj this⟩
      have nd : ss.Nodup := by
        refine h2.nodup_iff.mpr (List.pairwise_map.mpr (ap.imp_of_mem fun {u v} hu hv no e => ?_))
        obtain ⟨x, t, rfl, _⟩ := txt u hu
        obtain ⟨y, t', rfl, _⟩ := txt v hv
        obtain rfl : x = y := e
        exact no (.inr x) (keyIs_str x t) (keyIs_str x t')
      exact ⟨.ref p, _, laid_list I k g o hp hg (vals_of_strs h1) (by rw [List.length_map, l1]; exact small), rfl, q ss p h3 nd mem l1 (I.hok.fresh hp)⟩
end DSet

end
section
variable {P : Program} {w : World} {K : PySem.W.Frag} {mg : Str → Option Value} {base : Heap}
local macro_rules | `(tactic| get_elem_tactic_trivial) => `(tactic| (repeat first | exact Wk.nil | exact Wk'.nil | refine Wk.same ?_ | refine Wk'.same ?_ | refine Wk.un (fun _ z => nomatch z) ?_ | refine Wk'.un ?_))
/-! sorted(set(xs)) as one thing -/
def cSS (K : PySem.W.Frag) : List V → Hp → VK → Prop := fun xs H Q => ∃ (l : Addr), xs = [.ref l] ∧
  ((∃ ns : List Int, SqL K H l (ns.map V.int) ∧ ns.length < 64 ∧ ∀ (out : List Int) (a p : Addr) (o : HO), out.Pairwise (· < ·) → (∀ i, i ∈ out ↔ i ∈ ns) → out.length ≤ ns.length → H a = none → upd H a o p = none → Q (.ref p) (upd (upd H a o) p (.lst (out.map V.int)))) ∨
   (∃ ss : List Str, SqL K H l (ss.map V.str) ∧ ss.length < 64 ∧ ∀ (out : List Str) (a p : Addr) (o : HO), sortedS out = true → out.Nodup → (∀ x, x ∈ out ↔ x ∈ ss) → out.length ≤ ss.length → H a = none → upd H a o p = none → Q (.ref p) (upd (upd H a o) p (.lst (out.map V.str)))))
section
variable {X : Cx} {e : Expr} {te : TE} {p p2 q pos : Pos}
theorem few_scan {n : Nat} (h : n < 64) : n + 1 < scanBound := by
  have : scanBound = 4096 := rfl
  omega
theorem sset_of {vs : List V} {H : Hp} {Q QQ : VK} {P : Program} {w : World} (f : ∀ y G, DSet.rSortQ P w [y] G Q → QQ y G) (h : cSS K vs H Q) : DSet.rSetQ K P w vs H QQ := by
  obtain ⟨l, rfl, ⟨ns, hs, few, q⟩ | ⟨ss, hs, few, q⟩⟩ := h
  · refine ⟨l, ns.map .inl, rfl, by rw [List.map_map]; exact hs, by rw [List.length_map]; exact few_scan few, fun a n ha hn => f _ _ ⟨a, _, n, rfl, upd_same, ?_, .inl ⟨fun k hk => ?_, fun out p up mem len hp => ?_⟩⟩⟩
    · rw [List.length_map] at hn
      omega
    · obtain ⟨i, _, rfl⟩ := List.mem_map.mp (DSet.inB_iff.mp hk)
      exact ⟨i, rfl⟩
    · refine q out a p _ up (fun i => ?_) (by rw [List.length_map] at hn; omega) ha hp
      rw [mem i, DSet.inB_iff, List.mem_map]
      exact ⟨fun ⟨j, hj, e⟩ => Sum.inl.inj e ▸ hj, fun hi => ⟨i, hi, rfl⟩⟩
  · refine ⟨l, ss.map .inr, rfl, by rw [List.map_map]; exact hs, by rw [List.length_map]; exact few_scan few, fun a n ha hn => f _ _ ⟨a, _, n, rfl, upd_same, ?_, .inr ⟨fun k hk => ?_, fun out p up nd mem len hp => ?_⟩⟩⟩
    · rw [List.length_map] at hn
      omega
    · obtain ⟨i, _, rfl⟩ := List.mem_map.mp (DSet.inB_iff.mp hk)
      exact ⟨i, rfl⟩
    · refine q out a p _ up nd (fun i => ?_) (by rw [List.length_map] at hn; omega) ha hp
      rw [mem i, DSet.inB_iff, List.mem_map]
      exact ⟨fun ⟨j, hj, e⟩ => Sum.inr.inj e ▸ hj, fun hi => ⟨i, hi, rfl⟩⟩
theorem pe_ss (hc : X.calm = true) (hg : Gl X "sorted") (hm : X.mg "sorted" = none) (hg2 : Gl X "set") (hm2 : X.mg "set" = none) (ha : PE X e te) (b1 : bootBuiltins "sorted" = some (.builtin "sorted") := by decide +kernel) (b2 : bootBuiltins "set" = some (.type "set") := by decide +kernel)
    (he : starEach [e] X.env = [(false, eval e X.env)] := by rfl) (he2 : starEach [.Call (.Name "set" p2) [e] [] q] X.env = [(false, eval (.Call (.Name "set" p2) [e] [] q) X.env)] := by rfl) :
    PE X (.Call (.Name "sorted" p) [.Call (.Name "set" p2) [e] [] q] [] pos) (tCB (cSS X.K) (tCons te tNil)) := by
  have inner : PE X (.Call (.Name "set" p2) [e] [] q) (fun σ H QQ => ∃ Q : VK, (∀ y G, DSet.rSortQ X.prog X.w [y] G Q → QQ y G) ∧ te σ H fun x G => cSS X.K [x] G Q) :=
    ⟨fun pins s σ H QQ I ⟨Q, f, h⟩ => wpAny_Call_Name_kw (ld_blt I hg2 hm2 b2 (PyProof.Rows.callWith_type1 (thn ((pa_cons ha pa_nil he).run q pins s σ H (fun vs G => cSS X.K vs G Q) I h) fun us s1 ⟨vs, H1, I1, r1, q1⟩ => DSet.cr_setQ hc pins s1 σ H1 vs us QQ I1 r1 (sset_of f q1)) he rfl) (by decide) (by decide))⟩
  refine ⟨fun pins s σ H Q I h => ?_⟩
  refine wpAny_Call_Name_kw (ld_blt I hg hm b1 (PyProof.Rows.callWith_builtin1 ?_ he2 rfl) (by decide) (by decide))
  exact thn ((pa_cons inner pa_nil he2).run pos pins s σ H (fun vs G => DSet.rSortQ X.prog X.w vs G Q) I ⟨Q, fun _ _ z => z, h⟩) fun us s1 ⟨vs, H1, I1, r1, q1⟩ => DSet.cr_sortQ hc pins s1 σ H1 vs us Q I1 r1 q1
end
def fSS : Dt → (List Dt → Prop) → Prop
  | .lst ds, Φ => (∃ ns : List Int, ds = ns.map .int ∧ ns.length < 64 ∧ ∀ out : List Int, out.Pairwise (· < ·) → (∀ i, i ∈ out ↔ i ∈ ns) → out.length ≤ ns.length → Φ (out.map .int)) ∨
      (∃ ss : List Str, ds = ss.map .str ∧ ss.length < 64 ∧ ∀ out : List Str, sortedS out = true → out.Nodup → (∀ x, x ∈ out ↔ x ∈ ss) → out.length ≤ ss.length → Φ (out.map .str))
  | _, _ => False
theorem rp_ints {C : Hp} : ∀ xs : List Int, RpL K C (xs.map V.int) (xs.map Dt.int)
  | [] => .nil
  | x :: xs => .cons (.int x) (rp_ints xs)
theorem ints_rp {C : Hp} : ∀ {vs : List V} {ns : List Int}, RpL K C vs (ns.map .int) → vs = ns.map V.int
  | _, [], .nil => rfl
  | _, n :: ns, .cons r t => by
    cases r
    rw [ints_rp t]
    rfl
instance sb_ss : Sb1n K (cSS K) fSS where
  run B C H σ ρ v d Q Φ S hv h k := by
    cases d <;> try exact False.elim h
    obtain ⟨l, vs, rfl, hl, ra⟩ := hv.list' S
    rcases h with ⟨ns, rfl, few, z⟩ | ⟨ss, rfl, few, z⟩
    · refine ⟨l, rfl, .inl ⟨ns, by rw [← ints_rp ra]; exact SqL.of hl, few, fun out a p o up mem len ha hp => ?_⟩⟩
      have S1 := S.allocN (o := o) ha
      exact k _ _ _ _ (S1.allocN hp) (Same.refl _) (S1.frN hp (rp_ints out)) (z out up mem len)
    · refine ⟨l, rfl, .inr ⟨ss, by rw [← txts_ok ra (txts_map ss)]; exact SqL.of hl, few, fun out a p o up nd mem len ha hp => ?_⟩⟩
      have S1 := S.allocN (o := o) ha
      exact k _ _ _ _ (S1.allocN hp) (Same.refl _) (S1.frN hp (rp_strs out)) (z out up nd mem len)
/-! sorted of texts -/
/-! any -/
def fAny : Dt → (Dt → Prop) → Prop
  | .lst ds, Φ => ∃ bs, bls ds = some bs ∧ Φ (.bl (bs.any id))
  | _, _ => False
instance sb_any : Sb1 K (rAny K) fAny where
  run B C H σ ρ v d Q Φ S hv h k := by
    cases d <;> try exact False.elim h
    obtain ⟨bs, e, z⟩ := h
    obtain ⟨a, vs, rfl, ha, ra⟩ := hv.list' S
    exact ⟨a, bs, rfl, by rw [← bls_ok ra e]; exact SqL.of ha, k _ _ _ _ S (Same.refl _) (.bl _) z⟩
/-! enumerate of a list or a tuple -/

end
section
variable {P : Program} {w : World} {K : PySem.W.Frag} {mg : Str → Option Value} {base : Heap}
local macro_rules | `(tactic| get_elem_tactic_trivial) => `(tactic| (repeat first | exact Wk.nil | exact Wk'.nil | refine Wk.same ?_ | refine Wk'.same ?_ | refine Wk.un (fun _ z => nomatch z) ?_ | refine Wk'.un ?_))
/-! zip of a list or a tuple with a tuple -/

end
section
variable {P : Program} {w : World} {K : PySem.W.Frag} {mg : Str → Option Value} {base : Heap}
local macro_rules | `(tactic| get_elem_tactic_trivial) => `(tactic| (repeat first | exact Wk.nil | exact Wk'.nil | refine Wk.same ?_ | refine Wk'.same ?_ | refine Wk.un (fun _ z => nomatch z) ?_ | refine Wk'.un ?_))
/-! {..}.get(x, y) of two texts with numbers -/

end
section
variable {P : Program} {w : World} {K : PySem.W.Frag} {mg : Str → Option Value} {base : Heap}
local macro_rules | `(tactic| get_elem_tactic_trivial) => `(tactic| (repeat first | exact Wk.nil | exact Wk'.nil | refine Wk.same ?_ | refine Wk'.same ?_ | refine Wk.un (fun _ z => nomatch z) ?_ | refine Wk'.un ?_))
/-! a tuple so many times -/
/-! how often a text is in a list -/

end
section
variable {P : Program} {w : World} {K : PySem.W.Frag} {mg : Str → Option Value} {base : Heap}
local macro_rules | `(tactic| get_elem_tactic_trivial) => `(tactic| (repeat first | exact Wk.nil | exact Wk'.nil | refine Wk.same ?_ | refine Wk'.same ?_ | refine Wk.un (fun _ z => nomatch z) ?_ | refine Wk'.un ?_))
/-! calls that leave numbers out -/

end
section
variable {P : Program} {w : World} {K : PySem.W.Frag} {mg : Str → Option Value} {base : Heap}
local macro_rules | `(tactic| get_elem_tactic_trivial) => `(tactic| (repeat first | exact Wk.nil | exact Wk'.nil | refine Wk.same ?_ | refine Wk'.same ?_ | refine Wk.un (fun _ z => nomatch z) ?_ | refine Wk'.un ?_))
/-! upper, str of a number, < of numbers or texts -/
def cStrI : List V → Hp → VK → Prop := fun xs H Q => ∃ i : Int, xs = [.int i] ∧ i.natAbs.log2 < 1920 ∧ Q (.str (toString i)) H
def fStrI : Dt → (Dt → Prop) → Prop
  | .int i, Φ => i.natAbs.log2 < 1920 ∧ Φ (.str (toString i))
  | _, _ => False
instance sb_strI : Sb1 K cStrI fStrI where
  run B C H σ ρ v d Q Φ S hv h k := by
    cases d <;> try exact False.elim h
    cases hv.int
    exact ⟨_, rfl, h.1, k _ _ _ _ S (Same.refl _) (.str _) h.2⟩
/-! a pair taken apart, its second a new list that stays changeable -/

end
section
variable {P : Program} {w : World} {K : PySem.W.Frag} {mg : Str → Option Value} {base : Heap}
local macro_rules | `(tactic| get_elem_tactic_trivial) => `(tactic| (repeat first | exact Wk.nil | exact Wk'.nil | refine Wk.same ?_ | refine Wk'.same ?_ | refine Wk.un (fun _ z => nomatch z) ?_ | refine Wk'.un ?_))
/-! pop(i), insert(i, x) of a list that may be changed -/
/-! a new drawer given to a def at once -/

end
section
variable {P : Program} {w : World} {K : PySem.W.Frag} {mg : Str → Option Value} {base : Heap}
local macro_rules | `(tactic| get_elem_tactic_trivial) => `(tactic| (repeat first | exact Wk.nil | exact Wk'.nil | refine Wk.same ?_ | refine Wk'.same ?_ | refine Wk.un (fun _ z => nomatch z) ?_ | refine Wk'.un ?_))
/-! split, str of a text or a number, (*xs, y) -/
theorem ArL.app {C : Hp} {σ : L2.St} : ∀ {vs us : List V} {as bs : List Ar}, ArL K C σ vs as → ArL K C σ us bs → ArL K C σ (vs ++ us) (as ++ bs)
  | _, _, _, _, .nil, h => h
  | _, _, _, _, .cons a t, h => .cons a (ArL.app t h)
/-! a thing that is only read: lists stay changeable -/
def coolS : Sl → Sl
  | .hot ds => .dat (.lst ds)
  | .box _ => .un
  | s => s
theorem Sep.cooled {B : Bs} {C H : Hp} {σ : L2.St} {ρ : List Sl} (S : Sep K B C H σ ρ) : Sep K ⟨H, H, none⟩ H H σ (ρ.map coolS) := by
  have old : ∀ {i : Nat} {s : Sl}, (ρ.map coolS)[i]? = some s → ∃ t, ρ[i]? = some t ∧ s = coolS t := fun {i s} h => by
    rw [List.getElem?_map] at h
    obtain ⟨t, ht, e⟩ := Option.map_eq_some_iff.mp h
    exact ⟨t, ht, e.symm⟩
  have nm : ∀ {i : Nat} {s : Sl}, (ρ.map coolS)[i]? = some s → s.mut = true → False := fun {i s} h m => by
    obtain ⟨t, _, rfl⟩ := old h
    cases t <;> cases m
  refine ⟨Same.refl _, by rw [List.length_map]; exact S.len, fun i s h => ?_, fun i j a s t n h1 h2 m1 m2 e1 e2 => (nm h1 m1).elim, Same.refl _, fun a o e n => (by rw [show H a = none from n] at e; cases e), fun a h => h, fun a o h n => h, fun i a ds h e => ?_, fun i a n h e => ?_, fun i a h => (nomatch h), fun i a h => (nomatch h)⟩
  · obtain ⟨t, ht, rfl⟩ := old h
    have z := S.sl i t ht
    cases t with
    | un => trivial
    | dat d =>
      obtain ⟨v, e, r⟩ := z
      exact ⟨v, e, r.same S.cold⟩
    | hot ds =>
      obtain ⟨a, vs, e, ha, r, _⟩ := z
      exact ⟨.ref a, e, .lst ha (r.same S.cold)⟩
    | box n => trivial
  · exact (nm h rfl).elim
  · exact (nm h rfl).elim

end
section
variable {P : Program} {w : World} {K : PySem.W.Frag} {mg : Str → Option Value} {base : Heap}
local macro_rules | `(tactic| get_elem_tactic_trivial) => `(tactic| (repeat first | exact Wk.nil | exact Wk'.nil | refine Wk.same ?_ | refine Wk'.same ?_ | refine Wk.un (fun _ z => nomatch z) ?_ | refine Wk'.un ?_))
/-! while -/

end
section
variable {P : Program} {w : World} {K : PySem.W.Frag} {mg : Str → Option Value} {base : Heap}
local macro_rules | `(tactic| get_elem_tactic_trivial) => `(tactic| (repeat first | exact Wk.nil | exact Wk'.nil | refine Wk.same ?_ | refine Wk'.same ?_ | refine Wk.un (fun _ z => nomatch z) ?_ | refine Wk'.un ?_))
/-! things of a class, read: e.f and e.m(..) -/
structure FldOk (K : PySem.W.Frag) (c f : Str) : Prop where
  cls : Cls K (He.ga K c)
  no : NoAttr K (He.ga K c) f
def wFld (K : PySem.W.Frag) (w : WE) (f : Str) : WE := fun ρ Ψ => w ρ fun r ρ1 => match r with
  | .dat (.obj c ns ds) => ∃ (i : Nat) (d : Dt), (ns.zip (List.range ns.length)).lookup f = some i ∧ ds[i]? = some d ∧ FldOk K c f ∧ Ψ (.dat d) ρ1
  | _ => False
theorem zip_look {α : Type} {f : Str} : ∀ {ns : List Str} {vs : List α} {k i : Nat} {v : α}, (ns.zip ((List.range ns.length).map (k + ·))).lookup f = some i → vs[i - k]? = some v → ns.length = vs.length → (ns.zip vs).lookup f = some v ∧ k ≤ i
  | [], vs, k, i, v, h, _, _ => by simp at h
  | n :: ns, [], k, i, v, _, _, l => by simp at l
  | n :: ns, u :: vs, k, i, v, h, hv, l => by
    rw [List.length_cons, List.range_succ_eq_map, List.map_cons, List.zip_cons_cons, List.lookup_cons] at h
    rw [List.zip_cons_cons, List.lookup_cons]
    by_cases e : f == n
    · rw [e] at h ⊢
      cases h
      rw [Nat.add_zero, Nat.sub_self] at hv
      cases hv
      exact ⟨rfl, Nat.le_add_right _ _⟩
    · rw [Bool.not_eq_true] at e
      rw [e] at h ⊢
      rw [List.map_map] at h
      have h2 : (ns.zip ((List.range ns.length).map (k + 1 + ·))).lookup f = some i := by
        have e2 : ((k + ·) ∘ Nat.succ) = (k + 1 + ·) := by
          funext x
          show k + (x + 1) = k + 1 + x
          omega
        rw [← e2]
        exact h
      have lt : k + 1 ≤ i := by
        obtain ⟨_, hm⟩ : ∃ j, i = k + 1 + j := by
          have : ∀ {xs : List Str} {ys : List Nat}, (xs.zip ys).lookup f = some i → i ∈ ys := fun {xs ys} z => by
            induction xs generalizing ys with
            | nil => simp at z
            | cons x xs ih =>
              cases ys with
              | nil => simp at z
              | cons y ys =>
                rw [List.zip_cons_cons, List.lookup_cons] at z
                split at z
                · cases z
                  exact List.mem_cons_self ..
                · exact List.mem_cons_of_mem _ (ih z)
          obtain ⟨j, _, rfl⟩ := List.mem_map.mp (this h2)
          exact ⟨j, rfl⟩
        omega
      have hv2 : vs[i - (k + 1)]? = some v := by
        rw [show i - k = (i - (k + 1)) + 1 by omega] at hv
        exact hv
      have z := zip_look (k := k + 1) h2 hv2 (by simpa using l)
      exact ⟨z.1, by omega⟩
theorem zip_look0 {α : Type} {f : Str} {ns : List Str} {vs : List α} {i : Nat} {v : α} (h : (ns.zip (List.range ns.length)).lookup f = some i) (hv : vs[i]? = some v) (l : ns.length = vs.length) : (ns.zip vs).lookup f = some v := by
  refine (zip_look (k := 0) (i := i) ?_ hv l).1
  have e : (fun x : Nat => 0 + x) = id := by funext x; exact Nat.zero_add x
  rw [e, List.map_id]
  exact h
instance sd_fld {ta : TE} {f : Str} {wa : WE} [a : Sd K ta wa] : Sd K (tFld K ta f) (wFld K wa f) where
  run B C H σ ρ Q Ψ S h k := a.run B C H σ ρ _ _ S h fun C1 H1 v1 r1 ρ1 S1 s1 ok1 h1 => by
    cases r1 with
    | hot i ds => exact False.elim h1
    | box i n => exact False.elim h1
    | dat x =>
      cases x <;> try exact False.elim h1
      rename_i c ns ds
      obtain ⟨i, d, hi, hd, fo, h1⟩ := h1
      cases ok1 with
      | @obj _ x dx _ vs _ hx hdx hl rl =>
        obtain ⟨v, hv, rv⟩ := rl.at' hd
        exact ⟨x, _, dx, _, v, rfl, S1.cold _ _ hx, fo.cls, fo.no, zip_look0 hi hv hl, k _ _ _ (.dat d) _ S1 s1 rv h1⟩
/-! C(.., k=..): a thing made, its fields as given -/

end
section
variable {P : Program} {w : World} {K : PySem.W.Frag} {mg : Str → Option Value} {base : Heap}
local macro_rules | `(tactic| get_elem_tactic_trivial) => `(tactic| (repeat first | exact Wk.nil | exact Wk'.nil | refine Wk.same ?_ | refine Wk'.same ?_ | refine Wk.un (fun _ z => nomatch z) ?_ | refine Wk'.un ?_))
/-! [e for x in it if t for y in it2 if u] -/

end
section
variable {P : Program} {w : World} {K : PySem.W.Frag} {mg : Str → Option Value} {base : Heap}
local macro_rules | `(tactic| get_elem_tactic_trivial) => `(tactic| (repeat first | exact Wk.nil | exact Wk'.nil | refine Wk.same ?_ | refine Wk'.same ?_ | refine Wk.un (fun _ z => nomatch z) ?_ | refine Wk'.un ?_))
/-! t.index(x) of a module's tuple of texts; [..].index(x) -/
/-! o.m(k=..) -/

end
section
variable {P : Program} {w : World} {K : PySem.W.Frag} {mg : Str → Option Value} {base : Heap}
local macro_rules | `(tactic| get_elem_tactic_trivial) => `(tactic| (repeat first | exact Wk.nil | exact Wk'.nil | refine Wk.same ?_ | refine Wk'.same ?_ | refine Wk.un (fun _ z => nomatch z) ?_ | refine Wk'.un ?_))
/-! a call that moves the drawer alone and tells a datum without lists: lists stay changeable -/
open Classical in
open Classical in
section
variable {B : Bs} {C H : Hp} {σ : L2.St} {ρ : List Sl}
end

end
section
variable {P : Program} {w : World} {K : PySem.W.Frag} {mg : Str → Option Value} {base : Heap}
local macro_rules | `(tactic| get_elem_tactic_trivial) => `(tactic| (repeat first | exact Wk.nil | exact Wk'.nil | refine Wk.same ?_ | refine Wk'.same ?_ | refine Wk.un (fun _ z => nomatch z) ?_ | refine Wk'.un ?_))

end
section
variable {P : Program} {w : World} {K : PySem.W.Frag} {mg : Str → Option Value} {base : Heap}
local macro_rules | `(tactic| get_elem_tactic_trivial) => `(tactic| (repeat first | exact Wk.nil | exact Wk'.nil | refine Wk.same ?_ | refine Wk'.same ?_ | refine Wk.un (fun _ z => nomatch z) ?_ | refine Wk'.un ?_))
/-! errors of the program's own as values -/
theorem oexB_ok {K : PySem.W.Frag} {C : Addr} (h : oexB K C = true) : ∃ nm q N bs bm sn sub ab col dd k0 k1 k2 k3 k5, K.lookup C = some (excClassObj nm q C N bs bm true sn sub ab col dd k0 k1 k2 k3 k5 "ValueError.__new__") ∧ PySem.HandSPX.refsVE bm = true := by
  unfold oexB at h
  split at h
  · next dd cd sl lk =>
    split at h
    · next D bm k0 k1 k2 k3 n k5 hm hs =>
      obtain ⟨h1, h⟩ := He.ba h
      obtain ⟨h2, h⟩ := He.ba h
      obtain ⟨h3, h⟩ := He.ba h
      obtain ⟨h4, h5⟩ := He.ba h
      have e1 : D = C := beq_iff_eq.mp h1
      have e2 : n = "ValueError.__new__" := beq_iff_eq.mp h2
      obtain ⟨nm, bs, mro, ns, qn, hd, sn, sub, ab, col, del⟩ := cd
      dsimp only at hm h3 h4
      have e3 : del = false := by cases del <;> simp_all
      obtain ⟨l⟩ := sl
      have e4 : l = [k0, k1, k2, k3, some (.builtin n), k5] := hs
      subst e1 e2 e3 e4 hm h4
      exact ⟨nm, qn, ns, bs, bm, sn, sub, ab, col, dd, k0, k1, k2, k3, k5, lk, h5⟩
    · cases h
  · cases h
/-- what the written part says of an error's class -/
structure ECl (K : PySem.W.Frag) (C fI : Addr) : Prop where
  ox : OexC K C
  ga : PySem.W.findIn K (.ref C) "__getattribute__" = some (some (.builtin "BaseException.__getattribute__"))
  gg : PySem.W.findIn K (.ref C) "__getattr__" = some none
  hd : PySem.W.hasDictIn K C = true
  cl : PySem.W.findIn K (.ref C) "__class__" = some (some (.builtin "object.__class__"))
  sp : PySem.W.specialIn K (.builtin "object.__class__") "__get__" = some (some (.builtin "getset_descriptor.__get__"))
  tk : PySem.W.takesIn K (.builtin "object.__class__") = some true
  mo : PySem.W.mroIn K C (.type "object") = some true
  wh : PySem.W.findIn K (.ref C) "what" = some none
  ini : PySem.W.findIn K (.ref C) "__init__" = some (some (.ref fI))
  fty : PySem.W.typeIn K (.ref fI) = some (.type "function")
theorem eclB_ok {K : PySem.W.Frag} {C fI : Addr} (h : eclB K C fI = true) : ECl K C fI := by
  obtain ⟨h1, h⟩ := He.ba h
  obtain ⟨h2, h⟩ := He.ba h
  obtain ⟨h3, h⟩ := He.ba h
  obtain ⟨h4, h⟩ := He.ba h
  obtain ⟨h5, h⟩ := He.ba h
  obtain ⟨h6, h⟩ := He.ba h
  obtain ⟨h7, h⟩ := He.ba h
  obtain ⟨h8, h⟩ := He.ba h
  obtain ⟨h9, h⟩ := He.ba h
  obtain ⟨h10, h⟩ := He.ba h
  obtain ⟨h11, h⟩ := He.ba h
  obtain ⟨h12, h⟩ := He.ba h
  obtain ⟨h13, h⟩ := He.ba h
  obtain ⟨h14, h15⟩ := He.ba h
  exact ⟨⟨oexB_ok h1, He.eqO_ok h2, of_decide_eq_true h3, of_decide_eq_true h4, h5⟩, He.eqO_ok h6, He.eqO_ok h7, h8, He.eqO_ok h9, He.eqO_ok h10, of_decide_eq_true h11, of_decide_eq_true h12, He.eqO_ok h13, He.eqO_ok h14, of_decide_eq_true h15⟩
theorem err_cl {K : PySem.W.Frag} {root : Str} {cs : List Str} (h : errOk K root cs = true) {c : Str} (hc : c ∈ cs) : ECl K (He.ga K c) (He.ma K (He.ga K root) "__init__") :=
  eclB_ok (He.ba (List.all_eq_true.mp h c hc)).1
theorem err_ve {K : PySem.W.Frag} {root : Str} {cs : List Str} (h : errOk K root cs = true) {c : Str} (hc : c ∈ cs) : PySem.W.kitOne K (.ref (He.ga K c)) (.type "ValueError") = some true :=
  of_decide_eq_true (He.ba (He.ba (List.all_eq_true.mp h c hc)).2).1
theorem err_is {K : PySem.W.Frag} {root : Str} {cs : List Str} (h : errOk K root cs = true) {c e : Str} (hc : c ∈ cs) (he : e ∈ cs) : PySem.W.kitOne K (.ref (He.ga K c)) (.ref (He.ga K e)) = some (decide (e = c) || decide (e = root)) :=
  of_decide_eq_true (He.ba (List.all_eq_true.mp (He.ba (He.ba (List.all_eq_true.mp h c hc)).2).2 e he)).1
/-- an error of class c, in the clause of class e -/
theorem err_ex {K : PySem.W.Frag} {root : Str} {cs : List Str} (h : errOk K root cs = true) {c e : Str} (hc : c ∈ cs) (he : e ∈ cs) : PySem.W.exmOne K (.ref (He.ga K c)) (.ref (He.ga K e)) = some (decide (e = c) || decide (e = root)) :=
  PySem.W.exm_ref (err_cl h he).ox.exC (err_cl h he).hd (err_cl h he).ox.tyC (of_decide_eq_true (He.ba (List.all_eq_true.mp (He.ba (He.ba (List.all_eq_true.mp h c hc)).2).2 e he)).2)
end
section
variable {P : Program} {w : World} {K : PySem.W.Frag} {mg : Str → Option Value} {base : Heap}
local macro_rules | `(tactic| get_elem_tactic_trivial) => `(tactic| (repeat first | exact Wk.nil | exact Wk'.nil | refine Wk.same ?_ | refine Wk'.same ?_ | refine Wk.un (fun _ z => nomatch z) ?_ | refine Wk'.un ?_))
open PySem.W PySem.Calls PySem.HandSPX
section
variable {M : Model} {A : Around} {E : Value → Shared → Prop} {h : Heap} {g : Array GenState} {d : Drawn} {t : Nat} {os : OsState}
variable {nm q : Str} {C N : Addr} {bs bm : List Value} {hdct : Bool} {sn : List Str} {sub : List Value} {ab : Bool} {col : Option Bool} {dd : Option Addr} {k0 k1 k2 k3 k5 : Option Value}
end
section
variable {prog : Program} {w : World} {A : Around} {E : Value → Shared → Prop} {R : Result → Shared → Prop} {h : Heap} {g : Array GenState} {d : Drawn} {t : Nat} {os : OsState}
variable {nm q : Str} {C N : Addr} {bs bm : List Value} {hdct : Bool} {sn : List Str} {sub : List Value} {ab : Bool} {col : Option Bool} {dd : Option Addr} {k0 k1 k2 k3 k5 : Option Value}
end
/-! C(e) and C(what=e) as values -/
def spInitE (K : PySem.W.Frag) : Sp := fun vs H Q _ => ∃ (a C fI : Addr) (v : V), vs = [.ref a, v] ∧ H a = some (exo a C none) ∧ ECl K C fI ∧ ∀ d, H d = none → d ≠ a → Q .non (upd (upd H d (exd d [(("what" : Str), v)])) a (exo a C (some d)))
section
variable {X : Cx} {x : Str} {C fI : Addr} {k : Nat} {fd : FuncData} {p pos : Pos}
end

end
section
variable {P : Program} {w : World} {K : PySem.W.Frag} {mg : Str → Option Value} {base : Heap}
local macro_rules | `(tactic| get_elem_tactic_trivial) => `(tactic| (repeat first | exact Wk.nil | exact Wk'.nil | refine Wk.same ?_ | refine Wk'.same ?_ | refine Wk.un (fun _ z => nomatch z) ?_ | refine Wk'.un ?_))
/-! an error that is caught and kept behind its suite -/
theorem exv_ok {P : Program} {w : World} {H : Hp} {h : Heap} {a : Addr} {cls : Value} {d : Option Addr} {oe : Obj} {vs : Array Value} (e : h.get? a = some oe) (z : Zc cls d oe) (q : oe.data = .fields vs) : ObjOk P w H h a (exv a cls d) :=
  ⟨⟨oe, vs, e, z, q⟩, ⟨oe, e⟩, fun _ _ ⟨o, v, q, r⟩ k => ⟨o, v, k o q, r⟩⟩
theorem exv_at {P : Program} {w : World} {H : Hp} {h : Heap} {a : Addr} {cls : Value} {d : Option Addr} (hok : HOk P w H h) (he : H a = some (exv a cls d)) : ∃ (oe : Obj) (vs : Array Value), h.get? a = some oe ∧ Zc cls d oe ∧ oe.data = .fields vs := by
  have x : ObjOk P w H h a (.ext fun h => ∃ (oe : Obj) (vs : Array Value), h.get? a = some oe ∧ Zc cls d oe ∧ oe.data = .fields vs) := hok a _ he
  exact x.1
/-- an object that stands untracked, and that stood nowhere at the entry, is tracked from here on -/
theorem inv_track {X : Cx} {pins : List (Addr × Obj)} {σ : L2.St} {H : Hp} {s : Shared} {a : Addr} {o : HO} (I : Inv X pins σ H s) (na : H a = none) (new : ObjOk X.prog X.w (upd H a o) s.heap a o) (n0 : X.s_0.heap.get? a = none) (np : ∀ p ∈ X.pn ++ pins, p.1 ≠ a) (nL : a ≠ X.env.locals)
    (nC : ∀ x c, X.env.cells.lookup x = some c → c ≠ a) : Inv X pins σ (upd H a o) s := by
  have ne0 : ∀ b u, X.s_0.heap.get? b = some u → b ≠ a := fun b u e z => by
    rw [z, n0] at e
    cases e
  refine ⟨I.ok, I.os, I.bare, ⟨I.base.keep, I.base.slot, fun b u e n hx => ?_, I.base.there, fun b xs e => ?_, fun b u v e => ?_, fun b ps e => ?_⟩, I.loc, I.cell, ?_, fun x c e => ?_, fun p hp => ?_, fun b u e => ?_, I.len⟩
  · rw [upd_ne (ne0 b u e)]
    exact I.base.free b u e n hx
  · have q := I.base.tups b xs e
    rw [upd_ne (ne_of_none q na)]
    exact q
  · have q := I.base.frzs b u v e
    rw [upd_ne (ne_of_none q na)]
    exact q
  · obtain ⟨m, q⟩ := I.base.tbls b ps e
    exact ⟨m, by rw [upd_ne (ne_of_none q na)]; exact q⟩
  · rw [upd_ne (Ne.symm nL)]
    exact I.free
  · rw [upd_ne (nC x c e)]
    exact I.freeC x c e
  · obtain ⟨e, n, ne, nf, d⟩ := I.pin p hp
    exact ⟨e, by rw [upd_ne (np p hp)]; exact n, ne, nf, d⟩
  · by_cases hb : b = a
    · subst hb
      rw [upd_same] at e
      cases e
      exact new
    · rw [upd_ne hb] at e
      exact (I.hok b u e).stay (fun _ _ _ q => q) (fun c q => by rw [upd_ne (ne_of_none q na)]; exact q) fun c xs q => by rw [upd_ne (ne_of_none q na)]; exact q
/-- a stands nowhere at the entry, is no pin and no cell -/
structure NewAt (X : Cx) (pq : List (Addr × Obj)) (a : Addr) : Prop where
  n0 : X.s_0.heap.get? a = none
  np : ∀ p ∈ X.pn ++ pq, p.1 ≠ a
  nc : ∀ y k, X.env.cells.lookup y = some k → k ≠ a
  nl : a ≠ X.env.locals
  nf : a ∉ X.fs
theorem newAt_of {X : Cx} {pq : List (Addr × Obj)} {r : L2.St} {G : Hp} {t : Shared} {B h : Heap} {a : Addr} {Z : Obj → Prop} (hx : X.ex = []) (hs : X.stack = X.env :: X.outer) (hf : X.env.frame = some X.env.locals) (J : Inv X pq r G t)
    (gr : ∀ b o, t.heap.get? b = some o → b ∉ frs X.stack → B.get? b = some o) (fl : HandSPX.FlyingZ B (X.env :: X.outer) a Z h) : NewAt X pq a := by
  obtain ⟨oe, vs, he, _, hd⟩ := fl.there
  have out : a ∉ frs (X.env :: X.outer) := fun hm => by
    obtain ⟨_, o', e', z⟩ := fl.2.2.1.mem hm
    rw [he] at e'
    cases e'
    exact z _ hd
  have nI : t.heap.get? a = none := by
    cases e : t.heap.get? a with
    | none => rfl
    | some o =>
      have z := gr a o e (by rw [hs]; exact out)
      rw [fl.2.1] at z
      cases z
  refine ⟨?_, fun p hp z => ?_, fun y k e z => ?_, fun z => out ?_, fun hm => out ?_⟩
  · cases e : X.s_0.heap.get? a with
    | none => rfl
    | some o =>
      obtain ⟨o', z⟩ := J.base.there a o e (by rw [hx]; exact fun z => nomatch z)
      rw [nI] at z
      cases z
  · have e := (J.pin p hp).1
    rw [z, nI] at e
    cases e
  · obtain ⟨v, o, ho, _⟩ := J.cell y k e
    rw [z, nI] at ho
    cases ho
  · exact List.mem_filterMap.mpr ⟨X.env, List.mem_cons_self, by rw [hf, z]⟩
  · obtain ⟨e, he, q⟩ := List.mem_filterMap.mp hm
    exact List.mem_filterMap.mpr ⟨e, List.mem_cons_of_mem _ he, q⟩
end
section
variable {P : Program} {w : World} {K : PySem.W.Frag} {mg : Str → Option Value} {base : Heap}
local macro_rules | `(tactic| get_elem_tactic_trivial) => `(tactic| (repeat first | exact Wk.nil | exact Wk'.nil | refine Wk.same ?_ | refine Wk'.same ?_ | refine Wk.un (fun _ z => nomatch z) ?_ | refine Wk'.un ?_))
section
variable {X : Cx} {x n : Str} {c : Value} {i : Nat} {body rest : List Stmt} {b1 : Stmt} {np at1 at2 : Pos} {tb : WX → TS} {ts : Addr → Value → Option Addr → TS} {Wo : WX}
/-- what the suite is asked for, where the error at a is tracked behind it -/
def keepD (D : Ends) (i : Nat) (a : Addr) (cls : Value) (d : Option Addr) : Ends := { nx := fun r G => D.nx (r.set i none) (upd G a (exv a cls d)), rt := fun v G => D.rt v (upd G a (exv a cls d)), bk := fun r G => D.bk (r.set i none) (upd G a (exv a cls d)), ct := fun r G => D.ct (r.set i none) (upd G a (exv a cls d)) }
/-- what 'except x as n' asks of the body's error -/
def kpX (K : PySem.W.Frag) (c : Value) (i : Nat) (ts : Addr → Value → Option Addr → TS) (Wo : WX) (D : Ends) : WX := fun cls d r G =>
  ∃ b, PySem.W.exmOne K cls c = some b ∧ (b = true → ∀ a, G a = none → ts a cls d (keepD D i a cls d) (r.set i (some (.ref a))) G) ∧ (b = false → Wo cls d r G)
/-- the suite's end: the name goes, the error stays, tracked -/
theorem keep_end {pq : List (Addr × Obj)} {t : Shared} {D : Ends} {a : Addr} {oe : Obj} {vs : Array Value} {cls : Value} {d : Option Addr} {f : Flow} (ok : X.Ok) (nw : NewAt X pq a) (hz : Zc cls d oe) (hd : oe.data = .fields vs) (hN : X.N.Nodup) (hi : X.N[i]? = some n) (hl : X.env.kindOf n = some .local)
    (S : SP (X.suite a ((a, oe) :: (X.pn ++ pq))) [] (keepD D i a cls d) f t) :
    wpAny (model X.prog X.w) X.A (do bindName X.env n .none; unbindBehindTheSuite X.env n at2) (fun _ t2 => SP X pq D f t2) X.xe t := by
  have go : ∀ {r : L2.St} {G : Hp}, Inv (X.suite a ((a, oe) :: (X.pn ++ pq))) [] r G t → Inv X pq r (upd G a (exv a cls d)) t := fun {r G} S => by
    obtain ⟨e, z, _⟩ := S.pin (a, oe) (List.mem_append_left _ List.mem_cons_self)
    exact inv_track (S.unsuite ok) z (exv_ok e hz hd) nw.n0 nw.np nw.nl nw.nc
  cases f with
  | ret u =>
    obtain ⟨v, r, G, S, rv, q⟩ := S
    exact gone_ok (go S) hN hi hl fun t2 J => ⟨_, _, _, J, rv, q⟩
  | next =>
    obtain ⟨r, G, S, q⟩ := S
    exact gone_ok (go S) hN hi hl fun t2 J => ⟨_, _, J, q⟩
  | brk =>
    obtain ⟨r, G, S, q⟩ := S
    exact gone_ok (go S) hN hi hl fun t2 J => ⟨_, _, J, q⟩
  | cont =>
    obtain ⟨r, G, S, q⟩ := S
    exact gone_ok (go S) hN hi hl fun t2 J => ⟨_, _, J, q⟩
/-- the one clause, looked at by an error in the air -/
theorem keep_clause {pq : List (Addr × Obj)} {D : Ends} {a : Addr} {B : Heap} {tI t : Shared} {r : L2.St} {G : Hp} {cls : Value} {d : Option Addr} (hx : X.ex = []) (hs : X.stack = X.env :: X.outer) (hf : X.env.frame = some X.env.locals) (hN : X.N.Nodup) (hi : X.N[i]? = some n) (hl : X.env.kindOf n = some .local)
    (hc : Names X x c) (tk : Takes X Wo) (hsu : ∀ (a : Addr) (oe : Obj) (cls : Value) (d : Option Addr) (pn : List (Addr × Obj)), Zc cls d oe → (∃ vs, oe.data = .fields vs) → PSs (X.suite a ((a, oe) :: pn)) (b1 :: rest) (ts a cls d))
    (J : Inv X pq r G tI) (gr : ∀ b o, tI.heap.get? b = some o → b ∉ frs X.stack → B.get? b = some o) (up : tI.heap.UpToSlots t.heap) (fl : HandSPX.FlyingZ B (X.env :: X.outer) a (Zc cls d) t.heap) (na : G a = none) (os : t.os = tI.os) (ag : AllBare t.gens) (wk : kpX X.K c i ts Wo D cls d r G) :
    wpAny (model X.prog X.w) X.A (handleBy (.ref a) X.env [.ExceptHandler (some (.Name x np)) (some n) (b1 :: rest) at2]) (SP X pq D) X.xe t := by
  obtain ⟨b, is, yes, no⟩ := wk
  have nw := newAt_of hx hs hf J gr fl
  have I1 : Inv X pq r G t := J.landed gr fl.1 up os ag
  obtain ⟨o1, v1, h1, z1, d1⟩ := fl.there
  have S1 := I1.suite h1 d1 na nw.nl nw.nf
  refine wpAny_handleBy_cons (codeAny_handlers_test ?_) (fun q => nomatch q)
  have lt : PySem.W.Looks (model X.prog X.w) t.heap (typeOf (.ref a)) cls := fun _ _ _ _ k q => wpAny_typeOf_ref (k _ _ h1) (by rw [z1.1]; exact q)
  have lm := PySem.W.exm_one (M := model X.prog X.w) I1.kIn lt is
  have named : ∀ {Q : Value → Shared → Prop} {F : Value → Shared → Prop}, Q c t → wpAny (model X.prog X.w) (X.A.mark (some (.ref a))) (eval (.Name x np) X.env) Q F t := fun {Q F} q => by
    obtain ⟨g, db, m | ⟨m, bv, nn⟩⟩ := hc
    · exact ld_glob (X := X.suite a ((a, o1) :: (X.pn ++ pq))) S1 g m q db
    · exact ld_blt (X := X.suite a ((a, o1) :: (X.pn ++ pq))) S1 g m bv q nn db
  refine named (lm.here ?_)
  cases b with
  | true =>
    refine codeAny_handlers_suite_as (HandSPX.lands_againZ fl fun h2 fl2 up2 => ?_)
    have I2 : Inv X pq r G { t with heap := h2 } := J.landed gr fl2.1 (up.trans up2) os ag
    obtain ⟨o2, v2, e2, z2, d2⟩ := fl2.there
    refine store_ok (X := X.suite a ((a, o2) :: (X.pn ++ pq))) (v := .ref a) (I2.suite e2 d2 na nw.nl nw.nf) hN hi (.inl hl) rfl (fun t3 S3 => ?_) (.inr hl)
    exact wpAny_mono ((hsu a o2 cls d (X.pn ++ pq) z2 ⟨_, d2⟩).run [] t3 _ G _ S3 (yes rfl a na)) (fun f t4 sp => keep_end J.ok nw z2 d2 hN hi hl sp) fun _ _ z => z.elim
  | false =>
    show wpAny _ X.A (handleBy (.ref a) X.env []) _ _ _
    refine wpAny_handleBy_nil ?_
    obtain ⟨oe, vs, T, oT, tt, he, hz, hd, hT, _⟩ := fl.2.2.2
    unfold PySem.passOn
    refine wpAny_bind (wpAny_field he hd hT ?_)
    rw [if_neg (show ¬ ((Value.ref T == Value.none) = true) from by simp)]
    have fin : wpAny (model X.prog X.w) X.A (setFlight (.ref a) X.env.frame) (fun _ t4 => wpAny (model X.prog X.w) X.A (throw (.ref a) : Sem Flow) (SP X pq D) X.xe t4) X.xe t := by
      rw [hf]
      exact HandSPX.setFlight_upZ fl fun h4 hh up4 => wpAny_throw (tk _ _ ⟨a, B, tI, pq, r, G, cls, d, rfl, J, gr, up.trans up4, .inr (.inr (by rw [hs]; exact hh)), na, os, ag, no rfl⟩)
    first
      | exact wpAny_bind (wpAny_pure (wpAny_bind fin))
      | exact wpAny_bind fin
/-- try: body / except x as n: suite, where the suite may keep the error: it is tracked behind it -/
theorem ps_try_keep (hx : X.ex = []) (hs : X.stack = X.env :: X.outer) (hf : X.env.frame = some X.env.locals) (hN : X.N.Nodup) (hi : X.N[i]? = some n) (hl : X.env.kindOf n = some .local) (hc : Names X x c) (tk : Takes X Wo)
    (hb : ∀ (W : WX) (pn : List (Addr × Obj)) (xe : Value → Shared → Prop), Takes (X.tr pn xe) W → PassesOwn (model X.prog X.w) X.A X.env xe → PSs (X.tr pn xe) body (tb W))
    (hsu : ∀ (a : Addr) (oe : Obj) (cls : Value) (d : Option Addr) (pn : List (Addr × Obj)), Zc cls d oe → (∃ vs, oe.data = .fields vs) → PSs (X.suite a ((a, oe) :: pn)) (b1 :: rest) (ts a cls d)) :
    PS X (.Try body [.ExceptHandler (some (.Name x np)) (some n) (b1 :: rest) at2] [] [] at1) (fun D r G => tb (kpX X.K c i ts Wo D) D r G) := by
  refine ⟨fun pq s r G D I h => wpAny_Try_except ?_⟩
  have fr : X.A.frames = some (X.env :: X.outer) := by rw [I.ok.frames, hs]
  refine wpAny_mono ((hb (kpX X.K c i ts Wo D) (X.pn ++ pq) (fun e t1 => wpAny (model X.prog X.w) X.A (noteFrame e X.env) (fun _ t2 => wpAny (model X.prog X.w) X.A (setFlight e none) (fun _ t3 =>
    wpAny (model X.prog X.w) X.A (handleBy e X.env [.ExceptHandler (some (.Name x np)) (some n) (b1 :: rest) at2]) (SP X pq D) X.xe t3) X.xe t2) X.xe t1) (fun u t z => ?_) PassesOwn.looking).run [] s r G D (I.toTry _) h) (fun f t z => ?_) (fun _ _ z => z)
  · obtain ⟨a, B, tI, _, r', G', cls, d, rfl, J, gr, up, sky, na, os, ag, wk⟩ := z
    refine Sky.land Zc.steady fr hf (by rw [← hs]; exact sky) fun h3 fl up3 => ?_
    exact keep_clause (t := { t with heap := h3 }) hx hs hf hN hi hl hc tk hsu (J.ofTry I.ok) gr (up.trans up3) fl na os ag wk
  · cases f with
    | ret u =>
      obtain ⟨v, r', G', J, rv, q⟩ := z
      exact ⟨v, r', G', J.ofTry I.ok, rv, q⟩
    | next =>
      obtain ⟨r', G', J, q⟩ := z
      exact wpAny_execs_nil ⟨r', G', J.ofTry I.ok, q⟩
    | brk =>
      obtain ⟨r', G', J, q⟩ := z
      exact ⟨r', G', J.ofTry I.ok, q⟩
    | cont =>
      obtain ⟨r', G', J, q⟩ := z
      exact ⟨r', G', J.ofTry I.ok, q⟩
end
end
section
variable {P : Program} {w : World} {K : PySem.W.Frag} {mg : Str → Option Value} {base : Heap}
local macro_rules | `(tactic| get_elem_tactic_trivial) => `(tactic| (repeat first | exact Wk.nil | exact Wk'.nil | refine Wk.same ?_ | refine Wk'.same ?_ | refine Wk.un (fun _ z => nomatch z) ?_ | refine Wk'.un ?_))
/-- a caught error of the class at C at a; it bears v -/
def Caught (H : Hp) (a C : Addr) (v : V) : Prop := ∃ d fs, H a = some (exv a (.ref C) (some d)) ∧ H d = some (.xd fs) ∧ fs.lookup ("what" : Str) = some v
theorem inst_caught {X : Cx} {pins : List (Addr × Obj)} {σ : L2.St} {H : Hp} {s : Shared} {a C : Addr} {v : V} (I : Inv X pins σ H s) (e : Caught H a C v) :
    ∃ oe od u, PySem.W.InstAt s.heap a oe C (some od) ∧ PySem.W.lookIn "what" od = some (some u) ∧ RelV v u := by
  obtain ⟨d, fs, h1, h2, h3⟩ := e
  obtain ⟨oe, vs, q1, z, q2⟩ := exv_at I.hok h1
  obtain ⟨mA, hn, hr⟩ : ObjOk X.prog X.w H s.heap d (.xd fs) := I.hok d _ h2
  obtain ⟨od, ho, hl⟩ := lookIn_ns hn
  obtain ⟨u, hu, ru⟩ := RelO.some_of (v := v) (o := mA "what") (by rw [← h3]; exact hr "what")
  exact ⟨oe, od, u, ⟨q1, z.1, by unfold PySem.W.notCls; rw [q2] <;> rfl, by rw [z.2]; exact ho⟩, by rw [hl, hu], ru⟩
/-- isinstance(e, c) of a caught one -/
def rIsC (K : PySem.W.Frag) : List V → Hp → VK → Prop := fun xs H Q => ∃ (a D fI : Addr) (w c : V) (u : Value) (b : Bool), xs = [.ref a, c] ∧ ClsV c u ∧ Caught H a D w ∧ ECl K D fI ∧ PySem.W.kitOne K (.ref D) u = some b ∧ Q (.bl b) H
theorem call_isC {X : Cx} : CallR X (.builtin "isinstance") (rIsC X.K) := by
  intro pins s σ H xs us Q I r h
  obtain ⟨a, D, fI, w, c, u, b, rfl, hc, he, T, hk, q⟩ := h
  obtain ⟨u1, u2, rfl, r1, r2⟩ := vals2 r
  obtain rfl : u1 = Value.ref a := r1
  have e2 := hc.eq r2
  subst e2
  obtain ⟨oe, od, z, J, _, _⟩ := inst_caught I he
  have hcl : (PySem.W.clsIn X.K D).isSome = true := by
    have := T.hd
    unfold PySem.W.hasDictIn at this
    cases e : PySem.W.clsIn X.K D with
    | none => rw [e] at this; cases this
    | some _ => rfl
  exact PySem.W.kia_one (PySem.W.kitx_exc (od := some od) hcl T.ga T.gg T.ox.exC T.cl T.sp T.tk T.mo) I.kIn J hk (fun z => nomatch z) fun tk => ⟨.bl b, H, I.tok tk, rfl, q⟩
/-- e.what of a caught one -/
def tWhatC (K : PySem.W.Frag) (te : TE) : TE := fun σ H Q => te σ H fun x H1 => ∃ (a D fI : Addr) (v : V), x = .ref a ∧ Caught H1 a D v ∧ ECl K D fI ∧ Q v H1
theorem pe_whatC {X : Cx} {e : Expr} {te : TE} {pos : Pos} (he : PE X e te) (hb : attributeBase e "what" X.env (eval e X.env) = eval e X.env := by rfl) : PE X (.Attribute e "what" pos) (tWhatC X.K te) := by
  refine ⟨fun pins s σ H Q I h => ?_⟩
  refine attr_of hb (thn (he.run pins s σ H _ I h) fun u s1 hh => ?_)
  obtain ⟨x, H1, I1, rx, a, D, fI, v, ex, er, T, q⟩ := hh
  subst ex
  obtain rfl : u = Value.ref a := rx
  obtain ⟨oe, od, z, J, hl, rz⟩ := inst_caught I1 er
  exact HandSPX.exc_get I1.kIn J T.ga T.gg T.ox.exC (PySem.W.findObj_own T.hd T.wh rfl hl) (handed_of rz) ⟨v, H1, I1.tok _, rz, q⟩

end
section
variable {P : Program} {w : World} {K : PySem.W.Frag} {mg : Str → Option Value} {base : Heap}
local macro_rules | `(tactic| get_elem_tactic_trivial) => `(tactic| (repeat first | exact Wk.nil | exact Wk'.nil | refine Wk.same ?_ | refine Wk'.same ?_ | refine Wk.un (fun _ z => nomatch z) ?_ | refine Wk'.un ?_))
/-! an own error made to be raised, its context none: what a suite that raises anew asks of the body's errors -/
section
variable {X : Cx} {x : Str} {C fI : Addr} {k : Nat} {fd : FuncData} {p pos : Pos}
end
end
section
variable {P : Program} {w : World} {K : PySem.W.Frag} {mg : Str → Option Value} {base : Heap}
local macro_rules | `(tactic| get_elem_tactic_trivial) => `(tactic| (repeat first | exact Wk.nil | exact Wk'.nil | refine Wk.same ?_ | refine Wk'.same ?_ | refine Wk.un (fun _ z => nomatch z) ?_ | refine Wk'.un ?_))

end
section
variable {P : Program} {w : World} {K : PySem.W.Frag} {mg : Str → Option Value} {base : Heap}
local macro_rules | `(tactic| get_elem_tactic_trivial) => `(tactic| (repeat first | exact Wk.nil | exact Wk'.nil | refine Wk.same ?_ | refine Wk'.same ?_ | refine Wk.un (fun _ z => nomatch z) ?_ | refine Wk'.un ?_))
/-! defs that raise, over data -/
def ExAt (K : PySem.W.Frag) (C : Hp) (cls : Value) (dd : Option Addr) (c : Str) (d : Dt) : Prop := cls = .ref (He.ga K c) ∧ ∃ (a : Addr) (v : V), dd = some a ∧ C a = some (.xd [(("what" : Str), v)]) ∧ Rp K C v d
abbrev XE' := Str → Dt → List Sl → Prop
/-- what is asked of an error that leaves -/
def MeetsX (K : PySem.W.Frag) (B : Bs) (Ξ : XE') (W : WX) : Prop := ∀ (C' G : Hp) (σ : L2.St) (ρ : List Sl) (cls : Value) (dd : Option Addr) (c : Str) (d : Dt), Sep K B C' G σ ρ → ExAt K C' cls dd c d → Ξ c d ρ → W cls dd σ G
abbrev WEX := List Sl → (Rs → List Sl → Prop) → XE' → Prop
abbrev WNX := List Sl → (List Dt → List Sl → Prop) → XE' → Prop
abbrev WSX := List Sl → Fs → XE' → Prop
class Xd (K : PySem.W.Frag) (W : WX) (t : TE) (w : outParam WEX) : Prop where
  run : ∀ (B : Bs) (C H : Hp) (σ : L2.St) (ρ : List Sl) (Q : VK) (Ψ : Rs → List Sl → Prop) (Ξ : XE'), Sep K B C H σ ρ → w ρ Ψ Ξ → (∀ C' G v r ρ', Sep K B C' G σ ρ' → Same C C' → RsOk K C' σ ρ' v r → Ψ r ρ' → Q v G) → MeetsX K B Ξ W → t σ H Q
class Xn (K : PySem.W.Frag) (W : WX) (t : TE) (w : outParam WNX) : Prop where
  run : ∀ (B : Bs) (C H : Hp) (σ : L2.St) (ρ : List Sl) (Q : VK) (Ψ : List Dt → List Sl → Prop) (Ξ : XE'), Sep K B C H σ ρ → w ρ Ψ Ξ → (∀ C' G a ds ρ', Sep K B C' G σ ρ' → Same C C' → Fr K B C' G σ ρ' a ds → Ψ ds ρ' → Q (.ref a) G) → MeetsX K B Ξ W → t σ H Q
class Xs (K : PySem.W.Frag) (W : WX) (t : TS) (w : outParam WSX) : Prop where
  run : ∀ (B : Bs) (C H : Hp) (σ : L2.St) (ρ : List Sl) (D : Ends) (Φ : Fs) (Ξ : XE'), Sep K B C H σ ρ → w ρ Φ Ξ → Meets K B Φ D → MeetsX K B Ξ W → t D σ H
instance (priority := 100) xd_sd {W : WX} {t : TE} {w : WE} [a : Sd K t w] : Xd K W t (fun ρ Ψ _ => w ρ Ψ) where
  run B C H σ ρ Q Ψ Ξ S h k m := a.run B C H σ ρ Q Ψ S h k
instance (priority := 100) xn_sn {W : WX} {t : TE} {w : WN} [a : Sn K t w] : Xn K W t (fun ρ Ψ _ => w ρ Ψ) where
  run B C H σ ρ Q Ψ Ξ S h k m := a.run B C H σ ρ Q Ψ S h k
instance (priority := 100) xs_ss {W : WX} {t : TS} {w : WS} [a : Ss K t w] : Xs K W t (fun ρ Φ _ => w ρ Φ) where
  run B C H σ ρ D Φ Ξ S h m mx := a.run B C H σ ρ D Φ S h m
def wSeqX (wt wu : WSX) : WSX := fun ρ Φ Ξ => wt ρ { Φ with nx := fun ρ' => wu ρ' Φ Ξ } Ξ
instance xs_seq {W : WX} {t u : TS} {wt wu : WSX} [a : Xs K W t wt] [b : Xs K W u wu] : Xs K W (tSeq t u) (wSeqX wt wu) where
  run B C H σ ρ D Φ Ξ S h m mx := a.run B C H σ ρ _ _ Ξ S h ⟨fun C1 H1 σ1 ρ1 S1 z => b.run B C1 H1 σ1 ρ1 _ _ Ξ S1 z m mx, m.rt, m.bk, m.ct⟩ mx
def wIfX (wc : WT) (wt wu : WSX) : WSX := fun ρ Φ Ξ => wc ρ fun b ρ1 => if b = true then wt ρ1 Φ Ξ else wu ρ1 Φ Ξ
instance xs_if {W : WX} {tc : TT} {t u : TS} {wc : WT} {wt wu : WSX} [c : Sc K tc wc] [a : Xs K W t wt] [b : Xs K W u wu] : Xs K W (tIfS tc t u) (wIfX wc wt wu) where
  run B C H σ ρ D Φ Ξ S h m mx := c.run B C H σ ρ _ _ S h fun C1 H1 e ρ1 S1 s1 h1 => by
    cases e with
    | true => exact a.run B C1 H1 σ ρ1 _ _ Ξ S1 h1 m mx
    | false => exact b.run B C1 H1 σ ρ1 _ _ Ξ S1 h1 m mx
def wAsgX (w : WEX) (wg : WG) : WSX := fun ρ Φ Ξ => w ρ (fun r ρ1 => store r ρ1 fun a ρ2 => isD a fun x => wg x ρ2 Φ.nx) Ξ
instance (priority := 900) xs_asg {W : WX} {te : TE} {g : TG} {w : WEX} {wg : WG} [a : Xd K W te w] [b : Sg K g wg] : Xs K W (tAsg te g) (wAsgX w wg) where
  run B C H σ ρ D Φ Ξ S h m mx := a.run B C H σ ρ _ _ Ξ S h (fun C1 H1 v1 r1 ρ1 S1 s1 ok1 h1 => by
    obtain ⟨C2, x, ρ2, S2, s2, ok2, h2⟩ := S1.stored ok1 h1
    obtain ⟨d, rd, h3⟩ := isD_run ok2 h2
    exact b.run B C2 H1 σ ρ2 _ _ _ _ S2 rd h3 fun σ' ρ' S' z => m.nx _ _ _ _ S' z) mx
def wAsgNX (i : Nat) (w : WNX) : WSX := fun ρ Φ Ξ => w ρ (fun ds ρ1 => put i (.hot ds) ρ1 Φ.nx) Ξ
instance xs_asgN {W : WX} {te : TE} {i : Nat} {w : WNX} [a : Xn K W te w] : Xs K W (tAsg te (gName i)) (wAsgNX i w) where
  run B C H σ ρ D Φ Ξ S h m mx := a.run B C H σ ρ _ _ Ξ S h (fun C1 H1 a ds ρ1 S1 s1 f z => by
    obtain ⟨h1, h2⟩ := put_run z
    obtain ⟨⟨vs, ha, r⟩, ca, h0, nh⟩ := f
    exact m.nx _ _ _ _ (S1.put (x := some (.ref a)) (s := .hot ds) h1 (fun _ => ⟨a, vs, rfl, ha, r, ca⟩) fun _ b e => by cases e; exact ⟨fun j t _ => nh j t, h0⟩) h2) mx
instance (priority := 1000) xs_retS {W : WX} {te : TE} {w : WE} [a : Sd K te w] : Xs K W (tRet te) (fun ρ Φ _ => wRet w ρ Φ) where
  run B C H σ ρ D Φ Ξ S h m mx := (ss_ret (te := te) (w := w)).run B C H σ ρ D Φ S h m
/-- the base grown within a loop -/
theorem sep_back {B : Bs} {C3 C5 H5 : Hp} {σ5 : L2.St} {ρ5 : List Sl} (gr : Same B.C0 C3) (nw : ∀ a o, C3 a = some o → B.C0 a = none → B.H0 a = none) (z : Sep K ⟨C3, B.H0, B.bx⟩ C5 H5 σ5 ρ5) : Sep K B C5 H5 σ5 ρ5 ∧ Same C3 C5 :=
  ⟨⟨z.cold, z.len, z.sl, z.ne, gr.trans z.grow, fun a o e n => (match q : C3 a with
      | none => z.new a o e q
      | some u => nw a u q n), z.dom, z.keep, z.loc, z.lob, z.par, z.pz⟩, z.grow⟩
theorem Sep.rebase {B : Bs} {C H : Hp} {σ : L2.St} {ρ : List Sl} (S : Sep K B C H σ ρ) : Sep K ⟨C, B.H0, B.bx⟩ C H σ ρ :=
  ⟨S.cold, S.len, S.sl, S.ne, Same.refl _, fun a o e n => (by rw [show C a = none from n] at e; cases e), S.dom, S.keep, S.loc, S.lob, S.par, S.pz⟩
def wForX (wi : WI) (wg : WG) (wb : WSX) : WSX := fun ρ Φ Ξ => wi ρ fun items ρ1 => ∃ I : Nat → List Sl → Prop, To (I 0) ρ1 ∧
  (∀ k ρ d, items[k]? = some d → I k ρ → wg d ρ fun ρ2 => wb ρ2 { Φ with nx := To (I (k + 1)), ct := To (I (k + 1)), bk := Φ.nx } Ξ) ∧ ∀ ρ, I items.length ρ → Φ.nx ρ
instance xs_for {W : WX} {ti : TI} {g : TG} {tb : TS} {wi : WI} {wg : WG} {wb : WSX} [i : Si K ti wi] [a : Sg K g wg] [b : Xs K W tb wb] : Xs K W (tFor ti g tb) (wForX wi wg wb) where
  run B C H σ ρ D Φ Ξ S h m mx := i.run B C H σ ρ _ _ S h fun C1 H1 J items ρ1 S1 s1 hJ h1 => by
    obtain ⟨I, ⟨ρ0, w0, i0⟩, step, fin⟩ := h1
    refine ⟨fun k n σ2 H2 => n = items.length - k ∧ k ≤ items.length ∧ ∃ C2 ρ2, Sep K B C2 H2 σ2 ρ2 ∧ Same C1 C2 ∧ I k ρ2, ⟨_, rfl, Nat.zero_le _, C1, ρ0, S1.weak w0, Same.refl _, i0⟩, ?_⟩
    rintro k n σ2 H2 ⟨rfl, hk, C2, ρ2, S2, s2, hI⟩
    obtain ⟨go, stop, yld⟩ := hJ B C2 H2 σ2 ρ2 S2 s2
    by_cases hlt : k < items.length
    · refine .inr ⟨go k hlt, fun σ3 H3 => ∃ C3 ρ3, Sep K B C3 H3 σ3 ρ3 ∧ Same C1 C3 ∧ I (k + 1) ρ3, fun σ3 H3 ⟨C3, ρ3, S3, s3, h3⟩ => ⟨items.length - (k + 1), by omega, rfl, hlt, C3, ρ3, S3, s3, h3⟩, fun x H' y => ?_⟩
      obtain ⟨C3, S3, s3, r3⟩ := yld k x H' items[k] (List.getElem?_eq_getElem hlt) y
      have st := step k ρ2 _ (List.getElem?_eq_getElem hlt) hI
      refine a.run B C3 H' σ2 ρ2 _ _ _ _ S3 r3 st fun σ4 ρ4 S4 h4 => ?_
      have keep : ∀ C5 H5 σ5 ρ5, Sep K ⟨C3, B.H0, B.bx⟩ C5 H5 σ5 ρ5 → Sep K B C5 H5 σ5 ρ5 ∧ Same C1 C5 := fun C5 H5 σ5 ρ5 z =>
        ⟨(sep_back S3.grow S3.new z).1, (s2.trans s3).trans z.grow⟩
      refine b.run ⟨C3, B.H0, B.bx⟩ C3 H' σ4 ρ4 _ _ Ξ S4.rebase h4 ⟨fun C5 H5 σ5 ρ5 z h5 => ?_, fun C5 H5 σ5 ρ5 v r z ok h5 => ?_, fun C5 H5 σ5 ρ5 z h5 => ?_, fun C5 H5 σ5 ρ5 z h5 => ?_⟩ fun C5 H5 σ5 ρ5 cls dd c d z ex h5 => mx C5 H5 σ5 ρ5 cls dd c d (keep _ _ _ _ z).1 ex h5
      · obtain ⟨ρ6, w6, h6⟩ := h5
        exact ⟨C5, ρ6, (keep _ _ _ _ z).1.weak w6, (keep _ _ _ _ z).2, h6⟩
      · refine m.rt _ _ _ _ v r (keep _ _ _ _ z).1 ?_ h5
        cases r with
        | dat d => exact ok
        | new ds => exact ok
      · exact m.nx _ _ _ _ (keep _ _ _ _ z).1 h5
      · obtain ⟨ρ6, w6, h6⟩ := h5
        exact ⟨C5, ρ6, (keep _ _ _ _ z).1.weak w6, (keep _ _ _ _ z).2, h6⟩
    · have e : k = items.length := by omega
      subst e
      exact .inl ⟨stop, m.nx _ _ _ _ S2 (fin _ hI)⟩
/-! raising calls -/
section
variable {B : Bs} {C H : Hp} {σ : L2.St} {ρ : List Sl}
end
def tCallNS (n m : Nat) (sp : Sp) (gV : List V → List V → List V) (E : L2.St → XK) (t tk : TA) : TE := fun σ H Q => t σ H fun vs H1 => tk σ H1 fun zs H2 => vs.length = n ∧ zs.length = m ∧ sp (gV vs zs) H2 Q (E σ)
section
variable {X : Cx} {CX : CXT} {k n : Nat} {f : Addr} {fd : FuncData} {ps ks : List Str} {sp : Sp} {E : L2.St → XK} {x : Str} {p pos : Pos} {e : Expr} {es : List Expr} {kws : List Keyword} {t tk : TA} {g : List Value → List Value → List Value} {gV : List V → List V → List V}
theorem run_fnNS {pins : List (Addr × Obj)} {σ : L2.St} {H : Hp} {s : Shared} {Q : VK} {us ws : List Value} {vs zs : List V} (F : FnOk X.prog X.w X.K X.mg X.base CX k f fd ps sp) (hr : Room k X.A) (hb : KBn X.K fd ps n ks g gV) (hx : PassesAt CX X σ (E σ))
    (I : Inv X pins σ H s) (r : Vals vs us) (rz : Vals zs ws) (l1 : vs.length = n) (l2 : zs.length = ks.length) (h : sp (gV vs zs) H Q (E σ)) : wpAny (model X.prog X.w) X.A (call (.ref f) us (ks.zip ws)) (EP X pins σ Q) X.xe s := by
  have r2 := hb.rel r rz
  refine wpAny_call (codeAny_mono (F.run X.A X.stack s H ⟨us, ks.zip ws⟩ (g us ws) (gV vs zs) Q (E σ) hr I.env0 (hb.to s us ws I.kIn (r.length.symm.trans l1) (rz.length.symm.trans l2)) r2 h) fun r s' hq => ?_)
  cases r with
  | error e => exact hx pins H s e s' I hq
  | ok fl =>
    cases fl with
    | ret u => exact I.after hq
    | next => exact False.elim hq
    | brk => exact False.elim hq
    | cont => exact False.elim hq
theorem pe_callNS (F : FnOk X.prog X.w X.K X.mg X.base CX k f fd ps sp) (hr : Room k X.A) (hg : Gl X x) (hm : X.mg x = some (.ref f)) (hk : PySem.W.keepIn X.K (.ref f) = true) (hb : KBn X.K fd ps n ks g gV) (hx : ∀ σ, PassesAt CX X σ (E σ))
    (ha : PA X (e :: es) t) (hkw : PK X kws tk) (hall : (backToKw pos (keywordEach kws X.env)).all (·.1.isSome) = true := by rfl) (hks : (backToKw pos (keywordEach kws X.env)).filterMap (·.1) = ks := by rfl)
    (hdb : (x == ("__debug__" : Str)) = false := by decide) (he : starEach (e :: es) X.env = (false, eval e X.env) :: starEach es X.env := by rfl)
    (hpl : ((backTo pos (starEach (e :: es) X.env)).any (·.1) || (backToKw pos (keywordEach kws X.env)).any (·.1.isNone)) = false := by rfl) :
    PE X (.Call (.Name x p) (e :: es) kws pos) (tCallNS n ks.length sp gV E t tk) := by
  refine ⟨fun pins s σ H Q I h => ?_⟩
  refine wpAny_Call_Name_kw (ld_glob I hg hm ?_ hdb)
  refine PySem.W.callWith_KW (h₀ := X.base) I.ok.mod.kin hk hall (thn (ha.run pos pins s σ H _ I h) fun us s1 ⟨vs, H1, I1, r, q⟩ => ?_) hpl he
  refine thn (hkw.run pos pins s1 σ H1 _ I1 q) fun ws s2 ⟨zs, H2, I2, rz, l1, l2, q2⟩ => ⟨I2.kIn, ?_⟩
  rw [hks]
  exact run_fnNS F hr hb (hx σ) I2 r rz l1 l2 q2
end
end
section
variable {P : Program} {w : World} {K : PySem.W.Frag} {mg : Str → Option Value} {base : Heap}
local macro_rules | `(tactic| get_elem_tactic_trivial) => `(tactic| (repeat first | exact Wk.nil | exact Wk'.nil | refine Wk.same ?_ | refine Wk'.same ?_ | refine Wk.un (fun _ z => nomatch z) ?_ | refine Wk'.un ?_))
section
variable {B : Bs} {C H : Hp} {σ : L2.St} {ρ : List Sl}
end
/-! the same where it doesn't raise -/
/-! new lists of raising calls stay changeable -/
end
section
variable {P : Program} {w : World} {K : PySem.W.Frag} {mg : Str → Option Value} {base : Heap}
local macro_rules | `(tactic| get_elem_tactic_trivial) => `(tactic| (repeat first | exact Wk.nil | exact Wk'.nil | refine Wk.same ?_ | refine Wk'.same ?_ | refine Wk.un (fun _ z => nomatch z) ?_ | refine Wk'.un ?_))
/-! raise C(e) -/
def tRaiseD (C : Addr) (ta : TA) (W : WX) : TS := fun _ σ H => ta σ H fun vs H1 => ∃ v, vs = [v] ∧ ∀ d : Addr, H1 d = none → W (.ref C) (some d) σ (upd H1 d (.xd [(("what" : Str), v)]))
theorem err_letD {H1 : Hp} {a C d : Addr} {v : V} (ha : H1 a = none) (hd : (upd H1 a (exo a C none)) d = none) (ne : d ≠ a) :
    H1 d = none ∧ upd (del (upd (upd (upd H1 a (exo a C none)) d (exd d [(("what" : Str), v)])) a (exo a C (some d))) a) d (.xd [(("what" : Str), v)]) = upd H1 d (.xd [(("what" : Str), v)]) := by
  rw [upd_ne ne] at hd
  refine ⟨hd, funext fun b => ?_⟩
  by_cases h1 : b = d
  · rw [h1, upd_same, upd_same]
  · rw [upd_ne h1, upd_ne h1]
    by_cases h2 : b = a
    · rw [h2, del_same, ha]
    · rw [del_ne h2, upd_ne h2, upd_ne h1, upd_ne h2]
section
variable {X : Cx} {x : Str} {C fI : Addr} {k : Nat} {fd : FuncData} {p pos : Pos}
def tMkD (C : Addr) (ta : TA) : L2.St → Hp → XK → Prop := fun σ H Q => ta σ H fun vs H1 => ∃ v, vs = [v] ∧ ∀ d : Addr, H1 d = none → Q (.ref C) (some d) (upd H1 d (.xd [(("what" : Str), v)]))
theorem pmk_errD {e : Expr} {ta : TA} (T : ECl X.K C fI) (F1 : FnOk X.prog X.w X.K X.mg X.base CX0 k fI fd ["self", "what"] (spInitE X.K)) (hr : Room (k + 1) X.A) (hb : Binds X.K fd ["self", "what"] []) (hg : Gl X x) (hm : X.mg x = some (.ref C)) (ha : PA X [e] ta)
    (h1 : (x == ("__debug__" : Str)) = false := by decide) (h2 : starEach [e] X.env = (false, eval e X.env) :: starEach [] X.env := by rfl) (h3 : (backTo pos (starEach [] X.env)).any (·.1) = false := by rfl) :
    L2N.PMk X (.Call (.Name x p) [e] [] pos) (tMkD C ta) := by
  intro pins s σ H Q I h
  obtain ⟨nm, q, N, bs, bm, sn, sub, ab, col, dd, k0, k1, k2, k3, k5, hC, hbm⟩ := T.ox.cls
  refine wpAny_Call_Name_kw (ld_glob I hg hm ?_ h1)
  refine PySem.W.callWith_K (h₀ := X.base) I.ok.mod.kin T.ox.kC (thn (ha.run pos pins s σ H _ I h) fun us s1 ⟨vs, H1, I1, r1, v, ev, q1⟩ => ⟨I1.kIn, ?_⟩) h2 h3
  subst ev
  obtain ⟨u, rfl, ru⟩ := vals1 r1
  show wpAny _ _ (call (.ref C) [u]) _ _ _
  obtain ⟨hp, g, dr, tk, os⟩ := s1
  have hn : H1 (hp.objs.size + 1) = none := I1.hok.fresh (Nat.le_succ _)
  have grow : ∀ b o, hp.get? b = some o → ((hp.push (PySem.W.kdv_tup [u])).push (HandSPX.excO C hp.objs.size)).get? b = some o := fun b o e => Heap.get?_push_of_some _ (Heap.get?_push_of_some _ e)
  have new : ((hp.push (PySem.W.kdv_tup [u])).push (HandSPX.excO C hp.objs.size)).get? (hp.objs.size + 1) = some (HandSPX.excO C hp.objs.size) := by heap_get
  have I2 : Inv X pins σ (upd H1 (hp.objs.size + 1) (exo (hp.objs.size + 1) C none)) ⟨(hp.push (PySem.W.kdv_tup [u])).push (HandSPX.excO C hp.objs.size), g, dr, tk, os⟩ := I1.laid (t' := tk) grow (Nat.le_succ _) (exo_ok new)
  have r2 : Vals [V.ref (hp.objs.size + 1), v] [Value.ref (hp.objs.size + 1), u] := .cons rfl (.cons ru .nil)
  refine wpAny_call (HandSPX.call_own F.excBase_ValueError (fun Y => HandSPX.refsVE_contains Y bm hbm) (I1.kIn _ _ hC) (PySem.W.looks_findIn I1.kIn T.ini) (fun self => PySem.W.bind_fn I1.kIn self T.fty) (by rw [sizeLine_eq]; show 1 ≤ 16777216; decide)
    (codeAny_mono (F1.run _ X.stack _ _ ⟨[Value.ref (hp.objs.size + 1), u], []⟩ [Value.ref (hp.objs.size + 1), u] _
      (fun w' G => w' = .non ∧ ∃ d : Addr, G (hp.objs.size + 1) = some (exo (hp.objs.size + 1) C (some d)) ∧ G d = some (exd d [(("what" : Str), v)]) ∧ H1 d = none ∧ Q (.ref C) (some d) (upd (del G (hp.objs.size + 1)) d (.xd [(("what" : Str), v)])))
      (fun _ _ _ => False) (hr.make C [u] []) (I2.env0.make C [u] []) (hb _ _ I2.kIn rfl) r2 ⟨_, C, fI, v, rfl, upd_same, T, fun d hd ne => ⟨rfl, d, upd_same, ?_, ?_⟩⟩) fun r s' hq' => ?_))
  · rw [upd_ne ne, upd_same]
  · obtain ⟨a1, a2⟩ := err_letD (C := C) (v := v) hn hd ne
    refine ⟨a1, ?_⟩
    rw [a2]
    exact q1 d a1
  · cases r with
    | error er => exact hq'.elim
    | ok fl =>
      cases fl with
      | ret w' =>
        obtain ⟨v2, H2, o2, b2, un2, ok2, rv, ev, d, ea, ed, hd1, q2⟩ := hq'
        subst ev
        obtain ⟨h2, g2, d2, t2, os'⟩ := s'
        obtain ⟨t0, G, J, kG, ge, hoe, na⟩ := mk_end0 (d2 := d2) (t2 := t2) I1 (Nat.le_succ _) grow un2 ok2 o2 b2 ea ed hd1
        exact ⟨rv, hp.objs.size + 1, _, _, ⟨G, g2, d2, t2, os'⟩, _, .ref C, some d, rfl, J, kG, ge, hoe, ⟨rfl, rfl, fun ws hv => by cases hv; rfl⟩, rfl, rfl, na, rfl, b2, raises_own T.ox.exC T.ox.tyC, q2⟩
      | next => exact hq'.elim
      | brk => exact hq'.elim
      | cont => exact hq'.elim
theorem ps_raiseD {W : WX} {e : Expr} {ta : TA} {pos : Pos} (hc : X.calm = true) (tk : L2N.Takes X W) (he : L2N.PMk X e (tMkD C ta)) : PS X (.Raise (some e) none pos) (tRaiseD C ta W) := L2N.ps_raise hc tk he
end
def wRaise (K : PySem.W.Frag) (C : Addr) (wa : WA) : WSX := fun ρ Φ Ξ => wa ρ fun as ρ1 => match as with
  | [.d d] => ∃ c : Str, C = He.ga K c ∧ Ξ c d ρ1
  | _ => False
instance xs_raise {W : WX} {Cl : Addr} {ta : TA} {wa : WA} [a : Sa K ta wa] : Xs K W (tRaiseD Cl ta W) (wRaise K Cl wa) where
  run B C H σ ρ D Φ Ξ S h m mx := a.run B C H σ ρ _ _ S h fun C1 H1 vs as ρ1 S1 s1 ok1 h1 => by
    cases ok1 with
    | nil => exact False.elim h1
    | @cons v vs x as o1 o2 =>
      cases x with
      | b i => cases as <;> exact False.elim h1
      | d x =>
        cases o2 with
        | cons _ _ => exact False.elim h1
        | nil =>
          obtain ⟨c, rfl, z⟩ := h1
          refine ⟨v, rfl, fun dd hd => ?_⟩
          have cd : C1 dd = none := S1.cold.free hd
          exact mx _ _ _ _ _ _ _ _ (S1.alloc (o := .xd [(("what" : Str), v)]) hd) ⟨rfl, dd, v, rfl, upd_same, Rp.same o1 (same_new cd)⟩ z
/-! a def's body that may raise -/
end
section
variable {P : Program} {w : World} {K : PySem.W.Frag} {mg : Str → Option Value} {base : Heap}
local macro_rules | `(tactic| get_elem_tactic_trivial) => `(tactic| (repeat first | exact Wk.nil | exact Wk'.nil | refine Wk.same ?_ | refine Wk'.same ?_ | refine Wk.un (fun _ z => nomatch z) ?_ | refine Wk'.un ?_))
/-! a def whose errors' contexts are none is one that raises -/
theorem FnOk.nl {k : Nat} {f : Addr} {fd : FuncData} {ps : List Str} {sp : Sp} (F : FnOk P w K mg base (L2N.CX P w) k f fd ps sp) : FnOk P w K mg base (L2.CX P w) k f fd ps sp := by
  refine ⟨F.len, fun A outer s H args us vs Q E hr h0 b r h => codeAny_mono (F.run A outer s H args us vs Q E hr h0 b r h) fun r s' q => ?_⟩
  cases r with
  | ok fl => cases fl <;> exact q
  | error e =>
    obtain ⟨a, B, H', cls, d, e1, fl, rest⟩ := q
    exact ⟨a, B, H', cls, d, e1, ⟨fl.1, fl.2.1, fl.2.2.1, by obtain ⟨oe, vs, T, oT, tt, he, hz, r2⟩ := fl.2.2.2; exact ⟨oe, vs, T, oT, tt, he, hz.zc, r2⟩⟩, rest⟩
end
section
variable {P : Program} {w : World} {K : PySem.W.Frag} {mg : Str → Option Value} {base : Heap}
local macro_rules | `(tactic| get_elem_tactic_trivial) => `(tactic| (repeat first | exact Wk.nil | exact Wk'.nil | refine Wk.same ?_ | refine Wk'.same ?_ | refine Wk.un (fun _ z => nomatch z) ?_ | refine Wk'.un ?_))
/-! try .. except .. as .. -/
def tTry (K : PySem.W.Frag) (c : Value) (i : Nat) (tb : WX → TS) (ts : Addr → Value → Option Addr → TS) (Wo : WX) : TS := fun D r G => tb (kpX K c i ts Wo D) D r G
class Su (K : PySem.W.Frag) (i : Nat) (ts : Addr → Value → Option Addr → TS) (w : outParam (Str → Dt → WS)) : Prop where
  run : ∀ (B : Bs) (C G : Hp) (σ : L2.St) (ρ : List Sl) (D : Ends) (Φ : Fs) (a : Addr) (cls : Value) (dd : Option Addr) (c : Str) (d : Dt), Sep K B C G σ ρ → G a = none → ExAt K C cls dd c d → w c d ρ Φ → Meets K B Φ D → ts a cls dd (keepD D i a cls dd) (σ.set i (some (.ref a))) G
def wSuKeep (i j : Nat) : Str → Dt → WS := fun c d ρ Φ => (i ≠ j ∧ i < ρ.length) ∧ put i .un ρ fun ρ1 => put j (.dat (.err c d)) ρ1 Φ.nx
instance su_keep {i j : Nat} : Su K i (fun _ _ _ => tAsg (tVar i) (gName j)) (wSuKeep i j) where
  run B C G σ ρ D Φ a cls dd c d S ha ex h m := by
    obtain ⟨⟨ne, lr⟩, h⟩ := h
    obtain ⟨p1, h⟩ := put_run h
    obtain ⟨p2, h⟩ := put_run h
    obtain ⟨rfl, b, v, rfl, hb, rv⟩ := ex
    have ca : C a = none := S.cold.free ha
    have S1 := S.alloc (o := exv a (.ref (He.ga K c)) (some b)) ha
    have sC := same_new (o := exv a (.ref (He.ga K c)) (some b)) ca
    have S2 := S1.un (i := i) (x := none) p1
    have S3 := S2.dat (i := j) (v := .ref a) (d := .err c d) p2 (.err upd_same (sC _ _ hb) (rv.same sC))
    have li : i < σ.length := by
      rw [S.len]
      exact lr
    refine ⟨.ref a, set_at li, ?_⟩
    show D.nx (((σ.set i (some (.ref a))).set j (some (.ref a))).set i none) _
    rw [List.set_comm _ _ (Ne.symm ne), List.set_set]
    exact m.nx _ _ _ _ S3 h
/-! isinstance and what of caught errors -/
def IsEv (K : PySem.W.Frag) (c : Str) (cv : V) (b : Bool) : Prop := ∃ (fI : Addr) (u : Value), ClsV cv u ∧ ECl K (He.ga K c) fI ∧ PySem.W.kitOne K (.ref (He.ga K c)) u = some b
theorem caught_of {C H : Hp} {v : V} {c : Str} {d : Dt} (s : Same C H) (h : Rp K C v (.err c d)) : ∃ (a : Addr) (w : V), v = .ref a ∧ Caught H a (He.ga K c) w ∧ Rp K C w d := by
  cases h with
  | err h1 h2 h3 => exact ⟨_, _, rfl, ⟨_, _, s _ _ h1, s _ _ h2, by simp [List.lookup]⟩, h3⟩
def wIsC (K : PySem.W.Frag) (cv : V) (wa : WE) : WE := fun ρ Ψ => wa ρ fun r ρ1 => match r with
  | .dat (.err c d) => ∃ b, IsEv K c cv b ∧ Ψ (.dat (.bl b)) ρ1
  | _ => False
instance (priority := 1200) sd_isC {cv : V} {ta : TE} {wa : WE} [a : Sd K ta wa] : Sd K (tCB (rIsC K) (tCons ta (tCons (tC cv) tNil))) (wIsC K cv wa) where
  run B C H σ ρ Q Ψ S h k := a.run B C H σ ρ _ _ S h fun C1 H1 v1 r1 ρ1 S1 s1 ok1 h1 => by
    cases r1 with
    | hot i ds => exact False.elim h1
    | box i n => exact False.elim h1
    | dat x =>
      cases x <;> try exact False.elim h1
      rename_i c d
      obtain ⟨b, ⟨fI, u, hc, T, hk⟩, z⟩ := h1
      obtain ⟨a, w, rfl, hA, _⟩ := caught_of S1.cold ok1
      exact ⟨a, _, fI, w, cv, u, b, rfl, hc, hA, T, hk, k _ _ _ (.dat (.bl b)) _ S1 s1 (.bl b) z⟩
def wWhat (K : PySem.W.Frag) (wa : WE) : WE := fun ρ Ψ => wa ρ fun r ρ1 => match r with
  | .dat (.err c d) => (∃ fI, ECl K (He.ga K c) fI) ∧ Ψ (.dat d) ρ1
  | _ => False
instance sd_what {ta : TE} {wa : WE} [a : Sd K ta wa] : Sd K (tWhatC K ta) (wWhat K wa) where
  run B C H σ ρ Q Ψ S h k := a.run B C H σ ρ _ _ S h fun C1 H1 v1 r1 ρ1 S1 s1 ok1 h1 => by
    cases r1 with
    | hot i ds => exact False.elim h1
    | box i n => exact False.elim h1
    | dat x =>
      cases x <;> try exact False.elim h1
      rename_i c d
      obtain ⟨⟨fI, T⟩, z⟩ := h1
      obtain ⟨a, w, rfl, hA, rw⟩ := caught_of S1.cold ok1
      exact ⟨a, _, fI, w, rfl, hA, T, k _ _ _ (.dat d) _ S1 s1 rw z⟩
theorem isE {root : Str} {cs : List Str} (h : errOk K root cs = true) {c e : Str} (hc : c ∈ cs) (he : e ∈ cs) : IsEv K c (.ref (He.ga K e)) (decide (e = c) || decide (e = root)) := ⟨_, _, .own _, err_cl h hc, err_is h hc he⟩
theorem isV {root : Str} {cs : List Str} (h : errOk K root cs = true) {c : Str} (hc : c ∈ cs) : IsEv K c (.ty "ValueError") true := ⟨_, _, .ty _, err_cl h hc, err_ve h hc⟩

end
section
variable {P : Program} {w : World} {K : PySem.W.Frag} {mg : Str → Option Value} {base : Heap}
local macro_rules | `(tactic| get_elem_tactic_trivial) => `(tactic| (repeat first | exact Wk.nil | exact Wk'.nil | refine Wk.same ?_ | refine Wk'.same ?_ | refine Wk.un (fun _ z => nomatch z) ?_ | refine Wk'.un ?_))
/-! xs[i], xs[j] = a, b -/
/-! xs.pop(i), what it tells -/
/-! raising defs that tell new lists -/
/-! new lists that a raising call tells stay changeable -/

end
section
variable {P : Program} {w : World} {K : PySem.W.Frag} {mg : Str → Option Value} {base : Heap}
local macro_rules | `(tactic| get_elem_tactic_trivial) => `(tactic| (repeat first | exact Wk.nil | exact Wk'.nil | refine Wk.same ?_ | refine Wk'.same ?_ | refine Wk.un (fun _ z => nomatch z) ?_ | refine Wk'.un ?_))
/-! either raising call -/
/-! a def that tells a new list or another thing -/
def slotOf : Ro → Sl
  | .new ds => .hot ds
  | .dat d => .dat d

end
section
variable {P : Program} {w : World} {K : PySem.W.Frag} {mg : Str → Option Value} {base : Heap}
local macro_rules | `(tactic| get_elem_tactic_trivial) => `(tactic| (repeat first | exact Wk.nil | exact Wk'.nil | refine Wk.same ?_ | refine Wk'.same ?_ | refine Wk.un (fun _ z => nomatch z) ?_ | refine Wk'.un ?_))
/-! list(range(n)) -/

end
section
variable {P : Program} {w : World} {K : PySem.W.Frag} {mg : Str → Option Value} {base : Heap}
local macro_rules | `(tactic| get_elem_tactic_trivial) => `(tactic| (repeat first | exact Wk.nil | exact Wk'.nil | refine Wk.same ?_ | refine Wk'.same ?_ | refine Wk.un (fun _ z => nomatch z) ?_ | refine Wk'.un ?_))
/-! either of two new lists -/

end
section
variable {P : Program} {w : World} {K : PySem.W.Frag} {mg : Str → Option Value} {base : Heap}
local macro_rules | `(tactic| get_elem_tactic_trivial) => `(tactic| (repeat first | exact Wk.nil | exact Wk'.nil | refine Wk.same ?_ | refine Wk'.same ?_ | refine Wk.un (fun _ z => nomatch z) ?_ | refine Wk'.un ?_))
/-! methods that tell new lists -/
end
section
variable {P : Program} {w : World} {K : PySem.W.Frag} {mg : Str → Option Value} {base : Heap}
local macro_rules | `(tactic| get_elem_tactic_trivial) => `(tactic| (repeat first | exact Wk.nil | exact Wk'.nil | refine Wk.same ?_ | refine Wk'.same ?_ | refine Wk.un (fun _ z => nomatch z) ?_ | refine Wk'.un ?_))
/-! C(.., k=..): a thing made, its fields reckoned -/
/-! reading on heaps, over defs read on data -/
end
section
variable {P : Program} {w : World} {K : PySem.W.Frag} {mg : Str → Option Value} {base : Heap}
local macro_rules | `(tactic| get_elem_tactic_trivial) => `(tactic| (repeat first | exact Wk.nil | exact Wk'.nil | refine Wk.same ?_ | refine Wk'.same ?_ | refine Wk.un (fun _ z => nomatch z) ?_ | refine Wk'.un ?_))
/-! zip of two lists, or of two tuples -/
def iZipB (K : PySem.W.Frag) (ta : TA) : TI := RZ.iZipA K ta
def wiZipB (wa : WA) : WI := fun ρ Ψ => wa ρ fun as ρ1 => match as with
  | [.d (.tup ds), .d (.tup es)] => Ψ (zipD ds es) ρ1
  | [.d (.lst ds), .d (.lst es)] => Ψ (zipD ds es) ρ1
  | _ => False
theorem wiZipB_run {as : List Ar} {k : List Dt → Prop} (h : match as with | [.d (.tup ds), .d (.tup es)] => k (zipD ds es) | [.d (.lst ds), .d (.lst es)] => k (zipD ds es) | _ => False) : ∃ ds es, (as = [.d (.tup ds), .d (.tup es)] ∨ as = [.d (.lst ds), .d (.lst es)]) ∧ k (zipD ds es) := by
  split at h
  · exact ⟨_, _, .inl rfl, h⟩
  · exact ⟨_, _, .inr rfl, h⟩
  · exact h.elim
instance si_zipB {ta : TA} {wa : WA} [a : Sa K ta wa] : Si K (iZipB K ta) (wiZipB wa) where
  run B C H σ ρ R Ψ S h k := by
    refine a.run B C H σ ρ _ _ S h fun C1 H1 vs as ρ1 S1 s1 ok1 h1 => ?_
    obtain ⟨ds, es, e0, h1⟩ := wiZipB_run (k := fun l => Ψ l ρ1) h1
    rcases e0 with rfl | rfl
    · match ok1 with
      | .cons r (.cons r2 .nil) =>
        cases r with
        | @tup c xs _ hs rl =>
        cases r2 with
        | @tup c2 ys _ hs2 rl2 =>
          refine ⟨c, c2, _, _, rfl, .inr ⟨seqT_same S1.cold hs, seqT_same S1.cold hs2, k _ _ _ _ _ S1 s1 (fun B3 C3 H3 σ3 ρ3 S3 s3 => ?_) h1⟩⟩
          have q := seqT_same S3.cold (seqT_same s3 hs)
          have q2 := seqT_same S3.cold (seqT_same s3 hs2)
          have lq := rl.len
          have lq2 := rl2.len
          rw [zipD_len]
          refine ⟨fun i hi => ⟨xs, ys, xs[i], ys[i], q, q2, by simp [show i < xs.length by omega], by simp [show i < ys.length by omega]⟩, ⟨xs, ys, q, q2, by omega⟩, fun i y H' d hd yl => ?_⟩
          obtain ⟨T, x, y, rfl, hT, rfl, yl, yl2⟩ := yl
          have e := yl xs q
          have e2 := yl2 ys q2
          obtain ⟨d', hd', r'⟩ := rl.at e
          obtain ⟨d2', hd2', r2'⟩ := rl2.at e2
          obtain ⟨dx, dy, hx, hy, rfl⟩ := zipD_at hd
          rw [hx] at hd'
          rw [hy] at hd2'
          cases hd'
          cases hd2'
          have sC : Same C3 (upd C3 T (.tup [x, y])) := same_new (S3.cold.free hT)
          exact ⟨upd C3 T (.tup [x, y]), S3.alloc hT, sC, .tup (.inl (.inl upd_same)) (.cons ((r'.same s3).same sC) (.cons ((r2'.same s3).same sC) .nil))⟩
    · match ok1 with
      | .cons r (.cons r2 .nil) =>
        cases r with
        | @lst c xs _ hs rl =>
        cases r2 with
        | @lst c2 ys _ hs2 rl2 =>
          refine ⟨c, c2, _, _, rfl, .inl ⟨SqL.of (S1.cold _ _ hs), SqL.of (S1.cold _ _ hs2), k _ _ _ _ _ S1 s1 (fun B3 C3 H3 σ3 ρ3 S3 s3 => ?_) h1⟩⟩
          have q : SqL K H3 c xs := SqL.of (S3.cold _ _ (s3 _ _ hs))
          have q2 : SqL K H3 c2 ys := SqL.of (S3.cold _ _ (s3 _ _ hs2))
          have lq := rl.len
          have lq2 := rl2.len
          rw [zipD_len]
          refine ⟨fun i hi => ⟨xs, ys, xs[i], ys[i], q, q2, by simp [show i < xs.length by omega], by simp [show i < ys.length by omega]⟩, ⟨xs, ys, q, q2, by omega⟩, fun i y H' d hd yl => ?_⟩
          obtain ⟨T, x, y, rfl, hT, rfl, yl, yl2⟩ := yl
          have e := yl xs q
          have e2 := yl2 ys q2
          obtain ⟨d', hd', r'⟩ := rl.at e
          obtain ⟨d2', hd2', r2'⟩ := rl2.at e2
          obtain ⟨dx, dy, hx, hy, rfl⟩ := zipD_at hd
          rw [hx] at hd'
          rw [hy] at hd2'
          cases hd'
          cases hd2'
          have sC : Same C3 (upd C3 T (.tup [x, y])) := same_new (S3.cold.free hT)
          exact ⟨upd C3 T (.tup [x, y]), S3.alloc hT, sC, .tup (.inl (.inl upd_same)) (.cons ((r'.same s3).same sC) (.cons ((r2'.same s3).same sC) .nil))⟩
end
section
variable {P : Program} {w : World} {K : PySem.W.Frag} {mg : Str → Option Value} {base : Heap}
local macro_rules | `(tactic| get_elem_tactic_trivial) => `(tactic| (repeat first | exact Wk.nil | exact Wk'.nil | refine Wk.same ?_ | refine Wk'.same ?_ | refine Wk.un (fun _ z => nomatch z) ?_ | refine Wk'.un ?_))
/-! a new list that is only read from here on -/

end
section
variable {P : Program} {w : World} {K : PySem.W.Frag} {mg : Str → Option Value} {base : Heap}
local macro_rules | `(tactic| get_elem_tactic_trivial) => `(tactic| (repeat first | exact Wk.nil | exact Wk'.nil | refine Wk.same ?_ | refine Wk'.same ?_ | refine Wk.un (fun _ z => nomatch z) ?_ | refine Wk'.un ?_))
/-! try .. except C: raise D(..) from None, over data -/
end
section
variable {P : Program} {w : World} {K : PySem.W.Frag} {mg : Str → Option Value} {base : Heap}
local macro_rules | `(tactic| get_elem_tactic_trivial) => `(tactic| (repeat first | exact Wk.nil | exact Wk'.nil | refine Wk.same ?_ | refine Wk'.same ?_ | refine Wk.un (fun _ z => nomatch z) ?_ | refine Wk'.un ?_))
/-! divmod -/
end
section
variable {P : Program} {w : World} {K : PySem.W.Frag} {mg : Str → Option Value} {base : Heap}
local macro_rules | `(tactic| get_elem_tactic_trivial) => `(tactic| (repeat first | exact Wk.nil | exact Wk'.nil | refine Wk.same ?_ | refine Wk'.same ?_ | refine Wk.un (fun _ z => nomatch z) ?_ | refine Wk'.un ?_))
/-! things put together whose parts may raise -/
/-- as xd_sd, by a word (so it is found behind ∀ W) -/
def liftD (w : WE) : WEX := fun ρ Ψ _ => w ρ Ψ
instance (priority := 90) xd_sdL {W : WX} {t : TE} {w : WE} [a : Sd K t w] : Xd K W t (liftD w) := ⟨(xd_sd (K := K) (W := W) (t := t) (w := w)).run⟩
def liftS (w : WS) : WSX := fun ρ Φ _ => w ρ Φ
instance (priority := 90) xs_ssL {W : WX} {t : TS} {w : WS} [a : Ss K t w] : Xs K W t (liftS w) := ⟨(xs_ss (K := K) (W := W) (t := t) (w := w)).run⟩
end
section
variable {P : Program} {w : World} {K : PySem.W.Frag} {mg : Str → Option Value} {base : Heap}
local macro_rules | `(tactic| get_elem_tactic_trivial) => `(tactic| (repeat first | exact Wk.nil | exact Wk'.nil | refine Wk.same ?_ | refine Wk'.same ?_ | refine Wk.un (fun _ z => nomatch z) ?_ | refine Wk'.un ?_))
/-! a new drawer and another thing at once -/

end
section
variable {P : Program} {w : World} {K : PySem.W.Frag} {mg : Str → Option Value} {base : Heap}
local macro_rules | `(tactic| get_elem_tactic_trivial) => `(tactic| (repeat first | exact Wk.nil | exact Wk'.nil | refine Wk.same ?_ | refine Wk'.same ?_ | refine Wk.un (fun _ z => nomatch z) ?_ | refine Wk'.un ?_))
/-! level 2: lists that are changed wherever they stand, by their addresses -/
abbrev Mu := List (Addr × List Dt)
def Bs.hang (B : Bs) (U : Hp) : Bs := ⟨B.C0, fun a => match U a with | some o => some o | none => B.H0 a, B.bx⟩
section
variable {B : Bs} {C H U : Hp} {σ : L2.St} {ρ : List Sl} {μ : Mu}
theorem hang_at {a : Addr} {o : HO} (h : U a = some o) : (B.hang U).H0 a = some o := by
  show (match U a with | some o => some o | none => B.H0 a) = _
  rw [h]
theorem hang_off {a : Addr} (h : U a = none) : (B.hang U).H0 a = B.H0 a := by
  show (match U a with | some o => some o | none => B.H0 a) = _
  rw [h]
theorem hang_no {a : Addr} (h : (B.hang U).H0 a = none) : U a = none ∧ B.H0 a = none := by
  cases q : U a with
  | some o => rw [hang_at q] at h; cases h
  | none => rw [hang_off q] at h; exact ⟨rfl, h⟩
theorem hang_nil : B.hang (fun _ => none) = B := rfl
end

end
section
variable {P : Program} {w : World} {K : PySem.W.Frag} {mg : Str → Option Value} {base : Heap}
local macro_rules | `(tactic| get_elem_tactic_trivial) => `(tactic| (repeat first | exact Wk.nil | exact Wk'.nil | refine Wk.same ?_ | refine Wk'.same ?_ | refine Wk.un (fun _ z => nomatch z) ?_ | refine Wk'.un ?_))
/-! level 2: reading
-/
/-! what level 1 reads -/
end
section
variable {P : Program} {w : World} {K : PySem.W.Frag} {mg : Str → Option Value} {base : Heap}
local macro_rules | `(tactic| get_elem_tactic_trivial) => `(tactic| (repeat first | exact Wk.nil | exact Wk'.nil | refine Wk.same ?_ | refine Wk'.same ?_ | refine Wk.un (fun _ z => nomatch z) ?_ | refine Wk'.un ?_))
/-! arguments, tuples -/
/-! statements -/

end
section
variable {P : Program} {w : World} {K : PySem.W.Frag} {mg : Str → Option Value} {base : Heap}
local macro_rules | `(tactic| get_elem_tactic_trivial) => `(tactic| (repeat first | exact Wk.nil | exact Wk'.nil | refine Wk.same ?_ | refine Wk'.same ?_ | refine Wk.un (fun _ z => nomatch z) ?_ | refine Wk'.un ?_))
/-! level 2: lists changed, defs that tell such lists, reading all as it stands -/
end
section
variable {P : Program} {w : World} {K : PySem.W.Frag} {mg : Str → Option Value} {base : Heap}
local macro_rules | `(tactic| get_elem_tactic_trivial) => `(tactic| (repeat first | exact Wk.nil | exact Wk'.nil | refine Wk.same ?_ | refine Wk'.same ?_ | refine Wk.un (fun _ z => nomatch z) ?_ | refine Wk'.un ?_))
/-- many new lists at once -/
theorem Sep.hangAll {B : Bs} {C H U U' : Hp} {σ : L2.St} {ρ : List Sl} (S : Sep K (B.hang U) C H σ ρ) (h : ∀ a o, U' a = some o → H a = some o ∧ C a = none ∧ (B.hang U).H0 a = none ∧ ∀ (j : Nat) (t : Sl), ρ[j]? = some t → t.mut = true → σ[j]? ≠ some (some (V.ref a))) :
    Sep K (B.hang fun a => match U' a with | some o => some o | none => U a) C H σ ρ := by
  have at_ : ∀ {a : Addr} {o : HO}, U' a = some o → (B.hang fun a => match U' a with | some o => some o | none => U a).H0 a = some o := fun {a o} e => by
    show (match (match U' a with | some o => some o | none => U a) with | some o => some o | none => B.H0 a) = _
    rw [e]
  have off : ∀ {a : Addr}, U' a = none → (B.hang fun a => match U' a with | some o => some o | none => U a).H0 a = (B.hang U).H0 a := fun {a} e => by
    show (match (match U' a with | some o => some o | none => U a) with | some o => some o | none => B.H0 a) = (match U a with | some o => some o | none => B.H0 a)
    rw [e]
  have no : ∀ {a : Addr}, (∀ o, U' a ≠ some o) → U' a = none := fun {a} z => by
    cases q : U' a with
    | none => rfl
    | some o => exact absurd q (z o)
  refine ⟨S.cold, S.len, S.sl, S.ne, S.grow, fun a x e n => ?_, fun a g => ?_, fun a x g n => ?_, fun i a ds g e => ?_, fun i a n g e => ?_, S.par, S.pz⟩
  · rw [off (no fun o q => by rw [(h a o q).2.1] at e; cases e)]
    exact S.new a x e n
  · cases q : U' a with
    | some o => rw [(h a o q).1]; exact fun z => nomatch z
    | none => rw [off q] at g; exact S.dom a g
  · cases q : U' a with
    | some o =>
      rw [at_ q] at g
      cases g
      exact (h a _ q).1
    | none => rw [off q] at g; exact S.keep a x g n
  · rw [off (no fun o q => (h a o q).2.2.2 i _ g rfl e)]
    exact S.loc i a ds g e
  · rw [off (no fun o q => (h a o q).2.2.2 i _ g rfl e)]
    exact S.lob i a n g e

end
section
variable {P : Program} {w : World} {K : PySem.W.Frag} {mg : Str → Option Value} {base : Heap}
local macro_rules | `(tactic| get_elem_tactic_trivial) => `(tactic| (repeat first | exact Wk.nil | exact Wk'.nil | refine Wk.same ?_ | refine Wk'.same ?_ | refine Wk.un (fun _ z => nomatch z) ?_ | refine Wk'.un ?_))
/-! level 2: all read as it stands -/
mutual
inductive Rsv (μ : Mu) : Dt → Dt → Prop
  | same (d : Dt) : Rsv μ d d
  | adr {a : Addr} {ds es : List Dt} : (a, ds) ∈ μ → RsvL μ ds es → Rsv μ (.adr a) (.lst es)
  | tup {ds es : List Dt} : RsvL μ ds es → Rsv μ (.tup ds) (.tup es)
  | lst {ds es : List Dt} : RsvL μ ds es → Rsv μ (.lst ds) (.lst es)
inductive RsvL (μ : Mu) : List Dt → List Dt → Prop
  | nil : RsvL μ [] []
  | cons {d e : Dt} {ds es : List Dt} : Rsv μ d e → RsvL μ ds es → RsvL μ (d :: ds) (e :: es)
end
theorem RsvL.same_ {μ : Mu} : ∀ ds : List Dt, RsvL μ ds ds
  | [] => .nil
  | d :: ds => .cons (.same d) (RsvL.same_ ds)
mutual
theorem Rsv.rp {μ : Mu} {H : Hp} (hm : ∀ a ds, (a, ds) ∈ μ → ∃ vs, H a = some (.lst vs) ∧ RpL K H vs ds) : ∀ {d e : Dt} {v : V}, Rsv μ d e → Rp K H v d → Rp K H v e
  | _, _, _, .same d, r => r
  | _, _, _, .adr h l, r => by
    cases r
    obtain ⟨vs, e, q⟩ := hm _ _ h
    exact .lst e (RsvL.rp hm l q)
  | _, _, _, .tup l, r => by
    cases r with
    | tup a b => exact .tup a (RsvL.rp hm l b)
  | _, _, _, .lst l, r => by
    cases r with
    | lst a b => exact .lst a (RsvL.rp hm l b)
theorem RsvL.rp {μ : Mu} {H : Hp} (hm : ∀ a ds, (a, ds) ∈ μ → ∃ vs, H a = some (.lst vs) ∧ RpL K H vs ds) : ∀ {ds es : List Dt} {vs : List V}, RsvL μ ds es → RpL K H vs ds → RpL K H vs es
  | _, _, _, .nil, r => r
  | _, _, _, .cons h l, r => by
    cases r with
    | cons a b => exact .cons (Rsv.rp hm h a) (RsvL.rp hm l b)
end
inductive RsvS (μ : Mu) : List Sl → List Sl → Prop
  | nil : RsvS μ [] []
  | un {s : Sl} {ρ ρ' : List Sl} : RsvS μ ρ ρ' → RsvS μ (s :: ρ) (.un :: ρ')
  | dat {d e : Dt} {ρ ρ' : List Sl} : Rsv μ d e → RsvS μ ρ ρ' → RsvS μ (.dat d :: ρ) (.dat e :: ρ')
theorem RsvS.len {μ : Mu} : ∀ {ρ ρ' : List Sl}, RsvS μ ρ ρ' → ρ.length = ρ'.length
  | _, _, .nil => rfl
  | _, _, .un h => congrArg Nat.succ h.len
  | _, _, .dat _ h => congrArg Nat.succ h.len
theorem RsvS.at_ {μ : Mu} : ∀ {ρ ρ' : List Sl} {i : Nat} {s : Sl}, RsvS μ ρ ρ' → ρ'[i]? = some s → s = .un ∨ ∃ d e, ρ[i]? = some (.dat d) ∧ s = .dat e ∧ Rsv μ d e
  | _, _, i, s, .nil, h => by simp at h
  | _, _, 0, s, .un _, h => by cases h; exact .inl rfl
  | _, _, 0, s, .dat r _, h => by cases h; exact .inr ⟨_, _, rfl, rfl, r⟩
  | _, _, i + 1, s, .un r, h => RsvS.at_ (i := i) r h
  | _, _, i + 1, s, .dat _ r, h => RsvS.at_ (i := i) r h
theorem Sep.redat {μ : Mu} {H : Hp} {σ : L2.St} {ρ ρ' : List Sl} (S : Sep K ⟨H, H, none⟩ H H σ ρ) (hm : ∀ a ds, (a, ds) ∈ μ → ∃ vs, H a = some (.lst vs) ∧ RpL K H vs ds) (r : RsvS μ ρ ρ') : Sep K ⟨H, H, none⟩ H H σ ρ' := by
  have nm : ∀ {i : Nat} {s : Sl}, ρ'[i]? = some s → s.mut = true → False := fun {i s} h m => by
    rcases r.at_ h with e | ⟨d, e, _, e2, _⟩
    · rw [e] at m; cases m
    · rw [e2] at m; cases m
  refine ⟨S.cold, S.len.trans r.len, fun i s h => ?_, fun i j a s t n h1 h2 m1 m2 e1 e2 => (nm h1 m1).elim, S.grow, S.new, S.dom, S.keep, fun i a ds h e => (nm h rfl).elim, fun i a n h e => (nm h rfl).elim, (fun i a h => nomatch h), (fun i a h => nomatch h)⟩
  rcases r.at_ h with e | ⟨d, e, h2, e2, q⟩
  · rw [e]
    trivial
  · rw [e2]
    obtain ⟨v, ev, rv⟩ := S.sl i _ h2
    exact ⟨v, ev, q.rp hm rv⟩
end
section
variable {P : Program} {w : World} {K : PySem.W.Frag} {mg : Str → Option Value} {base : Heap}
local macro_rules | `(tactic| get_elem_tactic_trivial) => `(tactic| (repeat first | exact Wk.nil | exact Wk'.nil | refine Wk.same ?_ | refine Wk'.same ?_ | refine Wk.un (fun _ z => nomatch z) ?_ | refine Wk'.un ?_))
/-! level 2: bodies -/

end
section
variable {P : Program} {w : World} {K : PySem.W.Frag} {mg : Str → Option Value} {base : Heap}
local macro_rules | `(tactic| get_elem_tactic_trivial) => `(tactic| (repeat first | exact Wk.nil | exact Wk'.nil | refine Wk.same ?_ | refine Wk'.same ?_ | refine Wk.un (fun _ z => nomatch z) ?_ | refine Wk'.un ?_))
/-! level 2: lists that are only read from here on -/
def orU (U C : Hp) : Hp := fun a => match U a with | some o => some o | none => C a
theorem orU_at {U C : Hp} {a : Addr} {o : HO} (e : U a = some o) : orU U C a = some o := by
  unfold orU
  rw [e]
theorem orU_off {U C : Hp} {a : Addr} (e : U a = none) : orU U C a = C a := by
  unfold orU
  rw [e]
/-! a try whose body never raises -/
end
section
variable {P : Program} {w : World} {K : PySem.W.Frag} {mg : Str → Option Value} {base : Heap}
local macro_rules | `(tactic| get_elem_tactic_trivial) => `(tactic| (repeat first | exact Wk.nil | exact Wk'.nil | refine Wk.same ?_ | refine Wk'.same ?_ | refine Wk.un (fun _ z => nomatch z) ?_ | refine Wk'.un ?_))
/-! C(), C(k=..): what is left out as the def has it -/

end
section
variable {P : Program} {w : World} {K : PySem.W.Frag} {mg : Str → Option Value} {base : Heap}
local macro_rules | `(tactic| get_elem_tactic_trivial) => `(tactic| (repeat first | exact Wk.nil | exact Wk'.nil | refine Wk.same ?_ | refine Wk'.same ?_ | refine Wk.un (fun _ z => nomatch z) ?_ | refine Wk'.un ?_))
/-! statements that are never reached -/
def tNoS : TS := fun _ _ _ => False
theorem ps_no {X : Cx} {s : Stmt} : PS X s tNoS := ⟨fun _ _ _ _ _ _ h => h.elim⟩
def wNo : WS := fun _ _ => False
instance ss_no : Ss K tNoS wNo where
  run B C H σ ρ D Φ S h m := h.elim
/-! level 2: a number read with all lists as they stand -/
/-! divmod of numbers of any size -/

end
section
variable {P : Program} {w : World} {K : PySem.W.Frag} {mg : Str → Option Value} {base : Heap}
local macro_rules | `(tactic| get_elem_tactic_trivial) => `(tactic| (repeat first | exact Wk.nil | exact Wk'.nil | refine Wk.same ?_ | refine Wk'.same ?_ | refine Wk.un (fun _ z => nomatch z) ?_ | refine Wk'.un ?_))
/-! wide numbers shown -/
end
section
variable {P : Program} {w : World} {K : PySem.W.Frag} {mg : Str → Option Value} {base : Heap}
local macro_rules | `(tactic| get_elem_tactic_trivial) => `(tactic| (repeat first | exact Wk.nil | exact Wk'.nil | refine Wk.same ?_ | refine Wk'.same ?_ | refine Wk.un (fun _ z => nomatch z) ?_ | refine Wk'.un ?_))

end
section
variable {P : Program} {w : World} {K : PySem.W.Frag} {mg : Str → Option Value} {base : Heap}
local macro_rules | `(tactic| get_elem_tactic_trivial) => `(tactic| (repeat first | exact Wk.nil | exact Wk'.nil | refine Wk.same ?_ | refine Wk'.same ?_ | refine Wk.un (fun _ z => nomatch z) ?_ | refine Wk'.un ?_))
/-! level 2: chunks read, copied, changed, walked -/
/-! for x in a chunk: it keeps its length N -/
/-! a new list of numbers, read with all chunks as they stand -/

end
section
variable {P : Program} {w : World} {K : PySem.W.Frag} {mg : Str → Option Value} {base : Heap}
local macro_rules | `(tactic| get_elem_tactic_trivial) => `(tactic| (repeat first | exact Wk.nil | exact Wk'.nil | refine Wk.same ?_ | refine Wk'.same ?_ | refine Wk.un (fun _ z => nomatch z) ?_ | refine Wk'.un ?_))
/-! level 2: defs that tell lists of their own, called by keywords; chunks in another order -/

end
section
variable {P : Program} {w : World} {K : PySem.W.Frag} {mg : Str → Option Value} {base : Heap}
local macro_rules | `(tactic| get_elem_tactic_trivial) => `(tactic| (repeat first | exact Wk.nil | exact Wk'.nil | refine Wk.same ?_ | refine Wk'.same ?_ | refine Wk.un (fun _ z => nomatch z) ?_ | refine Wk'.un ?_))
/-! level 2 left: all chunks grow cold, the rest is read at level 1 -/

end
section
variable {P : Program} {w : World} {K : PySem.W.Frag} {mg : Str → Option Value} {base : Heap}
local macro_rules | `(tactic| get_elem_tactic_trivial) => `(tactic| (repeat first | exact Wk.nil | exact Wk'.nil | refine Wk.same ?_ | refine Wk'.same ?_ | refine Wk.un (fun _ z => nomatch z) ?_ | refine Wk'.un ?_))
/-! level 2: comprehensions whose parts are chunks, clear, either of two, a try that never raises -/
theorem FnOk.or {k : Nat} {CX : CXT} {f : Addr} {fd : FuncData} {ps : List Str} {sp sp' : Sp} (F : FnOk P w K mg base CX k f fd ps sp) (F' : FnOk P w K mg base CX k f fd ps sp') : FnOk P w K mg base CX k f fd ps (fun vs H Q E => sp vs H Q E ∨ sp' vs H Q E) :=
  ⟨fun vs H Q E q => q.elim (F.len vs H Q E) (F'.len vs H Q E), fun A outer s H args us vs Q E hr he hb hv hs => hs.elim (F.run A outer s H args us vs Q E hr he hb hv) (F'.run A outer s H args us vs Q E hr he hb hv)⟩
/-! a test that only reads leaves lists changeable -/

end
section
variable {P : Program} {w : World} {K : PySem.W.Frag} {mg : Str → Option Value} {base : Heap}
local macro_rules | `(tactic| get_elem_tactic_trivial) => `(tactic| (repeat first | exact Wk.nil | exact Wk'.nil | refine Wk.same ?_ | refine Wk'.same ?_ | refine Wk.un (fun _ z => nomatch z) ?_ | refine Wk'.un ?_))
/-! enumerate over zip: the zip's tuples stay out -/
section
variable {prog : Program} {w : World} {A : Around} {E : Value → Shared → Prop} {s : Shared}
variable {z TI TO i1 i2 : Addr} {fp1 fp2 : List Addr} {n1 n2 i : Nat} {P1 P2 : Nat → Value → Prop} {St1 St2 : Nat → Heap → Prop}
end
end
section
variable {P : Program} {w : World} {K : PySem.W.Frag} {mg : Str → Option Value} {base : Heap}
local macro_rules | `(tactic| get_elem_tactic_trivial) => `(tactic| (repeat first | exact Wk.nil | exact Wk'.nil | refine Wk.same ?_ | refine Wk'.same ?_ | refine Wk.un (fun _ z => nomatch z) ?_ | refine Wk'.un ?_))
section
variable {prog : Program} {w : World} {A : Around} {E : Value → Shared → Prop} {s : Shared} {z TI TO i1 i2 : Addr} {fp1 fp2 : List Addr} {n1 n2 i : Nat} {P1 P2 : Nat → Value → Prop} {St1 St2 : Nat → Heap → Prop}
end

end
section
variable {P : Program} {w : World} {K : PySem.W.Frag} {mg : Str → Option Value} {base : Heap}
local macro_rules | `(tactic| get_elem_tactic_trivial) => `(tactic| (repeat first | exact Wk.nil | exact Wk'.nil | refine Wk.same ?_ | refine Wk'.same ?_ | refine Wk.un (fun _ z => nomatch z) ?_ | refine Wk'.un ?_))
/-! the turn -/
section
variable {X : Cx} {pins : List (Addr × Obj)} {σ : L2.St} {H : Hp} {s : Shared}
end

end
section
variable {P : Program} {w : World} {K : PySem.W.Frag} {mg : Str → Option Value} {base : Heap}
local macro_rules | `(tactic| get_elem_tactic_trivial) => `(tactic| (repeat first | exact Wk.nil | exact Wk'.nil | refine Wk.same ?_ | refine Wk'.same ?_ | refine Wk.un (fun _ z => nomatch z) ?_ | refine Wk'.un ?_))
/-! enumerate(zip(..)) walked -/

end
section
variable {P : Program} {w : World} {K : PySem.W.Frag} {mg : Str → Option Value} {base : Heap}
local macro_rules | `(tactic| get_elem_tactic_trivial) => `(tactic| (repeat first | exact Wk.nil | exact Wk'.nil | refine Wk.same ?_ | refine Wk'.same ?_ | refine Wk.un (fun _ z => nomatch z) ?_ | refine Wk'.un ?_))
/-! a += b, break, continue -/

end
section
variable {P : Program} {w : World} {K : PySem.W.Frag} {mg : Str → Option Value} {base : Heap}
local macro_rules | `(tactic| get_elem_tactic_trivial) => `(tactic| (repeat first | exact Wk.nil | exact Wk'.nil | refine Wk.same ?_ | refine Wk'.same ?_ | refine Wk.un (fun _ z => nomatch z) ?_ | refine Wk'.un ?_))
/-! comprehensions whose parts may raise; promises of defs that raise now and then -/
theorem FnOk.orD {k : Nat} {CX : CXT} {f : Addr} {fd : FuncData} {ps : List Str} {n : Nat} {wf wf' : WF} (F : FnOk P w K mg base CX k f fd ps (spD K n wf)) (F' : FnOk P w K mg base CX k f fd ps (spD K n wf')) : FnOk P w K mg base CX k f fd ps (spD K n (fun ps Ψ => wf ps Ψ ∨ wf' ps Ψ)) :=
  (FnOk.or F F').imp fun vs H Q E h => by
    obtain ⟨l, C, bx, ps, Ψ, S, hw, k⟩ := h
    rcases hw with hw | hw
    · exact .inl ⟨l, C, bx, ps, Ψ, S, hw, k⟩
    · exact .inr ⟨l, C, bx, ps, Ψ, S, hw, k⟩

/-! x.append(..) of what may raise -/

end
section
variable {P : Program} {w : World} {K : PySem.W.Frag} {mg : Str → Option Value} {base : Heap}
local macro_rules | `(tactic| get_elem_tactic_trivial) => `(tactic| (repeat first | exact Wk.nil | exact Wk'.nil | refine Wk.same ?_ | refine Wk'.same ?_ | refine Wk.un (fun _ z => nomatch z) ?_ | refine Wk'.un ?_))
/-! level 2: x.pop(i) of a chunk -/
/-! {..}[x] of three texts -/

end
section
variable {P : Program} {w : World} {K : PySem.W.Frag} {mg : Str → Option Value} {base : Heap}
local macro_rules | `(tactic| get_elem_tactic_trivial) => `(tactic| (repeat first | exact Wk.nil | exact Wk'.nil | refine Wk.same ?_ | refine Wk'.same ?_ | refine Wk.un (fun _ z => nomatch z) ?_ | refine Wk'.un ?_))
/-! x != y of two things with an own ==, where no own != stands -/
section
variable {prog : Program} {A : Around} {E : Value → Shared → Prop} {s : Shared} {x y C f : Addr} {ox : Obj} {od : Option Obj}
theorem ifBoundB_K {M : Model} {id : String} {name : Str} {args : List Value} {Q : Option Value → Shared → Prop} (X : K.In s.heap) (I : PySem.W.InstAt s.heap x ox C od) (hs : PySem.W.findIn K (.ref C) name = some (some (.builtin id))) (hb : ∀ self, bindSpecial (.builtin id) self = pure (.builtin id, [self]))
    (h : wpAny M A (call (.builtin id) (.ref x :: args)) (fun v => Q (some v)) E s) : wpAny M A (callSpecialIfBound? (.ref x) name args) Q E s := by
  simp only [callSpecialIfBound?, bindSpecialIfBound?]
  refine wpAny_holding (wpAny_bind (wpAny_bind (wpAny_bind (I.type.here ((PySem.W.looks_findIn X hs).here ?_)))))
  simp only [hb]
  refine wpAny_bind (wpAny_askSetting (wpAny_ite ?_))
  have fin : wpAny M A (call (.builtin id) ([.ref x] ++ args) >>= fun v => pure (some v)) Q E s := wpAny_bind (wpAny_mono h (fun v s' h' => wpAny_pure h') fun _ _ h' => h')
  split
  · exact wpAny_bind (wpAny_pure (wpAny_pure fin))
  · exact wpAny_tryCatch (wpAny_bind (wpAny_pure (wpAny_pure fin)))
theorem check_slot_K {M : Model} {id owner n : String} {rest : List Value} {Q : Unit → Shared → Prop} (hk : builtinKind id = some .slot) (hs : splitId id = some (owner, n)) (ha : argsOk id ⟨.ref x :: rest, []⟩) (X : K.In s.heap) (I : PySem.W.InstAt s.heap x ox C od)
    (hsub : PySem.W.subIn K (.ref C) (.type owner) = some true) (hq : Q () s) : wpAny M A (checkBuiltinCall id ⟨.ref x :: rest, []⟩) Q E s := by
  simp only [checkBuiltinCall, hk, hs]
  refine wpAny_bind ?_
  first
  | refine wpAny_bind (wpAny_bind (I.type.here ((PySem.W.looks_subIn X hsub).here ?_)))
  | refine wpAny_bind (I.type.here ((PySem.W.looks_subIn X hsub).here ?_))
  | (unfold isInstance; refine wpAny_bind (wpAny_bind (I.type.here ((PySem.W.looks_subIn X hsub).here ?_))))
  | (unfold isInstance; refine wpAny_bind (I.type.here (wpAny_bind ((PySem.W.looks_subIn X hsub).here ?_))))
  simp only [Bool.not_true, Bool.false_eq_true, if_false]
  cases hsig : Manifest.signature? id with
  | none => exact wpAny_pure hq
  | some sig =>
    simp only [argsOk, hsig] at ha
    have h2 : Bind.checkArgs id sig ⟨.ref x :: rest, []⟩ = pure () := ha
    show wpAny M A (Bind.checkArgs id sig ⟨.ref x :: rest, []⟩) Q E _
    rw [h2]; exact wpAny_pure hq
theorem obj_ne_K {Q : Fin → Shared → Prop} (X : K.In s.heap) (I : PySem.W.InstAt s.heap x ox C od) (hu : A.units < cLine) (hs : PySem.W.findIn K (.ref C) "__eq__" = some (some (.ref f))) (hf : PySem.W.isFn K (.ref f) = true)
    (h : wpAny (model prog w) A (call (.ref f) [.ref x, .ref y]) (fun v s' => ∃ b, v = .bool b ∧ Q (.done (.ret (.bool (!b)))) s') E s) :
    wpAny (model prog w) A (Builtin.«object.__ne__» ⟨[.ref x, .ref y], []⟩) Q E s := by
  obtain ⟨hp, g, d, t, os⟩ := s
  unfold Builtin.«object.__ne__»
  repeat (first
    | with_reducible refine wpAny_cRoomFor hu ?_
    | (refine wpAny_bind (m := callSpecialIfBound? (.ref x) (Str.ofString "__eq__") [.ref y])
        (PySem.W.ifBound_K X I hs hf (wpAny_mono h (fun r s' hr => by
          obtain ⟨b, rfl, hq⟩ := hr
          repeat (first | exact hq | exact wpAny_pure hq | exact wpAny_truthy_bool hq | (refine wpAny_bind (m := truthy (.bool _)) (wpAny_truthy_bool ?_)) | wp_step)) fun _ _ e => e)))
    | wp_step)
theorem rc_ne_K {Q : Value → Shared → Prop} (X : K.In s.heap) (I : PySem.W.InstAt s.heap x ox C od) (hy : PySem.W.Looks (model prog w) s.heap (typeOf (.ref y)) (.ref C)) (hu : A.units + 1 < cLine)
    (hn : PySem.W.findIn K (.ref C) "__ne__" = some (some (.builtin "object.__ne__"))) (ho : PySem.W.subIn K (.ref C) (.type "object") = some true) (hs : PySem.W.findIn K (.ref C) "__eq__" = some (some (.ref f))) (hf : PySem.W.isFn K (.ref f) = true)
    (h : wpAny (model prog w) A.in1 (call (.ref f) [.ref x, .ref y]) (fun v s' => ∃ b, v = .bool b ∧ Q (.bool (!b)) s') E s) :
    wpAny (model prog w) A (richCompare .NotEq (.ref x) (.ref y)) Q E s := by
  have FB := PySem.F.cmp_object
  have one : wpAny (model prog w) A (tryCompare (.ref x) "__ne__" (.ref y)) (fun r s' => ∃ v, r = some v ∧ Q v s') E s := by
    unfold tryCompare
    refine wpAny_bind (ifBoundB_K X I hn FB.ne.bind (wpAny_call (codeAny_call_builtin FB.ne.plain PySem.F.cmpEntry_ne (check_slot_K PySem.F.cmpKind_ne PySem.F.cmpSplit_ne (PySem.F.cmpArgs_ne _ _) X I ho
      (obj_ne_K (A := A.in1) X I (by show A.in1.units < cLine; exact hu) hs hf (wpAny_mono h (fun v s' hv => ?_) fun _ _ e => e))))))
    obtain ⟨b, rfl, hq⟩ := hv
    first | exact ⟨b, rfl, wpAny_pure ⟨_, rfl, hq⟩⟩ | exact ⟨b, rfl, wpAny_pure (wpAny_pure ⟨_, rfl, hq⟩)⟩ | exact ⟨b, rfl, ⟨_, rfl, hq⟩⟩
  unfold richCompare
  simp only [oneThing_ref]
  refine wpAny_holding (wpAny_bind (wpAny_cRoomFor (Nat.lt_of_succ_lt hu) ?_))
  rw [cmpInfo_NotEq]
  dsimp only
  refine wpAny_bind (I.type.here (wpAny_bind (hy.here ?_)))
  rw [show (Value.ref C != Value.ref C) = false from by simp]
  simp only [Bool.false_eq_true, if_false]
  refine wpAny_bind (wpAny_pure ?_)
  simp only [Bool.false_eq_true, if_false]
  refine wpAny_bind (wpAny_mono one (fun r s' z => ?_) fun _ _ e => e)
  obtain ⟨v, rfl, hq⟩ := z
  exact wpAny_pure hq
end
def rNeOwn (C : Addr) (sp : Sp) : R2 := fun x y H Q => ∃ a b dx dy fs gs, x = .ref a ∧ y = .ref b ∧ H a = some (.ins C dx fs) ∧ H b = some (.ins C dy gs) ∧ sp [x, y] H (fun v G => ∃ t, v = .bl t ∧ Q (.bl (!t)) G) E0
theorem opNeOwn {X : Cx} {C f : Addr} {fd : FuncData} {ps : List Str} {n : Nat} {sp : Sp} (hn : PySem.W.findIn X.K (.ref C) "__ne__" = some (some (.builtin "object.__ne__"))) (ho : PySem.W.subIn X.K (.ref C) (.type "object") = some true) (M : Meth X.K C "__eq__" f)
    (F : FnOk X.prog X.w X.K X.mg X.base CX0 n f fd ps sp) (hb : Binds X.K fd ps []) (hr : Room (n + 1) X.A) : OpR X (compareOp .NotEq) (rNeOwn C sp) := by
  intro pins s σ H x y v u Q I rx ry hq
  obtain ⟨a, b, dx, dy, fs, gs, rfl, rfl, ha, hb', hsp⟩ := hq
  show wpAny (model X.prog X.w) X.A (richCompare .NotEq v u) (EP X pins σ Q) X.xe s
  cases rx
  cases ry
  obtain ⟨mA, J, _⟩ := ins_get I.hok ha
  obtain ⟨mB, J', _⟩ := ins_get I.hok hb'
  obtain ⟨od, J, _⟩ := J.look
  obtain ⟨od', J', _⟩ := J'.look
  refine rc_ne_K I.kIn J J'.type hr.in1.units0 hn ho M.at_ M.fn ?_
  have e0 : Env0 X.prog X.w X.K X.mg X.base X.A.in1 X.stack s H := I.env0.in1
  have hl := F.len _ _ _ _ hsp
  have r2 : Vals [V.ref a, V.ref b] [Value.ref a, Value.ref b] := .cons rfl (.cons rfl .nil)
  refine wpAny_call (codeAny_mono (F.run X.A.in1 X.stack s H ⟨[.ref a, .ref b], []⟩ [.ref a, .ref b] [.ref a, .ref b] _ E0 hr.in1 e0 (by
    have := hb s [.ref a, .ref b] I.kIn (by simpa using hl)
    simpa using this) r2 hsp) fun r s' hq => ?_)
  cases r with
  | error e => exact False.elim hq
  | ok fl =>
    cases fl with
    | ret w =>
      obtain ⟨z, H', I', rz, t, ez, q⟩ := I.after hq
      subst ez
      cases rz
      exact ⟨t, rfl, .bl (!t), H', I', rfl, q⟩
    | next => exact False.elim hq
    | brk => exact False.elim hq
    | cont => exact False.elim hq
def oNeOwn (c : Str) (wf : WF) : Dt → Dt → (Dt → Prop) → Prop := fun dx dy Φ => (∃ ns ds, dx = .obj c ns ds) ∧ (∃ ns ds, dy = .obj c ns ds) ∧ wf [.dat dx, .dat dy] fun r _ => ∃ t, r = .dat (.bl t) ∧ Φ (.bl (!t))
instance so_neOwn {c : Str} {wf : WF} : So K (rNeOwn (He.ga K c) (spD K 2 wf)) (oNeOwn c wf) where
  run B C H σ ρ x y dx dy Q Φ S hx hy h k := by
    obtain ⟨⟨ns, ds, rfl⟩, ⟨ms, es, rfl⟩, h⟩ := h
    have rx : Rp K C x (.obj c ns ds) := by
      rcases hx with hx | ⟨_, _, _, _, e, _⟩
      · exact hx
      · cases e
    have ry : Rp K C y (.obj c ms es) := by
      rcases hy with hy | ⟨_, _, _, _, e, _⟩
      · exact hy
      · cases e
    cases id rx with
    | obj a1 a2 a3 a4 =>
      cases id ry with
      | obj b1 b2 b3 b4 =>
        refine ⟨_, _, _, _, _, _, rfl, rfl, S.cold _ _ a1, S.cold _ _ b1, rfl, C, none, _, _, sep_dats S (.cons rx (.cons ry .nil)), h, fun C' G v r ps' S' ok z => ?_⟩
        obtain ⟨t, rfl, z⟩ := z
        cases ok
        exact ⟨t, rfl, k C' G _ (.bl (!t)) (S.after S') S'.grow (.bl _) z⟩

end
section
variable {P : Program} {w : World} {K : PySem.W.Frag} {mg : Str → Option Value} {base : Heap}
local macro_rules | `(tactic| get_elem_tactic_trivial) => `(tactic| (repeat first | exact Wk.nil | exact Wk'.nil | refine Wk.same ?_ | refine Wk'.same ?_ | refine Wk.un (fun _ z => nomatch z) ?_ | refine Wk'.un ?_))
/-- what is looked up of a class with an own == -/
structure IsF (K : PySem.W.Frag) (C : Addr) : Prop where
  ne : PySem.W.findIn K (.ref C) "__ne__" = some (some (.builtin "object.__ne__"))
  ob : PySem.W.subIn K (.ref C) (.type "object") = some true
  ha : PySem.W.findIn K (.ref C) "__class__" = some (some (.builtin "object.__class__"))
  hn : PySem.W.specialIn K (.builtin "object.__class__") "__get__" = some (some (.builtin "getset_descriptor.__get__"))
  ht : PySem.W.takesIn K (.builtin "object.__class__") = some true
  hm : PySem.W.mroIn K C (.type "object") = some true
theorem neD_is {c : Str} (h : neD K c = true) : IsF K (He.ga K c) := by
  unfold neD at h
  simp only [Bool.and_eq_true] at h
  obtain ⟨⟨⟨⟨⟨h1, h2⟩, h3⟩, h4⟩, h5⟩, h6⟩ := h
  exact ⟨eq_of_beq h1, eq_of_beq h2, eq_of_beq h3, eq_of_beq h4, eq_of_beq h5, eq_of_beq h6⟩
/-! isinstance of a thing of one's own, of its very class -/
theorem kit_same {C : Addr} : PySem.W.kitOne K (.ref C) (.ref C) = some true := by
  unfold PySem.W.kitOne
  simp
/-! o.m(k=..) with its names in any order; C(k=..) turned -/

end
section
variable {P : Program} {w : World} {K : PySem.W.Frag} {mg : Str → Option Value} {base : Heap}
local macro_rules | `(tactic| get_elem_tactic_trivial) => `(tactic| (repeat first | exact Wk.nil | exact Wk'.nil | refine Wk.same ?_ | refine Wk'.same ?_ | refine Wk.un (fun _ z => nomatch z) ?_ | refine Wk'.un ?_))
/-! comprehensions whose element may raise: the block's exception is noted by the def's own frame, the block's names are let go, and it flies on -/
end
end Sl
namespace L2
open PySem PySem.Spec PyProof.Rows
theorem note_env (e : Value) {ce env : Env} (h : ce.frame = env.frame) : noteFrame e ce = noteFrame e env := by
  have q : PySem.frameOf ce = PySem.frameOf env := by unfold PySem.frameOf; rw [h]
  unfold noteFrame; rw [h, q]
theorem ns_up {h h' : Heap} {L : Addr} {m : Str → Option Value} (hn : h.Ns L m) (hk : h.UpToSlots h') : h'.Ns L m := by
  obtain ⟨o, es, ep, e, d, r⟩ := hn
  obtain ⟨sl, q⟩ := hk L o e fun vs z => by rw [d] at z; cases z
  exact ⟨_, es, ep, q, d, r⟩
theorem frames_but {h h' bg : Heap} {L : Addr} {m : Str → Option Value} (hs : Heap.SameBut L h h') (hn : h'.Ns L m) : ∀ {l : List Env}, h.FunFrames bg l → h'.FunFrames bg l
  | [], _ => trivial
  | _ :: _, ⟨k, ⟨L', o, f, b, ho, d⟩, r⟩ => by
    refine ⟨k, ?_, frames_but hs hn r⟩
    rcases Classical.em (L' = L) with q | q
    · obtain ⟨u, es, ep, hu, du, _⟩ := hn
      exact ⟨L', u, f, b, by rw [q]; exact hu, fun vs z => by rw [du] at z; cases z⟩
    · exact ⟨L', o, f, b, (hs.2 L' q).trans ho, d⟩
theorem traced_but {h h' bg : Heap} {e L : Addr} {Z : Obj → Prop} {fl : Value} {m : Str → Option Value} (x : HandSPX.TracedZ h bg e Z fl) (hn : h.Ns L m) (hs : Heap.SameBut L h h') : HandSPX.TracedZ h' bg e Z fl := by
  obtain ⟨oe, vs, T, oT, ts, he, hz, d, h1, hb, hT, eT, dT, h3⟩ := x
  obtain ⟨o, es, ep, ho, dd, _⟩ := hn
  have ne : ∀ b u, h.get? b = some u → (∃ vs, u.data = .fields vs) → b ≠ L := fun b u q ⟨vs, z⟩ w => by
    rw [w, ho] at q
    cases q
    rw [dd] at z
    cases z
  exact ⟨oe, vs, T, oT, ts, (hs.2 _ (ne _ _ he ⟨_, d⟩)).trans he, hz, d, h1, hb, hT, (hs.2 _ (ne _ _ eT ⟨_, dT⟩)).trans eT, dT, h3⟩
section
variable {M : Model} {A : Around} {E : Value → Shared → Prop} {s' : Shared} {bg : Heap} {env ce : Env} {outer : List Env} {e L : Addr} {Z : Obj → Prop} {m : Str → Option Value}
theorem noted_lc (hZ : HandSPX.Steady Z) (hfr : A.frames = some (env :: outer)) (hcf : ce.frame = env.frame) (hf : env.frame = some L) (hb : bg.get? ce.locals = none) (hn : s'.heap.Ns ce.locals m) (fl : HandSPX.FlyingZ bg (env :: outer) e Z s'.heap)
    (hQ : ∀ h', HandSPX.HeldZ bg (env :: outer) e Z L h' → (∀ b o, s'.heap.get? b = some o → b ≠ ce.locals → (∀ vs, o.data ≠ .fields vs) → ∃ sl, h'.get? b = some { o with slots := sl }) → E (.ref e) { s' with heap := h' }) :
    notedBy M A ce (CompFails M A E ce) (.ref e) s' := by
  show wpAny M A (noteFrame (.ref e) ce) _ _ s'
  rw [note_env _ hcf]
  refine HandSPX.looks_onZ hZ hfr hf fl fun h1 ⟨b1, b0, f1, t1⟩ k1 => ⟨m, ns_up hn k1, fun h2 m2 n2 sb => ?_⟩
  have st : bg.StaysIn h2 := fun b o q => (sb.2 b fun z => by rw [z, hb] at q; cases q).trans (b1 b o q)
  have t2 := traced_but t1 (ns_up hn k1) sb
  have f2 := frames_but sb n2 f1
  obtain ⟨oe, vs, T, oT, ts, he, _, d, h1', _⟩ := id t2
  unfold PySem.passOn
  refine wpAny_bind (wpAny_field he d h1' ?_)
  rw [if_neg (show ¬ ((Value.ref T == Value.none) = true) from by simp), hcf, hf]
  refine wpAny_bind (HandSPX.setFlight_onZ ⟨st, b0, f2, t2⟩ fun h3 hh k3 => wpAny_throw (hQ h3 hh fun b o q n nf => ?_))
  obtain ⟨sl, q1⟩ := k1 b o q nf
  obtain ⟨sl', q2⟩ := k3 b _ ((sb.2 b n).trans q1) nf
  exact ⟨sl', q2⟩
end
/-- an exception of a call in flight over the block -/
def XEF (X : Cx) (W : WX) (u : Value) (s' : Shared) : Prop :=
  ∃ (a : Addr) (B : Heap) (sI : Shared) (pins : List (Addr × Obj)) (σ : St) (H : Hp) (cls : Value) (d : Option Addr), u = .ref a ∧ Inv X pins σ H sI ∧ (∀ b o, sI.heap.get? b = some o → b ∉ frs X.stack → B.get? b = some o) ∧ sI.heap.UpToSlots s'.heap ∧
    HandSPX.FlyingZ B X.stack a (Zc cls d) s'.heap ∧ H a = none ∧ s'.os = sI.os ∧ AllBare s'.gens ∧ W cls d σ H
section
variable {X : Cx} {pins : List (Addr × Obj)} {σ : St} {H : Hp} {s s' : Shared} {W : WX} {E : XK}
theorem XEF.of_call (I : Inv X pins σ H s) (hW : ∀ cls d H', E cls d H' → W cls d σ H') {u : Value} (c : CX X.prog X.w X.stack H s E u s') : XEF X W u s' := by
  obtain ⟨a, B, H', cls, d, rfl, fl, hok, ub, na, os, ag, hE⟩ := c
  obtain ⟨G, g1, g2⟩ := restrict s'.heap fun b => (B.get? b).isSome || decide (b ∈ frs X.stack)
  have gB : ∀ b o, B.get? b = some o → G.get? b = some o := fun b o q => (g1 b (by simp [q])).trans (fl.1 b o q)
  have gF : ∀ b, b ∈ frs X.stack → G.get? b = s'.heap.get? b := fun b hb => g1 b (by simp [hb])
  have og : ∀ b o, G.get? b = some o → s'.heap.get? b = some o ∧ ((B.get? b).isSome = true ∨ b ∈ frs X.stack) := fun b o q => by
    by_cases z : ((B.get? b).isSome || decide (b ∈ frs X.stack)) = true
    · rw [g1 b z] at q
      exact ⟨q, by simpa [Bool.or_eq_true] using z⟩
    · rw [g2 b (Bool.not_eq_true _ ▸ z)] at q
      cases q
  have J : Inv X pins σ H' { s with heap := G, gens := s'.gens, drawn := s'.drawn, toks := s'.toks } :=
    I.call (ch := []) ⟨fun b o q n hb _ => gB b o (ub.keep b o q n hb), fun b o q _ hb _ => (ub.slot b o q hb).imp fun sl z => (gF b hb).trans z, fun b o q n _ => ub.free b o q n, fun b o q _ => by
      rcases Classical.em (b ∈ frs X.stack) with hb | hb
      · obtain ⟨sl, z⟩ := ub.slot b o q hb
        exact ⟨_, (gF b hb).trans z⟩
      · obtain ⟨o', z⟩ := ub.there b o q hb
        exact ⟨o', gB b o' z⟩, ub.tups, ub.frzs, ub.tbls⟩ (hok.kept gB) ag (fun _ z => nomatch z)
  refine ⟨a, B, _, pins, σ, H', cls, d, rfl, J, fun b o q hb => ?_, Heap.UpToSlots.of_keeps fun b o q => (og b o q).1, fl, na, os, ag, hW _ _ _ hE⟩
  obtain ⟨q', z⟩ := og b o q
  rcases z with z | z
  · obtain ⟨o', z⟩ := Option.isSome_iff_exists.mp z
    have y := fl.1 b o' z
    rw [q'] at y
    cases y
    exact z
  · exact absurd z hb
/-- the block, where its exceptions are told -/
abbrev Cx.blkX (X : Cx) (W : WX) (s : Shared) (H : Hp) (scope : Scope) (ce : Env) (fp : List Addr) : Cx := (X.blk s H scope ce fp).wish (XEF (X.blk s H scope ce fp) W)
theorem passB {W : WX} {s0 : Shared} {H0 : Hp} {scope : Scope} {ce : Env} {fp : List Addr} (σ : St) : PassesAt (L2.CX (X.blkX W s0 H0 scope ce fp).prog (X.blkX W s0 H0 scope ce fp).w) (X.blkX W s0 H0 scope ce fp) σ (WE W σ) :=
  fun _ _ _ _ _ I c => XEF.of_call (X := X.blk s0 H0 scope ce fp) (Inv.unwish I) (fun _ _ _ h => h) c
/-- the block's exception, in the def's air -/
theorem blk_out {s3 : Shared} {H3 : Hp} {scope : Scope} {ce : Env} {fp : List Addr} {u : Value} (I3 : Inv X pins σ H3 s3) (f3 : ∀ b ∈ fp, FpOk X pins H3 b ∧ b < s3.heap.objs.size) (hC : ce.locals = s3.heap.objs.size) (hcf : ce.frame = X.env.frame)
    (hst : X.stack = X.env :: X.outer) (hf : X.env.frame = some X.env.locals) {E : XK} (tk : Takes X (fun cls d _ H => E cls d H)) (x : XEF (X.blk s3 H3 scope ce fp) (fun cls d _ H => E cls d H) u s') : notedBy (model X.prog X.w) X.A ce (CompFails (model X.prog X.w) X.A X.xe ce) u s' := by
  obtain ⟨a, B, sI, pi, σ', H', cls, d, rfl, I, nb, up, fl, na, os, ag, w⟩ := x
  obtain ⟨m, hn, _⟩ := I.loc
  have hn : sI.heap.Ns ce.locals m := hn
  have hid : ∀ (h : Heap) b o, (PySem.W.hideAll h [ce.locals]).get? b = some o → h.get? b = some o ∧ b ≠ ce.locals := fun h b o q => ⟨PySem.W.of_hideAll _ q, fun z => by
    rw [PySem.W.hideAll_none [ce.locals] (by simp [z])] at q
    cases q⟩
  have sh : ∀ (h : Heap) b o, h.get? b = some o → b ≠ ce.locals → (PySem.W.hideAll h [ce.locals]).get? b = some o := fun h b o q n => PySem.W.hideAll_get _ q (by simpa using n)
  have no : ∀ b, B.get? b = none → (PySem.W.hideAll B [ce.locals]).get? b = none := fun b q => by
    cases z : (PySem.W.hideAll B [ce.locals]).get? b with
    | none => rfl
    | some o => rw [(hid _ _ _ z).1] at q; cases q
  have fl' : HandSPX.FlyingZ (PySem.W.hideAll B [ce.locals]) (X.env :: X.outer) a (Zc cls d) s'.heap := by
    obtain ⟨x1, x2, x3, oe, vs, T, oT, ts, y1, y2, y3, y4, y5, y6⟩ := fl
    rw [← hst]
    exact ⟨fun b o q => x1 b o (hid _ _ _ q).1, no a x2, funFrames_none x3 fun b hb => no b (x3.mem hb).1, oe, vs, T, oT, ts, y1, y2, y3, y4, no T y5, y6⟩
  have nC : ∀ b o, s3.heap.get? b = some o → b ≠ ce.locals := fun b o q z => absurd (Heap.lt_size q) (by rw [z, hC]; exact Nat.lt_irrefl _)
  refine noted_lc (Z := Zc cls d) Zc.steady (by rw [I3.ok.frames, hst]) hcf hf (PySem.W.hideAll_none _ (by simp)) (ns_up hn up) fl' fun h' hh k => tk _ _ ⟨a, PySem.W.hideAll B [ce.locals], { sI with heap := PySem.W.hideAll sI.heap [ce.locals] }, pins, σ, H', cls, d, rfl, ?_, fun b o q hb => ?_, fun b o q nf => ?_, .inr (.inr (by rw [hst]; exact hh)), na, os, ag, w⟩
  · have U : Un (frs X.stack) fp H3 H' s3.heap sI.heap := I.base
    refine I3.call' (ch := fp) I.os ⟨fun b o q n hb hx => sh _ _ _ (U.keep b o q n hb hx) (nC b o q), fun b o q n hb hx => (U.slot b o q n hb hx).imp fun sl z => sh _ _ _ z (nC b o q), U.free, fun b o q hx => (U.there b o q hx).imp fun o' z => sh _ _ _ z (nC b o q), U.tups, U.frzs, U.tbls⟩ (fun b o q => ?_) I.bare fun b hb => ⟨(f3 b hb).1.2.2.2.1, (f3 b hb).1.2.1, (f3 b hb).1.2.2.2.2.1, (f3 b hb).1.2.2.2.2.2⟩
    have fr : H' ce.locals = none := I.free
    exact (I.hok b o q).stay (fun c u hc r => sh _ _ _ r fun z => by
      rw [z] at hc
      rcases hc with hc | hc
      · rw [← hc, fr] at q; cases q
      · rw [fr] at hc; cases hc) (fun _ r => r) fun _ _ r => r
  · obtain ⟨q1, q2⟩ := hid _ _ _ q
    exact sh _ _ _ (nb b o q1 hb) q2
  · obtain ⟨q1, q2⟩ := hid _ _ _ q
    obtain ⟨sl, e1⟩ := up b o q1 nf
    obtain ⟨sl', e2⟩ := k b _ e1 q2 nf
    exact ⟨sl', e2⟩
end
end L2
namespace Sl
open PySem PySem.Spec PyProof.Rows L2
section
variable {P : Program} {w : World} {K : PySem.W.Frag} {mg : Str → Option Value} {base : Heap}

end
section
variable {P : Program} {w : World} {K : PySem.W.Frag} {mg : Str → Option Value} {base : Heap}
local macro_rules | `(tactic| get_elem_tactic_trivial) => `(tactic| (repeat first | exact Wk.nil | exact Wk'.nil | refine Wk.same ?_ | refine Wk'.same ?_ | refine Wk.un (fun _ z => nomatch z) ?_ | refine Wk'.un ?_))
/-! [elt for .. in ..] whose element may raise, as a value and stored -/
end
end Sl
namespace L2
open PySem PySem.Spec PyProof.Rows
section
variable {X : Cx} {pins : List (Addr × Obj)} {σ : St} {H : Hp} {s : Shared} {E : XK}
theorem blk_back {s3 s' : Shared} {H3 H' : Hp} {scope : Scope} {ce : Env} {fp : List Addr} {pi : List (Addr × Obj)} {σ' : St} (I3 : Inv X pins σ H3 s3) (f3 : ∀ b ∈ fp, FpOk X pins H3 b ∧ b < s3.heap.objs.size) (I : Inv (X.blk s3 H3 scope ce fp) pi σ' H' s') : Inv X pins σ H' s' :=
  I3.call' (ch := fp) I.os I.base I.hok I.bare fun b hb => ⟨(f3 b hb).1.2.2.2.1, (f3 b hb).1.2.1, (f3 b hb).1.2.2.2.2.1, (f3 b hb).1.2.2.2.2.2⟩
/-- the loop, the block having begun -/
theorem lcX_loop {Q : VK} {elt tg iter : Expr} {ifs : List Expr} {scope : Scope} {vs : List Nat} {pos : Pos} {g : TG} {tt : TT} {te : TE} {use : Option (Value → Sem Unit)} {Qf : Value → Shared → Prop} {s3 s4 : Shared} {H3 : Hp} {ce : Env} {fp : List Addr} {tn : Nat → Heap → Prop} {J : It} {it D : Addr}
    (hc : X.calm = true) (I3 : Inv X pins σ H3 s3) (f3 : ∀ b ∈ fp, FpOk X pins H3 b ∧ b < s3.heap.objs.size) (I4 : Inv (X.blk s3 H3 scope ce fp) [] (wipe σ vs) H3 s4) (T : Turn X.prog X.w X.K tg J fp it tn) (st4 : tn 0 s4.heap)
    (hC : ce.locals = s3.heap.objs.size) (hcf : ce.frame = X.env.frame) (hst : X.stack = X.env :: X.outer) (hf : X.env.frame = some X.env.locals) (tk : Takes X (fun cls d _ H => E cls d H))
    (pg : PG (X.blk s3 H3 scope ce fp) tg g) (pt : PTs (X.blk s3 H3 scope ce fp) ifs tt) (pe : PE (X.blkX (fun cls d _ H => E cls d H) s3 H3 scope ce fp) elt te)
    {W : Nat → Nat → Hp → Prop} {m0 : Nat} (w0 : W 0 m0 H3) (turn : ∀ i m H, W i m H → (J.stop i H ∧ Q (.ref D) H) ∨ (J.go i H ∧ ∃ Nx : Hp → Prop, (∀ H', Nx H' → ∃ m', m' < m ∧ W (i + 1) m' H') ∧ ∀ x H', J.yld i H x H' → g x (wipe σ vs) H' fun σ2 H2 => wipe σ2 vs = wipe σ vs ∧ tt σ2 H2 fun b H3 =>
      if b = true then te σ2 H3 fun y H4 => ∃ acc, H4 D = some (.lst acc) ∧ acc.length < sizeLine ∧ Nx (upd H4 D (.lst (acc ++ [y]))) else Nx H3))
    (hRR : ∀ s' m H', Inv X pins σ H' s' → Q (.ref D) H' → s'.heap.Ns ce.locals m → FpOk X pins H' ce.locals → compEnds (model X.prog X.w) X.A X.xe use Qf (.ref D) ce (.ok .next) s') :
    codeAny (model X.prog X.w) X.A (.compLoop (.ListComp elt [⟨tg, iter, ifs, 0⟩] scope pos) 0 (.ref it) (.ref D) ce) (compEnds (model X.prog X.w) X.A X.xe use Qf (.ref D) ce) s4 := by
  have nfp : ∀ b ∈ fp, H3 b = none := fun b hb => (f3 b hb).1.1
  have stat : ∀ {σ' : St} {H' : Hp} {s' : Shared}, Inv (X.blk s3 H3 scope ce fp) [] σ' H' s' → (∀ b ∈ fp, H' b = none) → ∀ b ∈ fp, FpOk (X.blk s3 H3 scope ce fp) [] H' b := fun I' hn b hb =>
    ⟨hn b hb, (I'.ok.exf b hb).1, I'.ok.exfs b hb, .inl hb, fun x c e => (I'.ok.exf b hb).2 x c e, fun p hp => by simp at hp⟩
  refine compLoop_any (fun n s' => ∃ i H', Inv (X.blk s3 H3 scope ce fp) [] (wipe σ vs) H' s' ∧ tn i s'.heap ∧ (∀ b ∈ fp, H' b = none) ∧ W i n H') ?_ m0 ⟨0, H3, I4, st4, nfp, w0⟩
  rintro n s5 ⟨i, H5, I5, st5, n5, w5⟩
  rcases turn i n H5 w5 with ⟨stop, qq⟩ | ⟨go, Nx, hNx, step⟩
  · refine thnF (T.done (X.blk s3 H3 scope ce fp) rfl rfl rfl hc i [] s5 _ H5 (fun _ _ => False) I5 (stat I5 n5) st5 stop) ?_
    rintro _ s6 ⟨rfl, I6⟩
    obtain ⟨m, hn, _⟩ := I6.loc
    exact hRR s6 m H5 (blk_back I3 f3 I6) qq hn (I3.fpOk (Nat.le_of_eq hC.symm) I6.free)
  · refine thnF (T.item (X.blk s3 H3 scope ce fp) rfl rfl rfl hc i [] s5 _ H5 (fun _ _ => False) I5 (stat I5 n5) st5 go) ?_
    rintro _ s6 ⟨u, rfl, h6⟩
    refine thnF h6 fun _ s7 ⟨x, H7, I7, r7, y7, st7, n7⟩ => ?_
    refine thnF (pg.run _ s7 _ H7 x u _ (I7.pinned (stat I7 n7) (T.obj _ _ st7)) r7 (step x H7 y7)) fun _ s8 ⟨σ8, H8, I8, hw8, q8⟩ => ?_
    have next : ∀ {s' : Shared} {H' : Hp}, Inv (X.blk s3 H3 scope ce fp) ([] ++ pinsAt fp s7.heap) σ8 H' s' → Nx H' → ∃ m, m < n ∧ ∃ i H', Inv (X.blk s3 H3 scope ce fp) [] (wipe σ vs) H' s' ∧ tn i s'.heap ∧ (∀ b ∈ fp, H' b = none) ∧ W i m H' := fun {s' H'} I' nx => by
      obtain ⟨m', hm, w'⟩ := hNx H' nx
      have kept : ∀ b ∈ fp, ∀ o, s7.heap.get? b = some o → s'.heap.get? b = some o ∧ H' b = none := fun b hb o e =>
        have z := I'.pin (b, o) (List.mem_append_right _ (List.mem_append_right _ (mem_pinsAt hb e)))
        ⟨z.1, z.2.1⟩
      refine ⟨m', hm, i + 1, H', (I'.unpinned (pins := [])).weak (by rw [← hw8, wipe_length]) (fun j v e => (wipe_some (hw8 ▸ e)).1), T.keep _ _ _ st7 fun b hb o e => (kept b hb o e).1, fun b hb => ?_, w'⟩
      obtain ⟨o, e, _⟩ := T.obj _ _ st7 b hb
      exact (kept b hb o e).2
    refine thnF (pt.run _ s8 σ8 H8 _ I8 q8) fun b s9 ⟨H9, I9, q9⟩ => ?_
    cases b with
    | false =>
      simp only [Bool.false_eq_true, if_false] at q9 ⊢
      exact next I9 q9
    | true =>
      simp only [if_true] at q9 ⊢
      refine wpAny_mono (pe.run _ s9 σ8 H9 _ (I9.wish _) q9) (fun z s10 ⟨yv, H10, I10, r10, acc, hD10, hz10, nx⟩ => ?_) fun e s' x => ?_
      · exact app_ok (X := X.blk s3 H3 scope ce fp) (Inv.unwish I10) hD10 hz10 r10 fun s11 I11 => next I11 nx
      · have z := blk_out I3 f3 hC hcf hst hf tk x
        cases use <;> exact z
theorem lcX_core {Q : VK} {elt tg iter : Expr} {ifs : List Expr} {scope : Scope} {own : List (Str × Nat)} {pos pos' : Pos} {wi : TI} {g : TG} {tt : TT} {te : TE} {use : Option (Value → Sem Unit)} {Qf : Value → Shared → Prop}
    (hc : X.calm = true) (hN : X.N.Nodup) (hst : X.stack = X.env :: X.outer) (hf : X.env.frame = some X.env.locals) (tk : Takes X (fun cls d _ H => E cls d H)) (I : Inv X pins σ H s) (hi : PI X tg iter wi) (ok : BlkOk X.N X.env.scope scope own)
    (hg : ∀ (s : Shared) (H : Hp) (C : Addr) (cl : List (Str × Addr)) (fp : List Addr), PG (X.blk s H scope (compEnvC scope cl C X.env) fp) tg g) (ht : ∀ (s : Shared) (H : Hp) (C : Addr) (cl : List (Str × Addr)) (fp : List Addr), PTs (X.blk s H scope (compEnvC scope cl C X.env) fp) ifs tt)
    (he : ∀ (s : Shared) (H : Hp) (C : Addr) (cl : List (Str × Addr)) (fp : List Addr), PE (X.blkX (fun cls d _ H => E cls d H) s H scope (compEnvC scope cl C X.env) fp) elt te) (hs : ∀ x, foldedSetIterable iter X.env x = pure x)
    (h : tLc wi g tt te (own.map (·.2)) σ H Q)
    (hRR : ∀ D ce s' m H', Inv X pins σ H' s' → Q (.ref D) H' → s'.heap.Ns ce.locals m → FpOk X pins H' ce.locals → compEnds (model X.prog X.w) X.A X.xe use Qf (.ref D) ce (.ok .next) s') :
    wpAny (model X.prog X.w) X.A (comprehension (.ListComp elt [⟨tg, iter, ifs, 0⟩] scope pos) scope X.env pos' (newList []) false (eval iter X.env) use) Qf X.xe s := by
  refine comprehension_at (use := use) rfl hs (closure_ok fun y hy e => (ok.free y hy e).elim (fun k => I.ok.has _ (.inl k)) fun k => I.ok.has _ (.inr k)) ok.kind (fun y hy e => by rw [ok.uniq y hy, e])
    (thn (hi.run pins s σ H _ I h) fun _ s1 hx => thn hx ?_)
  rintro _ s2 ⟨it, fp, tn, J, H2, rfl, I2, T, st2, f2, q⟩
  refine wpAny_newObj_type (newEnv_comp ?_) (by show 0 ≤ sizeLine; decide)
  obtain ⟨W, ⟨m0, w0⟩, turn⟩ := q s2.heap.objs.size (I2.hok.fresh (Nat.le_refl _))
  generalize hs3 : ({ s2 with heap := s2.heap.push { cls := .type "list", data := .seq ([] : List Value).toArray } } : Shared) = s3
  have push : ∀ b o, s2.heap.get? b = some o → s3.heap.get? b = some o := fun b o e => by rw [← hs3]; exact Heap.get?_push_of_some _ e
  have I3 : Inv X pins σ (upd H2 s2.heap.objs.size (.lst [])) s3 := by
    rw [← hs3]
    exact I2.laid (t' := s2.toks) (fun b o e => Heap.get?_push_of_some _ e) (Nat.le_refl _) ⟨Nat.zero_le _, [], 0, .nil, Heap.get?_push_size _ rfl⟩
  have f3 : ∀ b ∈ fp, FpOk X pins (upd H2 s2.heap.objs.size (.lst [])) b ∧ b < s3.heap.objs.size := fun b hb => by
    obtain ⟨o, e, _⟩ := T.obj _ _ st2 b hb
    exact ⟨⟨by rw [upd_ne (Nat.ne_of_lt (Heap.lt_size e))]; exact (f2 b hb).1, (f2 b hb).2⟩, Heap.lt_size (push b o e)⟩
  have I4 := block_start I3 ok hN f3
  have st4 : tn 0 (pushCells (s3.heap.push { cls := .type "dict", data := .dict #[] }) scope.names) := T.keep _ _ _ st2 fun b _ o e => pushCells_keeps _ _ _ _ (Heap.get?_push_of_some _ (push b o e))
  have loop := lcX_loop (Q := Q) (elt := elt) (iter := iter) (pos := pos) (use := use) (Qf := Qf) (m0 := m0) hc I3 f3 I4 T st4 rfl rfl hst hf tk (hg _ _ _ _ _) (ht _ _ _ _ _) (he _ _ _ _ _) w0 turn fun s' m H' => hRR _ _ s' m H'
  exact codeAny_compStart_list loop (T.self X.A 0 _ _ _ st4 loop)
/-- as a value -/
theorem pe_lcX {elt tg iter : Expr} {ifs : List Expr} {scope : Scope} {own : List (Str × Nat)} {pos : Pos} {wi : TI} {g : TG} {tt : TT} {te : TE} (hc : X.calm = true) (hN : X.N.Nodup) (hst : X.stack = X.env :: X.outer) (hf : X.env.frame = some X.env.locals) (tk : Takes X (fun cls d _ H => E cls d H)) (hi : PI X tg iter wi) (ok : BlkOk X.N X.env.scope scope own)
    (hg : ∀ (s : Shared) (H : Hp) (C : Addr) (cl : List (Str × Addr)) (fp : List Addr), PG (X.blk s H scope (compEnvC scope cl C X.env) fp) tg g) (ht : ∀ (s : Shared) (H : Hp) (C : Addr) (cl : List (Str × Addr)) (fp : List Addr), PTs (X.blk s H scope (compEnvC scope cl C X.env) fp) ifs tt)
    (he : ∀ (s : Shared) (H : Hp) (C : Addr) (cl : List (Str × Addr)) (fp : List Addr), PE (X.blkX (fun cls d _ H => E cls d H) s H scope (compEnvC scope cl C X.env) fp) elt te) (hs : ∀ x, foldedSetIterable iter X.env x = pure x := by intro _; rfl) :
    PE X (.ListComp elt [⟨tg, iter, ifs, 0⟩] scope pos) (tLc wi g tt te (own.map (·.2))) := ⟨fun pins s σ H Q I h => by
  rw [eval_ListComp]
  exact lcX_core hc hN hst hf tk I hi ok hg ht he hs h fun D ce s' m H' I' q hn ⟨f0, f1, f2, f3, f4, f5⟩ => ⟨m, hn, fun h'' sb => ⟨.ref D, H', I'.turned (t' := s'.toks) (fun b o hb e => (sb.2 b hb).trans e) f0 f1 f3 f4 f5, rfl, q⟩⟩⟩
/-- y = [..] on one line, y a local -/
theorem ps_setLcX {i : Nat} {y : Str} {py : Pos} {elt tg iter : Expr} {ifs : List Expr} {scope : Scope} {own : List (Str × Nat)} {pos spos : Pos} {wi : TI} {g : TG} {tt : TT} {te : TE} (hc : X.calm = true) (hN : X.N.Nodup) (hst : X.stack = X.env :: X.outer) (hf : X.env.frame = some X.env.locals) (tk : Takes X (fun cls d _ H => E cls d H))
    (hy : X.N[i]? = some y) (hyl : X.env.scope.names.lookup y = some .local) (hsw : swapsWith (.ListComp elt [⟨tg, iter, ifs, 0⟩] scope pos) (some (.Name y py)) spos.line X.env = pure true) (hi : PI X tg iter wi) (ok : BlkOk X.N X.env.scope scope own)
    (hg : ∀ (s : Shared) (H : Hp) (C : Addr) (cl : List (Str × Addr)) (fp : List Addr), PG (X.blk s H scope (compEnvC scope cl C X.env) fp) tg g) (ht : ∀ (s : Shared) (H : Hp) (C : Addr) (cl : List (Str × Addr)) (fp : List Addr), PTs (X.blk s H scope (compEnvC scope cl C X.env) fp) ifs tt)
    (he : ∀ (s : Shared) (H : Hp) (C : Addr) (cl : List (Str × Addr)) (fp : List Addr), PE (X.blkX (fun cls d _ H => E cls d H) s H scope (compEnvC scope cl C X.env) fp) elt te) (hs : ∀ x, foldedSetIterable iter X.env x = pure x := by intro _; rfl) :
    PS X (.Assign [.Name y py] (.ListComp elt [⟨tg, iter, ifs, 0⟩] scope pos) spos) (tAsg (tLc wi g tt te (own.map (·.2))) (gName i)) := ⟨fun pins s σ H D I h => by
  rw [exec_Assign_Name_used _ _ _ _ hsw]
  refine wpAny_bind (wpAny_standAt (wpAny_bind ?_))
  show wpAny _ X.A (do let _ ← comprehension (.ListComp elt [⟨tg, iter, ifs, 0⟩] scope pos) scope X.env (firstIterPos [⟨tg, iter, ifs, 0⟩] pos) (newList []) false (eval iter X.env) (some (assign (.Name y py) X.env))) _ _ s
  refine wpAny_bind (thn (lcX_core (Qf := fun _ s' => SP X pins D .next s') (Q := fun x H1 => gName i x σ H1 D.nx) hc hN hst hf tk I hi ok hg ht he hs h fun L ce s' m H' I' q hn ⟨f0, f1, f2, f3, f4, f5⟩ => ?_) fun _ s' hq => wpAny_pure (wpAny_pure hq))
  show wpAny _ _ (assign (.Name y py) X.env (.ref L)) _ _ _
  refine wpAny_assign_Name (store_ok2 (v := V.ref L) I' hN hy (.inl hyl) rfl (fun s2 I2 ⟨a, sb, ha⟩ => ?_) (.inr hyl))
  have ne : ce.locals ≠ a := ha.elim (fun z => by rw [z]; exact f1) fun z e => f4 y a z e.symm
  exact ⟨m, hn.sameBut sb ne, fun h3 sb3 => ⟨_, H', I2.turned (t' := s2.toks) (fun b o hb e => (sb3.2 b hb).trans e) f0 f1 f3 f4 f5, q⟩⟩⟩
end
end L2
namespace Sl
open PySem PySem.Spec PyProof.Rows L2
section
variable {P : Program} {w : World} {K : PySem.W.Frag} {mg : Str → Option Value} {base : Heap}

end
section
variable {P : Program} {w : World} {K : PySem.W.Frag} {mg : Str → Option Value} {base : Heap}
local macro_rules | `(tactic| get_elem_tactic_trivial) => `(tactic| (repeat first | exact Wk.nil | exact Wk'.nil | refine Wk.same ?_ | refine Wk'.same ?_ | refine Wk.un (fun _ z => nomatch z) ?_ | refine Wk'.un ?_))
/-! level 2: a new list of scalars, told with all chunks as they stand, grown cold at once -/

end
section
variable {P : Program} {w : World} {K : PySem.W.Frag} {mg : Str → Option Value} {base : Heap}
local macro_rules | `(tactic| get_elem_tactic_trivial) => `(tactic| (repeat first | exact Wk.nil | exact Wk'.nil | refine Wk.same ?_ | refine Wk'.same ?_ | refine Wk.un (fun _ z => nomatch z) ?_ | refine Wk'.un ?_))
/-! texts put together; wide numbers as texts; partition; wide numbers shown at any depth -/
def wFmt (wa : WE) : WE := fun ρ Ψ => wa ρ fun r ρ1 => match r with
  | .dat (.str y) => y.length ≤ sizeLine ∧ Ψ (.dat (.str y)) ρ1
  | .dat (.int i) => i.natAbs.log2 < 1920 ∧ Ψ (.dat (.str (toString i))) ρ1
  | _ => False
instance sd_fmt {te : TE} {wa : WE} [a : Sd K te wa] : Sd K (tFmt te) (wFmt wa) where
  run B C H σ ρ Q Ψ S h k := a.run B C H σ ρ _ _ S h fun C1 H1 v1 r1 ρ1 S1 s1 ok1 h1 => by
    cases r1 with
    | hot i ds => exact False.elim h1
    | box i n => exact False.elim h1
    | dat x =>
      cases x <;> try exact False.elim h1
      · cases ok1
        exact .inr ⟨_, rfl, h1.1, k _ _ _ (.dat (.str _)) _ S1 s1 (.str _) h1.2⟩
      · cases ok1
        exact .inl ⟨_, rfl, h1.1, k _ _ _ (.dat (.str _)) _ S1 s1 (.str _) h1.2⟩
def tJoinF (ts : List TE) : TE := fun σ H Q => tJs ts Str.empty σ H fun out H1 => Q (.str out) H1
theorem peJoinF {X : Cx} {v1 v2 : Expr} {rest : List Expr} {ts : List TE} {pos : Pos} (h : PJ X (v1 :: v2 :: rest) ts) : PE X (.JoinedStr (v1 :: v2 :: rest) pos) (tJoinF ts) := pe_joined h
abbrev WJ := Str → List Sl → (Str → List Sl → Prop) → Prop
class Sj (K : PySem.W.Frag) (ts : List TE) (w : outParam WJ) : Prop where
  run : ∀ (B : Bs) (C H : Hp) (σ : L2.St) (ρ : List Sl) (acc : Str) (Q : Str → Hp → Prop) (Φ : Str → List Sl → Prop), Sep K B C H σ ρ → w acc ρ Φ → (∀ C' G out ρ', Sep K B C' G σ ρ' → Same C C' → Φ out ρ' → Q out G) → tJs ts acc σ H Q
def wJnil : WJ := fun acc ρ Φ => Φ acc ρ
instance sj_nil : Sj K [] wJnil where
  run B C H σ ρ acc Q Φ S h k := k _ _ _ _ S (Same.refl _) h
def wJcons (wa : WE) (wr : WJ) : WJ := fun acc ρ Φ => wa ρ fun r ρ1 => isStr r fun y => (acc ++ y).length ≤ sizeLine ∧ wr (acc ++ y) ρ1 Φ
instance sj_cons {t : TE} {ts : List TE} {wa : WE} {wr : WJ} [a : Sd K t wa] [b : Sj K ts wr] : Sj K (t :: ts) (wJcons wa wr) where
  run B C H σ ρ acc Q Φ S h k := a.run B C H σ ρ _ _ S h fun C1 H1 v1 r1 ρ1 S1 s1 ok1 h1 => by
    obtain ⟨y, rfl, hl, h1⟩ := isStr_run ok1 h1
    exact ⟨y, rfl, hl, b.run B C1 H1 σ ρ1 _ _ Φ S1 h1 fun C2 H2 out ρ2 S2 s2 z => k _ _ _ _ S2 (s1.trans s2) z⟩
def wJoinF (w : WJ) : WE := fun ρ Ψ => w Str.empty ρ fun out ρ1 => Ψ (.dat (.str out)) ρ1
instance sd_joinF {ts : List TE} {w : WJ} [a : Sj K ts w] : Sd K (tJoinF ts) (wJoinF w) where
  run B C H σ ρ Q Ψ S h k := a.run B C H σ ρ _ _ _ S h fun C' G out ρ' S' s' z => k _ _ _ (.dat (.str out)) _ S' s' (.str _) z
/-! str of a text or a number of any size -/
/-! partition -/
end
section
variable {P : Program} {w : World} {K : PySem.W.Frag} {mg : Str → Option Value} {base : Heap}
local macro_rules | `(tactic| get_elem_tactic_trivial) => `(tactic| (repeat first | exact Wk.nil | exact Wk'.nil | refine Wk.same ?_ | refine Wk'.same ?_ | refine Wk.un (fun _ z => nomatch z) ?_ | refine Wk'.un ?_))
/-! shown, numbers of any size -/
end
section
variable {P : Program} {w : World} {K : PySem.W.Frag} {mg : Str → Option Value} {base : Heap}
local macro_rules | `(tactic| get_elem_tactic_trivial) => `(tactic| (repeat first | exact Wk.nil | exact Wk'.nil | refine Wk.same ?_ | refine Wk'.same ?_ | refine Wk.un (fun _ z => nomatch z) ?_ | refine Wk'.un ?_))
/-! what may be shown so -/
/-! a list taken apart -/
def wgUnl (n : Nat) (ws : List Dt → List Sl → (List Sl → Prop) → Prop) : WG
  | .lst ds, ρ, k => ds.length = n ∧ ws ds ρ k
  | _, _, _ => False
instance sg_unl {n : Nat} {gs : TGs} {ws : List Dt → List Sl → (List Sl → Prop) → Prop} [a : Sgs K gs ws] : Sg K (gUnl K n gs) (wgUnl n ws) where
  run B C H σ ρ v d Q Ψ S r h k := by
    cases d <;> try exact False.elim h
    cases r with
    | lst hs rl => exact ⟨_, _, rfl, SqL.of (S.cold _ _ hs), by rw [rl.len]; exact h.1, a.run B C H σ ρ _ _ _ _ S rl h.2 k⟩

end
section
variable {P : Program} {w : World} {K : PySem.W.Frag} {mg : Str → Option Value} {base : Heap}
local macro_rules | `(tactic| get_elem_tactic_trivial) => `(tactic| (repeat first | exact Wk.nil | exact Wk'.nil | refine Wk.same ?_ | refine Wk'.same ?_ | refine Wk.un (fun _ z => nomatch z) ?_ | refine Wk'.un ?_))
/-! level 3: lists, instances, dicts that are changed wherever they stand, and packs of such, by their addresses -/
inductive Fl where
  | lst (ds : List Dt) | ins (c : Str) (ns : List Str) (ds : List Dt) | dic (ks : List Key) (ds : List Dt) | lck (ks : List Key) (ds : List Dt)
abbrev Fm := List (Addr × Fl)
inductive Ob where
  | fl (f : Fl) | pk (I : Addr → Fm → Prop)
abbrev My := List (Addr × Ob)
def FlOk (K : PySem.W.Frag) (C U : Hp) (a : Addr) : Fl → Prop
  | .lst ds => ∃ vs, U a = some (.lst vs) ∧ RpL K C vs ds
  | .ins c ns ds => ∃ dx vs, U a = some (.ins (He.ga K c) dx (ns.zip vs)) ∧ U dx = some (.own a) ∧ ns.length = vs.length ∧ RpL K C vs ds ∧ ∀ f, f ∈ ns → FldOk K c f
  | .dic ks ds => ∃ vs, U a = some (.dK (ks.zip vs)) ∧ ks.length = vs.length ∧ ks.Nodup ∧ RpL K C vs ds
  | .lck ks ds => ∃ o vs, U a = some (.frz o (.dK (ks.zip vs))) ∧ ks.length = vs.length ∧ ks.Nodup ∧ RpL K C vs ds
structure Mf (K : PySem.W.Frag) (B : Bs) (C U : Hp) (m : Fm) : Prop where
  nd : (m.map (·.1)).Nodup
  at_ : ∀ a f, (a, f) ∈ m → FlOk K C U a f
  all : ∀ a o, U a = some o → (∃ f, (a, f) ∈ m) ∨ ∃ x f, o = .own x ∧ (x, f) ∈ m
  fr : ∀ a o, U a = some o → C a = none ∧ B.H0 a = none ∧ ∀ i, B.bx ≠ some (i, a)
def SepF (K : PySem.W.Frag) (B : Bs) (C H : Hp) (σ : L2.St) (ρ : List Sl) (m : Fm) : Prop := ∃ U, Mf K B C U m ∧ Sep K (B.hang U) C H σ ρ
def NoSlot (σ : L2.St) (ρ : List Sl) (a : Addr) : Prop := ∀ (j : Nat) (t : Sl), ρ[j]? = some t → t.mut = true → σ[j]? ≠ some (some (V.ref a))
section
variable {B : Bs} {C C' H G U U' : Hp} {σ σ' : L2.St} {ρ ρ' : List Sl} {m m1 m2 : Fm} {a : Addr} {f : Fl}
theorem FlOk.root (h : FlOk K C U a f) : ∃ o, U a = some o ∧ ∀ x, o ≠ .own x := by
  cases f with
  | lst ds => obtain ⟨vs, e, _⟩ := h; exact ⟨_, e, fun _ z => nomatch z⟩
  | ins c ns ds => obtain ⟨dx, vs, e, _⟩ := h; exact ⟨_, e, fun _ z => nomatch z⟩
  | dic ks ds => obtain ⟨vs, e, _⟩ := h; exact ⟨_, e, fun _ z => nomatch z⟩
  | lck ks ds => obtain ⟨o, vs, e, _⟩ := h; exact ⟨_, e, fun _ z => nomatch z⟩
theorem FlOk.same (h : FlOk K C U a f) (s : Same C C') : FlOk K C' U a f := by
  cases f with
  | lst ds => obtain ⟨vs, e, r⟩ := h; exact ⟨vs, e, r.same s⟩
  | ins c ns ds => obtain ⟨dx, vs, e, e2, l, r, ff⟩ := h; exact ⟨dx, vs, e, e2, l, r.same s, ff⟩
  | dic ks ds => obtain ⟨vs, e, l, n, r⟩ := h; exact ⟨vs, e, l, n, r.same s⟩
  | lck ks ds => obtain ⟨o, vs, e, l, n, r⟩ := h; exact ⟨o, vs, e, l, n, r.same s⟩
theorem FlOk.heap (h : FlOk K C U a f) (k : ∀ b o, (b = a ∨ o = .own a) → U b = some o → U' b = some o) : FlOk K C U' a f := by
  cases f with
  | lst ds => obtain ⟨vs, e, r⟩ := h; exact ⟨vs, k _ _ (.inl rfl) e, r⟩
  | ins c ns ds => obtain ⟨dx, vs, e, e2, l, r, ff⟩ := h; exact ⟨dx, vs, k _ _ (.inl rfl) e, k _ _ (.inr rfl) e2, l, r, ff⟩
  | dic ks ds => obtain ⟨vs, e, l, r⟩ := h; exact ⟨vs, k _ _ (.inl rfl) e, l, r⟩
  | lck ks ds => obtain ⟨o, vs, e, l, r⟩ := h; exact ⟨o, vs, k _ _ (.inl rfl) e, l, r⟩
theorem Mf.ne (M : Mf K B C U m) (h : (a, f) ∈ m) : U a ≠ none := fun z => by
  obtain ⟨o, e, _⟩ := (M.at_ a f h).root
  rw [z] at e
  cases e
theorem Mf.on (M : Mf K B C U m) (g : Same B.C0 C) (s : Same C C') (S : Sep K (B.hang U) C' G σ' ρ') : Mf K B C' U m :=
  ⟨M.nd, fun a f h => (M.at_ a f h).same s, M.all, fun a o h => by
    obtain ⟨c, b, x⟩ := M.fr a o h
    refine ⟨?_, b, x⟩
    cases q : C' a with
    | none => rfl
    | some u =>
      have := S.new a u q (g.free c)
      rw [hang_at h] at this
      cases this⟩
theorem Mf.bound (M : Mf K B C U m) (S : Sep K (B.hang U) C H σ ρ) {o : HO} (h : U a = some o) : H a = some o := S.keep a o (hang_at h) (M.fr a o h).2.2
theorem Mf.noSlot (M : Mf K B C U m) (S : Sep K (B.hang U) C H σ ρ) {o : HO} (h : U a = some o) : NoSlot σ ρ a := fun j t hj mt e => by
  obtain ⟨_, b0, bx⟩ := M.fr a o h
  cases t with
  | un => cases mt
  | dat d => cases mt
  | hot ds =>
    have := S.loc j a ds hj e
    rw [hang_at h] at this
    cases this
  | box n =>
    rcases S.lob j a n hj e with z | z
    · rw [hang_at h] at z
      cases z
    · exact absurd z (bx j)
/-- fewer are hung -/
theorem Sep.hangLe (S : Sep K (B.hang U) C H σ ρ) (le : ∀ a o, U' a = some o → U a = some o) (fr : ∀ a o, U a = some o → B.H0 a = none) : Sep K (B.hang U') C H σ ρ := by
  have off : ∀ {a : Addr}, (B.hang U).H0 a = none → (B.hang U').H0 a = none := fun {a} h => by
    obtain ⟨h1, h2⟩ := hang_no h
    have h3 : U' a = none := by
      cases q : U' a with
      | none => rfl
      | some o => rw [le a o q] at h1; cases h1
    rw [hang_off h3]
    exact h2
  have b0 : ∀ {a : Addr}, U' a = none → ∀ {x : HO}, B.H0 a = some x → (B.hang U).H0 a = some x := fun {a} e {x} h => by
    cases q : U a with
    | some o => rw [fr a o q] at h; cases h
    | none => rw [hang_off q]; exact h
  refine ⟨S.cold, S.len, S.sl, S.ne, S.grow, fun a x e n => off (S.new a x e n), fun a h => ?_, fun a x h n => ?_, fun i a ds h e => off (S.loc i a ds h e), fun i a n h e => (S.lob i a n h e).imp off id, S.par, S.pz⟩
  · cases q : U' a with
    | some o => exact S.dom a (by rw [hang_at (le a o q)]; exact fun z => nomatch z)
    | none =>
      rw [hang_off q] at h
      cases q2 : B.H0 a with
      | none => exact absurd q2 h
      | some x => exact S.dom a (by rw [b0 q q2]; exact fun z => nomatch z)
  · cases q : U' a with
    | some o =>
      rw [hang_at q] at h
      cases h
      exact S.keep a _ (hang_at (le a _ q)) n
    | none =>
      rw [hang_off q] at h
      exact S.keep a x (b0 q h) n
theorem Sep.unhang (S : Sep K (B.hang U) C H σ ρ) (M : Mf K B C U m) : Sep K B C H σ ρ := by
  have := S.hangLe (U' := fun _ => none) (fun a o h => nomatch h) fun a o h => (M.fr a o h).2.1
  rwa [hang_nil] at this
/-- a part of what is hung -/
noncomputable def partU (U : Hp) (m : Fm) : Hp := fun a => by
  classical
  exact if (∃ f, (a, f) ∈ m) ∨ ∃ x f, U a = some (.own x) ∧ (x, f) ∈ m then U a else none
theorem partU_le {o : HO} (h : partU U m a = some o) : U a = some o ∧ ((∃ f, (a, f) ∈ m) ∨ ∃ x f, o = .own x ∧ (x, f) ∈ m) := by
  unfold partU at h
  split at h
  · next q =>
    refine ⟨h, q.imp id ?_⟩
    rintro ⟨x, f, e, k⟩
    rw [h] at e
    cases e
    exact ⟨x, f, rfl, k⟩
  · cases h
theorem partU_in {o : HO} (h : U a = some o) (q : (∃ f, (a, f) ∈ m) ∨ ∃ x f, o = .own x ∧ (x, f) ∈ m) : partU U m a = some o := by
  unfold partU
  rw [if_pos]
  · exact h
  · refine q.imp id ?_
    rintro ⟨x, f, rfl, k⟩
    exact ⟨x, f, h, k⟩
theorem Mf.part {M' : Fm} (M : Mf K B C U M') (sub : ∀ x, x ∈ m → x ∈ M') (nd : (m.map (·.1)).Nodup) : Mf K B C (partU U m) m :=
  ⟨nd, fun a f h => (M.at_ a f (sub _ h)).heap fun b o q e => partU_in e (q.imp (fun z => ⟨f, by rw [z]; exact h⟩) fun z => ⟨a, f, z, h⟩), fun a o h => (partU_le h).2, fun a o h => M.fr a o (partU_le h).1⟩
theorem SepF.split (S : SepF K B C H σ ρ (m1 ++ m2)) : ∃ U1 U2, Mf K B C U1 m1 ∧ Mf K B C U2 m2 ∧ Sep K (B.hang U2) C H σ ρ ∧ ∀ a o, U1 a = some o → H a = some o ∧ U2 a = none ∧ NoSlot σ ρ a := by
  obtain ⟨U, M, S⟩ := S
  have nd := M.nd
  rw [List.map_append] at nd
  obtain ⟨n1, n2, n3⟩ := List.nodup_append.mp nd
  have dis : ∀ a f g, (a, f) ∈ m1 → (a, g) ∈ m2 → False := fun a f g h1 h2 => n3 a (List.mem_map.mpr ⟨_, h1, rfl⟩) a (List.mem_map.mpr ⟨_, h2, rfl⟩) rfl
  refine ⟨partU U m1, partU U m2, M.part (fun x h => List.mem_append_left _ h) n1, M.part (fun x h => List.mem_append_right _ h) n2, S.hangLe (fun a o h => (partU_le h).1) fun a o h => (M.fr a o h).2.1, fun a o h => ?_⟩
  obtain ⟨e, k⟩ := partU_le h
  refine ⟨M.bound S e, ?_, M.noSlot S e⟩
  cases q : partU U m2 a with
  | none => rfl
  | some u =>
    obtain ⟨e2, k2⟩ := partU_le q
    rw [e] at e2
    cases e2
    have nown : ∀ {g : Fl} {x : Addr}, (a, g) ∈ m1 ++ m2 → o ≠ .own x := fun {g x} z => by
      obtain ⟨o', e', ne⟩ := (M.at_ a g z).root
      rw [e] at e'
      cases e'
      exact ne x
    rcases k with ⟨f, k⟩ | ⟨x, f, k, k'⟩
    · rcases k2 with ⟨g, k2⟩ | ⟨y, g, k2, _⟩
      · exact (dis a f g k k2).elim
      · exact absurd k2 (nown (List.mem_append_left _ k))
    · rcases k2 with ⟨g, k2⟩ | ⟨y, g, k2, k2'⟩
      · exact absurd k (nown (List.mem_append_right _ k2))
      · rw [k] at k2
        cases k2
        exact (dis x f g k' k2').elim
theorem SepF.join {U1 U2 : Hp} (M1 : Mf K B C U1 m1) (M2 : Mf K B C U2 m2) (S : Sep K (B.hang U2) C H σ ρ) (hh : ∀ a o, U1 a = some o → H a = some o ∧ U2 a = none ∧ NoSlot σ ρ a) : SepF K B C H σ ρ (m1 ++ m2) := by
  have l1 : ∀ {b : Addr} {o : HO}, U1 b = some o → (fun a => match U1 a with | some o => some o | none => U2 a) b = some o := fun {b o} e => by
    show (match U1 b with | some o => some o | none => U2 b) = _
    rw [e]
  have l2 : ∀ {b : Addr} {o : HO}, U2 b = some o → (fun a => match U1 a with | some o => some o | none => U2 a) b = some o := fun {b o} e => by
    show (match U1 b with | some o => some o | none => U2 b) = _
    cases q : U1 b with
    | none => exact e
    | some u =>
      have := (hh b u q).2.1
      rw [e] at this
      cases this
  have un : ∀ {b : Addr} {o : HO}, (fun a => match U1 a with | some o => some o | none => U2 a) b = some o → U1 b = some o ∨ U2 b = some o := fun {b o} e => by
    have e : (match U1 b with | some o => some o | none => U2 b) = some o := e
    cases q : U1 b with
    | none => rw [q] at e; exact .inr e
    | some u => rw [q] at e; cases e; exact .inl rfl
  refine ⟨_, ⟨?_, fun a f h => ?_, fun a o h => ?_, fun a o h => ?_⟩, S.hangAll (U' := U1) fun a o h => ⟨(hh a o h).1, (M1.fr a o h).1, by rw [hang_off (hh a o h).2.1]; exact (M1.fr a o h).2.1, (hh a o h).2.2⟩⟩
  · rw [List.map_append]
    refine List.nodup_append.mpr ⟨M1.nd, M2.nd, fun a h1 b h2 z => ?_⟩
    subst z
    obtain ⟨⟨x, f⟩, g1, rfl⟩ := List.mem_map.mp h1
    obtain ⟨⟨y, g⟩, g2, e2⟩ := List.mem_map.mp h2
    have e3 : y = x := e2
    subst e3
    cases q : U1 y with
    | none => exact M1.ne g1 q
    | some o => exact M2.ne g2 (hh y o q).2.1
  · rcases List.mem_append.mp h with h | h
    · exact (M1.at_ a f h).heap fun b o _ e => l1 e
    · exact (M2.at_ a f h).heap fun b o _ e => l2 e
  · rcases un h with h | h
    · exact (M1.all a o h).imp (fun ⟨f, z⟩ => ⟨f, List.mem_append_left _ z⟩) fun ⟨x, f, e, z⟩ => ⟨x, f, e, List.mem_append_left _ z⟩
    · exact (M2.all a o h).imp (fun ⟨f, z⟩ => ⟨f, List.mem_append_right _ z⟩) fun ⟨x, f, e, z⟩ => ⟨x, f, e, List.mem_append_right _ z⟩
  · rcases un h with h | h
    · exact M1.fr a o h
    · exact M2.fr a o h
theorem Mf.perm (M : Mf K B C U m1) (p : m1.Perm m2) : Mf K B C U m2 :=
  ⟨(p.map _).nodup_iff.mp M.nd, fun a f h => M.at_ a f (p.mem_iff.mpr h), fun a o h => (M.all a o h).imp (fun ⟨f, z⟩ => ⟨f, p.mem_iff.mp z⟩) fun ⟨x, f, e, z⟩ => ⟨x, f, e, p.mem_iff.mp z⟩, M.fr⟩
theorem SepF.perm (S : SepF K B C H σ ρ m1) (p : m1.Perm m2) : SepF K B C H σ ρ m2 := by
  obtain ⟨U, M, S⟩ := S
  exact ⟨U, M.perm p, S⟩
theorem SepF.right (S : SepF K B C H σ ρ (m1 ++ m2)) : SepF K B C H σ ρ m2 := by
  obtain ⟨U1, U2, M1, M2, S, _⟩ := S.split
  exact ⟨U2, M2, S⟩
theorem SepF.left (S : SepF K B C H σ ρ (m1 ++ m2)) : SepF K B C H σ ρ m1 := (S.perm List.perm_append_comm).right
theorem SepF.sep (S : SepF K B C H σ ρ m) : Sep K B C H σ ρ := by
  obtain ⟨U, M, S⟩ := S
  exact S.unhang M
theorem SepF.has (S : SepF K B C H σ ρ m) (h : (a, f) ∈ m) : FlOk K C H a f := by
  obtain ⟨U, M, S⟩ := S
  exact (M.at_ a f h).heap fun b o _ e => M.bound S e
def oneU (a : Addr) (o : HO) : Hp := fun b => if b = a then some o else none
theorem oneU_at {o : HO} : oneU a o a = some o := if_pos rfl
theorem oneU_eq {o u : HO} {b : Addr} (h : oneU a o b = some u) : b = a ∧ u = o := by
  unfold oneU at h
  split at h
  · next e => exact ⟨e, (Option.some.inj h).symm⟩
  · cases h
theorem Mf.one {o : HO} (ok : FlOk K C (oneU a o) a f) (c : C a = none) (b : B.H0 a = none) (x : ∀ i, B.bx ≠ some (i, a)) : Mf K B C (oneU a o) [(a, f)] :=
  ⟨List.nodup_cons.mpr ⟨by simp, .nil⟩, fun b g h => by
    obtain ⟨rfl, rfl⟩ := Prod.mk.inj (List.mem_singleton.mp h)
    exact ok, fun b u h => .inl ⟨f, by rw [(oneU_eq h).1]; exact List.mem_cons_self ..⟩, fun b' u h => by
    rw [(oneU_eq h).1]
    exact ⟨c, b, x⟩⟩
/-- a thing of its own is hung -/
theorem Sep.nobx (S : Sep K B C H σ ρ) (ns : NoSlot σ ρ a) (i : Nat) : B.bx ≠ some (i, a) := fun e => by
  obtain ⟨e1, n, e2⟩ := S.par i a e
  exact ns i _ e2 rfl e1
theorem SepF.push (S : Sep K (B.hang U) C H σ ρ) (M : Mf K B C U m) {o : HO} (ha : H a = some o) (ca : C a = none) (h0 : (B.hang U).H0 a = none) (ns : NoSlot σ ρ a) (ok : FlOk K C (oneU a o) a f) : SepF K B C H σ ρ ((a, f) :: m) := by
  obtain ⟨u0, b0⟩ := hang_no h0
  refine SepF.join (m1 := [(a, f)]) (Mf.one ok ca b0 (S.nobx ns)) M S fun b u h => ?_
  obtain ⟨rfl, rfl⟩ := oneU_eq h
  exact ⟨ha, u0, ns⟩
theorem SepF.fresh {ds : List Dt} (S : Sep K (B.hang U) C H σ ρ) (M : Mf K B C U m) (f : Fr K (B.hang U) C H σ ρ a ds) : SepF K B C H σ ρ ((a, .lst ds) :: m) := by
  obtain ⟨⟨vs, ha, r⟩, ca, h0, ns⟩ := f
  exact SepF.push S M ha ca h0 ns ⟨vs, oneU_at, r⟩
theorem Sep.wr {o' : HO} (S : Sep K B C H σ ρ) (ca : C a = none) (h0 : B.H0 a = none) (ns : NoSlot σ ρ a) : Sep K B C (upd H a o') σ ρ := by
  have nC : ∀ b x, C b = some x → b ≠ a := fun b x h z => by rw [z, ca] at h; cases h
  have nB : ∀ b x, B.H0 b = some x → b ≠ a := fun b x h z => by rw [z, h0] at h; cases h
  refine ⟨fun b x e => by rw [upd_ne (nC b x e)]; exact S.cold _ _ e, S.len, fun i s h => ?_, S.ne, S.grow, S.new, fun b h => ?_, fun b x h n => by rw [upd_ne (nB b x h)]; exact S.keep b x h n, S.loc, S.lob, S.par, S.pz⟩
  · have q := S.sl i s h
    cases s with
    | un => trivial
    | dat d => exact q
    | hot ds =>
      obtain ⟨b, vs, e, h2, r, h3⟩ := q
      exact ⟨b, vs, e, by rw [upd_ne (fun z : b = a => ns i _ h rfl (by rw [← z]; exact e))]; exact h2, r, h3⟩
    | box n =>
      obtain ⟨b, e, ⟨x, y, z, h2, h4⟩, h3⟩ := q
      exact ⟨b, e, ⟨x, y, z, by rw [upd_ne (fun z : b = a => ns i _ h rfl (by rw [← z]; exact e))]; exact h2, h4⟩, h3⟩
  · by_cases z : b = a
    · rw [z, upd_same]
      exact fun q => nomatch q
    · rw [upd_ne z]
      exact S.dom b h
/-- one of them is changed -/
theorem SepF.set {f' : Fl} {o' : HO} (S : SepF K B C H σ ρ ((a, f) :: m)) (ok : ∀ U1 : Hp, FlOk K C U1 a f → (∀ b o, U1 b = some o → H b = some o) → FlOk K C (upd U1 a o') a f') : SepF K B C (upd H a o') σ ρ ((a, f') :: m) := by
  obtain ⟨U1, U2, M1, M2, S, hh⟩ := SepF.split (m1 := [(a, f)]) S
  have f1 := M1.at_ a f (List.mem_cons_self ..)
  obtain ⟨o, e1, no⟩ := f1.root
  obtain ⟨ca, b0, bx⟩ := M1.fr a o e1
  obtain ⟨ha, u2, ns⟩ := hh a o e1
  refine SepF.join (m1 := [(a, f')]) (U1 := upd U1 a o') ⟨List.nodup_cons.mpr ⟨by simp, .nil⟩, fun b g h => ?_, fun b u h => ?_, fun b u h => ?_⟩ M2 (S.wr ca (by rw [hang_off u2]; exact b0) ns) fun b u h => ?_
  · obtain ⟨rfl, rfl⟩ := Prod.mk.inj (List.mem_singleton.mp h)
    exact ok U1 f1 fun b o e => (hh b o e).1
  · by_cases z : b = a
    · exact .inl ⟨f', by rw [z]; exact List.mem_cons_self ..⟩
    · rw [upd_ne z] at h
      rcases M1.all b u h with ⟨g, k⟩ | ⟨x, g, k, k2⟩
      · exact absurd (Prod.mk.inj (List.mem_singleton.mp k)).1 z
      · exact .inr ⟨x, f', k, by rw [(Prod.mk.inj (List.mem_singleton.mp k2)).1]; exact List.mem_cons_self ..⟩
  · by_cases z : b = a
    · rw [z]
      exact ⟨ca, b0, bx⟩
    · rw [upd_ne z] at h
      exact M1.fr b u h
  · by_cases z : b = a
    · rw [z]
      rw [z, upd_same] at h
      cases h
      exact ⟨upd_same, u2, ns⟩
    · rw [upd_ne z] at h
      rw [upd_ne z]
      exact hh b u h
theorem Sep.coolU {U1 : Hp} (S : Sep K B C H σ ρ) (h : ∀ a o, U1 a = some o → H a = some o ∧ C a = none ∧ B.H0 a = none ∧ NoSlot σ ρ a) : Sep K B (orU U1 C) H σ ρ ∧ Same C (orU U1 C) := by
  have sC : Same C (orU U1 C) := fun a o e => by
    cases q : U1 a with
    | some u =>
      rw [(h a u q).2.1] at e
      cases e
    | none => rw [orU_off q]; exact e
  have off : ∀ (i : Nat) (t : Sl) (a : Addr), ρ[i]? = some t → t.mut = true → σ[i]? = some (some (V.ref a)) → U1 a = none := fun i t a ht m e => by
    cases q : U1 a with
    | none => rfl
    | some u => exact absurd e ((h a u q).2.2.2 i t ht m)
  refine ⟨⟨fun a o e => ?_, S.len, fun i s hs => ?_, S.ne, S.grow.trans sC, fun a o e n => ?_, S.dom, S.keep, S.loc, S.lob, S.par, S.pz⟩, sC⟩
  · cases q : U1 a with
    | some u =>
      rw [orU_at q] at e
      cases e
      exact (h a _ q).1
    | none => rw [orU_off q] at e; exact S.cold _ _ e
  · have q := S.sl i s hs
    cases s with
    | un => trivial
    | dat d =>
      obtain ⟨v, e, r⟩ := q
      exact ⟨v, e, r.same sC⟩
    | hot ds =>
      obtain ⟨a, vs, e, h2, r, h3⟩ := q
      exact ⟨a, vs, e, h2, r.same sC, by rw [orU_off (off i _ a hs rfl e)]; exact h3⟩
    | box n =>
      obtain ⟨a, e, b, h3⟩ := q
      exact ⟨a, e, b, by rw [orU_off (off i _ a hs rfl e)]; exact h3⟩
  · cases q : U1 a with
    | some u => exact (h a u q).2.2.1
    | none => rw [orU_off q] at e; exact S.new a o e n
def Fl.cold : Fl → Dt
  | .lst ds => .lst ds
  | .ins c ns ds => .obj c ns ds
  | .dic ks ds => .dic ks ds
  | .lck ks ds => .dic ks ds
/-- one of them grows cold -/
theorem SepF.cool (S : SepF K B C H σ ρ ((a, f) :: m)) : ∃ C', SepF K B C' H σ ρ m ∧ Same C C' ∧ Rp K C' (.ref a) f.cold := by
  obtain ⟨U1, U2, M1, M2, S, hh⟩ := SepF.split (m1 := [(a, f)]) S
  obtain ⟨S', sC⟩ := S.coolU (U1 := U1) fun b o e => ⟨(hh b o e).1, (M1.fr b o e).1, by rw [hang_off (hh b o e).2.1]; exact (M1.fr b o e).2.1, (hh b o e).2.2⟩
  refine ⟨_, ⟨U2, M2.on S.grow sC S', S'⟩, sC, ?_⟩
  have ok := (M1.at_ a f (List.mem_cons_self ..)).same sC
  cases f with
  | lst ds =>
    obtain ⟨vs, e, r⟩ := ok
    exact .lst (orU_at e) r
  | ins c ns ds =>
    obtain ⟨dx, vs, e, e2, l, r, _⟩ := ok
    exact .obj (orU_at e) (orU_at e2) l r
  | dic ks ds =>
    obtain ⟨vs, e, l, n, r⟩ := ok
    exact .dic (.inl (orU_at e)) l n r
  | lck ks ds =>
    obtain ⟨o, vs, e, l, n, r⟩ := ok
    exact .dic (.inr ⟨o, orU_at e⟩) l n r
theorem SepF.put {i : Nat} {v : V} {d : Dt} (S : SepF K B C H σ ρ m) (hb : i = 0 → ∀ n, ρ[i]? ≠ some (.box n)) (r : Rp K C v d) : SepF K B C H (σ.set i (some v)) (ρ.set i (.dat d)) m := by
  obtain ⟨U, M, S⟩ := S
  exact ⟨U, M, S.dat hb r⟩
/-- a list becomes a name's own -/
theorem SepF.toHot {i : Nat} {ds : List Dt} (S : SepF K B C H σ ρ ((a, .lst ds) :: m)) (hb : i = 0 → ∀ n, ρ[i]? ≠ some (.box n)) : SepF K B C H (σ.set i (some (.ref a))) (ρ.set i (.hot ds)) m := by
  obtain ⟨U1, U2, M1, M2, S, hh⟩ := SepF.split (m1 := [(a, .lst ds)]) S
  obtain ⟨vs, e, r⟩ := M1.at_ a _ (List.mem_cons_self ..)
  obtain ⟨ca, b0, bx⟩ := M1.fr a _ e
  obtain ⟨ha, u2, ns⟩ := hh a _ e
  refine ⟨U2, M2, S.put hb (fun _ => ⟨a, vs, rfl, ha, r, ca⟩) fun _ b eb => ?_⟩
  cases eb
  exact ⟨fun j t _ hj mt => ns j t hj mt, by rw [hang_off u2]; exact b0⟩
end

end
section
variable {P : Program} {w : World} {K : PySem.W.Frag} {mg : Str → Option Value} {base : Heap}
local macro_rules | `(tactic| get_elem_tactic_trivial) => `(tactic| (repeat first | exact Wk.nil | exact Wk'.nil | refine Wk.same ?_ | refine Wk'.same ?_ | refine Wk.un (fun _ z => nomatch z) ?_ | refine Wk'.un ?_))
/-! level 3: packs opened and closed -/
def Ex1 : Addr × Ob → Fm → Prop
  | (a, .fl f), m => m = [(a, f)]
  | (a, .pk I), m => I a m
def Exp : My → Fm → Prop
  | [], m => m = []
  | c :: μ, m => ∃ m1 m2, m = m1 ++ m2 ∧ Ex1 c m1 ∧ Exp μ m2
theorem Exp.app : ∀ {μ1 μ2 : My} {m1 m2 : Fm}, Exp μ1 m1 → Exp μ2 m2 → Exp (μ1 ++ μ2) (m1 ++ m2)
  | [], _, _, _, h, k => by cases h; exact k
  | c :: μ1, μ2, m1, m2, ⟨x, y, e, h1, h2⟩, k => ⟨x, y ++ m2, by rw [e, List.append_assoc], h1, Exp.app h2 k⟩
theorem Exp.unapp : ∀ {μ1 μ2 : My} {m : Fm}, Exp (μ1 ++ μ2) m → ∃ m1 m2, m = m1 ++ m2 ∧ Exp μ1 m1 ∧ Exp μ2 m2
  | [], _, m, h => ⟨[], m, rfl, rfl, h⟩
  | c :: μ1, μ2, m, ⟨x, y, e, h1, h2⟩ => by
    obtain ⟨m1, m2, e2, k1, k2⟩ := Exp.unapp h2
    exact ⟨x ++ m1, m2, by rw [e, e2, List.append_assoc], ⟨x, m1, rfl, h1, k1⟩, k2⟩
theorem Exp.perm {μ μ' : My} (p : μ.Perm μ') : ∀ {m : Fm}, Exp μ m → ∃ m', Exp μ' m' ∧ m.Perm m' := by
  induction p with
  | nil => exact fun {m} h => ⟨m, h, .refl _⟩
  | cons c p ih =>
    rintro m ⟨x, y, rfl, h1, h2⟩
    obtain ⟨y', k, q⟩ := ih h2
    exact ⟨x ++ y', ⟨x, y', rfl, h1, k⟩, q.append_left x⟩
  | swap c d μ =>
    rintro m ⟨x, _, rfl, h1, y, z, rfl, h2, h3⟩
    exact ⟨y ++ (x ++ z), ⟨y, x ++ z, rfl, h2, x, z, rfl, h1, h3⟩, by
      rw [← List.append_assoc, ← List.append_assoc]
      exact List.Perm.append_right _ List.perm_append_comm⟩
  | trans p q ih1 ih2 =>
    intro m h
    obtain ⟨m1, h1, q1⟩ := ih1 h
    obtain ⟨m2, h2, q2⟩ := ih2 h1
    exact ⟨m2, h2, q1.trans q2⟩
/-- what may be had instead -/
def Ent (μ μ' : My) : Prop := ∀ m, Exp μ m → ∃ m' r, Exp μ' m' ∧ m.Perm (m' ++ r)
theorem Ent.refl (μ : My) : Ent μ μ := fun m h => ⟨m, [], h, by rw [List.append_nil]⟩
theorem Ent.trans {μ1 μ2 μ3 : My} (h : Ent μ1 μ2) (k : Ent μ2 μ3) : Ent μ1 μ3 := fun m e => by
  obtain ⟨m2, r2, e2, p2⟩ := h m e
  obtain ⟨m3, r3, e3, p3⟩ := k m2 e2
  exact ⟨m3, r3 ++ r2, e3, p2.trans (by rw [← List.append_assoc]; exact p3.append_right _)⟩
theorem Ent.perm {μ μ' : My} (p : μ.Perm μ') : Ent μ μ' := fun m e => by
  obtain ⟨m', e', q⟩ := e.perm p
  exact ⟨m', [], e', by rw [List.append_nil]; exact q⟩
theorem Ent.drop {μ μ' r : My} (p : μ.Perm (μ' ++ r)) : Ent μ μ' := (Ent.perm p).trans fun m e => by
  obtain ⟨m1, m2, rfl, e1, e2⟩ := e.unapp
  exact ⟨m1, m2, e1, .refl _⟩
theorem Ent.left {μ1 μ2 : My} : Ent (μ1 ++ μ2) μ1 := Ent.drop (.refl _)
theorem Ent.app {μ1 μ1' μ2 μ2' : My} (h : Ent μ1 μ1') (k : Ent μ2 μ2') : Ent (μ1 ++ μ2) (μ1' ++ μ2') := fun m e => by
  obtain ⟨m1, m2, rfl, e1, e2⟩ := e.unapp
  obtain ⟨n1, r1, f1, p1⟩ := h m1 e1
  obtain ⟨n2, r2, f2, p2⟩ := k m2 e2
  refine ⟨n1 ++ n2, r1 ++ r2, f1.app f2, ((p1.append p2).trans ?_)⟩
  rw [List.append_assoc, List.append_assoc]
  refine List.Perm.append_left _ ?_
  rw [← List.append_assoc, ← List.append_assoc]
  exact List.Perm.append_right _ List.perm_append_comm
theorem Ent.cons {c : Addr × Ob} {μ μ' : My} (h : Ent μ μ') : Ent (c :: μ) (c :: μ') := Ent.app (μ1 := [c]) (μ1' := [c]) (Ent.refl _) h
/-- some of them ahead of the others -/
def pick : Nat → My → Option ((Addr × Ob) × My)
  | _, [] => none
  | 0, c :: μ => some (c, μ)
  | n + 1, c :: μ => match pick n μ with
    | some (d, r) => some (d, c :: r)
    | none => none
def picks : List Nat → My → Option (My × My)
  | [], μ => some ([], μ)
  | i :: is, μ => match pick i μ with
    | some (c, r) => match picks is r with
      | some (cs, r') => some (c :: cs, r')
      | none => none
    | none => none
theorem pick_perm : ∀ {n : Nat} {μ : My} {c : Addr × Ob} {r : My}, pick n μ = some (c, r) → μ.Perm (c :: r)
  | n, [], c, r, h => by cases n <;> cases h
  | 0, d :: μ, c, r, h => by
    cases h
    exact .refl _
  | n + 1, d :: μ, c, r, h => by
    unfold pick at h
    cases q : pick n μ with
    | none => rw [q] at h; cases h
    | some p =>
      obtain ⟨e, s⟩ := p
      rw [q] at h
      cases h
      exact (List.Perm.cons _ (pick_perm q)).trans (.swap _ _ _)
theorem picks_perm : ∀ {is : List Nat} {μ μ1 μ2 : My}, picks is μ = some (μ1, μ2) → μ.Perm (μ1 ++ μ2)
  | [], μ, μ1, μ2, h => by cases h; exact .refl _
  | i :: is, μ, μ1, μ2, h => by
    unfold picks at h
    cases q : pick i μ with
    | none => rw [q] at h; cases h
    | some p =>
      obtain ⟨c, r⟩ := p
      rw [q] at h
      have h : (match picks is r with | some (cs, r') => some (c :: cs, r') | none => none) = some (μ1, μ2) := h
      cases q2 : picks is r with
      | none => rw [q2] at h; cases h
      | some p2 =>
        obtain ⟨cs, r'⟩ := p2
        rw [q2] at h
        cases h
        exact (pick_perm q).trans (List.Perm.cons _ (picks_perm q2))
theorem Ent.pick {is : List Nat} {μ μ1 μ2 : My} (h : picks is μ = some (μ1, μ2)) : Ent μ (μ1 ++ μ2) := Ent.perm (picks_perm h)
def Sep3 (K : PySem.W.Frag) (B : Bs) (C H : Hp) (σ : L2.St) (ρ : List Sl) (μ : My) : Prop := ∃ m, Exp μ m ∧ SepF K B C H σ ρ m
section
variable {B : Bs} {C C' H G : Hp} {σ σ' : L2.St} {ρ ρ' : List Sl} {μ μ' μ1 μ2 : My} {a : Addr} {f : Fl}
theorem Sep3.ent (S : Sep3 K B C H σ ρ μ) (h : Ent μ μ') : Sep3 K B C H σ ρ μ' := by
  obtain ⟨m, e, S⟩ := S
  obtain ⟨m', r, e', p⟩ := h m e
  exact ⟨m', e', (S.perm p).left⟩
theorem Sep3.sep (S : Sep3 K B C H σ ρ μ) : Sep K B C H σ ρ := by
  obtain ⟨m, e, S⟩ := S
  exact S.sep
theorem at_split {α : Type} : ∀ {l : List α} {i : Nat} {x : α}, l[i]? = some x → ∃ r, l.Perm (x :: r) ∧ ∀ y, (l.set i y).Perm (y :: r)
  | [], i, x, h => by simp at h
  | z :: l, 0, x, h => by
    cases h
    exact ⟨l, .refl _, fun y => .refl _⟩
  | z :: l, i + 1, x, h => by
    obtain ⟨r, p, q⟩ := at_split (l := l) (i := i) h
    exact ⟨z :: r, (List.Perm.cons _ p).trans (.swap _ _ _), fun y => (List.Perm.cons _ (q y)).trans (.swap _ _ _)⟩
theorem Sep3.has {i : Nat} (S : Sep3 K B C H σ ρ μ) (h : μ[i]? = some (a, .fl f)) : FlOk K C H a f := by
  obtain ⟨r, p, _⟩ := at_split h
  obtain ⟨m, ⟨x, y, rfl, h1, _⟩, S⟩ := S.ent (Ent.perm p)
  cases h1
  exact S.has (List.mem_append_left _ (List.mem_cons_self ..))
theorem Sep3.set {i : Nat} {f' : Fl} {o' : HO} (S : Sep3 K B C H σ ρ μ) (h : μ[i]? = some (a, .fl f)) (ok : ∀ U1 : Hp, FlOk K C U1 a f → (∀ b o, U1 b = some o → H b = some o) → FlOk K C (upd U1 a o') a f') : Sep3 K B C (upd H a o') σ ρ (μ.set i (a, .fl f')) := by
  obtain ⟨r, p, q⟩ := at_split h
  obtain ⟨m, ⟨x, y, rfl, h1, h2⟩, S⟩ := S.ent (Ent.perm p)
  cases h1
  exact (show Sep3 K B C (upd H a o') σ ρ ((a, .fl f') :: r) from ⟨_, ⟨[(a, f')], y, rfl, rfl, h2⟩, SepF.set S ok⟩).ent (Ent.perm (q _).symm)
theorem Sep3.cool (S : Sep3 K B C H σ ρ ((a, .fl f) :: μ)) : ∃ C', Sep3 K B C' H σ ρ μ ∧ Same C C' ∧ Rp K C' (.ref a) f.cold := by
  obtain ⟨m, ⟨x, y, rfl, h1, h2⟩, S⟩ := S
  cases h1
  obtain ⟨C', S, s, r⟩ := SepF.cool (m := y) S
  exact ⟨C', ⟨y, h2, S⟩, s, r⟩
theorem Sep3.put {i : Nat} {v : V} {d : Dt} (S : Sep3 K B C H σ ρ μ) (hb : i = 0 → ∀ n, ρ[i]? ≠ some (.box n)) (r : Rp K C v d) : Sep3 K B C H (σ.set i (some v)) (ρ.set i (.dat d)) μ := by
  obtain ⟨m, e, S⟩ := S
  exact ⟨m, e, S.put hb r⟩
theorem Sep3.toHot {i : Nat} {ds : List Dt} (S : Sep3 K B C H σ ρ ((a, .fl (.lst ds)) :: μ)) (hb : i = 0 → ∀ n, ρ[i]? ≠ some (.box n)) : Sep3 K B C H (σ.set i (some (.ref a))) (ρ.set i (.hot ds)) μ := by
  obtain ⟨m, ⟨x, y, rfl, h1, h2⟩, S⟩ := S
  cases h1
  exact ⟨y, h2, SepF.toHot (m := y) S hb⟩
/-- a new list -/
theorem Sep3.new {p : Addr} {vs : List V} {ds : List Dt} (S : Sep3 K B C H σ ρ μ) (hp : H p = none) (r : RpL K C vs ds) : Sep3 K B C (upd H p (.lst vs)) σ ρ ((p, .fl (.lst ds)) :: μ) := by
  obtain ⟨m, e, U, M, S⟩ := S
  exact ⟨_, ⟨[(p, .lst ds)], m, rfl, rfl, e⟩, SepF.fresh (S.allocN hp) M (S.frN hp r)⟩
theorem Sep3.weakS (S : Sep3 K B C H σ ρ μ) (w : Wk ρ ρ') : Sep3 K B C H σ ρ' μ := by
  obtain ⟨m, e, U, M, S⟩ := S
  exact ⟨m, e, U, M, S.weak w⟩
end

end
section
variable {P : Program} {w : World} {K : PySem.W.Frag} {mg : Str → Option Value} {base : Heap}
local macro_rules | `(tactic| get_elem_tactic_trivial) => `(tactic| (repeat first | exact Wk.nil | exact Wk'.nil | refine Wk.same ?_ | refine Wk'.same ?_ | refine Wk.un (fun _ z => nomatch z) ?_ | refine Wk'.un ?_))
/-! level 3: readings -/
abbrev XE3 := Str → Dt → List Sl → My → Prop
abbrev WE3 := List Sl → My → (Ro → List Sl → My → Prop) → XE3 → Prop
abbrev WA3 := List Sl → My → (List Ar → List Sl → My → Prop) → XE3 → Prop
abbrev WR3 := List Sl → My → (Ar → List Sl → My → Prop) → XE3 → Prop
abbrev WT3 := List Sl → My → (Bool → List Sl → My → Prop) → XE3 → Prop
structure Fs3 where
  nx : List Sl → My → Prop
  rt : Ro → List Sl → My → Prop
  bk : List Sl → My → Prop
  ct : List Sl → My → Prop
abbrev WS3 := List Sl → My → Fs3 → XE3 → Prop
def Ok3 (K : PySem.W.Frag) (B : Bs) (C H : Hp) (σ : L2.St) (ρ : List Sl) (μ : My) (v : V) : Ro → Prop
  | .dat d => Sep3 K B C H σ ρ μ ∧ Rp K C v d
  | .new ds => ∃ a, v = .ref a ∧ Sep3 K B C H σ ρ ((a, .fl (.lst ds)) :: μ)
def MeetsX3 (K : PySem.W.Frag) (B : Bs) (Ξ : XE3) (W : WX) : Prop := ∀ (C' G : Hp) (σ : L2.St) (ρ : List Sl) (μ : My) (cls : Value) (dd : Option Addr) (c : Str) (d : Dt), Sep3 K B C' G σ ρ μ → ExAt K C' cls dd c d → Ξ c d ρ μ → W cls dd σ G
structure Meets3 (K : PySem.W.Frag) (B : Bs) (Φ : Fs3) (D : Ends) : Prop where
  nx : ∀ C H σ ρ μ, Sep3 K B C H σ ρ μ → Φ.nx ρ μ → D.nx σ H
  rt : ∀ C H σ ρ μ v r, Ok3 K B C H σ ρ μ v r → Φ.rt r ρ μ → D.rt v H
  bk : ∀ C H σ ρ μ, Sep3 K B C H σ ρ μ → Φ.bk ρ μ → D.bk σ H
  ct : ∀ C H σ ρ μ, Sep3 K B C H σ ρ μ → Φ.ct ρ μ → D.ct σ H
class E3 (K : PySem.W.Frag) (W : WX) (t : TE) (w : outParam WE3) : Prop where
  run : ∀ (B : Bs) (C H : Hp) (σ : L2.St) (ρ : List Sl) (μ : My) (Q : VK) (Ψ : Ro → List Sl → My → Prop) (Ξ : XE3), Sep3 K B C H σ ρ μ → w ρ μ Ψ Ξ → (∀ C' G v r ρ' μ', Ok3 K B C' G σ ρ' μ' v r → Same C C' → Ψ r ρ' μ' → Q v G) → MeetsX3 K B Ξ W → t σ H Q
class R3 (K : PySem.W.Frag) (W : WX) (t : TE) (w : outParam WR3) : Prop where
  run : ∀ (B : Bs) (C H : Hp) (σ : L2.St) (ρ : List Sl) (μ : My) (Q : VK) (Ψ : Ar → List Sl → My → Prop) (Ξ : XE3), Sep3 K B C H σ ρ μ → w ρ μ Ψ Ξ → (∀ C' G v a ρ' μ', Sep3 K B C' G σ ρ' μ' → Same C C' → ArOk K C' σ v a → Ψ a ρ' μ' → Q v G) → MeetsX3 K B Ξ W → t σ H Q
class A3 (K : PySem.W.Frag) (W : WX) (t : TA) (w : outParam WA3) : Prop where
  run : ∀ (B : Bs) (C H : Hp) (σ : L2.St) (ρ : List Sl) (μ : My) (Q : List V → Hp → Prop) (Ψ : List Ar → List Sl → My → Prop) (Ξ : XE3), Sep3 K B C H σ ρ μ → w ρ μ Ψ Ξ → (∀ C' G vs as ρ' μ', Sep3 K B C' G σ ρ' μ' → Same C C' → ArL K C' σ vs as → Ψ as ρ' μ' → Q vs G) → MeetsX3 K B Ξ W → t σ H Q
class C3 (K : PySem.W.Frag) (W : WX) (t : TT) (w : outParam WT3) : Prop where
  run : ∀ (B : Bs) (C H : Hp) (σ : L2.St) (ρ : List Sl) (μ : My) (Q : Bool → Hp → Prop) (Ψ : Bool → List Sl → My → Prop) (Ξ : XE3), Sep3 K B C H σ ρ μ → w ρ μ Ψ Ξ → (∀ C' G b ρ' μ', Sep3 K B C' G σ ρ' μ' → Same C C' → Ψ b ρ' μ' → Q b G) → MeetsX3 K B Ξ W → t σ H Q
class S3 (K : PySem.W.Frag) (W : WX) (t : TS) (w : outParam WS3) : Prop where
  run : ∀ (B : Bs) (C H : Hp) (σ : L2.St) (ρ : List Sl) (μ : My) (D : Ends) (Φ : Fs3) (Ξ : XE3), Sep3 K B C H σ ρ μ → w ρ μ Φ Ξ → Meets3 K B Φ D → MeetsX3 K B Ξ W → t D σ H
section
variable {B : Bs} {C C' H G : Hp} {σ σ' : L2.St} {ρ ρ' : List Sl} {μ μ' : My} {v : V} {r : Ro}
theorem Ok3.cool (h : Ok3 K B C H σ ρ μ v r) : ∃ C', Sep3 K B C' H σ ρ μ ∧ Same C C' ∧ Rp K C' v r.val := by
  cases r with
  | dat d => exact ⟨C, h.1, Same.refl _, h.2⟩
  | new ds =>
    obtain ⟨a, rfl, S⟩ := h
    exact Sep3.cool S
/-- level 1 goes on from here -/
theorem Sep3.lift (S : Sep3 K B C H σ ρ μ) : ∃ B1 : Bs, Sep K B1 C H σ ρ ∧ (∀ {C' G : Hp} {σ' : L2.St} {ρ' : List Sl}, Sep K B1 C' G σ' ρ' → Sep3 K B C' G σ' ρ' μ ∧ Same C C') ∧ ∀ {C' G : Hp} {σ' : L2.St} {ρ' : List Sl} {a : Addr} {ds : List Dt}, Sep K B1 C' G σ' ρ' → Fr K B1 C' G σ' ρ' a ds → Sep3 K B C' G σ' ρ' ((a, .fl (.lst ds)) :: μ) := by
  obtain ⟨m, e, U, M, S⟩ := S
  refine ⟨⟨C, (B.hang U).H0, B.bx⟩, S.rebase, fun {C' G σ' ρ'} z => ?_, fun {C' G σ' ρ' a ds} z f => ?_⟩
  · obtain ⟨z1, z2⟩ := sep_back (B := B.hang U) S.grow S.new z
    exact ⟨⟨m, e, U, M.on S.grow z2 z1, z1⟩, z2⟩
  · obtain ⟨z1, z2⟩ := sep_back (B := B.hang U) S.grow S.new z
    exact ⟨_, ⟨[(a, .lst ds)], m, rfl, rfl, e⟩, SepF.fresh z1 (M.on S.grow z2 z1) f⟩
theorem MeetsX3.on {Ξ : XE3} {W : WX} {B1 : Bs} (mx : MeetsX3 K B Ξ W) (back : ∀ {C' G : Hp} {σ' : L2.St} {ρ' : List Sl}, Sep K B1 C' G σ' ρ' → Sep3 K B C' G σ' ρ' μ ∧ Same C C') : MeetsX K B1 (fun c d ρ' => Ξ c d ρ' μ) W := fun C' G σ ρ cls dd c d S ex z => mx _ _ _ _ _ _ _ _ _ (back S).1 ex z
end
/-! what level 1 reads -/
def lf3 (w : WEX) : WE3 := fun ρ μ Ψ Ξ => w ρ (fun r ρ1 => store r ρ1 fun a ρ2 => isD a fun d => Ψ (.dat d) ρ2 μ) fun c d ρ' => Ξ c d ρ' μ
instance (priority := 50) e3_lf {W : WX} {t : TE} {w : WEX} [a : Xd K W t w] : E3 K W t (lf3 w) where
  run B C H σ ρ μ Q Ψ Ξ S h k mx := by
    obtain ⟨B1, S1, back, _⟩ := S.lift
    refine a.run B1 C H σ ρ _ _ _ S1 h (fun C1 G v r ρ1 S2 s2 ok z => ?_) (mx.on back)
    obtain ⟨C2, x, ρ2, S3, s3, rx, z⟩ := S2.stored ok z
    cases x with
    | b i => exact False.elim z
    | d d => exact k _ _ _ (.dat d) _ _ ⟨(back S3).1, rx⟩ (back S3).2 z
def lf3N (w : WNX) : WE3 := fun ρ μ Ψ Ξ => w ρ (fun ds ρ1 => Ψ (.new ds) ρ1 μ) fun c d ρ' => Ξ c d ρ' μ
instance (priority := 60) e3_lfN {W : WX} {t : TE} {w : WNX} [a : Xn K W t w] : E3 K W t (lf3N w) where
  run B C H σ ρ μ Q Ψ Ξ S h k mx := by
    obtain ⟨B1, S1, back, fr⟩ := S.lift
    exact a.run B1 C H σ ρ _ _ _ S1 h (fun C1 G x ds ρ1 S2 s2 f z => k _ _ _ (.new ds) _ _ ⟨x, rfl, fr S2 f⟩ (back S2).2 z) (mx.on back)
def lr3 (w : WEX) : WR3 := fun ρ μ Ψ Ξ => w ρ (fun r ρ1 => store r ρ1 fun a ρ2 => Ψ a ρ2 μ) fun c d ρ' => Ξ c d ρ' μ
instance (priority := 50) r3_lf {W : WX} {t : TE} {w : WEX} [a : Xd K W t w] : R3 K W t (lr3 w) where
  run B C H σ ρ μ Q Ψ Ξ S h k mx := by
    obtain ⟨B1, S1, back, _⟩ := S.lift
    refine a.run B1 C H σ ρ _ _ _ S1 h (fun C1 G v r ρ1 S2 s2 ok z => ?_) (mx.on back)
    obtain ⟨C2, x, ρ2, S3, s3, rx, z⟩ := S2.stored ok z
    exact k _ _ _ _ _ _ (back S3).1 (back S3).2 rx z
def le3 (w : WE3) : WR3 := fun ρ μ Ψ Ξ => w ρ μ (fun r ρ1 μ1 => Ψ (.d r.val) ρ1 μ1) Ξ
instance (priority := 40) r3_e3 {W : WX} {t : TE} {w : WE3} [a : E3 K W t w] : R3 K W t (le3 w) where
  run B C H σ ρ μ Q Ψ Ξ S h k mx := a.run B C H σ ρ μ _ _ _ S h (fun C1 G v r ρ1 μ1 ok s1 z => by
    obtain ⟨C2, S2, s2, r2⟩ := ok.cool
    exact k _ _ _ (.d r.val) _ _ S2 (s1.trans s2) r2 z) mx
def lc3 (w : WT) : WT3 := fun ρ μ Ψ _ => w ρ fun b ρ1 => Ψ b ρ1 μ
instance (priority := 50) c3_lf {W : WX} {t : TT} {w : WT} [a : Sc K t w] : C3 K W t (lc3 w) where
  run B C H σ ρ μ Q Ψ Ξ S h k mx := by
    obtain ⟨B1, S1, back, _⟩ := S.lift
    exact a.run B1 C H σ ρ _ _ S1 h fun C1 G b ρ1 S2 s2 z => k _ _ _ _ _ (back S2).1 (back S2).2 z
def ls3 (w : WSX) : WS3 := fun ρ μ Φ Ξ => w ρ ⟨fun ρ' => Φ.nx ρ' μ, fun r ρ' => Φ.rt r ρ' μ, fun ρ' => Φ.bk ρ' μ, fun ρ' => Φ.ct ρ' μ⟩ fun c d ρ' => Ξ c d ρ' μ
instance (priority := 50) s3_lf {W : WX} {t : TS} {w : WSX} [a : Xs K W t w] : S3 K W t (ls3 w) where
  run B C H σ ρ μ D Φ Ξ S h m mx := by
    obtain ⟨B1, S1, back, fr⟩ := S.lift
    refine a.run B1 C H σ ρ _ _ _ S1 h ⟨fun C1 G σ1 ρ1 S2 z => m.nx _ _ _ _ _ (back S2).1 z, fun C1 G σ1 ρ1 v r S2 ok z => m.rt C1 G σ1 ρ1 μ v r ?_ z, fun C1 G σ1 ρ1 S2 z => m.bk _ _ _ _ _ (back S2).1 z, fun C1 G σ1 ρ1 S2 z => m.ct _ _ _ _ _ (back S2).1 z⟩ (mx.on back)
    cases r with
    | dat d => exact ⟨(back S2).1, ok⟩
    | new ds =>
      obtain ⟨x, rfl, f⟩ := ok
      exact ⟨x, rfl, fr S2 f⟩
/-! arguments -/
def wA3Nil : WA3 := fun ρ μ Ψ _ => Ψ [] ρ μ
instance a3_nil {W : WX} : A3 K W tNil wA3Nil where run B C H σ ρ μ Q Ψ Ξ S h k mx := k _ _ _ _ _ _ S (Same.refl _) .nil h
def wA3Cons (wa : WR3) (wr : WA3) : WA3 := fun ρ μ Ψ Ξ => wa ρ μ (fun a ρ1 μ1 => wr ρ1 μ1 (fun as ρ2 μ2 => Ψ (a :: as) ρ2 μ2) Ξ) Ξ
instance a3_cons {W : WX} {ta : TE} {tr : TA} {wa : WR3} {wr : WA3} [a : R3 K W ta wa] [b : A3 K W tr wr] : A3 K W (tCons ta tr) (wA3Cons wa wr) where
  run B C H σ ρ μ Q Ψ Ξ S h k mx := a.run B C H σ ρ μ _ _ _ S h (fun C1 H1 v d ρ1 μ1 S1 s1 r1 h1 => b.run B C1 H1 σ ρ1 μ1 _ _ _ S1 h1 (fun C2 H2 vs ds ρ2 μ2 S2 s2 r2 h2 => k _ _ _ _ _ _ S2 (s1.trans s2) (.cons (r1.same s2) r2) h2) mx) mx
/-! statements -/
def wSeq3 (wt wu : WS3) : WS3 := fun ρ μ Φ Ξ => wt ρ μ { Φ with nx := fun ρ' μ' => wu ρ' μ' Φ Ξ } Ξ
instance s3_seq {W : WX} {t u : TS} {wt wu : WS3} [a : S3 K W t wt] [b : S3 K W u wu] : S3 K W (tSeq t u) (wSeq3 wt wu) where
  run B C H σ ρ μ D Φ Ξ S h m mx := a.run B C H σ ρ μ _ _ _ S h ⟨fun C1 H1 σ1 ρ1 μ1 S1 z => b.run B C1 H1 σ1 ρ1 μ1 _ _ _ S1 z m mx, m.rt, m.bk, m.ct⟩ mx
def wIf3 (wc : WT3) (wt wu : WS3) : WS3 := fun ρ μ Φ Ξ => wc ρ μ (fun b ρ1 μ1 => if b = true then wt ρ1 μ1 Φ Ξ else wu ρ1 μ1 Φ Ξ) Ξ
instance (priority := 40) s3_if {W : WX} {tc : TT} {t u : TS} {wc : WT3} {wt wu : WS3} [c : C3 K W tc wc] [a : S3 K W t wt] [b : S3 K W u wu] : S3 K W (tIfS tc t u) (wIf3 wc wt wu) where
  run B C H σ ρ μ D Φ Ξ S h m mx := c.run B C H σ ρ μ _ _ _ S h (fun C1 H1 e ρ1 μ1 S1 s1 h1 => by
    cases e with
    | true => exact a.run B C1 H1 σ ρ1 μ1 _ _ _ S1 h1 m mx
    | false => exact b.run B C1 H1 σ ρ1 μ1 _ _ _ S1 h1 m mx) mx
def wDrop3 (w : WE3) : WS3 := fun ρ μ Φ Ξ => w ρ μ (fun _ ρ1 μ1 => Φ.nx ρ1 μ1) Ξ
instance (priority := 40) s3_drop {W : WX} {te : TE} {w : WE3} [a : E3 K W te w] : S3 K W (tDrop te) (wDrop3 w) where
  run B C H σ ρ μ D Φ Ξ S h m mx := a.run B C H σ ρ μ _ _ _ S h (fun C1 H1 v r ρ1 μ1 ok s1 z => by
    obtain ⟨C2, S2, _, _⟩ := ok.cool
    exact m.nx _ _ _ _ _ S2 z) mx
/-- a slot is put, a new list as the name's own -/
def wAsg3 (i : Nat) (w : WE3) : WS3 := fun ρ μ Φ Ξ => w ρ μ (fun r ρ1 μ1 => put i (slotOf r) ρ1 fun ρ2 => Φ.nx ρ2 μ1) Ξ
instance (priority := 40) s3_asg {W : WX} {te : TE} {i : Nat} {w : WE3} [a : E3 K W te w] : S3 K W (tAsg te (gName i)) (wAsg3 i w) where
  run B C H σ ρ μ D Φ Ξ S h m mx := a.run B C H σ ρ μ _ _ _ S h (fun C1 H1 v r ρ1 μ1 ok s1 z => by
    obtain ⟨hb, z⟩ := put_run z
    cases r with
    | dat d => exact m.nx _ _ _ _ _ (ok.1.put hb ok.2) z
    | new ds =>
      obtain ⟨x, rfl, S1⟩ := ok
      exact m.nx _ _ _ _ _ (S1.toHot hb) z) mx
/-! to a state that is known less of -/
def To3 (I : List Sl → My → Prop) (ρ : List Sl) (μ : My) : Prop := ∃ ρ' μ', Wk ρ ρ' ∧ Ent μ μ' ∧ I ρ' μ'
theorem To3.of {I : List Sl → My → Prop} {ρ ρ' : List Sl} {μ : My} (h : I ρ' μ) (w : Wk ρ ρ') : To3 I ρ μ := ⟨ρ', μ, w, Ent.refl _, h⟩
theorem Sep3.to {B : Bs} {C H : Hp} {σ : L2.St} {ρ : List Sl} {μ : My} {I : List Sl → My → Prop} (S : Sep3 K B C H σ ρ μ) (h : To3 I ρ μ) : ∃ ρ' μ', Sep3 K B C H σ ρ' μ' ∧ I ρ' μ' := by
  obtain ⟨ρ', μ', w, e, h⟩ := h
  exact ⟨ρ', μ', (S.weakS w).ent e, h⟩
theorem Sep3.rebase {B : Bs} {C H : Hp} {σ : L2.St} {ρ : List Sl} {μ : My} (S : Sep3 K B C H σ ρ μ) : Sep3 K ⟨C, B.H0, B.bx⟩ C H σ ρ μ ∧ ∀ {C' G : Hp} {σ' : L2.St} {ρ' : List Sl} {μ' : My}, Sep3 K ⟨C, B.H0, B.bx⟩ C' G σ' ρ' μ' → Sep3 K B C' G σ' ρ' μ' ∧ Same C C' := by
  obtain ⟨m, e, U, M, S⟩ := S
  refine ⟨⟨m, e, U, ⟨M.nd, M.at_, M.all, M.fr⟩, S.rebase⟩, fun {C' G σ' ρ' μ'} z => ?_⟩
  obtain ⟨m', e', U', M', S'⟩ := z
  have s : Same C C' := S'.grow
  have z1 : Sep K (B.hang U') C' G σ' ρ' := by
    refine ⟨S'.cold, S'.len, S'.sl, S'.ne, S.grow.trans s, fun a o h n => ?_, S'.dom, S'.keep, S'.loc, S'.lob, S'.par, S'.pz⟩
    cases q : C a with
    | none => exact S'.new a o h q
    | some u =>
      have := hang_no (S.new a u q n)
      have h2 : U' a = none := by
        cases q2 : U' a with
        | none => rfl
        | some x => rw [(M'.fr a x q2).1] at h; cases h
      rw [hang_off h2]
      exact this.2
  exact ⟨⟨m', e', U', ⟨M'.nd, M'.at_, M'.all, M'.fr⟩, z1⟩, s⟩

end
section
variable {P : Program} {w : World} {K : PySem.W.Frag} {mg : Str → Option Value} {base : Heap}
local macro_rules | `(tactic| get_elem_tactic_trivial) => `(tactic| (repeat first | exact Wk.nil | exact Wk'.nil | refine Wk.same ?_ | refine Wk'.same ?_ | refine Wk.un (fun _ z => nomatch z) ?_ | refine Wk'.un ?_))
/-! level 3: defs and calls -/
abbrev W3F := List Sl → My → (Ro → List Sl → My → Prop) → XE3 → Prop
def subU (H U : Hp) : Hp := fun a => match U a with
  | some _ => none
  | none => H a
theorem subU_at {H U : Hp} {a : Addr} {o : HO} (h : U a = some o) : subU H U a = none := by
  unfold subU
  rw [h]
theorem subU_off {H U : Hp} {a : Addr} (h : U a = none) : subU H U a = H a := by
  unfold subU
  rw [h]
theorem subU_hang {C H U : Hp} {bx : Option (Nat × Addr)} (h : ∀ a o, U a = some o → H a = some o) : (⟨C, subU H U, bx⟩ : Bs).hang U = ⟨C, H, bx⟩ := by
  unfold Bs.hang
  congr 1
  funext a
  show (match U a with | some o => some o | none => subU H U a) = H a
  cases q : U a with
  | some o => exact (h a o q).symm
  | none => exact subU_off q
def sp3 (K : PySem.W.Frag) (n : Nat) (wf : W3F) : Sp := fun vs H Q E => vs.length = n ∧ ∃ (C U : Hp) (bx : Option (Nat × Addr)) (ps : List Sl) (μ : My) (m : Fm) (Ψ : Ro → List Sl → My → Prop) (Ξ : XE3),
  Sep K ⟨C, H, bx⟩ C H (vs.map some) ps ∧ Exp μ m ∧ Mf K ⟨C, subU H U, bx⟩ C U m ∧ (∀ a o, U a = some o → H a = some o) ∧ wf ps μ Ψ Ξ ∧
  (∀ C' G v r ps' μ', Ok3 K ⟨C, subU H U, bx⟩ C' G (vs.map some) ps' μ' v r → Ψ r ps' μ' → Q v G) ∧
  ∀ C' G cls dd c d ps' μ', Sep3 K ⟨C, subU H U, bx⟩ C' G (vs.map some) ps' μ' → ExAt K C' cls dd c d → Ξ c d ps' μ' → E cls dd G
theorem Sep.args' {B' : Bs} {C H C' G : Hp} {bx : Option (Nat × Addr)} {vs : List V} {ps ρ : List Sl} {σ : L2.St} (hC : B'.C0 = C) (hb : B'.bx = bx) (S0 : Sep K ⟨C, H, bx⟩ C H (vs.map some) ps) (S : Sep K B' C' G σ ρ) : Sep K B' C' G (vs.map some) (mrg ps ρ) := by
  subst hC hb
  have nohot : ∀ (i : Nat) (ds : List Dt), ps[i]? ≠ some (.hot ds) := fun i ds e => by
    obtain ⟨a, us, e2, ha, _⟩ := S0.sl i _ e
    have := S0.loc i a ds e e2
    rw [show (⟨B'.C0, H, B'.bx⟩ : Bs).H0 a = H a from rfl, ha] at this
    cases this
  have box : ∀ (i : Nat) (n : Int), ps[i]? = some (.box n) → ∃ a m, B'.bx = some (i, a) ∧ (vs.map some)[i]? = some (some (V.ref a)) ∧ σ[i]? = some (some (V.ref a)) ∧ ρ[i]? = some (.box m) := fun i n e => by
    obtain ⟨a, e2, ⟨x, y, z, ha, _⟩, _⟩ := S0.sl i _ e
    rcases S0.lob i a n e e2 with q | q
    · rw [show (⟨B'.C0, H, B'.bx⟩ : Bs).H0 a = H a from rfl, ha] at q
      cases q
    · obtain ⟨g1, m, g2⟩ := S.par i a q
      exact ⟨a, m, q, e2, g1, g2⟩
  have case_ : ∀ (i : Nat) (s : Sl), (mrg ps ρ)[i]? = some s → (∃ a m, s = .box m ∧ B'.bx = some (i, a) ∧ (vs.map some)[i]? = some (some (V.ref a)) ∧ σ[i]? = some (some (V.ref a)) ∧ ρ[i]? = some (.box m)) ∨ (ps[i]? = some s ∧ s.mut = false) := fun i s h => by
    rcases mrg_at ps ρ i s h with ⟨n, e, q⟩ | ⟨e, q⟩
    · obtain ⟨a, m, g1, g2, g3, g4⟩ := box i n e
      rcases q with q | ⟨q, _⟩
      · rw [g4] at q
        cases q
        exact .inl ⟨a, m, rfl, g1, g2, g3, g4⟩
      · rw [g4] at q
        cases q
    · cases s with
      | un => exact .inr ⟨e, rfl⟩
      | dat d => exact .inr ⟨e, rfl⟩
      | hot ds => exact absurd e (nohot i ds)
      | box n => exact absurd rfl (q n)
  refine ⟨S.cold, by rw [mrg_len]; exact S0.len, fun i s h => ?_, fun i j a s t n h1 h2 m1 m2 e1 e2 => ?_, S.grow, S.new, S.dom, S.keep, fun i a ds h e => ?_, fun i a n h e => ?_, fun i a h => ?_, S.pz⟩
  · rcases case_ i s h with ⟨a, m, rfl, g1, g2, g3, g4⟩ | ⟨g1, g2⟩
    · obtain ⟨b, e, q⟩ := S.sl i _ g4
      rw [g3] at e
      cases e
      exact ⟨a, g2, q⟩
    · have q := S0.sl i s g1
      cases s with
      | un => trivial
      | dat d =>
        obtain ⟨v, e, r⟩ := q
        exact ⟨v, e, r.same S.grow⟩
      | hot ds => cases g2
      | box n => cases g2
  · rcases case_ i s h1 with ⟨b, m, rfl, g1, _⟩ | ⟨_, g2⟩
    · rcases case_ j t h2 with ⟨c, m', rfl, k1, _⟩ | ⟨_, g2⟩
      · rw [g1] at k1
        cases k1
        exact n rfl
      · rw [g2] at m2
        cases m2
    · rw [g2] at m1
      cases m1
  · rcases case_ i _ h with ⟨b, m, z, g1, _⟩ | ⟨_, g2⟩
    · cases z
    · cases g2
  · rcases case_ i _ h with ⟨b, m, z, g1, g2, _⟩ | ⟨_, g2⟩
    · rw [g2] at e
      cases e
      exact .inr g1
    · cases g2
  · obtain ⟨h1, n, h2⟩ := S0.par i a h
    obtain ⟨g1, m, g2⟩ := S.par i a h
    exact ⟨h1, m, mrg_box ps ρ i n m h2 g2⟩
/-- what is asked at the end: the things hung may be told otherwise -/
def fin3 (ps : List Sl) (Ψ : Ro → List Sl → My → Prop) : Fs3 := ⟨fun ρ μ => ∃ μ2, Ent μ μ2 ∧ Ψ (.dat .non) (mrg ps ρ) μ2, fun r ρ μ => ∃ μ2, Ent μ μ2 ∧ Ψ r (mrg ps ρ) μ2, fun _ _ => False, fun _ _ => False⟩
def finX3 (ps : List Sl) (Ξ : XE3) : XE3 := fun c d ρ μ => ∃ μ2, Ent μ μ2 ∧ Ξ c d (mrg ps ρ) μ2
theorem fin3_ok {C H0 : Hp} {bx : Option (Nat × Addr)} {vs : List V} {ps : List Sl} {Q : VK} {E : XK} {Ψ : Ro → List Sl → My → Prop} {Ξ : XE3} (ar : ∀ {C' G : Hp} {σ : L2.St} {ρ : List Sl} {μ : My}, Sep3 K ⟨C, H0, bx⟩ C' G σ ρ μ → Sep3 K ⟨C, H0, bx⟩ C' G (vs.map some) (mrg ps ρ) μ)
    (k : ∀ C' G v r ps' μ', Ok3 K ⟨C, H0, bx⟩ C' G (vs.map some) ps' μ' v r → Ψ r ps' μ' → Q v G) (kx : ∀ C' G cls dd c d ps' μ', Sep3 K ⟨C, H0, bx⟩ C' G (vs.map some) ps' μ' → ExAt K C' cls dd c d → Ξ c d ps' μ' → E cls dd G) :
    Meets3 K ⟨C, H0, bx⟩ (fin3 ps Ψ) { nx := fun _ H' => Q .non H', rt := Q } ∧ MeetsX3 K ⟨C, H0, bx⟩ (finX3 ps Ξ) (fun cls d _ H => E cls d H) := by
  refine ⟨⟨fun C1 H1 σ1 ρ1 μ1 S2 z => ?_, fun C1 H1 σ1 ρ1 μ1 v r ok z => ?_, fun C1 H1 σ1 ρ1 μ1 S2 z => False.elim z, fun C1 H1 σ1 ρ1 μ1 S2 z => False.elim z⟩, fun C1 H1 σ1 ρ1 μ1 cls dd c d S2 ex z => ?_⟩
  · obtain ⟨μ2, en, z⟩ := z
    exact k _ _ _ (.dat .non) _ _ ⟨ar (S2.ent en), .non⟩ z
  · obtain ⟨μ2, en, z⟩ := z
    refine k C1 H1 v r (mrg ps ρ1) μ2 ?_ z
    cases r with
    | dat d => exact ⟨ar (ok.1.ent en), ok.2⟩
    | new ds =>
      obtain ⟨x, rfl, S2⟩ := ok
      exact ⟨x, rfl, ar (S2.ent en.cons)⟩
  · obtain ⟨μ2, en, z⟩ := z
    exact kx _ _ _ _ _ _ _ _ (ar (S2.ent en)) ex z
theorem Sep3.args {C H C' G H0 : Hp} {bx : Option (Nat × Addr)} {vs : List V} {ps ρ : List Sl} {σ : L2.St} {μ : My} (S0 : Sep K ⟨C, H, bx⟩ C H (vs.map some) ps) (S : Sep3 K ⟨C, H0, bx⟩ C' G σ ρ μ) : Sep3 K ⟨C, H0, bx⟩ C' G (vs.map some) (mrg ps ρ) μ := by
  obtain ⟨m, e, U, M, S⟩ := S
  exact ⟨m, e, U, M, S0.args' rfl rfl S⟩
theorem body3 {E : XK} {t : TS} {w : WS3} [s : S3 K (fun cls d _ H => E cls d H) t w] {N : List Str} {vs : List V} {H : Hp} {Q : VK} {n : Nat} {wf : W3F} (h : sp3 K n wf vs H Q E) (hw : ∀ ps μ Ψ Ξ, wf ps μ Ψ Ξ → ps.length = n → w (ps ++ List.replicate (N.length - n) .un) μ (fin3 ps Ψ) (finX3 ps Ξ)) :
    t { nx := fun _ H' => Q .non H', rt := Q } (start N vs) H := by
  obtain ⟨hl, C, U, bx, ps, μ, m, Ψ, Ξ, S, e, M, hU, hf, k, kx⟩ := h
  have lp : ps.length = n := by have := S.len; rw [List.length_map] at this; omega
  have S1 : Sep3 K ⟨C, subU H U, bx⟩ C H (start N vs) (ps ++ List.replicate (N.length - vs.length) .un) μ := ⟨m, e, U, M, by rw [subU_hang hU]; exact start_sep (N := N) S⟩
  have h1 := hw ps μ Ψ Ξ hf lp
  rw [← hl] at h1
  obtain ⟨m3, x3⟩ := fin3_ok (ps := ps) (fun z => Sep3.args S z) k kx
  exact s.run _ C H _ _ _ _ _ _ S1 h1 m3 x3
/-! behind a call that was handed some of what is hung -/
section
variable {B : Bs} {C H G C' H0 : Hp} {σ : L2.St} {ρ : List Sl}
theorem Sep.after' (S : Sep K B C H σ ρ) {τ : L2.St} {π : List Sl} (S' : Sep K ⟨C, H0, none⟩ C' G τ π) (hy : ∀ a o, H a = some o → H0 a = some o ∨ (H0 a = none ∧ B.H0 a = none ∧ NoSlot σ ρ a)) (hz : ∀ a o, H0 a = some o → H a = some o) : Sep K B C' G σ ρ := by
  have kp : ∀ a o, H0 a = some o → G a = some o := fun a o h => S'.keep a o h fun i z => nomatch z
  have cn : ∀ a o, H0 a = some o → C a = none → C' a = none := fun a o h c => by
    cases q : C' a with
    | none => rfl
    | some u =>
      have : H0 a = none := S'.new a u q c
      rw [h] at this
      cases this
  have slot : ∀ {i : Nat} {t : Sl} {a : Addr} {o : HO}, ρ[i]? = some t → t.mut = true → σ[i]? = some (some (V.ref a)) → H a = some o → H0 a = some o := fun {i t a o} h m e ha => by
    rcases hy a o ha with z | ⟨_, _, z⟩
    · exact z
    · exact absurd e (z i t h m)
  have old : ∀ {a : Addr} {o : HO}, B.H0 a ≠ none → H a = some o → H0 a = some o := fun {a o} h ha => by
    rcases hy a o ha with z | ⟨_, z, _⟩
    · exact z
    · exact absurd z h
  refine ⟨S'.cold, S.len, fun i s h => ?_, S.ne, S.grow.trans S'.grow, fun a o e n => ?_, fun a h => ?_, fun a o h n => ?_, S.loc, S.lob, S.par, S.pz⟩
  · have q := S.sl i s h
    cases s with
    | un => trivial
    | dat d =>
      obtain ⟨v, e, r⟩ := q
      exact ⟨v, e, r.same S'.grow⟩
    | hot ds =>
      obtain ⟨a, vs, e, ha, r, ca⟩ := q
      have h0 := slot h rfl e ha
      exact ⟨a, vs, e, kp _ _ h0, r.same S'.grow, cn _ _ h0 ca⟩
    | box n =>
      obtain ⟨a, e, ⟨x, y, z, ha, hh⟩, ca⟩ := q
      have h0 := slot h rfl e ha
      exact ⟨a, e, ⟨x, y, z, kp _ _ h0, hh⟩, cn _ _ h0 ca⟩
  · cases q : C a with
    | some u => exact S.new a u q n
    | none =>
      have h0 : H0 a = none := S'.new a o e q
      cases q2 : H a with
      | none => exact S.free0 q2
      | some u =>
        rcases hy a u q2 with z | ⟨_, z, _⟩
        · rw [h0] at z; cases z
        · exact z
  · have := S.dom a h
    cases q : H a with
    | none => exact absurd q this
    | some u => exact S'.dom a (by show H0 a ≠ none; rw [old h q]; exact fun z => nomatch z)
  · exact kp a o (old (by rw [h]; exact fun z => nomatch z) (S.keep a o h n))
theorem Sep.afterB' (S : Sep K B C H σ ρ) {p : Addr} {i : Nat} {m n : Int} {τ : L2.St} {π : List Sl} (hi : ρ[i]? = some (.box m)) (ei : σ[i]? = some (some (V.ref p))) (S' : Sep K ⟨C, H0, some (0, p)⟩ C' G τ π) (hn : π[0]? = some (.box n)) (hy : ∀ a o, H a = some o → H0 a = some o ∨ (H0 a = none ∧ B.H0 a = none ∧ NoSlot σ ρ a)) (hz : ∀ a o, H0 a = some o → H a = some o) : Sep K B C' G σ (ρ.set i (.box n)) := by
  have kp : ∀ a o, H0 a = some o → a ≠ p → G a = some o := fun a o h z => S'.keep a o h fun i q => by cases q; exact z rfl
  have cn : ∀ a o, H0 a = some o → C a = none → C' a = none := fun a o h c => by
    cases q : C' a with
    | none => rfl
    | some u =>
      have : H0 a = none := S'.new a u q c
      rw [h] at this
      cases this
  have slot : ∀ {i : Nat} {t : Sl} {a : Addr} {o : HO}, ρ[i]? = some t → t.mut = true → σ[i]? = some (some (V.ref a)) → H a = some o → H0 a = some o := fun {i t a o} h m e ha => by
    rcases hy a o ha with z | ⟨_, _, z⟩
    · exact z
    · exact absurd e (z i t h m)
  have old : ∀ {a : Addr} {o : HO}, B.H0 a ≠ none → H a = some o → H0 a = some o := fun {a o} h ha => by
    rcases hy a o ha with z | ⟨_, z, _⟩
    · exact z
    · exact absurd z h
  obtain ⟨e0, m', e1⟩ := S'.par 0 p rfl
  obtain ⟨p', e2, bG, cp⟩ := S'.sl 0 _ hn
  rw [e0] at e2
  cases e2
  have back : ∀ {j : Nat} {t : Sl}, (ρ.set i (.box n))[j]? = some t → t.mut = true → ∃ t', ρ[j]? = some t' ∧ t'.mut = true := fun {j t} z y => by
    rcases get_set z with ⟨rfl, rfl, l⟩ | ⟨_, z⟩
    · exact ⟨_, hi, rfl⟩
    · exact ⟨t, z, y⟩
  refine ⟨S'.cold, by rw [List.length_set]; exact S.len, fun j s h => ?_, fun j k a t u q h1 h2 m1 m2 e1 e2 => ?_, S.grow.trans S'.grow, fun a o e n => ?_, fun a h => ?_, fun a o h n => ?_, fun j a ds h e => ?_, fun j a n h e => ?_, fun j a h => ?_, S.pz⟩
  · rcases get_set h with ⟨rfl, rfl, l⟩ | ⟨nj, h⟩
    · exact ⟨p, ei, bG, cp⟩
    · have q := S.sl j s h
      cases s with
      | un => trivial
      | dat d =>
        obtain ⟨v, e, r⟩ := q
        exact ⟨v, e, r.same S'.grow⟩
      | hot ds =>
        obtain ⟨a, vs, e, ha, r, ca⟩ := q
        have h0 := slot h rfl e ha
        exact ⟨a, vs, e, kp _ _ h0 (fun z => S.ne i j p _ _ nj hi h rfl rfl ei (z ▸ e)), r.same S'.grow, cn _ _ h0 ca⟩
      | box n =>
        obtain ⟨a, e, ⟨x, y, z, ha, hh⟩, ca⟩ := q
        have h0 := slot h rfl e ha
        have na : a ≠ p := fun z => S.ne i j p _ _ nj hi h rfl rfl ei (z ▸ e)
        exact ⟨a, e, ⟨x, y, z, kp _ _ h0 na, hh⟩, cn _ _ h0 ca⟩
  · obtain ⟨t', h1, m1⟩ := back h1 m1
    obtain ⟨u', h2, m2⟩ := back h2 m2
    exact S.ne j k a t' u' q h1 h2 m1 m2 e1 e2
  · cases q : C a with
    | some u => exact S.new a u q n
    | none =>
      have h0 : H0 a = none := S'.new a o e q
      cases q2 : H a with
      | none => exact S.free0 q2
      | some u =>
        rcases hy a u q2 with z | ⟨_, z, _⟩
        · rw [h0] at z; cases z
        · exact z
  · have := S.dom a h
    cases q : H a with
    | none => exact absurd q this
    | some u => exact S'.dom a (by show H0 a ≠ none; rw [old h q]; exact fun z => nomatch z)
  · refine kp a o (old (by rw [h]; exact fun z => nomatch z) (S.keep a o h n)) fun z => ?_
    subst z
    rcases S.lob i a m hi ei with q | q
    · rw [h] at q
      cases q
    · exact n i q
  · rcases get_set h with ⟨rfl, z, l⟩ | ⟨nj, h⟩
    · cases z
    · exact S.loc j a ds h e
  · rcases get_set h with ⟨rfl, z, l⟩ | ⟨nj, h⟩
    · exact S.lob i a m hi e
    · exact S.lob j a n h e
  · obtain ⟨h1, n', h2⟩ := S.par j a h
    by_cases z : i = j
    · subst z
      refine ⟨h1, n, set_at ?_⟩
      cases Nat.lt_or_ge i ρ.length with
      | inl h => exact h
      | inr g => rw [List.getElem?_eq_none g] at hi; cases hi
    · exact ⟨h1, n', by rw [set_off z]; exact h2⟩
/-- the parts put together again -/
theorem SepF.rejoin {U1 U2 U' : Hp} {bx : Option (Nat × Addr)} {m1 m2 m' : Fm} {τ : L2.St} {π ρ' : List Sl} (M1 : Mf K B C U1 m1) (M2 : Mf K B C U2 m2) (S : Sep K (B.hang U2) C H σ ρ) (hh : ∀ a o, U1 a = some o → H a = some o ∧ U2 a = none ∧ NoSlot σ ρ a) (M' : Mf K ⟨C, subU H U1, bx⟩ C' U' m') (S' : Sep K ((⟨C, subU H U1, bx⟩ : Bs).hang U') C' G τ π) (Sa : Sep K (B.hang U2) C' G σ ρ') (ns' : ∀ a, NoSlot σ ρ a → NoSlot σ ρ' a) (s : Same C C') : SepF K B C' G σ ρ' (m' ++ m2) := by
  have fr0 : ∀ a o, U' a = some o → (U1 a = none ∧ H a = none) ∨ ∃ u, U1 a = some u := fun a o h => by
    have := (M'.fr a o h).2.1
    cases q : U1 a with
    | some u => exact .inr ⟨u, rfl⟩
    | none =>
      have this : subU H U1 a = none := this
      rw [subU_off q] at this
      exact .inl ⟨rfl, this⟩
  refine SepF.join ⟨M'.nd, M'.at_, M'.all, fun a o h => ⟨(M'.fr a o h).1, ?_, ?_⟩⟩ (M2.on S.grow s Sa) Sa fun a o h => ⟨M'.bound S' h, ?_, ns' a ?_⟩
  · rcases fr0 a o h with ⟨q1, q2⟩ | ⟨u, q⟩
    · exact (hang_no (S.free0 q2)).2
    · exact (M1.fr a u q).2.1
  · rcases fr0 a o h with ⟨q1, q2⟩ | ⟨u, q⟩
    · exact fun i e => by
        obtain ⟨e1, n, e2⟩ := S.par i a e
        exact (S.mutH e2 rfl e1).2 q2
    · exact (M1.fr a u q).2.2
  · rcases fr0 a o h with ⟨q1, q2⟩ | ⟨u, q⟩
    · cases q3 : U2 a with
      | none => rfl
      | some x =>
        have := M2.bound S q3
        rw [q2] at this
        cases this
    · exact (hh a u q).2.1
  · rcases fr0 a o h with ⟨q1, q2⟩ | ⟨u, q⟩
    · exact fun j t h m e2 => (S.mutH h m e2).2 q2
    · exact (hh a u q).2.2
end

end
section
variable {P : Program} {w : World} {K : PySem.W.Frag} {mg : Str → Option Value} {base : Heap}
local macro_rules | `(tactic| get_elem_tactic_trivial) => `(tactic| (repeat first | exact Wk.nil | exact Wk'.nil | refine Wk.same ?_ | refine Wk'.same ?_ | refine Wk.un (fun _ z => nomatch z) ?_ | refine Wk'.un ?_))
/-! level 3: calls, their arguments by place and by name, what is left out -/
def gB (is : List Nat) (dv : List V) (vs zs : List V) : List V := gP is vs (zs ++ dv)
theorem pass0S {X : Cx} (W : WX) (σ : L2.St) : PassesAt CX0 X σ (L2.WE W σ) := fun _ _ _ _ _ _ h => h.elim
/-- some of those by name alone are left out -/
theorem kbKw {x qual : Str} {params : Arguments} {body : List Stmt} {scope : Scope} {kws : List (Str × V)} {f : Addr} {fd : FuncData} {ps : List Str} (F : FunD K x qual params body scope [] kws f fd) (n : Nat) (ks : List Str) (is : List Nat) (ms : List (Str × V)) (hk : kws ≠ []) (hms : ∀ q ∈ ms, q ∈ kws)
    (h : ∀ (D : Addr) (doc pm : Value) (an : Option Addr) (cdv ct : Value) (us mv ws : List Value), us.length = n → mv.length = ms.length → ws.length = ks.length →
      KwChain D ((ms.map (·.1)).zip mv) (bindArgs (PySem.W.fnOf x qual params body scope .none (.ref D) doc pm an cdv ct) ⟨us, ks.zip ws⟩) (ps.zip (gP is us (ws ++ mv)))) :
    ∃ g : List Value → List Value → List Value, KBn K fd ps n ks g (gB is (ms.map (·.2))) := by
  obtain ⟨mv, z⟩ := F.kbinds0 n ks ms (fun {α} us mv ws => gP is us (ws ++ mv)) hk hms (fun a b c => gP_vals is a (c.append b)) h
  exact ⟨_, z⟩
/-- f(e, ..), o.m(e, ..), C(e, ..) -/
def tCall3 (n m : Nat) (sp : Sp) (gV : List V → List V → List V) (E : L2.St → XK) (t tk : TA) : TE := tCallNS n m sp gV E t tk
def tMake3 (C : Addr) (n m : Nat) (sp : Sp) (gV : List V → List V → List V) (E : L2.St → XK) (t tk : TA) : TE := fun σ H Q => t σ H fun vs H1 => tk σ H1 fun zs H2 => vs.length = n ∧ zs.length = m ∧ ∀ x dx, H2 x = none → H2 dx = none → dx ≠ x →
  sp (gV (.ref x :: vs) zs) (upd (upd H2 dx (.own x)) x (.ins C dx [])) (fun v H3 => v = .non ∧ Q (.ref x) H3) (E σ)
section
variable {X : Cx} {CX : CXT} {k n : Nat} {f C : Addr} {fd : FuncData} {ps ks : List Str} {sp : Sp} {E : L2.St → XK} {x mm : Str} {p pos apos : Pos} {e o : Expr} {es : List Expr} {kws : List Keyword} {ta : TE} {t tk : TA} {g : List Value → List Value → List Value} {gV : List V → List V → List V} {pl : Sem Bool}
theorem pe_call3 (F : FnOk X.prog X.w X.K X.mg X.base CX k f fd ps sp) (hr : Room k X.A) (hg : Gl X x) (hm : X.mg x = some (.ref f)) (hk : PySem.W.keepIn X.K (.ref f) = true) (hb : KBn X.K fd ps n ks g gV) (hx : ∀ σ, PassesAt CX X σ (E σ))
    (ha : PA X (e :: es) t) (hkw : PK X kws tk) (hall : (backToKw pos (keywordEach kws X.env)).all (·.1.isSome) = true := by rfl) (hks : (backToKw pos (keywordEach kws X.env)).filterMap (·.1) = ks := by rfl)
    (hdb : (x == ("__debug__" : Str)) = false := by decide) (he : starEach (e :: es) X.env = (false, eval e X.env) :: starEach es X.env := by rfl)
    (hpl : ((backTo pos (starEach (e :: es) X.env)).any (·.1) || (backToKw pos (keywordEach kws X.env)).any (·.1.isNone)) = false := by rfl) :
    PE X (.Call (.Name x p) (e :: es) kws pos) (tCall3 n ks.length sp gV E t tk) := pe_callNS F hr hg hm hk hb hx ha hkw hall hks hdb he hpl
theorem run_make3 {pins : List (Addr × Obj)} {σ : L2.St} {H : Hp} {s : Shared} {Q : VK} {us ws : List Value} {vs zs : List V} (M : Mk X.K C f) (F : FnOk X.prog X.w X.K X.mg X.base CX k f fd ps sp) (hr : Room (k + 1) X.A) (hb : KBn X.K fd ps (n + 1) ks g gV) (hx : PassesAt CX X σ (E σ))
    (I : Inv X pins σ H s) (r : Vals vs us) (rz : Vals zs ws) (l1 : vs.length = n) (l2 : zs.length = ks.length)
    (h : ∀ x dx, H x = none → H dx = none → dx ≠ x → sp (gV (.ref x :: vs) zs) (upd (upd H dx (.own x)) x (.ins C dx [])) (fun v H2 => v = .non ∧ Q (.ref x) H2) (E σ)) :
    wpAny (model X.prog X.w) X.A (call (.ref C) us (ks.zip ws)) (EP X pins σ Q) X.xe s := by
  have hq := h (s.heap.objs.size + 1) s.heap.objs.size (I.hok.fresh (Nat.le_succ _)) (I.hok.fresh (Nat.le_refl _)) (Nat.ne_of_lt (Nat.lt_succ_self _))
  have I2 := Inv.made (C := C) I
  have r1 : Vals (V.ref (s.heap.objs.size + 1) :: vs) (Value.ref (s.heap.objs.size + 1) :: us) := .cons rfl r
  have r2 := hb.rel r1 rz
  have n1 : (Value.ref (s.heap.objs.size + 1) :: us).length = n + 1 := by
    rw [List.length_cons, ← r.length, l1]
  refine wpAny_call (make_map (f := f) I.kIn M.makes M.init (beq_iff_eq.mp M.fn) (codeAny_mono (F.run _ X.stack _ _ ⟨Value.ref (s.heap.objs.size + 1) :: us, ks.zip ws⟩ (g (Value.ref (s.heap.objs.size + 1) :: us) ws) _ _ (E σ) (hr.make C us (ks.zip ws))
    (I2.env0.make C us (ks.zip ws)) (hb.to _ (Value.ref (s.heap.objs.size + 1) :: us) ws I2.kIn n1 (rz.length.symm.trans l2)) r2 hq) fun r s' hq' => ?_))
  cases r with
  | error e => exact hx pins _ _ e s' I2 hq'
  | ok fl =>
    cases fl with
    | ret u =>
      obtain ⟨v, H', I3, rv, ev, q3⟩ := I2.after hq'
      subst ev
      exact ⟨rv, ⟨V.ref (s.heap.objs.size + 1), H', I3, rfl, q3⟩⟩
    | next => exact False.elim hq'
    | brk => exact False.elim hq'
    | cont => exact False.elim hq'
theorem pe_make3 (M : Mk X.K C f) (F : FnOk X.prog X.w X.K X.mg X.base CX k f fd ps sp) (hr : Room (k + 1) X.A) (hg : Gl X x) (hm : X.mg x = some (.ref C)) (hb : KBn X.K fd ps (n + 1) ks g gV) (hx : ∀ σ, PassesAt CX X σ (E σ)) (ha : PA X (e :: es) t) (hkw : PK X kws tk)
    (hall : (backToKw pos (keywordEach kws X.env)).all (·.1.isSome) = true := by rfl) (hks : (backToKw pos (keywordEach kws X.env)).filterMap (·.1) = ks := by rfl) (hdb : (x == ("__debug__" : Str)) = false := by decide)
    (he : starEach (e :: es) X.env = (false, eval e X.env) :: starEach es X.env := by rfl) (hpl : ((backTo pos (starEach (e :: es) X.env)).any (·.1) || (backToKw pos (keywordEach kws X.env)).any (·.1.isNone)) = false := by rfl) :
    PE X (.Call (.Name x p) (e :: es) kws pos) (tMake3 C n ks.length sp gV E t tk) := by
  refine ⟨fun pins s σ H Q I h => ?_⟩
  refine wpAny_Call_Name_kw (ld_glob I hg hm ?_ hdb)
  refine PySem.W.callWith_KW (h₀ := X.base) I.ok.mod.kin M.kp hall (thn (ha.run pos pins s σ H _ I h) fun us s1 ⟨vs, H1, I1, r, q⟩ => ?_) hpl he
  refine thn (hkw.run pos pins s1 σ H1 _ I1 q) fun ws s2 ⟨zs, H2, I2, rz, l1, l2, q2⟩ => ⟨I2.kIn, ?_⟩
  rw [hks]
  exact run_make3 M F hr hb (hx σ) I2 r rz l1 l2 q2
end

end
section
variable {P : Program} {w : World} {K : PySem.W.Frag} {mg : Str → Option Value} {base : Heap}
local macro_rules | `(tactic| get_elem_tactic_trivial) => `(tactic| (repeat first | exact Wk.nil | exact Wk'.nil | refine Wk.same ?_ | refine Wk'.same ?_ | refine Wk.un (fun _ z => nomatch z) ?_ | refine Wk'.un ?_))
/-! level 3: what a call asks, and tells -/
theorem ArL.at {C : Hp} {σ : L2.St} : ∀ {vs : List V} {as : List Ar} {i : Nat} {a : Ar}, ArL K C σ vs as → as[i]? = some a → ∃ v, vs[i]? = some v ∧ ArOk K C σ v a
  | _, _, i, a, .nil, h => by simp at h
  | _, _, 0, a, .cons x t, h => by
    have e := Option.some.inj h
    subst e
    exact ⟨_, rfl, x⟩
  | _, _, i + 1, a, .cons x t, h => ArL.at (i := i) t h
theorem ArL.gP (is : List Nat) {C : Hp} {σ : L2.St} {vs zs : List V} {as bs : List Ar} (h1 : ArL K C σ vs as) (h2 : ArL K C σ zs bs) : ArL K C σ (Sl.gP is vs zs) (Sl.gP is as bs) := by
  have h := h1.app h2
  have hl := h.len
  unfold Sl.gP
  induction is with
  | nil => exact .nil
  | cons i is ih =>
    rw [List.filterMap_cons, List.filterMap_cons]
    cases q : (as ++ bs)[i]? with
    | none =>
      have : (vs ++ zs)[i]? = none := by
        rw [List.getElem?_eq_none_iff] at q ⊢
        omega
      rw [this]
      exact ih
    | some a =>
      obtain ⟨v, e, r⟩ := h.at q
      rw [e]
      exact .cons r ih
def two3 (i : Nat) (ρ : List Sl) (μr : My) (Ψ : Ro → List Sl → My → Prop) (r : Ro) (ps : List Sl) (μ' : My) : Prop := match ps with
  | .box n :: _ => Ψ r (ρ.set i (.box n)) (μ' ++ μr)
  | _ => False
def twoX3 (i : Nat) (ρ : List Sl) (μr : My) (Ξ : XE3) (c : Str) (d : Dt) (ps : List Sl) (μ' : My) : Prop := match ps with
  | .box n :: _ => Ξ c d (ρ.set i (.box n)) (μ' ++ μr)
  | _ => False
def call3 (wf : W3F) (as : List Ar) (ρ : List Sl) (μ1 μr : My) (Ψ : Ro → List Sl → My → Prop) (Ξ : XE3) : Prop := match as with
  | .b i :: as => match ρ[i]?, dats as with
    | some (.box n), some ds => wf (.box n :: ds.map .dat) μ1 (two3 i ρ μr Ψ) (twoX3 i ρ μr Ξ)
    | _, _ => False
  | as => match dats as with
    | some ds => wf (ds.map .dat) μ1 (fun r _ μ' => Ψ r ρ (μ' ++ μr)) fun c d _ μ' => Ξ c d ρ (μ' ++ μr)
    | none => False
section
variable {B : Bs} {C H : Hp} {σ : L2.St} {ρ : List Sl} {μ μ1 μr : My} {n : Nat} {wf : W3F} {Q : VK} {E : XK} {Ψ : Ro → List Sl → My → Prop} {Ξ : XE3}
theorem Sep3.handD {vs : List V} {ds : List Dt} (S : Sep3 K B C H σ ρ (μ1 ++ μr)) (r : RpL K C vs ds) (ln : ds.length = n) (h : wf (ds.map .dat) μ1 (fun r _ μ' => Ψ r ρ (μ' ++ μr)) fun c d _ μ' => Ξ c d ρ (μ' ++ μr))
    (k : ∀ C' G v r ρ' μ', Ok3 K B C' G σ ρ' μ' v r → Same C C' → Ψ r ρ' μ' → Q v G) (kx : ∀ C' G cls d2 c d ρ' μ', Sep3 K B C' G σ ρ' μ' → ExAt K C' cls d2 c d → Ξ c d ρ' μ' → E cls d2 G) : sp3 K n wf vs H Q E := by
  obtain ⟨m, e, SF⟩ := S
  obtain ⟨m1, mr, rfl, e1, er⟩ := e.unapp
  obtain ⟨U1, U2, M1, M2, S2, hh⟩ := SF.split
  have hy : ∀ a o, H a = some o → subU H U1 a = some o ∨ (subU H U1 a = none ∧ (B.hang U2).H0 a = none ∧ NoSlot σ ρ a) := fun a o ha => by
    cases q : U1 a with
    | none => exact .inl (by rw [subU_off q]; exact ha)
    | some u =>
      obtain ⟨_, u2, ns⟩ := hh a u q
      exact .inr ⟨subU_at q, by rw [hang_off u2]; exact (M1.fr a u q).2.1, ns⟩
  have hz : ∀ a o, subU H U1 a = some o → H a = some o := fun a o h => by
    cases q : U1 a with
    | none => rwa [subU_off q] at h
    | some u => rw [subU_at q] at h; cases h
  have back : ∀ {C' G : Hp} {τ : L2.St} {π : List Sl} {μ' : My}, Sep3 K ⟨C, subU H U1, none⟩ C' G τ π μ' → Sep3 K B C' G σ ρ (μ' ++ μr) ∧ Same C C' := fun {C' G τ π μ'} z => by
    obtain ⟨m', e', U', M', S'⟩ := z
    have Sd := S'.unhang M'
    have Sa := S2.after' Sd hy hz
    exact ⟨⟨_, e'.app er, SepF.rejoin M1 M2 S2 hh M' S' Sa (fun _ z => z) Sd.grow⟩, Sd.grow⟩
  refine ⟨by rw [r.len]; exact ln, C, U1, none, ds.map .dat, μ1, m1, _, _, sep_dats S2 r, e1, ⟨M1.nd, M1.at_, M1.all, fun a o h => ⟨(M1.fr a o h).1, subU_at h, fun i z => nomatch z⟩⟩, fun a o h => (hh a o h).1, h, fun C' G v r ps' μ' ok z => ?_, fun C' G cls dd c d ps' μ' S' ex z => kx _ _ _ _ _ _ _ _ (back S').1 ex z⟩
  cases r with
  | dat d => exact k _ _ _ (.dat d) _ _ ⟨(back ok.1).1, ok.2⟩ (back ok.1).2 z
  | new ds =>
    obtain ⟨x, rfl, S'⟩ := ok
    exact k _ _ _ (.new ds) _ _ ⟨x, rfl, (back S').1⟩ (back S').2 z
theorem Sep3.handB {vs : List V} {ds : List Dt} {p : Addr} {i : Nat} {m0 : Int} (S : Sep3 K B C H σ ρ (μ1 ++ μr)) (hi : ρ[i]? = some (.box m0)) (ei : σ[i]? = some (some (V.ref p))) (r : RpL K C vs ds) (ln : ds.length + 1 = n) (h : wf (.box m0 :: ds.map .dat) μ1 (two3 i ρ μr Ψ) (twoX3 i ρ μr Ξ))
    (k : ∀ C' G v r ρ' μ', Ok3 K B C' G σ ρ' μ' v r → Same C C' → Ψ r ρ' μ' → Q v G) (kx : ∀ C' G cls d2 c d ρ' μ', Sep3 K B C' G σ ρ' μ' → ExAt K C' cls d2 c d → Ξ c d ρ' μ' → E cls d2 G) : sp3 K n wf (V.ref p :: vs) H Q E := by
  obtain ⟨m, e, SF⟩ := S
  obtain ⟨m1, mr, rfl, e1, er⟩ := e.unapp
  obtain ⟨U1, U2, M1, M2, S2, hh⟩ := SF.split
  have hy : ∀ a o, H a = some o → subU H U1 a = some o ∨ (subU H U1 a = none ∧ (B.hang U2).H0 a = none ∧ NoSlot σ ρ a) := fun a o ha => by
    cases q : U1 a with
    | none => exact .inl (by rw [subU_off q]; exact ha)
    | some u =>
      obtain ⟨_, u2, ns⟩ := hh a u q
      exact .inr ⟨subU_at q, by rw [hang_off u2]; exact (M1.fr a u q).2.1, ns⟩
  have hz : ∀ a o, subU H U1 a = some o → H a = some o := fun a o h => by
    cases q : U1 a with
    | none => rwa [subU_off q] at h
    | some u => rw [subU_at q] at h; cases h
  have back : ∀ {C' G : Hp} {τ : L2.St} {π : List Sl} {μ' : My} {n' : Int}, Sep3 K ⟨C, subU H U1, some (0, p)⟩ C' G τ π μ' → π[0]? = some (.box n') → Sep3 K B C' G σ (ρ.set i (.box n')) (μ' ++ μr) ∧ Same C C' := fun {C' G τ π μ' n'} z hn => by
    obtain ⟨m', e', U', M', S'⟩ := z
    have Sd := S'.unhang M'
    have Sa := S2.afterB' hi ei Sd hn hy hz
    refine ⟨⟨_, e'.app er, SepF.rejoin M1 M2 S2 hh M' S' Sa (fun a ns j t hj mt => ?_) Sd.grow⟩, Sd.grow⟩
    rcases get_set hj with ⟨rfl, rfl, _⟩ | ⟨nj, hj⟩
    · exact ns i _ hi rfl
    · exact ns j t hj mt
  have npu : ∀ a o, U1 a = some o → ∀ j : Nat, some (0, p) ≠ some (j, a) := fun a o h j z => by
    cases z
    exact (hh _ _ h).2.2 i _ hi rfl ei
  refine ⟨by rw [List.length_cons, r.len]; exact ln, C, U1, some (0, p), .box m0 :: ds.map .dat, μ1, m1, _, _, sep_box S2 hi ei r, e1, ⟨M1.nd, M1.at_, M1.all, fun a o h => ⟨(M1.fr a o h).1, subU_at h, npu a o h⟩⟩, fun a o h => (hh a o h).1, h, fun C' G v r ps' μ' ok z => ?_, fun C' G cls dd c d ps' μ' S' ex z => ?_⟩
  · unfold two3 at z
    split at z
    · next n' t =>
      cases r with
      | dat d => exact k _ _ _ (.dat d) _ _ ⟨(back ok.1 rfl).1, ok.2⟩ (back ok.1 rfl).2 z
      | new ds =>
        obtain ⟨x, rfl, S'⟩ := ok
        exact k _ _ _ (.new ds) _ _ ⟨x, rfl, (back S' rfl).1⟩ (back S' rfl).2 z
    · exact z.elim
  · unfold twoX3 at z
    split at z
    · next n' t => exact kx _ _ _ _ _ _ _ _ (back S' rfl).1 ex z
    · exact z.elim
theorem Sep3.calls {vs : List V} {as : List Ar} (S : Sep3 K B C H σ ρ μ) (en : Ent μ (μ1 ++ μr)) (ok : ArL K C σ vs as) (hn : as.length = n) (h : call3 wf as ρ μ1 μr Ψ Ξ)
    (k : ∀ C' G v r ρ' μ', Ok3 K B C' G σ ρ' μ' v r → Same C C' → Ψ r ρ' μ' → Q v G) (kx : ∀ C' G cls d2 c d ρ' μ', Sep3 K B C' G σ ρ' μ' → ExAt K C' cls d2 c d → Ξ c d ρ' μ' → E cls d2 G) : sp3 K n wf vs H Q E := by
  have S1 := S.ent en
  unfold call3 at h
  split at h
  · next i as' =>
    split at h
    · next m0 ds h1 h2 =>
      cases ok with
      | cons x t =>
        have x : σ[i]? = some (some _) := x
        obtain ⟨p, e, _⟩ := S1.sep.sl i _ h1
        rw [x] at e
        cases e
        exact Sep3.handB S1 h1 x (t.dats h2) (by rw [← hn, List.length_cons, ← t.len, ← (t.dats h2).len]) h k kx
    · exact h.elim
  · next _ =>
    split at h
    · next ds h2 => exact Sep3.handD S1 (ok.dats h2) (by rw [← hn, ← ok.len, ← (ok.dats h2).len]) h k kx
    · exact h.elim
end
class Dw (K : PySem.W.Frag) (vs : List V) (ds : outParam (List Dt)) : Prop where
  run : ∀ (C : Hp), RpL K C vs ds
instance (priority := 40) dw_dv {vs : List V} {ds : List Dt} [a : Dv vs ds] : Dw K vs ds := ⟨a.run K⟩
def wCall3 (n a m : Nat) (wf : W3F) (is : List Nat) (dd : List Dt) (wa wk : WA3) : WE3 := fun ρ μ Ψ Ξ => wa ρ μ (fun as ρ1 μ1 => wk ρ1 μ1 (fun bs ρ2 μ2 => (as.length = a ∧ bs.length = m ∧ (gP is as (bs ++ dd.map .d)).length = n) ∧ ∃ ν νr, Ent μ2 (ν ++ νr) ∧ call3 wf (gP is as (bs ++ dd.map .d)) ρ2 ν νr Ψ Ξ) Ξ) Ξ
instance (priority := 45) e3_call {W : WX} {n a m : Nat} {wf : W3F} {is : List Nat} {dv : List V} {dd : List Dt} {ta tk : TA} {wa wk : WA3} [v : Dw K dv dd] [x : A3 K W ta wa] [y : A3 K W tk wk] : E3 K W (tCall3 a m (sp3 K n wf) (gB is dv) (L2.WE W) ta tk) (wCall3 n a m wf is dd wa wk) where
  run B C H σ ρ μ Q Ψ Ξ S h k mx := x.run B C H σ ρ μ _ _ _ S h (fun C1 H1 vs as ρ1 μ1 S1 s1 ok1 h1 => y.run B C1 H1 σ ρ1 μ1 _ _ _ S1 h1 (fun C2 H2 zs bs ρ2 μ2 S2 s2 ok2 h2 => by
    obtain ⟨⟨l1, l2, l3⟩, ν, νr, en, h2⟩ := h2
    refine ⟨by rw [ok1.len]; exact l1, by rw [ok2.len]; exact l2, ?_⟩
    exact Sep3.calls S2 en (ArL.gP is (ok1.same s2) (ok2.app (.ofRp (v.run C2)))) l3 h2 (fun C' G v r ρ' μ' ok s z => k C' G v r ρ' μ' ok ((s1.trans s2).trans s) z) fun C' G cls d2 c d ρ' μ' S' ex z => mx _ _ _ _ _ _ _ _ _ S' ex z) mx) mx
/-- a new instance is hung -/
theorem Sep3.newIns {B : Bs} {C H : Hp} {σ : L2.St} {ρ : List Sl} {μ : My} {x dx : Addr} {c : Str} (S : Sep3 K B C H σ ρ μ) (hx : H x = none) (hdx : H dx = none) (ne : dx ≠ x) : Sep3 K B C (upd (upd H dx (.own x)) x (.ins (He.ga K c) dx [])) σ ρ ((x, .fl (.ins c [] [])) :: μ) := by
  obtain ⟨m, e, U, M, S⟩ := S
  have hx2 : upd H dx (.own x) x = none := by rw [upd_ne (Ne.symm ne)]; exact hx
  have Sa := S.allocN (o := .own x) hdx
  have Sb := Sa.allocN (o := .ins (He.ga K c) dx []) hx2
  have nx := S.nohot hx
  have nd := S.nohot hdx
  obtain ⟨ux, bx⟩ := hang_no (S.free0 hx)
  obtain ⟨ud, bd⟩ := hang_no (S.free0 hdx)
  refine ⟨_, ⟨[(x, .ins c [] [])], m, rfl, rfl, e⟩, SepF.join (U1 := fun b => if b = x then some (.ins (He.ga K c) dx []) else if b = dx then some (.own x) else none) ⟨List.nodup_cons.mpr ⟨by simp, .nil⟩, fun b g h => ?_, fun b u h => ?_, fun b u h => ?_⟩ (M.on S.grow (Same.refl _) Sb) Sb fun b u h => ?_⟩
  · obtain ⟨rfl, rfl⟩ := Prod.mk.inj (List.mem_singleton.mp h)
    exact ⟨dx, [], if_pos rfl, (if_neg ne).trans (if_pos rfl), rfl, .nil, fun f h => nomatch h⟩
  · split at h
    · next z => exact .inl ⟨_, by rw [z]; exact List.mem_cons_self ..⟩
    · split at h
      · next z => exact .inr ⟨x, _, (Option.some.inj h).symm, List.mem_cons_self ..⟩
      · cases h
  · split at h
    · next z =>
      rw [z]
      exact ⟨S.cold.free hx, bx, fun i e => S.nobx nx i e⟩
    · split at h
      · next z =>
        rw [z]
        exact ⟨S.cold.free hdx, bd, fun i e => S.nobx nd i e⟩
      · cases h
  · split at h
    · next z =>
      rw [z]
      cases h
      exact ⟨upd_same, ux, nx⟩
    · next nz =>
      split at h
      · next z =>
        rw [z]
        cases h
        exact ⟨by rw [upd_ne ne, upd_same], ud, nd⟩
      · cases h
def non3 (x : Addr) (Ψ : Ro → List Sl → My → Prop) (r : Ro) (ρ : List Sl) (μ : My) : Prop := match r with
  | .dat .non => Ψ (.dat (.adr x)) ρ μ
  | _ => False
def wMake3 (K : PySem.W.Frag) (Cl : Addr) (n a m : Nat) (wf : W3F) (is : List Nat) (dd : List Dt) (wa wk : WA3) : WE3 := fun ρ μ Ψ Ξ => wa ρ μ (fun as ρ1 μ1 => wk ρ1 μ1 (fun bs ρ2 μ2 => (as.length = a ∧ bs.length = m) ∧ ∃ c, He.ga K c = Cl ∧ ∀ x, (gP is (.d (.adr x) :: as) (bs ++ dd.map .d)).length = n ∧ ∃ ν νr, Ent μ2 (ν ++ νr) ∧ call3 wf (gP is (.d (.adr x) :: as) (bs ++ dd.map .d)) ρ2 ((x, .fl (.ins c [] [])) :: ν) νr (non3 x Ψ) Ξ) Ξ) Ξ
instance (priority := 45) e3_make {W : WX} {Cl : Addr} {n a m : Nat} {wf : W3F} {is : List Nat} {dv : List V} {dd : List Dt} {ta tk : TA} {wa wk : WA3} [v : Dw K dv dd] [x : A3 K W ta wa] [y : A3 K W tk wk] : E3 K W (tMake3 Cl a m (sp3 K n wf) (gB is dv) (L2.WE W) ta tk) (wMake3 K Cl n a m wf is dd wa wk) where
  run B C H σ ρ μ Q Ψ Ξ S h k mx := x.run B C H σ ρ μ _ _ _ S h (fun C1 H1 vs as ρ1 μ1 S1 s1 ok1 h1 => y.run B C1 H1 σ ρ1 μ1 _ _ _ S1 h1 (fun C2 H2 zs bs ρ2 μ2 S2 s2 ok2 h2 => by
    obtain ⟨⟨l1, l2⟩, c, ec, h2⟩ := h2
    refine ⟨by rw [ok1.len]; exact l1, by rw [ok2.len]; exact l2, fun p dx hp hdx ne => ?_⟩
    obtain ⟨l3, ν, νr, en, h2⟩ := h2 p
    have S3 := S2.newIns (c := c) hp hdx ne
    rw [ec] at S3
    refine Sep3.calls S3 (μ1 := (p, .fl (.ins c [] [])) :: ν) (μr := νr) en.cons (ArL.gP is (.cons (show ArOk K C2 σ (V.ref p) (.d (.adr p)) from Rp.adr p) (ok1.same s2)) (ok2.app (.ofRp (v.run C2)))) l3 h2 (fun C' G v r ρ' μ' ok s z => ?_) fun C' G cls d2 c d ρ' μ' S' ex z => mx _ _ _ _ _ _ _ _ _ S' ex z
    unfold non3 at z
    split at z
    · obtain ⟨S', rp⟩ := ok
      cases rp
      exact ⟨rfl, k _ _ _ (.dat (.adr p)) _ _ ⟨S', .adr p⟩ ((s1.trans s2).trans s) z⟩
    · exact z.elim) mx) mx
/-! what level 1 promises -/
def up3 (wf : WF) : W3F := fun ps μ Ψ _ => wf ps fun r ps' => Ψ r ps' μ
theorem sp3_D {n : Nat} {wf : WF} {vs : List V} {H : Hp} {Q : VK} {E : XK} (h : sp3 K n (up3 wf) vs H Q E) : spD K n wf vs H Q E := by
  obtain ⟨hl, C, U, bx, ps, μ, m, Ψ, Ξ, S, e, M, hU, hf, k, kx⟩ := h
  have eB := subU_hang (C := C) (bx := bx) hU
  refine ⟨hl, C, bx, ps, _, S, hf, fun C' G v r ps' S' ok z => k C' G v r ps' μ ?_ z⟩
  have S'' : Sep K ((⟨C, subU H U, bx⟩ : Bs).hang U) C' G (vs.map some) ps' := by rw [eB]; exact S'
  have S0 : Sep K ((⟨C, subU H U, bx⟩ : Bs).hang U) C H (vs.map some) ps := by rw [eB]; exact S
  have M' := M.on S0.grow S'.grow S''
  cases r with
  | dat d => exact ⟨⟨m, e, U, M', S''⟩, ok⟩
  | new ds =>
    obtain ⟨x, rfl, f⟩ := ok
    refine ⟨x, rfl, _, ⟨[(x, .lst ds)], m, rfl, rfl, e⟩, SepF.fresh S'' M' ?_⟩
    rw [eB]
    exact f
theorem FnOk.up3 {k : Nat} {CX : CXT} {f : Addr} {fd : FuncData} {ps : List Str} {n : Nat} {wf : WF} (F : FnOk P w K mg base CX k f fd ps (spD K n wf)) : FnOk P w K mg base CX k f fd ps (sp3 K n (Sl.up3 wf)) := F.imp fun _ _ _ _ h => sp3_D h

end
section
variable {P : Program} {w : World} {K : PySem.W.Frag} {mg : Str → Option Value} {base : Heap}
local macro_rules | `(tactic| get_elem_tactic_trivial) => `(tactic| (repeat first | exact Wk.nil | exact Wk'.nil | refine Wk.same ?_ | refine Wk'.same ?_ | refine Wk.un (fun _ z => nomatch z) ?_ | refine Wk'.un ?_))
/-! level 3: expressions -/
/-- a list that is hung, seen as it stands -/
def vwK (μ : My) (d : Dt) (k : Dt → Prop) : Prop := match d with
  | .adr a => ∃ (i : Nat) (ds : List Dt), μ[i]? = some (a, Ob.fl (.lst ds)) ∧ k (.lst ds)
  | d => k d
theorem vwK_run {B : Bs} {C H : Hp} {σ : L2.St} {ρ : List Sl} {μ : My} {v : V} {d : Dt} {k : Dt → Prop} (S : Sep3 K B C H σ ρ μ) (r : Rp K C v d) (h : vwK μ d k) : ∃ e, Rt K C H v e ∧ k e := by
  cases d <;> try exact ⟨_, .inl r, h⟩
  rename_i a
  cases r
  obtain ⟨i, ds, hi, h⟩ := h
  obtain ⟨vs, hx, rx⟩ := S.has hi
  exact ⟨_, .inr ⟨a, vs, ds, rfl, rfl, hx, rx⟩, h⟩
def wOp3 (op : Dt → Dt → (Dt → Prop) → Prop) (wa wb : WE3) : WE3 := fun ρ μ Ψ Ξ => wa ρ μ (fun r1 ρ1 μ1 => wb ρ1 μ1 (fun r2 ρ2 μ2 => vwK μ2 r1.val fun d1 => vwK μ2 r2.val fun d2 => op d1 d2 fun d => Ψ (.dat d) ρ2 μ2) Ξ) Ξ
instance (priority := 40) e3_op {W : WX} {r : R2} {op : Dt → Dt → (Dt → Prop) → Prop} {ta tb : TE} {wa wb : WE3} [o : So K r op] [a : E3 K W ta wa] [b : E3 K W tb wb] : E3 K W (tOp r ta tb) (wOp3 op wa wb) where
  run B C H σ ρ μ Q Ψ Ξ S h k mx := a.run B C H σ ρ μ _ _ _ S h (fun C1 H1 v1 r1 ρ1 μ1 ok1 s1 h1 => by
    obtain ⟨C1', S1, s1', q1⟩ := ok1.cool
    refine b.run B C1' H1 σ ρ1 μ1 _ _ _ S1 h1 (fun C2 H2 v2 r2 ρ2 μ2 ok2 s2 h2 => ?_) mx
    obtain ⟨C2', S2, s2', q2⟩ := ok2.cool
    obtain ⟨d1, t1, h3⟩ := vwK_run S2 (q1.same (s2.trans s2')) h2
    obtain ⟨d2, t2, h4⟩ := vwK_run S2 q2 h3
    obtain ⟨B1, S3, back, _⟩ := S2.lift
    exact o.run B1 C2' H2 σ ρ2 _ _ _ _ _ _ S3 t1 t2 h4 fun C' G v d S' s' r' z => k _ _ _ (.dat d) _ _ ⟨(back S').1, r'⟩ ((s1.trans s1').trans ((s2.trans s2').trans s')) z) mx
/-! tests -/
def blK (r : Ro) (k : Bool → Prop) : Prop := match r with
  | .dat (.bl b) => k b
  | _ => False
def wTest3 (w : WE3) : WT3 := fun ρ μ Ψ Ξ => w ρ μ (fun r ρ1 μ1 => blK r fun b => Ψ b ρ1 μ1) Ξ
theorem test3_run {B : Bs} {C H : Hp} {σ : L2.St} {ρ : List Sl} {μ : My} {v : V} {r : Ro} {k : Bool → Prop} (ok : Ok3 K B C H σ ρ μ v r) (h : blK r k) : ∃ b, v = .bl b ∧ Sep3 K B C H σ ρ μ ∧ k b := by
  cases r with
  | new ds => exact False.elim h
  | dat d =>
    cases d <;> try exact False.elim h
    obtain ⟨S, r⟩ := ok
    cases r
    exact ⟨_, rfl, S, h⟩
instance (priority := 40) c3_b {W : WX} {t : TE} {w : WE3} [a : E3 K W t w] : C3 K W (tB t) (wTest3 w) where
  run B C H σ ρ μ Q Ψ Ξ S h k mx := a.run B C H σ ρ μ _ _ _ S h (fun C1 H1 v r ρ1 μ1 ok s1 z => by
    obtain ⟨b, rfl, S1, z⟩ := test3_run ok z
    exact ⟨b, rfl, k _ _ _ _ _ S1 s1 z⟩) mx
instance (priority := 40) c3_test {W : WX} {t : TE} {w : WE3} [a : E3 K W t w] : C3 K W (tTest t) (wTest3 w) where
  run B C H σ ρ μ Q Ψ Ξ S h k mx := a.run B C H σ ρ μ _ _ _ S h (fun C1 H1 v r ρ1 μ1 ok s1 z => by
    obtain ⟨b, rfl, S1, z⟩ := test3_run ok z
    exact ⟨b, rfl, k _ _ _ _ _ S1 s1 z⟩) mx
def wOr3 (wa wb : WT3) : WT3 := fun ρ μ Ψ Ξ => wa ρ μ (fun b ρ1 μ1 => if b = true then Ψ true ρ1 μ1 else wb ρ1 μ1 Ψ Ξ) Ξ
def wNot3 (wa : WT3) : WT3 := fun ρ μ Ψ Ξ => wa ρ μ (fun b ρ1 μ1 => Ψ (!b) ρ1 μ1) Ξ
instance (priority := 40) c3_or {W : WX} {ta tb : TT} {wa wb : WT3} [a : C3 K W ta wa] [b : C3 K W tb wb] : C3 K W (tOr ta tb) (wOr3 wa wb) where
  run B C H σ ρ μ Q Ψ Ξ S h k mx := a.run B C H σ ρ μ _ _ _ S h (fun C1 H1 c ρ1 μ1 S1 s1 z => by
    cases c with
    | true => exact k _ _ _ _ _ S1 s1 z
    | false => exact b.run B C1 H1 σ ρ1 μ1 _ _ _ S1 z (fun C2 H2 e ρ2 μ2 S2 s2 z => k _ _ _ _ _ S2 (s1.trans s2) z) mx) mx
instance (priority := 40) c3_not {W : WX} {ta : TT} {wa : WT3} [a : C3 K W ta wa] : C3 K W (tNot ta) (wNot3 wa) where
  run B C H σ ρ μ Q Ψ Ξ S h k mx := a.run B C H σ ρ μ _ _ _ S h (fun C1 H1 c ρ1 μ1 S1 s1 z => k _ _ _ _ _ S1 s1 z) mx
/-! displays -/
def wLst3 (wa : WA3) : WE3 := fun ρ μ Ψ Ξ => wa ρ μ (fun as ρ1 μ1 => match dats as with
  | some ds => ds.length ≤ sizeLine ∧ Ψ (.new ds) ρ1 μ1
  | none => False) Ξ
instance (priority := 40) e3_lst {W : WX} {ta : TA} {wa : WA3} [a : A3 K W ta wa] : E3 K W (tLst ta) (wLst3 wa) where
  run B C H σ ρ μ Q Ψ Ξ S h k mx := a.run B C H σ ρ μ _ _ _ S h (fun C1 H1 vs as ρ1 μ1 S1 s1 ok z => by
    cases q : dats as with
    | none => simp only [q] at z
    | some ds =>
      simp only [q] at z
      have r := ok.dats q
      exact ⟨by rw [r.len]; exact z.1, fun p hp => k _ _ _ (.new ds) _ _ ⟨p, rfl, S1.new hp r⟩ s1 z.2⟩) mx
/-! a new list that is hung -/
def tNew3 (t : TE) : TE := t
theorem peNew3 {X : Cx} {e : Expr} {t : TE} (h : PE X e t) : PE X e (tNew3 t) := h
def wNew3 (w : WE3) : WE3 := fun ρ μ Ψ Ξ => w ρ μ (fun r ρ1 μ1 => match r with
  | .new ds => ∀ a, Ψ (.dat (.adr a)) ρ1 ((a, .fl (.lst ds)) :: μ1)
  | _ => False) Ξ
instance (priority := 70) e3_new {W : WX} {t : TE} {w : WE3} [a : E3 K W t w] : E3 K W (tNew3 t) (wNew3 w) where
  run B C H σ ρ μ Q Ψ Ξ S h k mx := a.run B C H σ ρ μ _ _ _ S h (fun C1 H1 v r ρ1 μ1 ok s1 z => by
    cases r with
    | dat d => exact False.elim z
    | new ds =>
      obtain ⟨x, rfl, S1⟩ := ok
      exact k _ _ _ (.dat (.adr x)) _ _ ⟨S1, .adr x⟩ s1 (z x)) mx
/-! builtins -/
def wCB13 (f : Dt → (Dt → Prop) → Prop) (wa : WE3) : WE3 := fun ρ μ Ψ Ξ => wa ρ μ (fun r ρ1 μ1 => vwK μ1 r.val fun d => f d fun e => Ψ (.dat e) ρ1 μ1) Ξ
instance (priority := 45) e3_cb1 {W : WX} {r : List V → Hp → VK → Prop} {f : Dt → (Dt → Prop) → Prop} {ta : TE} {wa : WE3} [b : Sb1 K r f] [a : E3 K W ta wa] : E3 K W (tCB r (tCons ta tNil)) (wCB13 f wa) where
  run B C H σ ρ μ Q Ψ Ξ S h k mx := a.run B C H σ ρ μ _ _ _ S h (fun C1 H1 v1 r1 ρ1 μ1 ok1 s1 h1 => by
    obtain ⟨C2, S2, s2, q⟩ := ok1.cool
    obtain ⟨e, t, h2⟩ := vwK_run S2 q h1
    obtain ⟨B1, S3, back, _⟩ := S2.lift
    exact b.run B1 C2 H1 σ ρ1 _ _ _ _ S3 t h2 fun C' G v d S' s' r' z => k _ _ _ (.dat d) _ _ ⟨(back S').1, r'⟩ ((s1.trans s2).trans s') z) mx

end
section
variable {P : Program} {w : World} {K : PySem.W.Frag} {mg : Str → Option Value} {base : Heap}
local macro_rules | `(tactic| get_elem_tactic_trivial) => `(tactic| (repeat first | exact Wk.nil | exact Wk'.nil | refine Wk.same ?_ | refine Wk'.same ?_ | refine Wk.un (fun _ z => nomatch z) ?_ | refine Wk'.un ?_))
/-! level 3: fields -/
/-- a field is put -/
def putN (f : Str) (d : Dt) : List Str → List Dt → List Str × List Dt
  | n :: ns, x :: ds => if n = f then (n :: ns, d :: ds) else (n :: (putN f d ns ds).1, x :: (putN f d ns ds).2)
  | _, _ => ([f], [d])
theorem putN_ok {C : Hp} {f : Str} {v : V} {d : Dt} (r : Rp K C v d) : ∀ {ns : List Str} {vs : List V} {ds : List Dt}, RpL K C vs ds → ns.length = vs.length → ∃ vs', putF f v (ns.zip vs) = (putN f d ns ds).1.zip vs' ∧ (putN f d ns ds).1.length = vs'.length ∧ RpL K C vs' (putN f d ns ds).2 ∧ ∀ g, g ∈ (putN f d ns ds).1 → g ∈ ns ∨ g = f
  | [], _, _, .nil, _ => ⟨[v], rfl, rfl, .cons r .nil, fun g h => .inr (List.mem_singleton.mp h)⟩
  | [], _, _, .cons _ _, h => by simp at h
  | n :: ns, _, _, .nil, h => by simp at h
  | n :: ns, u :: vs, e :: ds, .cons a t, h => by
    by_cases q : n = f
    · refine ⟨v :: vs, ?_, ?_, ?_, ?_⟩
      · unfold putN putF
        rw [List.zip_cons_cons]
        simp only [if_pos q]
        rfl
      · unfold putN
        rw [if_pos q]
        exact h
      · unfold putN
        rw [if_pos q]
        exact .cons r t
      · unfold putN
        rw [if_pos q]
        exact fun g m => .inl m
    · obtain ⟨vs', e1, e2, e3, e4⟩ := putN_ok r (f := f) t (ns := ns) (by simpa using h)
      refine ⟨u :: vs', ?_, ?_, ?_, ?_⟩
      · unfold putN
        rw [if_neg q, List.zip_cons_cons, List.zip_cons_cons]
        show (if n = f then _ else (n, u) :: putF f v (ns.zip vs)) = _
        rw [if_neg q, e1]
      · unfold putN
        rw [if_neg q]
        exact congrArg Nat.succ e2
      · unfold putN
        rw [if_neg q]
        exact .cons a e3
      · unfold putN
        rw [if_neg q]
        exact fun g m => (List.mem_cons.mp m).elim (fun z => .inl (z ▸ List.mem_cons_self ..)) fun z => (e4 g z).imp (List.mem_cons_of_mem _) id
def wSetFld (K : PySem.W.Frag) (f : Str) (wv wo : WE3) : WS3 := fun ρ μ Φ Ξ => wv ρ μ (fun rv ρ1 μ1 => wo ρ1 μ1 (fun ro ρ2 μ2 => match ro with
  | .dat (.adr a) => ∃ (i : Nat) (c : Str) (ns : List Str) (ds : List Dt), μ2[i]? = some (a, Ob.fl (.ins c ns ds)) ∧ ((ns.contains f = true ∨ FldOk K c f) ∧ ns.length < 1000) ∧ ∃ ns' ds', putN f rv.val ns ds = (ns', ds') ∧ Φ.nx ρ2 (μ2.set i (a, Ob.fl (.ins c ns' ds')))
  | _ => False) Ξ) Ξ
theorem Sep3.setFld {B : Bs} {C H : Hp} {σ : L2.St} {ρ : List Sl} {μ : My} {a : Addr} {i : Nat} {c f : Str} {ns ns' : List Str} {ds ds' : List Dt} {v : V} {d : Dt} {dx : Addr} {vs : List V} (S : Sep3 K B C H σ ρ μ) (hi : μ[i]? = some (a, Ob.fl (.ins c ns ds))) (r : Rp K C v d) (hx : H a = some (.ins (He.ga K c) dx (ns.zip vs))) (hl : ns.length = vs.length) (rl : RpL K C vs ds) (hf : ∀ g, g ∈ ns ∨ g = f → FldOk K c g) (e : putN f d ns ds = (ns', ds')) : Sep3 K B C (upd H a (.ins (He.ga K c) dx (putF f v (ns.zip vs)))) σ ρ (μ.set i (a, Ob.fl (.ins c ns' ds'))) := by
  obtain ⟨vs', e1, e2, e3, e4⟩ := putN_ok (f := f) r rl hl
  rw [e] at e1 e2 e3 e4
  rw [e1]
  refine S.set hi fun U1 ok sub => ?_
  obtain ⟨dx', vs1, h1, h2, _, _, _⟩ := ok
  have h3 := sub _ _ h1
  rw [hx] at h3
  have h4 := Option.some.inj h3
  injection h4 with _ h5 _
  subst h5
  have nd : dx ≠ a := fun z => by
    rw [z, h1] at h2
    exact nomatch h2
  exact ⟨dx, vs', upd_same, by rw [upd_ne nd]; exact h2, e2, e3, fun g m => hf g (e4 g m)⟩
instance (priority := 40) s3_fld {W : WX} {ta tv : TE} {f : Str} {wa wv : WE3} [v : E3 K W tv wv] [a : E3 K W ta wa] : S3 K W (sFld K ta tv f) (wSetFld K f wv wa) where
  run B C H σ ρ μ D Φ Ξ S h m mx := v.run B C H σ ρ μ _ _ _ S h (fun C1 H1 v1 r1 ρ1 μ1 ok1 s1 h1 => by
    obtain ⟨C1', S1, s1', q1⟩ := ok1.cool
    refine a.run B C1' H1 σ ρ1 μ1 _ _ _ S1 h1 (fun C2 H2 v2 r2 ρ2 μ2 ok2 s2 h2 => ?_) mx
    cases r2 with
    | new ds => exact False.elim h2
    | dat x =>
      obtain ⟨S2, rp⟩ := ok2
      cases x <;> try exact False.elim h2
      rename_i x
      cases rp
      obtain ⟨i, c, ns, ds, hi, ⟨ff, lt⟩, ns', ds', e, z⟩ := h2
      obtain ⟨dx, vs, hx, hdx, hn, rl, fo⟩ := S2.has hi
      have all : ∀ g, g ∈ ns ∨ g = f → FldOk K c g := fun g hg => by
        rcases hg with hg | rfl
        · exact fo g hg
        · exact ff.elim (fun z => fo g (List.contains_iff_mem.mp z)) id
      refine ⟨x, _, dx, _, rfl, hx, (all f (.inr rfl)).cls, (all f (.inr rfl)).no, ?_, m.nx _ _ _ _ _ (S2.setFld hi (q1.same s2) hx hn rl all e) z⟩
      rw [List.length_zip]
      omega) mx
/-! targets -/
theorem Sep3.setL {B : Bs} {C H : Hp} {σ : L2.St} {ρ : List Sl} {μ : My} {a : Addr} {i : Nat} {ds es : List Dt} {ws : List V} (S : Sep3 K B C H σ ρ μ) (hi : μ[i]? = some (a, Ob.fl (.lst ds))) (r : RpL K C ws es) : Sep3 K B C (upd H a (.lst ws)) σ ρ (μ.set i (a, Ob.fl (.lst es))) := S.set hi fun U1 _ _ => ⟨ws, upd_same, r⟩
/-! lists that are hung, changed -/
def wApp3 (wo we : WE3) : WE3 := fun ρ μ Ψ Ξ => wo ρ μ (fun r ρ1 μ1 => match r with
  | .dat (.adr a) => (∃ (i : Nat) (ds : List Dt), μ1[i]? = some (a, Ob.fl (.lst ds))) ∧ we ρ1 μ1 (fun e ρ2 μ2 => ∃ (i : Nat) (ds : List Dt), μ2[i]? = some (a, Ob.fl (.lst ds)) ∧ ds.length < sizeLine ∧ Ψ (.dat .non) ρ2 (μ2.set i (a, Ob.fl (.lst (ds ++ [e.val]))))) Ξ
  | _ => False) Ξ
instance (priority := 45) e3_app {W : WX} {to te : TE} {wo we : WE3} [a : E3 K W to wo] [b : E3 K W te we] : E3 K W (tBM K "list" rAppend to (tCons te tNil)) (wApp3 wo we) where
  run B C H σ ρ μ Q Ψ Ξ S h k mx := a.run B C H σ ρ μ _ _ _ S h (fun C1 H1 v r ρ1 μ1 ok s1 z => by
    cases r with
    | new ds => exact False.elim z
    | dat x =>
      cases x <;> try exact False.elim z
      rename_i x
      obtain ⟨S1, rp⟩ := ok
      cases rp
      obtain ⟨⟨i0, ds0, hi0⟩, z⟩ := z
      obtain ⟨vs0, hx0, rx0⟩ := S1.has hi0
      refine ⟨Or.inl ⟨rfl, _, SqL.of hx0⟩, ?_⟩
      refine b.run B C1 H1 σ ρ1 μ1 _ _ _ S1 z (fun C2 H2 v2 r2 ρ2 μ2 ok2 s2 h2 => ?_) mx
      obtain ⟨C3, S3, s3, r3⟩ := ok2.cool
      obtain ⟨i, ds, hi, lt, h2⟩ := h2
      obtain ⟨vs, hx, rx⟩ := S3.has hi
      exact ⟨x, vs, _, rfl, rfl, hx, by rw [rx.len]; exact lt, k _ _ _ (.dat .non) _ _ ⟨S3.setL hi (rx.append (.cons r3 .nil)), .non⟩ (s1.trans (s2.trans s3)) h2⟩) mx
/-! read at level 3 -/
def tL3 (t : TE) : TE := t
theorem peL3 {X : Cx} {e : Expr} {t : TE} (h : PE X e t) : PE X e (tL3 t) := h
instance (priority := 70) e3_l3 {W : WX} {t : TE} {w : WE3} [a : E3 K W t w] : E3 K W (tL3 t) w := ⟨a.run⟩

end
section
variable {P : Program} {w : World} {K : PySem.W.Frag} {mg : Str → Option Value} {base : Heap}
local macro_rules | `(tactic| get_elem_tactic_trivial) => `(tactic| (repeat first | exact Wk.nil | exact Wk'.nil | refine Wk.same ?_ | refine Wk'.same ?_ | refine Wk.un (fun _ z => nomatch z) ?_ | refine Wk'.un ?_))
/-! level 3: a thing held aside -/
/-! what a for walks -/
abbrev WI3 := List Sl → My → (List Dt → List Sl → My → Prop) → XE3 → Prop
class I3 (K : PySem.W.Frag) (W : WX) (t : TI) (w : outParam WI3) : Prop where
  run : ∀ (B : Bs) (C H : Hp) (σ : L2.St) (ρ : List Sl) (μ : My) (R : It → Hp → Prop) (Ψ : List Dt → List Sl → My → Prop) (Ξ : XE3), Sep3 K B C H σ ρ μ → w ρ μ Ψ Ξ → (∀ C' G J items ρ' μ', Sep3 K B C' G σ ρ' μ' → Same C C' → ItD K J C' items → Ψ items ρ' μ' → R J G) → MeetsX3 K B Ξ W → t σ H R
def li3 (w : WI) : WI3 := fun ρ μ Ψ _ => w ρ fun items ρ1 => Ψ items ρ1 μ
instance (priority := 50) i3_lf {W : WX} {t : TI} {w : WI} [a : Si K t w] : I3 K W t (li3 w) where
  run B C H σ ρ μ R Ψ Ξ S h k mx := by
    obtain ⟨B1, S1, back, _⟩ := S.lift
    exact a.run B1 C H σ ρ _ _ S1 h fun C1 G J items ρ1 S2 s2 hJ z => k _ _ _ _ _ _ (back S2).1 (back S2).2 hJ z
/-! loops -/
theorem Ok3.keep {B B' : Bs} {C H : Hp} {σ : L2.St} {ρ : List Sl} {μ : My} {v : V} {r : Ro} (h : Ok3 K B' C H σ ρ μ v r) (f : ∀ {μ' : My}, Sep3 K B' C H σ ρ μ' → Sep3 K B C H σ ρ μ') : Ok3 K B C H σ ρ μ v r := by
  cases r with
  | dat d => exact ⟨f h.1, h.2⟩
  | new ds =>
    obtain ⟨a, e, S⟩ := h
    exact ⟨a, e, f S⟩
def wFor3 (wi : WI3) (wg : WG) (wb : WS3) : WS3 := fun ρ μ Φ Ξ => wi ρ μ (fun items ρ1 μ1 => ∃ I : Nat → List Sl → My → Prop, To3 (I 0) ρ1 μ1 ∧
  (∀ k ρ μ d, items[k]? = some d → I k ρ μ → wg d ρ fun ρ2 => wb ρ2 μ { Φ with nx := To3 (I (k + 1)), ct := To3 (I (k + 1)), bk := Φ.nx } Ξ) ∧ ∀ ρ μ, I items.length ρ μ → Φ.nx ρ μ) Ξ
instance (priority := 40) s3_for {W : WX} {ti : TI} {g : TG} {tb : TS} {wi : WI3} {wg : WG} {wb : WS3} [i : I3 K W ti wi] [a : Sg K g wg] [b : S3 K W tb wb] : S3 K W (tFor ti g tb) (wFor3 wi wg wb) where
  run B C H σ ρ μ D Φ Ξ S h m mx := i.run B C H σ ρ μ _ _ _ S h (fun C1 H1 J items ρ1 μ1 S1 s1 hJ h1 => by
    obtain ⟨I, t0, step, fin⟩ := h1
    obtain ⟨ρ0, μ0, S0, i0⟩ := S1.to t0
    refine ⟨fun k n σ2 H2 => n = items.length - k ∧ k ≤ items.length ∧ ∃ C2 ρ2 μ2, Sep3 K B C2 H2 σ2 ρ2 μ2 ∧ Same C1 C2 ∧ I k ρ2 μ2, ⟨_, rfl, Nat.zero_le _, C1, ρ0, μ0, S0, Same.refl _, i0⟩, ?_⟩
    rintro k n σ2 H2 ⟨rfl, hk, C2, ρ2, μ2, S2, s2, hI⟩
    obtain ⟨B1, T2, back, _⟩ := S2.lift
    obtain ⟨go, stop, yld⟩ := hJ B1 C2 H2 σ2 ρ2 T2 s2
    by_cases hlt : k < items.length
    · refine .inr ⟨go k hlt, fun σ3 H3 => ∃ C3 ρ3 μ3, Sep3 K B C3 H3 σ3 ρ3 μ3 ∧ Same C1 C3 ∧ I (k + 1) ρ3 μ3, fun σ3 H3 ⟨C3, ρ3, μ3, S3, s3, h3⟩ => ⟨items.length - (k + 1), by omega, rfl, hlt, C3, ρ3, μ3, S3, s3, h3⟩, fun x H' y => ?_⟩
      obtain ⟨C3, T3, s3, r3⟩ := yld k x H' items[k] (List.getElem?_eq_getElem hlt) y
      obtain ⟨S3, s3'⟩ := back T3
      obtain ⟨S3', keep⟩ := S3.rebase
      obtain ⟨B2, T4, back2, _⟩ := S3'.lift
      refine a.run B2 C3 H' σ2 ρ2 _ _ _ _ T4 r3 (step k ρ2 μ2 _ (List.getElem?_eq_getElem hlt) hI) fun σ4 ρ4 T5 h4 => ?_
      refine b.run ⟨C3, B.H0, B.bx⟩ C3 H' σ4 ρ4 μ2 _ _ _ (back2 T5).1 h4 ⟨fun C5 H5 σ5 ρ5 μ5 z h5 => ?_, fun C5 H5 σ5 ρ5 μ5 v r ok h5 => m.rt _ _ _ _ _ v r (ok.keep fun z => (keep z).1) h5, fun C5 H5 σ5 ρ5 μ5 z h5 => m.nx _ _ _ _ _ (keep z).1 h5, fun C5 H5 σ5 ρ5 μ5 z h5 => ?_⟩ fun C5 H5 σ5 ρ5 μ5 cls dd c d z ex q => mx _ _ _ _ _ _ _ _ _ (keep z).1 ex q
      · obtain ⟨ρ6, μ6, z6, h6⟩ := (keep z).1.to h5
        exact ⟨C5, ρ6, μ6, z6, s2.trans (s3.trans (keep z).2), h6⟩
      · obtain ⟨ρ6, μ6, z6, h6⟩ := (keep z).1.to h5
        exact ⟨C5, ρ6, μ6, z6, s2.trans (s3.trans (keep z).2), h6⟩
    · have e : k = items.length := by omega
      subst e
      exact .inl ⟨stop, m.nx _ _ _ _ _ S2 (fin _ _ hI)⟩) mx
/-! the ways of an if joined -/
/-! raise C(e) -/
/-! try .. except .. as .. -/
def wTry3 (K : PySem.W.Frag) (cv : Value) (wb : WS3) (wsu : Str → Dt → WS) : WS3 := fun ρ μ Φ _ => wb ρ μ Φ fun c d ρ1 μ1 => PySem.W.exmOne K (.ref (He.ga K c)) cv = some true ∧ wsu c d ρ1 ⟨fun ρ' => Φ.nx ρ' μ1, fun r ρ' => Φ.rt r ρ' μ1, fun ρ' => Φ.bk ρ' μ1, fun ρ' => Φ.ct ρ' μ1⟩
instance (priority := 40) s3_try {W : WX} {cv : Value} {i : Nat} {tb : WX → TS} {ts : Addr → Value → Option Addr → TS} {Wo : WX} {wb : WS3} {wsu : Str → Dt → WS} [a : ∀ W, S3 K W (tb W) wb] [su : Su K i ts wsu] : S3 K W (tTry K cv i tb ts Wo) (wTry3 K cv wb wsu) where
  run B C H σ ρ μ D Φ Ξ S h m mx := (a _).run B C H σ ρ μ D Φ _ S h m fun C' G σ' ρ' μ' cls dd c d S' ex z =>
    ⟨true, by rw [ex.1]; exact z.1, fun _ b hb => by
      obtain ⟨B1, S1, back, fr⟩ := S'.lift
      refine su.run B1 C' G σ' ρ' D _ b cls dd c d S1 hb ex z.2 ⟨fun C1 G σ1 ρ1 S2 z => m.nx _ _ _ _ _ (back S2).1 z, fun C1 G σ1 ρ1 v r S2 ok z => m.rt C1 G σ1 ρ1 μ' v r ?_ z, fun C1 G σ1 ρ1 S2 z => m.bk _ _ _ _ _ (back S2).1 z, fun C1 G σ1 ρ1 S2 z => m.ct _ _ _ _ _ (back S2).1 z⟩
      cases r with
      | dat d => exact ⟨(back S2).1, ok⟩
      | new ds =>
        obtain ⟨x, rfl, f⟩ := ok
        exact ⟨x, rfl, fr S2 f⟩, fun q => nomatch q⟩
/-! [e for x in it if t] -/
def noX3 : XE3 := fun _ _ _ _ => False
/-! some hung thing grows cold -/
def tCool3 (t : TE) : TE := t
theorem peCool3 {X : Cx} {e : Expr} {t : TE} (h : PE X e t) : PE X e (tCool3 t) := h
def wCool3 (w : WE3) : WE3 := fun ρ μ Ψ Ξ => w ρ μ (fun r ρ1 μ1 => match r with
  | .dat (.adr a) => ∃ (f : Fl) (μ2 : My), Ent μ1 ((a, Ob.fl f) :: μ2) ∧ Ψ (.dat f.cold) ρ1 μ2
  | _ => False) Ξ
instance (priority := 70) e3_cool {W : WX} {t : TE} {w : WE3} [a : E3 K W t w] : E3 K W (tCool3 t) (wCool3 w) where
  run B C H σ ρ μ Q Ψ Ξ S h k mx := a.run B C H σ ρ μ _ _ _ S h (fun C1 H1 v r ρ1 μ1 ok s1 z => by
    cases r with
    | new ds => exact False.elim z
    | dat d =>
      cases d <;> try exact False.elim z
      obtain ⟨S1, rp⟩ := ok
      cases rp
      obtain ⟨f, μ2, en, z⟩ := z
      obtain ⟨C2, S2, s2, r2⟩ := (S1.ent en).cool
      exact k _ _ _ (.dat f.cold) _ _ ⟨S2, r2⟩ (s1.trans s2) z) mx
/-! ghosts: packs opened and closed ahead of a statement -/

end
section
variable {P : Program} {w : World} {K : PySem.W.Frag} {mg : Str → Option Value} {base : Heap}
local macro_rules | `(tactic| get_elem_tactic_trivial) => `(tactic| (repeat first | exact Wk.nil | exact Wk'.nil | refine Wk.same ?_ | refine Wk'.same ?_ | refine Wk.un (fun _ z => nomatch z) ?_ | refine Wk'.un ?_))
/-! level 3: dicts -/
/-! {..}, {k: v, ..} -/

end
section
variable {P : Program} {w : World} {K : PySem.W.Frag} {mg : Str → Option Value} {base : Heap}
local macro_rules | `(tactic| get_elem_tactic_trivial) => `(tactic| (repeat first | exact Wk.nil | exact Wk'.nil | refine Wk.same ?_ | refine Wk'.same ?_ | refine Wk.un (fun _ z => nomatch z) ?_ | refine Wk'.un ?_))
/-! level 3: packs -/
theorem Ent.keep {is : List Nat} {μ μ1 r : My} (e : picks is μ = some (μ1, r)) : Ent μ μ1 := (Ent.pick e).trans Ent.left
theorem Ent.nil {μ : My} : Ent μ [] := Ent.drop (r := μ) (.refl _)
/-! a pack opened ahead of a statement -/
/-! what is seen as it stands -/
def lstsOf : My → Mu
  | [] => []
  | (a, .fl (.lst ds)) :: μ => (a, ds) :: lstsOf μ
  | _ :: μ => lstsOf μ
theorem lstsOf_mem : ∀ {μ : My} {a : Addr} {ds : List Dt}, (a, ds) ∈ lstsOf μ → ∃ i : Nat, μ[i]? = some (a, Ob.fl (.lst ds))
  | [], _, _, h => nomatch h
  | (b, .fl (.lst es)) :: μ, a, ds, h => by
    rcases List.mem_cons.mp h with e | h
    · cases e
      exact ⟨0, rfl⟩
    · obtain ⟨i, e⟩ := lstsOf_mem h
      exact ⟨i + 1, e⟩
  | (b, .fl (.ins _ _ _)) :: μ, a, ds, h => by
    obtain ⟨i, e⟩ := lstsOf_mem (μ := μ) h
    exact ⟨i + 1, e⟩
  | (b, .fl (.dic _ _)) :: μ, a, ds, h => by
    obtain ⟨i, e⟩ := lstsOf_mem (μ := μ) h
    exact ⟨i + 1, e⟩
  | (b, .fl (.lck _ _)) :: μ, a, ds, h => by
    obtain ⟨i, e⟩ := lstsOf_mem (μ := μ) h
    exact ⟨i + 1, e⟩
  | (b, .pk _) :: μ, a, ds, h => by
    obtain ⟨i, e⟩ := lstsOf_mem (μ := μ) h
    exact ⟨i + 1, e⟩
theorem Sep3.kept {B : Bs} {C H : Hp} {σ : L2.St} {ρ ρ' : List Sl} {μ : My} (S : Sep3 K B C H σ ρ μ) (r : RsvS (lstsOf μ) (ρ.map coolS) ρ') : Sep K ⟨H, H, none⟩ H H σ ρ' ∧ ∀ {C1 G : Hp} {σ1 : L2.St} {ρ1 : List Sl}, Sep K ⟨H, H, none⟩ C1 G σ1 ρ1 → Sep3 K B C G σ ρ μ ∧ Same H G := by
  have hm : ∀ a ds, (a, ds) ∈ lstsOf μ → ∃ vs, H a = some (.lst vs) ∧ RpL K H vs ds := fun a ds h => by
    obtain ⟨i, e⟩ := lstsOf_mem h
    obtain ⟨vs, e2, q⟩ := S.has e
    exact ⟨vs, e2, q.same S.sep.cold⟩
  obtain ⟨m, e, U, M, S⟩ := S
  refine ⟨S.cooled.redat hm r, fun {C1 G σ1 ρ1} S1 => ?_⟩
  have s : Same H G := fun x o e => S1.keep x o e fun i z => nomatch z
  exact ⟨⟨m, e, U, M, S.same s⟩, s⟩
def tKeep3T (t : TT) : TT := t
theorem ptKeep3 {X : Cx} {e : Expr} {t : TT} (h : PT X e t) : PT X e (tKeep3T t) := h
def wKeep3T (wc : WT) : WT3 := fun ρ μ Ψ _ => ∃ ρ', RsvS (lstsOf μ) (ρ.map coolS) ρ' ∧ wc ρ' fun b _ => Ψ b ρ μ
instance (priority := 70) c3_keep {W : WX} {tt : TT} {wc : WT} [c : Sc K tt wc] : C3 K W (tKeep3T tt) (wKeep3T wc) where
  run B C H σ ρ μ Q Ψ Ξ S h k mx := by
    obtain ⟨ρ', r, h⟩ := h
    obtain ⟨S0, back⟩ := S.kept r
    exact c.run _ H H σ ρ' _ _ S0 h fun C1 G b ρ1 S1 s1 z => k C G b ρ μ (back S1).1 (Same.refl _) z
/-! for x in a list that is hung: it is held meanwhile -/
/-! dicts as values -/
/-! d.update(e) -/

end
section
variable {P : Program} {w : World} {K : PySem.W.Frag} {mg : Str → Option Value} {base : Heap}
local macro_rules | `(tactic| get_elem_tactic_trivial) => `(tactic| (repeat first | exact Wk.nil | exact Wk'.nil | refine Wk.same ?_ | refine Wk'.same ?_ | refine Wk.un (fun _ z => nomatch z) ?_ | refine Wk'.un ?_))
/-! list(enumerate(x)) -/
namespace En
section
variable {prog : Program} {w : World} {A : Around} {E : Value → Shared → Prop} {s : Shared}
end
end En
namespace En
section
variable {prog : Program} {w : World} {A : Around} {s : Shared} {R : Result → Shared → Prop}
end
end En
/-! its data -/

end
section
variable {P : Program} {w : World} {K : PySem.W.Frag} {mg : Str → Option Value} {base : Heap}
local macro_rules | `(tactic| get_elem_tactic_trivial) => `(tactic| (repeat first | exact Wk.nil | exact Wk'.nil | refine Wk.same ?_ | refine Wk'.same ?_ | refine Wk.un (fun _ z => nomatch z) ?_ | refine Wk'.un ?_))
/-! a hung thing grows cold, and a slot that names it is told as it stands -/
/-! how often a truth is in a list -/
/-! list(range(n)) at level 3 -/

end
section
variable {P : Program} {w : World} {K : PySem.W.Frag} {mg : Str → Option Value} {base : Heap}
local macro_rules | `(tactic| get_elem_tactic_trivial) => `(tactic| (repeat first | exact Wk.nil | exact Wk'.nil | refine Wk.same ?_ | refine Wk'.same ?_ | refine Wk.un (fun _ z => nomatch z) ?_ | refine Wk'.un ?_))

/-! list(d.items()) of a dict that is hung, dict(xs) of pairs -/
namespace Dc
/-! dict(xs) -/
end Dc
/-! a keyword's default that is an empty tuple -/
theorem tupA_sq {K : PySem.W.Frag} {a : Addr} (h : tupA K a = true) (H : Hp) : SqT K H a [] := by
  unfold tupA at h
  split at h
  · next o q =>
    obtain ⟨h1, h2⟩ := He.ba h
    refine .inr ?_
    have e1 : o.cls = .type "tuple" := by
      split at h1
      · next c e => rw [e, of_decide_eq_true h1]
      · cases h1
    split at h2
    · next its n e =>
      have z := of_decide_eq_true h2
      have e3 : its = #[] := Array.eq_empty_of_size_eq_zero z
      subst e3
      exact ⟨o, #[], n, q, e1, e, by decide, .nil⟩
    · cases h2
  · cases h
theorem dw_tup {K : PySem.W.Frag} {a : Addr} (h : tupA K a = true) (C : Hp) : Rp K C (.ref a) (.tup []) := .tup (tupA_sq h C) .nil
def asPE {X : Cx} {e : Expr} (t : TE) (h : PE X e t) : PE X e t := h
def asPS {X : Cx} {e : Stmt} (t : TS) (h : PS X e t) : PS X e t := h

/-! x == y of two things of one class with an own == -/
section
variable {prog : Program} {A : Around} {E : Value → Shared → Prop} {s : Shared} {x y C f : Addr} {ox : Obj} {od : Option Obj}
end
/-! try: body, except x as n: suite, where the error is tracked in the suite too -/
section
variable {X : Cx} {x n : Str} {c : Value} {i : Nat} {body rest : List Stmt} {b1 : Stmt} {np at1 at2 : Pos} {tb : WX → TS} {ts : TS} {Wo : WX}
end

/-! isinstance of any thing and a class of one's own -/
class IsA (K : PySem.W.Frag) (c : Str) : Prop where
  cl : Cls K (He.ga K c)
  fs : IsF K (He.ga K c)
  no : isoD K c = true
theorem IsA.of {K : PySem.W.Frag} {c : Str} (i : IsA K c) {s : String} (h : s ∈ IK) : PySem.W.kitOne K (.type s) (.ref (He.ga K c)) = some false := by
  have z := i.no
  unfold isoD at z
  exact eq_of_beq (List.all_eq_true.mp z s h)
def isOb (c : Str) : Dt → Bool
  | .obj c' _ _ => decide (c' = c)
  | _ => false
def obK (c : Str) (d : Dt) (k : Prop) : Prop := match d with
  | .obj c' _ _ => c' = c ∧ k
  | .err _ _ => False
  | .adr _ => False
  | .dic _ _ => False
  | _ => k
def wIsA (c : Str) (wa : WE) : WE := fun ρ Ψ => wa ρ fun r ρ1 => match r.val ρ1 with
  | some d => obK c d (Ψ (.dat (.bl (isOb c d))) ρ1)
  | none => False
theorem isA_run {B : Bs} {C H : Hp} {σ : L2.St} {ρ : List Sl} {c : Str} {v : V} {d : Dt} {k : Prop} (io : IsA K c) (S : Sep K B C H σ ρ) (r : Rt K C H v d) (h : obK c d k) : (∃ t : Value, TyX K H v t ∧ PySem.W.kitOne K t (.ref (He.ga K c)) = some (isOb c d)) ∧ k := by
  cases d with
  | obj c' ns ds =>
    obtain ⟨rfl, h⟩ := h
    rcases r with r | ⟨_, _, _, _, e, _⟩
    · cases r with
      | obj a1 a2 a3 a4 =>
        refine ⟨⟨_, .base (.ins (S.cold _ _ a1) io.cl io.fs.ha io.fs.hn io.fs.ht io.fs.hm), ?_⟩, h⟩
        rw [show isOb c' (.obj c' ns ds) = true from decide_eq_true rfl]
        exact kit_same
    · cases e
  | err _ _ => exact h.elim
  | adr _ => exact h.elim
  | dic _ _ => exact h.elim
  | _ =>
    refine ⟨⟨_, kind_ty S r rfl, ?_⟩, h⟩
    exact io.of (by decide)
instance (priority := 1100) sd_isA {c : Str} {ta : TE} {wa : WE} [io : IsA K c] [a : Sd K ta wa] : Sd K (tCB (rIsi K) (tCons ta (tCons (tC (.ref (He.ga K c))) tNil))) (wIsA c wa) where
  run B C H σ ρ Q Ψ S h k := a.run B C H σ ρ _ _ S h fun C1 H1 v1 r1 ρ1 S1 s1 ok1 h1 => by
    cases q : r1.val ρ1 with
    | none => simp only [q] at h1
    | some d =>
      simp only [q] at h1
      obtain ⟨⟨t, ty, kt⟩, z⟩ := isA_run io S1 (S1.valOf ok1 (Same.refl _) q) h1
      exact ⟨v1, _, t, _, isOb c d, rfl, .own _, ty, kt, k _ _ _ (.dat _) _ S1 s1 (.bl _) z⟩



end
section
variable {P : Program} {w : World} {K : PySem.W.Frag} {mg : Str → Option Value} {base : Heap}
local macro_rules | `(tactic| get_elem_tactic_trivial) => `(tactic| (repeat first | exact Wk.nil | exact Wk'.nil | refine Wk.same ?_ | refine Wk'.same ?_ | refine Wk.un (fun _ z => nomatch z) ?_ | refine Wk'.un ?_))
theorem scIsNumber : FnScope ["thing"] ["thing"] (defScope sIsNumber) := ⟨rfl, rfl, rfl, by decide +kernel, rfl, by decide +kernel, by decide +kernel⟩
theorem scIsWithin : FnScope ["thing", "least", "greatest"] ["thing", "least", "greatest"] (defScope sIsWithin) := ⟨rfl, rfl, rfl, by decide +kernel, rfl, by decide +kernel, by decide +kernel⟩
theorem scIsName : FnScope ["thing", "letter"] ["thing"] (defScope sIsName) := ⟨rfl, rfl, rfl, by decide +kernel, rfl, by decide +kernel, by decide +kernel⟩
theorem scIsPlacedBody : FnScope ["thing", "greatest", "number", "name", "body"] ["thing", "greatest"] (defScope sIsPlacedBody) := ⟨rfl, rfl, rfl, by decide +kernel, rfl, by decide +kernel, by decide +kernel⟩
theorem scAreLoads : FnScope ["thing", "load"] ["thing"] (defScope sAreLoads) := ⟨rfl, rfl, rfl, by decide +kernel, rfl, by decide +kernel, by decide +kernel⟩
theorem scAreLies : FnScope ["thing", "loads", "lie", "after"] ["thing", "loads"] (defScope sAreLies) := ⟨rfl, rfl, rfl, by decide +kernel, rfl, by decide +kernel, by decide +kernel⟩
theorem scLBox : FnScope ["_law_script", "_law_k", "_law_cell"] ["_law_script", "_law_k"] (defScope sLBox) := ⟨rfl, rfl, rfl, by decide +kernel, rfl, by decide +kernel, by decide +kernel⟩
theorem scLTake : FnScope ["_law_box_here", "_law_size", "_law_found", "_law_once"] ["_law_box_here", "_law_size"] (defScope sLTake) := ⟨rfl, rfl, rfl, by decide +kernel, rfl, by decide +kernel, by decide +kernel⟩
theorem scLPick : FnScope ["_law_box_here", "_law_things"] ["_law_box_here", "_law_things"] (defScope sLPick) := ⟨rfl, rfl, rfl, by decide +kernel, rfl, by decide +kernel, by decide +kernel⟩
theorem scLFolded : FnScope ["_law_script", "_law_size", "_law_cells", "_law_k", "_law_cell"] ["_law_script", "_law_size"] (defScope sLFolded) := ⟨rfl, rfl, rfl, by decide +kernel, rfl, by decide +kernel, by decide +kernel⟩
theorem scLNames : FnScope ["_law_box_here", "_law_size", "_law_letters", "_law_begun", "_law_by", "_law_tail", "_law_k", "_law_at"] ["_law_box_here", "_law_size"] (defScope sLNames) := ⟨rfl, rfl, rfl, by decide +kernel, rfl, by decide +kernel, by decide +kernel⟩
theorem scLSame : FnScope ["_law_found", "_law_due_here", "_law_one", "_law_two"] ["_law_found", "_law_due_here"] (defScope sLSame) := ⟨rfl, rfl, rfl, by decide +kernel, rfl, by decide +kernel, by decide +kernel⟩
theorem scLFields : FnScope ["_law_hand"] ["_law_hand"] (defScope sLFields) := ⟨rfl, rfl, rfl, by decide +kernel, rfl, by decide +kernel, by decide +kernel⟩
theorem scLIsNumber : FnScope ["_law_thing", "_law_top"] ["_law_thing", "_law_top"] (defScope sLIsNumber) := ⟨rfl, rfl, rfl, by decide +kernel, rfl, by decide +kernel, by decide +kernel⟩
theorem scLIsName : FnScope ["_law_thing", "_law_sign"] ["_law_thing"] (defScope sLIsName) := ⟨rfl, rfl, rfl, by decide +kernel, rfl, by decide +kernel, by decide +kernel⟩
theorem scLTriples : FnScope ["_law_thing", "_law_top", "_law_one"] ["_law_thing", "_law_top"] (defScope sLTriples) := ⟨rfl, rfl, rfl, by decide +kernel, rfl, by decide +kernel, by decide +kernel⟩
theorem scLDue : FnScope ["_law_hand", "_law_name", "_law_body", "_law_things", "_law_told_here", "_law_places", "_law_one"] ["_law_hand"] (defScope sLDue) := ⟨rfl, rfl, rfl, by decide +kernel, rfl, by decide +kernel, by decide +kernel⟩
theorem scLOddPart : FnScope ["_law_box_here", "_law_part", "_law_place", "_law_odd", "_law_some", "_law_way", "_law_bad", "_law_at"] ["_law_box_here", "_law_part", "_law_place"] (defScope sLOddPart) := ⟨rfl, rfl, rfl, by decide +kernel, rfl, by decide +kernel, by decide +kernel⟩
theorem scLTold : FnScope ["_law_hand", "_law_caught", "error", "_law_fine"] ["_law_hand"] (defScope sLTold) := ⟨rfl, rfl, rfl, by decide +kernel, rfl, by decide +kernel, by decide +kernel⟩
theorem scLGood : FnScope ["_law_box_here", "_law_names_here", "_law_things", "_law_k", "_law_places", "_law_place", "_law_told_here"] ["_law_box_here", "_law_names_here"] (defScope sLGood) := ⟨rfl, rfl, rfl, by decide +kernel, rfl, by decide +kernel, by decide +kernel⟩
theorem scLRight : FnScope ["_law_box_here", "_law_names_here", "_law_good_here", "_law_other", "_law_handed", "_law_hand", "_law_some", "_law_due_here", "_law_bare", "_law_two", "_law_alike", "_law_thing"] ["_law_box_here", "_law_names_here"] (defScope sLRight) := ⟨rfl, rfl, rfl, by decide +kernel, rfl, by decide +kernel, by decide +kernel⟩
theorem scLaw : FnScope ["_law_script", "_law_cells", "_law_k", "_law_box_here", "_law_names_here", "_law_turn", "_law_good_here", "_law_again", "_law_bent", "_law_once", "_law_place", "_law_stays"] ["_law_script"] (defScope sLaw) := ⟨rfl, rfl, rfl, by decide +kernel, rfl, by decide +kernel, by decide +kernel⟩
theorem scHandInit : FnScope ["self", "name", "body", "loads", "lies"] ["self", "name", "body", "loads", "lies"] (defScope sHandInit) := ⟨rfl, rfl, rfl, by decide +kernel, rfl, by decide +kernel, by decide +kernel⟩
theorem scHandEq : FnScope ["self", "other"] ["self", "other"] (defScope sHandEq) := ⟨rfl, rfl, rfl, by decide +kernel, rfl, by decide +kernel, by decide +kernel⟩
theorem scHandStr : FnScope ["self"] ["self"] (defScope sHandStr) := ⟨rfl, rfl, rfl, by decide +kernel, rfl, by decide +kernel, by decide +kernel⟩
theorem scStartErrorInit : FnScope ["self", "what"] ["self", "what"] (defScope sStartErrorInit) := ⟨rfl, rfl, rfl, by decide +kernel, rfl, by decide +kernel, by decide +kernel⟩
/-- the names that are the builtins' own -/
structure Bl (mg : Str → Option Value) : Prop where
  b_ValueError : mg "ValueError" = none
  b_repr : mg "repr" = none
  b_len : mg "len" = none
  b_abs : mg "abs" = none
  b_int : mg "int" = none
  b_isinstance : mg "isinstance" = none
  b_list : mg "list" = none
  b_tuple : mg "tuple" = none
  b_str : mg "str" = none
  b_bool : mg "bool" = none
  b_all : mg "all" = none
  b_zip : mg "zip" = none
  b_range : mg "range" = none
  b_max : mg "max" = none
  b_min : mg "min" = none
  b_enumerate : mg "enumerate" = none
  b_divmod : mg "divmod" = none
  b_sorted : mg "sorted" = none
  b_set : mg "set" = none
  b_any : mg "any" = none
/-- what the top has written -/
structure Tx (K : PySem.W.Frag) (mg : Str → Option Value) where
  B : Bl mg
  c_NOTES : ∃ t, mg "NOTES" = some (.int 9973 t)
  c_TIMES : ∃ t, mg "TIMES" = some (.int 48271 t)
  c_MORE : ∃ t, mg "MORE" = some (.int 11 t)
  c_LETTERS : ∃ t, mg "LETTERS" = some (.str "abcdefghijklmnopqrstuvwxyz" t)
  c_LONGEST : ∃ t, mg "LONGEST" = some (.int 4 t)
  c_MOST_BOARDS : ∃ t, mg "MOST_BOARDS" = some (.int 8 t)
  c_GREATEST_BODY : ∃ t, mg "GREATEST_BODY" = some (.int 1000000 t)
  c_MOST_LOADS : ∃ t, mg "MOST_LOADS" = some (.int 3 t)
  fdIsNumber : FuncData
  FIsNumber : FunD K "is_number" "is_number" (defArgs sIsNumber) (defBody sIsNumber) (defScope sIsNumber) [] [] (He.ga K "is_number") fdIsNumber
  gIsNumber : mg "is_number" = some (.ref (He.ga K "is_number"))
  fdIsWithin : FuncData
  FIsWithin : FunD K "is_within" "is_within" (defArgs sIsWithin) (defBody sIsWithin) (defScope sIsWithin) [] [] (He.ga K "is_within") fdIsWithin
  gIsWithin : mg "is_within" = some (.ref (He.ga K "is_within"))
  fdMeasure : FuncData
  FMeasure : FunD K "measure" "measure" (defArgs sMeasure) (defBody sMeasure) (defScope sMeasure) [] [] (He.ga K "measure") fdMeasure
  gMeasure : mg "measure" = some (.ref (He.ga K "measure"))
  fdIsName : FuncData
  FIsName : FunD K "is_name" "is_name" (defArgs sIsName) (defBody sIsName) (defScope sIsName) [] [] (He.ga K "is_name") fdIsName
  gIsName : mg "is_name" = some (.ref (He.ga K "is_name"))
  fdIsPlacedBody : FuncData
  FIsPlacedBody : FunD K "is_placed_body" "is_placed_body" (defArgs sIsPlacedBody) (defBody sIsPlacedBody) (defScope sIsPlacedBody) [] [] (He.ga K "is_placed_body") fdIsPlacedBody
  gIsPlacedBody : mg "is_placed_body" = some (.ref (He.ga K "is_placed_body"))
  fdAreLoads : FuncData
  FAreLoads : FunD K "are_loads" "are_loads" (defArgs sAreLoads) (defBody sAreLoads) (defScope sAreLoads) [] [] (He.ga K "are_loads") fdAreLoads
  gAreLoads : mg "are_loads" = some (.ref (He.ga K "are_loads"))
  fdAreLies : FuncData
  FAreLies : FunD K "are_lies" "are_lies" (defArgs sAreLies) (defBody sAreLies) (defScope sAreLies) [] [] (He.ga K "are_lies") fdAreLies
  gAreLies : mg "are_lies" = some (.ref (He.ga K "are_lies"))
  fdTrueNotes : FuncData
  FTrueNotes : FunD K "true_notes" "true_notes" (defArgs sTrueNotes) (defBody sTrueNotes) (defScope sTrueNotes) [] [] (He.ga K "true_notes") fdTrueNotes
  gTrueNotes : mg "true_notes" = some (.ref (He.ga K "true_notes"))
  fdLBox : FuncData
  FLBox : FunD K "_law_box" "_law_box" (defArgs sLBox) (defBody sLBox) (defScope sLBox) [] [] (He.ga K "_law_box") fdLBox
  gLBox : mg "_law_box" = some (.ref (He.ga K "_law_box"))
  fdLTake : FuncData
  FLTake : FunD K "_law_take" "_law_take" (defArgs sLTake) (defBody sLTake) (defScope sLTake) [] [] (He.ga K "_law_take") fdLTake
  gLTake : mg "_law_take" = some (.ref (He.ga K "_law_take"))
  fdLPick : FuncData
  FLPick : FunD K "_law_pick" "_law_pick" (defArgs sLPick) (defBody sLPick) (defScope sLPick) [] [] (He.ga K "_law_pick") fdLPick
  gLPick : mg "_law_pick" = some (.ref (He.ga K "_law_pick"))
  fdLFolded : FuncData
  FLFolded : FunD K "_law_folded" "_law_folded" (defArgs sLFolded) (defBody sLFolded) (defScope sLFolded) [] [] (He.ga K "_law_folded") fdLFolded
  gLFolded : mg "_law_folded" = some (.ref (He.ga K "_law_folded"))
  fdLNames : FuncData
  FLNames : FunD K "_law_names" "_law_names" (defArgs sLNames) (defBody sLNames) (defScope sLNames) [] [] (He.ga K "_law_names") fdLNames
  gLNames : mg "_law_names" = some (.ref (He.ga K "_law_names"))
  fdLSame : FuncData
  FLSame : FunD K "_law_same" "_law_same" (defArgs sLSame) (defBody sLSame) (defScope sLSame) [] [] (He.ga K "_law_same") fdLSame
  gLSame : mg "_law_same" = some (.ref (He.ga K "_law_same"))
  fdLFields : FuncData
  FLFields : FunD K "_law_fields" "_law_fields" (defArgs sLFields) (defBody sLFields) (defScope sLFields) [] [] (He.ga K "_law_fields") fdLFields
  gLFields : mg "_law_fields" = some (.ref (He.ga K "_law_fields"))
  fdLIsNumber : FuncData
  FLIsNumber : FunD K "_law_is_number" "_law_is_number" (defArgs sLIsNumber) (defBody sLIsNumber) (defScope sLIsNumber) [] [] (He.ga K "_law_is_number") fdLIsNumber
  gLIsNumber : mg "_law_is_number" = some (.ref (He.ga K "_law_is_number"))
  fdLIsName : FuncData
  FLIsName : FunD K "_law_is_name" "_law_is_name" (defArgs sLIsName) (defBody sLIsName) (defScope sLIsName) [] [] (He.ga K "_law_is_name") fdLIsName
  gLIsName : mg "_law_is_name" = some (.ref (He.ga K "_law_is_name"))
  fdLTriples : FuncData
  FLTriples : FunD K "_law_triples" "_law_triples" (defArgs sLTriples) (defBody sLTriples) (defScope sLTriples) [] [] (He.ga K "_law_triples") fdLTriples
  gLTriples : mg "_law_triples" = some (.ref (He.ga K "_law_triples"))
  fdLDue : FuncData
  FLDue : FunD K "_law_due" "_law_due" (defArgs sLDue) (defBody sLDue) (defScope sLDue) [] [] (He.ga K "_law_due") fdLDue
  gLDue : mg "_law_due" = some (.ref (He.ga K "_law_due"))
  fdLOddPart : FuncData
  FLOddPart : FunD K "_law_odd_part" "_law_odd_part" (defArgs sLOddPart) (defBody sLOddPart) (defScope sLOddPart) [] [] (He.ga K "_law_odd_part") fdLOddPart
  gLOddPart : mg "_law_odd_part" = some (.ref (He.ga K "_law_odd_part"))
  fdLTold : FuncData
  FLTold : FunD K "_law_told" "_law_told" (defArgs sLTold) (defBody sLTold) (defScope sLTold) [] [] (He.ga K "_law_told") fdLTold
  gLTold : mg "_law_told" = some (.ref (He.ga K "_law_told"))
  fdLGood : FuncData
  FLGood : FunD K "_law_good" "_law_good" (defArgs sLGood) (defBody sLGood) (defScope sLGood) [] [] (He.ga K "_law_good") fdLGood
  gLGood : mg "_law_good" = some (.ref (He.ga K "_law_good"))
  fdLRight : FuncData
  FLRight : FunD K "_law_right" "_law_right" (defArgs sLRight) (defBody sLRight) (defScope sLRight) [] [] (He.ga K "_law_right") fdLRight
  gLRight : mg "_law_right" = some (.ref (He.ga K "_law_right"))
  fdLaw : FuncData
  FLaw : FunD K "law" "law" (defArgs sLaw) (defBody sLaw) (defScope sLaw) [] [] (He.ga K "law") fdLaw
  gLaw : mg "law" = some (.ref (He.ga K "law"))
  tdHandInit_loads : tupA K (kda K ("Hand", some "__init__") "loads") = true
  tdHandInit_lies : tupA K (kda K ("Hand", some "__init__") "lies") = true
  fdHandInit : FuncData
  FHandInit : FunD K "__init__" "Hand.__init__" (defArgs sHandInit) (defBody sHandInit) (defScope sHandInit) [] [("loads", .ref (kda K ("Hand", some "__init__") "loads")), ("lies", .ref (kda K ("Hand", some "__init__") "lies"))] (He.ma K (He.ga K "Hand") "__init__") fdHandInit
  mkHand : Mk K (He.ga K "Hand") (He.ma K (He.ga K "Hand") "__init__")
  fdHandNotes : FuncData
  FHandNotes : FunD K "notes" "Hand.notes" (defArgs sHandNotes) (defBody sHandNotes) (defScope sHandNotes) [] [] (He.ma K (He.ga K "Hand") "notes") fdHandNotes
  mHandNotes : Meth K (He.ga K "Hand") "notes" (He.ma K (He.ga K "Hand") "notes")
  fdHandEq : FuncData
  FHandEq : FunD K "__eq__" "Hand.__eq__" (defArgs sHandEq) (defBody sHandEq) (defScope sHandEq) [] [] (He.ma K (He.ga K "Hand") "__eq__") fdHandEq
  mHandEq : Meth K (He.ga K "Hand") "__eq__" (He.ma K (He.ga K "Hand") "__eq__")
  fdHandStr : FuncData
  FHandStr : FunD K "__str__" "Hand.__str__" (defArgs sHandStr) (defBody sHandStr) (defScope sHandStr) [] [] (He.ma K (He.ga K "Hand") "__str__") fdHandStr
  mHandStr : Meth K (He.ga K "Hand") "__str__" (He.ma K (He.ga K "Hand") "__str__")
  fdStartErrorInit : FuncData
  FStartErrorInit : FunD K "__init__" "StartError.__init__" (defArgs sStartErrorInit) (defBody sStartErrorInit) (defScope sStartErrorInit) [] [] (He.ma K (He.ga K "StartError") "__init__") fdStartErrorInit
  clHand : Cls K (He.ga K "Hand")
  gHand : mg "Hand" = some (.ref (He.ga K "Hand"))
  nHand_name : NoAttr K (He.ga K "Hand") "name"
  nHand_body : NoAttr K (He.ga K "Hand") "body"
  nHand_loads : NoAttr K (He.ga K "Hand") "loads"
  nHand_lies : NoAttr K (He.ga K "Hand") "lies"
  is_Hand : IsF K (He.ga K "Hand")
  io_Hand : isoD K "Hand" = true
  gStartError : mg "StartError" = some (.ref (He.ga K "StartError"))
  gBadHand : mg "BadHand" = some (.ref (He.ga K "BadHand"))
  gBadMachine : mg "BadMachine" = some (.ref (He.ga K "BadMachine"))
  er : errOk K "StartError" ERRS = true
theorem Tx.bIsNumber {K : PySem.W.Frag} {mg : Str → Option Value} (T : Tx K mg) : Binds K T.fdIsNumber ["thing"] [] := T.FIsNumber.bindsN fun _ _ _ _ _ _ us hl => match us, hl with | [_], _ => rfl
theorem Tx.bIsWithin {K : PySem.W.Frag} {mg : Str → Option Value} (T : Tx K mg) : Binds K T.fdIsWithin ["thing", "least", "greatest"] [] := T.FIsWithin.bindsN fun _ _ _ _ _ _ us hl => match us, hl with | [_, _, _], _ => rfl
theorem Tx.bIsName {K : PySem.W.Frag} {mg : Str → Option Value} (T : Tx K mg) : Binds K T.fdIsName ["thing"] [] := T.FIsName.bindsN fun _ _ _ _ _ _ us hl => match us, hl with | [_], _ => rfl
theorem Tx.bIsPlacedBody {K : PySem.W.Frag} {mg : Str → Option Value} (T : Tx K mg) : Binds K T.fdIsPlacedBody ["thing", "greatest"] [] := T.FIsPlacedBody.bindsN fun _ _ _ _ _ _ us hl => match us, hl with | [_, _], _ => rfl
theorem Tx.bAreLoads {K : PySem.W.Frag} {mg : Str → Option Value} (T : Tx K mg) : Binds K T.fdAreLoads ["thing"] [] := T.FAreLoads.bindsN fun _ _ _ _ _ _ us hl => match us, hl with | [_], _ => rfl
theorem Tx.bAreLies {K : PySem.W.Frag} {mg : Str → Option Value} (T : Tx K mg) : Binds K T.fdAreLies ["thing", "loads"] [] := T.FAreLies.bindsN fun _ _ _ _ _ _ us hl => match us, hl with | [_, _], _ => rfl
theorem Tx.bLBox {K : PySem.W.Frag} {mg : Str → Option Value} (T : Tx K mg) : Binds K T.fdLBox ["_law_script", "_law_k"] [] := T.FLBox.bindsN fun _ _ _ _ _ _ us hl => match us, hl with | [_, _], _ => rfl
theorem Tx.bLTake {K : PySem.W.Frag} {mg : Str → Option Value} (T : Tx K mg) : Binds K T.fdLTake ["_law_box_here", "_law_size"] [] := T.FLTake.bindsN fun _ _ _ _ _ _ us hl => match us, hl with | [_, _], _ => rfl
theorem Tx.bLPick {K : PySem.W.Frag} {mg : Str → Option Value} (T : Tx K mg) : Binds K T.fdLPick ["_law_box_here", "_law_things"] [] := T.FLPick.bindsN fun _ _ _ _ _ _ us hl => match us, hl with | [_, _], _ => rfl
theorem Tx.bLFolded {K : PySem.W.Frag} {mg : Str → Option Value} (T : Tx K mg) : Binds K T.fdLFolded ["_law_script", "_law_size"] [] := T.FLFolded.bindsN fun _ _ _ _ _ _ us hl => match us, hl with | [_, _], _ => rfl
theorem Tx.bLNames {K : PySem.W.Frag} {mg : Str → Option Value} (T : Tx K mg) : Binds K T.fdLNames ["_law_box_here", "_law_size"] [] := T.FLNames.bindsN fun _ _ _ _ _ _ us hl => match us, hl with | [_, _], _ => rfl
theorem Tx.bLSame {K : PySem.W.Frag} {mg : Str → Option Value} (T : Tx K mg) : Binds K T.fdLSame ["_law_found", "_law_due_here"] [] := T.FLSame.bindsN fun _ _ _ _ _ _ us hl => match us, hl with | [_, _], _ => rfl
theorem Tx.bLFields {K : PySem.W.Frag} {mg : Str → Option Value} (T : Tx K mg) : Binds K T.fdLFields ["_law_hand"] [] := T.FLFields.bindsN fun _ _ _ _ _ _ us hl => match us, hl with | [_], _ => rfl
theorem Tx.bLIsNumber {K : PySem.W.Frag} {mg : Str → Option Value} (T : Tx K mg) : Binds K T.fdLIsNumber ["_law_thing", "_law_top"] [] := T.FLIsNumber.bindsN fun _ _ _ _ _ _ us hl => match us, hl with | [_, _], _ => rfl
theorem Tx.bLIsName {K : PySem.W.Frag} {mg : Str → Option Value} (T : Tx K mg) : Binds K T.fdLIsName ["_law_thing"] [] := T.FLIsName.bindsN fun _ _ _ _ _ _ us hl => match us, hl with | [_], _ => rfl
theorem Tx.bLTriples {K : PySem.W.Frag} {mg : Str → Option Value} (T : Tx K mg) : Binds K T.fdLTriples ["_law_thing", "_law_top"] [] := T.FLTriples.bindsN fun _ _ _ _ _ _ us hl => match us, hl with | [_, _], _ => rfl
theorem Tx.bLDue {K : PySem.W.Frag} {mg : Str → Option Value} (T : Tx K mg) : Binds K T.fdLDue ["_law_hand"] [] := T.FLDue.bindsN fun _ _ _ _ _ _ us hl => match us, hl with | [_], _ => rfl
theorem Tx.bLOddPart {K : PySem.W.Frag} {mg : Str → Option Value} (T : Tx K mg) : Binds K T.fdLOddPart ["_law_box_here", "_law_part", "_law_place"] [] := T.FLOddPart.bindsN fun _ _ _ _ _ _ us hl => match us, hl with | [_, _, _], _ => rfl
theorem Tx.bLTold {K : PySem.W.Frag} {mg : Str → Option Value} (T : Tx K mg) : Binds K T.fdLTold ["_law_hand"] [] := T.FLTold.bindsN fun _ _ _ _ _ _ us hl => match us, hl with | [_], _ => rfl
theorem Tx.bLGood {K : PySem.W.Frag} {mg : Str → Option Value} (T : Tx K mg) : Binds K T.fdLGood ["_law_box_here", "_law_names_here"] [] := T.FLGood.bindsN fun _ _ _ _ _ _ us hl => match us, hl with | [_, _], _ => rfl
theorem Tx.bLRight {K : PySem.W.Frag} {mg : Str → Option Value} (T : Tx K mg) : Binds K T.fdLRight ["_law_box_here", "_law_names_here"] [] := T.FLRight.bindsN fun _ _ _ _ _ _ us hl => match us, hl with | [_, _], _ => rfl
theorem Tx.bHandEq {K : PySem.W.Frag} {mg : Str → Option Value} (T : Tx K mg) : Binds K T.fdHandEq ["self", "other"] [] := T.FHandEq.bindsN fun _ _ _ _ _ _ us hl => match us, hl with | [_, _], _ => rfl
theorem Tx.bHandStr {K : PySem.W.Frag} {mg : Str → Option Value} (T : Tx K mg) : Binds K T.fdHandStr ["self"] [] := T.FHandStr.bindsN fun _ _ _ _ _ _ us hl => match us, hl with | [_], _ => rfl
theorem Tx.bStartErrorInit {K : PySem.W.Frag} {mg : Str → Option Value} (T : Tx K mg) : Binds K T.fdStartErrorInit ["self", "what"] [] := T.FStartErrorInit.bindsN fun _ _ _ _ _ _ us hl => match us, hl with | [_, _], _ => rfl



end
section
variable {P : Program} {w : World} {K : PySem.W.Frag} {mg : Str → Option Value} {base : Heap}
local macro_rules | `(tactic| get_elem_tactic_trivial) => `(tactic| (repeat first | exact Wk.nil | exact Wk'.nil | refine Wk.same ?_ | refine Wk'.same ?_ | refine Wk.un (fun _ z => nomatch z) ?_ | refine Wk'.un ?_))
theorem hob_eq (s : PySem.W.SharedT) : hob s = hk.obs s.abs := obsE_eq (HandSHeadRun.getT_eq s)
theorem tx_of {K : PySem.W.Frag} {h : Heap} {mg : Str → Option Value} (X : K.In h) (G : h.Ns mainGlobals mg) (c : He.SaysD hfa hfn K) (cx : hex K = true) : ∃ T : Tx K mg, True := by
  obtain ⟨f0, F0⟩ := c.def_ 0 (d := ddIsNumber) rfl
  obtain ⟨f1, F1⟩ := c.def_ 1 (d := ddIsWithin) rfl
  obtain ⟨f2, F2⟩ := c.def_ 2 (d := ddMeasure) rfl
  obtain ⟨f3, F3⟩ := c.def_ 3 (d := ddIsName) rfl
  obtain ⟨f4, F4⟩ := c.def_ 4 (d := ddIsPlacedBody) rfl
  obtain ⟨f5, F5⟩ := c.def_ 5 (d := ddAreLoads) rfl
  obtain ⟨f6, F6⟩ := c.def_ 6 (d := ddAreLies) rfl
  obtain ⟨f7, F7⟩ := c.def_ 7 (d := ddTrueNotes) rfl
  obtain ⟨f8, F8⟩ := c.def_ 8 (d := ddLBox) rfl
  obtain ⟨f9, F9⟩ := c.def_ 9 (d := ddLTake) rfl
  obtain ⟨f10, F10⟩ := c.def_ 10 (d := ddLPick) rfl
  obtain ⟨f11, F11⟩ := c.def_ 11 (d := ddLFolded) rfl
  obtain ⟨f12, F12⟩ := c.def_ 12 (d := ddLNames) rfl
  obtain ⟨f13, F13⟩ := c.def_ 13 (d := ddLSame) rfl
  obtain ⟨f14, F14⟩ := c.def_ 14 (d := ddLFields) rfl
  obtain ⟨f15, F15⟩ := c.def_ 15 (d := ddLIsNumber) rfl
  obtain ⟨f16, F16⟩ := c.def_ 16 (d := ddLIsName) rfl
  obtain ⟨f17, F17⟩ := c.def_ 17 (d := ddLTriples) rfl
  obtain ⟨f18, F18⟩ := c.def_ 18 (d := ddLDue) rfl
  obtain ⟨f19, F19⟩ := c.def_ 19 (d := ddLOddPart) rfl
  obtain ⟨f20, F20⟩ := c.def_ 20 (d := ddLTold) rfl
  obtain ⟨f21, F21⟩ := c.def_ 21 (d := ddLGood) rfl
  obtain ⟨f22, F22⟩ := c.def_ 22 (d := ddLRight) rfl
  obtain ⟨f23, F23⟩ := c.def_ 23 (d := ddLaw) rfl
  obtain ⟨f24, F24⟩ := c.def_ 24 (d := ddHandInit) rfl
  obtain ⟨f25, F25⟩ := c.def_ 25 (d := ddHandNotes) rfl
  obtain ⟨f26, F26⟩ := c.def_ 26 (d := ddHandEq) rfl
  obtain ⟨f27, F27⟩ := c.def_ 27 (d := ddHandStr) rfl
  obtain ⟨f28, F28⟩ := c.def_ 28 (d := ddStartErrorInit) rfl
  obtain ⟨cz0, zi0⟩ := He.ba cx
  obtain ⟨cz1, zt1⟩ := He.ba cz0
  obtain ⟨cz2, zt0⟩ := He.ba cz1
  obtain ⟨cz3, q0⟩ := He.ba cz2
  have e0 := cz3
  exact ⟨⟨⟨He.free_ok X G (c.fact 0 (f := .free "ValueError") rfl), He.free_ok X G (c.fact 1 (f := .free "repr") rfl), He.free_ok X G (c.fact 2 (f := .free "len") rfl), He.free_ok X G (c.fact 3 (f := .free "abs") rfl), He.free_ok X G (c.fact 4 (f := .free "int") rfl), He.free_ok X G (c.fact 5 (f := .free "isinstance") rfl), He.free_ok X G (c.fact 6 (f := .free "list") rfl), He.free_ok X G (c.fact 7 (f := .free "tuple") rfl), He.free_ok X G (c.fact 8 (f := .free "str") rfl), He.free_ok X G (c.fact 9 (f := .free "bool") rfl), He.free_ok X G (c.fact 10 (f := .free "all") rfl), He.free_ok X G (c.fact 11 (f := .free "zip") rfl), He.free_ok X G (c.fact 12 (f := .free "range") rfl), He.free_ok X G (c.fact 13 (f := .free "max") rfl), He.free_ok X G (c.fact 14 (f := .free "min") rfl), He.free_ok X G (c.fact 15 (f := .free "enumerate") rfl), He.free_ok X G (c.fact 16 (f := .free "divmod") rfl), He.free_ok X G (c.fact 17 (f := .free "sorted") rfl), He.free_ok X G (c.fact 18 (f := .free "set") rfl), He.free_ok X G (c.fact 19 (f := .free "any") rfl)⟩,
    He.int_ok X G (c.fact 44 (f := .int "NOTES" 9973) rfl),
    He.int_ok X G (c.fact 45 (f := .int "TIMES" 48271) rfl),
    He.int_ok X G (c.fact 46 (f := .int "MORE" 11) rfl),
    He.str_ok X G (c.fact 47 (f := .str "LETTERS" "abcdefghijklmnopqrstuvwxyz") rfl),
    He.int_ok X G (c.fact 48 (f := .int "LONGEST" 4) rfl),
    He.int_ok X G (c.fact 49 (f := .int "MOST_BOARDS" 8) rfl),
    He.int_ok X G (c.fact 50 (f := .int "GREATEST_BODY" 1000000) rfl),
    He.int_ok X G (c.fact 51 (f := .int "MOST_LOADS" 3) rfl),
    f0,
    F0,
    He.glo_ok X G (c.fact 20 (f := .glo "is_number") rfl),
    f1,
    F1,
    He.glo_ok X G (c.fact 21 (f := .glo "is_within") rfl),
    f2,
    F2,
    He.glo_ok X G (c.fact 22 (f := .glo "measure") rfl),
    f3,
    F3,
    He.glo_ok X G (c.fact 23 (f := .glo "is_name") rfl),
    f4,
    F4,
    He.glo_ok X G (c.fact 24 (f := .glo "is_placed_body") rfl),
    f5,
    F5,
    He.glo_ok X G (c.fact 25 (f := .glo "are_loads") rfl),
    f6,
    F6,
    He.glo_ok X G (c.fact 26 (f := .glo "are_lies") rfl),
    f7,
    F7,
    He.glo_ok X G (c.fact 27 (f := .glo "true_notes") rfl),
    f8,
    F8,
    He.glo_ok X G (c.fact 28 (f := .glo "_law_box") rfl),
    f9,
    F9,
    He.glo_ok X G (c.fact 29 (f := .glo "_law_take") rfl),
    f10,
    F10,
    He.glo_ok X G (c.fact 30 (f := .glo "_law_pick") rfl),
    f11,
    F11,
    He.glo_ok X G (c.fact 31 (f := .glo "_law_folded") rfl),
    f12,
    F12,
    He.glo_ok X G (c.fact 32 (f := .glo "_law_names") rfl),
    f13,
    F13,
    He.glo_ok X G (c.fact 33 (f := .glo "_law_same") rfl),
    f14,
    F14,
    He.glo_ok X G (c.fact 34 (f := .glo "_law_fields") rfl),
    f15,
    F15,
    He.glo_ok X G (c.fact 35 (f := .glo "_law_is_number") rfl),
    f16,
    F16,
    He.glo_ok X G (c.fact 36 (f := .glo "_law_is_name") rfl),
    f17,
    F17,
    He.glo_ok X G (c.fact 37 (f := .glo "_law_triples") rfl),
    f18,
    F18,
    He.glo_ok X G (c.fact 38 (f := .glo "_law_due") rfl),
    f19,
    F19,
    He.glo_ok X G (c.fact 39 (f := .glo "_law_odd_part") rfl),
    f20,
    F20,
    He.glo_ok X G (c.fact 40 (f := .glo "_law_told") rfl),
    f21,
    F21,
    He.glo_ok X G (c.fact 41 (f := .glo "_law_good") rfl),
    f22,
    F22,
    He.glo_ok X G (c.fact 42 (f := .glo "_law_right") rfl),
    f23,
    F23,
    He.glo_ok X G (c.fact 43 (f := .glo "law") rfl),
    zt0,
    zt1,
    f24,
    F24,
    He.mkr_ok (c.fact 54 (f := .mkr "Hand") rfl),
    f25,
    F25,
    He.meth_ok (c.fact 59 (f := .meth "Hand" "notes") rfl),
    f26,
    F26,
    He.meth_ok (c.fact 60 (f := .meth "Hand" "__eq__") rfl),
    f27,
    F27,
    He.meth_ok (c.fact 61 (f := .meth "Hand" "__str__") rfl),
    f28,
    F28,
    He.cls_ok (c.fact 52 (f := .cls "Hand") rfl),
    He.glo_ok X G (c.fact 53 (f := .glo "Hand") rfl),
    He.noat_ok (c.fact 55 (f := .noat "Hand" "name") rfl),
    He.noat_ok (c.fact 56 (f := .noat "Hand" "body") rfl),
    He.noat_ok (c.fact 57 (f := .noat "Hand" "loads") rfl),
    He.noat_ok (c.fact 58 (f := .noat "Hand" "lies") rfl),
    neD_is q0,
    zi0,
    He.glo_ok X G (c.fact 62 (f := .glo "StartError") rfl),
    He.glo_ok X G (c.fact 63 (f := .glo "BadHand") rfl),
    He.glo_ok X G (c.fact 64 (f := .glo "BadMachine") rfl),
    e0⟩, trivial⟩

end
section
variable {P : Program} {w : World} {K : PySem.W.Frag} {mg : Str → Option Value} {base : Heap}
local macro_rules | `(tactic| get_elem_tactic_trivial) => `(tactic| (repeat first | exact Wk.nil | exact Wk'.nil | refine Wk.same ?_ | refine Wk'.same ?_ | refine Wk.un (fun _ z => nomatch z) ?_ | refine Wk'.un ?_))

end
section
variable {P : Program} {w : World} {K : PySem.W.Frag} {mg : Str → Option Value} {base : Heap}
local macro_rules | `(tactic| get_elem_tactic_trivial) => `(tactic| (repeat first | exact Wk.nil | exact Wk'.nil | refine Wk.same ?_ | refine Wk'.same ?_ | refine Wk.un (fun _ z => nomatch z) ?_ | refine Wk'.un ?_))
theorem okLBox (T : Tx K mg) : FnOk P w K mg base CX0 1 (He.ga K "_law_box") T.fdLBox ["_law_script", "_law_k"] (spLBox K) := by
  have B := T.B
  refine T.FLBox.ok scLBox (fun vs H Q E h => ?_) (fun cdv A outer s H vs Q E hr h => ?_)
  · obtain ⟨a, ns, k, rfl, _⟩ := h
    rfl
  · obtain ⟨a, ns, k, rfl, hS, hk, q⟩ := h
    refine ⟨_, PSs.nox (pss_cons (ps_set (i := 2) scLBox.nd rfl (.inl rfl) pe_int)
        (pss_cons (ps_if (pt_cmpR op_lt (pv 1) (pe_callB call_len_seq (by rfl) B.b_len PySem.boot_len (pa_cons (pv 0) pa_nil)) (nomark _)) (pss_one (ps_set (i := 2) scLBox.nd rfl (.inl rfl) (pe_ix ix_list (pv 0) (pv 1) (fun _ _ => rfl)))) pss_nil)
        (pss_one (ps_ret (pe_lst (pa_cons (pe_op op_mul (pe_callB call_abs (by rfl) B.b_abs boot_abs (pa_cons (pv 2) pa_nil)) (pe_callTy call_int1 (by rfl) B.b_int PyProof.Rows.boot_int (pa_cons (pe_cmpR op_ge (pe_callB call_abs (by rfl) B.b_abs boot_abs (pa_cons (pv 2) pa_nil)) (pe_op op_pow pe_int pe_int) (nomark _)) pa_nil))) (pa_cons (pe_op op_add (pe_op op_add (pe_op op_mod (pv 2) pe_int) (pe_op op_mul pe_int (pv 1))) pe_int) (pa_cons pe_int pa_nil)))))))), ?_⟩
    have fin : ∀ c : Int, tRet (tLst (tCons (tOp (rI CMul fun i j => .int (i * j)) (tCB (fun xs H Q => ∃ i, xs = [.int i] ∧ Q (.int (if i < 0 then -i else i)) H) (tCons (tVar 2) tNil))
        (tCB (fun xs H Q => (∃ i, xs = [.int i] ∧ Q (.int i) H) ∨ ∃ k, xs = [.bl k] ∧ Q (.int (if k then 1 else 0)) H) (tCons (tOp (rI0 fun i j => .bl (decide (j ≤ i))) (tCB (fun xs H Q => ∃ i, xs = [.int i] ∧ Q (.int (if i < 0 then -i else i)) H) (tCons (tVar 2) tNil)) (tOp (rI CPow fun i j => .int (i ^ j.toNat)) (tC (.int 10)) (tC (.int 18)))) tNil)))
        (tCons (tOp (rI0 fun i j => .int (i + j)) (tOp (rI0 fun i j => .int (i + j)) (tOp (rI (fun _ j => 0 < j) fun i j => .int (i % j)) (tVar 2) (tC (.int 2147483629))) (tOp (rI CMul fun i j => .int (i * j)) (tC (.int 7919)) (tVar 1))) (tC (.int 11))) (tCons (tC (.int 0)) tNil))))
        { nx := fun _ H' => Q .non H', rt := Q } [some (.ref a), some (.int k), some (.int c)] H := by
      intro c
      have hb : ∀ b : Bool, (0 : Int) ≤ (if c < 0 then -c else c) * (if b = true then 1 else 0) := by
        intro b
        cases b <;> simp <;> split <;> omega
      have h1 := Int.emod_nonneg c (b := 2147483629) (by decide)
      have h2 := Int.emod_lt_of_pos c (b := 2147483629) (by decide)
      refine ⟨_, rfl, c, rfl, _, rfl, c, rfl, _, _, rfl, rfl, ⟨by decide, by decide, by decide⟩, _, _, rfl, rfl, .inr ⟨_, rfl, _, _, rfl, rfl, .inr ⟨?_, ?_⟩, ?_⟩⟩
      · exact bit_lo _
      · exact bit_hi _
      · refine ⟨_, rfl, _, _, rfl, rfl, (show (0 : Int) < 2147483629 by decide), _, rfl, _, _, rfl, rfl, .inl ⟨by decide, by decide⟩, _, _, rfl, rfl, _, _, rfl, rfl, by show 3 ≤ sizeLine; decide, fun p hp => ?_⟩
        exact q p _ _ hp (hb _) (by omega) (by omega)
    refine ⟨_, rfl, _, rfl, a, _, rfl, .inl hS, _, _, rfl, rfl, _, rfl, ite2 (fun e => ?_) (fun e => ?_)⟩
    · have hlt : k < ns.length := by
        have := of_decide_eq_true e
        rw [List.length_map] at this
        omega
      refine ⟨_, rfl, _, rfl, a, _, _, _, rfl, rfl, hS, at_of (j := k) (v := .int ns[k]) rfl (by rw [List.getElem?_map, List.getElem?_eq_getElem hlt]; rfl), ?_⟩
      exact fin _
    · exact fin _
theorem okLTake (T : Tx K mg) : FnOk P w K mg base CX0 1 (He.ga K "_law_take") T.fdLTake ["_law_box_here", "_law_size"] spLTake := by
  have B := T.B
  refine T.FLTake.ok scLTake (fun vs H Q E h => ?_) (fun cdv A outer s H vs Q E hr h => ?_)
  · obtain ⟨p, m, n, rfl, _⟩ := h
    rfl
  · obtain ⟨p, m, n, rfl, hB, hn, hm, hm2, q⟩ := h
    refine ⟨_, PSs.nox (pss_cons (ps_if (pt_cmpR op_gt (pe_ix ix_list (pv 0) pe_int (fun _ _ => rfl)) pe_int (nomark _)) (pss_cons (ps_set (i := 2) scLTake.nd rfl (.inl rfl) (pe_op op_mod (pe_ix ix_list (pv 0) pe_int (fun _ _ => rfl)) (pv 1)))
        (pss_cons (ps_asg (pe_op op_fdivW (pe_ix ix_list (pv 0) pe_int (fun _ _ => rfl)) (pv 1)) (pg_sub (pv 0) pe_int set_list))
        (pss_one (ps_ret (pv 2))))) pss_nil)
        (pss_cons (ps_asg (pe_op op_add (pe_ix ix_list (pv 0) pe_int (fun _ _ => rfl)) pe_int) (pg_sub (pv 0) pe_int set_list))
        (pss_cons (ps_set (i := 3) scLTake.nd rfl (.inl rfl) (pe_op op_mod (pe_op op_pow (pe_op op_add (pe_ix ix_list (pv 0) pe_int (fun _ _ => rfl)) (pe_op op_mul pe_int (pe_ix ix_list (pv 0) pe_int (fun _ _ => rfl)))) pe_int) pe_int))
        (pss_one (ps_ret (pe_op op_mod (pe_op op_fdiv (pe_op op_mod (pe_op op_add (pe_op op_mul (pv 3) (pe_op op_add (pe_op op_mod (pv 3) pe_int) pe_int)) (pe_op op_mul (pe_ix ix_list (pv 0) pe_int (fun _ _ => rfl)) pe_int)) pe_int) pe_int) (pv 1))))))), ?_⟩
    obtain ⟨x, y, z, hp, hx, hy, hy2, hz, hzn⟩ := hB
    have hm3 : m.natAbs < 340282366920938463463374607431768211456 := by omega
    refine ⟨_, rfl, p, _, 0, .int x, rfl, rfl, SqL.of hp, atI_nat (j := 0) rfl, _, _, rfl, rfl, _, rfl, ite2 (fun e => ?_) (fun e => ?_)⟩
    · refine ⟨_, rfl, p, _, 0, .int x, rfl, rfl, SqL.of hp, atI_nat (j := 0) rfl, _, rfl, _, _, rfl, rfl, hm, ?_⟩
      refine ⟨_, rfl, p, _, 0, .int x, rfl, rfl, SqL.of hp, atI_nat (j := 0) rfl, _, rfl, _, _, rfl, rfl, wide_div (b := 128) hm hm3 (by decide) (by decide), ?_⟩
      refine ⟨_, rfl, p, _, 0, 0, rfl, rfl, hp, rfl, _, rfl, ?_⟩
      exact q _ _ But.upd ⟨_, y, z, upd_same, Int.ediv_nonneg hx (Int.le_of_lt hm), hy, hy2, hz, by omega⟩ (Int.emod_nonneg _ (by omega)) (Int.emod_lt_of_pos _ hm)
    · refine ⟨_, rfl, p, _, 2, .int z, rfl, rfl, SqL.of hp, atI_nat (j := 2) rfl, _, _, rfl, rfl, _, rfl, p, _, 2, 2, rfl, rfl, hp, rfl, ?_⟩
      have hp2 : upd H p (.lst [.int x, .int y, .int (z + 1)]) p = some (.lst [.int x, .int y, .int (z + 1)]) := upd_same
      refine ⟨_, rfl, p, _, 1, .int y, rfl, rfl, SqL.of hp2, atI_nat (j := 1) rfl, _, rfl, p, _, 2, .int (z + 1), rfl, rfl, SqL.of hp2, atI_nat (j := 2) rfl, _, _, rfl, rfl, .inl ⟨by decide, by decide⟩, _, _, rfl, rfl, _, _, rfl, rfl, ⟨by decide, by decide, ?_⟩, _, _, rfl, rfl, (show (0 : Int) < 2147483647 by decide), ?_⟩
      · have : (y + 39373 * (z + 1)).natAbs < 18446744073709551616 := by omega
        exact this
      · refine ⟨_, rfl, _, rfl, _, _, rfl, rfl, (show (0 : Int) < 40009 by decide), _, _, rfl, rfl, _, _, rfl, rfl, .inr ⟨?_, ?_⟩, _, rfl, p, _, 2, .int (z + 1), rfl, rfl, SqL.of hp2, atI_nat (j := 2) rfl, _, _, rfl, rfl, .inr ⟨by decide, by decide⟩, _, _, rfl, rfl, _, _, rfl, rfl, (show (0 : Int) < 2147483629 by decide), _, _, rfl, rfl, ⟨by decide, by decide⟩, _, rfl, _, _, rfl, rfl, hm, ?_⟩
        · have h1 := Int.emod_nonneg ((y + 39373 * (z + 1)) ^ 5 % 2147483647) (b := 40009) (by decide)
          have : -18446744073709551616 < ((y + 39373 * (z + 1)) ^ 5 % 2147483647) % 40009 + 7 := by omega
          exact this
        · have h1 := Int.emod_lt_of_pos ((y + 39373 * (z + 1)) ^ 5 % 2147483647) (b := 40009) (by decide)
          have : ((y + 39373 * (z + 1)) ^ 5 % 2147483647) % 40009 + 7 < 18446744073709551616 := by omega
          exact this
        · exact q _ _ But.upd ⟨x, y, z + 1, hp2, hx, hy, hy2, by omega, by omega⟩ (Int.emod_nonneg _ (by omega)) (Int.emod_lt_of_pos _ hm)
theorem okTakeD (T : Tx K mg) : FnOk P w K mg base CX0 1 (He.ga K "_law_take") T.fdLTake ["_law_box_here", "_law_size"] (spD K 2 wTake) := (okLTake T).imp fun vs H Q E h => take_imp h

end
section
variable {P : Program} {w : World} {K : PySem.W.Frag} {mg : Str → Option Value} {base : Heap}
local macro_rules | `(tactic| get_elem_tactic_trivial) => `(tactic| (repeat first | exact Wk.nil | exact Wk'.nil | refine Wk.same ?_ | refine Wk'.same ?_ | refine Wk.un (fun _ z => nomatch z) ?_ | refine Wk'.un ?_))
theorem okStartErrorInit (T : Tx K mg) : FnOk P w K mg base CX0 1 (He.ma K (He.ga K "StartError") "__init__") T.fdStartErrorInit ["self", "what"] (spInitE K) := by
  have B := T.B
  refine T.FStartErrorInit.ok scStartErrorInit (fun vs H Q E h => ?_) (fun cdv A outer s H vs Q E hr h => ?_)
  · obtain ⟨a, C, fI, v, rfl, _⟩ := h
    rfl
  · obtain ⟨a, C, fI, v, rfl, ha, T1, q⟩ := h
    refine ⟨_, PSs.nox (pss_one (ps_ost (pv 0) (pv 1))), ?_⟩
    refine ⟨_, rfl, _, rfl, a, C, rfl, T1.ox, T1.wh, .inl ⟨ha, fun dx hd ne => ?_⟩⟩
    exact q dx hd ne
theorem exRoot (T : Tx K mg) {c : Str} (hc : c ∈ ERRS) : PySem.W.exmOne K (.ref (He.ga K c)) (.ref (He.ga K "StartError")) = some true := by
  rw [err_ex T.er hc (by decide +kernel), decide_eq_true (rfl : ("StartError" : Str) = "StartError"), Bool.or_true]
theorem evOne (T : Tx K mg) {c e : Str} (hc : c ∈ ERRS) (he : e ∈ ERRS) {b : Bool} (h : (decide (e = c) || decide (e = ("StartError" : Str))) = b) : IsEv K c (.ref (He.ga K e)) b := by
  rw [← h]
  exact isE T.er hc he
theorem evV (T : Tx K mg) {c : Str} (hc : c ∈ ERRS) : IsEv K c (.ty "ValueError") true := isV T.er hc
theorem evW (T : Tx K mg) {c : Str} (hc : c ∈ ERRS) : ∃ fI, ECl K (He.ga K c) fI := ⟨_, err_cl T.er hc⟩

end
section
variable {P : Program} {w : World} {K : PySem.W.Frag} {mg : Str → Option Value} {base : Heap}
local macro_rules | `(tactic| get_elem_tactic_trivial) => `(tactic| (repeat first | exact Wk.nil | exact Wk'.nil | refine Wk.same ?_ | refine Wk'.same ?_ | refine Wk.un (fun _ z => nomatch z) ?_ | refine Wk'.un ?_))
theorem okLSame (T : Tx K mg) : ∀ n : Nat, FnOk P w K mg base CX0 n (He.ga K "_law_same") T.fdLSame ["_law_found", "_law_due_here"] (spLSame K n)
  | 0 => ⟨fun vs H Q E h => by obtain ⟨x, y, d, _, _, _, h, _, _⟩ := h; exact absurd h (Nat.not_lt_zero _), fun A outer s H args us vs Q E _ _ _ _ h => by obtain ⟨x, y, d, _, _, _, h, _, _⟩ := h; exact absurd h (Nat.not_lt_zero _)⟩
  | n + 1 => by
    have GLSame : FnOk P w K mg base CX0 n (He.ga K "_law_same") T.fdLSame ["_law_found", "_law_due_here"] (spLSame K n) := okLSame T n
    have B := T.B
    have bLSame := T.bLSame
    refine T.FLSame.ok scLSame (fun vs H Q E h => ?_) (fun cdv A outer s H vs Q E hr h => ?_)
    · obtain ⟨x, y, d, rfl, _⟩ := h
      rfl
    · obtain ⟨x, y, d, rfl, hx, hy, hd, hw, q⟩ := h
      refine ⟨_, PSs.nox (pss_cons (ps_if (pt_val (pe_callB call_isiT (by rfl) B.b_isinstance boot_isinstance (pa_cons (pv 1) (pa_cons (pe_tup (pa_cons (pe_bltn (v := .ty "list") (by rfl) B.b_list PyProof.Rows.boot_list rfl) (pa_cons (pe_bltn (v := .ty "tuple") (by rfl) B.b_tuple PyProof.Rows.boot_tuple rfl) pa_nil))) pa_nil)))) (pss_cons (ps_if (PW.pt (pw_or (pt_cmpR op_ne (pe_callB call_isi (by rfl) B.b_isinstance boot_isinstance (pa_cons (pv 0) (pa_cons (pe_bltn (v := .ty "list") (by rfl) B.b_list PyProof.Rows.boot_list rfl) pa_nil))) (pe_callB call_isi (by rfl) B.b_isinstance boot_isinstance (pa_cons (pv 1) (pa_cons (pe_bltn (v := .ty "list") (by rfl) B.b_list PyProof.Rows.boot_list rfl) pa_nil))) (nomark _)) (pw_or1 (pt_cmpR op_ne (pe_callB call_isi (by rfl) B.b_isinstance boot_isinstance (pa_cons (pv 0) (pa_cons (pe_bltn (v := .ty "tuple") (by rfl) B.b_tuple PyProof.Rows.boot_tuple rfl) pa_nil))) (pe_callB call_isi (by rfl) B.b_isinstance boot_isinstance (pa_cons (pv 1) (pa_cons (pe_bltn (v := .ty "tuple") (by rfl) B.b_tuple PyProof.Rows.boot_tuple rfl) pa_nil))) (nomark _))))) (pss_one (ps_ret pe_bl)) pss_nil)
        (pss_cons (ps_if (pt_cmpR op_ne (pe_callB call_len_seq (by rfl) B.b_len PySem.boot_len (pa_cons (pv 0) pa_nil)) (pe_callB call_len_seq (by rfl) B.b_len PySem.boot_len (pa_cons (pv 1) pa_nil)) (nomark _)) (pss_one (ps_ret pe_bl)) pss_nil)
        (pss_one (ps_ret (pe_callB (cr_all rfl) (by rfl) B.b_all boot_all (pa_cons (pe_lc (own := [("_law_one", 2), ("_law_two", 3)]) (g := gTup K 2 (gCons (gName 2) (gCons (gName 3) gNil))) (tt := tYes) (by rfl) scLSame.nd (RZ.pi_zipA (by rfl) B.b_zip (pa_cons (pv 0) (pa_cons (pv 1) pa_nil))) (blkOk_by (own := [("_law_one", 2), ("_law_two", 3)]) (N := ["_law_found", "_law_due_here", "_law_one", "_law_two"]) (sc := defScope sLSame) (by decide +kernel)) (fun _ _ _ _ _ => by exact (pg_tup rfl (pgs_cons (pg_name (i := 2) scLSame.nd rfl (Or.inl rfl)) (pgs_cons (pg_name (i := 3) scLSame.nd rfl (Or.inl rfl)) pgs_nil)))) (fun _ _ _ _ _ => pts_nil) (fun _ _ _ _ _ => (pe_call GLSame hr (by rfl) T.gLSame T.FLSame.kp bLSame .nil pass0 (pa_cons (pv 2) (pa_cons (pv 3) pa_nil))))) pa_nil)))))) pss_nil)
        (pss_cons (ps_if (PW.pt (pw_or (pt_cmpR op_isN (pv 1) pe_non (nomark _)) (pw_or1 (pt_val (pe_callB call_isi (by rfl) B.b_isinstance boot_isinstance (pa_cons (pv 1) (pa_cons (pe_bltn (v := .ty "str") (by rfl) B.b_str PyProof.Rows.boot_str rfl) pa_nil))))))) (pss_one (ps_ret (pe_and (pe_cmpR op_eq (pv 0) (pv 1) (nomark _)) (pe_one (pe_cmpR op_eq (pe_callB call_isi (by rfl) B.b_isinstance boot_isinstance (pa_cons (pv 0) (pa_cons (pe_bltn (v := .ty "str") (by rfl) B.b_str PyProof.Rows.boot_str rfl) pa_nil))) (pe_callB call_isi (by rfl) B.b_isinstance boot_isinstance (pa_cons (pv 1) (pa_cons (pe_bltn (v := .ty "str") (by rfl) B.b_str PyProof.Rows.boot_str rfl) pa_nil))) (nomark _)))))) pss_nil)
        (pss_one (ps_ret (pe_and (pe_callB call_isi (by rfl) B.b_isinstance boot_isinstance (pa_cons (pv 0) (pa_cons (pe_bltn (v := .ty "int") (by rfl) B.b_int PyProof.Rows.boot_int rfl) pa_nil))) (pe_and (pe_cmpR op_eq (pe_callB call_isi (by rfl) B.b_isinstance boot_isinstance (pa_cons (pv 0) (pa_cons (pe_bltn (v := .ty "bool") (by rfl) B.b_bool PyProof.Rows.boot_bool rfl) pa_nil))) (pe_callB call_isi (by rfl) B.b_isinstance boot_isinstance (pa_cons (pv 1) (pa_cons (pe_bltn (v := .ty "bool") (by rfl) B.b_bool PyProof.Rows.boot_bool rfl) pa_nil))) (nomark _)) (pe_one (pe_cmpR op_eq (pv 0) (pv 1) (nomark _))))))))), ?_⟩
      refine ⟨_, rfl, (by show 2 ≤ sizeLine; decide), fun tp htp => ?_⟩
      have s1 : Same H (upd H tp (.tup [.ty "list", .ty "tuple"])) := same_new htp
      have hx1 := dp_same s1 d x hx
      have hy1 := dp_same s1 d y hy
      cases d with
      | none =>
        cases hx1; cases hy1
        refine ⟨_, tp, _, _, _, _, rfl, upd_same, cls2, .base .non, kit_none K _ (by decide +kernel) (by decide +kernel), _, rfl, iteF ?_⟩
        refine ⟨_, rfl, rfl, _, rfl, iteT ?_⟩
        refine iteT ?_
        refine ⟨_, rfl, _, rfl, rfl, _, rfl, iteT ?_⟩
        refine ⟨_, rfl, _, _, _, _, _, rfl, .ty _, .base .non, kit_ty (r := false) (by decide +kernel), _, rfl, _, _, _, _, _, rfl, .ty _, .base .non, kit_ty (r := false) (by decide +kernel), rfl, ?_⟩
        exact q _ s1
      | bool z =>
        cases hx1; cases hy1
        refine ⟨_, tp, _, _, _, _, rfl, upd_same, cls2, .base (.bl z), kit_none K _ (by decide +kernel) (by decide +kernel), _, rfl, iteF ?_⟩
        refine ⟨_, rfl, rfl, _, rfl, iteF ?_⟩
        refine ⟨_, rfl, _, _, _, _, _, rfl, .ty _, .base (.bl z), kit_ty (r := false) (by decide +kernel), _, rfl, iteF ?_⟩
        refine ⟨_, rfl, _, _, _, _, _, rfl, .ty _, .base (.bl z), kit_ty (r := true) (by decide +kernel), _, rfl, iteT ?_⟩
        refine ⟨_, rfl, _, _, _, _, _, rfl, .ty _, .base (.bl z), kit_ty (r := true) (by decide +kernel), _, rfl, _, _, _, _, _, rfl, .ty _, .base (.bl z), kit_ty (r := true) (by decide +kernel), rfl, _, rfl, iteT ?_⟩
        refine ⟨_, rfl, _, rfl, rfl, ?_⟩
        rw [decide_eq_true rfl]
        exact q _ s1
      | int z =>
        cases hx1; cases hy1
        refine ⟨_, tp, _, _, _, _, rfl, upd_same, cls2, .base (.int z), kit_none K _ (by decide +kernel) (by decide +kernel), _, rfl, iteF ?_⟩
        refine ⟨_, rfl, rfl, _, rfl, iteF ?_⟩
        refine ⟨_, rfl, _, _, _, _, _, rfl, .ty _, .base (.int z), kit_ty (r := false) (by decide +kernel), _, rfl, iteF ?_⟩
        refine ⟨_, rfl, _, _, _, _, _, rfl, .ty _, .base (.int z), kit_ty (r := true) (by decide +kernel), _, rfl, iteT ?_⟩
        refine ⟨_, rfl, _, _, _, _, _, rfl, .ty _, .base (.int z), kit_ty (r := false) (by decide +kernel), _, rfl, _, _, _, _, _, rfl, .ty _, .base (.int z), kit_ty (r := false) (by decide +kernel), rfl, _, rfl, iteT ?_⟩
        refine ⟨_, rfl, _, rfl, rfl, ?_⟩
        rw [decide_eq_true rfl]
        exact q _ s1
      | str z =>
        cases hx1; cases hy1
        refine ⟨_, tp, _, _, _, _, rfl, upd_same, cls2, .base (.str z), kit_none K _ (by decide +kernel) (by decide +kernel), _, rfl, iteF ?_⟩
        refine ⟨_, rfl, rfl, _, rfl, iteF ?_⟩
        refine ⟨_, rfl, _, _, _, _, _, rfl, .ty _, .base (.str z), kit_ty (r := true) (by decide +kernel), _, rfl, iteT ?_⟩
        refine ⟨_, rfl, _, rfl, rfl, _, rfl, ?_⟩
        rw [decide_eq_true rfl]
        refine iteT ?_
        refine ⟨_, rfl, _, _, _, _, _, rfl, .ty _, .base (.str z), kit_ty (r := true) (by decide +kernel), _, rfl, _, _, _, _, _, rfl, .ty _, .base (.str z), kit_ty (r := true) (by decide +kernel), rfl, ?_⟩
        exact q _ s1
      | list ds =>
        cases hx1 with
        | @lst a xs _ ha da =>
        cases hy1 with
        | @lst c ys _ hc dc =>
        refine ⟨_, tp, _, _, _, _, rfl, upd_same, cls2, ty_list hc, kit_list K, _, rfl, iteT ?_⟩
        refine ⟨_, rfl, _, _, _, _, _, rfl, .ty _, ty_list ha, kit_ty (r := true) (by decide +kernel), _, rfl, _, _, _, _, _, rfl, .ty _, ty_list hc, kit_ty (r := true) (by decide +kernel), rfl, _, rfl, iteF ?_⟩
        refine ⟨_, rfl, _, _, _, _, _, rfl, .ty _, ty_list ha, kit_ty (r := false) (by decide +kernel), _, rfl, _, _, _, _, _, rfl, .ty _, ty_list hc, kit_ty (r := false) (by decide +kernel), rfl, _, rfl, iteF ?_⟩
        have hl : xs.length = ys.length := (dpa_len da).trans (dpa_len dc).symm
        refine ⟨_, rfl, a, xs, rfl, .inl ha, _, rfl, c, ys, rfl, .inl hc, rfl, _, rfl, ?_⟩
        rw [decide_eq_true (by rw [hl])]
        refine iteF ?_
        refine ⟨_, rfl, _, rfl, a, c, xs, ys, rfl, .inl ⟨ha, hc, fun D hD => ?_⟩⟩
        refine lc_it (walk_zip (n := xs.length) (by omega)) (fun i G => Same (upd H tp (.tup [.ty "list", .ty "tuple"])) G ∧ G D = some (.lst (List.replicate i (.bl true)))) ⟨same_new hD, upd_same⟩ (fun i G _ h => ⟨Same.seq h.1 ha, Same.seq h.1 hc⟩) ?_ ?_
        · intro i v G G1 hi hP hy
          obtain ⟨sG, hDG⟩ := hP
          obtain ⟨T, u, v2, rfl, hT, rfl, hu, hv⟩ := hy
          obtain ⟨d1, e1, p1⟩ := dpa_at da hu
          obtain ⟨d2, e2, p2⟩ := dpa_at dc hv
          have ed : d1 = d2 := Option.some.inj (e1.symm.trans e2)
          subst ed
          have sT : Same (upd H tp (.tup [.ty "list", .ty "tuple"])) (upd G T (.tup [u, v2])) := sG.trans (same_new hT)
          have hdep : dep d1 < n := by
            have h1 := deps_at e1
            have h2 : dep.deps ds + 1 < n + 1 := hd
            omega
          have hwid : wid d1 ≤ 1000000 := by
            have h1 := wids_at e1
            have h2 : max ds.length (wid.wids ds) ≤ 1000000 := hw
            omega
          refine ⟨T, [u, v2], rfl, .inl (.inl upd_same), rfl, u, [v2], rfl, v2, [], rfl, rfl, ?_⟩
          refine ⟨rfl, ?_⟩
          unfold tYes
          refine iteT ?_
          refine ⟨_, rfl, _, rfl, u, v2, d1, rfl, dp_same sT _ _ p1, dp_same sT _ _ p2, hdep, hwid, fun G2 s2 => ?_⟩
          have hD2 : G2 D = some (.lst (List.replicate i (.bl true))) := s2 _ _ (same_new hT _ _ hDG)
          refine ⟨_, hD2, ?_, ?_, ?_⟩
          · rw [List.length_replicate]
            exact small6 (by have h1 : max ds.length (wid.wids ds) ≤ 1000000 := hw; have h2 := dpa_len da; omega)
          · intro b o e
            have hb : b ≠ D := ne_of_none e hD
            rw [upd_ne hb]
            exact s2 _ _ (sT _ _ e)
          · rw [upd_same, List.replicate_succ']
        · intro G hP
          obtain ⟨sG, hDG⟩ := hP
          have eb : List.replicate xs.length (V.bl true) = (List.replicate xs.length true).map V.bl := by rw [List.map_replicate]
          rw [eb] at hDG
          refine ⟨D, _, rfl, .inl (.inl hDG), ?_⟩
          rw [all_rep]
          exact q _ (s1.trans sG)
      | tuple ds =>
        cases hx1 with
        | @tup a xs _ ha da =>
        cases hy1 with
        | @tup c ys _ hc dc =>
        refine ⟨_, tp, _, _, _, _, rfl, upd_same, cls2, ty_tup hc, kit_tup K, _, rfl, iteT ?_⟩
        refine ⟨_, rfl, _, _, _, _, _, rfl, .ty _, ty_tup ha, kit_ty (r := false) (by decide +kernel), _, rfl, _, _, _, _, _, rfl, .ty _, ty_tup hc, kit_ty (r := false) (by decide +kernel), rfl, _, rfl, iteF ?_⟩
        refine ⟨_, rfl, _, _, _, _, _, rfl, .ty _, ty_tup ha, kit_ty (r := true) (by decide +kernel), _, rfl, _, _, _, _, _, rfl, .ty _, ty_tup hc, kit_ty (r := true) (by decide +kernel), rfl, _, rfl, iteF ?_⟩
        have hl : xs.length = ys.length := (dpa_len da).trans (dpa_len dc).symm
        refine ⟨_, rfl, a, xs, rfl, .inr ha, _, rfl, c, ys, rfl, .inr hc, rfl, _, rfl, ?_⟩
        rw [decide_eq_true (by rw [hl])]
        refine iteF ?_
        refine ⟨_, rfl, _, rfl, a, c, xs, ys, rfl, .inr ⟨ha, hc, fun D hD => ?_⟩⟩
        refine lc_it (walk_zipT hl) (fun i G => Same (upd H tp (.tup [.ty "list", .ty "tuple"])) G ∧ G D = some (.lst (List.replicate i (.bl true)))) ⟨same_new hD, upd_same⟩ (fun i G _ h => ⟨seqT_same h.1 ha, seqT_same h.1 hc⟩) ?_ ?_
        · intro i v G G1 hi hP hy
          obtain ⟨sG, hDG⟩ := hP
          obtain ⟨T, u, v2, rfl, hT, rfl, hu, hv⟩ := hy
          obtain ⟨d1, e1, p1⟩ := dpa_at da hu
          obtain ⟨d2, e2, p2⟩ := dpa_at dc hv
          have ed : d1 = d2 := Option.some.inj (e1.symm.trans e2)
          subst ed
          have sT : Same (upd H tp (.tup [.ty "list", .ty "tuple"])) (upd G T (.tup [u, v2])) := sG.trans (same_new hT)
          have hdep : dep d1 < n := by
            have h1 := deps_at e1
            have h2 : dep.deps ds + 1 < n + 1 := hd
            omega
          have hwid : wid d1 ≤ 1000000 := by
            have h1 := wids_at e1
            have h2 : max ds.length (wid.wids ds) ≤ 1000000 := hw
            omega
          refine ⟨T, [u, v2], rfl, .inl (.inl upd_same), rfl, u, [v2], rfl, v2, [], rfl, rfl, ?_⟩
          refine ⟨rfl, ?_⟩
          unfold tYes
          refine iteT ?_
          refine ⟨_, rfl, _, rfl, u, v2, d1, rfl, dp_same sT _ _ p1, dp_same sT _ _ p2, hdep, hwid, fun G2 s2 => ?_⟩
          have hD2 : G2 D = some (.lst (List.replicate i (.bl true))) := s2 _ _ (same_new hT _ _ hDG)
          refine ⟨_, hD2, ?_, ?_, ?_⟩
          · rw [List.length_replicate]
            exact small6 (by have h1 : max ds.length (wid.wids ds) ≤ 1000000 := hw; have h2 := dpa_len da; omega)
          · intro b o e
            have hb : b ≠ D := ne_of_none e hD
            rw [upd_ne hb]
            exact s2 _ _ (sT _ _ e)
          · rw [upd_same, List.replicate_succ']
        · intro G hP
          obtain ⟨sG, hDG⟩ := hP
          have eb : List.replicate xs.length (V.bl true) = (List.replicate xs.length true).map V.bl := by rw [List.map_replicate]
          rw [eb] at hDG
          refine ⟨D, _, rfl, .inl (.inl hDG), ?_⟩
          rw [all_rep]
          exact q _ (s1.trans sG)
      | dict ds => cases hx1
theorem okSameD (T : Tx K mg) (n : Nat) : FnOk P w K mg base CX0 n (He.ga K "_law_same") T.fdLSame ["_law_found", "_law_due_here"] (spD K 2 (wSame n)) := (okLSame T n).imp fun vs H Q E h => same_imp h

end
section
variable {P : Program} {w : World} {K : PySem.W.Frag} {mg : Str → Option Value} {base : Heap}
local macro_rules | `(tactic| get_elem_tactic_trivial) => `(tactic| (repeat first | exact Wk.nil | exact Wk'.nil | refine Wk.same ?_ | refine Wk'.same ?_ | refine Wk.un (fun _ z => nomatch z) ?_ | refine Wk'.un ?_))
def LT : Str := "abcdefghijklmnopqrstuvwxyz"
def sg (d : Nat) : Str := ⟨#[97 + d]⟩
def nm (l : List Nat) : Str := ⟨(l.map (97 + ·)).toArray⟩
structure Gd (l : List Nat) : Prop where
  lt : ∀ d ∈ l, d < 26
  lo : 1 ≤ l.length
  hi : l.length ≤ 4
theorem lt_at : ∀ d, d < 26 → LT.cps.toList[d]? = some (97 + d) := by decide +kernel
theorem lt_in {c : Nat} : c ∈ LT.cps.toList ↔ 97 ≤ c ∧ c < 123 := by
  have e : LT.cps.toList = [97, 98, 99, 100, 101, 102, 103, 104, 105, 106, 107, 108, 109, 110, 111, 112, 113, 114, 115, 116, 117, 118, 119, 120, 121, 122] := by decide +kernel
  rw [e]
  simp only [List.mem_cons, List.not_mem_nil, or_false]
  omega
theorem nm_len (l : List Nat) : (nm l).length = l.length := by
  show (l.map (97 + ·)).toArray.size = l.length
  simp
theorem nm_size (l : List Nat) : (nm l).cps.size = l.length := nm_len l
theorem nm_cons (d : Nat) (l : List Nat) : sg d ++ nm l = nm (d :: l) := by
  show (⟨(sg d).cps ++ (nm l).cps⟩ : Str) = nm (d :: l)
  unfold nm sg
  simp
def isNm (z : Str) : Bool := decide (1 ≤ z.length) && (decide (z.length ≤ 4) && z.cps.toList.all fun c => decide (c ∈ LT.cps.toList))
theorem isNm_nm {l : List Nat} (h : Gd l) : isNm (nm l) = true := by
  unfold isNm
  rw [nm_len, decide_eq_true h.lo, decide_eq_true h.hi]
  have e : (nm l).cps.toList = l.map (97 + ·) := by simp [nm]
  rw [e, List.all_map]
  show l.all _ = true
  rw [List.all_eq_true]
  intro d hd
  have := h.lt d hd
  show decide (97 + d ∈ LT.cps.toList) = true
  exact decide_eq_true (lt_in.mpr ⟨by omega, by omega⟩)
theorem join_sg (l : List Nat) : Txt.join (Str.ofString "") (l.map sg) = nm l := by
  show Builtin.Str.glued _ _ = _
  rw [StrLaws.glued_eq_join]
  have go : ∀ l : List Nat, Str.join (Str.ofString "") (l.map sg) = nm l := by
    intro l
    induction l with
    | nil => rfl
    | cons d l ih =>
      cases l with
      | nil =>
        show sg d = nm [d]
        unfold sg nm
        simp
      | cons e l =>
        show sg d ++ Str.ofString "" ++ Str.join (Str.ofString "") ((e :: l).map sg) = nm (d :: e :: l)
        rw [ih, ← nm_cons d]
        show (⟨((sg d).cps ++ (Str.ofString "").cps) ++ (nm (e :: l)).cps⟩ : Str) = ⟨(sg d).cps ++ (nm (e :: l)).cps⟩
        have z : (Str.ofString "").cps = #[] := by decide +kernel
        rw [z, Array.append_empty]
  exact go l

end
section
variable {P : Program} {w : World} {K : PySem.W.Frag} {mg : Str → Option Value} {base : Heap}
local macro_rules | `(tactic| get_elem_tactic_trivial) => `(tactic| (repeat first | exact Wk.nil | exact Wk'.nil | refine Wk.same ?_ | refine Wk'.same ?_ | refine Wk.un (fun _ z => nomatch z) ?_ | refine Wk'.un ?_))
/-! what is a name, a number -/
def isNameD : Dt → Bool
  | .str z => isNm z
  | _ => false
def isNumD : Dt → Bool
  | .int _ => true
  | _ => false
def wB (f : Dt → Bool) : WF := fun ps Ψ => ∃ d : Dt, ps = [.dat d] ∧ Nice 60 8000 d ∧ Ψ (.dat (.bl (f d))) ps
theorem nice_size {n b : Nat} {z : Str} (h : Nice n b (.str z)) : z.length ≤ b := by
  have := h.bk
  simp only [Dt.py, PyData.bulk] at this
  exact this
theorem signs_at {z : Str} {j : Nat} {d : Dt} (h : (signs z)[j]? = some d) : ∃ c, z.cps.toList[j]? = some c ∧ d = .str ⟨#[c]⟩ := by
  unfold signs at h
  rw [List.getElem?_map] at h
  cases q : z.cps.toList[j]? with
  | none => rw [q] at h; cases h
  | some c => rw [q] at h; cases h; exact ⟨c, rfl, rfl⟩
theorem signs_len (z : Str) : (signs z).length = z.length := by
  unfold signs
  rw [List.length_map]
  simp [Str.length]
theorem bls_map : ∀ bs : List Bool, bls (bs.map .bl) = some bs
  | [] => rfl
  | b :: bs => by
    show (match bls (bs.map .bl) with | some cs => some (b :: cs) | none => none) = _
    rw [bls_map bs]
/-- the signs that are letters -/
def lets (l : List Nat) : List Bool := l.map fun c => decide (c ∈ LT.cps.toList)
theorem lets_take {z : Str} {j c : Nat} (h : z.cps.toList[j]? = some c) : (lets (z.cps.toList.take j)).map Dt.bl ++ [.bl (decide (c ∈ LT.cps.toList))] = (lets (z.cps.toList.take (j + 1))).map Dt.bl := by
  rw [List.take_add_one, h]
  unfold lets
  rw [List.map_append, List.map_append]
  rfl
theorem isNm_lets {z : Str} (h1 : 1 ≤ z.length) (h4 : z.length ≤ 4) : isNm z = (lets z.cps.toList).all id := by
  unfold isNm lets
  rw [decide_eq_true h1, decide_eq_true h4, List.all_map]
  rfl
theorem okIsName (T : Tx K mg) : FnOk P w K mg base CX0 1 (He.ga K "is_name") T.fdIsName ["thing"] (spD K 1 (wB isNameD)) := by
  have B := T.B
  refine T.FIsName.ok scIsName (fun vs H Q E h => h.1) (fun cdv A outer s H vs Q E hr h => ?_)
  refine ⟨_, PSs.nox (pss_cons (ps_if (PW.pt (pw_or (pt_not (pt_val (pe_callB (show CallR _ _ (rIsi K) from call_isi) (by rfl) B.b_isinstance boot_isinstance (pa_cons (pv 0) (pa_cons (pe_bltn (v := .ty "str") (by rfl) B.b_str PyProof.Rows.boot_str rfl) pa_nil))))) (pw_or1 (pt_not (pt_chain op_le op_le pe_int (pe_callB (show CallR _ _ (rLen K) from call_len) (by rfl) B.b_len PySem.boot_len (pa_cons (pv 0) pa_nil)) (pe_glob (v := .int 4) (by rfl) T.c_LONGEST.choose_spec ⟨_, rfl⟩)))))) (pss_one (ps_ret pe_bl)) pss_nil)
        (pss_one (ps_ret (pe_callB (show CallR _ _ (rAll K) from cr_all rfl) (by rfl) B.b_all boot_all (pa_cons (pe_lc (own := [("letter", 1)]) (g := gName 1) (tt := tYes) (by rfl) scIsName.nd (pi_str (pv 0)) (blkOk_by (own := [("letter", 1)]) (N := ["thing", "letter"]) (sc := defScope sIsName) (by decide +kernel)) (fun _ _ _ _ _ => by exact (pg_name (i := 1) scIsName.nd rfl (Or.inl rfl))) (fun _ _ _ _ _ => pts_nil) (fun _ _ _ _ _ => (pe_cmpR (show OpR _ _ rSgn from op_in_sign) (pv 1) (pe_glob (v := .str "abcdefghijklmnopqrstuvwxyz") (by rfl) T.c_LETTERS.choose_spec ⟨_, rfl⟩) (by rfl)))) pa_nil))))), ?_⟩
  refine bodyD h (fun ps Ψ hw hl => ?_)
  obtain ⟨d, rfl, hn, q⟩ := hw
  cases d with
  | str z =>
    have hz := nice_size hn
    have sz : sizeLine = 16777216 := by decide
    refine ⟨by rw [sz]; omega, ite2 (fun e => ?_) (fun e => ?_)⟩
    · have l1 : (1 : Int) ≤ (z.length : Nat) := of_decide_eq_true e
      by_cases l4 : ((z.length : Nat) : Int) ≤ 4
      · refine ifF (by show (!decide (((z.length : Nat) : Int) ≤ 4)) = false; rw [decide_eq_true l4]; rfl) ?_
        refine ⟨⟨rfl, rfl⟩, fun j acc ρ => acc = (lets (z.cps.toList.take j)).map .bl ∧ ρ = [.dat (.str z), .un] ∧ j ≤ z.length, ⟨rfl, rfl, Nat.zero_le _⟩, ?_, ?_⟩
        · rintro j acc ρ d hd ⟨rfl, rfl, hj⟩
          obtain ⟨c, hc, rfl⟩ := signs_at hd
          have hj2 : j < z.length := by
            have := (List.getElem?_eq_some_iff.mp hd).1
            rw [signs_len] at this
            exact this
          refine ⟨c, rfl, rfl, ?_, lets_take hc, rfl, hj2⟩
          rw [List.length_map]
          unfold lets
          rw [List.length_map, List.length_take, sz]
          omega
        · rintro acc ρ ⟨rfl, rfl, hj⟩
          have el : z.cps.toList.take (signs z).length = z.cps.toList := by
            rw [signs_len]
            exact List.take_of_length_le (by simp [Str.length])
          rw [el]
          refine ⟨rfl, _, bls_map _, ?_⟩
          have e9 := isNm_lets (z := z) (by omega) (by omega)
          have q2 : Ψ (.dat (.bl (isNm z))) [.dat (.str z)] := q
          rw [e9] at q2
          exact q2
      · refine ifT (by show (!decide (((z.length : Nat) : Int) ≤ 4)) = true; rw [decide_eq_false l4]; rfl) ?_
        have en : isNm z = false := by
          unfold isNm
          rw [decide_eq_false (show ¬ z.length ≤ 4 by omega)]
          cases decide (1 ≤ z.length) <;> rfl
        have q2 : Ψ (.dat (.bl (isNm z))) [.dat (.str z)] := q
        rw [en] at q2
        exact q2
    · have l1 : ¬ (1 : Int) ≤ (z.length : Nat) := fun y => e (decide_eq_true y)
      have en : isNm z = false := by
        unfold isNm
        rw [decide_eq_false (show ¬ 1 ≤ z.length by omega)]
        rfl
      have q2 : Ψ (.dat (.bl (isNm z))) [.dat (.str z)] := q
      rw [en] at q2
      exact q2
  | obj c ns ds => exact nomatch hn.pu
  | err c d => exact nomatch hn.pu
  | adr a_ => exact nomatch hn.pu
  | dic _ _ => exact nomatch hn.pu
  | scr ns => exact nomatch hn.pu
  | _ => exact q
theorem okLIsName (T : Tx K mg) : FnOk P w K mg base CX0 1 (He.ga K "_law_is_name") T.fdLIsName ["_law_thing"] (spD K 1 (wB isNameD)) := by
  have B := T.B
  refine T.FLIsName.ok scLIsName (fun vs H Q E h => h.1) (fun cdv A outer s H vs Q E hr h => ?_)
  refine ⟨_, PSs.nox (pss_cons (ps_if (PW.pt (pw_or (pt_not (pt_val (pe_callB (show CallR _ _ (rIsi K) from call_isi) (by rfl) B.b_isinstance boot_isinstance (pa_cons (pv 0) (pa_cons (pe_bltn (v := .ty "str") (by rfl) B.b_str PyProof.Rows.boot_str rfl) pa_nil))))) (pw_or1 (pt_not (pt_chain op_le op_le pe_int (pe_callB (show CallR _ _ (rLen K) from call_len) (by rfl) B.b_len PySem.boot_len (pa_cons (pv 0) pa_nil)) pe_int))))) (pss_one (ps_ret pe_bl)) pss_nil)
        (pss_one (ps_ret (pe_callB (show CallR _ _ (rAll K) from cr_all rfl) (by rfl) B.b_all boot_all (pa_cons (pe_lc (own := [("_law_sign", 1)]) (g := gName 1) (tt := tYes) (by rfl) scLIsName.nd (pi_str (pv 0)) (blkOk_by (own := [("_law_sign", 1)]) (N := ["_law_thing", "_law_sign"]) (sc := defScope sLIsName) (by decide +kernel)) (fun _ _ _ _ _ => by exact (pg_name (i := 1) scLIsName.nd rfl (Or.inl rfl))) (fun _ _ _ _ _ => pts_nil) (fun _ _ _ _ _ => (pe_cmpR (show OpR _ _ rSgn from op_in_sign) (pv 1) pe_str (by rfl)))) pa_nil))))), ?_⟩
  refine bodyD h (fun ps Ψ hw hl => ?_)
  obtain ⟨d, rfl, hn, q⟩ := hw
  cases d with
  | str z =>
    have hz := nice_size hn
    have sz : sizeLine = 16777216 := by decide
    refine ⟨by rw [sz]; omega, ite2 (fun e => ?_) (fun e => ?_)⟩
    · have l1 : (1 : Int) ≤ (z.length : Nat) := of_decide_eq_true e
      by_cases l4 : ((z.length : Nat) : Int) ≤ 4
      · refine ifF (by show (!decide (((z.length : Nat) : Int) ≤ 4)) = false; rw [decide_eq_true l4]; rfl) ?_
        refine ⟨⟨rfl, rfl⟩, fun j acc ρ => acc = (lets (z.cps.toList.take j)).map .bl ∧ ρ = [.dat (.str z), .un] ∧ j ≤ z.length, ⟨rfl, rfl, Nat.zero_le _⟩, ?_, ?_⟩
        · rintro j acc ρ d hd ⟨rfl, rfl, hj⟩
          obtain ⟨c, hc, rfl⟩ := signs_at hd
          have hj2 : j < z.length := by
            have := (List.getElem?_eq_some_iff.mp hd).1
            rw [signs_len] at this
            exact this
          refine ⟨c, rfl, rfl, ?_, lets_take hc, rfl, hj2⟩
          rw [List.length_map]
          unfold lets
          rw [List.length_map, List.length_take, sz]
          omega
        · rintro acc ρ ⟨rfl, rfl, hj⟩
          have el : z.cps.toList.take (signs z).length = z.cps.toList := by
            rw [signs_len]
            exact List.take_of_length_le (by simp [Str.length])
          rw [el]
          refine ⟨rfl, _, bls_map _, ?_⟩
          have e9 := isNm_lets (z := z) (by omega) (by omega)
          have q2 : Ψ (.dat (.bl (isNm z))) [.dat (.str z)] := q
          rw [e9] at q2
          exact q2
      · refine ifT (by show (!decide (((z.length : Nat) : Int) ≤ 4)) = true; rw [decide_eq_false l4]; rfl) ?_
        have en : isNm z = false := by
          unfold isNm
          rw [decide_eq_false (show ¬ z.length ≤ 4 by omega)]
          cases decide (1 ≤ z.length) <;> rfl
        have q2 : Ψ (.dat (.bl (isNm z))) [.dat (.str z)] := q
        rw [en] at q2
        exact q2
    · have l1 : ¬ (1 : Int) ≤ (z.length : Nat) := fun y => e (decide_eq_true y)
      have en : isNm z = false := by
        unfold isNm
        rw [decide_eq_false (show ¬ 1 ≤ z.length by omega)]
        rfl
      have q2 : Ψ (.dat (.bl (isNm z))) [.dat (.str z)] := q
      rw [en] at q2
      exact q2
  | obj c ns ds => exact nomatch hn.pu
  | err c d => exact nomatch hn.pu
  | adr a_ => exact nomatch hn.pu
  | dic _ _ => exact nomatch hn.pu
  | scr ns => exact nomatch hn.pu
  | _ => exact q
theorem okIsNumber (T : Tx K mg) : FnOk P w K mg base CX0 1 (He.ga K "is_number") T.fdIsNumber ["thing"] (spD K 1 (wB isNumD)) := by
  have B := T.B
  refine T.FIsNumber.ok scIsNumber (fun vs H Q E h => h.1) (fun cdv A outer s H vs Q E hr h => ?_)
  refine ⟨_, PSs.nox (pss_one (ps_ret (pe_and (pe_callB (show CallR _ _ (rIsi K) from call_isi) (by rfl) B.b_isinstance boot_isinstance (pa_cons (pv 0) (pa_cons (pe_bltn (v := .ty "int") (by rfl) B.b_int PyProof.Rows.boot_int rfl) pa_nil))) (pe_one (pe_not (pe_callB (show CallR _ _ (rIsi K) from call_isi) (by rfl) B.b_isinstance boot_isinstance (pa_cons (pv 0) (pa_cons (pe_bltn (v := .ty "bool") (by rfl) B.b_bool PyProof.Rows.boot_bool rfl) pa_nil)))))))), ?_⟩
  refine bodyD h (fun ps Ψ hw hl => ?_)
  obtain ⟨d, rfl, hn, q⟩ := hw
  cases d with
  | obj c ns ds => exact nomatch hn.pu
  | err c d => exact nomatch hn.pu
  | adr a_ => exact nomatch hn.pu
  | dic _ _ => exact nomatch hn.pu
  | _ => exact q

end
section
variable {P : Program} {w : World} {K : PySem.W.Frag} {mg : Str → Option Value} {base : Heap}
local macro_rules | `(tactic| get_elem_tactic_trivial) => `(tactic| (repeat first | exact Wk.nil | exact Wk'.nil | refine Wk.same ?_ | refine Wk'.same ?_ | refine Wk.un (fun _ z => nomatch z) ?_ | refine Wk'.un ?_))
/-! names cut, names that are shown -/
theorem nm_ok {l : List Nat} (h : ∀ d ∈ l, d < 26) : PyData.strOk (nm l) = true := by
  unfold PyData.strOk nm
  rw [List.all_toArray, List.all_eq_true]
  intro c hc
  obtain ⟨d, hd, rfl⟩ := List.mem_map.mp hc
  have := h d hd
  exact decide_eq_true (by omega)
theorem nm_app (a b : List Nat) : nm a ++ nm b = nm (a ++ b) := by
  show (⟨(nm a).cps ++ (nm b).cps⟩ : Str) = nm (a ++ b)
  unfold nm
  simp
theorem nm_one (d : Nat) : sg d = nm [d] := rfl
theorem nm_cps (l : List Nat) : (nm l).cps.toList = l.map (97 + ·) := by simp [nm]
theorem nm_cutT {l : List Nat} {i : Int} (h0 : 0 ≤ i) : cutS (nm l) none (some i) = nm (l.take i.toNat) := by
  unfold cutS
  rw [nm_len, nm_cps]
  have e : HT.sIx l.length 0 none = 0 := rfl
  have e2 : HT.sIx l.length l.length (some i) = min i.toNat l.length := by
    show (if i < 0 then (i + (l.length : Int)).toNat else min i.toNat l.length) = _
    rw [if_neg (by omega)]
  rw [e, e2, List.drop_zero, Nat.sub_zero, ← List.map_take]
  unfold nm
  rw [show l.take (min i.toNat l.length) = l.take i.toNat by
    rcases Nat.le_total i.toNat l.length with h | h
    · rw [Nat.min_eq_left h]
    · rw [Nat.min_eq_right h, List.take_of_length_le h, List.take_of_length_le (Nat.le_refl _)]]
theorem nm_cutD {l : List Nat} {i : Int} (h0 : 0 ≤ i) : cutS (nm l) (some i) none = nm (l.drop i.toNat) := by
  unfold cutS
  rw [nm_len, nm_cps]
  have e : HT.sIx l.length 0 (some i) = min i.toNat l.length := by
    show (if i < 0 then (i + (l.length : Int)).toNat else min i.toNat l.length) = _
    rw [if_neg (by omega)]
  have e2 : HT.sIx l.length l.length none = l.length := rfl
  rw [e, e2, ← List.map_drop, List.take_of_length_le (by rw [List.length_map, List.length_drop]; omega)]
  unfold nm
  rw [show l.drop (min i.toNat l.length) = l.drop i.toNat by
    rcases Nat.le_total i.toNat l.length with h | h
    · rw [Nat.min_eq_left h]
    · rw [Nat.min_eq_right h, List.drop_of_length_le h, List.drop_of_length_le (Nat.le_refl _)]]
def nD (l : List Nat) : Dt := .str (nm l)
theorem nice_nm {l : List Nat} (h : Gd l) : Nice 0 4 (nD l) := nice_str (nm_ok h.lt) (b := 4) (by rw [nm_size]; exact h.hi)
theorem beq_dec {α : Type} [BEq α] [LawfulBEq α] [DecidableEq α] (x y : α) : (x == y) = decide (x = y) := by
  by_cases h : x = y
  · rw [decide_eq_true h]
    exact beq_iff_eq.mpr h
  · rw [decide_eq_false h]
    exact beq_eq_false_iff_ne.mpr h
end
section
variable {P : Program} {w : World} {K : PySem.W.Frag} {mg : Str → Option Value} {base : Heap}
local macro_rules | `(tactic| get_elem_tactic_trivial) => `(tactic| (repeat first | exact Wk.nil | exact Wk'.nil | refine Wk.same ?_ | refine Wk'.same ?_ | refine Wk.un (fun _ z => nomatch z) ?_ | refine Wk'.un ?_))
theorem nice_small {i : Int} (h0 : -10000000000 < i) (h1 : i < 10000000000) : Nice 0 0 (.int i) := nice_int (by
  have h2 : i.natAbs < 2 ^ 40 := by omega
  exact Nat.lt_of_lt_of_le h2 (Nat.pow_le_pow_right (by decide) (by decide)))
end
section
variable {P : Program} {w : World} {K : PySem.W.Frag} {mg : Str → Option Value} {base : Heap}
local macro_rules | `(tactic| get_elem_tactic_trivial) => `(tactic| (repeat first | exact Wk.nil | exact Wk'.nil | refine Wk.same ?_ | refine Wk'.same ?_ | refine Wk.un (fun _ z => nomatch z) ?_ | refine Wk'.un ?_))
/-! draws -/
def wPick : WF := fun ps Ψ => ∃ (n : Int) (ds : List Dt), ps = [.box n, .dat (.lst ds)] ∧ n < 900000000 ∧ ds ≠ [] ∧ ds.length ≤ 1000 ∧ ∀ d ∈ ds, Ψ (.dat d) [.box (n + 1), .dat (.lst ds)]
theorem okLPick (T : Tx K mg) : FnOk P w K mg base CX0 2 (He.ga K "_law_pick") T.fdLPick ["_law_box_here", "_law_things"] (spD K 2 wPick) := by
  have B := T.B
  have GLTake : FnOk P w K mg base CX0 1 (He.ga K "_law_take") T.fdLTake ["_law_box_here", "_law_size"] (spD K 2 wTake) := okTakeD T
  have bLTake := T.bLTake
  refine T.FLPick.ok scLPick (fun vs H Q E h => h.1) (fun cdv A outer s H vs Q E hr h => ?_)
  refine ⟨_, PSs.nox (pss_one (ps_ret (pe_ix (show IxR _ (rIx K) from ix_seq) (pv 1) (pe_call GLTake (hr.mono (by decide)) (by rfl) T.gLTake T.FLTake.kp bLTake .nil pass0 (pa_cons (pv 0) (pa_cons (pe_callB (show CallR _ _ (rLen K) from call_len) (by rfl) B.b_len PySem.boot_len (pa_cons (pv 1) pa_nil)) pa_nil))) (fun _ _ => rfl)))), ?_⟩
  refine bodyD h (fun ps Ψ hw hl => ?_)
  obtain ⟨n, ds, rfl, hn, h0, hl, q⟩ := hw
  have hp : 0 < ds.length := List.length_pos_iff.mpr h0
  refine ⟨rfl, ⟨by omega, by omega, by omega⟩, fun r r0 r1 => ?_⟩
  obtain ⟨d, ed, md⟩ := atD r0 r1
  exact ⟨d, ed, q d md⟩
def wNames : List Sl → (List Dt → List Sl → Prop) → Prop := fun ps Ψ => ∃ (n k : Int), ps = [.box n, .dat (.int k)] ∧ n < 800000000 ∧ 0 ≤ k ∧ k ≤ 100 ∧ ∀ (ls : List (List Nat)) (m : Int), (∀ l ∈ ls, Gd l) → (ls.length : Int) = k → m ≤ n + 7 → Ψ (ls.map nD) [.box m, .dat (.int k)]
theorem sum_sg : ∀ l : List Nat, ((l.map sg).map (·.length)).sum = l.length
  | [] => rfl
  | d :: l => by
    show (sg d).length + ((l.map sg).map (·.length)).sum = _
    rw [sum_sg l]
    show 1 + l.length = l.length + 1
    omega
theorem okLNames (T : Tx K mg) : FnOk P w K mg base CX0 2 (He.ga K "_law_names") T.fdLNames ["_law_box_here", "_law_size"] (spN K 2 wNames) := by
  have B := T.B
  have GLTake : FnOk P w K mg base CX0 1 (He.ga K "_law_take") T.fdLTake ["_law_box_here", "_law_size"] (spD K 2 wTake) := okTakeD T
  have bLTake := T.bLTake
  refine T.FLNames.ok scLNames (fun vs H Q E h => h.1) (fun cdv A outer s H vs Q E hr h => ?_)
  refine ⟨_, PSs.nox (pss_cons (ps_asg (pe_tup (pa_cons pe_str (pa_cons (pe_call GLTake (hr.mono (by decide)) (by rfl) T.gLTake T.FLTake.kp bLTake .nil pass0 (pa_cons (pv 0) (pa_cons pe_int pa_nil))) (pa_cons (pe_ix (show IxR _ (rIx K) from ix_seq) (pe_lst (pa_cons pe_int (pa_cons pe_int (pa_cons pe_int (pa_cons pe_int pa_nil))))) (pe_call GLTake (hr.mono (by decide)) (by rfl) T.gLTake T.FLTake.kp bLTake .nil pass0 (pa_cons (pv 0) (pa_cons pe_int pa_nil))) (fun _ _ => rfl)) pa_nil)))) (show PG _ _ (gTup K 3 _) from pg_tup rfl (pgs_cons (pg_name (i := 2) scLNames.nd rfl (Or.inr rfl)) (pgs_cons (pg_name (i := 3) scLNames.nd rfl (Or.inr rfl)) (pgs_cons (pg_name (i := 4) scLNames.nd rfl (Or.inr rfl)) pgs_nil)))))
        (pss_cons (ps_set (i := 5) scLNames.nd rfl (.inr rfl) (show PE _ _ (tM1 (cJoin K) _ _) from pe_join pe_str (pe_lc (own := [("_law_k", 6)]) (g := gName 6) (tt := tYes) (by rfl) scLNames.nd (pi_range1 (by rfl) B.b_range (pa_cons (pe_call GLTake (hr.mono (by decide)) (by rfl) T.gLTake T.FLTake.kp bLTake .nil pass0 (pa_cons (pv 0) (pa_cons pe_int pa_nil))) pa_nil)) (blkOk_by (own := [("_law_k", 6)]) (N := ["_law_box_here", "_law_size", "_law_letters", "_law_begun", "_law_by", "_law_tail", "_law_k", "_law_at"]) (sc := defScope sLNames) (by decide +kernel)) (fun _ _ _ _ _ => by exact (pg_name (i := 6) scLNames.nd rfl (Or.inl rfl))) (fun _ _ _ _ _ => pts_nil) (fun _ _ _ _ _ => (pe_ix (show IxR _ (rIx K) from ix_seq) (pv 2) (pe_call GLTake (hr.mono (by decide)) (by rfl) T.gLTake T.FLTake.kp bLTake .nil pass0 (pa_cons (pv 0) (pa_cons pe_int pa_nil))) (fun _ _ => rfl))))))
        (pss_cons (ps_set (i := 7) scLNames.nd rfl (.inr rfl) (pe_call GLTake (hr.mono (by decide)) (by rfl) T.gLTake T.FLTake.kp bLTake .nil pass0 (pa_cons (pv 0) (pa_cons (pe_op op_add (pe_callB (show CallR _ _ (rLen K) from call_len) (by rfl) B.b_len PySem.boot_len (pa_cons (pv 5) pa_nil)) pe_int) pa_nil))))
        (pss_one (ps_ret (pe_lc (own := [("_law_k", 6)]) (g := gName 6) (tt := tYes) (by rfl) scLNames.nd (pi_range1 (by rfl) B.b_range (pa_cons (pv 1) pa_nil)) (blkOk_by (own := [("_law_k", 6)]) (N := ["_law_box_here", "_law_size", "_law_letters", "_law_begun", "_law_by", "_law_tail", "_law_k", "_law_at"]) (sc := defScope sLNames) (by decide +kernel)) (fun _ _ _ _ _ => by exact (pg_name (i := 6) scLNames.nd rfl (Or.inl rfl))) (fun _ _ _ _ _ => pts_nil) (fun _ _ _ _ _ => (pe_op (show OpR _ _ rAddS from op_add_str) (pe_op (show OpR _ _ rAddS from op_add_str) (pe_slice (show SlR _ rSlS from sl_str) (pv 5) po_none (po_some (pv 7))) (pe_ix (show IxR _ (rIx K) from ix_seq) (pv 2) (pe_op op_mod (pe_op op_add (pv 3) (pe_op op_mul (pv 4) (pv 6))) pe_int) (fun _ _ => rfl))) (pe_slice (show SlR _ rSlS from sl_str) (pv 5) (po_some (pv 7)) po_none))))))))), ?_⟩
  refine bodyD h (fun ps Ψ hw hl => ?_)
  obtain ⟨n, k, rfl, hn, h0, h1, q⟩ := hw
  refine ⟨rfl, ⟨by omega, by decide, by decide⟩, fun b b0 b1 => ⟨by show 4 ≤ sizeLine; decide, rfl, ⟨by omega, by decide, by decide⟩, fun c c0 c1 => ?_⟩⟩
  obtain ⟨v, ev, mv⟩ := atD (xs := [Dt.int 1, .int 3, .int 7, .int 25]) c0 c1
  obtain ⟨y, rfl, y0, y1⟩ : ∃ y : Int, v = .int y ∧ 0 ≤ y ∧ y ≤ 25 := by
    simp only [List.mem_cons, List.mem_nil_iff, or_false] at mv
    rcases mv with rfl | rfl | rfl | rfl <;> exact ⟨_, rfl, by decide, by decide⟩
  have sz : sizeLine = 16777216 := by decide
  refine ⟨_, ev, by show 3 ≤ sizeLine; decide, rfl, rfl, ⟨by omega, by decide, by decide⟩, fun r r0 r1 => ?_⟩
  refine ⟨by omega, by omega, ⟨rfl, rfl⟩, fun j acc ρ => ∃ (l : List Nat) (m : Int), acc = (l.map sg).map .str ∧ ρ = [.box m, .dat (.int k), .dat (.str LT), .dat (.int b), .dat (.int y), .un, .un, .un] ∧ l.length = j ∧ (∀ d ∈ l, d < 26) ∧ m ≤ n + 3 + j, ⟨[], _, rfl, rfl, rfl, (fun _ z => nomatch z), by omega⟩, ?_, ?_⟩
  · rintro j acc ρ d hd ⟨l, m, rfl, rfl, hlen, hl, hm⟩
    obtain ⟨hj, rfl⟩ := rng_at hd
    refine ⟨rfl, ⟨by omega, by decide, by decide⟩, fun c c0 c1 => ?_⟩
    have hc : c.toNat < 26 := by omega
    refine ⟨by decide, 97 + c.toNat, atD_of c0 (lt_at _ hc), rfl, ?_, l ++ [c.toNat], _, ?_, rfl, ?_, ?_, ?_⟩
    · rw [List.length_map, List.length_map]
      exact small6 (by omega)
    · rw [List.map_append, List.map_append]
      rfl
    · rw [List.length_append, hlen]
      rfl
    · intro k hk
      rcases List.mem_append.mp hk with z | z
      · exact hl k z
      · rw [List.mem_singleton.mp z]
        exact hc
    · omega
  · rintro acc ρ ⟨l, m, rfl, rfl, hlen, hl, hm⟩
    rw [rng_len] at hlen hm
    refine ⟨rfl, l.map sg, txts_map _, ?_, ?_⟩
    · rw [sum_sg, List.length_map]
      show l.length + l.length * 0 ≤ _
      omega
    rw [join_sg]
    refine ⟨by rw [nm_len]; omega, rfl, ⟨by omega, by rw [nm_len]; omega, by rw [nm_len]; omega⟩, fun t t0 t1 => ?_⟩
    rw [nm_len] at t1
    refine ⟨by omega, by omega, ⟨rfl, rfl⟩, fun j acc ρ => ∃ ls : List (List Nat), acc = ls.map nD ∧ (∀ x ∈ ls, Gd x) ∧ ls.length = j ∧ ρ = [.box (m + 1), .dat (.int k), .dat (.str LT), .dat (.int b), .dat (.int y), .dat (.str (nm l)), .un, .dat (.int t)], ⟨[], rfl, (fun _ z => nomatch z), rfl, rfl⟩, ?_, ?_⟩
    · rintro j acc ρ d hd ⟨ls, rfl, gls, hlj, rfl⟩
      obtain ⟨hj, rfl⟩ := rng_at hd
      have hm26 : 0 ≤ (b + y * ((0 : Int) + (j : Nat))) % 26 ∧ (b + y * ((0 : Int) + (j : Nat))) % 26 < 26 := ⟨Int.emod_nonneg _ (by decide), Int.emod_lt_of_pos _ (by decide)⟩
      have hc : ((b + y * ((0 : Int) + (j : Nat))) % 26).toNat < 26 := by omega
      have lT : (nm l).length ≤ sizeLine := by rw [nm_len]; omega
      have e1 : cutS (nm l) none (some t) ++ (⟨#[97 + ((b + y * ((0 : Int) + (j : Nat))) % 26).toNat]⟩ : Str) ++ cutS (nm l) (some t) none = nm (l.take t.toNat ++ [((b + y * ((0 : Int) + (j : Nat))) % 26).toNat] ++ l.drop t.toNat) := by
        rw [nm_cutT t0, nm_cutD t0, ← nm_app, ← nm_app]
        rfl
      have c1 : (cutS (nm l) none (some t)).length ≤ 3 := by rw [nm_cutT t0, nm_len, List.length_take]; omega
      have c2 : (cutS (nm l) (some t) none).length ≤ 3 := by rw [nm_cutD t0, nm_len, List.length_drop]; omega
      refine ⟨lT, .inl ⟨by omega, by omega⟩, (show (0 : Int) < 26 by decide), by decide, 97 + ((b + y * ((0 : Int) + (j : Nat))) % 26).toNat, atD_of hm26.1 (lt_at _ hc), ?_⟩
      have l12 : (cutS (nm l) none (some t) ++ (⟨#[97 + ((b + y * ((0 : Int) + (j : Nat))) % 26).toNat]⟩ : Str)).length ≤ 4 := by
        rw [nm_cutT t0]
        show (nm _ ++ sg _).length ≤ 4
        rw [nm_one, nm_app, nm_len, List.length_append, List.length_take]
        show _ + 1 ≤ 4
        omega
      refine ⟨by show _ + 1 ≤ sizeLine; omega, lT, by omega, rfl, ?_, ls ++ [l.take t.toNat ++ [((b + y * ((0 : Int) + (j : Nat))) % 26).toNat] ++ l.drop t.toNat], ?_, ?_, ?_, rfl⟩
      · rw [List.length_map]
        exact small6 (by omega)
      · rw [List.map_append]
        show _ ++ [Dt.str _] = _ ++ [nD _]
        rw [e1]
        rfl
      · intro x hx
        rcases List.mem_append.mp hx with z | z
        · exact gls x z
        · rw [List.mem_singleton.mp z]
          refine ⟨fun d hd => ?_, ?_, ?_⟩
          · rcases List.mem_append.mp hd with z | z
            · rcases List.mem_append.mp z with z | z
              · exact hl d (List.mem_of_mem_take z)
              · rw [List.mem_singleton.mp z]
                exact hc
            · exact hl d (List.mem_of_mem_drop z)
          · rw [List.length_append, List.length_append]
            show 1 ≤ _ + 1 + _
            omega
          · rw [List.length_append, List.length_append, List.length_take, List.length_drop]
            show _ + 1 + _ ≤ 4
            omega
      · rw [List.length_append, hlj]
        rfl
    · rintro acc ρ ⟨ls, rfl, gls, hlj, rfl⟩
      rw [rng_len] at hlj
      refine ⟨rfl, ?_⟩
      exact q ls _ gls (by omega) (by omega)
end
section
variable {P : Program} {w : World} {K : PySem.W.Frag} {mg : Str → Option Value} {base : Heap}
local macro_rules | `(tactic| get_elem_tactic_trivial) => `(tactic| (repeat first | exact Wk.nil | exact Wk'.nil | refine Wk.same ?_ | refine Wk'.same ?_ | refine Wk.un (fun _ z => nomatch z) ?_ | refine Wk'.un ?_))
/-! rows, and how rules stand to them -/
theorem take_at {α : Type} {l : List α} {j : Nat} {x : α} (h : l[j]? = some x) : l.take (j + 1) = l.take j ++ [x] := by
  rw [List.take_add_one, h]
  rfl
theorem take_len {α : Type} {l : List α} {j : Nat} {x : α} (h : l[j]? = some x) : (l.take j).length = j := by
  have := (List.getElem?_eq_some_iff.mp h).1
  rw [List.length_take]
  omega

end
section
variable {P : Program} {w : World} {K : PySem.W.Frag} {mg : Str → Option Value} {base : Heap}
local macro_rules | `(tactic| get_elem_tactic_trivial) => `(tactic| (repeat first | exact Wk.nil | exact Wk'.nil | refine Wk.same ?_ | refine Wk'.same ?_ | refine Wk.un (fun _ z => nomatch z) ?_ | refine Wk'.un ?_))
theorem len_bulkS : ∀ ds : List Dt, ds.length ≤ PyData.bulkAll (pys ds)
  | [] => Nat.le_refl _
  | d :: ds => by
    have := len_bulkS ds
    simp only [pys, PyData.bulkAll, List.length_cons]
    omega
mutual
theorem eD_refl : ∀ d : Dt, d.pure = true → PyData.eqv d.py d.py = true
  | .non, _ => by simp [Dt.py, PyData.eqv]
  | .bl b, _ => by simp [Dt.py, PyData.eqv]
  | .int i, _ => by simp [Dt.py, PyData.eqv]
  | .str x, _ => by simp [Dt.py, PyData.eqv]
  | .lst ds, h => by
    simp only [Dt.py, PyData.eqv]
    exact eDs_refl ds (by simpa only [Dt.pure] using h)
  | .tup ds, h => by
    simp only [Dt.py, PyData.eqv]
    exact eDs_refl ds (by simpa only [Dt.pure] using h)
  | .obj _ _ _, h => by simp [Dt.pure] at h
  | .err _ _, h => by simp [Dt.pure] at h
  | .adr _, h => by simp [Dt.pure] at h
  | .dic _ _, h => by simp [Dt.pure] at h
  | .scr _, h => by simp [Dt.pure] at h
theorem eDs_refl : ∀ ds : List Dt, pures ds = true → PyData.eqvAll (pys ds) (pys ds) = true
  | [], _ => by simp [pys, PyData.eqvAll]
  | d :: ds, h => by
    simp only [pures, Bool.and_eq_true] at h
    simp only [pys, PyData.eqvAll, Bool.and_eq_true]
    exact ⟨eD_refl d h.1, eDs_refl ds h.2⟩
end
mutual
theorem dep_le : ∀ d : Dt, dep d.py ≤ d.py.depth
  | .lst ds => by
    show dep.deps (pys ds) + 1 ≤ PyData.depthAll (pys ds) + 1
    exact Nat.succ_le_succ (deps_le ds)
  | .tup ds => by
    show dep.deps (pys ds) + 1 ≤ PyData.depthAll (pys ds) + 1
    exact Nat.succ_le_succ (deps_le ds)
  | .non => Nat.zero_le _
  | .bl _ => Nat.zero_le _
  | .int _ => Nat.zero_le _
  | .str _ => Nat.zero_le _
  | .obj _ _ _ => Nat.zero_le _
  | .err _ _ => Nat.zero_le _
  | .adr _ => Nat.zero_le _
  | .dic _ _ => Nat.zero_le _
  | .scr _ => Nat.zero_le _
theorem deps_le : ∀ ds : List Dt, dep.deps (pys ds) ≤ PyData.depthAll (pys ds)
  | [] => Nat.le_refl _
  | d :: ds => by
    have h1 := dep_le d
    have h2 := deps_le ds
    show max (dep d.py) (dep.deps (pys ds)) ≤ max d.py.depth (PyData.depthAll (pys ds))
    omega
end
theorem pys_len : ∀ ds : List Dt, (pys ds).length = ds.length
  | [] => rfl
  | _ :: ds => congrArg Nat.succ (pys_len ds)
mutual
theorem wid_le : ∀ d : Dt, wid d.py ≤ d.py.bulk
  | .lst ds => by
    have h1 := wids_le ds
    have h2 := len_bulkS ds
    have h3 := pys_len ds
    show max (pys ds).length (wid.wids (pys ds)) ≤ PyData.bulkAll (pys ds)
    omega
  | .tup ds => by
    have h1 := wids_le ds
    have h2 := len_bulkS ds
    have h3 := pys_len ds
    show max (pys ds).length (wid.wids (pys ds)) ≤ PyData.bulkAll (pys ds)
    omega
  | .non => Nat.zero_le _
  | .bl _ => Nat.zero_le _
  | .int _ => Nat.zero_le _
  | .str _ => Nat.zero_le _
  | .obj _ _ _ => Nat.zero_le _
  | .err _ _ => Nat.zero_le _
  | .adr _ => Nat.zero_le _
  | .dic _ _ => Nat.zero_le _
  | .scr _ => Nat.zero_le _
theorem wids_le : ∀ ds : List Dt, wid.wids (pys ds) ≤ PyData.bulkAll (pys ds)
  | [] => Nat.le_refl _
  | d :: ds => by
    have h1 := wid_le d
    have h2 := wids_le ds
    show max (wid d.py) (wid.wids (pys ds)) ≤ d.py.bulk + 1 + PyData.bulkAll (pys ds)
    omega
end
theorem Nice.same {n b k : Nat} {d : Dt} (h : Nice n b d) (hn : n < k) (hb : b ≤ 1000000) : d.pure = true ∧ dep d.py < k ∧ wid d.py ≤ 1000000 := ⟨h.pu, Nat.lt_of_le_of_lt (Nat.le_trans (dep_le d) h.dp) hn, Nat.le_trans (Nat.le_trans (wid_le d) h.bk) hb⟩

end
section
variable {P : Program} {w : World} {K : PySem.W.Frag} {mg : Str → Option Value} {base : Heap}
local macro_rules | `(tactic| get_elem_tactic_trivial) => `(tactic| (repeat first | exact Wk.nil | exact Wk'.nil | refine Wk.same ?_ | refine Wk'.same ?_ | refine Wk.un (fun _ z => nomatch z) ?_ | refine Wk'.un ?_))
/-! steps of a log -/
def numW (lo hi : Int) : Dt → Bool
  | .int i => decide (lo ≤ i) && decide (i ≤ hi)
  | _ => false
def wWithin : WF := fun ps Ψ => ∃ (d : Dt) (lo hi : Int), ps = [.dat d, .dat (.int lo), .dat (.int hi)] ∧ Nice 60 8000 d ∧ Ψ (.dat (.bl (numW lo hi d))) ps
theorem okIsWithin (T : Tx K mg) : FnOk P w K mg base CX0 2 (He.ga K "is_within") T.fdIsWithin ["thing", "least", "greatest"] (spD K 3 wWithin) := by
  have B := T.B
  have GIsNumber : FnOk P w K mg base CX0 1 (He.ga K "is_number") T.fdIsNumber ["thing"] (spD K 1 (wB isNumD)) := okIsNumber T
  have bIsNumber := T.bIsNumber
  refine T.FIsWithin.ok scIsWithin (fun vs H Q E h => h.1) (fun cdv A outer s H vs Q E hr h => ?_)
  refine ⟨_, PSs.nox (pss_one (ps_ret (pe_and (pe_call GIsNumber (hr.mono (by decide)) (by rfl) T.gIsNumber T.FIsNumber.kp bIsNumber .nil pass0 (pa_cons (pv 0) pa_nil)) (pe_one (pe_chain op_le op_le (pv 1) (pv 0) (pv 2)))))), ?_⟩
  refine bodyD h (fun ps Ψ hw hl => ?_)
  obtain ⟨d, lo, hi, rfl, hn, q⟩ := hw
  refine ⟨rfl, d, rfl, hn, ?_⟩
  cases d with
  | int i =>
    have q2 : Ψ (.dat (.bl (decide (lo ≤ i) && decide (i ≤ hi)))) [.dat (.int i), .dat (.int lo), .dat (.int hi)] := q
    by_cases h0 : lo ≤ i
    · rw [decide_eq_true h0] at q2
      exact ifT (decide_eq_true h0) q2
    · rw [decide_eq_false h0] at q2
      exact ifF (decide_eq_false h0) q2
  | obj c ns ds => exact nomatch hn.pu
  | err c d => exact nomatch hn.pu
  | adr a_ => exact nomatch hn.pu
  | dic _ _ => exact nomatch hn.pu
  | _ => exact q

end
section
variable {P : Program} {w : World} {K : PySem.W.Frag} {mg : Str → Option Value} {base : Heap}
local macro_rules | `(tactic| get_elem_tactic_trivial) => `(tactic| (repeat first | exact Wk.nil | exact Wk'.nil | refine Wk.same ?_ | refine Wk'.same ?_ | refine Wk.un (fun _ z => nomatch z) ?_ | refine Wk'.un ?_))

end
section
variable {P : Program} {w : World} {K : PySem.W.Frag} {mg : Str → Option Value} {base : Heap}
local macro_rules | `(tactic| get_elem_tactic_trivial) => `(tactic| (repeat first | exact Wk.nil | exact Wk'.nil | refine Wk.same ?_ | refine Wk'.same ?_ | refine Wk.un (fun _ z => nomatch z) ?_ | refine Wk'.un ?_))
/-! cells folded -/
theorem cut_hi (xs : List V) (k : Nat) : cutV xs none (some (k : Int)) = xs.take k := by
  unfold cutV
  rw [show HT.sIx xs.length xs.length (some (k : Int)) = min k xs.length from HT.sIx_nat xs.length xs.length k, HT.sIx_none, Nat.sub_zero, List.drop_zero]
  by_cases h : k ≤ xs.length
  · rw [Nat.min_eq_left h]
  · rw [Nat.min_eq_right (by omega), List.take_length, List.take_of_length_le (by omega)]
theorem cut_intsM (ns : List Int) (m : Nat) : ∃ rs : List Int, cutV (ns.map V.int) (some (m : Int)) (some 63) = rs.map V.int ∧ (rs ≠ [] → m ≤ ns.length) ∧ rs.length ≤ 63 := by
  refine ⟨(ns.drop (min m ns.length)).take (min 63 ns.length - min m ns.length), ?_, fun h => ?_, ?_⟩
  · unfold cutV
    rw [show HT.sIx (ns.map V.int).length 0 (some (m : Int)) = min m (ns.map V.int).length from HT.sIx_nat _ 0 m, show HT.sIx (ns.map V.int).length (ns.map V.int).length (some (63 : Int)) = min 63 (ns.map V.int).length from HT.sIx_nat _ _ 63, List.length_map, List.map_take, List.map_drop]
  · by_cases h3 : m ≤ ns.length
    · exact h3
    · refine absurd ?_ h
      rw [show min m ns.length = ns.length by omega, List.drop_length, List.take_nil]
  · exact Nat.le_trans (List.length_take_le _ _) (by omega)
theorem lay_ints : ∀ cs : List Int, PyData.canLayAll0 (cs.map PyData.int) = true ∧ PyData.depthAll (cs.map PyData.int) = 0
  | [] => ⟨rfl, rfl⟩
  | c :: cs => by
    obtain ⟨h1, h2⟩ := lay_ints cs
    refine ⟨?_, ?_⟩
    · show (PyData.canLay0 (.int c) && PyData.canLayAll0 (cs.map PyData.int)) = true
      rw [h1]
      rfl
    · show max (PyData.depth (.int c)) (PyData.depthAll (cs.map PyData.int)) = 0
      rw [h2]
      rfl
theorem shapedM (cs : List Int) : SeqAt.shaped (.list (cs.map PyData.int)) = true := by
  obtain ⟨h1, h2⟩ := lay_ints cs
  unfold SeqAt.shaped
  show (PyData.canLayAll0 (cs.map PyData.int) && decide (PyData.depthAll (cs.map PyData.int) + 1 ≤ 64)) = true
  rw [h1, h2]
  rfl
def spLFolded (K : PySem.W.Frag) : Sp := fun vs H Q _ => ∃ (a : Addr) (ns : List Int) (m : Nat), vs = [.ref a, .int (m : Int)] ∧ SqL K H a (ns.map V.int) ∧ ns.length ≤ 63 ∧ 1 ≤ m ∧ m ≤ 9 ∧ ∀ (l : Addr) (cs : List Int) (G : Hp), Same H G → H l = none → G l = some (.lst (cs.map V.int)) → cs.length ≤ m → Q (.ref l) G
def wFolded : WF := fun ps Ψ => ∃ (ns : List Int) (m : Nat), ps = [.dat (.scr ns), .dat (.int (m : Int))] ∧ ns.length ≤ 63 ∧ 1 ≤ m ∧ m ≤ 9 ∧ ∀ cs : List Int, cs.length ≤ m → Ψ (.dat (.scr cs)) ps
theorem okLFolded (T : Tx K mg) : FnOk P w K mg base CX0 1 (He.ga K "_law_folded") T.fdLFolded ["_law_script", "_law_size"] (spLFolded K) := by
  have B := T.B
  refine T.FLFolded.ok scLFolded (fun vs H Q E h => ?_) (fun cdv A outer s H vs Q E hr h => ?_)
  · obtain ⟨a, ns, m, rfl, _⟩ := h
    rfl
  · obtain ⟨a, ns, m, rfl, hS, hlen, m1, m9, q⟩ := h
    refine ⟨_, PSs.nox (pss_cons (ps_set (i := 2) scLFolded.nd rfl (.inl rfl) (pe_callTy call_list_of (by rfl) B.b_list PyProof.Rows.boot_list (pa_cons (pe_slice sl_list (pv 0) po_none (po_some (pv 1))) pa_nil)))
        (pss_cons (ps_for PassesOwn.never rfl (pi_enum (by rfl) B.b_enumerate (pa_cons (pe_slice sl_list (pv 0) (po_some (pv 1)) (po_some pe_int)) pa_nil)) (pg_tup rfl (pgs_cons (pg_name (i := 3) scLFolded.nd rfl (Or.inl rfl)) (pgs_cons (pg_name (i := 4) scLFolded.nd rfl (Or.inl rfl)) pgs_nil)))
        (pss_one (ps_asg (pe_op op_add (pe_ix ix_list (pv 2) (pe_op op_mod (pv 3) (pv 1)) (fun _ _ => rfl)) (pe_op op_mul (pv 4) (pe_op op_add (pv 3) pe_int))) (pg_sub (pv 2) (pe_op op_mod (pv 3) (pv 1)) set_list))))
        (pss_one (ps_ret (pe_ifExp (pt_cmpR (op_neD hr.units) (pv 2) (pe_lst pa_nil) (nomark _)) (pv 2) (pe_lst (pa_cons pe_int pa_nil))))))), ?_⟩
    refine ⟨_, rfl, _, rfl, (m : Int), rfl, a, _, rfl, hS, fun l0 h0 => ⟨l0, _, rfl, .inl (SqL.of upd_same), fun l hl => ?_⟩⟩
    have s0 := same_new (o := .lst (cutV (ns.map V.int) none (some (m : Int)))) h0
    have s1 := same_new (o := .lst (cutV (ns.map V.int) none (some (m : Int)))) hl
    have ec : cutV (ns.map V.int) none (some (m : Int)) = (ns.take m).map V.int := by rw [cut_hi, List.map_take]
    obtain ⟨rs, hrs, hrs3, hrs63⟩ := cut_intsM ns m
    refine ⟨_, rfl, _, rfl, (m : Int), rfl, 63, rfl, a, _, rfl, (s0.trans s1).seq hS, fun ls hls => ?_⟩
    have s2 := same_new (o := .lst (cutV (ns.map V.int) (some (m : Int)) (some 63))) hls
    have nlH : H l = none := s0.free hl
    have nls : ls ≠ l := fun z => by rw [z, upd_same] at hls; cases hls
    refine ⟨ls, rs.map V.int, rfl, SqL.of (by rw [hrs]; exact upd_same), for_it (walk_enum (xs := rs.map V.int)) (fun j σ G => Same H G ∧ SqL K G ls (rs.map V.int) ∧ ∃ (cs : List Int) (x3 x4 : Option V), G l = some (.lst (cs.map V.int)) ∧ cs.length = (ns.take m).length ∧ σ = [some (.ref a), some (.int (m : Int)), some (.ref l), x3, x4]) ⟨s0.trans (s1.trans s2), SqL.of (by rw [hrs]; exact upd_same), ns.take m, none, none, (s2 _ _ upd_same).trans (by rw [ec]), rfl, rfl⟩ (fun _ _ _ _ h => h.2.1) ?_ ?_⟩
    · rintro j x σ G G1 hj ⟨sG, hLG, cs, x3, x4, hc, hcl, rfl⟩ ⟨T1, y1, y2, rfl, hT, rfl, hy1, hy2⟩
      have e1 : V.int (j : Int) = y1 := Option.some.inj hy1
      subst e1
      obtain ⟨z, rfl⟩ : ∃ z, y2 = V.int z := by
        have hy2 : (rs.map V.int)[j]? = some y2 := hy2
        rw [List.getElem?_map] at hy2
        cases e : rs[j]? with
        | none => rw [e] at hy2; cases hy2
        | some b => rw [e] at hy2; exact ⟨b, (Option.some.inj hy2).symm⟩
      have hj2 : j < rs.length := by rw [List.length_map] at hj; exact hj
      have h3 := hrs3 (fun e => by rw [e] at hj2; cases hj2)
      have hc3 : cs.length = m := by rw [hcl, List.length_take]; omega
      have sT := same_new (o := .tup [V.int (j : Int), V.int z]) hT
      have hc2 := sT _ _ hc
      have hm0 := Int.emod_nonneg (j : Int) (b := (m : Int)) (by omega)
      have hm1 := Int.emod_lt_of_pos (j : Int) (b := (m : Int)) (by omega)
      obtain ⟨r, hr'⟩ : ∃ r : Nat, (j : Int) % (m : Int) = (r : Int) := ⟨((j : Int) % (m : Int)).toNat, (Int.toNat_of_nonneg hm0).symm⟩
      have r3 : r < cs.length := by rw [hr'] at hm1; omega
      have ej : ixN (cs.map V.int).length ((j : Int) % (m : Int)) = some r := by
        rw [hr']
        unfold ixN
        rw [if_pos (by omega), if_pos (by rw [List.length_map]; omega)]
        simp
      refine ⟨T1, _, rfl, .inl (.inl upd_same), rfl, _, _, rfl, _, _, rfl, rfl, ?_⟩
      refine ⟨_, rfl, _, rfl, _, rfl, _, _, rfl, rfl, (show (0 : Int) < (m : Int) by omega), l, _, _, .int cs[r], rfl, rfl, SqL.of hc2, at_of hr' (by rw [List.getElem?_map, List.getElem?_eq_getElem r3]; rfl), _, rfl, _, rfl, _, _, rfl, rfl, _, _, rfl, rfl, .inr ⟨?_, ?_⟩, _, _, rfl, rfl, ?_⟩
      · have : -18446744073709551616 < (j : Int) + 2 := by omega
        exact this
      · have : (j : Int) + 2 < 18446744073709551616 := by omega
        exact this
      · refine ⟨_, rfl, _, rfl, _, rfl, _, _, rfl, rfl, (show (0 : Int) < (m : Int) by omega), l, _, _, r, rfl, rfl, hc2, ej, ?_⟩
        refine ⟨fun b o e => ?_, ?_, cs.set r (cs[r] + z * ((j : Int) + 2)), _, _, ?_, by rw [List.length_set]; exact hcl, rfl⟩
        · rw [upd_ne (ne_of_none e nlH)]
          exact sT _ _ (sG _ _ e)
        · exact seqL_but But.upd (sT.seq hLG) nls
        · rw [upd_same, List.map_set]
    · rintro σ G ⟨sG, hLG, cs, x3, x4, hc, hcl, rfl⟩
      have hc3 : cs.length ≤ m := by rw [hcl, List.length_take]; omega
      refine ⟨_, rfl, Nat.zero_le _, fun e0 he0 => ?_⟩
      have s3 := same_new (o := .lst []) he0
      refine ⟨.list (cs.map PyData.int), .list [], .lst (SqL.of (s3 _ _ hc)) (dpa_ints cs), .lst (SqL.of upd_same) .nil, shapedM cs, rfl, _, rfl, ifx (fun v G2 => ∃ (l2 : Addr) (cs2 : List Int), v = .ref l2 ∧ Same H G2 ∧ H l2 = none ∧ G2 l2 = some (.lst (cs2.map V.int)) ∧ cs2.length ≤ m) (fun e C k => ?_) (fun e C k => ?_) ?_⟩
      · exact ⟨_, rfl, k _ _ ⟨l, cs, rfl, sG.trans s3, nlH, s3 _ _ hc, hc3⟩⟩
      · refine ⟨(by show 1 ≤ sizeLine; decide), fun l2 hl2 => k _ _ ⟨l2, [0], rfl, sG.trans (s3.trans (same_new hl2)), (sG.trans s3).free hl2, upd_same, by show 1 ≤ m; omega⟩⟩
      · rintro v G2 ⟨l2, cs2, rfl, s4, hl2, h4, h5⟩
        exact q l2 cs2 G2 s4 hl2 h4 h5
theorem folded_imp {vs : List V} {H : Hp} {Q : VK} {E : XK} (h : spD K 2 wFolded vs H Q E) : spLFolded K vs H Q E := by
  obtain ⟨hl, C, bx, ps, Ψ, S, ⟨ns, m, rfl, l63, m1, m9, q⟩, k⟩ := h
  match vs, hl with
  | [a, b], _ =>
    obtain ⟨v, e1, r1⟩ := S.sl 0 _ rfl
    obtain ⟨u, e2, r2⟩ := S.sl 1 _ rfl
    cases (Option.some.inj (Option.some.inj e1))
    cases (Option.some.inj (Option.some.inj e2))
    cases r2
    cases r1 with
    | @scr a _ hs =>
      refine ⟨a, ns, m, rfl, S.cold.seq hs, l63, m1, m9, fun l cs G sG h0 hG lc => ?_⟩
      have S2 := (S.alloc (o := .lst (cs.map V.int)) h0).same (G := G) fun y o e => by
        by_cases z : y = l
        · subst z
          rw [upd_same] at e
          cases e
          exact hG
        · rw [upd_ne z] at e
          exact sG _ _ e
      exact k _ G (.ref l) (.dat (.scr cs)) _ S2 (.scr (SqL.of upd_same)) (q cs lc)
theorem okFoldedD (T : Tx K mg) : FnOk P w K mg base CX0 1 (He.ga K "_law_folded") T.fdLFolded ["_law_script", "_law_size"] (spD K 2 wFolded) := (okLFolded T).imp fun vs H Q E h => folded_imp h

end
section
variable {P : Program} {w : World} {K : PySem.W.Frag} {mg : Str → Option Value} {base : Heap}
local macro_rules | `(tactic| get_elem_tactic_trivial) => `(tactic| (repeat first | exact Wk.nil | exact Wk'.nil | refine Wk.same ?_ | refine Wk'.same ?_ | refine Wk.un (fun _ z => nomatch z) ?_ | refine Wk'.un ?_))
/-! hands -/
/-- a place, a name, a body -/
structure Tr where
  p : Nat
  l : List Nat
  b : Int
def Tr.d (t : Tr) : Dt := .tup [.int (t.p : Nat), nD t.l, .int t.b]
structure Tr.ok (t : Tr) (k : Nat) : Prop where
  pk : t.p ≤ k
  g : Gd t.l
  b0 : 0 ≤ t.b
  b1 : t.b ≤ 1000000
structure Hd where
  l : List Nat
  b : Int
  ls : List Tr
  ys : List Tr
structure Hd.ok (h : Hd) : Prop where
  g : Gd h.l
  b0 : 0 ≤ h.b
  b1 : h.b ≤ 1000000
  l3 : h.ls.length ≤ 3
  y4 : h.ys.length ≤ 4
  lk : ∀ t ∈ h.ls, t.ok 7
  yk : ∀ t ∈ h.ys, t.ok h.ls.length
  up : ∀ (i : Nat) (a b : Tr), h.ys[i]? = some a → h.ys[i + 1]? = some b → a.p < b.p
abbrev HF : List Str := ["name", "body", "loads", "lies"]
def Hd.fs (h : Hd) : List Dt := [nD h.l, .int h.b, .tup (h.ls.map Tr.d), .tup (h.ys.map Tr.d)]
def Hd.d (h : Hd) : Dt := .obj "Hand" HF h.fs
theorem nice_tr {t : Tr} {k : Nat} (h : t.ok k) (hk : k ≤ 100) : Nice 1 30 t.d := by
  refine (nice_tup (n := 0) (b := 5) (ds := [.int (t.p : Nat), nD t.l, .int t.b]) fun e he => ?_).mono (Nat.le_refl _) (by show 3 * 6 ≤ 30; decide)
  simp only [List.mem_cons, List.mem_nil_iff, or_false] at he
  rcases he with rfl | rfl | rfl
  · exact (nice_small (by omega) (by have := h.pk; omega)).mono (by decide) (by decide)
  · exact (nice_nm h.g).mono (by decide) (by decide)
  · exact (nice_small (by have := h.b0; omega) (by have := h.b1; omega)).mono (by decide) (by decide)
theorem nice_trs {ts : List Tr} {k : Nat} (h : ∀ t ∈ ts, t.ok k) (hk : k ≤ 100) (l : ts.length ≤ 10) : Nice 2 310 (.tup (ts.map Tr.d)) := by
  refine (nice_tup (n := 1) (b := 30) fun d hd => ?_).mono (Nat.le_refl _) (by rw [List.length_map]; omega)
  obtain ⟨t, ht, rfl⟩ := List.mem_map.mp hd
  exact nice_tr (h t ht) hk
def sqD (k : Bool) (ds : List Dt) : Dt := if k then .tup ds else .lst ds
theorem isNm_ok {l : List Nat} (h : Gd l) : isNameD (nD l) = true := isNm_nm h
theorem numW_yes {lo hi i : Int} (h0 : lo ≤ i) (h1 : i ≤ hi) : numW lo hi (.int i) = true := by
  show (decide (lo ≤ i) && decide (i ≤ hi)) = true
  rw [decide_eq_true h0, decide_eq_true h1]
  rfl
theorem fldN (T : Tx K mg) : FldOk K "Hand" "name" := ⟨T.clHand, T.nHand_name⟩
theorem fldB (T : Tx K mg) : FldOk K "Hand" "body" := ⟨T.clHand, T.nHand_body⟩
theorem fldLo (T : Tx K mg) : FldOk K "Hand" "loads" := ⟨T.clHand, T.nHand_loads⟩
theorem fldLi (T : Tx K mg) : FldOk K "Hand" "lies" := ⟨T.clHand, T.nHand_lies⟩
theorem nice_part {n b : Nat} {ds : List Dt} (h : Nice n b (.tup ds)) : ∀ d ∈ ds, Nice n b d := by
  have pu : pures ds = true := by have := h.pu; simpa only [Dt.pure] using this
  have l1 : PyData.canLayAll0 (pys ds) = true := by have := h.lay; simpa only [Dt.py, PyData.canLay0] using this
  have l2 : PyData.showableAll (pys ds) = true := by have := h.sh; simpa only [Dt.py, PyData.showable] using this
  have l3 : PyData.leavesShortAll 1921 (pys ds) = true := by have := h.lv; simpa only [Dt.py, PyData.leavesShort] using this
  have l4 : PyData.depthAll (pys ds) ≤ n := by have := h.dp; simp only [Dt.py, PyData.depth] at this; omega
  have l5 : PyData.bulkAll (pys ds) ≤ b := by have := h.bk; simpa only [Dt.py, PyData.bulk] using this
  clear h
  induction ds with
  | nil => exact fun d hd => nomatch hd
  | cons e ds ih =>
    simp only [pures, Bool.and_eq_true] at pu
    simp only [pys, PyData.canLayAll0, Bool.and_eq_true] at l1
    simp only [pys, PyData.showableAll, Bool.and_eq_true] at l2
    simp only [pys, PyData.leavesShortAll, Bool.and_eq_true] at l3
    simp only [pys, PyData.depthAll] at l4
    simp only [pys, PyData.bulkAll] at l5
    intro d hd
    rcases List.mem_cons.mp hd with rfl | hd
    · exact ⟨pu.1, l1.1, l2.1, l3.1, by omega, by omega⟩
    · exact ih pu.2 l1.2 l2.2 l3.2 (by omega) (by omega) d hd
theorem nice_partL {n b : Nat} {ds : List Dt} (h : Nice n b (.lst ds)) : ∀ d ∈ ds, Nice n b d := by
  refine nice_part ⟨?_, ?_, ?_, ?_, ?_, ?_⟩
  · have := h.pu; simpa only [Dt.pure] using this
  · have := h.lay; simpa only [Dt.py, PyData.canLay0] using this
  · have := h.sh; simpa only [Dt.py, PyData.showable] using this
  · have := h.lv; simpa only [Dt.py, PyData.leavesShort] using this
  · have := h.dp; simpa only [Dt.py, PyData.depth] using this
  · have := h.bk; simpa only [Dt.py, PyData.bulk] using this
/-! hands of anything: what is placed, loads, lies -/
def placedD (top : Int) : Dt → Bool
  | .tup [n, nm, b] => numW 0 top n && (isNameD nm && numW 0 1000000 b)
  | _ => false
theorem placed_not {top : Int} {ds : List Dt} (h : ds.length ≠ 3) : placedD top (.tup ds) = false := by
  match ds, h with
  | [], _ => rfl
  | [_], _ => rfl
  | [_, _], _ => rfl
  | [_, _, _], h => exact absurd rfl h
  | _ :: _ :: _ :: _ :: _, _ => rfl
def placeI : Dt → Int
  | .tup (.int i :: _) => i
  | _ => 0
theorem placed_yes {top : Int} {d : Dt} (h : placedD top d = true) : ∃ (i : Int) (nm b : Dt), d = .tup [.int i, nm, b] ∧ 0 ≤ i ∧ i ≤ top ∧ isNameD nm = true ∧ numW 0 1000000 b = true := by
  cases d with
  | tup ds =>
    by_cases h3 : ds.length = 3
    · match ds, h3 with
      | [n, nm, b], _ =>
        have h : (numW 0 top n && (isNameD nm && numW 0 1000000 b)) = true := h
        simp only [Bool.and_eq_true] at h
        obtain ⟨h1, h2, h4⟩ := h
        cases n with
        | int i =>
          have h1 : (decide (0 ≤ i) && decide (i ≤ top)) = true := h1
          simp only [Bool.and_eq_true, decide_eq_true_eq] at h1
          exact ⟨i, nm, b, rfl, h1.1, h1.2, h2, h4⟩
        | _ => exact Bool.noConfusion (show false = true from h1)
    · rw [placed_not h3] at h
      cases h
  | _ => exact Bool.noConfusion (show false = true from h)
def risI (P : List Int) : Bool := (List.zipWith (fun a b => decide (a < b)) P (P.drop 1)).all id
theorem risI_pair : ∀ P : List Int, risI P = true ↔ P.Pairwise (· < ·)
  | [] => ⟨fun _ => .nil, fun _ => rfl⟩
  | [a] => ⟨fun _ => .cons (fun b h => nomatch h) .nil, fun _ => rfl⟩
  | a :: b :: P => by
    have ih := risI_pair (b :: P)
    have e : risI (a :: b :: P) = (decide (a < b) && risI (b :: P)) := rfl
    rw [e, Bool.and_eq_true, decide_eq_true_eq, ih]
    constructor
    · rintro ⟨h1, h2⟩
      refine .cons (fun c hc => ?_) h2
      rcases List.mem_cons.mp hc with rfl | hc
      · exact h1
      · exact Int.lt_trans h1 (List.rel_of_pairwise_cons h2 hc)
    · intro h
      cases h with
      | cons h1 h2 => exact ⟨h1 b (List.mem_cons_self ..), h2⟩
def sqL : Dt → Option (List Dt)
  | .lst ds => some ds
  | .tup ds => some ds
  | _ => none
def loadsD (d : Dt) : Bool := match sqL d with
  | some ds => decide (ds.length ≤ 3) && ds.all (placedD 7)
  | none => false
def liesD (d : Dt) (n : Nat) : Bool := match sqL d with
  | some ds => ds.all (placedD (n : Nat)) && risI (ds.map placeI)
  | none => false
theorem nice_partS {n b : Nat} : ∀ {d : Dt} {ds : List Dt}, sqL d = some ds → Nice n b d → ∀ e ∈ ds, Nice n b e
  | .lst ds, _, e, h => by cases e; exact nice_partL h
  | .tup ds, _, e, h => by cases e; exact nice_part h
theorem nice_lenS {n b : Nat} : ∀ {d : Dt} {ds : List Dt}, sqL d = some ds → Nice n b d → ds.length ≤ b
  | .lst ds, _, e, h => by
    cases e
    have h1 := h.bk
    have h2 := len_bulkS ds
    simp only [Dt.py, PyData.bulk] at h1
    omega
  | .tup ds, _, e, h => by
    cases e
    have h1 := h.bk
    have h2 := len_bulkS ds
    simp only [Dt.py, PyData.bulk] at h1
    omega
theorem bls_mapD {α : Type} (f : α → Bool) : ∀ xs : List α, bls (xs.map fun x => Dt.bl (f x)) = some (xs.map f)
  | [] => rfl
  | x :: xs => by
    show (match bls (xs.map fun x => Dt.bl (f x)) with | some bs => some (f x :: bs) | none => none) = _
    rw [bls_mapD f xs]
    rfl
theorem all_mapI {α : Type} (f : α → Bool) (xs : List α) : (xs.map f).all id = xs.all f := by
  rw [List.all_map]
  rfl
def wPlacedX : WF := fun ps Ψ => ∃ (d : Dt) (k : Int), ps = [.dat d, .dat (.int k)] ∧ Nice 60 8000 d ∧ Ψ (.dat (.bl (placedD k d))) ps
theorem okIsPlacedBody (T : Tx K mg) : FnOk P w K mg base CX0 3 (He.ga K "is_placed_body") T.fdIsPlacedBody ["thing", "greatest"] (spD K 2 wPlacedX) := by
  have B := T.B
  have GIsWithin : FnOk P w K mg base CX0 2 (He.ga K "is_within") T.fdIsWithin ["thing", "least", "greatest"] (spD K 3 wWithin) := okIsWithin T
  have bIsWithin := T.bIsWithin
  have GIsName : FnOk P w K mg base CX0 1 (He.ga K "is_name") T.fdIsName ["thing"] (spD K 1 (wB isNameD)) := okIsName T
  have bIsName := T.bIsName
  refine T.FIsPlacedBody.ok scIsPlacedBody (fun vs H Q E h => h.1) (fun cdv A outer s H vs Q E hr h => ?_)
  refine ⟨_, PSs.nox (pss_cons (ps_if (PW.pt (pw_or (pt_not (pt_val (pe_callB (show CallR _ _ (rIsi K) from call_isi) (by rfl) B.b_isinstance boot_isinstance (pa_cons (pv 0) (pa_cons (pe_bltn (v := .ty "tuple") (by rfl) B.b_tuple PyProof.Rows.boot_tuple rfl) pa_nil))))) (pw_or1 (pt_cmpR (opNeA (K := K) rfl hr.units) (pe_callB (show CallR _ _ (rLen K) from call_len) (by rfl) B.b_len PySem.boot_len (pa_cons (pv 0) pa_nil)) pe_int (nomark _))))) (pss_one (ps_ret pe_bl)) pss_nil)
        (pss_cons (ps_asg (pv 0) (show PG _ _ (gTup K 3 _) from pg_tup rfl (pgs_cons (pg_name (i := 2) scIsPlacedBody.nd rfl (Or.inl rfl)) (pgs_cons (pg_name (i := 3) scIsPlacedBody.nd rfl (Or.inl rfl)) (pgs_cons (pg_name (i := 4) scIsPlacedBody.nd rfl (Or.inl rfl)) pgs_nil)))))
        (pss_one (ps_ret (pe_and (pe_call GIsWithin (hr.mono (by decide)) (by rfl) T.gIsWithin T.FIsWithin.kp bIsWithin .nil pass0 (pa_cons (pv 2) (pa_cons pe_int (pa_cons (pv 1) pa_nil)))) (pe_and (pe_call GIsName (hr.mono (by decide)) (by rfl) T.gIsName T.FIsName.kp bIsName .nil pass0 (pa_cons (pv 3) pa_nil)) (pe_one (pe_call GIsWithin (hr.mono (by decide)) (by rfl) T.gIsWithin T.FIsWithin.kp bIsWithin .nil pass0 (pa_cons (pv 4) (pa_cons pe_int (pa_cons (pe_glob (v := .int 1000000) (by rfl) T.c_GREATEST_BODY.choose_spec ⟨_, rfl⟩) pa_nil))))))))))), ?_⟩
  refine bodyD h (fun ps Ψ hw hl => ?_)
  obtain ⟨d, k, rfl, hn, q⟩ := hw
  cases d with
  | tup ds =>
    by_cases h3 : ds.length = 3
    · match ds, h3 with
      | [n, nm, b], _ =>
        have np := nice_part hn
        have q : Ψ (.dat (.bl (numW 0 k n && (isNameD nm && numW 0 1000000 b)))) [.dat (.tup [n, nm, b]), .dat (.int k)] := q
        refine ⟨rfl, rfl, n, 0, k, rfl, np n (by simp), ?_⟩
        cases e1 : numW 0 k n with
        | false => rw [e1] at q; exact q
        | true =>
          rw [e1] at q
          refine ⟨rfl, nm, rfl, np nm (by simp), ?_⟩
          cases e2 : isNameD nm with
          | false => rw [e2] at q; exact q
          | true =>
            rw [e2] at q
            exact ⟨rfl, b, 0, 1000000, rfl, np b (by simp), q⟩
    · have q : Ψ (.dat (.bl (placedD k (.tup ds)))) [.dat (.tup ds), .dat (.int k)] := q
      rw [placed_not h3] at q
      exact ifT (neDiff (fun z => h3 (by have : ((ds.length : Nat) : Int) = 3 := z; omega))) q
  | obj c ns ds => exact nomatch hn.pu
  | err c d => exact nomatch hn.pu
  | adr a_ => exact nomatch hn.pu
  | dic _ _ => exact nomatch hn.pu
  | scr _ => exact nomatch hn.pu
  | _ => exact q
def wLoadsX : WF := fun ps Ψ => ∃ d : Dt, ps = [.dat d] ∧ Nice 60 8000 d ∧ Ψ (.dat (.bl (loadsD d))) ps
theorem okAreLoads (T : Tx K mg) : FnOk P w K mg base CX0 4 (He.ga K "are_loads") T.fdAreLoads ["thing"] (spD K 1 wLoadsX) := by
  have B := T.B
  have GIsPlacedBody : FnOk P w K mg base CX0 3 (He.ga K "is_placed_body") T.fdIsPlacedBody ["thing", "greatest"] (spD K 2 wPlacedX) := okIsPlacedBody T
  have bIsPlacedBody := T.bIsPlacedBody
  refine T.FAreLoads.ok scAreLoads (fun vs H Q E h => h.1) (fun cdv A outer s H vs Q E hr h => ?_)
  refine ⟨_, PSs.nox (pss_cons (ps_if (PW.pt (pw_or (pt_not (pt_val (pe_callB (show CallR _ _ (rIsiT K) from call_isiT) (by rfl) B.b_isinstance boot_isinstance (pa_cons (pv 0) (pa_cons (pe_tup (pa_cons (pe_bltn (v := .ty "list") (by rfl) B.b_list PyProof.Rows.boot_list rfl) (pa_cons (pe_bltn (v := .ty "tuple") (by rfl) B.b_tuple PyProof.Rows.boot_tuple rfl) pa_nil))) pa_nil))))) (pw_or1 (pt_cmpR op_gt (pe_callB (show CallR _ _ (rLen K) from call_len) (by rfl) B.b_len PySem.boot_len (pa_cons (pv 0) pa_nil)) (pe_glob (v := .int 3) (by rfl) T.c_MOST_LOADS.choose_spec ⟨_, rfl⟩) (nomark _))))) (pss_one (ps_ret pe_bl)) pss_nil)
        (pss_one (ps_ret (pe_callB (show CallR _ _ (rAll K) from cr_all rfl) (by rfl) B.b_all boot_all (pa_cons (pe_lc (own := [("load", 1)]) (g := gName 1) (tt := tYes) (by rfl) scAreLoads.nd (piAny (K := K) rfl (pv 0)) (blkOk_by (own := [("load", 1)]) (N := ["thing", "load"]) (sc := defScope sAreLoads) (by decide +kernel)) (fun _ _ _ _ _ => by exact (pg_name (i := 1) scAreLoads.nd rfl (Or.inl rfl))) (fun _ _ _ _ _ => pts_nil) (fun _ _ _ _ _ => (pe_call GIsPlacedBody (hr.mono (by decide)) (by rfl) T.gIsPlacedBody T.FIsPlacedBody.kp bIsPlacedBody .nil pass0 (pa_cons (pv 1) (pa_cons (pe_op op_sub (pe_glob (v := .int 8) (by rfl) T.c_MOST_BOARDS.choose_spec ⟨_, rfl⟩) pe_int) pa_nil))))) pa_nil))))), ?_⟩
  refine bodyD h (fun ps Ψ hw hl => ?_)
  obtain ⟨d, rfl, hn, q⟩ := hw
  have sz : sizeLine = 16777216 := by decide
  cases d with
  | lst ds =>
    have np := nice_partS rfl hn
    have ln := nice_lenS rfl hn
    have q : Ψ (.dat (.bl (decide (ds.length ≤ 3) && ds.all (placedD 7)))) [.dat (.lst ds)] := q
    by_cases h3 : ds.length ≤ 3
    · rw [decide_eq_true h3] at q
      refine ifF (decide_eq_false (by omega)) ?_
      refine ⟨⟨rfl, rfl⟩, fun j acc ρ => acc = (ds.take j).map (fun d => .bl (placedD 7 d)) ∧ ρ = [.dat (.lst ds), .un], ⟨rfl, rfl⟩, ?_, ?_⟩
      · rintro j acc ρ d hd ⟨rfl, rfl⟩
        refine ⟨rfl, d, 7, rfl, np d (List.mem_of_getElem? hd), rfl, by rw [List.length_map, List.length_take]; omega, ?_, rfl⟩
        rw [List.take_add_one, hd, List.map_append]
        rfl
      · rintro acc ρ ⟨rfl, rfl⟩
        rw [List.take_length]
        refine ⟨rfl, _, bls_mapD _ _, ?_⟩
        rw [all_mapI]
        exact q
    · rw [decide_eq_false h3] at q
      exact ifT (decide_eq_true (by omega)) q
  | tup ds =>
    have np := nice_partS rfl hn
    have ln := nice_lenS rfl hn
    have q : Ψ (.dat (.bl (decide (ds.length ≤ 3) && ds.all (placedD 7)))) [.dat (.tup ds)] := q
    by_cases h3 : ds.length ≤ 3
    · rw [decide_eq_true h3] at q
      refine ifF (decide_eq_false (by omega)) ?_
      refine ⟨⟨rfl, rfl⟩, fun j acc ρ => acc = (ds.take j).map (fun d => .bl (placedD 7 d)) ∧ ρ = [.dat (.tup ds), .un], ⟨rfl, rfl⟩, ?_, ?_⟩
      · rintro j acc ρ d hd ⟨rfl, rfl⟩
        refine ⟨rfl, d, 7, rfl, np d (List.mem_of_getElem? hd), rfl, by rw [List.length_map, List.length_take]; omega, ?_, rfl⟩
        rw [List.take_add_one, hd, List.map_append]
        rfl
      · rintro acc ρ ⟨rfl, rfl⟩
        rw [List.take_length]
        refine ⟨rfl, _, bls_mapD _ _, ?_⟩
        rw [all_mapI]
        exact q
    · rw [decide_eq_false h3] at q
      exact ifT (decide_eq_true (by omega)) q
  | obj c ns ds => exact nomatch hn.pu
  | err c d => exact nomatch hn.pu
  | adr a_ => exact nomatch hn.pu
  | dic _ _ => exact nomatch hn.pu
  | scr _ => exact nomatch hn.pu
  | _ => exact q
end
section
variable {P : Program} {w : World} {K : PySem.W.Frag} {mg : Str → Option Value} {base : Heap}
local macro_rules | `(tactic| get_elem_tactic_trivial) => `(tactic| (repeat first | exact Wk.nil | exact Wk'.nil | refine Wk.same ?_ | refine Wk'.same ?_ | refine Wk.un (fun _ z => nomatch z) ?_ | refine Wk'.un ?_))
/-! lies -/
theorem zip_ris {ds : List Dt} {j : Nat} {x y : Dt} (hx : ds[j]? = some x) (hy : (ds.drop 1)[j]? = some y) : (List.zipWith (fun a b => decide (a < b)) (ds.map placeI) ((ds.map placeI).drop 1)).take (j + 1) = (List.zipWith (fun a b => decide (a < b)) (ds.map placeI) ((ds.map placeI).drop 1)).take j ++ [decide (placeI x < placeI y)] := by
  rw [List.take_add_one, List.getElem?_zipWith, ← List.map_drop, List.getElem?_map, List.getElem?_map, hx, hy]
  rfl
theorem zip_len {ds : List Dt} {k : Nat} (h : ds.length ≤ k) : (List.zipWith (fun a b => decide (a < b)) (ds.map placeI) ((ds.map placeI).drop 1)).length ≤ k := by
  rw [List.length_zipWith, List.length_map]
  omega
namespace Ll
def wLiesX : WF := fun ps Ψ => ∃ (m : Bool) (ls : List Dt) (d : Dt), ps = [.dat d, .dat (sqD m ls)] ∧ Nice 60 8000 d ∧ (∀ ds, d ≠ .tup ds) ∧ ls.length ≤ 1000 ∧ Ψ (.dat (.bl (liesD d ls.length))) ps
theorem okAreLies (T : Tx K mg) : FnOk P w K mg base CX0 4 (He.ga K "are_lies") T.fdAreLies ["thing", "loads"] (spD K 2 wLiesX) := by
  have B := T.B
  have GIsPlacedBody : FnOk P w K mg base CX0 3 (He.ga K "is_placed_body") T.fdIsPlacedBody ["thing", "greatest"] (spD K 2 wPlacedX) := okIsPlacedBody T
  have bIsPlacedBody := T.bIsPlacedBody
  refine T.FAreLies.ok scAreLies (fun vs H Q E h => h.1) (fun cdv A outer s H vs Q E hr h => ?_)
  refine ⟨_, PSs.nox (pss_cons (ps_if (pt_not (pt_val (pe_callB (show CallR _ _ (rIsiT K) from call_isiT) (by rfl) B.b_isinstance boot_isinstance (pa_cons (pv 0) (pa_cons (pe_tup (pa_cons (pe_bltn (v := .ty "list") (by rfl) B.b_list PyProof.Rows.boot_list rfl) (pa_cons (pe_bltn (v := .ty "tuple") (by rfl) B.b_tuple PyProof.Rows.boot_tuple rfl) pa_nil))) pa_nil))))) (pss_one (ps_ret pe_bl)) pss_nil)
        (pss_cons (ps_if (pt_not (pt_val (pe_callB (show CallR _ _ (rAll K) from cr_all rfl) (by rfl) B.b_all boot_all (pa_cons (pe_lc (own := [("lie", 2)]) (g := gName 2) (tt := tYes) (by rfl) scAreLies.nd (piAny (K := K) rfl (pv 0)) (blkOk_by (own := [("lie", 2)]) (N := ["thing", "loads", "lie", "after"]) (sc := defScope sAreLies) (by decide +kernel)) (fun _ _ _ _ _ => by exact (pg_name (i := 2) scAreLies.nd rfl (Or.inl rfl))) (fun _ _ _ _ _ => pts_nil) (fun _ _ _ _ _ => (pe_call GIsPlacedBody (hr.mono (by decide)) (by rfl) T.gIsPlacedBody T.FIsPlacedBody.kp bIsPlacedBody .nil pass0 (pa_cons (pv 2) (pa_cons (pe_callB (show CallR _ _ (rLen K) from call_len) (by rfl) B.b_len PySem.boot_len (pa_cons (pv 1) pa_nil)) pa_nil))))) pa_nil)))) (pss_one (ps_ret pe_bl)) pss_nil)
        (pss_one (ps_ret (pe_callB (show CallR _ _ (rAll K) from cr_all rfl) (by rfl) B.b_all boot_all (pa_cons (pe_lc (own := [("lie", 2), ("after", 3)]) (g := gTup K 2 (gCons (gName 2) (gCons (gName 3) gNil))) (tt := tYes) (by rfl) scAreLies.nd (show PI _ _ _ (iZipB K _) from (RZ.pi_zipA (by rfl) B.b_zip (pa_cons (pv 0) (pa_cons (pe_slice (show SlR _ (rSlL K) from sl_list) (pv 0) (po_some pe_int) po_none) pa_nil)))) (blkOk_by (own := [("lie", 2), ("after", 3)]) (N := ["thing", "loads", "lie", "after"]) (sc := defScope sAreLies) (by decide +kernel)) (fun _ _ _ _ _ => by exact (show PG _ _ (gTup K 2 _) from pg_tup rfl (pgs_cons (pg_name (i := 2) scAreLies.nd rfl (Or.inl rfl)) (pgs_cons (pg_name (i := 3) scAreLies.nd rfl (Or.inl rfl)) pgs_nil)))) (fun _ _ _ _ _ => pts_nil) (fun _ _ _ _ _ => (pe_cmpR op_lt (pe_ix (show IxR _ (rIx K) from ix_seq) (pv 2) pe_int (fun _ _ => rfl)) (pe_ix (show IxR _ (rIx K) from ix_seq) (pv 3) pe_int (fun _ _ => rfl)) (nomark _)))) pa_nil)))))), ?_⟩
  refine bodyD h (fun ps Ψ hw hl => ?_)
  obtain ⟨m, ls, d, rfl, hn, ho, ll, q⟩ := hw
  have sz : sizeLine = 16777216 := by decide
  cases d with
  | lst ds =>
    have np := nice_partS rfl hn
    have ln := nice_lenS rfl hn
    have q : Ψ (.dat (.bl (ds.all (placedD (ls.length : Nat)) && risI (ds.map placeI)))) [.dat (.lst ds), .dat (sqD m ls)] := q
    have cD : cutD ds (some 1) none = ds.drop 1 := cut_drop (by decide)
    cases m
    all_goals
      refine ⟨⟨rfl, rfl⟩, fun j acc ρ => acc = (ds.take j).map (fun d => .bl (placedD (ls.length : Nat) d)) ∧ ρ = [.dat (.lst ds), .dat (sqD _ ls), .un, .un], ⟨rfl, rfl⟩, ?_, ?_⟩
      · rintro j acc ρ d hd ⟨rfl, rfl⟩
        refine ⟨rfl, d, _, rfl, np d (List.mem_of_getElem? hd), rfl, by rw [List.length_map, List.length_take]; omega, ?_, rfl⟩
        rw [List.take_add_one, hd, List.map_append]
        rfl
      rintro acc ρ ⟨rfl, rfl⟩
      rw [List.take_length]
      refine ⟨rfl, _, bls_mapD _ _, ?_⟩
      rw [all_mapI]
      cases ea : ds.all (placedD (ls.length : Nat)) with
      | false =>
        rw [ea] at q
        exact q
      | true =>
        rw [ea] at q
        have pl := List.all_eq_true.mp ea
        refine ⟨⟨rfl, rfl⟩, fun j acc ρ => acc = ((List.zipWith (fun a b => decide (a < b)) (ds.map placeI) ((ds.map placeI).drop 1)).take j).map .bl ∧ ρ = [.dat (.lst ds), .dat (sqD _ ls), .un, .un], ⟨rfl, rfl⟩, ?_, ?_⟩
        · rintro j acc ρ d hd ⟨rfl, rfl⟩
          obtain ⟨x, y, hx, hy, rfl⟩ := zipD_at hd
          rw [cD] at hy
          obtain ⟨i1, n1, b1, rfl, -, -, -, -⟩ := placed_yes (pl x (List.mem_of_getElem? hx))
          obtain ⟨i2, n2, b2, rfl, -, -, -, -⟩ := placed_yes (pl y (List.mem_of_mem_drop (List.mem_of_getElem? hy)))
          have zl := zip_len ln
          refine ⟨rfl, _, rfl, _, rfl, rfl, by rw [List.length_map, List.length_take]; omega, ?_, rfl⟩
          rw [zip_ris hx hy, List.map_append]
          rfl
        · rintro acc ρ ⟨rfl, rfl⟩
          rw [List.take_of_length_le (by rw [zipD_len, cD, List.length_zipWith, List.length_map, List.length_drop, List.length_drop, List.length_map]; exact Nat.le_refl _)]
          refine ⟨rfl, _, bls_map _, ?_⟩
          exact q
  | tup ds => exact absurd rfl (ho ds)
  | obj c ns ds => exact nomatch hn.pu
  | err c d => exact nomatch hn.pu
  | adr a_ => exact nomatch hn.pu
  | dic _ _ => exact nomatch hn.pu
  | scr _ => exact nomatch hn.pu
  | _ =>
    cases m
    all_goals exact q
end Ll
namespace Lt
def wLiesX : WF := fun ps Ψ => ∃ (m : Bool) (ls : List Dt) (d : Dt), ps = [.dat d, .dat (sqD m ls)] ∧ Nice 60 8000 d ∧ (∀ ds, d ≠ .lst ds) ∧ ls.length ≤ 1000 ∧ Ψ (.dat (.bl (liesD d ls.length))) ps
theorem okAreLies (T : Tx K mg) : FnOk P w K mg base CX0 4 (He.ga K "are_lies") T.fdAreLies ["thing", "loads"] (spD K 2 wLiesX) := by
  have B := T.B
  have GIsPlacedBody : FnOk P w K mg base CX0 3 (He.ga K "is_placed_body") T.fdIsPlacedBody ["thing", "greatest"] (spD K 2 wPlacedX) := okIsPlacedBody T
  have bIsPlacedBody := T.bIsPlacedBody
  refine T.FAreLies.ok scAreLies (fun vs H Q E h => h.1) (fun cdv A outer s H vs Q E hr h => ?_)
  refine ⟨_, PSs.nox (pss_cons (ps_if (pt_not (pt_val (pe_callB (show CallR _ _ (rIsiT K) from call_isiT) (by rfl) B.b_isinstance boot_isinstance (pa_cons (pv 0) (pa_cons (pe_tup (pa_cons (pe_bltn (v := .ty "list") (by rfl) B.b_list PyProof.Rows.boot_list rfl) (pa_cons (pe_bltn (v := .ty "tuple") (by rfl) B.b_tuple PyProof.Rows.boot_tuple rfl) pa_nil))) pa_nil))))) (pss_one (ps_ret pe_bl)) pss_nil)
        (pss_cons (ps_if (pt_not (pt_val (pe_callB (show CallR _ _ (rAll K) from cr_all rfl) (by rfl) B.b_all boot_all (pa_cons (pe_lc (own := [("lie", 2)]) (g := gName 2) (tt := tYes) (by rfl) scAreLies.nd (piAny (K := K) rfl (pv 0)) (blkOk_by (own := [("lie", 2)]) (N := ["thing", "loads", "lie", "after"]) (sc := defScope sAreLies) (by decide +kernel)) (fun _ _ _ _ _ => by exact (pg_name (i := 2) scAreLies.nd rfl (Or.inl rfl))) (fun _ _ _ _ _ => pts_nil) (fun _ _ _ _ _ => (pe_call GIsPlacedBody (hr.mono (by decide)) (by rfl) T.gIsPlacedBody T.FIsPlacedBody.kp bIsPlacedBody .nil pass0 (pa_cons (pv 2) (pa_cons (pe_callB (show CallR _ _ (rLen K) from call_len) (by rfl) B.b_len PySem.boot_len (pa_cons (pv 1) pa_nil)) pa_nil))))) pa_nil)))) (pss_one (ps_ret pe_bl)) pss_nil)
        (pss_one (ps_ret (pe_callB (show CallR _ _ (rAll K) from cr_all rfl) (by rfl) B.b_all boot_all (pa_cons (pe_lc (own := [("lie", 2), ("after", 3)]) (g := gTup K 2 (gCons (gName 2) (gCons (gName 3) gNil))) (tt := tYes) (by rfl) scAreLies.nd (show PI _ _ _ (iZipB K _) from (RZ.pi_zipA (by rfl) B.b_zip (pa_cons (pv 0) (pa_cons (pe_slice (show SlR _ (rSlA K) from sl_tupA) (pv 0) (po_some pe_int) po_none) pa_nil)))) (blkOk_by (own := [("lie", 2), ("after", 3)]) (N := ["thing", "loads", "lie", "after"]) (sc := defScope sAreLies) (by decide +kernel)) (fun _ _ _ _ _ => by exact (show PG _ _ (gTup K 2 _) from pg_tup rfl (pgs_cons (pg_name (i := 2) scAreLies.nd rfl (Or.inl rfl)) (pgs_cons (pg_name (i := 3) scAreLies.nd rfl (Or.inl rfl)) pgs_nil)))) (fun _ _ _ _ _ => pts_nil) (fun _ _ _ _ _ => (pe_cmpR op_lt (pe_ix (show IxR _ (rIx K) from ix_seq) (pv 2) pe_int (fun _ _ => rfl)) (pe_ix (show IxR _ (rIx K) from ix_seq) (pv 3) pe_int (fun _ _ => rfl)) (nomark _)))) pa_nil)))))), ?_⟩
  refine bodyD h (fun ps Ψ hw hl => ?_)
  obtain ⟨m, ls, d, rfl, hn, ho, ll, q⟩ := hw
  have sz : sizeLine = 16777216 := by decide
  cases d with
  | tup ds =>
    have np := nice_partS rfl hn
    have ln := nice_lenS rfl hn
    have q : Ψ (.dat (.bl (ds.all (placedD (ls.length : Nat)) && risI (ds.map placeI)))) [.dat (.tup ds), .dat (sqD m ls)] := q
    have cD : cutD ds (some 1) none = ds.drop 1 := cut_drop (by decide)
    cases m
    all_goals
      refine ⟨⟨rfl, rfl⟩, fun j acc ρ => acc = (ds.take j).map (fun d => .bl (placedD (ls.length : Nat) d)) ∧ ρ = [.dat (.tup ds), .dat (sqD _ ls), .un, .un], ⟨rfl, rfl⟩, ?_, ?_⟩
      · rintro j acc ρ d hd ⟨rfl, rfl⟩
        refine ⟨rfl, d, _, rfl, np d (List.mem_of_getElem? hd), rfl, by rw [List.length_map, List.length_take]; omega, ?_, rfl⟩
        rw [List.take_add_one, hd, List.map_append]
        rfl
      rintro acc ρ ⟨rfl, rfl⟩
      rw [List.take_length]
      refine ⟨rfl, _, bls_mapD _ _, ?_⟩
      rw [all_mapI]
      cases ea : ds.all (placedD (ls.length : Nat)) with
      | false =>
        rw [ea] at q
        exact q
      | true =>
        rw [ea] at q
        have pl := List.all_eq_true.mp ea
        refine ⟨⟨rfl, rfl⟩, fun j acc ρ => acc = ((List.zipWith (fun a b => decide (a < b)) (ds.map placeI) ((ds.map placeI).drop 1)).take j).map .bl ∧ ρ = [.dat (.tup ds), .dat (sqD _ ls), .un, .un], ⟨rfl, rfl⟩, ?_, ?_⟩
        · rintro j acc ρ d hd ⟨rfl, rfl⟩
          obtain ⟨x, y, hx, hy, rfl⟩ := zipD_at hd
          rw [cD] at hy
          obtain ⟨i1, n1, b1, rfl, -, -, -, -⟩ := placed_yes (pl x (List.mem_of_getElem? hx))
          obtain ⟨i2, n2, b2, rfl, -, -, -, -⟩ := placed_yes (pl y (List.mem_of_mem_drop (List.mem_of_getElem? hy)))
          have zl := zip_len ln
          refine ⟨rfl, _, rfl, _, rfl, rfl, by rw [List.length_map, List.length_take]; omega, ?_, rfl⟩
          rw [zip_ris hx hy, List.map_append]
          rfl
        · rintro acc ρ ⟨rfl, rfl⟩
          rw [List.take_of_length_le (by rw [zipD_len, cD, List.length_zipWith, List.length_map, List.length_drop, List.length_drop, List.length_map]; exact Nat.le_refl _)]
          refine ⟨rfl, _, bls_map _, ?_⟩
          exact q
  | lst ds => exact absurd rfl (ho ds)
  | obj c ns ds => exact nomatch hn.pu
  | err c d => exact nomatch hn.pu
  | adr a_ => exact nomatch hn.pu
  | dic _ _ => exact nomatch hn.pu
  | scr _ => exact nomatch hn.pu
  | _ =>
    cases m
    all_goals exact q
end Lt
def wLiesX : WF := fun ps Ψ => ∃ (m : Bool) (ls : List Dt) (d : Dt), ps = [.dat d, .dat (sqD m ls)] ∧ Nice 60 8000 d ∧ ls.length ≤ 1000 ∧ Ψ (.dat (.bl (liesD d ls.length))) ps
def wLiesU : WF := fun ps Ψ => Ll.wLiesX ps Ψ ∨ Lt.wLiesX ps Ψ
theorem okLiesU (T : Tx K mg) : FnOk P w K mg base CX0 4 (He.ga K "are_lies") T.fdAreLies ["thing", "loads"] (spD K 2 wLiesU) := FnOk.orD (Ll.okAreLies T) (Lt.okAreLies T)
theorem lies_u {ps : List Sl} {Ψ : Ro → List Sl → Prop} (h : wLiesX ps Ψ) : wLiesU ps Ψ := by
  obtain ⟨m, ls, d, e, hn, ll, q⟩ := h
  by_cases z : ∀ ds, d ≠ .tup ds
  · exact .inl ⟨m, ls, d, e, hn, z, ll, q⟩
  · refine .inr ⟨m, ls, d, e, hn, fun ds y => z fun es x => ?_, ll, q⟩
    rw [x] at y
    cases y

end
section
variable {P : Program} {w : World} {K : PySem.W.Frag} {mg : Str → Option Value} {base : Heap}
local macro_rules | `(tactic| get_elem_tactic_trivial) => `(tactic| (repeat first | exact Wk.nil | exact Wk'.nil | refine Wk.same ?_ | refine Wk'.same ?_ | refine Wk.un (fun _ z => nomatch z) ?_ | refine Wk'.un ?_))
/-! two promises of one def at level 3 -/
theorem FnOk.or3 {k : Nat} {CX : CXT} {f : Addr} {fd : FuncData} {ps : List Str} {n : Nat} {wf wf' : W3F} (F : FnOk P w K mg base CX k f fd ps (sp3 K n wf)) (F' : FnOk P w K mg base CX k f fd ps (sp3 K n wf')) : FnOk P w K mg base CX k f fd ps (sp3 K n (fun ps μ Ψ Ξ => wf ps μ Ψ Ξ ∨ wf' ps μ Ψ Ξ)) := by
  have cut : ∀ {vs : List V} {H : Hp} {Q : VK} {E : XK}, sp3 K n (fun ps μ Ψ Ξ => wf ps μ Ψ Ξ ∨ wf' ps μ Ψ Ξ) vs H Q E → sp3 K n wf vs H Q E ∨ sp3 K n wf' vs H Q E := by
    rintro vs H Q E ⟨hl, C, U, bx, ps, μ, m, Ψ, Ξ, S, e, M, hU, hf, k, kx⟩
    rcases hf with hf | hf
    · exact .inl ⟨hl, C, U, bx, ps, μ, m, Ψ, Ξ, S, e, M, hU, hf, k, kx⟩
    · exact .inr ⟨hl, C, U, bx, ps, μ, m, Ψ, Ξ, S, e, M, hU, hf, k, kx⟩
  exact ⟨fun vs H Q E h => (cut h).elim (F.len vs H Q E) (F'.len vs H Q E), fun A outer s H args us vs Q E hr h0 b r h => (cut h).elim (F.run A outer s H args us vs Q E hr h0 b r) (F'.run A outer s H args us vs Q E hr h0 b r)⟩

end
section
variable {P : Program} {w : World} {K : PySem.W.Frag} {mg : Str → Option Value} {base : Heap}
local macro_rules | `(tactic| get_elem_tactic_trivial) => `(tactic| (repeat first | exact Wk.nil | exact Wk'.nil | refine Wk.same ?_ | refine Wk'.same ?_ | refine Wk.un (fun _ z => nomatch z) ?_ | refine Wk'.un ?_))
/-! a raising def where it does not raise -/
def wfN3 (wf : W3F) : W3F := fun ps μ Ψ _ => wf ps μ Ψ noX3
theorem sp3_calm {n : Nat} {wf : W3F} {vs : List V} {H : Hp} {Q : VK} {E E2 : XK} (h : sp3 K n (wfN3 wf) vs H Q E) : sp3 K n wf vs H Q E2 := by
  obtain ⟨hl, C, U, bx, ps, μ, m, Ψ, Ξ, S, e, M, hU, hf, k, kx⟩ := h
  exact ⟨hl, C, U, bx, ps, μ, m, Ψ, noX3, S, e, M, hU, hf, k, fun C' G cls dd c d ps' μ' _ _ z => False.elim z⟩
theorem FnOk.calm3 {k : Nat} {f : Addr} {fd : FuncData} {ps : List Str} {n : Nat} {wf : W3F} (F : FnOk P w K mg base (L2N.CX P w) k f fd ps (sp3 K n wf)) : FnOk P w K mg base CX0 k f fd ps (sp3 K n (wfN3 wf)) := by
  refine ⟨fun vs H Q E h => F.len vs H Q (fun _ _ _ => False) (sp3_calm (E := E) h), fun A outer s H args us vs Q E hr h0 b r h => codeAny_mono (F.run A outer s H args us vs Q (fun _ _ _ => False) hr h0 b r (sp3_calm (E := E) h)) fun r s' q => ?_⟩
  cases r with
  | ok fl => cases fl <;> exact q
  | error e =>
    obtain ⟨a, B, H', cls, d, e1, fl, rest⟩ := q
    exact rest.2.2.2.2.2.elim
/-! a value of either kind is taken as read -/

end
section
variable {P : Program} {w : World} {K : PySem.W.Frag} {mg : Str → Option Value} {base : Heap}
local macro_rules | `(tactic| get_elem_tactic_trivial) => `(tactic| (repeat first | exact Wk.nil | exact Wk'.nil | refine Wk.same ?_ | refine Wk'.same ?_ | refine Wk.un (fun _ z => nomatch z) ?_ | refine Wk'.un ?_))
/-! str(x) and repr(x) of a thing with an own __str__, an own __repr__ -/
section
variable {prog : Program} {w : World} {A : Around} {E : Value → Shared → Prop} {s : Shared} {x C f : Addr} {ox : Obj} {od : Option Obj} {K : PySem.W.Frag}
end
def rStrOwn (C : Addr) (sp : Sp) : List V → Hp → VK → Prop := fun xs H Q => ∃ a dx fs, xs = [V.ref a] ∧ H a = some (.ins C dx fs) ∧ sp [.ref a] H (fun v G => ∃ t, v = .str t ∧ Q (.str t) G) E0
theorem cStrOwn {X : Cx} {C f : Addr} {fd : FuncData} {ps : List Str} {n : Nat} {sp : Sp} (M : Meth X.K C "__str__" f)
    (F : FnOk X.prog X.w X.K X.mg X.base CX0 n f fd ps sp) (hb : Binds X.K fd ps []) (hr : Room (n + 2) X.A) : CallR X (.type "str") (rStrOwn C sp) := by
  intro pins s σ H xs us Q I r h
  obtain ⟨a, dx, fs, rfl, ha, hsp⟩ := h
  obtain ⟨u, rfl, ru⟩ := r.one
  cases (show u = Value.ref a from ru)
  obtain ⟨mA, J, _⟩ := ins_get I.hok ha
  obtain ⟨od, J, _⟩ := J.look
  have hr2 : Room n X.A.in1.in1 := (show Room (n + 1) X.A.in1 from Room.in1 hr).in1
  refine PySem.W.kso_call (by have := hr2.units; omega) I.kIn J M.at_ M.fn ?_
  have hl := F.len _ _ _ _ hsp
  have r1 : Vals [V.ref a] [Value.ref a] := .cons rfl .nil
  refine wpAny_call (codeAny_mono (F.run X.A.in1.in1 X.stack s H ⟨[.ref a], []⟩ [.ref a] [.ref a] _ E0 hr2 I.env0.in1.in1 (by
    have := hb s [.ref a] I.kIn (by simpa using hl)
    simpa using this) r1 hsp) fun r s' hq => ?_)
  cases r with
  | error e => exact False.elim hq
  | ok fl =>
    cases fl with
    | ret w =>
      obtain ⟨z, H', I', rz, t, ez, q⟩ := I.after hq
      subst ez
      obtain ⟨u, e⟩ := (show ∃ u, w = Value.str t u from rz)
      cases e
      exact ⟨.str t, H', I', ⟨u, rfl⟩, q⟩
    | next => exact False.elim hq
    | brk => exact False.elim hq
    | cont => exact False.elim hq
def fShowOwn (c : Str) (wf : WF) : Dt → (Dt → Prop) → Prop := fun d Φ => (∃ ns ds, d = .obj c ns ds) ∧ wf [.dat d] fun r _ => ∃ t, r = .dat (.str t) ∧ Φ (.str t)
theorem show_run {C H : Hp} {σ : L2.St} {B : Bs} {ρ : List Sl} {c : Str} {wf : WF} {v : V} {d : Dt} {Q : VK} {Φ : Dt → Prop} (S : Sep K B C H σ ρ) (hv : Rt K C H v d) (h : fShowOwn c wf d Φ) (k : ∀ C' G v d, Sep K B C' G σ ρ → Same C C' → Rp K C' v d → Φ d → Q v G) :
    ∃ a dx fs, [v] = [V.ref a] ∧ H a = some (.ins (He.ga K c) dx fs) ∧ spD K 1 wf [.ref a] H (fun v G => ∃ t, v = .str t ∧ Q (.str t) G) E0 := by
  obtain ⟨⟨ns, ds, rfl⟩, h⟩ := h
  have rx : Rp K C v (.obj c ns ds) := by
    rcases hv with hx | ⟨_, _, _, _, e, _⟩
    · exact hx
    · cases e
  cases id rx with
  | obj a1 a2 a3 a4 =>
    refine ⟨_, _, _, rfl, S.cold _ _ a1, rfl, C, none, _, _, sep_dats S (.cons rx .nil), h, fun C' G v r ps' S' ok z => ?_⟩
    obtain ⟨t, rfl, z⟩ := z
    cases ok
    exact ⟨t, rfl, k C' G _ (.str t) (S.after S') S'.grow (.str _) z⟩
instance sb_strOwn {c : Str} {wf : WF} : Sb1 K (rStrOwn (He.ga K c) (spD K 1 wf)) (fShowOwn c wf) where
  run B C H σ ρ v d Q Φ S hv h k := show_run S hv h k
/-! x == y by an own ==, y anything -/
def rEqAny (K : PySem.W.Frag) (C : Addr) (sp : Sp) : R2 := fun x y H Q => ∃ a dx fs t, x = .ref a ∧ H a = some (.ins C dx fs) ∧ TyX K H y t ∧ PySem.W.notFirst K C t = true ∧ sp [x, y] H (fun v G => ∃ b, v = .bl b ∧ Q (.bl b) G) E0
theorem opEqAny {X : Cx} {K : PySem.W.Frag} (hK : X.K = K) {C f : Addr} {fd : FuncData} {ps : List Str} {n : Nat} {sp : Sp} (M : Meth K C "__eq__" f)
    (F : FnOk X.prog X.w K X.mg X.base CX0 n f fd ps sp) (hb : Binds K fd ps []) (hr : Room n X.A) : OpR X (compareOp .Eq) (rEqAny K C sp) := by
  subst hK
  intro pins s σ H x y v u Q I rx ry hq
  obtain ⟨a, dx, fs, t, rfl, ha, ty, hn, hsp⟩ := hq
  show wpAny (model X.prog X.w) X.A (richCompare .Eq v u) (EP X pins σ Q) X.xe s
  cases rx
  obtain ⟨P, kx, hP, _⟩ := kit_of I ry ty
  obtain ⟨mA, J, _⟩ := ins_get I.hok ha
  obtain ⟨od, J, _⟩ := J.look
  obtain ⟨m, hF⟩ := I.fr
  refine PySem.W.cmp_K (op := .Eq) (tb := t) hr.units0 hF I.ok.mod.kin J (kx.ty _ _ I.kIn hP) hn M.at_ M.fn ?_
  have hl := F.len _ _ _ _ hsp
  have r2 : Vals [V.ref a, y] [Value.ref a, u] := .cons rfl (.cons ry .nil)
  refine wpAny_call (codeAny_mono (F.run X.A X.stack s H ⟨[.ref a, u], []⟩ [.ref a, u] [.ref a, y] _ E0 hr I.env0 (by
    have := hb s [.ref a, u] I.kIn (by simpa using hl)
    simpa using this) r2 hsp) fun r s' hq => ?_)
  cases r with
  | error e => exact False.elim hq
  | ok fl =>
    cases fl with
    | ret w =>
      obtain ⟨z, H', I', rz, t, ez, q⟩ := I.after hq
      subst ez
      cases rz
      exact ⟨.bl t, H', I', rfl, q⟩
    | next => exact False.elim hq
    | brk => exact False.elim hq
    | cont => exact False.elim hq
theorem notFirst_of {C : Addr} {t : Value} {b : Bool} (e : PySem.W.kitOne K t (.ref C) = some b) (h : b = true → t = .ref C) : PySem.W.notFirst K C t = true := by
  unfold PySem.W.notFirst
  unfold PySem.W.kitOne at e
  split at e
  · next q => rw [q]; rfl
  · next q =>
    cases b with
    | true => exact absurd (by rw [h rfl]; exact beq_self_eq_true _) q
    | false =>
      unfold PySem.W.kitCls at e
      dsimp only at e
      split at e
      · rw [e, Bool.or_eq_true]
        exact .inr rfl
      · cases e
def oEqAny (c : Str) (wf : WF) : Dt → Dt → (Dt → Prop) → Prop := fun dx dy Φ => (∃ ns ds, dx = .obj c ns ds) ∧ obK c dy (wf [.dat dx, .dat dy] fun r _ => ∃ t, r = .dat (.bl t) ∧ Φ (.bl t))
instance so_eqAny {c : Str} {wf : WF} [io : IsA K c] : So K (rEqAny K (He.ga K c) (spD K 2 wf)) (oEqAny c wf) where
  run B C H σ ρ x y dx dy Q Φ S hx hy h k := by
    obtain ⟨⟨ns, ds, rfl⟩, h⟩ := h
    have rx : Rp K C x (.obj c ns ds) := by
      rcases hx with hx | ⟨_, _, _, _, e, _⟩
      · exact hx
      · cases e
    have ryH : Rp K H y dy := by
      rcases hy with hy | ⟨a, vs, ds, rfl, rfl, ha, r⟩
      · exact hy.same S.cold
      · exact .lst ha (r.same S.cold)
    have ty : (∃ t : Value, TyX K H y t ∧ PySem.W.notFirst K (He.ga K c) t = true) ∧ wf [.dat (.obj c ns ds), .dat dy] fun r _ => ∃ t, r = .dat (.bl t) ∧ Φ (.bl t) := by
      cases dy with
      | obj c' ns' ds' =>
        obtain ⟨rfl, h⟩ := h
        rcases hy with r | ⟨_, _, _, _, e, _⟩
        · cases r with
          | obj b1 b2 b3 b4 => exact ⟨⟨_, .base (.ins (S.cold _ _ b1) io.cl io.fs.ha io.fs.hn io.fs.ht io.fs.hm), notFirst_of kit_same (fun _ => rfl)⟩, h⟩
        · cases e
      | err _ _ => exact h.elim
      | adr _ => exact h.elim
      | dic _ _ => exact h.elim
      | _ => exact ⟨⟨_, kind_ty S hy rfl, notFirst_of (io.of (by decide)) (fun z => nomatch z)⟩, h⟩
    obtain ⟨⟨t, ty, hn⟩, h⟩ := ty
    cases id rx with
    | obj a1 a2 a3 a4 =>
      refine ⟨_, _, _, t, rfl, S.cold _ _ a1, ty, hn, rfl, H, none, _, _, sep_dats S.cooled (.cons (rx.same S.cold) (.cons ryH .nil)), h, fun C' G v r ps' S' ok z => ?_⟩
      obtain ⟨t, rfl, z⟩ := z
      cases ok
      exact ⟨t, rfl, k C G _ (.bl t) (S.same (S'.grow.trans S'.cold)) (Same.refl _) (.bl _) z⟩

end
section
variable {P : Program} {w : World} {K : PySem.W.Frag} {mg : Str → Option Value} {base : Heap}
local macro_rules | `(tactic| get_elem_tactic_trivial) => `(tactic| (repeat first | exact Wk.nil | exact Wk'.nil | refine Wk.same ?_ | refine Wk'.same ?_ | refine Wk.un (fun _ z => nomatch z) ?_ | refine Wk'.un ?_))
/-! level 3: calls of defs that show things -/
section
variable {X : Cx} {k n : Nat} {f C : Addr} {fd : FuncData} {ps ks : List Str} {sp : Sp} {E : L2.St → XK} {x mm : Str} {p pos apos : Pos} {e o : Expr} {es : List Expr} {kws : List Keyword} {ta : TE} {t tk : TA} {g : List Value → List Value → List Value} {gV : List V → List V → List V}
theorem run_fnG3 {pins : List (Addr × Obj)} {σ : L2.St} {H : Hp} {s : Shared} {Q : VK} {us ws : List Value} {vs zs : List V} (gd : X.A.guards = some []) (F : FnOkG X.prog X.w X.K X.mg X.base k f fd ps sp) (hr : Room k X.A) (hb : KBn X.K fd ps n ks g gV) (hx : PassesAt CX0 X σ (E σ))
    (I : Inv X pins σ H s) (r : Vals vs us) (rz : Vals zs ws) (l1 : vs.length = n) (l2 : zs.length = ks.length) (h : sp (gV vs zs) H Q (E σ)) : wpAny (model X.prog X.w) X.A (call (.ref f) us (ks.zip ws)) (EP X pins σ Q) X.xe s := by
  have r2 := hb.rel r rz
  refine wpAny_call (codeAny_mono (F.run X.A X.stack s H ⟨us, ks.zip ws⟩ (g us ws) (gV vs zs) Q (E σ) gd hr I.env0 (hb.to s us ws I.kIn (r.length.symm.trans l1) (rz.length.symm.trans l2)) r2 h) fun r s' hq => ?_)
  cases r with
  | error e => exact hx pins H s e s' I hq
  | ok fl =>
    cases fl with
    | ret u => exact I.after hq
    | next => exact False.elim hq
    | brk => exact False.elim hq
    | cont => exact False.elim hq
theorem pe_call3G (gd : X.A.guards = some []) (F : FnOkG X.prog X.w X.K X.mg X.base k f fd ps sp) (hr : Room k X.A) (hg : Gl X x) (hm : X.mg x = some (.ref f)) (hk : PySem.W.keepIn X.K (.ref f) = true) (hb : KBn X.K fd ps n ks g gV) (hx : ∀ σ, PassesAt CX0 X σ (E σ))
    (ha : PA X (e :: es) t) (hkw : PK X kws tk) (hall : (backToKw pos (keywordEach kws X.env)).all (·.1.isSome) = true := by rfl) (hks : (backToKw pos (keywordEach kws X.env)).filterMap (·.1) = ks := by rfl)
    (hdb : (x == ("__debug__" : Str)) = false := by decide) (he : starEach (e :: es) X.env = (false, eval e X.env) :: starEach es X.env := by rfl)
    (hpl : ((backTo pos (starEach (e :: es) X.env)).any (·.1) || (backToKw pos (keywordEach kws X.env)).any (·.1.isNone)) = false := by rfl) :
    PE X (.Call (.Name x p) (e :: es) kws pos) (tCall3 n ks.length sp gV E t tk) := by
  refine ⟨fun pins s σ H Q I h => ?_⟩
  refine wpAny_Call_Name_kw (ld_glob I hg hm ?_ hdb)
  refine PySem.W.callWith_KW (h₀ := X.base) I.ok.mod.kin hk hall (thn (ha.run pos pins s σ H _ I h) fun us s1 ⟨vs, H1, I1, r, q⟩ => ?_) hpl he
  refine thn (hkw.run pos pins s1 σ H1 _ I1 q) fun ws s2 ⟨zs, H2, I2, rz, l1, l2, q2⟩ => ⟨I2.kIn, ?_⟩
  rw [hks]
  exact run_fnG3 gd F hr hb (hx σ) I2 r rz l1 l2 q2
end

end
section
variable {P : Program} {w : World} {K : PySem.W.Frag} {mg : Str → Option Value} {base : Heap}
local macro_rules | `(tactic| get_elem_tactic_trivial) => `(tactic| (repeat first | exact Wk.nil | exact Wk'.nil | refine Wk.same ?_ | refine Wk'.same ?_ | refine Wk.un (fun _ z => nomatch z) ?_ | refine Wk'.un ?_))
/-! a hand made of anything -/
theorem loads_yes {d : Dt} (h : loadsD d = true) : ∃ (k : Bool) (ls : List Dt), d = sqD k ls ∧ ls.length ≤ 3 := by
  cases d with
  | lst ds =>
    have h : (decide (ds.length ≤ 3) && ds.all (placedD 7)) = true := h
    rw [Bool.and_eq_true, decide_eq_true_eq] at h
    exact ⟨false, ds, rfl, h.1⟩
  | tup ds =>
    have h : (decide (ds.length ≤ 3) && ds.all (placedD 7)) = true := h
    rw [Bool.and_eq_true, decide_eq_true_eq] at h
    exact ⟨true, ds, rfl, h.1⟩
  | _ => exact Bool.noConfusion (show false = true from h)
theorem lies_yes {d : Dt} {n : Nat} (h : liesD d n = true) : ∃ (k : Bool) (ls : List Dt), d = sqD k ls := by
  cases d with
  | lst ds => exact ⟨false, ds, rfl⟩
  | tup ds => exact ⟨true, ds, rfl⟩
  | _ => exact Bool.noConfusion (show false = true from h)
theorem sqL_sqD (k : Bool) (ds : List Dt) : sqL (sqD k ds) = some ds := by
  cases k <;> rfl
def lenS (d : Dt) : Nat := match sqL d with
  | some ds => ds.length
  | none => 0
theorem lenS_sqD (k : Bool) (ds : List Dt) : lenS (sqD k ds) = ds.length := by
  unfold lenS
  rw [sqL_sqD]
def dueH (dn db dl dy : Dt) : Str := if isNameD dn = false then "name" else if numW 0 1000000 db = false then "body" else if loadsD dl = false then "loads" else if liesD dy (lenS dl) = false then "lies" else ""
def wHandX : W3F := fun ps μ Ψ Ξ => ∃ (a : Addr) (dn db dl dy : Dt), ps = [.dat (.adr a), .dat dn, .dat db, .dat dl, .dat dy] ∧ μ = [(a, .fl (.ins "Hand" [] []))] ∧ Nice 60 8000 dn ∧ Nice 60 8000 db ∧ Nice 60 8000 dl ∧ Nice 60 8000 dy ∧ (dueH dn db dl dy ≠ "" → Ξ "BadHand" (.str (dueH dn db dl dy)) ps μ) ∧ ∀ ls ys, dueH dn db dl dy = "" → sqL dl = some ls → sqL dy = some ys → Ψ (.dat .non) ps [(a, .fl (.ins "Hand" HF [dn, db, .tup ls, .tup ys]))]
namespace Hx
theorem _root_.Sl.kbAllN {K : PySem.W.Frag} {x qual : Str} {params : Arguments} {body : List Stmt} {scope : Scope} {kws : List (Str × V)} {f : Addr} {fd : FuncData} {ps : List Str} (F : FunD K x qual params body scope [] kws f fd) (n : Nat) (ks : List Str) (is : List Nat)
    (h : ∀ (kV doc pm : Value) (an : Option Addr) (cdv ct : Value) (us ws : List Value), us.length = n → ws.length = ks.length → bindArgs (PySem.W.fnOf x qual params body scope .none kV doc pm an cdv ct) ⟨us, ks.zip ws⟩ = pure (ps.zip (gP is us ws))) :
    ∃ g : List Value → List Value → List Value, KBn K fd ps n ks g (gB is []) := by
  obtain ⟨oc, od, dV, kV, doc, pm, an, cdv, ct, osl, rfl, lk, hcd, hD, hK⟩ := F.ex
  rcases hD with ⟨_, rfl⟩ | ⟨e, _⟩
  · exact ⟨gP is, ⟨fun s us ws _ l1 l2 => .of_eq (h kV doc pm an cdv ct us ws l1 l2), fun r1 r2 => by
      unfold gB
      rw [List.append_nil]
      exact gP_vals is r1 r2⟩⟩
  · exact absurd rfl e

theorem _root_.Sl.Tx.kbAreLies_2 {K : PySem.W.Frag} {mg : Str → Option Value} (T : Tx K mg) : ∃ g : List Value → List Value → List Value, KBn K T.fdAreLies ["thing", "loads"] 2 [] g (gB [0, 1] []) := kbAllN T.FAreLies 2 [] [0, 1] fun kV doc pm an cdv ct us ws h1 h2 => match us, ws, h1, h2 with
  | [u0, u1], [], _, _ => rfl
theorem _root_.Sl.Tx.kbAreLoads_1 {K : PySem.W.Frag} {mg : Str → Option Value} (T : Tx K mg) : ∃ g : List Value → List Value → List Value, KBn K T.fdAreLoads ["thing"] 1 [] g (gB [0] []) := kbAllN T.FAreLoads 1 [] [0] fun kV doc pm an cdv ct us ws h1 h2 => match us, ws, h1, h2 with
  | [u0], [], _, _ => rfl
theorem _root_.Sl.Tx.kbIsName_1 {K : PySem.W.Frag} {mg : Str → Option Value} (T : Tx K mg) : ∃ g : List Value → List Value → List Value, KBn K T.fdIsName ["thing"] 1 [] g (gB [0] []) := kbAllN T.FIsName 1 [] [0] fun kV doc pm an cdv ct us ws h1 h2 => match us, ws, h1, h2 with
  | [u0], [], _, _ => rfl
theorem _root_.Sl.Tx.kbIsWithin_3 {K : PySem.W.Frag} {mg : Str → Option Value} (T : Tx K mg) : ∃ g : List Value → List Value → List Value, KBn K T.fdIsWithin ["thing", "least", "greatest"] 3 [] g (gB [0, 1, 2] []) := kbAllN T.FIsWithin 3 [] [0, 1, 2] fun kV doc pm an cdv ct us ws h1 h2 => match us, ws, h1, h2 with
  | [u0, u1, u2], [], _, _ => rfl
theorem okHandInit (T : Tx K mg) : FnOk P w K mg base (L2N.CX P w) 5 (He.ma K (He.ga K "Hand") "__init__") T.fdHandInit ["self", "name", "body", "loads", "lies"] (sp3 K 5 wHandX) := by
  have B := T.B
  have GIsName : FnOk P w K mg base CX0 1 (He.ga K "is_name") T.fdIsName ["thing"] _ := FnOk.up3 (okIsName T)
  have bIsName := T.bIsName
  have GStartErrorInit : FnOk P w K mg base CX0 1 (He.ma K (He.ga K "StartError") "__init__") T.fdStartErrorInit ["self", "what"] (spInitE K) := okStartErrorInit T
  have bStartErrorInit := T.bStartErrorInit
  have GIsWithin : FnOk P w K mg base CX0 2 (He.ga K "is_within") T.fdIsWithin ["thing", "least", "greatest"] _ := FnOk.up3 (okIsWithin T)
  have bIsWithin := T.bIsWithin
  have GAreLoads : FnOk P w K mg base CX0 4 (He.ga K "are_loads") T.fdAreLoads ["thing"] _ := FnOk.up3 (okAreLoads T)
  have bAreLoads := T.bAreLoads
  have GAreLies : FnOk P w K mg base CX0 4 (He.ga K "are_lies") T.fdAreLies ["thing", "loads"] _ := FnOk.up3 (okLiesU T)
  have bAreLies := T.bAreLies
  obtain ⟨_, kbAreLies_2⟩ := T.kbAreLies_2
  obtain ⟨_, kbAreLoads_1⟩ := T.kbAreLoads_1
  obtain ⟨_, kbIsName_1⟩ := T.kbIsName_1
  obtain ⟨_, kbIsWithin_3⟩ := T.kbIsWithin_3
  refine T.FHandInit.ok scHandInit (fun vs H Q E h => h.1) (fun cdv A outer s H vs Q E hr h => ?_)
  refine ⟨_, (pss_cons (ps_if (pt_not (pt_val (asPE (tCall3 1 0 _ _ _ _ _) (pe_call3 (ks := []) GIsName (hr.mono (by decide)) (by rfl) T.gIsName T.FIsName.kp kbIsName_1 (pass0S (fun cls d _ H => E cls d H)) (pa_cons (pv 1) pa_nil) pk_nil)))) (pss_one (ps_raiseD rfl (L2N.takes_of rfl rfl rfl rfl) (pmk_errD (err_cl T.er (c := "BadHand") (by decide +kernel)) GStartErrorInit (hr.mono (by decide)) bStartErrorInit (by rfl) T.gBadHand (by exact (pa_cons pe_str pa_nil))))) pss_nil)
        (pss_cons (ps_if (pt_not (pt_val (asPE (tCall3 3 0 _ _ _ _ _) (pe_call3 (ks := []) GIsWithin (hr.mono (by decide)) (by rfl) T.gIsWithin T.FIsWithin.kp kbIsWithin_3 (pass0S (fun cls d _ H => E cls d H)) (pa_cons (pv 2) (pa_cons pe_int (pa_cons (pe_glob (v := .int 1000000) (by rfl) T.c_GREATEST_BODY.choose_spec ⟨_, rfl⟩) pa_nil))) pk_nil)))) (pss_one (ps_raiseD rfl (L2N.takes_of rfl rfl rfl rfl) (pmk_errD (err_cl T.er (c := "BadHand") (by decide +kernel)) GStartErrorInit (hr.mono (by decide)) bStartErrorInit (by rfl) T.gBadHand (by exact (pa_cons pe_str pa_nil))))) pss_nil)
        (pss_cons (ps_if (pt_not (pt_val (asPE (tCall3 1 0 _ _ _ _ _) (pe_call3 (ks := []) GAreLoads (hr.mono (by decide)) (by rfl) T.gAreLoads T.FAreLoads.kp kbAreLoads_1 (pass0S (fun cls d _ H => E cls d H)) (pa_cons (pv 3) pa_nil) pk_nil)))) (pss_one (ps_raiseD rfl (L2N.takes_of rfl rfl rfl rfl) (pmk_errD (err_cl T.er (c := "BadHand") (by decide +kernel)) GStartErrorInit (hr.mono (by decide)) bStartErrorInit (by rfl) T.gBadHand (by exact (pa_cons pe_str pa_nil))))) pss_nil)
        (pss_cons (ps_if (pt_not (pt_val (asPE (tCall3 2 0 _ _ _ _ _) (pe_call3 (ks := []) GAreLies (hr.mono (by decide)) (by rfl) T.gAreLies T.FAreLies.kp kbAreLies_2 (pass0S (fun cls d _ H => E cls d H)) (pa_cons (pv 4) (pa_cons (pv 3) pa_nil)) pk_nil)))) (pss_one (ps_raiseD rfl (L2N.takes_of rfl rfl rfl rfl) (pmk_errD (err_cl T.er (c := "BadHand") (by decide +kernel)) GStartErrorInit (hr.mono (by decide)) bStartErrorInit (by rfl) T.gBadHand (by exact (pa_cons pe_str pa_nil))))) pss_nil)
        (pss_cons (asPS (sFld K _ _ "name") (ps_fld (pv 0) (pv 1) rfl))
        (pss_cons (asPS (sFld K _ _ "body") (ps_fld (pv 0) (pv 2) rfl))
        (pss_cons (asPS (sFld K _ _ "loads") (ps_fld (pv 0) (pe_callTy (show CallR _ _ (cTuple K) from call_tuple_of) (by rfl) B.b_tuple PyProof.Rows.boot_tuple (pa_cons (pv 3) pa_nil)) rfl))
        (pss_one (asPS (sFld K _ _ "lies") (ps_fld (pv 0) (pe_callTy (show CallR _ _ (cTuple K) from call_tuple_of) (by rfl) B.b_tuple PyProof.Rows.boot_tuple (pa_cons (pv 4) pa_nil)) rfl)))))))))), ?_⟩
  refine body3 h (fun ps μ Ψ Ξ hw hl => ?_)
  obtain ⟨a, dn, db, dl, dy, rfl, rfl, nn, nb, nl, ny, qx, q⟩ := hw
  refine ⟨⟨rfl, rfl, rfl⟩, [], _, .refl _, dn, rfl, nn, ?_⟩
  cases e1 : isNameD dn with
  | false =>
    have e : dueH dn db dl dy = "name" := if_pos e1
    rw [e] at qx
    exact ⟨"BadHand", rfl, _, .refl _, qx (by decide)⟩
  | true =>
  refine ⟨⟨rfl, rfl, rfl⟩, [], _, .refl _, db, 0, 1000000, rfl, nb, ?_⟩
  have n1 : ¬ isNameD dn = false := by rw [e1]; exact Bool.noConfusion
  cases e2 : numW 0 1000000 db with
  | false =>
    have e : dueH dn db dl dy = "body" := by unfold dueH; rw [if_neg n1, if_pos e2]
    rw [e] at qx
    exact ⟨"BadHand", rfl, _, .refl _, qx (by decide)⟩
  | true =>
  have n2 : ¬ numW 0 1000000 db = false := by rw [e2]; exact Bool.noConfusion
  refine ⟨⟨rfl, rfl, rfl⟩, [], _, .refl _, dl, rfl, nl, ?_⟩
  cases e3 : loadsD dl with
  | false =>
    have e : dueH dn db dl dy = "loads" := by unfold dueH; rw [if_neg n1, if_neg n2, if_pos e3]
    rw [e] at qx
    exact ⟨"BadHand", rfl, _, .refl _, qx (by decide)⟩
  | true =>
  have n3 : ¬ loadsD dl = false := by rw [e3]; exact Bool.noConfusion
  obtain ⟨k, ls, rfl, l3⟩ := loads_yes e3
  have eD : lenS (sqD k ls) = ls.length := lenS_sqD k ls
  refine ⟨⟨rfl, rfl, rfl⟩, [], _, .refl _, lies_u ⟨k, ls, dy, rfl, ny, by omega, ?_⟩⟩
  cases e4 : liesD dy ls.length with
  | false =>
    have e : dueH dn db (sqD k ls) dy = "lies" := by unfold dueH; rw [if_neg n1, if_neg n2, if_neg n3, eD, if_pos e4]
    rw [e] at qx
    exact ⟨"BadHand", rfl, _, .refl _, qx (by decide)⟩
  | true =>
  have n4 : ¬ liesD dy ls.length = false := by rw [e4]; exact Bool.noConfusion
  have e : dueH dn db (sqD k ls) dy = "" := by unfold dueH; rw [if_neg n1, if_neg n2, if_neg n3, eD, if_neg n4]
  obtain ⟨m, ys, rfl⟩ := lies_yes e4
  have q := q ls ys e (sqL_sqD k ls) (sqL_sqD m ys)
  have ft : ∀ (b : Bool) (ds : List Dt) (Φ : Dt → Prop), Φ (.tup ds) → fTuple (sqD b ds) Φ := fun b ds Φ z => by
    cases b <;> exact z
  refine ⟨0, "Hand", ([] : List Str), [], rfl, ⟨.inr (fldN T), by decide⟩, _, _, rfl, ?_⟩
  refine ⟨0, "Hand", (["name"] : List Str), [dn], rfl, ⟨.inr (fldB T), by decide⟩, _, _, rfl, ?_⟩
  refine ft _ _ _ ?_
  refine ⟨0, "Hand", (["name", "body"] : List Str), [dn, db], rfl, ⟨.inr (fldLo T), by decide⟩, _, _, rfl, ?_⟩
  refine ft _ _ _ ?_
  refine ⟨0, "Hand", (["name", "body", "loads"] : List Str), [dn, db, .tup ls], rfl, ⟨.inr (fldLi T), by decide⟩, _, _, rfl, ?_⟩
  exact ⟨_, .refl _, q⟩
end Hx
end
section
variable {P : Program} {w : World} {K : PySem.W.Frag} {mg : Str → Option Value} {base : Heap}
local macro_rules | `(tactic| get_elem_tactic_trivial) => `(tactic| (repeat first | exact Wk.nil | exact Wk'.nil | refine Wk.same ?_ | refine Wk'.same ?_ | refine Wk.un (fun _ z => nomatch z) ?_ | refine Wk'.un ?_))
/-! a hand made of lists that change behind -/
theorem due_none {dn db dl dy : Dt} (h : dueH dn db dl dy = "") : isNameD dn = true ∧ numW 0 1000000 db = true ∧ loadsD dl = true ∧ liesD dy (lenS dl) = true := by
  unfold dueH at h
  cases e1 : isNameD dn with
  | false => rw [if_pos e1] at h; exact absurd h (by decide)
  | true =>
    rw [if_neg (by rw [e1]; exact Bool.noConfusion)] at h
    cases e2 : numW 0 1000000 db with
    | false => rw [if_pos e2] at h; exact absurd h (by decide)
    | true =>
      rw [if_neg (by rw [e2]; exact Bool.noConfusion)] at h
      cases e3 : loadsD dl with
      | false => rw [if_pos e3] at h; exact absurd h (by decide)
      | true =>
        rw [if_neg (by rw [e3]; exact Bool.noConfusion)] at h
        cases e4 : liesD dy (lenS dl) with
        | false => rw [if_pos e4] at h; exact absurd h (by decide)
        | true => exact ⟨rfl, rfl, rfl, rfl⟩
theorem placed_tr {t : Tr} {k : Nat} (h : t.ok k) : placedD (k : Nat) t.d = true := by
  show (numW 0 (k : Nat) (.int (t.p : Nat)) && (isNameD (nD t.l) && numW 0 1000000 (.int t.b))) = true
  rw [numW_yes (by omega) (by have := h.pk; omega), isNm_ok h.g, numW_yes h.b0 h.b1]
  rfl
theorem placed_trs {ts : List Tr} {k : Nat} (h : ∀ t ∈ ts, t.ok k) : (ts.map Tr.d).all (placedD (k : Nat)) = true := by
  rw [List.all_eq_true]
  intro d hd
  obtain ⟨t, ht, rfl⟩ := List.mem_map.mp hd
  exact placed_tr (h t ht)
theorem ris_trs {ys : List Tr} (up : ∀ (i : Nat) (a b : Tr), ys[i]? = some a → ys[i + 1]? = some b → a.p < b.p) : risI ((ys.map Tr.d).map placeI) = true := by
  unfold risI
  rw [List.all_eq_true]
  intro b hb
  obtain ⟨i, hi⟩ := List.getElem?_of_mem hb
  rw [List.getElem?_zipWith, List.getElem?_drop, List.map_map, List.getElem?_map, List.getElem?_map, Nat.add_comm 1 i] at hi
  cases h1 : ys[i]? with
  | none => rw [h1] at hi; cases hi
  | some x =>
    cases h2 : ys[i + 1]? with
    | none => rw [h1, h2] at hi; cases hi
    | some y =>
      rw [h1, h2] at hi
      have e : some (decide (((x.p : Nat) : Int) < ((y.p : Nat) : Int))) = some b := hi
      have := up i x y h1 h2
      rw [decide_eq_true (by omega)] at e
      exact (Option.some.inj e).symm
theorem due_hd {h : Hd} (ok : h.ok) (k m : Bool) : dueH (nD h.l) (.int h.b) (sqD k (h.ls.map Tr.d)) (sqD m (h.ys.map Tr.d)) = "" := by
  have e1 : isNameD (nD h.l) = true := isNm_ok ok.g
  have e2 := numW_yes ok.b0 ok.b1
  have e3 : loadsD (sqD k (h.ls.map Tr.d)) = true := by
    unfold loadsD
    rw [sqL_sqD]
    show (decide ((h.ls.map Tr.d).length ≤ 3) && (h.ls.map Tr.d).all (placedD 7)) = true
    rw [decide_eq_true (by rw [List.length_map]; exact ok.l3), show (7 : Int) = ((7 : Nat) : Int) from rfl, placed_trs ok.lk]
    rfl
  have e4 : liesD (sqD m (h.ys.map Tr.d)) (lenS (sqD k (h.ls.map Tr.d))) = true := by
    unfold liesD
    rw [sqL_sqD, lenS_sqD, List.length_map]
    show ((h.ys.map Tr.d).all (placedD (h.ls.length : Nat)) && risI ((h.ys.map Tr.d).map placeI)) = true
    rw [placed_trs ok.yk, ris_trs ok.up]
    rfl
  unfold dueH
  rw [if_neg (by rw [e1]; exact Bool.noConfusion), if_neg (by rw [e2]; exact Bool.noConfusion), if_neg (by rw [e3]; exact Bool.noConfusion), if_neg (by rw [e4]; exact Bool.noConfusion)]
theorem nice_trL {ts : List Tr} {k : Nat} (h : ∀ t ∈ ts, t.ok k) (hk : k ≤ 100) (l : ts.length ≤ 10) : Nice 2 310 (.lst (ts.map Tr.d)) := by
  refine (nice_lst (n := 1) (b := 30) fun d hd => ?_).mono (Nat.le_refl _) (by rw [List.length_map]; omega)
  obtain ⟨t, ht, rfl⟩ := List.mem_map.mp hd
  exact nice_tr (h t ht) hk
theorem nice_trS {ts : List Tr} {k : Nat} (b : Bool) (h : ∀ t ∈ ts, t.ok k) (hk : k ≤ 100) (l : ts.length ≤ 10) : Nice 60 8000 (sqD b (ts.map Tr.d)) := by
  cases b
  · exact (nice_trL h hk l).mono (by decide) (by decide)
  · exact (nice_trs h hk l).mono (by decide) (by decide)
def wHandC : W3F := fun ps μ Ψ _ => ∃ (a x y : Addr) (h : Hd), ps = [.dat (.adr a), .dat (nD h.l), .dat (.int h.b), .dat (.adr x), .dat (.adr y)] ∧ μ = [(a, .fl (.ins "Hand" [] [])), (x, .fl (.lst (h.ls.map Tr.d))), (y, .fl (.lst (h.ys.map Tr.d)))] ∧ h.ok ∧ Ψ (.dat .non) ps [(a, .fl (.ins "Hand" HF h.fs)), (x, .fl (.lst (h.ls.map Tr.d))), (y, .fl (.lst (h.ys.map Tr.d)))]
namespace Hc
theorem okHandInit (T : Tx K mg) : FnOk P w K mg base CX0 5 (He.ma K (He.ga K "Hand") "__init__") T.fdHandInit ["self", "name", "body", "loads", "lies"] (sp3 K 5 wHandC) := by
  have B := T.B
  have GIsName : FnOk P w K mg base CX0 1 (He.ga K "is_name") T.fdIsName ["thing"] _ := FnOk.up3 (okIsName T)
  have bIsName := T.bIsName
  have GStartErrorInit : FnOk P w K mg base CX0 1 (He.ma K (He.ga K "StartError") "__init__") T.fdStartErrorInit ["self", "what"] (spInitE K) := okStartErrorInit T
  have bStartErrorInit := T.bStartErrorInit
  have GIsWithin : FnOk P w K mg base CX0 2 (He.ga K "is_within") T.fdIsWithin ["thing", "least", "greatest"] _ := FnOk.up3 (okIsWithin T)
  have bIsWithin := T.bIsWithin
  have GAreLoads : FnOk P w K mg base CX0 4 (He.ga K "are_loads") T.fdAreLoads ["thing"] (spD K 1 wLoadsX) := okAreLoads T
  have bAreLoads := T.bAreLoads
  have GAreLies : FnOk P w K mg base CX0 4 (He.ga K "are_lies") T.fdAreLies ["thing", "loads"] (spD K 2 wLiesU) := okLiesU T
  have bAreLies := T.bAreLies
  obtain ⟨_, kbIsName_1⟩ := T.kbIsName_1
  obtain ⟨_, kbIsWithin_3⟩ := T.kbIsWithin_3
  refine T.FHandInit.ok scHandInit (fun vs H Q E h => h.1) (fun cdv A outer s H vs Q E hr h => ?_)
  refine ⟨_, PSs.nox (pss_cons (ps_if (pt_not (pt_val (asPE (tCall3 1 0 _ _ _ _ _) (pe_call3 (ks := []) GIsName (hr.mono (by decide)) (by rfl) T.gIsName T.FIsName.kp kbIsName_1 (pass0S (fun cls d _ H => E cls d H)) (pa_cons (pv 1) pa_nil) pk_nil)))) (pss_one ps_no) pss_nil)
        (pss_cons (ps_if (pt_not (pt_val (asPE (tCall3 3 0 _ _ _ _ _) (pe_call3 (ks := []) GIsWithin (hr.mono (by decide)) (by rfl) T.gIsWithin T.FIsWithin.kp kbIsWithin_3 (pass0S (fun cls d _ H => E cls d H)) (pa_cons (pv 2) (pa_cons pe_int (pa_cons (pe_glob (v := .int 1000000) (by rfl) T.c_GREATEST_BODY.choose_spec ⟨_, rfl⟩) pa_nil))) pk_nil)))) (pss_one ps_no) pss_nil)
        (pss_cons (ps_if (pt_not (ptKeep3 (pt_val (pe_call GAreLoads (hr.mono (by decide)) (by rfl) T.gAreLoads T.FAreLoads.kp bAreLoads .nil pass0 (pa_cons (pv 3) pa_nil))))) (pss_one ps_no) pss_nil)
        (pss_cons (ps_if (pt_not (ptKeep3 (pt_val (pe_call GAreLies (hr.mono (by decide)) (by rfl) T.gAreLies T.FAreLies.kp bAreLies .nil pass0 (pa_cons (pv 4) (pa_cons (pv 3) pa_nil)))))) (pss_one ps_no) pss_nil)
        (pss_cons (asPS (sFld K _ _ "name") (ps_fld (pv 0) (pv 1) rfl))
        (pss_cons (asPS (sFld K _ _ "body") (ps_fld (pv 0) (pv 2) rfl))
        (pss_cons (asPS (sFld K _ _ "loads") (ps_fld (pv 0) (pe_callTy (show CallR _ _ (cTuple K) from call_tuple_of) (by rfl) B.b_tuple PyProof.Rows.boot_tuple (pa_cons (peL3 (pv 3)) pa_nil)) rfl))
        (pss_one (asPS (sFld K _ _ "lies") (ps_fld (pv 0) (pe_callTy (show CallR _ _ (cTuple K) from call_tuple_of) (by rfl) B.b_tuple PyProof.Rows.boot_tuple (pa_cons (peL3 (pv 4)) pa_nil)) rfl)))))))))), ?_⟩
  refine body3 h (fun ps μ Ψ Ξ hw hl => ?_)
  obtain ⟨a, x, y, h, rfl, rfl, ok, q⟩ := hw
  obtain ⟨e1, e2, e3, e4⟩ := due_none (due_hd ok false false)
  have e3 : loadsD (.lst (h.ls.map Tr.d)) = true := e3
  have e4 : liesD (.lst (h.ys.map Tr.d)) (h.ls.map Tr.d).length = true := e4
  refine ⟨⟨rfl, rfl, rfl⟩, [], _, .refl _, nD h.l, rfl, (nice_nm ok.g).mono (by decide) (by decide), ifF (by rw [e1]; rfl) ?_⟩
  refine ⟨⟨rfl, rfl, rfl⟩, [], _, .refl _, .int h.b, 0, 1000000, rfl, (nice_small (by have := ok.b0; omega) (by have := ok.b1; omega)).mono (by decide) (by decide), ifF (by rw [e2]; rfl) ?_⟩
  refine ⟨[.un, .un, .un, .dat (.lst (h.ls.map Tr.d)), .un], .un (.un (.un (.dat (.adr (List.mem_cons_self ..) (RsvL.same_ _)) (.un .nil)))), ?_⟩
  refine ⟨rfl, .lst (h.ls.map Tr.d), rfl, nice_trS false ok.lk (by decide) (by have := ok.l3; omega), ifF (by rw [e3]; rfl) ?_⟩
  refine ⟨[.un, .un, .un, .dat (.lst (h.ls.map Tr.d)), .dat (.lst (h.ys.map Tr.d))], .un (.un (.un (.dat (.adr (List.mem_cons_self ..) (RsvL.same_ _)) (.dat (.adr (List.mem_cons_of_mem _ (List.mem_cons_self ..)) (RsvL.same_ _)) .nil)))), ?_⟩
  have l3 : (h.ls.map Tr.d).length ≤ 3 := by rw [List.length_map]; exact ok.l3
  refine ⟨rfl, lies_u ⟨false, h.ls.map Tr.d, .lst (h.ys.map Tr.d), rfl, nice_trS false ok.yk (by have := ok.l3; omega) (by have := ok.y4; omega), by omega, ifF (by rw [e4]; rfl) ?_⟩⟩
  refine ⟨0, "Hand", ([] : List Str), [], rfl, ⟨.inr (fldN T), by decide⟩, _, _, rfl, ?_⟩
  refine ⟨0, "Hand", (["name"] : List Str), [nD h.l], rfl, ⟨.inr (fldB T), by decide⟩, _, _, rfl, ?_⟩
  refine ⟨1, h.ls.map Tr.d, rfl, ?_⟩
  refine ⟨0, "Hand", (["name", "body"] : List Str), [nD h.l, .int h.b], rfl, ⟨.inr (fldLo T), by decide⟩, _, _, rfl, ?_⟩
  refine ⟨2, h.ys.map Tr.d, rfl, ?_⟩
  refine ⟨0, "Hand", (["name", "body", "loads"] : List Str), [nD h.l, .int h.b, .tup (h.ls.map Tr.d)], rfl, ⟨.inr (fldLi T), by decide⟩, _, _, rfl, ?_⟩
  exact ⟨_, .refl _, q⟩
end Hc

end
section
variable {P : Program} {w : World} {K : PySem.W.Frag} {mg : Str → Option Value} {base : Heap}
local macro_rules | `(tactic| get_elem_tactic_trivial) => `(tactic| (repeat first | exact Wk.nil | exact Wk'.nil | refine Wk.same ?_ | refine Wk'.same ?_ | refine Wk.un (fun _ z => nomatch z) ?_ | refine Wk'.un ?_))
/-! the law's own look -/
theorem eD_ints : ∀ (a b : List Int), PyData.eqvAll (pys (a.map .int)) (pys (b.map .int)) = decide (a = b)
  | [], [] => by simp [pys, PyData.eqvAll]
  | [], _ :: _ => by simp [pys, PyData.eqvAll]
  | _ :: _, [] => by simp [pys, PyData.eqvAll]
  | x :: a, y :: b => by
    have ih := eD_ints a b
    simp only [List.map_cons, pys, Dt.py, PyData.eqvAll, PyData.eqv] at ih ⊢
    rw [ih, beq_dec]
    by_cases h : x = y
    · subst h; simp
    · simp [h]
theorem eD_intL (a b : List Int) : eD (.lst (a.map .int)) (.lst (b.map .int)) = decide (a = b) := by
  unfold eD
  simp only [Dt.py, PyData.eqv]
  exact eD_ints a b
theorem up_eq : ∀ {a b : List Int}, a.Pairwise (· < ·) → b.Pairwise (· < ·) → (∀ i, i ∈ a ↔ i ∈ b) → a = b
  | [], [], _, _, _ => rfl
  | [], y :: b, _, _, h => nomatch (h y).mpr (List.mem_cons_self ..)
  | x :: a, [], _, _, h => nomatch (h x).mp (List.mem_cons_self ..)
  | x :: a, y :: b, h1, h2, h => by
    have hx : ∀ {i : Int}, i ∈ a → x < i := fun {i} hi => List.rel_of_pairwise_cons h1 hi
    have hy : ∀ {i : Int}, i ∈ b → y < i := fun {i} hi => List.rel_of_pairwise_cons h2 hi
    have e : x = y := by
      rcases List.mem_cons.mp ((h x).mp (List.mem_cons_self ..)) with z | z
      · exact z
      · rcases List.mem_cons.mp ((h y).mpr (List.mem_cons_self ..)) with w | w
        · exact w.symm
        · have a1 := hy z
          have a2 := hx w
          omega
    subst e
    have t := up_eq h1.of_cons h2.of_cons fun i => ⟨fun hi => by
      rcases List.mem_cons.mp ((h i).mp (List.mem_cons_of_mem _ hi)) with z | z
      · have := hx hi
        omega
      · exact z, fun hi => by
      rcases List.mem_cons.mp ((h i).mpr (List.mem_cons_of_mem _ hi)) with z | z
      · have := hy hi
        omega
      · exact z⟩
    rw [t]
def wNumTop : WF := fun ps Ψ => ∃ (d : Dt) (hi : Int), ps = [.dat d, .dat (.int hi)] ∧ Nice 60 8000 d ∧ Ψ (.dat (.bl (numW 0 hi d))) ps
theorem okLIsNumber (T : Tx K mg) : FnOk P w K mg base CX0 1 (He.ga K "_law_is_number") T.fdLIsNumber ["_law_thing", "_law_top"] (spD K 2 wNumTop) := by
  have B := T.B
  refine T.FLIsNumber.ok scLIsNumber (fun vs H Q E h => h.1) (fun cdv A outer s H vs Q E hr h => ?_)
  refine ⟨_, PSs.nox (pss_one (ps_ret (pe_and (pe_callB (show CallR _ _ (rIsi K) from call_isi) (by rfl) B.b_isinstance boot_isinstance (pa_cons (pv 0) (pa_cons (pe_bltn (v := .ty "int") (by rfl) B.b_int PyProof.Rows.boot_int rfl) pa_nil))) (pe_and (pe_not (pe_callB (show CallR _ _ (rIsi K) from call_isi) (by rfl) B.b_isinstance boot_isinstance (pa_cons (pv 0) (pa_cons (pe_bltn (v := .ty "bool") (by rfl) B.b_bool PyProof.Rows.boot_bool rfl) pa_nil)))) (pe_one (pe_chain op_le op_le pe_int (pv 0) (pv 1))))))), ?_⟩
  refine bodyD h (fun ps Ψ hw hl => ?_)
  obtain ⟨d, hi, rfl, hn, q⟩ := hw
  cases d with
  | int i =>
    have q2 : Ψ (.dat (.bl (decide (0 ≤ i) && decide (i ≤ hi)))) [.dat (.int i), .dat (.int hi)] := q
    by_cases h0 : 0 ≤ i
    · rw [decide_eq_true h0] at q2
      exact ifT (decide_eq_true h0) q2
    · rw [decide_eq_false h0] at q2
      exact ifF (decide_eq_false h0) q2
  | obj c ns ds => exact nomatch hn.pu
  | err c d => exact nomatch hn.pu
  | adr a_ => exact nomatch hn.pu
  | dic _ _ => exact nomatch hn.pu
  | scr _ => exact nomatch hn.pu
  | _ => exact q
def triD (d : Dt) (k : Int) : Bool := match sqL d with
  | some ds => ds.all (placedD k)
  | none => false
def headT (k : Int) : Dt → Bool
  | .tup [n, _, _] => numW 0 k n
  | _ => false
theorem headT_not {k : Int} {ds : List Dt} (h : ds.length ≠ 3) : headT k (.tup ds) = false := by
  match ds, h with
  | [], _ => rfl
  | [_], _ => rfl
  | [_, _], _ => rfl
  | [_, _, _], h => exact absurd rfl h
  | _ :: _ :: _ :: _ :: _, _ => rfl
theorem head_placed {k : Int} {d : Dt} (h : headT k d = false) : placedD k d = false := by
  cases d with
  | tup ds =>
    by_cases h3 : ds.length = 3
    · match ds, h3 with
      | [n, nm, b], _ =>
        have h : numW 0 k n = false := h
        show (numW 0 k n && _) = false
        rw [h]
        rfl
    · exact placed_not h3
  | _ => rfl
theorem all_no {f : Dt → Bool} {ds : List Dt} {j : Nat} {d : Dt} (hd : ds[j]? = some d) (h : f d = false) : ds.all f = false := by
  cases e : ds.all f with
  | false => rfl
  | true =>
    have := List.all_eq_true.mp e d (List.mem_of_getElem? hd)
    rw [h] at this
    cases this
def wTri : WF := fun ps Ψ => ∃ (d : Dt) (k : Int), ps = [.dat d, .dat (.int k)] ∧ Nice 60 8000 d ∧ Ψ (.dat (.bl (triD d k))) ps
theorem okLTriples (T : Tx K mg) : FnOk P w K mg base CX0 2 (He.ga K "_law_triples") T.fdLTriples ["_law_thing", "_law_top"] (spD K 2 wTri) := by
  have B := T.B
  have GLIsNumber : FnOk P w K mg base CX0 1 (He.ga K "_law_is_number") T.fdLIsNumber ["_law_thing", "_law_top"] (spD K 2 wNumTop) := okLIsNumber T
  have bLIsNumber := T.bLIsNumber
  have GLIsName : FnOk P w K mg base CX0 1 (He.ga K "_law_is_name") T.fdLIsName ["_law_thing"] (spD K 1 (wB isNameD)) := okLIsName T
  have bLIsName := T.bLIsName
  refine T.FLTriples.ok scLTriples (fun vs H Q E h => h.1) (fun cdv A outer s H vs Q E hr h => ?_)
  refine ⟨_, PSs.nox (pss_cons (ps_if (pt_not (pt_val (pe_callB (show CallR _ _ (rIsiT K) from call_isiT) (by rfl) B.b_isinstance boot_isinstance (pa_cons (pv 0) (pa_cons (pe_tup (pa_cons (pe_bltn (v := .ty "list") (by rfl) B.b_list PyProof.Rows.boot_list rfl) (pa_cons (pe_bltn (v := .ty "tuple") (by rfl) B.b_tuple PyProof.Rows.boot_tuple rfl) pa_nil))) pa_nil))))) (pss_one (ps_ret pe_bl)) pss_nil)
        (pss_cons (ps_for PassesOwn.never rfl (piAny (K := K) rfl (pv 0)) (pg_name (i := 2) scLTriples.nd rfl (Or.inl rfl))
        (pss_cons (ps_if (ptPure (PW.pt (pw_or (pt_not (pt_val (pe_callB (show CallR _ _ (rIsi K) from call_isi) (by rfl) B.b_isinstance boot_isinstance (pa_cons (pv 2) (pa_cons (pe_bltn (v := .ty "tuple") (by rfl) B.b_tuple PyProof.Rows.boot_tuple rfl) pa_nil))))) (pw_or (pt_cmpR (opNeA (K := K) rfl hr.units) (pe_callB (show CallR _ _ (rLen K) from call_len) (by rfl) B.b_len PySem.boot_len (pa_cons (pv 2) pa_nil)) pe_int (nomark _)) (pw_or1 (pt_not (pt_val (pe_call GLIsNumber (hr.mono (by decide)) (by rfl) T.gLIsNumber T.FLIsNumber.kp bLIsNumber .nil pass0 (pa_cons (pe_ix (show IxR _ (rIx K) from ix_seq) (pv 2) pe_int (fun _ _ => rfl)) (pa_cons (pv 1) pa_nil)))))))))) (pss_one (ps_ret pe_bl)) pss_nil)
        (pss_one (ps_if (ptPure (PW.pt (pw_or (pt_not (pt_val (pe_call GLIsName (hr.mono (by decide)) (by rfl) T.gLIsName T.FLIsName.kp bLIsName .nil pass0 (pa_cons (pe_ix (show IxR _ (rIx K) from ix_seq) (pv 2) pe_int (fun _ _ => rfl)) pa_nil)))) (pw_or1 (pt_not (pt_val (pe_call GLIsNumber (hr.mono (by decide)) (by rfl) T.gLIsNumber T.FLIsNumber.kp bLIsNumber .nil pass0 (pa_cons (pe_ix (show IxR _ (rIx K) from ix_seq) (pv 2) pe_int (fun _ _ => rfl)) (pa_cons (pe_op op_pow pe_int pe_int) pa_nil))))))))) (pss_one (ps_ret pe_bl)) pss_nil))))
        (pss_one (ps_ret pe_bl)))), ?_⟩
  refine bodyD h (fun ps Ψ hw hl => ?_)
  obtain ⟨d, k, rfl, hn, q⟩ := hw
  cases d with
  | lst ds =>
    have np := nice_partS rfl hn
    have q : Ψ (.dat (.bl (ds.all (placedD k)))) [.dat (.lst ds), .dat (.int k)] := q
    refine ⟨fun j ρ => (ds.take j).all (placedD k) = true ∧ ρ = [.dat (.lst ds), .dat (.int k), .un], To.of ⟨rfl, rfl⟩ (by get_elem_tactic_trivial), ?_, ?_⟩
    · rintro j ρ d hd ⟨ha, rfl⟩
      have nd := np d (List.mem_of_getElem? hd)
      refine ⟨!headT k d, ?_, ?_⟩
      · cases d with
        | tup es =>
          by_cases h3 : es.length = 3
          · match es, h3 with
            | [n, nm, b], _ => exact ⟨_, rfl, rfl, _, _, rfl, nice_part nd n (by simp), rfl, rfl⟩
          · refine ifT (neDiff (fun z => h3 (by have : ((es.length : Nat) : Int) = 3 := z; omega))) ⟨?_, rfl⟩
            rw [headT_not h3]
            rfl
        | obj c ns ds => exact nomatch nd.pu
        | err c d => exact nomatch nd.pu
        | adr a_ => exact nomatch nd.pu
        | dic _ _ => exact nomatch nd.pu
        | scr _ => exact nomatch nd.pu
        | _ => exact ⟨rfl, rfl⟩
      cases eh : headT k d with
      | false =>
        rw [all_no hd (head_placed eh)] at q
        exact q
      | true =>
        obtain ⟨n, nm, b, rfl⟩ : ∃ n nm b, d = .tup [n, nm, b] := by
          cases d with
          | tup es =>
            by_cases h3 : es.length = 3
            · match es, h3 with
              | [n, nm, b], _ => exact ⟨n, nm, b, rfl⟩
            · rw [headT_not h3] at eh
              cases eh
          | _ => exact Bool.noConfusion (show false = true from eh)
        have eh : numW 0 k n = true := eh
        have ep : placedD k (.tup [n, nm, b]) = (isNameD nm && numW 0 1000000 b) := by
          show (numW 0 k n && (isNameD nm && numW 0 1000000 b)) = _
          rw [eh]
          rfl
        refine ⟨!(isNameD nm && numW 0 1000000 b), ?_, ?_⟩
        · refine ⟨_, rfl, rfl, _, rfl, nice_part nd nm (by simp), ?_⟩
          cases e2 : isNameD nm with
          | false => exact ⟨rfl, rfl⟩
          | true => exact ⟨_, rfl, ⟨by decide, by decide, by decide⟩, rfl, _, _, rfl, nice_part nd b (by simp), rfl, rfl⟩
        cases e3 : (isNameD nm && numW 0 1000000 b) with
        | false =>
          rw [all_no hd (ep.trans e3)] at q
          exact q
        | true =>
          refine To.of ⟨?_, rfl⟩ (by get_elem_tactic_trivial)
          rw [List.take_add_one, hd, List.all_append, ha]
          show (placedD k (.tup [n, nm, b]) && true) = true
          rw [ep, e3]
          rfl
    · rintro ρ ⟨ha, rfl⟩
      rw [List.take_length] at ha
      rw [ha] at q
      exact q
  | tup ds =>
    have np := nice_partS rfl hn
    have q : Ψ (.dat (.bl (ds.all (placedD k)))) [.dat (.tup ds), .dat (.int k)] := q
    refine ⟨fun j ρ => (ds.take j).all (placedD k) = true ∧ ρ = [.dat (.tup ds), .dat (.int k), .un], To.of ⟨rfl, rfl⟩ (by get_elem_tactic_trivial), ?_, ?_⟩
    · rintro j ρ d hd ⟨ha, rfl⟩
      have nd := np d (List.mem_of_getElem? hd)
      refine ⟨!headT k d, ?_, ?_⟩
      · cases d with
        | tup es =>
          by_cases h3 : es.length = 3
          · match es, h3 with
            | [n, nm, b], _ => exact ⟨_, rfl, rfl, _, _, rfl, nice_part nd n (by simp), rfl, rfl⟩
          · refine ifT (neDiff (fun z => h3 (by have : ((es.length : Nat) : Int) = 3 := z; omega))) ⟨?_, rfl⟩
            rw [headT_not h3]
            rfl
        | obj c ns ds => exact nomatch nd.pu
        | err c d => exact nomatch nd.pu
        | adr a_ => exact nomatch nd.pu
        | dic _ _ => exact nomatch nd.pu
        | scr _ => exact nomatch nd.pu
        | _ => exact ⟨rfl, rfl⟩
      cases eh : headT k d with
      | false =>
        rw [all_no hd (head_placed eh)] at q
        exact q
      | true =>
        obtain ⟨n, nm, b, rfl⟩ : ∃ n nm b, d = .tup [n, nm, b] := by
          cases d with
          | tup es =>
            by_cases h3 : es.length = 3
            · match es, h3 with
              | [n, nm, b], _ => exact ⟨n, nm, b, rfl⟩
            · rw [headT_not h3] at eh
              cases eh
          | _ => exact Bool.noConfusion (show false = true from eh)
        have eh : numW 0 k n = true := eh
        have ep : placedD k (.tup [n, nm, b]) = (isNameD nm && numW 0 1000000 b) := by
          show (numW 0 k n && (isNameD nm && numW 0 1000000 b)) = _
          rw [eh]
          rfl
        refine ⟨!(isNameD nm && numW 0 1000000 b), ?_, ?_⟩
        · refine ⟨_, rfl, rfl, _, rfl, nice_part nd nm (by simp), ?_⟩
          cases e2 : isNameD nm with
          | false => exact ⟨rfl, rfl⟩
          | true => exact ⟨_, rfl, ⟨by decide, by decide, by decide⟩, rfl, _, _, rfl, nice_part nd b (by simp), rfl, rfl⟩
        cases e3 : (isNameD nm && numW 0 1000000 b) with
        | false =>
          rw [all_no hd (ep.trans e3)] at q
          exact q
        | true =>
          refine To.of ⟨?_, rfl⟩ (by get_elem_tactic_trivial)
          rw [List.take_add_one, hd, List.all_append, ha]
          show (placedD k (.tup [n, nm, b]) && true) = true
          rw [ep, e3]
          rfl
    · rintro ρ ⟨ha, rfl⟩
      rw [List.take_length] at ha
      rw [ha] at q
      exact q
  | obj c ns ds => exact nomatch hn.pu
  | err c d => exact nomatch hn.pu
  | adr a_ => exact nomatch hn.pu
  | dic _ _ => exact nomatch hn.pu
  | scr _ => exact nomatch hn.pu
  | _ => exact q
end
section
variable {P : Program} {w : World} {K : PySem.W.Frag} {mg : Str → Option Value} {base : Heap}
local macro_rules | `(tactic| get_elem_tactic_trivial) => `(tactic| (repeat first | exact Wk.nil | exact Wk'.nil | refine Wk.same ?_ | refine Wk'.same ?_ | refine Wk.un (fun _ z => nomatch z) ?_ | refine Wk'.un ?_))
/-! what is due -/
theorem nice_intsP {P : List Int} (h : ∀ i ∈ P, 0 ≤ i ∧ i ≤ 1000000) (l : P.length ≤ 64) : Nice 1 64 (.lst (P.map .int)) := by
  refine (nice_lst (n := 0) (b := 0) (ds := P.map .int) fun d hd => ?_).mono (Nat.le_refl _) (by rw [List.length_map]; omega)
  obtain ⟨i, hi, rfl⟩ := List.mem_map.mp hd
  have := h i hi
  exact nice_small (by omega) (by omega)
def wDue30 : WF := fun ps Ψ => ∃ dn db dl dy : Dt, ps = [.dat (.lst [dn, db, dl, dy])] ∧ Nice 60 8000 dn ∧ Nice 60 8000 db ∧ Nice 60 8000 dl ∧ Nice 60 8000 dy ∧ lenS dy < 64 ∧ Ψ (.dat (.str (dueH dn db dl dy))) ps
theorem okLDue (T : Tx K mg) : FnOk P w K mg base CX0 3 (He.ga K "_law_due") T.fdLDue ["_law_hand"] (spD K 1 wDue30) := by
  have B := T.B
  have GLTriples : FnOk P w K mg base CX0 2 (He.ga K "_law_triples") T.fdLTriples ["_law_thing", "_law_top"] (spD K 2 wTri) := okLTriples T
  have bLTriples := T.bLTriples
  have GLIsName : FnOk P w K mg base CX0 1 (He.ga K "_law_is_name") T.fdLIsName ["_law_thing"] (spD K 1 (wB isNameD)) := okLIsName T
  have bLIsName := T.bLIsName
  have GLIsNumber : FnOk P w K mg base CX0 1 (He.ga K "_law_is_number") T.fdLIsNumber ["_law_thing", "_law_top"] (spD K 2 wNumTop) := okLIsNumber T
  have bLIsNumber := T.bLIsNumber
  refine T.FLDue.ok scLDue (fun vs H Q E h => h.1) (fun cdv A outer s H vs Q E hr h => ?_)
  refine ⟨_, PSs.nox (pss_cons (ps_asg (pv 0) (show PG _ _ (gUnl K 4 _) from pg_unl rfl (pgs_cons (pg_name (i := 1) scLDue.nd rfl (Or.inl rfl)) (pgs_cons (pg_name (i := 2) scLDue.nd rfl (Or.inl rfl)) (pgs_cons (pg_name (i := 3) scLDue.nd rfl (Or.inl rfl)) (pgs_cons (pg_name (i := 4) scLDue.nd rfl (Or.inl rfl)) pgs_nil))))))
        (pss_cons (ps_if (PW.pt (pw_or (pt_not (pt_val (pe_call GLIsName (hr.mono (by decide)) (by rfl) T.gLIsName T.FLIsName.kp bLIsName .nil pass0 (pa_cons (pv 1) pa_nil)))) (pw_or1 (pt_not (pt_val (pe_call GLIsNumber (hr.mono (by decide)) (by rfl) T.gLIsNumber T.FLIsNumber.kp bLIsNumber .nil pass0 (pa_cons (pv 2) (pa_cons (pe_op op_pow pe_int pe_int) pa_nil)))))))) (pss_one (ps_ret (pe_ifExp (pt_val (pe_call GLIsName (hr.mono (by decide)) (by rfl) T.gLIsName T.FLIsName.kp bLIsName .nil pass0 (pa_cons (pv 1) pa_nil))) pe_str pe_str))) pss_nil)
        (pss_cons (ps_if (PW.pt (pw_or (pt_not (pt_val (pe_call GLTriples (hr.mono (by decide)) (by rfl) T.gLTriples T.FLTriples.kp bLTriples .nil pass0 (pa_cons (pv 3) (pa_cons pe_int pa_nil))))) (pw_or1 (pt_cmpR op_gt (pe_callB (show CallR _ _ (rLen K) from call_len) (by rfl) B.b_len PySem.boot_len (pa_cons (pv 3) pa_nil)) pe_int (nomark _))))) (pss_one (ps_ret pe_str)) pss_nil)
        (pss_cons (ps_if (pt_not (pt_val (pe_call GLTriples (hr.mono (by decide)) (by rfl) T.gLTriples T.FLTriples.kp bLTriples .nil pass0 (pa_cons (pv 4) (pa_cons (pe_callB (show CallR _ _ (rLen K) from call_len) (by rfl) B.b_len PySem.boot_len (pa_cons (pv 3) pa_nil)) pa_nil))))) (pss_one (ps_ret pe_str)) pss_nil)
        (pss_cons (ps_setLc (i := 5) (own := [("_law_one", 6)]) (g := gName 6) (tt := tYes) (by rfl) scLDue.nd rfl rfl (sw_true rfl rfl rfl (by decide +kernel)) (piAny (K := K) rfl (pv 4)) (blkOk_by (own := [("_law_one", 6)]) (N := ["_law_hand", "_law_name", "_law_body", "_law_things", "_law_told_here", "_law_places", "_law_one"]) (sc := defScope sLDue) (by decide +kernel)) (fun _ _ _ _ _ => by exact (pg_name (i := 6) scLDue.nd rfl (Or.inl rfl))) (fun _ _ _ _ _ => pts_nil) (fun _ _ _ _ _ => (pe_ix (show IxR _ (rIx K) from ix_seq) (pv 6) pe_int (fun _ _ => rfl))))
        (pss_one (ps_ret (pe_ifExp (pt_cmpR (opEqA (K := K) rfl hr.units) (pv 5) (show PE _ _ (tCB (cSS K) (tCons _ tNil)) from pe_ss rfl (by rfl) B.b_sorted (by rfl) B.b_set (pv 5)) (nomark _)) pe_str pe_str)))))))), ?_⟩
  refine bodyD h (fun ps Ψ hw hl => ?_)
  obtain ⟨dn, db, dl, dy, rfl, nn, nb, nl, ny, ly, q⟩ := hw
  have sz : sizeLine = 16777216 := by decide
  refine ⟨rfl, rfl, dn, rfl, nn, ?_⟩
  cases e1 : isNameD dn with
  | false =>
    have e : dueH dn db dl dy = "name" := if_pos e1
    rw [e] at q
    refine ⟨rfl, dn, rfl, nn, ?_⟩
    rw [e1]
    exact q
  | true =>
  have n1 : ¬ isNameD dn = false := by rw [e1]; exact Bool.noConfusion
  refine ⟨⟨by decide, by decide, by decide⟩, rfl, db, 1000000, rfl, nb, ?_⟩
  cases e2 : numW 0 1000000 db with
  | false =>
    have e : dueH dn db dl dy = "body" := by unfold dueH; rw [if_neg n1, if_pos e2]
    rw [e] at q
    refine ⟨rfl, dn, rfl, nn, ?_⟩
    rw [e1]
    exact q
  | true =>
  have n2 : ¬ numW 0 1000000 db = false := by rw [e2]; exact Bool.noConfusion
  refine ⟨rfl, dl, 7, rfl, nl, ?_⟩
  cases e3 : triD dl 7 with
  | false =>
    have e : dueH dn db dl dy = "loads" := by
      unfold dueH
      rw [if_neg n1, if_neg n2, if_pos]
      unfold loadsD
      unfold triD at e3
      cases es : sqL dl with
      | none => rfl
      | some ds =>
        rw [es] at e3
        show (decide (ds.length ≤ 3) && ds.all (placedD 7)) = false
        rw [show ds.all (placedD 7) = false from e3, Bool.and_false]
    rw [e] at q
    exact q
  | true =>
  obtain ⟨k, ls, rfl⟩ : ∃ (k : Bool) (ls : List Dt), dl = sqD k ls := by
    cases dl with
    | lst ds => exact ⟨false, ds, rfl⟩
    | tup ds => exact ⟨true, ds, rfl⟩
    | _ => exact Bool.noConfusion (show false = true from e3)
  have e3 : ls.all (placedD 7) = true := by
    unfold triD at e3
    rw [sqL_sqD] at e3
    exact e3
  have ln := nice_lenS (sqL_sqD k ls) nl
  by_cases l3 : ls.length ≤ 3
  rotate_left
  · have e : dueH dn db (sqD k ls) dy = "loads" := by
      unfold dueH
      rw [if_neg n1, if_neg n2, if_pos]
      unfold loadsD
      rw [sqL_sqD]
      show (decide (ls.length ≤ 3) && ls.all (placedD 7)) = false
      rw [decide_eq_false l3]
      rfl
    rw [e] at q
    cases k
    all_goals exact ifT (decide_eq_true (by omega)) q
  have n3 : ¬ loadsD (sqD k ls) = false := by
    have e : loadsD (sqD k ls) = true := by
      unfold loadsD
      rw [sqL_sqD]
      show (decide (ls.length ≤ 3) && ls.all (placedD 7)) = true
      rw [decide_eq_true l3, e3]
      rfl
    rw [e]
    exact Bool.noConfusion
  have eL : lenS (sqD k ls) = ls.length := lenS_sqD k ls
  have eNo : triD dy (ls.length : Nat) = false → dueH dn db (sqD k ls) dy = "lies" := fun e4 => by
    unfold dueH
    rw [if_neg n1, if_neg n2, if_neg n3, if_pos]
    rw [eL]
    unfold liesD
    unfold triD at e4
    cases es : sqL dy with
    | none => rfl
    | some ds =>
      rw [es] at e4
      show (ds.all (placedD (ls.length : Nat)) && risI (ds.map placeI)) = false
      rw [show ds.all (placedD (ls.length : Nat)) = false from e4]
      rfl
  have eYes : ∀ (m : Bool) (ys : List Dt), ys.all (placedD (ls.length : Nat)) = true → dueH dn db (sqD k ls) (sqD m ys) = if risI (ys.map placeI) = true then "" else "lies" := fun m ys e4 => by
    have e5 : liesD (sqD m ys) ls.length = risI (ys.map placeI) := by
      unfold liesD
      rw [sqL_sqD]
      show (ys.all (placedD (ls.length : Nat)) && _) = _
      rw [e4]
      rfl
    unfold dueH
    rw [if_neg n1, if_neg n2, if_neg n3, eL, e5]
    cases risI (ys.map placeI) with
    | true => rfl
    | false => rfl
  cases k
  all_goals
    refine ifF (decide_eq_false (by omega)) ⟨rfl, dy, _, rfl, ny, ?_⟩
    cases e4 : triD dy (ls.length : Nat) with
    | false =>
      rw [eNo e4] at q
      exact q
    | true =>
    obtain ⟨m, ys, rfl⟩ : ∃ (m : Bool) (ys : List Dt), dy = sqD m ys := by
      cases dy with
      | lst ds => exact ⟨false, ds, rfl⟩
      | tup ds => exact ⟨true, ds, rfl⟩
      | _ => exact Bool.noConfusion (show false = true from e4)
    have e4 : ys.all (placedD (ls.length : Nat)) = true := by
      unfold triD at e4
      rw [sqL_sqD] at e4
      exact e4
    rw [lenS_sqD] at ly
    have pl := List.all_eq_true.mp e4
    rw [eYes m ys e4] at q
    have P0 : ∀ i ∈ ys.map placeI, 0 ≤ i ∧ i ≤ 1000000 := fun i hi => by
      obtain ⟨d, hd, rfl⟩ := List.mem_map.mp hi
      obtain ⟨i, nm, b, rfl, h0, h1, -, -⟩ := placed_yes (pl d hd)
      exact ⟨h0, by show i ≤ 1000000; omega⟩
    cases m
    all_goals
      refine ⟨⟨rfl, rfl⟩, fun j acc ρ => acc = (ys.take j).map (fun d => .int (placeI d)) ∧ ρ = [.dat (.lst [dn, db, sqD _ ls, sqD _ ys]), .dat dn, .dat db, .dat (sqD _ ls), .dat (sqD _ ys), .un, .un], ⟨rfl, rfl⟩, ?_, ?_⟩
      · rintro j acc ρ d hd ⟨rfl, rfl⟩
        obtain ⟨i, nm, b, rfl, h0, h1, -, -⟩ := placed_yes (pl d (List.mem_of_getElem? hd))
        refine ⟨_, rfl, rfl, by rw [List.length_map, List.length_take]; omega, ?_, rfl⟩
        rw [List.take_add_one, hd, List.map_append]
        rfl
      rintro acc ρ ⟨rfl, rfl⟩
      rw [List.take_length]
      have eP : ys.map (fun d => Dt.int (placeI d)) = (ys.map placeI).map .int := by rw [List.map_map]; rfl
      rw [eP]
      refine ⟨rfl, .inl ⟨ys.map placeI, rfl, by rw [List.length_map]; omega, fun out up mem len => ?_⟩⟩
      have lP : (ys.map placeI).length ≤ 64 := by rw [List.length_map]; omega
      have nP := nice_intsP P0 lP
      have nO := nice_intsP (P := out) (fun i hi => P0 i ((mem i).mp hi)) (by omega)
      have eR : decide (ys.map placeI = out) = risI (ys.map placeI) := by
        cases er : risI (ys.map placeI) with
        | true => exact decide_eq_true (up_eq ((risI_pair _).mp er) up fun i => (mem i).symm)
        | false =>
          refine decide_eq_false fun z => ?_
          rw [(risI_pair _).mpr (by rw [z]; exact up)] at er
          cases er
      refine ⟨⟨nP.pu, nO.pu, nP.shaped (by decide), nO.shaped (by decide)⟩, ?_⟩
      rw [if_neg Bool.false_ne_true, eD_intL, eR]
      cases er : risI (ys.map placeI) with
      | true =>
        rw [er] at q
        exact q
      | false =>
        rw [er] at q
        exact q
end
section
variable {P : Program} {w : World} {K : PySem.W.Frag} {mg : Str → Option Value} {base : Heap}
local macro_rules | `(tactic| get_elem_tactic_trivial) => `(tactic| (repeat first | exact Wk.nil | exact Wk'.nil | refine Wk.same ?_ | refine Wk'.same ?_ | refine Wk.un (fun _ z => nomatch z) ?_ | refine Wk'.un ?_))
/-! what making a hand says -/
def wTold30 : W3F := fun ps μ Ψ _ => ∃ dn db dl dy : Dt, ps = [.dat (.lst [dn, db, dl, dy])] ∧ μ = [] ∧ Nice 60 8000 dn ∧ Nice 60 8000 db ∧ Nice 60 8000 dl ∧ Nice 60 8000 dy ∧ Ψ (.dat (.str (dueH dn db dl dy))) ps []
theorem Tx.kbHandInit_3_loads_lies {K : PySem.W.Frag} {mg : Str → Option Value} (T : Tx K mg) : ∃ g : List Value → List Value → List Value, KBn K T.fdHandInit ["self", "name", "body", "loads", "lies"] 3 ["loads", "lies"] g (gB [0, 1, 2, 3, 4] []) := kbKw T.FHandInit 3 ["loads", "lies"] [0, 1, 2, 3, 4] [] (by simp) (by simp) fun D doc pm an cdv ct us mv ws h1 h2 h3 => match us, mv, ws, h1, h2, h3 with
  | [u0, u1, u2], [], [w0, w1], _, _, _ => rfl
theorem okLTold (T : Tx K mg) : FnOk P w K mg base CX0 7 (He.ga K "_law_told") T.fdLTold ["_law_hand"] (sp3 K 1 wTold30) := by
  have B := T.B
  have GHandInit : FnOk P w K mg base (L2.CX P w) 5 (He.ma K (He.ga K "Hand") "__init__") T.fdHandInit ["self", "name", "body", "loads", "lies"] (sp3 K 5 wHandX) := FnOk.nl (Hx.okHandInit T)
  obtain ⟨_, kbHandInit_3_loads_lies⟩ := T.kbHandInit_3_loads_lies
  refine T.FLTold.ok scLTold (fun vs H Q E h => h.1) (fun cdv A outer s H vs Q E hr h => ?_)
  refine ⟨_, PSs.nox (pss_cons (ps_set (i := 1) scLTold.nd rfl (.inl rfl) pe_non)
        (pss_cons (show PS _ _ (tTry K _ 2 _ _ (fun _ _ _ _ => False)) from ps_try_keep (i := 2) (Wo := fun _ _ _ _ => False) rfl rfl rfl scLTold.nd rfl rfl ⟨rfl, by decide, Or.inl T.gStartError⟩ takes0
        (fun W pn xe tk po => (pss_one (ps_expr (asPE (tMake3 _ 2 2 _ _ _ _ _) (pe_make3 (ks := ["loads", "lies"]) T.mkHand GHandInit (hr.mono (by decide)) (by rfl) T.gHand kbHandInit_3_loads_lies (fun σ => passAt tk σ) (pa_cons (pe_ix (show IxR _ (rIx K) from ix_seq) (pv 0) pe_int (fun _ _ => rfl)) (pa_cons (pe_ix (show IxR _ (rIx K) from ix_seq) (pv 0) pe_int (fun _ _ => rfl)) pa_nil)) (pk_cons (pe_ix (show IxR _ (rIx K) from ix_seq) (pv 0) pe_int (fun _ _ => rfl)) (pk_cons (pe_ix (show IxR _ (rIx K) from ix_seq) (pv 0) pe_int (fun _ _ => rfl)) pk_nil)))))))
        (fun a oe cls d pn hz hf => (pss_one (ps_set (i := 1) scLTold.nd rfl (.inl rfl) (pv 2)))))
        (pss_cons (ps_if (pt_cmpR (show OpR _ _ rIsNone from op_isN) (pv 1) pe_non (nomark _)) (pss_one (ps_ret pe_str)) pss_nil)
        (pss_cons (ps_set (i := 3) scLTold.nd rfl (.inl rfl) (pe_and (pe_callB (show CallR _ _ (rIsC K) from call_isC) (by rfl) B.b_isinstance boot_isinstance (pa_cons (pv 1) (pa_cons (pe_glob (v := .ref (He.ga K "BadHand")) (by rfl) T.gBadHand rfl) pa_nil))) (pe_and (pe_callB (show CallR _ _ (rIsC K) from call_isC) (by rfl) B.b_isinstance boot_isinstance (pa_cons (pv 1) (pa_cons (pe_bltn (v := .ty "ValueError") (by rfl) B.b_ValueError (by decide +kernel) rfl) pa_nil))) (pe_one (pe_not (pe_callB (show CallR _ _ (rIsC K) from call_isC) (by rfl) B.b_isinstance boot_isinstance (pa_cons (pv 1) (pa_cons (pe_glob (v := .ref (He.ga K "BadMachine")) (by rfl) T.gBadMachine rfl) pa_nil))))))))
        (pss_one (ps_ret (pe_ifExp (pt_val (pv 3)) (show PE _ _ (tWhatC K _) from pe_whatC (pv 1)) pe_str))))))), ?_⟩
  refine body3 h (fun ps μ Ψ Ξ hw hl => ?_)
  obtain ⟨dn, db, dl, dy, rfl, rfl, nn, nb, nl, ny, q⟩ := hw
  have hc : ("BadHand" : Str) ∈ ERRS := by decide +kernel
  have e1 : IsEv K "BadHand" (.ref (He.ga K "BadHand")) true := evOne T hc hc (by decide +kernel)
  have e2 : IsEv K "BadHand" (.ty "ValueError") true := evV T hc
  have e3 : IsEv K "BadHand" (.ref (He.ga K "BadMachine")) false := evOne T hc (by decide +kernel) (by decide +kernel)
  refine ⟨dn, rfl, db, rfl, dl, rfl, dy, rfl, ⟨rfl, rfl⟩, "Hand", rfl, fun a => ⟨rfl, [], [], .refl _, a, dn, db, dl, dy, rfl, rfl, nn, nb, nl, ny, fun _ => ?_, fun ls ys e _ _ => ?_⟩⟩
  · exact ⟨exRoot T hc, ⟨by decide, by show 2 < 4; decide⟩, rfl, true, e1, true, e2, false, e3, evW T hc, _, .nil, q⟩
  · rw [e] at q
    exact ⟨rfl, _, .nil, q⟩

end
section
variable {P : Program} {w : World} {K : PySem.W.Frag} {mg : Str → Option Value} {base : Heap}
local macro_rules | `(tactic| get_elem_tactic_trivial) => `(tactic| (repeat first | exact Wk.nil | exact Wk'.nil | refine Wk.same ?_ | refine Wk'.same ?_ | refine Wk.un (fun _ z => nomatch z) ?_ | refine Wk'.un ?_))
/-! hands drawn -/
def Hd.u (h : Hd) : Dt := .tup [nD h.l, .int h.b, .lst (h.ls.map Tr.d), .lst (h.ys.map Tr.d)]
def wGood30 : WF := fun ps Ψ => ∃ (n : Int) (ls : List (List Nat)), ps = [.box n, .dat (.lst (ls.map nD))] ∧ n < 700000000 ∧ (∀ l ∈ ls, Gd l) ∧ ls ≠ [] ∧ ls.length ≤ 100 ∧ ∀ (h : Hd) (m : Int), h.ok → m ≤ n + 100 → Ψ (.dat h.u) [.box m, .dat (.lst (ls.map nD))]
theorem okLGood (T : Tx K mg) : FnOk P w K mg base CX0 3 (He.ga K "_law_good") T.fdLGood ["_law_box_here", "_law_names_here"] (spD K 2 wGood30) := by
  have B := T.B
  have GLPick : FnOk P w K mg base CX0 2 (He.ga K "_law_pick") T.fdLPick ["_law_box_here", "_law_things"] (spD K 2 wPick) := okLPick T
  have bLPick := T.bLPick
  have GLTake : FnOk P w K mg base CX0 1 (He.ga K "_law_take") T.fdLTake ["_law_box_here", "_law_size"] (spD K 2 wTake) := okTakeD T
  have bLTake := T.bLTake
  refine T.FLGood.ok scLGood (fun vs H Q E h => h.1) (fun cdv A outer s H vs Q E hr h => ?_)
  refine ⟨_, PSs.nox (pss_cons (ps_setLc (i := 2) (own := [("_law_k", 3)]) (g := gName 3) (tt := tYes) (by rfl) scLGood.nd rfl rfl (sw_true rfl rfl rfl (by decide +kernel)) (pi_range1 (by rfl) B.b_range (pa_cons (pe_call GLTake (hr.mono (by decide)) (by rfl) T.gLTake T.FLTake.kp bLTake .nil pass0 (pa_cons (pv 0) (pa_cons pe_int pa_nil))) pa_nil)) (blkOk_by (own := [("_law_k", 3)]) (N := ["_law_box_here", "_law_names_here", "_law_things", "_law_k", "_law_places", "_law_place", "_law_told_here"]) (sc := defScope sLGood) (by decide +kernel)) (fun _ _ _ _ _ => by exact (pg_name (i := 3) scLGood.nd rfl (Or.inl rfl))) (fun _ _ _ _ _ => pts_nil) (fun _ _ _ _ _ => (pe_tup (pa_cons (pe_call GLTake (hr.mono (by decide)) (by rfl) T.gLTake T.FLTake.kp bLTake .nil pass0 (pa_cons (pv 0) (pa_cons pe_int pa_nil))) (pa_cons (pe_call GLPick (hr.mono (by decide)) (by rfl) T.gLPick T.FLPick.kp bLPick .nil pass0 (pa_cons (pv 0) (pa_cons (pv 1) pa_nil))) (pa_cons (pe_call GLTake (hr.mono (by decide)) (by rfl) T.gLTake T.FLTake.kp bLTake .nil pass0 (pa_cons (pv 0) (pa_cons (pe_op op_add (pe_op op_pow pe_int pe_int) pe_int) pa_nil))) pa_nil))))))
        (pss_cons (ps_setLc (i := 4) (own := [("_law_place", 5)]) (g := gName 5) (by rfl) scLGood.nd rfl rfl (sw_true rfl rfl rfl (by decide +kernel)) (pi_range1 (by rfl) B.b_range (pa_cons (pe_op op_add (pe_callB (show CallR _ _ (rLen K) from call_len) (by rfl) B.b_len PySem.boot_len (pa_cons (pv 2) pa_nil)) pe_int) pa_nil)) (blkOk_by (own := [("_law_place", 5)]) (N := ["_law_box_here", "_law_names_here", "_law_things", "_law_k", "_law_places", "_law_place", "_law_told_here"]) (sc := defScope sLGood) (by decide +kernel)) (fun _ _ _ _ _ => by exact (pg_name (i := 5) scLGood.nd rfl (Or.inl rfl))) (fun _ _ _ _ _ => pts_one (pt_cmpR (opEqA (K := K) rfl hr.units) (pe_call GLTake (hr.mono (by decide)) (by rfl) T.gLTake T.FLTake.kp bLTake .nil pass0 (pa_cons (pv 0) (pa_cons pe_int pa_nil))) pe_int (nomark _))) (fun _ _ _ _ _ => (pv 5)))
        (pss_cons (ps_setLc (i := 6) (own := [("_law_place", 5)]) (g := gName 5) (tt := tYes) (by rfl) scLGood.nd rfl rfl (sw_true rfl rfl rfl (by decide +kernel)) (piAny (K := K) rfl (pv 4)) (blkOk_by (own := [("_law_place", 5)]) (N := ["_law_box_here", "_law_names_here", "_law_things", "_law_k", "_law_places", "_law_place", "_law_told_here"]) (sc := defScope sLGood) (by decide +kernel)) (fun _ _ _ _ _ => by exact (pg_name (i := 5) scLGood.nd rfl (Or.inl rfl))) (fun _ _ _ _ _ => pts_nil) (fun _ _ _ _ _ => (pe_tup (pa_cons (pv 5) (pa_cons (pe_call GLPick (hr.mono (by decide)) (by rfl) T.gLPick T.FLPick.kp bLPick .nil pass0 (pa_cons (pv 0) (pa_cons (pv 1) pa_nil))) (pa_cons (pe_call GLTake (hr.mono (by decide)) (by rfl) T.gLTake T.FLTake.kp bLTake .nil pass0 (pa_cons (pv 0) (pa_cons pe_int pa_nil))) pa_nil))))))
        (pss_one (ps_ret (pe_tup (pa_cons (pe_call GLPick (hr.mono (by decide)) (by rfl) T.gLPick T.FLPick.kp bLPick .nil pass0 (pa_cons (pv 0) (pa_cons (pv 1) pa_nil))) (pa_cons (pe_ix (show IxR _ (rIx K) from ix_seq) (pe_lst (pa_cons pe_int (pa_cons (pe_op op_pow pe_int pe_int) (pa_cons (pe_call GLTake (hr.mono (by decide)) (by rfl) T.gLTake T.FLTake.kp bLTake .nil pass0 (pa_cons (pv 0) (pa_cons pe_int pa_nil))) pa_nil)))) (pe_call GLTake (hr.mono (by decide)) (by rfl) T.gLTake T.FLTake.kp bLTake .nil pass0 (pa_cons (pv 0) (pa_cons pe_int pa_nil))) (fun _ _ => rfl)) (pa_cons (pv 2) (pa_cons (pv 6) pa_nil)))))))))), ?_⟩
  refine bodyD h (fun ps Ψ hw hl => ?_)
  obtain ⟨n, ls, rfl, hn, gl, h0, hl, q⟩ := hw
  have sz : sizeLine = 16777216 := by decide
  have lne : ls.map nD ≠ [] := fun z => h0 (List.map_eq_nil_iff.mp z)
  have lle : (ls.map nD).length ≤ 1000 := by rw [List.length_map]; omega
  have pk : ∀ {d : Dt}, d ∈ ls.map nD → ∃ l, Gd l ∧ d = nD l := fun {d} h => by
    obtain ⟨l, hl, rfl⟩ := List.mem_map.mp h
    exact ⟨l, gl l hl, rfl⟩
  have q : ∀ (h : Hd) (m : Int), h.ok → m ≤ n + 100 → Ψ (.dat h.u) [.box m, .dat (.lst (ls.map nD))] := q
  refine ⟨rfl, ⟨by omega, by decide, by decide⟩, fun r r0 r1 => ⟨by omega, by omega, ⟨rfl, rfl⟩, fun j acc ρ => ∃ (ts : List Tr) (m : Int), acc = ts.map Tr.d ∧ ts.length = j ∧ (∀ t ∈ ts, t.ok 7) ∧ m ≤ n + 1 + 3 * j ∧ ρ = [.box m, .dat (.lst (ls.map nD)), .un, .un, .un, .un, .un], ⟨[], _, rfl, rfl, fun t h => (nomatch h), by omega, rfl⟩, ?_, ?_⟩⟩
  · rintro j acc ρ d hd ⟨ts, m, rfl, hlen, hts, hm, rfl⟩
    obtain ⟨hj, rfl⟩ := rng_at hd
    refine ⟨rfl, ⟨by omega, by decide, by decide⟩, fun p p0 p1 => ?_⟩
    refine ⟨rfl, _, _, rfl, by omega, lne, lle, fun e he => ?_⟩
    obtain ⟨l, gl1, rfl⟩ := pk he
    refine ⟨⟨by decide, by decide, by decide⟩, rfl, ⟨by omega, by decide, by decide⟩, fun b b0 b1 => ?_⟩
    have b1 : b < 1000001 := b1
    refine ⟨by show 3 ≤ sizeLine; decide, rfl, by rw [List.length_map]; exact small6 (by omega), ts ++ [⟨p.toNat, l, b⟩], _, ?_, by rw [List.length_append, hlen]; rfl, fun t ht => ?_, ?_, rfl⟩
    · rw [List.map_append]
      show _ ++ [Dt.tup [.int p, nD l, .int b]] = _ ++ [Dt.tup [.int ((p.toNat : Nat) : Int), nD l, .int b]]
      rw [Int.toNat_of_nonneg p0]
    · rcases List.mem_append.mp ht with z | z
      · exact hts t z
      · rw [List.mem_singleton.mp z]
        exact ⟨by show p.toNat ≤ 7; omega, gl1, b0, by show b ≤ 1000000; omega⟩
    · omega
  · rintro acc ρ ⟨ts, m, rfl, hlen, hts, hm, rfl⟩
    rw [rng_len] at hlen hm
    have lt3 : ts.length ≤ 3 := by omega
    refine ⟨rfl, ?_⟩
    refine ⟨by rw [List.length_map]; omega, by rw [List.length_map]; omega, ⟨rfl, rfl⟩, fun j acc ρ => ∃ (qs : List Nat) (m2 : Int), acc = qs.map (fun p => Dt.int (p : Nat)) ∧ qs.Pairwise (· < ·) ∧ (∀ p ∈ qs, p < j) ∧ qs.length ≤ j ∧ m2 ≤ n + 20 + j ∧ ρ = [.box m2, .dat (.lst (ls.map nD)), .hot (ts.map Tr.d), .un, .un, .un, .un], ⟨[], _, rfl, .nil, fun t h => (nomatch h), Nat.le_refl _, by omega, rfl⟩, ?_, ?_⟩
    · rintro j acc ρ d hd ⟨qs, m2, rfl, up, hlt, hle, hm2, rfl⟩
      obtain ⟨hj, rfl⟩ := rng_at hd
      rw [List.length_map] at hj
      refine ⟨rfl, ⟨by omega, by decide, by decide⟩, fun t t0 t1 => ?_⟩
      by_cases e : t = 0
      · refine ifT (eqSame e) ⟨rfl, by rw [List.length_map]; exact small6 (by omega), qs ++ [j], _, ?_, ?_, fun p hp => ?_, by rw [List.length_append]; show _ + 1 ≤ _; omega, ?_, rfl⟩
        · rw [List.map_append, Int.zero_add]
          rfl
        · refine List.pairwise_append.mpr ⟨up, List.pairwise_singleton .., fun a ha b hb => ?_⟩
          rw [List.mem_singleton.mp hb]
          exact hlt a ha
        · rcases List.mem_append.mp hp with z | z
          · have := hlt p z; omega
          · rw [List.mem_singleton.mp z]; omega
        · omega
      · exact ifF (eqDiff e) ⟨rfl, qs, _, rfl, up, fun p hp => by have := hlt p hp; omega, by omega, by omega, rfl⟩
    · rintro acc ρ ⟨qs, m2, rfl, up, hlt, hle, hm2, rfl⟩
      rw [rng_len, List.length_map] at hlt hle hm2
      refine ⟨rfl, ?_⟩
      show Fs.nx _ [.box m2, .dat (.lst (ls.map nD)), .hot (ts.map Tr.d), .un, .hot (qs.map (fun p => Dt.int (p : Nat))), .un, .un]
      refine ⟨⟨rfl, rfl⟩, fun j acc ρ => ∃ (ys : List Tr) (m3 : Int), acc = ys.map Tr.d ∧ ys.map Tr.p = qs.take j ∧ (∀ y ∈ ys, y.ok ts.length) ∧ m3 ≤ n + 30 + 2 * j ∧ ρ = [.box m3, .dat (.lst (ls.map nD)), .hot (ts.map Tr.d), .un, .dat (.lst (qs.map (fun p => Dt.int (p : Nat)))), .un, .un], ⟨[], _, rfl, rfl, fun t h => (nomatch h), by omega, rfl⟩, ?_, ?_⟩
      · rintro j acc ρ d hd ⟨ys, m3, rfl, hp, oy, hm3, rfl⟩
        rw [List.getElem?_map] at hd
        obtain ⟨p, hpj, rfl⟩ := Option.map_eq_some_iff.mp hd
        have hj := (List.getElem?_eq_some_iff.mp hpj).1
        have pl := hlt p (List.mem_of_getElem? hpj)
        have ly_ : ys.length = j := by
          have := congrArg List.length hp
          rw [List.length_map, take_len hpj] at this
          exact this
        refine ⟨rfl, _, _, rfl, by omega, lne, lle, fun e he => ?_⟩
        obtain ⟨l, gl1, rfl⟩ := pk he
        refine ⟨rfl, ⟨by omega, by decide, by decide⟩, fun b b0 b1 => ?_⟩
        have b1 : b < 100 := b1
        refine ⟨by show 3 ≤ sizeLine; decide, rfl, by rw [List.length_map]; exact small6 (by omega), ys ++ [⟨p, l, b⟩], _, ?_, ?_, fun t ht => ?_, ?_, rfl⟩
        · rw [List.map_append]
          rfl
        · rw [List.map_append, hp, take_at hpj]
          rfl
        · rcases List.mem_append.mp ht with z | z
          · exact oy t z
          · rw [List.mem_singleton.mp z]
            exact ⟨by show p ≤ _; omega, gl1, b0, by show b ≤ 1000000; omega⟩
        · omega
      · rintro acc ρ ⟨ys, m3, rfl, hp, oy, hm3, rfl⟩
        rw [List.length_map, List.take_length] at hp
        rw [List.length_map] at hm3
        have ly_ : ys.length = qs.length := by rw [← hp, List.length_map]
        refine ⟨rfl, ?_⟩
        show Fs.nx _ [.box m3, .dat (.lst (ls.map nD)), .hot (ts.map Tr.d), .un, .dat (.lst (qs.map (fun p => Dt.int (p : Nat)))), .un, .hot (ys.map Tr.d)]
        refine ⟨rfl, _, _, rfl, by omega, lne, lle, fun e he => ?_⟩
        obtain ⟨l, gl1, rfl⟩ := pk he
        refine ⟨⟨by decide, by decide, by decide⟩, rfl, ⟨by omega, by decide, by decide⟩, fun b b0 b1 => ⟨by show 3 ≤ sizeLine; decide, rfl, ⟨by omega, by decide, by decide⟩, fun i i0 i1 => ?_⟩⟩
        have b1 : b < 999 := b1
        obtain ⟨v, ev, mv⟩ := atD (xs := [Dt.int 0, .int 1000000, .int b]) i0 i1
        obtain ⟨c, rfl, c0, c1⟩ : ∃ c : Int, v = .int c ∧ 0 ≤ c ∧ c ≤ 1000000 := by
          simp only [List.mem_cons, List.mem_nil_iff, or_false] at mv
          rcases mv with rfl | rfl | rfl
          · exact ⟨_, rfl, by decide, by decide⟩
          · exact ⟨_, rfl, by decide, by decide⟩
          · exact ⟨_, rfl, by omega, by omega⟩
        refine ⟨_, ev, ?_⟩
        refine ⟨by show 4 ≤ sizeLine; decide, q ⟨l, c, ts, ys⟩ _ ⟨gl1, c0, c1, lt3, by show ys.length ≤ 4; omega, hts, oy, fun i x y hx hy => ?_⟩ ?_⟩
        · have h1 : qs[i]? = some x.p := by rw [← hp, List.getElem?_map, hx]; rfl
          have h2 : qs[i + 1]? = some y.p := by rw [← hp, List.getElem?_map, hy]; rfl
          obtain ⟨l1, e1⟩ := List.getElem?_eq_some_iff.mp h1
          obtain ⟨l2, e2⟩ := List.getElem?_eq_some_iff.mp h2
          have := List.pairwise_iff_getElem.mp up i (i + 1) l1 l2 (by omega)
          rw [e1, e2] at this
          exact this
        · omega
end
section
variable {P : Program} {w : World} {K : PySem.W.Frag} {mg : Str → Option Value} {base : Heap}
local macro_rules | `(tactic| get_elem_tactic_trivial) => `(tactic| (repeat first | exact Wk.nil | exact Wk'.nil | refine Wk.same ?_ | refine Wk'.same ?_ | refine Wk.un (fun _ z => nomatch z) ?_ | refine Wk'.un ?_))
/-! parts that are otherwise -/
def otK : Dt → Bool
  | .obj _ _ _ => false
  | .err _ _ => false
  | .adr _ => false
  | .dic _ _ => false
  | .scr _ => false
  | _ => true
def OkP (d : Dt) : Prop := Nice 3 1000 d ∧ lenS d < 64
def oddE : List Dt := [.non, .bl true, .int (-1), .int 1000001, .str "", .str "Ab", .str "abcde", .str "a b", .tup [], .lst [], .int 7, .str "a1"]
def badA : List Dt := [.non, .int 0, .tup [], .tup [.int 0, .str "a"], .tup [.int 0, .str "a", .int 1, .int 1], .lst [.int 0, .str "a", .int 1], .tup [.int 8, .str "a", .int 1], .tup [.int (-1), .str "a", .int 1], .tup [.bl true, .str "a", .int 1]]
def badB : List Dt := [.tup [.int 0, .str "A", .int 1], .tup [.int 0, .str "a", .int 1000001], .tup [.int 0, .str "a", .bl false], .tup [.int 0, .str "", .int 1], .tup [.int 4, .str "a", .int 1], .tup [.str "0", .str "a", .int 1]]
theorem nice_by {n b : Nat} {d : Dt} (h : (d.pure && (PyData.canLay0 d.py && (PyData.showable d.py && (PyData.leavesShort 1921 d.py && (decide (PyData.depth d.py ≤ n) && decide (PyData.bulk d.py ≤ b)))))) = true) : Nice n b d := by
  simp only [Bool.and_eq_true, decide_eq_true_eq] at h
  exact ⟨h.1, h.2.1, h.2.2.1, h.2.2.2.1, h.2.2.2.2.1, h.2.2.2.2.2⟩
theorem odd_ok : ∀ d ∈ oddE, OkP d := fun d hd => by
  simp only [oddE, List.mem_cons, List.mem_nil_iff, or_false] at hd
  rcases hd with rfl | rfl | rfl | rfl | rfl | rfl | rfl | rfl | rfl | rfl | rfl | rfl
  all_goals exact ⟨nice_by (by decide +kernel), by decide +kernel⟩
theorem bad_nice : ∀ d ∈ badA ++ badB, Nice 1 30 d := fun d hd => by
  simp only [badA, badB, List.mem_append, List.mem_cons, List.mem_nil_iff, or_false] at hd
  rcases hd with (rfl | rfl | rfl | rfl | rfl | rfl | rfl | rfl | rfl) | rfl | rfl | rfl | rfl | rfl | rfl
  all_goals exact nice_by (by decide +kernel)
theorem okp_lst {xs : List Dt} (h : ∀ x ∈ xs, Nice 1 30 x) (l : xs.length ≤ 20) : OkP (.lst xs) := ⟨(nice_lst (n := 1) (b := 30) h).mono (by decide) (by omega), by show xs.length < 64; omega⟩
def wOdd30 : WF := fun ps Ψ => ∃ (n : Int) (d : Dt) (p : Int), ps = [.box n, .dat d, .dat (.int p)] ∧ n < 700000000 ∧ (2 ≤ p → ∃ xs : List Dt, d = .lst xs ∧ xs.length ≤ 4 ∧ ∀ x ∈ xs, Nice 1 30 x) ∧ (∀ (e : Dt) (m : Int), OkP e → m ≤ n + 10 → Ψ (.dat e) [.box m, .dat d, .dat (.int p)]) ∧ ∀ (es : List Dt) (m : Int), OkP (.lst es) → m ≤ n + 10 → Ψ (.new es) [.box m, .dat d, .dat (.int p)]
theorem okLOddPart (T : Tx K mg) : FnOk P w K mg base CX0 3 (He.ga K "_law_odd_part") T.fdLOddPart ["_law_box_here", "_law_part", "_law_place"] (spD K 3 wOdd30) := by
  have B := T.B
  have GLTake : FnOk P w K mg base CX0 1 (He.ga K "_law_take") T.fdLTake ["_law_box_here", "_law_size"] (spD K 2 wTake) := okTakeD T
  have bLTake := T.bLTake
  have GLPick : FnOk P w K mg base CX0 2 (He.ga K "_law_pick") T.fdLPick ["_law_box_here", "_law_things"] (spD K 2 wPick) := okLPick T
  have bLPick := T.bLPick
  refine T.FLOddPart.ok scLOddPart (fun vs H Q E h => h.1) (fun cdv A outer s H vs Q E hr h => ?_)
  refine ⟨_, PSs.nox (pss_cons (ps_set (i := 3) scLOddPart.nd rfl (.inl rfl) (pe_lst (pa_cons pe_non (pa_cons pe_bl (pa_cons (pe_un un_neg pe_int) (pa_cons (pe_op op_add (pe_op op_pow pe_int pe_int) pe_int) (pa_cons pe_str (pa_cons pe_str (pa_cons pe_str (pa_cons pe_str (pa_cons (pe_tup pa_nil) (pa_cons (pe_lst pa_nil) (pa_cons pe_int (pa_cons pe_str pa_nil))))))))))))))
        (pss_cons (ps_if (pt_cmpR op_lt (pv 2) pe_int (nomark _)) (pss_one (ps_ret (pe_call GLPick (hr.mono (by decide)) (by rfl) T.gLPick T.FLPick.kp bLPick .nil pass0 (pa_cons (pv 0) (pa_cons (pv 3) pa_nil))))) pss_nil)
        (pss_cons (ps_par (i := 4) (j := 5) (by rfl) scLOddPart.nd rfl rfl (by decide) rfl rfl (pa_cons (pe_callTy (show CallR _ _ (cList K) from call_list_of) (by rfl) B.b_list PyProof.Rows.boot_list (pa_cons (pv 1) pa_nil)) (pa_cons (pe_call GLTake (hr.mono (by decide)) (by rfl) T.gLTake T.FLTake.kp bLTake .nil pass0 (pa_cons (pv 0) (pa_cons pe_int pa_nil))) pa_nil)) (by rfl))
        (pss_cons (ps_set (i := 6) scLOddPart.nd rfl (.inl rfl) (pe_lst (pa_cons pe_non (pa_cons pe_int (pa_cons (pe_tup pa_nil) (pa_cons (pe_tup (pa_cons pe_int (pa_cons pe_str pa_nil))) (pa_cons (pe_tup (pa_cons pe_int (pa_cons pe_str (pa_cons pe_int (pa_cons pe_int pa_nil))))) (pa_cons (pe_lst (pa_cons pe_int (pa_cons pe_str (pa_cons pe_int pa_nil)))) (pa_cons (pe_tup (pa_cons pe_int (pa_cons pe_str (pa_cons pe_int pa_nil)))) (pa_cons (pe_tup (pa_cons (pe_un un_neg pe_int) (pa_cons pe_str (pa_cons pe_int pa_nil)))) (pa_cons (pe_tup (pa_cons pe_bl (pa_cons pe_str (pa_cons pe_int pa_nil)))) pa_nil)))))))))))
        (pss_cons (ps_set (i := 6) scLOddPart.nd rfl (.inl rfl) (pe_op op_cat (pv 6) (pe_lst (pa_cons (pe_tup (pa_cons pe_int (pa_cons pe_str (pa_cons pe_int pa_nil)))) (pa_cons (pe_tup (pa_cons pe_int (pa_cons pe_str (pa_cons (pe_op op_add (pe_op op_pow pe_int pe_int) pe_int) pa_nil)))) (pa_cons (pe_tup (pa_cons pe_int (pa_cons pe_str (pa_cons pe_bl pa_nil)))) (pa_cons (pe_tup (pa_cons pe_int (pa_cons pe_str (pa_cons pe_int pa_nil)))) (pa_cons (pe_tup (pa_cons pe_int (pa_cons pe_str (pa_cons pe_int pa_nil)))) (pa_cons (pe_tup (pa_cons pe_str (pa_cons pe_str (pa_cons pe_int pa_nil)))) pa_nil)))))))))
        (pss_cons (ps_set (i := 7) scLOddPart.nd rfl (.inl rfl) (pe_call GLTake (hr.mono (by decide)) (by rfl) T.gLTake T.FLTake.kp bLTake .nil pass0 (pa_cons (pv 0) (pa_cons (pe_op op_add (pe_callB (show CallR _ _ (rLen K) from call_len) (by rfl) B.b_len PySem.boot_len (pa_cons (pv 4) pa_nil)) pe_int) pa_nil))))
        (pss_cons (ps_if (pt_cmpR (opEqA (K := K) rfl hr.units) (pv 5) pe_int (nomark _)) (pss_one (ps_ret (pe_call GLPick (hr.mono (by decide)) (by rfl) T.gLPick T.FLPick.kp bLPick .nil pass0 (pa_cons (pv 0) (pa_cons (pv 3) pa_nil))))) pss_nil)
        (pss_cons (ps_if (pt_cmpR (opEqA (K := K) rfl hr.units) (pv 5) pe_int (nomark _)) (pss_one (ps_ret (pe_op op_cat (pv 4) (pv 4)))) pss_nil)
        (pss_cons (ps_if (pt_cmpR (opEqA (K := K) rfl hr.units) (pv 5) pe_int (nomark _)) (pss_one (ps_ret (pe_op op_cat (show PE _ _ (tRevL K _) from pe_revL (pv 4)) (pe_op op_rep (pe_lst (pa_cons (pe_tup (pa_cons (pe_call GLTake (hr.mono (by decide)) (by rfl) T.gLTake T.FLTake.kp bLTake .nil pass0 (pa_cons (pv 0) (pa_cons pe_int pa_nil))) (pa_cons pe_str (pa_cons pe_int pa_nil)))) pa_nil)) (pe_call GLTake (hr.mono (by decide)) (by rfl) T.gLTake T.FLTake.kp bLTake .nil pass0 (pa_cons (pv 0) (pa_cons pe_int pa_nil))))))) pss_nil)
        (pss_one (ps_ret (pe_op op_cat (pe_op op_cat (pe_slice (show SlR _ (rSlL K) from sl_list) (pv 4) po_none (po_some (pv 7))) (pe_lst (pa_cons (pe_call GLPick (hr.mono (by decide)) (by rfl) T.gLPick T.FLPick.kp bLPick .nil pass0 (pa_cons (pv 0) (pa_cons (pv 6) pa_nil))) pa_nil))) (pe_slice (show SlR _ (rSlL K) from sl_list) (pv 4) (po_some (pv 7)) po_none))))))))))))), ?_⟩
  refine bodyD h (fun ps Ψ hw hl => ?_)
  obtain ⟨n, d, p, rfl, hn, hp, q, qn⟩ := hw
  have sz : sizeLine = 16777216 := by decide
  have q : ∀ (e : Dt) (m : Int), OkP e → m ≤ n + 10 → Ψ (.dat e) [.box m, .dat d, .dat (.int p)] := q
  have qn : ∀ (es : List Dt) (m : Int), OkP (.lst es) → m ≤ n + 10 → Ψ (.new es) [.box m, .dat d, .dat (.int p)] := qn
  refine ⟨⟨by decide, by decide, by decide⟩, by show 0 ≤ sizeLine; decide, by show 0 ≤ sizeLine; decide, by show 12 ≤ sizeLine; decide, ?_⟩
  by_cases h2 : p < 2
  · refine ifT (decide_eq_true h2) ?_
    refine ⟨rfl, _, oddE, rfl, by omega, (fun z => nomatch z), by show 12 ≤ 1000; decide, fun e he => ?_⟩
    exact q e _ (odd_ok e he) (by omega)
  refine ifF (decide_eq_false h2) ?_
  obtain ⟨xs, rfl, l4, hx⟩ := hp (by omega)
  refine ⟨rfl, ⟨by omega, by decide, by decide⟩, fun r r0 r1 => ?_⟩
  have r1 : r < 6 := r1
  refine ⟨by show 0 ≤ sizeLine; decide, by show 2 ≤ sizeLine; decide, by show 4 ≤ sizeLine; decide, by show 3 ≤ sizeLine; decide, by show 3 ≤ sizeLine; decide, by show 3 ≤ sizeLine; decide, by show 3 ≤ sizeLine; decide, by show 9 ≤ sizeLine; decide, ?_⟩
  refine ⟨by show 3 ≤ sizeLine; decide, ⟨by decide, by decide, by decide⟩, by show 3 ≤ sizeLine; decide, by show 3 ≤ sizeLine; decide, by show 3 ≤ sizeLine; decide, by show 3 ≤ sizeLine; decide, by show 3 ≤ sizeLine; decide, by show 6 ≤ sizeLine; decide, by show 9 + 6 ≤ sizeLine; decide, ?_⟩
  show Fs.nx _ [.box (n + 1), .dat (.lst xs), .dat (.int p), .hot oddE, .hot xs, .dat (.int r), .hot (badA ++ badB), .un]
  refine ⟨rfl, ⟨by omega, by show (0 : Int) < (xs.length : Nat) + 1; omega, by show ((xs.length : Nat) : Int) + 1 < 340282366920938463463374607431768211456; omega⟩, fun o o0 o1 => ?_⟩
  have o1 : o < (xs.length : Nat) + 1 := o1
  by_cases e0 : r = 0
  · refine ifT (eqSame e0) ?_
    refine ⟨rfl, _, oddE, rfl, by omega, (fun z => nomatch z), by show 12 ≤ 1000; decide, fun e he => ?_⟩
    exact q e _ (odd_ok e he) (by omega)
  refine ifF (eqDiff e0) ?_
  by_cases e1 : r = 1
  · refine ifT (eqSame e1) ?_
    refine ⟨by show xs.length + xs.length ≤ _; omega, ?_⟩
    refine qn (xs ++ xs) _ (okp_lst (fun x h => ?_) (by rw [List.length_append]; omega)) (by omega)
    rcases List.mem_append.mp h with z | z
    · exact hx x z
    · exact hx x z
  refine ifF (eqDiff e1) ?_
  by_cases e2 : r = 2
  · refine ifT (eqSame e2) ?_
    refine ⟨rfl, ⟨by omega, by decide, by decide⟩, fun a a0 a1 => ⟨by show 3 ≤ sizeLine; decide, by show 1 ≤ sizeLine; decide, rfl, ⟨by omega, by decide, by decide⟩, fun c c0 c1 => ?_⟩⟩
    have a1 : a < 5 := a1
    have c1 : c < 3 := c1
    have nt : Nice 1 30 (.tup [.int a, .str "q", .int 3]) := (nice_tup (n := 0) (b := 5) (ds := [.int a, .str "q", .int 3]) fun e he => by
      simp only [List.mem_cons, List.mem_nil_iff, or_false] at he
      rcases he with rfl | rfl | rfl
      · exact (nice_small (by omega) (by omega)).mono (by decide) (by decide)
      · exact nice_by (by decide +kernel)
      · exact nice_by (by decide +kernel)).mono (Nat.le_refl _) (by show 3 * 6 ≤ 30; decide)
    refine ⟨⟨by omega, by omega, ?_⟩, ?_⟩
    · show 1 * c.toNat ≤ _
      omega
    have lr : (List.replicate c.toNat [Dt.tup [.int a, .str "q", .int 3]]).flatten = List.replicate c.toNat (Dt.tup [.int a, .str "q", .int 3]) := by
      have h : ∀ k : Nat, (List.replicate k [Dt.tup [.int a, .str "q", .int 3]]).flatten = List.replicate k (Dt.tup [.int a, .str "q", .int 3]) := fun k => by
        induction k with
        | zero => rfl
        | succ k ih => rw [List.replicate_succ, List.flatten_cons, ih]; rfl
      exact h _
    obtain ⟨Z, eZ⟩ : ∃ Z, (List.replicate c.toNat [Dt.tup [.int a, .str "q", .int 3]]).flatten = Z := ⟨_, rfl⟩
    have lZ : Z.length ≤ 2 := by rw [← eZ, lr, List.length_replicate]; omega
    have mZ : ∀ x ∈ Z, Nice 1 30 x := fun x h => by
      rw [← eZ, lr] at h
      rw [(List.mem_replicate.mp h).2]
      exact nt
    show xs.reverse.length + ((List.replicate c.toNat [Dt.tup [.int a, .str "q", .int 3]]).flatten).length ≤ _ ∧ Ψ (.new (xs.reverse ++ (List.replicate c.toNat [Dt.tup [.int a, .str "q", .int 3]]).flatten)) _
    rw [eZ]
    refine ⟨by rw [List.length_reverse]; omega, ?_⟩
    refine qn (xs.reverse ++ Z) _ (okp_lst (fun x h => ?_) (by rw [List.length_append, List.length_reverse]; omega)) (by omega)
    rcases List.mem_append.mp h with z | z
    · exact hx x (List.mem_reverse.mp z)
    · exact mZ x z
  refine ifF (eqDiff e2) ?_
  have cm : ∀ {lo hi : Option Int} {x : Dt}, x ∈ cutD xs lo hi → x ∈ xs := fun {lo hi x} h => by
    unfold cutD at h
    exact List.mem_of_mem_drop (List.mem_of_mem_take h)
  have cl : ∀ lo hi : Option Int, (cutD xs lo hi).length ≤ 4 := fun lo hi => by
    unfold cutD
    rw [List.length_take, List.length_drop]
    omega
  refine ⟨rfl, _, badA ++ badB, rfl, by omega, (fun z => nomatch z), by show 15 ≤ 1000; decide, fun e he => ?_⟩
  have c4 := cl none (some o)
  have c5 := cl (some o) none
  refine ⟨by show 1 ≤ sizeLine; decide, by show (cutD xs none (some o)).length + 1 ≤ _; omega, by rw [List.length_append]; show (cutD xs none (some o)).length + 1 + (cutD xs (some o) none).length ≤ _; omega, ?_⟩
  refine qn (cutD xs none (some o) ++ [e] ++ cutD xs (some o) none) _ (okp_lst (fun x h => ?_) (by rw [List.length_append, List.length_append]; show (cutD xs none (some o)).length + 1 + (cutD xs (some o) none).length ≤ _; omega)) (by omega)
  rcases List.mem_append.mp h with z | z
  · rcases List.mem_append.mp z with z | z
    · exact hx x (cm z)
    · rw [List.mem_singleton.mp z]
      exact bad_nice e he
  · exact hx x (cm z)
end
section
variable {P : Program} {w : World} {K : PySem.W.Frag} {mg : Str → Option Value} {base : Heap}
local macro_rules | `(tactic| get_elem_tactic_trivial) => `(tactic| (repeat first | exact Wk.nil | exact Wk'.nil | refine Wk.same ?_ | refine Wk'.same ?_ | refine Wk.un (fun _ z => nomatch z) ?_ | refine Wk'.un ?_))
/-! hands alike, or anything -/
def eqHd (a b : Hd) : Bool := decide (nm a.l = nm b.l) && (decide (a.b = b.b) && (eD (.tup (a.ls.map Tr.d)) (.tup (b.ls.map Tr.d)) && eD (.tup (a.ys.map Tr.d)) (.tup (b.ys.map Tr.d))))
theorem nice_d {h : Hd} (ok : h.ok) : Nice 2 310 (.tup (h.ls.map Tr.d)) ∧ Nice 2 310 (.tup (h.ys.map Tr.d)) := ⟨nice_trs ok.lk (by decide) (by have := ok.l3; omega), nice_trs ok.yk (by have := ok.l3; omega) (by have := ok.y4; omega)⟩
theorem eqHd_tup (a b : Hd) : eD (.tup a.fs) (.tup b.fs) = eqHd a b := by
  unfold eqHd eD Hd.fs
  simp only [Dt.py, pys, PyData.eqv, PyData.eqvAll, Bool.and_true]
  rfl
theorem eqHd_self {a : Hd} (ok : a.ok) : eqHd a a = true := by
  have n := nice_d ok
  unfold eqHd
  rw [decide_eq_true rfl, decide_eq_true rfl, show eD (.tup (a.ls.map Tr.d)) (.tup (a.ls.map Tr.d)) = true from eD_refl _ n.1.pu, show eD (.tup (a.ys.map Tr.d)) (.tup (a.ys.map Tr.d)) = true from eD_refl _ n.2.pu]
  rfl
mutual
theorem eqv_comm : ∀ x y : PyData, PyData.eqv x y = PyData.eqv y x
  | .none, y => by cases y <;> simp [PyData.eqv]
  | .bool a, y => by cases y <;> simp [PyData.eqv, Bool.beq_comm, eq_comm]
  | .int a, y => by cases y <;> simp [PyData.eqv, Bool.beq_comm, eq_comm]
  | .str a, y => by cases y <;> simp [PyData.eqv, Bool.beq_comm, eq_comm]
  | .list a, y => by
    cases y with
    | list b => simp only [PyData.eqv]; exact eqvAll_comm a b
    | _ => simp [PyData.eqv]
  | .tuple a, y => by
    cases y with
    | tuple b => simp only [PyData.eqv]; exact eqvAll_comm a b
    | _ => simp [PyData.eqv]
  | .dict a, y => by cases y <;> simp [PyData.eqv]
theorem eqvAll_comm : ∀ x y : List PyData, PyData.eqvAll x y = PyData.eqvAll y x
  | [], [] => rfl
  | [], y :: ys => by simp [PyData.eqvAll]
  | x :: xs, [] => by simp [PyData.eqvAll]
  | x :: xs, y :: ys => by simp only [PyData.eqvAll]; rw [eqv_comm x y, eqvAll_comm xs ys]
end
theorem eqHd_comm (a b : Hd) : eqHd a b = eqHd b a := by
  rw [← eqHd_tup, ← eqHd_tup]
  exact eqv_comm _ _
def wHandEqX : WF := fun ps Ψ => ∃ (a : Hd) (d : Dt), ps = [.dat a.d, .dat d] ∧ a.ok ∧ ((∃ b : Hd, d = b.d ∧ b.ok ∧ Ψ (.dat (.bl (eqHd a b))) ps) ∨ (otK d = true ∧ Ψ (.dat (.bl false)) ps))
theorem okHandEq (T : Tx K mg) : FnOk P w K mg base CX0 1 (He.ma K (He.ga K "Hand") "__eq__") T.fdHandEq ["self", "other"] (spD K 2 wHandEqX) := by
  have B := T.B
  haveI : IsA K "Hand" := ⟨T.clHand, T.is_Hand, T.io_Hand⟩
  refine T.FHandEq.ok scHandEq (fun vs H Q E h => h.1) (fun cdv A outer s H vs Q E hr h => ?_)
  refine ⟨_, PSs.nox (pss_one (ps_ret (pe_and (pe_callB (show CallR _ _ (rIsi K) from call_isi) (by rfl) B.b_isinstance boot_isinstance (pa_cons (pv 1) (pa_cons (pe_glob (v := .ref (He.ga K "Hand")) (by rfl) T.gHand rfl) pa_nil))) (pe_and (pe_cmpR (opEqA (K := K) rfl hr.units) (show PE _ _ (tFld K _ "name") from pe_fld (pv 0) rfl) (show PE _ _ (tFld K _ "name") from pe_fld (pv 1) rfl) (nomark _)) (pe_and (pe_cmpR (opEqA (K := K) rfl hr.units) (show PE _ _ (tFld K _ "body") from pe_fld (pv 0) rfl) (show PE _ _ (tFld K _ "body") from pe_fld (pv 1) rfl) (nomark _)) (pe_and (pe_cmpR (opEqA (K := K) rfl hr.units) (show PE _ _ (tFld K _ "loads") from pe_fld (pv 0) rfl) (show PE _ _ (tFld K _ "loads") from pe_fld (pv 1) rfl) (nomark _)) (pe_one (pe_cmpR (opEqA (K := K) rfl hr.units) (show PE _ _ (tFld K _ "lies") from pe_fld (pv 0) rfl) (show PE _ _ (tFld K _ "lies") from pe_fld (pv 1) rfl) (nomark _))))))))), ?_⟩
  refine bodyD h (fun ps Ψ hw hl => ?_)
  obtain ⟨a, d, rfl, oa, q⟩ := hw
  rcases q with ⟨b, rfl, ob, q⟩ | ⟨o, q⟩
  · obtain ⟨a1, a2⟩ := nice_d oa
    obtain ⟨b1, b2⟩ := nice_d ob
    unfold eqHd at q
    refine ⟨rfl, 0, _, by decide +kernel, rfl, fldN T, 0, _, by decide +kernel, rfl, fldN T, ?_⟩
    by_cases h1 : nm a.l = nm b.l
    · rw [decide_eq_true h1, Bool.true_and] at q
      refine ifT (eqSame h1) ⟨1, _, by decide +kernel, rfl, fldB T, 1, _, by decide +kernel, rfl, fldB T, ?_⟩
      by_cases h2 : a.b = b.b
      · rw [decide_eq_true h2, Bool.true_and] at q
        refine ifT (eqSame h2) ⟨2, _, by decide +kernel, rfl, fldLo T, 2, _, by decide +kernel, rfl, fldLo T, ⟨a1.pu, b1.pu, a1.shaped (by decide), b1.shaped (by decide)⟩, ?_⟩
        cases h3 : eD (.tup (a.ls.map Tr.d)) (.tup (b.ls.map Tr.d)) with
        | false =>
          rw [h3] at q
          exact q
        | true =>
          rw [h3] at q
          exact ⟨3, _, by decide +kernel, rfl, fldLi T, 3, _, by decide +kernel, rfl, fldLi T, ⟨a2.pu, b2.pu, a2.shaped (by decide), b2.shaped (by decide)⟩, q⟩
      · rw [decide_eq_false h2] at q
        exact ifF (eqDiff h2) q
    · rw [decide_eq_false h1] at q
      exact ifF (eqDiff h1) q
  · cases d with
    | obj c ns ds => exact Bool.noConfusion (show false = true from o)
    | err c d => exact Bool.noConfusion (show false = true from o)
    | adr a_ => exact Bool.noConfusion (show false = true from o)
    | dic _ _ => exact Bool.noConfusion (show false = true from o)
    | scr _ => exact Bool.noConfusion (show false = true from o)
    | _ => exact q
theorem emp_app (x : Str) : Str.empty ++ x = x := by
  show (⟨#[] ++ x.cps⟩ : Str) = x
  rw [Array.empty_append]
theorem app_len30 (x y : Str) : (x ++ y).length = x.length + y.length := by
  show (x.cps ++ y.cps).size = x.cps.size + y.cps.size
  simp
def shHd (h : Hd) : Str := nm h.l ++ Str.ofString ":" ++ Str.ofString (toString h.b)
def wHandStr : WF := fun ps Ψ => ∃ h : Hd, ps = [.dat h.d] ∧ h.ok ∧ Ψ (.dat (.str (shHd h))) ps
theorem okHandStr (T : Tx K mg) : FnOk P w K mg base CX0 1 (He.ma K (He.ga K "Hand") "__str__") T.fdHandStr ["self"] (spD K 1 wHandStr) := by
  have B := T.B
  refine T.FHandStr.ok scHandStr (fun vs H Q E h => h.1) (fun cdv A outer s H vs Q E hr h => ?_)
  refine ⟨_, PSs.nox (pss_one (ps_ret (show PE _ _ (tJoinF _) from peJoinF (.cons (show PE _ _ (tFmt _) from pe_fmt (show PE _ _ (tFld K _ "name") from pe_fld (pv 0) rfl)) (.cons pe_str (.cons (show PE _ _ (tFmt _) from pe_fmt (show PE _ _ (tFld K _ "body") from pe_fld (pv 0) rfl)) .nil)))))), ?_⟩
  refine bodyD h (fun ps Ψ hw hl => ?_)
  obtain ⟨h, rfl, ok, q⟩ := hw
  have sz : sizeLine = 16777216 := by decide
  have lb : (Str.ofString (toString h.b)).length ≤ 8 := by
    rw [PySem.ofString_length]
    exact int_text_length_le10 (k := 7) (by decide) (by have := ok.b0; have := ok.b1; omega)
  have ln : (nm h.l).length ≤ 5 := Nat.le_trans (nice_size (nice_nm ok.g)) (by decide)
  have lg : h.b.natAbs.log2 < 1920 := by
    by_cases e : h.b.natAbs = 0
    · rw [e]; decide
    · have : h.b.natAbs.log2 < 40 := (Nat.log2_lt e).mpr (by have := ok.b0; have := ok.b1; omega)
      omega
  have k1 : (Str.ofString ":").length = 1 := by decide +kernel
  unfold shHd at q
  rw [← emp_app (nm h.l)] at q
  refine ⟨0, _, by decide +kernel, rfl, fldN T, ?_⟩
  refine ⟨by rw [sz]; omega, by rw [emp_app, sz]; omega, by rw [emp_app, app_len30, k1, sz]; omega, 1, _, by decide +kernel, rfl, fldB T, lg, by rw [emp_app, app_len30, app_len30, k1, sz]; omega, q⟩

end
section
variable {P : Program} {w : World} {K : PySem.W.Frag} {mg : Str → Option Value} {base : Heap}
local macro_rules | `(tactic| get_elem_tactic_trivial) => `(tactic| (repeat first | exact Wk.nil | exact Wk'.nil | refine Wk.same ?_ | refine Wk'.same ?_ | refine Wk.un (fun _ z => nomatch z) ?_ | refine Wk'.un ?_))
/-! good hands -/
def wHandU : W3F := fun ps μ Ψ Ξ => wHandC ps μ Ψ Ξ ∨ wfN3 wHandX ps μ Ψ Ξ
theorem okHandU (T : Tx K mg) : FnOk P w K mg base CX0 5 (He.ma K (He.ga K "Hand") "__init__") T.fdHandInit ["self", "name", "body", "loads", "lies"] (sp3 K 5 wHandU) := FnOk.or3 (Hc.okHandInit T) (FnOk.calm3 (Hx.okHandInit T))
theorem hand_u {a : Addr} {h : Hd} {k m : Bool} {ps : List Sl} {Ψ : Ro → List Sl → My → Prop} {Ξ : XE3} (ok : h.ok) (e : ps = [.dat (.adr a), .dat (nD h.l), .dat (.int h.b), .dat (sqD k (h.ls.map Tr.d)), .dat (sqD m (h.ys.map Tr.d))]) (q : Ψ (.dat .non) ps [(a, .fl (.ins "Hand" HF h.fs))]) : wHandU ps [(a, .fl (.ins "Hand" [] []))] Ψ Ξ := by
  refine .inr ⟨a, _, _, _, _, e, rfl, (nice_nm ok.g).mono (by decide) (by decide), (nice_small (by have := ok.b0; omega) (by have := ok.b1; omega)).mono (by decide) (by decide), nice_trS k ok.lk (by decide) (by have := ok.l3; omega), nice_trS m ok.yk (by have := ok.l3; omega) (by have := ok.y4; omega), fun z => absurd (due_hd ok k m) z, fun ls ys _ e1 e2 => ?_⟩
  rw [sqL_sqD] at e1 e2
  cases e1
  cases e2
  exact q
def wFields30 : WF := fun ps Ψ => ∃ h : Hd, ps = [.dat h.d] ∧ Ψ (.dat (.tup h.fs)) ps
theorem okLFields (T : Tx K mg) : FnOk P w K mg base CX0 1 (He.ga K "_law_fields") T.fdLFields ["_law_hand"] (spD K 1 wFields30) := by
  have B := T.B
  refine T.FLFields.ok scLFields (fun vs H Q E h => h.1) (fun cdv A outer s H vs Q E hr h => ?_)
  refine ⟨_, PSs.nox (pss_one (ps_ret (pe_tup (pa_cons (show PE _ _ (tFld K _ "name") from pe_fld (pv 0) rfl) (pa_cons (show PE _ _ (tFld K _ "body") from pe_fld (pv 0) rfl) (pa_cons (show PE _ _ (tFld K _ "loads") from pe_fld (pv 0) rfl) (pa_cons (show PE _ _ (tFld K _ "lies") from pe_fld (pv 0) rfl) pa_nil))))))), ?_⟩
  refine bodyD h (fun ps Ψ hw hl => ?_)
  obtain ⟨h, rfl, q⟩ := hw
  exact ⟨0, _, by decide +kernel, rfl, fldN T, 1, _, by decide +kernel, rfl, fldB T, 2, _, by decide +kernel, rfl, fldLo T, 3, _, by decide +kernel, rfl, fldLi T, by show 4 ≤ sizeLine; decide, q⟩
theorem nice_hd {h : Hd} (ok : h.ok) : Nice 3 2000 (.tup h.fs) := by
  refine (nice_tup (n := 2) (b := 310) (ds := h.fs) fun e he => ?_).mono (Nat.le_refl _) (by show 4 * 311 ≤ 2000; decide)
  simp only [Hd.fs, List.mem_cons, List.mem_nil_iff, or_false] at he
  rcases he with rfl | rfl | rfl | rfl
  · exact (nice_nm ok.g).mono (by decide) (by decide)
  · exact (nice_small (by have := ok.b0; omega) (by have := ok.b1; omega)).mono (by decide) (by decide)
  · exact (nice_d ok).1
  · exact (nice_d ok).2
theorem bare_eq' (a b : List Dt) : (eD (.tup []) (.tup a) && eD (.tup []) (.tup b)) = eD (.tup [.tup a, .tup b]) (.tup [.tup [], .tup []]) := by
  unfold eD
  simp only [Dt.py, pys, PyData.eqv, PyData.eqvAll, Bool.and_true]
  rw [eqvAll_comm [] (pys a), eqvAll_comm [] (pys b)]
theorem obK_ot {d : Dt} (h : otK d = true) {k : Prop} (q : k) : obK "Hand" d k := by
  cases d <;> first | exact q | exact Bool.noConfusion (show false = true from h)
def Hd.bare0 (h : Hd) : Hd := ⟨h.l, h.b, [], []⟩
theorem Hd.ok.bare0 {h : Hd} (o : h.ok) : h.bare0.ok := ⟨o.g, o.b0, o.b1, Nat.zero_le _, Nat.zero_le _, fun t ht => (nomatch ht), fun t ht => (nomatch ht), fun i a b ha => (by cases ha)⟩
theorem bare_eq (h : Hd) : eqHd h.bare0 h = eD (.tup [.tup (h.ls.map Tr.d), .tup (h.ys.map Tr.d)]) (.tup [.tup [], .tup []]) := by
  rw [← bare_eq']
  unfold eqHd
  rw [show decide (nm h.bare0.l = nm h.l) = true from decide_eq_true rfl, show decide (h.bare0.b = h.b) = true from decide_eq_true rfl]
  rfl
def wRight30 : W3F := fun ps μ Ψ _ => ∃ (n : Int) (ls : List (List Nat)), ps = [.box n, .dat (.lst (ls.map nD))] ∧ μ = [] ∧ n < 600000000 ∧ (∀ l ∈ ls, Gd l) ∧ ls ≠ [] ∧ ls.length ≤ 100 ∧ ∀ m : Int, m ≤ n + 200 → Ψ (.dat (.bl true)) [.box m, .dat (.lst (ls.map nD))] []
theorem Tx.kbHandInit_3_lies_loads {K : PySem.W.Frag} {mg : Str → Option Value} (T : Tx K mg) : ∃ g : List Value → List Value → List Value, KBn K T.fdHandInit ["self", "name", "body", "loads", "lies"] 3 ["lies", "loads"] g (gB [0, 1, 2, 4, 3] []) := kbKw T.FHandInit 3 ["lies", "loads"] [0, 1, 2, 4, 3] [] (by simp) (by simp) fun D doc pm an cdv ct us mv ws h1 h2 h3 => match us, mv, ws, h1, h2, h3 with
  | [u0, u1, u2], [], [w0, w1], _, _, _ => rfl
theorem Tx.kbHandInit_3 {K : PySem.W.Frag} {mg : Str → Option Value} (T : Tx K mg) : ∃ g : List Value → List Value → List Value, KBn K T.fdHandInit ["self", "name", "body", "loads", "lies"] 3 [] g (gB [0, 1, 2, 3, 4] [.ref (kda K ("Hand", some "__init__") "loads"), .ref (kda K ("Hand", some "__init__") "lies")]) := kbKw T.FHandInit 3 [] [0, 1, 2, 3, 4] [("loads", .ref (kda K ("Hand", some "__init__") "loads")), ("lies", .ref (kda K ("Hand", some "__init__") "lies"))] (by simp) (by simp) fun D doc pm an cdv ct us mv ws h1 h2 h3 => match us, mv, ws, h1, h2, h3 with
  | [u0, u1, u2], [m0, m1], [], _, _, _ => ⟨_, _, _, _, _, _, rfl, rfl, ⟨_, _, _, _, _, _, rfl, rfl, rfl⟩⟩
theorem okLRight (T : Tx K mg) : FnOkG P w K mg base 9 (He.ga K "_law_right") T.fdLRight ["_law_box_here", "_law_names_here"] (sp3 K 2 wRight30) := by
  have B := T.B
  have GHandInit : FnOk P w K mg base CX0 5 (He.ma K (He.ga K "Hand") "__init__") T.fdHandInit ["self", "name", "body", "loads", "lies"] (sp3 K 5 wHandU) := okHandU T
  have GLGood : FnOk P w K mg base CX0 3 (He.ga K "_law_good") T.fdLGood ["_law_box_here", "_law_names_here"] (spD K 2 wGood30) := okLGood T
  have bLGood := T.bLGood
  have GLSame : FnOk P w K mg base CX0 6 (He.ga K "_law_same") T.fdLSame ["_law_found", "_law_due_here"] (spD K 2 (wSame 6)) := okSameD T 6
  have bLSame := T.bLSame
  have GLFields : FnOk P w K mg base CX0 1 (He.ga K "_law_fields") T.fdLFields ["_law_hand"] (spD K 1 wFields30) := okLFields T
  have bLFields := T.bLFields
  haveI : IsA K "Hand" := ⟨T.clHand, T.is_Hand, T.io_Hand⟩
  haveI : Dw K [V.ref (kda K ("Hand", some "__init__") "loads"), V.ref (kda K ("Hand", some "__init__") "lies")] [Dt.tup [], Dt.tup []] := ⟨fun C => .cons (dw_tup T.tdHandInit_loads C) (.cons (dw_tup T.tdHandInit_lies C) .nil)⟩
  have GHandEq : FnOk P w K mg base CX0 1 (He.ma K (He.ga K "Hand") "__eq__") T.fdHandEq ["self", "other"] (spD K 2 wHandEqX) := okHandEq T
  have bHandEq := T.bHandEq
  have GHandStr : FnOk P w K mg base CX0 1 (He.ma K (He.ga K "Hand") "__str__") T.fdHandStr ["self"] (spD K 1 wHandStr) := okHandStr T
  have bHandStr := T.bHandStr
  obtain ⟨_, kbHandInit_3⟩ := T.kbHandInit_3
  obtain ⟨_, kbHandInit_3_lies_loads⟩ := T.kbHandInit_3_lies_loads
  obtain ⟨_, kbHandInit_3_loads_lies⟩ := T.kbHandInit_3_loads_lies
  refine okG_of T.FLRight scLRight (fun vs H Q E h => h.1) (fun cdv A outer s H vs Q E hg hr h => ?_)
  have hg : A.guards = some [] := hg
  refine ⟨_, PSs.nox (pss_cons (ps_par (i := 2) (j := 3) (by rfl) scLRight.nd rfl rfl (by decide) rfl rfl (pa_cons (pe_call GLGood (hr.mono (by decide)) (by rfl) T.gLGood T.FLGood.kp bLGood .nil pass0 (pa_cons (pv 0) (pa_cons (pv 1) pa_nil))) (pa_cons (pe_call GLGood (hr.mono (by decide)) (by rfl) T.gLGood T.FLGood.kp bLGood .nil pass0 (pa_cons (pv 0) (pa_cons (pv 1) pa_nil))) pa_nil)) (by rfl))
        (pss_cons (ps_set (i := 4) scLRight.nd rfl (.inl rfl) (pe_lst (pa_cons (peNew3 (pe_callTy (show CallR _ _ (cList K) from call_list_of) (by rfl) B.b_list PyProof.Rows.boot_list (pa_cons (pe_ix (show IxR _ (rIx K) from ix_seq) (pv 2) pe_int (fun _ _ => rfl)) pa_nil))) (pa_cons (peNew3 (pe_callTy (show CallR _ _ (cList K) from call_list_of) (by rfl) B.b_list PyProof.Rows.boot_list (pa_cons (pe_ix (show IxR _ (rIx K) from ix_seq) (pv 2) pe_int (fun _ _ => rfl)) pa_nil))) pa_nil))))
        (pss_cons (ps_set (i := 5) scLRight.nd rfl (.inr rfl) (peCool3 (asPE (tMake3 _ 2 2 _ _ _ _ _) (pe_make3 (ks := ["loads", "lies"]) T.mkHand GHandInit (hr.mono (by decide)) (by rfl) T.gHand kbHandInit_3_loads_lies (pass0S (fun cls d _ H => E cls d H)) (pa_cons (pe_ix (show IxR _ (rIx K) from ix_seq) (pv 2) pe_int (fun _ _ => rfl)) (pa_cons (pe_ix (show IxR _ (rIx K) from ix_seq) (pv 2) pe_int (fun _ _ => rfl)) pa_nil)) (pk_cons (pe_ix (show IxR _ (rIx K) from ix_seq) (pv 4) pe_int (fun _ _ => rfl)) (pk_cons (pe_ix (show IxR _ (rIx K) from ix_seq) (pv 4) pe_int (fun _ _ => rfl)) pk_nil))))))
        (pss_cons (ps_for PassesOwn.never rfl (piAny (K := K) rfl (pv 4)) (pg_name (i := 6) scLRight.nd rfl (Or.inl rfl))
        (pss_one (ps_expr (show PE _ _ (tBM K "list" rAppend _ _) from (pe_bm PySem.F.plainAttrs_list PySem.F.slot_list_append PySem.F.type_list_append mt_append (peL3 (pv 6)) (pa_cons pe_str pa_nil))))))
        (pss_cons (ps_set (i := 7) scLRight.nd rfl (.inl rfl) (pe_op (show OpR _ _ (rCatA K) from op_catA) (pe_slice (show SlR _ (rSlA K) from sl_tupA) (pv 2) po_none (po_some pe_int)) (pe_tup (pa_cons (pe_callTy (show CallR _ _ (cTuple K) from call_tuple_of) (by rfl) B.b_tuple PyProof.Rows.boot_tuple (pa_cons (pe_ix (show IxR _ (rIx K) from ix_seq) (pv 2) pe_int (fun _ _ => rfl)) pa_nil)) (pa_cons (pe_callTy (show CallR _ _ (cTuple K) from call_tuple_of) (by rfl) B.b_tuple PyProof.Rows.boot_tuple (pa_cons (pe_ix (show IxR _ (rIx K) from ix_seq) (pv 2) pe_int (fun _ _ => rfl)) pa_nil)) pa_nil)))))
        (pss_cons (ps_if (PW.pt (pw_or (pt_not (pt_val (pe_call GLSame (hr.mono (by decide)) (by rfl) T.gLSame T.FLSame.kp bLSame .nil pass0 (pa_cons (pe_call GLFields (hr.mono (by decide)) (by rfl) T.gLFields T.FLFields.kp bLFields .nil pass0 (pa_cons (pv 5) pa_nil)) (pa_cons (pv 7) pa_nil))))) (pw_or1 (pt_not (pt_val (pe_call GLSame (hr.mono (by decide)) (by rfl) T.gLSame T.FLSame.kp bLSame .nil pass0 (pa_cons (pe_callTy (cStrOwn T.mHandStr GHandStr bHandStr (hr.mono (by decide))) (by rfl) B.b_str PyProof.Rows.boot_str (pa_cons (pv 5) pa_nil)) (pa_cons (pe_op (show OpR _ _ rAddS from op_add_str) (pe_op (show OpR _ _ rAddS from op_add_str) (pe_ix (show IxR _ (rIx K) from ix_seq) (pv 2) pe_int (fun _ _ => rfl)) pe_str) (pe_callTy (show CallR _ _ cStrI from call_str_int) (by rfl) B.b_str PyProof.Rows.boot_str (pa_cons (pe_ix (show IxR _ (rIx K) from ix_seq) (pv 2) pe_int (fun _ _ => rfl)) pa_nil))) pa_nil)))))))) (pss_one (ps_ret pe_bl)) pss_nil)
        (pss_cons (ps_set (i := 8) scLRight.nd rfl (.inl rfl) (peCool3 (asPE (tMake3 _ 2 0 _ _ _ _ _) (pe_make3 (ks := []) T.mkHand GHandInit (hr.mono (by decide)) (by rfl) T.gHand kbHandInit_3 (pass0S (fun cls d _ H => E cls d H)) (pa_cons (pe_ix (show IxR _ (rIx K) from ix_seq) (pv 2) pe_int (fun _ _ => rfl)) (pa_cons (pe_ix (show IxR _ (rIx K) from ix_seq) (pv 2) pe_int (fun _ _ => rfl)) pa_nil)) pk_nil))))
        (pss_cons (ps_if (PW.pt (pw_or (pt_not (pt_val (pe_call GLSame (hr.mono (by decide)) (by rfl) T.gLSame T.FLSame.kp bLSame .nil pass0 (pa_cons (pe_call GLFields (hr.mono (by decide)) (by rfl) T.gLFields T.FLFields.kp bLFields .nil pass0 (pa_cons (pv 8) pa_nil)) (pa_cons (pe_op (show OpR _ _ (rCatA K) from op_catA) (pe_slice (show SlR _ (rSlA K) from sl_tupA) (pv 7) po_none (po_some pe_int)) (pe_tup (pa_cons (pe_tup pa_nil) (pa_cons (pe_tup pa_nil) pa_nil)))) pa_nil))))) (pw_or1 (pt_cmpR (opNeA (K := K) rfl hr.units) (pe_cmpR (opEqAny (K := K) rfl T.mHandEq GHandEq bHandEq (hr.mono (by decide))) (pv 8) (pv 5) (nomark _)) (pe_cmpR (opEqA (K := K) rfl hr.units) (pe_slice (show SlR _ (rSlA K) from sl_tupA) (pv 7) (po_some pe_int) po_none) (pe_tup (pa_cons (pe_tup pa_nil) (pa_cons (pe_tup pa_nil) pa_nil))) (nomark _)) (nomark _))))) (pss_one (ps_ret pe_bl)) pss_nil)
        (pss_cons (ps_set (i := 9) scLRight.nd rfl (.inl rfl) (peCool3 (asPE (tMake3 _ 2 2 _ _ _ _ _) (pe_make3 (ks := ["lies", "loads"]) T.mkHand GHandInit (hr.mono (by decide)) (by rfl) T.gHand kbHandInit_3_lies_loads (pass0S (fun cls d _ H => E cls d H)) (pa_cons (pe_ix (show IxR _ (rIx K) from ix_seq) (pv 3) pe_int (fun _ _ => rfl)) (pa_cons (pe_ix (show IxR _ (rIx K) from ix_seq) (pv 3) pe_int (fun _ _ => rfl)) pa_nil)) (pk_cons (pe_callTy (show CallR _ _ (cTuple K) from call_tuple_of) (by rfl) B.b_tuple PyProof.Rows.boot_tuple (pa_cons (pe_ix (show IxR _ (rIx K) from ix_seq) (pv 3) pe_int (fun _ _ => rfl)) pa_nil)) (pk_cons (pe_callTy (show CallR _ _ (cTuple K) from call_tuple_of) (by rfl) B.b_tuple PyProof.Rows.boot_tuple (pa_cons (pe_ix (show IxR _ (rIx K) from ix_seq) (pv 3) pe_int (fun _ _ => rfl)) pa_nil)) pk_nil))))))
        (pss_cons (ps_set (i := 10) scLRight.nd rfl (.inl rfl) (pe_cmpR (opEqA (K := K) rfl hr.units) (pv 7) (pe_op (show OpR _ _ (rCatA K) from op_catA) (pe_slice (show SlR _ (rSlA K) from sl_tupA) (pv 3) po_none (po_some pe_int)) (pe_tup (pa_cons (pe_callTy (show CallR _ _ (cTuple K) from call_tuple_of) (by rfl) B.b_tuple PyProof.Rows.boot_tuple (pa_cons (pe_ix (show IxR _ (rIx K) from ix_seq) (pv 3) pe_int (fun _ _ => rfl)) pa_nil)) (pa_cons (pe_callTy (show CallR _ _ (cTuple K) from call_tuple_of) (by rfl) B.b_tuple PyProof.Rows.boot_tuple (pa_cons (pe_ix (show IxR _ (rIx K) from ix_seq) (pv 3) pe_int (fun _ _ => rfl)) pa_nil)) pa_nil)))) (nomark _)))
        (pss_cons (ps_if (PW.pt (pw_or (pt_cmpR (opNeA (K := K) rfl hr.units) (pe_cmpR (opEqAny (K := K) rfl T.mHandEq GHandEq bHandEq (hr.mono (by decide))) (pv 5) (pv 9) (nomark _)) (pv 10) (nomark _)) (pw_or1 (pt_cmpR (opEqA (K := K) rfl hr.units) (pe_cmpR (opNeOwn T.is_Hand.ne T.is_Hand.ob T.mHandEq GHandEq bHandEq (hr.mono (by decide))) (pv 9) (pv 5) (nomark _)) (pv 10) (nomark _))))) (pss_one (ps_ret pe_bl)) pss_nil)
        (pss_cons (ps_if (pt_not (pt_cmpR (opEqAny (K := K) rfl T.mHandEq GHandEq bHandEq (hr.mono (by decide))) (pv 5) (peCool3 (asPE (tMake3 _ 2 2 _ _ _ _ _) (pe_make3 (ks := ["loads", "lies"]) T.mkHand GHandInit (hr.mono (by decide)) (by rfl) T.gHand kbHandInit_3_loads_lies (pass0S (fun cls d _ H => E cls d H)) (pa_cons (pe_ix (show IxR _ (rIx K) from ix_seq) (pv 7) pe_int (fun _ _ => rfl)) (pa_cons (pe_ix (show IxR _ (rIx K) from ix_seq) (pv 7) pe_int (fun _ _ => rfl)) pa_nil)) (pk_cons (pe_ix (show IxR _ (rIx K) from ix_seq) (pv 7) pe_int (fun _ _ => rfl)) (pk_cons (pe_ix (show IxR _ (rIx K) from ix_seq) (pv 7) pe_int (fun _ _ => rfl)) pk_nil))))) (nomark _))) (pss_one (ps_ret pe_bl)) pss_nil)
        (pss_one (ps_ret (pe_not (pe_callB (show CallR _ _ (rAny K) from cr_any rfl) (by rfl) B.b_any boot_any (pa_cons (pe_lc (own := [("_law_thing", 11)]) (g := gName 11) (tt := tYes) (by rfl) scLRight.nd (piAny (K := K) rfl (pe_tup (pa_cons pe_non (pa_cons (pe_callTy (cStrOwn T.mHandStr GHandStr bHandStr (hr.mono (by decide))) (by rfl) B.b_str PyProof.Rows.boot_str (pa_cons (pv 5) pa_nil)) (pa_cons (pv 7) (pa_cons (pe_lst (pa_cons (pv 5) pa_nil)) (pa_cons pe_int pa_nil))))))) (blkOk_by (own := [("_law_thing", 11)]) (N := ["_law_box_here", "_law_names_here", "_law_good_here", "_law_other", "_law_handed", "_law_hand", "_law_some", "_law_due_here", "_law_bare", "_law_two", "_law_alike", "_law_thing"]) (sc := defScope sLRight) (by decide +kernel)) (fun _ _ _ _ _ => by exact (pg_name (i := 11) scLRight.nd rfl (Or.inl rfl))) (fun _ _ _ _ _ => pts_nil) (fun _ _ _ _ _ => (pe_cmpR (opEqAny (K := K) rfl T.mHandEq GHandEq bHandEq (hr.mono (by decide))) (pv 5) (pv 11) (nomark _)))) pa_nil))))))))))))))))), ?_⟩
  refine body3 h (fun ps μ Ψ Ξ hw hl => ?_)
  obtain ⟨n, ls, rfl, rfl, hn, gl, h0, hl, q⟩ := hw
  have sz : sizeLine = 16777216 := by decide
  refine ⟨rfl, n, ls, rfl, by omega, gl, h0, hl, fun h1 m1 o1 hm1 => ⟨rfl, m1, ls, rfl, by omega, gl, h0, hl, fun h2 m2 o2 hm2 => ?_⟩⟩
  obtain ⟨nn, eN⟩ : ∃ nn : List Dt, ls.map nD = nn := ⟨_, rfl⟩
  rw [eN] at q ⊢
  show Fs.nx _ [.box m2, .dat (.lst nn), .dat h1.u, .dat h2.u, .un, .un, .un, .un, .un, .un, .un, .un]
  refine ⟨_, rfl, fun x => ⟨_, rfl, fun y => ⟨by show 2 ≤ sizeLine; decide, ?_⟩⟩⟩
  show Fs3.nx _ [.box m2, .dat (.lst nn), .dat h1.u, .dat h2.u, .hot [.adr x, .adr y], .un, .un, .un, .un, .un, .un, .un] [(y, .fl (.lst (h1.ys.map Tr.d))), (x, .fl (.lst (h1.ls.map Tr.d)))]
  obtain ⟨X, eX⟩ : ∃ X, h1.ls.map Tr.d = X := ⟨_, rfl⟩
  obtain ⟨Y, eY⟩ : ∃ Y, h1.ys.map Tr.d = Y := ⟨_, rfl⟩
  refine ⟨nD h1.l, rfl, .int h1.b, rfl, .adr x, rfl, .adr y, rfl, ⟨rfl, rfl⟩, "Hand", rfl, fun a => ⟨rfl, [_, _], [], .keep (is := [1, 0]) rfl, .inl ⟨a, x, y, h1, rfl, rfl, o1, .ins "Hand" HF h1.fs, [(x, .fl (.lst (h1.ls.map Tr.d))), (y, .fl (.lst (h1.ys.map Tr.d)))], .refl _, ?_⟩⟩⟩
  show Fs3.nx _ [.box m2, .dat (.lst nn), .dat h1.u, .dat h2.u, .hot [.adr x, .adr y], .dat h1.d, .un, .un, .un, .un, .un, .un] [(x, .fl (.lst (h1.ls.map Tr.d))), (y, .fl (.lst (h1.ys.map Tr.d)))]
  refine ⟨fun j ρ μ => ∃ A B : List Dt, A.length ≤ 4 + j ∧ B.length ≤ 4 + j ∧ ρ = [.box m2, .dat (.lst nn), .dat h1.u, .dat h2.u, .dat (.lst [.adr x, .adr y]), .dat h1.d, .un, .un, .un, .un, .un, .un] ∧ μ = [(x, .fl (.lst A)), (y, .fl (.lst B))], To3.of ⟨_, _, by rw [List.length_map]; have := o1.l3; omega, by rw [List.length_map]; have := o1.y4; omega, rfl, rfl⟩ (by get_elem_tactic_trivial), ?_, ?_⟩
  · rintro j ρ μ d hd ⟨A, B, lA, lB, rfl, rfl⟩
    match j, hd with
    | 0, hd =>
      cases hd
      exact ⟨⟨0, A, rfl⟩, 0, A, rfl, by omega, To3.of ⟨_, _, by rw [List.length_append]; show _ + 1 ≤ _; omega, by omega, rfl, rfl⟩ (by get_elem_tactic_trivial)⟩
    | 1, hd =>
      cases hd
      exact ⟨⟨1, B, rfl⟩, 1, B, rfl, by omega, To3.of ⟨_, _, by omega, by rw [List.length_append]; show _ + 1 ≤ _; omega, rfl, rfl⟩ (by get_elem_tactic_trivial)⟩
    | j + 2, hd => simp at hd
  rintro ρ μ ⟨A, B, lA, lB, rfl, rfl⟩
  clear lA lB
  have n1 := nice_hd o1
  obtain ⟨pu, dp, wd⟩ := n1.same (k := 6) (by decide) (by decide)
  refine ⟨_, rfl, _, rfl, by show 2 ≤ sizeLine; decide, by show 2 + 2 ≤ sizeLine; decide, ?_⟩
  show Fs.nx _ [.box m2, .dat (.lst nn), .dat h1.u, .dat h2.u, .dat (.lst [.adr x, .adr y]), .dat h1.d, .un, .dat (.tup h1.fs), .un, .un, .un, .un]
  refine ⟨rfl, h1, rfl, rfl, _, _, rfl, rfl, pu, dp, wd, ?_⟩
  have lb : (Str.ofString (toString h1.b)).length ≤ 8 := by
    rw [PySem.ofString_length]
    exact int_text_length_le10 (k := 7) (by decide) (by have := o1.b0; have := o1.b1; omega)
  have ln : (nm h1.l).length ≤ 5 := Nat.le_trans (nice_size (nice_nm o1.g)) (by decide)
  have lg : h1.b.natAbs.log2 < 1920 := by
    by_cases e : h1.b.natAbs = 0
    · rw [e]; decide
    · have : h1.b.natAbs.log2 < 40 := (Nat.log2_lt e).mpr (by have := o1.b0; have := o1.b1; omega)
      omega
  have k1 : (Str.ofString ":").length = 1 := by decide +kernel
  have sz2 : sizeLine = 16777216 := sz
  refine ⟨⟨_, _, rfl⟩, h1, rfl, o1, _, rfl, _, rfl, by show (nm h1.l).length + (Str.ofString ":").length ≤ _; rw [k1]; omega, _, rfl, lg, by show (nm h1.l ++ Str.ofString ":").length + (Str.ofString (toString h1.b)).length ≤ _; rw [app_len30, k1]; omega, ?_⟩
  refine ⟨rfl, _, _, rfl, rfl, rfl, by show 0 < 6; decide, by show 0 ≤ 1000000; decide, ?_⟩
  refine ⟨nD h1.l, rfl, .int h1.b, rfl, ⟨rfl, rfl⟩, "Hand", rfl, fun c => ⟨rfl, [], [_, _], .refl _, hand_u (h := h1.bare0) (k := true) (m := true) o1.bare0 rfl ⟨.ins "Hand" HF h1.bare0.fs, [_, _], .refl _, ?_⟩⟩⟩
  have n2 := nice_hd o1.bare0
  obtain ⟨pu2, dp2, wd2⟩ := n2.same (k := 6) (by decide) (by decide)
  have eb := bare_eq h1
  refine ⟨rfl, h1.bare0, rfl, by show 0 ≤ sizeLine; decide, by show 0 ≤ sizeLine; decide, by show 2 ≤ sizeLine; decide, by show 2 + 2 ≤ sizeLine; decide, rfl, _, _, rfl, rfl, pu2, dp2, wd2, ?_⟩
  have nXY : Nice 60 8000 (.tup [.tup (h1.ls.map Tr.d), .tup (h1.ys.map Tr.d)]) := (nice_tup (n := 2) (b := 310) fun e he => by
    simp only [List.mem_cons, List.mem_nil_iff, or_false] at he
    rcases he with rfl | rfl
    · exact (nice_d o1).1
    · exact (nice_d o1).2).mono (by decide) (by show 2 * 311 ≤ 8000; decide)
  have nE : Nice 60 8000 (.tup [.tup [], .tup []]) := nice_by (by decide +kernel)
  have same : ∀ {a b : Bool}, a = b → (if true = true then !decide (a = b) else decide (a = b)) = false := fun {a b} e => by
    rw [if_pos rfl, decide_eq_true e]
    rfl
  have diff : ∀ {a b : Bool}, a = b → (if false = true then !decide ((!a) = b) else decide ((!a) = b)) = false := fun {a b} e => by
    subst e
    cases a <;> rfl
  refine ⟨⟨_, _, rfl⟩, rfl, h1.bare0, _, rfl, o1.bare0, .inl ⟨h1, rfl, o1, _, rfl, by show 0 ≤ sizeLine; decide, by show 0 ≤ sizeLine; decide, by show 2 ≤ sizeLine; decide, ⟨nXY.pu, nE.pu, nXY.shaped (by decide), nE.shaped (by decide)⟩, ifF (same eb) ?_⟩⟩
  refine ⟨nD h2.l, rfl, .int h2.b, rfl, _, rfl, _, rfl, ⟨rfl, rfl⟩, "Hand", rfl, fun e => ⟨rfl, [], [_, _], .refl _, hand_u (h := h2) (k := true) (m := true) o2 rfl ⟨.ins "Hand" HF h2.fs, [_, _], .refl _, ?_⟩⟩⟩
  have m1' : Nice 60 8000 (.tup h1.fs) := n1.mono (by decide) (by decide)
  have m2' : Nice 60 8000 (.tup h2.fs) := (nice_hd o2).mono (by decide) (by decide)
  refine ⟨_, rfl, _, rfl, by show 2 ≤ sizeLine; decide, by show 2 + 2 ≤ sizeLine; decide, ⟨m1'.pu, m2'.pu, m1'.shaped (by decide), m2'.shaped (by decide)⟩, ?_⟩
  show Fs.nx _ [.box m2, .dat (.lst nn), .dat h1.u, .dat h2.u, .dat (.lst [.adr x, .adr y]), .dat h1.d, .un, .dat (.tup h1.fs), .dat h1.bare0.d, .dat h2.d, .dat (.bl (eD (.tup h1.fs) (.tup h2.fs))), .un]
  rw [eqHd_tup]
  refine ⟨⟨_, _, rfl⟩, rfl, h1, _, rfl, o1, .inl ⟨h2, rfl, o2, _, rfl, ifF (same rfl) ?_⟩⟩
  refine ⟨⟨_, _, rfl⟩, ⟨_, _, rfl⟩, h2, _, rfl, o2, .inl ⟨h1, rfl, o1, _, rfl, ifF (diff (eqHd_comm h2 h1)) ?_⟩⟩
  refine ⟨_, rfl, _, rfl, _, rfl, _, rfl, ⟨rfl, rfl⟩, "Hand", rfl, fun e => ⟨rfl, [], [_, _], .refl _, hand_u (h := h1) (k := true) (m := true) o1 rfl ⟨.ins "Hand" HF h1.fs, [_, _], .refl _, ⟨⟨_, _, rfl⟩, rfl, h1, _, rfl, o1, .inl ⟨h1, rfl, o1, _, rfl, ifF (by rw [eqHd_self o1]; rfl) ?_⟩⟩⟩⟩⟩
  refine ⟨⟨_, _, rfl⟩, h1, rfl, o1, _, rfl, by show 1 ≤ sizeLine; decide, by show 5 ≤ sizeLine; decide, ?_⟩
  refine ⟨⟨rfl, rfl⟩, fun j acc ρ => j ≤ 5 ∧ acc = List.replicate j (.bl false) ∧ ρ = [.box m2, .dat (.lst nn), .dat h1.u, .dat h2.u, .dat (.lst [.adr x, .adr y]), .dat h1.d, .un, .dat (.tup h1.fs), .dat h1.bare0.d, .dat h2.d, .dat (.bl (eqHd h1 h2)), .un], ⟨Nat.zero_le _, rfl, rfl⟩, ?_, ?_⟩
  · rintro j acc ρ d hd ⟨hj, rfl, rfl⟩
    have od : otK d = true := by
      have md := List.mem_of_getElem? hd
      simp only [List.mem_cons, List.mem_nil_iff, or_false] at md
      rcases md with rfl | rfl | rfl | rfl | rfl <;> rfl
    have lj : j < 5 := (List.getElem?_eq_some_iff.mp hd).1
    refine ⟨⟨_, _, rfl⟩, obK_ot od ⟨h1, d, rfl, o1, .inr ⟨od, _, rfl, rfl, by rw [List.length_replicate]; omega, ?_⟩⟩⟩
    exact ⟨by omega, by rw [List.replicate_succ'], rfl⟩
  rintro acc ρ ⟨-, rfl, rfl⟩
  refine ⟨rfl, [false, false, false, false, false], rfl, ?_⟩
  exact ⟨_, .nil, q m2 (by omega)⟩
end
section
variable {P : Program} {w : World} {K : PySem.W.Frag} {mg : Str → Option Value} {base : Heap}
local macro_rules | `(tactic| get_elem_tactic_trivial) => `(tactic| (repeat first | exact Wk.nil | exact Wk'.nil | refine Wk.same ?_ | refine Wk'.same ?_ | refine Wk.un (fun _ z => nomatch z) ?_ | refine Wk'.un ?_))

end
section
variable {P : Program} {w : World} {K : PySem.W.Frag} {mg : Str → Option Value} {base : Heap}
local macro_rules | `(tactic| get_elem_tactic_trivial) => `(tactic| (repeat first | exact Wk.nil | exact Wk'.nil | refine Wk.same ?_ | refine Wk'.same ?_ | refine Wk.un (fun _ z => nomatch z) ?_ | refine Wk'.un ?_))
/-! the law -/
def wLaw3 : W3F := fun ps μ Ψ _ => ∃ ns : List Int, ps = [.dat (.scr ns)] ∧ μ = [] ∧ ns.length ≤ 63 ∧ Ψ (.dat (.bl true)) ps []
theorem law_sp3 {vs : List V} {H : Hp} {Q : VK} {E : XK} (h : spLawD K vs H Q E) : sp3 K 1 wLaw3 vs H Q E := by
  obtain ⟨l, C, bx, ps, Ψ0, S, hw, k⟩ := h
  match ps, S, hw with
  | [.dat (.scr ns)], S, hw =>
    refine ⟨l, C, fun _ => none, bx, _, [], [], fun r ps' _ => r = .dat (.bl true) ∧ ps' = [.dat (.scr ns)], fun _ _ _ _ => False, S, rfl, ⟨.nil, fun a f h => (nomatch h), fun a o h => (nomatch h), fun a o h => (nomatch h)⟩, fun a o h => (nomatch h), ⟨ns, rfl, rfl, hw.1, rfl, rfl⟩, fun C' G v r ps' μ' ok e => ?_, fun _ _ _ _ _ _ _ _ _ _ z => z.elim⟩
    obtain ⟨rfl, rfl⟩ := e
    obtain ⟨⟨m, e, U, M, S'⟩, rp⟩ := ok
    have eB : subU H (fun _ => none) = H := funext fun a => subU_off rfl
    have S2 := S'.unhang M
    rw [eB] at S2
    exact k C' G v (.dat (.bl true)) _ S2 rp hw.2

theorem okp_nm {l : List Nat} (g : Gd l) : OkP (nD l) := ⟨(nice_nm g).mono (by decide) (by decide), by show 0 < 64; decide⟩
theorem okp_int {i : Int} (h0 : 0 ≤ i) (h1 : i ≤ 1000000) : OkP (.int i) := ⟨(nice_small (by omega) (by omega)).mono (by decide) (by decide), by show 0 < 64; decide⟩
theorem okp_trs {ts : List Tr} {k : Nat} (h : ∀ t ∈ ts, t.ok k) (hk : k ≤ 100) (l : ts.length ≤ 10) : OkP (.lst (ts.map Tr.d)) := ⟨(nice_trL h hk l).mono (by decide) (by decide), by show (ts.map Tr.d).length < 64; rw [List.length_map]; omega⟩
theorem OkP.n {d : Dt} (h : OkP d) : Nice 60 8000 d := h.1.mono (by decide) (by decide)
theorem nice_four {a b c d : Dt} (ha : OkP a) (hb : OkP b) (hc : OkP c) (hd : OkP d) : Nice 60 8000 (.lst [a, b, c, d]) := (nice_lst (n := 3) (b := 1000) fun e he => by
  simp only [List.mem_cons, List.mem_nil_iff, or_false] at he
  rcases he with rfl | rfl | rfl | rfl
  · exact ha.1
  · exact hb.1
  · exact hc.1
  · exact hd.1).mono (by decide) (by show 4 * 1001 ≤ 8000; decide)
theorem Tx.kbLRight_2 {K : PySem.W.Frag} {mg : Str → Option Value} (T : Tx K mg) : ∃ g : List Value → List Value → List Value, KBn K T.fdLRight ["_law_box_here", "_law_names_here"] 2 [] g (gB [0, 1] []) := kbAllN T.FLRight 2 [] [0, 1] fun kV doc pm an cdv ct us ws h1 h2 => match us, ws, h1, h2 with
  | [u0, u1], [], _, _ => rfl
theorem Tx.kbLSame_2 {K : PySem.W.Frag} {mg : Str → Option Value} (T : Tx K mg) : ∃ g : List Value → List Value → List Value, KBn K T.fdLSame ["_law_found", "_law_due_here"] 2 [] g (gB [0, 1] []) := kbAllN T.FLSame 2 [] [0, 1] fun kV doc pm an cdv ct us ws h1 h2 => match us, ws, h1, h2 with
  | [u0, u1], [], _, _ => rfl
theorem Tx.kbLTold_1 {K : PySem.W.Frag} {mg : Str → Option Value} (T : Tx K mg) : ∃ g : List Value → List Value → List Value, KBn K T.fdLTold ["_law_hand"] 1 [] g (gB [0] []) := kbAllN T.FLTold 1 [] [0] fun kV doc pm an cdv ct us ws h1 h2 => match us, ws, h1, h2 with
  | [u0], [], _, _ => rfl
theorem okLaw (T : Tx K mg) : FnOkG P w K mg base 11 (He.ga K "law") T.fdLaw ["_law_script"] (spLawD K) := by
  have B := T.B
  have GLFolded : FnOk P w K mg base CX0 1 (He.ga K "_law_folded") T.fdLFolded ["_law_script", "_law_size"] (spD K 2 wFolded) := okFoldedD T
  have bLFolded := T.bLFolded
  have GLBox : FnOk P w K mg base CX0 1 (He.ga K "_law_box") T.fdLBox ["_law_script", "_law_k"] (spLBox K) := okLBox T
  have bLBox := T.bLBox
  have GLNames : FnOk P w K mg base CX0 2 (He.ga K "_law_names") T.fdLNames ["_law_box_here", "_law_size"] (spN K 2 wNames) := okLNames T
  have bLNames := T.bLNames
  have GLRight : FnOkG P w K mg base 9 (He.ga K "_law_right") T.fdLRight ["_law_box_here", "_law_names_here"] (sp3 K 2 wRight30) := okLRight T
  have bLRight := T.bLRight
  have GLGood : FnOk P w K mg base CX0 3 (He.ga K "_law_good") T.fdLGood ["_law_box_here", "_law_names_here"] (spD K 2 wGood30) := okLGood T
  have bLGood := T.bLGood
  have GLSame : FnOk P w K mg base CX0 6 (He.ga K "_law_same") T.fdLSame ["_law_found", "_law_due_here"] _ := FnOk.up3 (okSameD T 6)
  have bLSame := T.bLSame
  have GLTake : FnOk P w K mg base CX0 1 (He.ga K "_law_take") T.fdLTake ["_law_box_here", "_law_size"] (spD K 2 wTake) := okTakeD T
  have bLTake := T.bLTake
  have GLOddPart : FnOk P w K mg base CX0 3 (He.ga K "_law_odd_part") T.fdLOddPart ["_law_box_here", "_law_part", "_law_place"] (spD K 3 wOdd30) := okLOddPart T
  have bLOddPart := T.bLOddPart
  have GLTold : FnOk P w K mg base CX0 7 (He.ga K "_law_told") T.fdLTold ["_law_hand"] (sp3 K 1 wTold30) := okLTold T
  have bLTold := T.bLTold
  have GLDue : FnOk P w K mg base CX0 3 (He.ga K "_law_due") T.fdLDue ["_law_hand"] (spD K 1 wDue30) := okLDue T
  have bLDue := T.bLDue
  obtain ⟨_, kbLRight_2⟩ := T.kbLRight_2
  obtain ⟨_, kbLSame_2⟩ := T.kbLSame_2
  obtain ⟨_, kbLTold_1⟩ := T.kbLTold_1
  refine okG_of T.FLaw scLaw (fun vs H Q E h => h.1) (fun cdv A outer s H vs Q E hg hr h => ?_)
  have hg : A.guards = some [] := hg
  refine ⟨_, PSs.nox (pss_cons (ps_set (i := 1) scLaw.nd rfl (.inl rfl) (pe_call GLFolded (hr.mono (by decide)) (by rfl) T.gLFolded T.FLFolded.kp bLFolded .nil pass0 (pa_cons (pv 0) (pa_cons pe_int pa_nil))))
        (pss_cons (ps_for PassesOwn.never rfl (pi_range1 (by rfl) B.b_range (pa_cons (pe_callB (show CallR _ _ (rLen K) from call_len) (by rfl) B.b_len PySem.boot_len (pa_cons (pv 1) pa_nil)) pa_nil)) (pg_name (i := 2) scLaw.nd rfl (Or.inl rfl))
        (pss_cons (ps_set (i := 3) scLaw.nd rfl (.inl rfl) (pe_call GLBox (hr.mono (by decide)) (by rfl) T.gLBox T.FLBox.kp bLBox .nil pass0 (pa_cons (pv 1) (pa_cons (pv 2) pa_nil))))
        (pss_cons (ps_set (i := 4) scLaw.nd rfl (.inl rfl) (pe_call GLNames (hr.mono (by decide)) (by rfl) T.gLNames T.FLNames.kp bLNames .nil pass0 (pa_cons (pv 3) (pa_cons pe_int pa_nil))))
        (pss_one (ps_for PassesOwn.never rfl (pi_range1 (by rfl) B.b_range (pa_cons pe_int pa_nil)) (pg_name (i := 5) scLaw.nd rfl (Or.inl rfl))
        (pss_cons (ps_if (pt_not (pt_val (asPE (tCall3 2 0 _ _ _ _ _) (pe_call3G hg (ks := []) GLRight (hr.mono (by decide)) (by rfl) T.gLRight T.FLRight.kp kbLRight_2 (pass0S (fun cls d _ H => E cls d H)) (pa_cons (pv 3) (pa_cons (pv 4) pa_nil)) pk_nil)))) (pss_one (ps_ret pe_bl)) pss_nil)
        (pss_cons (ps_set (i := 6) scLaw.nd rfl (.inl rfl) (pe_callTy (show CallR _ _ (cList K) from call_list_of) (by rfl) B.b_list PyProof.Rows.boot_list (pa_cons (pe_call GLGood (hr.mono (by decide)) (by rfl) T.gLGood T.FLGood.kp bLGood .nil pass0 (pa_cons (pv 3) (pa_cons (pv 4) pa_nil))) pa_nil)))
        (pss_cons (ps_for PassesOwn.never rfl (pi_range1 (by rfl) B.b_range (pa_cons pe_int pa_nil)) (pg_name (i := 7) scLaw.nd rfl (Or.inl rfl))
        (pss_cons (ps_set (i := 8) scLaw.nd rfl (.inl rfl) (pe_callTy (show CallR _ _ (cList K) from call_list_of) (by rfl) B.b_list PyProof.Rows.boot_list (pa_cons (pv 6) pa_nil)))
        (pss_cons (ps_for PassesOwn.never rfl (pi_range1 (by rfl) B.b_range (pa_cons (pe_op op_add pe_int (pe_call GLTake (hr.mono (by decide)) (by rfl) T.gLTake T.FLTake.kp bLTake .nil pass0 (pa_cons (pv 3) (pa_cons pe_int pa_nil)))) pa_nil)) (pg_name (i := 9) scLaw.nd rfl (Or.inl rfl))
        (pss_cons (ps_set (i := 10) scLaw.nd rfl (.inl rfl) (pe_call GLTake (hr.mono (by decide)) (by rfl) T.gLTake T.FLTake.kp bLTake .nil pass0 (pa_cons (pv 3) (pa_cons pe_int pa_nil))))
        (pss_one (ps_asg (pe_call GLOddPart (hr.mono (by decide)) (by rfl) T.gLOddPart T.FLOddPart.kp bLOddPart .nil pass0 (pa_cons (pv 3) (pa_cons (pe_ix (show IxR _ (rIx K) from ix_seq) (pv 6) (pv 10) (fun _ _ => rfl)) (pa_cons (pv 10) pa_nil)))) (pg_sub (pv 8) (pv 10) set_list)))))
        (pss_cons (ps_set (i := 11) scLaw.nd rfl (.inl rfl) (pe_callB (show CallR _ _ (cRepr K) from call_reprD hg hr.units) (by rfl) B.b_repr (by decide +kernel) (pa_cons (pv 8) pa_nil)))
        (pss_one (ps_if (PW.pt (pw_or (pt_not (pt_val (asPE (tCall3 2 0 _ _ _ _ _) (pe_call3 (ks := []) GLSame (hr.mono (by decide)) (by rfl) T.gLSame T.FLSame.kp kbLSame_2 (pass0S (fun cls d _ H => E cls d H)) (pa_cons (asPE (tCall3 1 0 _ _ _ _ _) (pe_call3 (ks := []) GLTold (hr.mono (by decide)) (by rfl) T.gLTold T.FLTold.kp kbLTold_1 (pass0S (fun cls d _ H => E cls d H)) (pa_cons (pv 8) pa_nil) pk_nil)) (pa_cons (pe_call GLDue (hr.mono (by decide)) (by rfl) T.gLDue T.FLDue.kp bLDue .nil pass0 (pa_cons (pv 8) pa_nil)) pa_nil)) pk_nil)))) (pw_or1 (pt_cmpR (opNeA (K := K) rfl hr.units) (pe_callB (show CallR _ _ (cRepr K) from call_reprD hg hr.units) (by rfl) B.b_repr (by decide +kernel) (pa_cons (pv 8) pa_nil)) (pv 11) (nomark _))))) (pss_one (ps_ret pe_bl)) pss_nil))))))
        (pss_one (ps_if (pt_not (pt_val (asPE (tCall3 2 0 _ _ _ _ _) (pe_call3 (ks := []) GLSame (hr.mono (by decide)) (by rfl) T.gLSame T.FLSame.kp kbLSame_2 (pass0S (fun cls d _ H => E cls d H)) (pa_cons (asPE (tCall3 1 0 _ _ _ _ _) (pe_call3 (ks := []) GLTold (hr.mono (by decide)) (by rfl) T.gLTold T.FLTold.kp kbLTold_1 (pass0S (fun cls d _ H => E cls d H)) (pa_cons (pv 6) pa_nil) pk_nil)) (pa_cons pe_str pa_nil)) pk_nil)))) (pss_one (ps_ret pe_bl)) pss_nil))))))))))
        (pss_one (ps_ret pe_bl)))), ?_⟩
  refine body3 (law_sp3 h) (fun ps μ Ψ Ξ hw hl => ?_)
  obtain ⟨ns, rfl, rfl, lns, q⟩ := hw
  have sz : sizeLine = 16777216 := by decide
  refine ⟨rfl, ns, 3, rfl, lns, by decide, by decide, fun cs lc => ?_⟩
  refine ⟨by omega, by omega, fun j ρ μ => ρ = [.dat (.scr ns), .dat (.scr cs), .un, .un, .un, .un, .un, .un, .un, .un, .un, .un] ∧ μ = [], To3.of ⟨rfl, rfl⟩ (by get_elem_tactic_trivial), ?_, ?_⟩
  · rintro j ρ μ d hd ⟨rfl, rfl⟩
    obtain ⟨hj, rfl⟩ := rng_at hd
    refine ⟨⟨by omega, by omega⟩, ?_⟩
    refine ⟨rfl, 0, 4, rfl, by decide, by decide, by decide, fun ls m1 gl l4 hm1 => ?_⟩
    have h0 : ls ≠ [] := fun z => by rw [z] at l4; simp at l4
    have hl : ls.length ≤ 100 := by omega
    refine ⟨by decide, by decide, fun t ρ μ => ∃ (m : Int) (S : Sl), (S = .hot (ls.map nD) ∨ S = .dat (.lst (ls.map nD))) ∧ m ≤ 7 + 2000 * t ∧ ρ = [.dat (.scr ns), .dat (.scr cs), .un, .box m, S, .un, .un, .un, .un, .un, .un, .un] ∧ μ = [], To3.of ⟨m1, _, .inl rfl, by omega, rfl, rfl⟩ (by get_elem_tactic_trivial), ?_, ?_⟩
    · rintro t ρ μ d hd ⟨m, S, hS, hm, rfl, rfl⟩
      obtain ⟨ht, rfl⟩ := rng_at hd
      have ht : t < 6 := ht
      rcases hS with rfl | rfl
      all_goals
        refine ⟨⟨rfl, rfl, rfl⟩, [], [], .refl _, m, ls, rfl, rfl, by omega, gl, h0, hl, fun m2 hm2 => ?_⟩
        refine ⟨rfl, m2, ls, rfl, by omega, gl, h0, hl, fun h m3 oh hm3 => ?_⟩
        show Fs.nx _ [.dat (.scr ns), .dat (.scr cs), .un, .box m3, .dat (.lst (ls.map nD)), .dat (.int (0 + (t : Nat))), .hot [nD h.l, .int h.b, .lst (h.ls.map Tr.d), .lst (h.ys.map Tr.d)], .un, .un, .un, .un, .un]
        have k0 := okp_nm oh.g
        have k1 := okp_int oh.b0 oh.b1
        have k2 := okp_trs oh.lk (by decide) (by have := oh.l3; omega)
        have k3 := okp_trs oh.yk (by have := oh.l3; omega) (by have := oh.y4; omega)
        have due := due_hd oh false false
        have due : dueH (nD h.l) (.int h.b) (.lst (h.ls.map Tr.d)) (.lst (h.ys.map Tr.d)) = "" := due
        have p2 : ∃ xs : List Dt, Dt.lst (h.ls.map Tr.d) = .lst xs ∧ xs.length ≤ 4 ∧ ∀ x ∈ xs, Nice 1 30 x := ⟨_, rfl, by rw [List.length_map]; have := oh.l3; omega, fun x hx => by
          obtain ⟨y, hy, rfl⟩ := List.mem_map.mp hx
          exact nice_tr (oh.lk y hy) (by decide)⟩
        have p3 : ∃ xs : List Dt, Dt.lst (h.ys.map Tr.d) = .lst xs ∧ xs.length ≤ 4 ∧ ∀ x ∈ xs, Nice 1 30 x := ⟨_, rfl, by rw [List.length_map]; exact oh.y4, fun x hx => by
          obtain ⟨y, hy, rfl⟩ := List.mem_map.mp hx
          exact nice_tr (oh.yk y hy) (by have := oh.l3; omega)⟩
        generalize nD h.l = g0 at *
        generalize Dt.int h.b = g1 at *
        generalize Dt.lst (h.ls.map Tr.d) = g2 at *
        generalize Dt.lst (h.ys.map Tr.d) = g3 at *
        refine ⟨by decide, by decide, fun a ρ μ => ∃ m4 : Int, m4 ≤ m3 + 60 * a ∧ ρ = [.dat (.scr ns), .dat (.scr cs), .un, .box m4, .dat (.lst (ls.map nD)), .un, .hot [g0, g1, g2, g3], .un, .un, .un, .un, .un] ∧ μ = [], To3.of ⟨m3, by omega, rfl, rfl⟩ (by get_elem_tactic_trivial), ?_, ?_⟩
        · rintro a ρ μ d hd ⟨m4, hm4, rfl, rfl⟩
          obtain ⟨ha, rfl⟩ := rng_at hd
          have ha : a < 10 := ha
          show Fs.nx _ [.dat (.scr ns), .dat (.scr cs), .un, .box m4, .dat (.lst (ls.map nD)), .un, .hot [g0, g1, g2, g3], .dat (.int (0 + (a : Nat))), .hot [g0, g1, g2, g3], .un, .un, .un]
          refine ⟨rfl, ⟨by omega, by decide, by decide⟩, fun r r0 r1 => ?_⟩
          have r1 : r < 3 := r1
          refine ⟨by omega, by omega, fun i ρ => ∃ (m5 : Int) (b0 b1 b2 b3 : Dt), ρ = [.dat (.scr ns), .dat (.scr cs), .un, .box m5, .dat (.lst (ls.map nD)), .un, .hot [g0, g1, g2, g3], .un, .hot [b0, b1, b2, b3], .un, .un, .un] ∧ m5 ≤ m4 + 1 + 11 * i ∧ OkP b0 ∧ OkP b1 ∧ OkP b2 ∧ OkP b3, To.of ⟨m4 + 1, _, _, _, _, rfl, by omega, k0, k1, k2, k3⟩ (by get_elem_tactic_trivial), ?_, ?_⟩
          · rintro i ρ d hd ⟨m5, b0, b1, b2, b3, rfl, hm5, o0, o1, o2, o3⟩
            obtain ⟨hi, rfl⟩ := rng_at hd
            have hi : i < 3 := by omega
            refine ⟨rfl, ⟨by omega, by decide, by decide⟩, fun p p0 p1 => ?_⟩
            have p1 : p < 4 := p1
            have pp : p = 0 ∨ p = 1 ∨ p = 2 ∨ p = 3 := by omega
            rcases pp with rfl | rfl | rfl | rfl
            · exact ⟨_, rfl, rfl, m5 + 1, g0, 0, rfl, by omega, fun z => absurd z (by decide), fun e m6 oe hm6 => ⟨0, rfl, To.of ⟨m6, e, b1, b2, b3, rfl, by omega, oe, o1, o2, o3⟩ (by get_elem_tactic_trivial)⟩, fun e m6 oe hm6 => ⟨0, rfl, To.of ⟨m6, .lst e, b1, b2, b3, rfl, by omega, oe, o1, o2, o3⟩ (by get_elem_tactic_trivial)⟩⟩
            · exact ⟨_, rfl, rfl, m5 + 1, g1, 1, rfl, by omega, fun z => absurd z (by decide), fun e m6 oe hm6 => ⟨1, rfl, To.of ⟨m6, b0, e, b2, b3, rfl, by omega, o0, oe, o2, o3⟩ (by get_elem_tactic_trivial)⟩, fun e m6 oe hm6 => ⟨1, rfl, To.of ⟨m6, b0, .lst e, b2, b3, rfl, by omega, o0, oe, o2, o3⟩ (by get_elem_tactic_trivial)⟩⟩
            · exact ⟨_, rfl, rfl, m5 + 1, g2, 2, rfl, by omega, fun _ => p2, fun e m6 oe hm6 => ⟨2, rfl, To.of ⟨m6, b0, b1, e, b3, rfl, by omega, o0, o1, oe, o3⟩ (by get_elem_tactic_trivial)⟩, fun e m6 oe hm6 => ⟨2, rfl, To.of ⟨m6, b0, b1, .lst e, b3, rfl, by omega, o0, o1, oe, o3⟩ (by get_elem_tactic_trivial)⟩⟩
            · exact ⟨_, rfl, rfl, m5 + 1, g3, 3, rfl, by omega, fun _ => p3, fun e m6 oe hm6 => ⟨3, rfl, To.of ⟨m6, b0, b1, b2, e, rfl, by omega, o0, o1, o2, oe⟩ (by get_elem_tactic_trivial)⟩, fun e m6 oe hm6 => ⟨3, rfl, To.of ⟨m6, b0, b1, b2, .lst e, rfl, by omega, o0, o1, o2, oe⟩ (by get_elem_tactic_trivial)⟩⟩
          · rintro ρ ⟨m5, b0, b1, b2, b3, rfl, hm5, o0, o1, o2, o3⟩
            rw [rng_len] at hm5
            have nl := nice_four o0 o1 o2 o3
            refine ⟨nl, ?_⟩
            refine ⟨⟨rfl, rfl, rfl⟩, [], [], .refl _, b0, b1, b2, b3, rfl, rfl, o0.n, o1.n, o2.n, o3.n, ?_⟩
            refine ⟨rfl, b0, b1, b2, b3, rfl, o0.n, o1.n, o2.n, o3.n, o3.2, ?_⟩
            refine ⟨⟨rfl, rfl, rfl⟩, [], _, .refl _, _, _, rfl, rfl, rfl, by show 0 < 6; decide, by show 0 ≤ 1000000; decide, ?_⟩
            refine ⟨nl, ifF (by rw [if_pos rfl, decide_eq_true rfl]; rfl) ?_⟩
            exact To3.of ⟨m5, by omega, rfl, rfl⟩ (by get_elem_tactic_trivial)
        · rintro ρ μ ⟨m4, hm4, rfl, rfl⟩
          rw [rng_len] at hm4
          refine ⟨⟨rfl, rfl, rfl⟩, [], [], .refl _, g0, g1, g2, g3, rfl, rfl, k0.n, k1.n, k2.n, k3.n, ?_⟩
          refine ⟨⟨rfl, rfl, rfl⟩, [], _, .refl _, _, _, rfl, congrArg Dt.str due, rfl, by show 0 < 6; decide, by show 0 ≤ 1000000; decide, ?_⟩
          exact To3.of ⟨m4, _, .inr rfl, by omega, rfl, rfl⟩ (by get_elem_tactic_trivial)
    · rintro ρ μ ⟨m, S, -, hm, rfl, rfl⟩
      exact To3.of ⟨rfl, rfl⟩ (by get_elem_tactic_trivial)
  rintro ρ μ ⟨rfl, rfl⟩
  exact ⟨_, .refl _, q⟩
end
section
variable {P : Program} {w : World} {K : PySem.W.Frag} {mg : Str → Option Value} {base : Heap}
local macro_rules | `(tactic| get_elem_tactic_trivial) => `(tactic| (repeat first | exact Wk.nil | exact Wk'.nil | refine Wk.same ?_ | refine Wk'.same ?_ | refine Wk.un (fun _ z => nomatch z) ?_ | refine Wk'.un ?_))


end
end Sl
open PySem PySem.W PySem.Calls PyProof.Rows
set_option maxRecDepth 100000 in
set_option maxHeartbeats 0 in
theorem PySem.Challenge.cw_startlog_k30_hands_made_and_refused_holds : PySem.Challenge.rw_startlog_k30_hands_made_and_refused.Holds := by
  w_on; o_law
  refine HandSHeadRun.head_any (r := OpenLaw.row PySem.Challenge.rw_startlog_k30_hands_made_and_refused) (q := view (OpenLaw.row PySem.Challenge.rw_startlog_k30_hands_made_and_refused).prog [41]) (H := Sl.hk) (ob := Sl.hob) (M := 8000) (loose := Sl.hloose) (d := HandSHeadRun.topDef (OpenLaw.row PySem.Challenge.rw_startlog_k30_hands_made_and_refused).prog 41) (kwd := []) Sl.hob_eq
    (by kernel_rfl) (fun s => by kernel_rfl) Sl.hrun (by kernel_rfl) (by kernel_rfl) (by kernel_rfl) (by rfl) (by first | assumption | decide +kernel) (by decide +kernel) ⟨rfl, rfl, rfl, rfl, rfl, by decide +kernel⟩ ?hw ?hc
  case hw => w_witness2
  case hc =>
    refine Sl.walk_G (l := PySem.Challenge.rw_startlog_k30_hands_made_and_refused) (n := 63) (k := 11) (x := "_law_script") rfl (by decide) (by kernel_rfl) ⟨rfl, by decide, by decide⟩ ?F
    intro w mg fa h Y G hmg0
    obtain ⟨K, KX, c, cx⟩ := Y
    have hmg : mg ("law" : PySem.Str) = some (.ref fa) := by
      have e : (HandSHeadRun.topDef (OpenLaw.row PySem.Challenge.rw_startlog_k30_hands_made_and_refused).prog 41).name = ("law" : PySem.Str) := by kernel_rfl
      rw [← e]
      exact hmg0
    obtain ⟨T, _⟩ := Sl.tx_of KX G c cx
    have e := hmg.symm.trans T.gLaw
    cases e
    exact ⟨K, T.fdLaw, Sl.spLawD K, KX, fun s v => L2.FunD.bindsA (ps := ["_law_script"]) T.FLaw (fun _ _ _ _ _ _ us hl => match us, hl with | [_], _ => rfl) s [v] rfl, fun H a ns hl hS => Sl.law_imp hl hS, fun base _ _ => Sl.okLaw T⟩
