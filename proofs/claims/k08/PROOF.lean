import PyProof.Rows.All
import Wide.All
import OpenK.AllK
import Wide.FinOn
import KE.KStateDown
import Lean
import HandS.ForMost
import HandS.More
import HandS.WordsExc
import HandS.IsInst
import HandS.Defaults
import HandS.MakeKwOnly
import HandS.Walk
import HandS.Zip
import HandS.Replace
import HandS.Style
import HandS.Flow
import HandS.Strs
import HandS.Wide
import HandS.WideBits
import HandS.Head0
import HandS.Head1
import HandS.Head2
import HandS.HeadEnd
import HandS.HeadHook1
import HandS.HeadHook2
import HandS.RaiseMore
import HandS.Deep
import HandS.TupAny
import KE.GoesMore
import HandS.SetFor
import PyProof.Rows.SetFrom
import PyProof.Rows.SortShell
import PyProof.Rows.SortStr
import PyProof.Rows.SortShellK
import KE.GoesNew
import KE.GoesEnum
import HandS.TupMul
import HandS.Star
import PyProof.Rows.StrInSeq3
import HandS.ExcInit
import HandS.ExcIs
import HandS.ExcField
import KE.KExcIs
import HandS.ExcCtx
import HandS.SuiteRaise
import HandS.RaiseFrom
import HandS.ExcInitHot
import HandS.CallSlots
import HandS.Conv
import HandS.Small
import HandS.DictComp
import HandS.ListItems
import HandS.Finally
import HandS.TryMany
import HandS.FStr
import HandS.NoneIn
import PyProof.DictUpdate
import KE.KItemsList
import PyProof.EnumMake
import PyProof.ListNew
import PySem.Challenge.RW_startlog_k08_mixings_made_and_refused
set_option Elab.async false
set_option synthInstance.maxHeartbeats 0
set_option synthInstance.maxSize 100000
set_option linter.all false
set_option maxRecDepth 100000
set_option maxHeartbeats 4000000
namespace Sl
open PySem PySem.Spec PyProof.Rows L2
section
variable {P : Program} {w : World} {K : PySem.W.Frag} {mg : Str → Option Value} {base : Heap}
def obsE (n : Nat) (fa : List He.Fa) (fn : List He.DefD) (ex : PySem.W.Frag → Bool) (g : Addr → Option Obj) : He.AlD × Bool := (He.obsD fa fn (He.frG g (He.asD g n)), ex (He.frG g (He.asD g n)))
def hookE (n : Nat) (fa : List He.Fa) (fn : List He.DefD) (ex : PySem.W.Frag → Bool) : PySem.W.Hook where
  α := He.AlD × Bool
  obs := fun s => obsE n fa fn ex s.heap.get?
  val := fun _ => (He.valD fn, true)
  says := fun _ h => ∃ K : PySem.W.Frag, K.In h ∧ He.SaysD fa fn K ∧ ex K = true
  of := fun _ _ e => ⟨_, He.frG_in, congrArg Prod.fst e, congrArg Prod.snd e⟩
  keeps := fun _ _ _ ⟨K, hK, c⟩ k => ⟨K, PySem.W.Frag.In.keeps hK k, c⟩
def oexB (K : PySem.W.Frag) (C : Addr) : Bool := match K.lookup C with
  | some ⟨.type "type", _, .cls cd, sl⟩ => (match cd.mro, sl.toList with
    | .ref D :: bm, [_, _, _, _, some (.builtin n), _] => (D == C) && ((n == "ValueError.__new__") && ((!cd.hasDel) && (cd.hasDict && PySem.HandSPX.refsVE bm)))
    | _, _ => false)
  | _ => false
def eclB (K : PySem.W.Frag) (C fI : Addr) : Bool := oexB K C && (He.eqO (PySem.W.findIn K (.ref C) "__setattr__") (some (some (.builtin "object.__setattr__"))) && (decide (PySem.W.subIn K (.ref C) (.type "BaseException") = some true) && (decide (PySem.W.typeIn K (.ref C) = some (.type "type")) && (PySem.W.keepIn K (.ref C) &&
  (He.eqO (PySem.W.findIn K (.ref C) "__getattribute__") (some (some (.builtin "BaseException.__getattribute__"))) && (He.eqO (PySem.W.findIn K (.ref C) "__getattr__") (some none) && (PySem.W.hasDictIn K C && (He.eqO (PySem.W.findIn K (.ref C) "__class__") (some (some (.builtin "object.__class__"))) &&
  (He.eqO (PySem.W.specialIn K (.builtin "object.__class__") "__get__") (some (some (.builtin "getset_descriptor.__get__"))) && (decide (PySem.W.takesIn K (.builtin "object.__class__") = some true) && (decide (PySem.W.mroIn K C (.type "object") = some true) && (He.eqO (PySem.W.findIn K (.ref C) "what") (some none) &&
  (He.eqO (PySem.W.findIn K (.ref C) "__init__") (some (some (.ref fI))) && decide (PySem.W.typeIn K (.ref fI) = some (.type "function")))))))))))))))
def errOk (K : PySem.W.Frag) (root : Str) (cs : List Str) : Bool := cs.all fun c => eclB K (He.ga K c) (He.ma K (He.ga K root) "__init__") && (decide (PySem.W.kitOne K (.ref (He.ga K c)) (.type "ValueError") = some true) &&
  cs.all fun e => decide (PySem.W.kitOne K (.ref (He.ga K c)) (.ref (He.ga K e)) = some (decide (e = c) || decide (e = root))) && decide (PySem.W.subIn K (.ref (He.ga K c)) (.ref (He.ga K e)) = some (decide (e = c) || decide (e = root))))
def neD (K : PySem.W.Frag) (c : Str) : Bool := (PySem.W.findIn K (.ref (He.ga K c)) "__ne__" == some (some (.builtin "object.__ne__"))) && (PySem.W.subIn K (.ref (He.ga K c)) (.type "object") == some true) &&
  (PySem.W.findIn K (.ref (He.ga K c)) "__class__" == some (some (.builtin "object.__class__"))) && (PySem.W.specialIn K (.builtin "object.__class__") "__get__" == some (some (.builtin "getset_descriptor.__get__"))) &&
  (PySem.W.takesIn K (.builtin "object.__class__") == some true) && (PySem.W.mroIn K (He.ga K c) (.type "object") == some true)
def IK : List String := ["NoneType", "bool", "int", "str", "list", "tuple"]
def isoD (K : PySem.W.Frag) (c : Str) : Bool := IK.all fun s => PySem.W.kitOne K (.type s) (.ref (He.ga K c)) == some false
def top (i : Nat) : Stmt := PySem.Challenge.pw_startlog_k08_mixings_made_and_refused.main.body.getD i (.Pass ⟨0, 0, 0, 0⟩)
abbrev sWall : Stmt := top 0
abbrev sIsNumber : Stmt := top 7
abbrev sCommonDivisor : Stmt := top 8
abbrev sIsWidth : Stmt := top 13
abbrev sIsFactor : Stmt := top 14
abbrev sLBox : Stmt := top 17
abbrev sLTake : Stmt := top 18
abbrev sLCommon : Stmt := top 19
abbrev sLIsBetween : Stmt := top 20
abbrev sLOdd : Stmt := top 21
abbrev sLDue : Stmt := top 22
abbrev sLTold : Stmt := top 23
abbrev sLText : Stmt := top 24
abbrev sLDrawn : Stmt := top 25
abbrev sLOneRight : Stmt := top 26
abbrev sLaw : Stmt := top 27
abbrev sMixingInit : Stmt := inClass (top 15) 0
abbrev sMixingBegin : Stmt := inClass (top 15) 1
abbrev sMixingEq : Stmt := inClass (top 15) 5
abbrev sMixingRepr : Stmt := inClass (top 15) 6
abbrev sMixingStr : Stmt := inClass (top 15) 7
abbrev sStartErrorInit : Stmt := inClass (top 2) 0
def ERRS : List Str := ["StartError", "NoRow", "BadMixing", "NoBoard"]
def ddWall : He.DefD := ⟨("_wall", none), "_wall", "_wall", defArgs sWall, defBody sWall, defScope sWall, [], []⟩
def ddIsNumber : He.DefD := ⟨("is_number", none), "is_number", "is_number", defArgs sIsNumber, defBody sIsNumber, defScope sIsNumber, [], []⟩
def ddCommonDivisor : He.DefD := ⟨("common_divisor", none), "common_divisor", "common_divisor", defArgs sCommonDivisor, defBody sCommonDivisor, defScope sCommonDivisor, [], []⟩
def ddIsWidth : He.DefD := ⟨("is_width", none), "is_width", "is_width", defArgs sIsWidth, defBody sIsWidth, defScope sIsWidth, [], []⟩
def ddIsFactor : He.DefD := ⟨("is_factor", none), "is_factor", "is_factor", defArgs sIsFactor, defBody sIsFactor, defScope sIsFactor, [], []⟩
def ddLBox : He.DefD := ⟨("_law_box", none), "_law_box", "_law_box", defArgs sLBox, defBody sLBox, defScope sLBox, [], []⟩
def ddLTake : He.DefD := ⟨("_law_take", none), "_law_take", "_law_take", defArgs sLTake, defBody sLTake, defScope sLTake, [], []⟩
def ddLCommon : He.DefD := ⟨("_law_common", none), "_law_common", "_law_common", defArgs sLCommon, defBody sLCommon, defScope sLCommon, [], []⟩
def ddLIsBetween : He.DefD := ⟨("_law_is_between", none), "_law_is_between", "_law_is_between", defArgs sLIsBetween, defBody sLIsBetween, defScope sLIsBetween, [], []⟩
def ddLOdd : He.DefD := ⟨("_law_odd", none), "_law_odd", "_law_odd", defArgs sLOdd, defBody sLOdd, defScope sLOdd, [], []⟩
def ddLDue : He.DefD := ⟨("_law_due", none), "_law_due", "_law_due", defArgs sLDue, defBody sLDue, defScope sLDue, [], []⟩
def ddLTold : He.DefD := ⟨("_law_told", none), "_law_told", "_law_told", defArgs sLTold, defBody sLTold, defScope sLTold, [], []⟩
def ddLText : He.DefD := ⟨("_law_text", none), "_law_text", "_law_text", defArgs sLText, defBody sLText, defScope sLText, [], []⟩
def ddLDrawn : He.DefD := ⟨("_law_drawn", none), "_law_drawn", "_law_drawn", defArgs sLDrawn, defBody sLDrawn, defScope sLDrawn, [], []⟩
def ddLOneRight : He.DefD := ⟨("_law_one_right", none), "_law_one_right", "_law_one_right", defArgs sLOneRight, defBody sLOneRight, defScope sLOneRight, [], []⟩
def ddLaw : He.DefD := ⟨("law", none), "law", "law", defArgs sLaw, defBody sLaw, defScope sLaw, [], []⟩
def ddMixingInit : He.DefD := ⟨("Mixing", some "__init__"), "__init__", "Mixing.__init__", defArgs sMixingInit, defBody sMixingInit, defScope sMixingInit, [.non], [("factor", .int 7919)]⟩
def ddMixingBegin : He.DefD := ⟨("Mixing", some "begin"), "begin", "Mixing.begin", defArgs sMixingBegin, defBody sMixingBegin, defScope sMixingBegin, [], [("reset", .bl false)]⟩
def ddMixingEq : He.DefD := ⟨("Mixing", some "__eq__"), "__eq__", "Mixing.__eq__", defArgs sMixingEq, defBody sMixingEq, defScope sMixingEq, [], []⟩
def ddMixingRepr : He.DefD := ⟨("Mixing", some "__repr__"), "__repr__", "Mixing.__repr__", defArgs sMixingRepr, defBody sMixingRepr, defScope sMixingRepr, [], []⟩
def ddMixingStr : He.DefD := ⟨("Mixing", some "__str__"), "__str__", "Mixing.__str__", defArgs sMixingStr, defBody sMixingStr, defScope sMixingStr, [], []⟩
def ddStartErrorInit : He.DefD := ⟨("StartError", some "__init__"), "__init__", "StartError.__init__", defArgs sStartErrorInit, defBody sStartErrorInit, defScope sStartErrorInit, [], []⟩
def hfn : List He.DefD := [ddWall, ddIsNumber, ddCommonDivisor, ddIsWidth, ddIsFactor, ddLBox, ddLTake, ddLCommon, ddLIsBetween, ddLOdd, ddLDue, ddLTold, ddLText, ddLDrawn, ddLOneRight, ddLaw, ddMixingInit, ddMixingBegin, ddMixingEq, ddMixingRepr, ddMixingStr, ddStartErrorInit]
def hfa : List He.Fa := [.free "ValueError", .free "repr", .free "len", .free "abs", .free "int", .free "isinstance", .free "list", .free "tuple", .free "str", .free "bool", .free "all", .free "zip", .free "range", .free "max", .free "min", .free "enumerate", .free "divmod", .free "sorted", .free "set", .free "any", .glo "_wall", .glo "is_number", .glo "common_divisor", .glo "is_width", .glo "is_factor", .glo "_law_box", .glo "_law_take", .glo "_law_common", .glo "_law_is_between", .glo "_law_odd", .glo "_law_due", .glo "_law_told", .glo "_law_text", .glo "_law_drawn", .glo "_law_one_right", .glo "law", .int "FACTOR" 7919, .int "LEAST_WIDTH" 3, .int "GREATEST" 1000000, .cls "Mixing", .glo "Mixing", .mkr "Mixing", .noat "Mixing" "width", .noat "Mixing" "factor", .meth "Mixing" "begin", .meth "Mixing" "__eq__", .meth "Mixing" "__repr__", .meth "Mixing" "__str__", .glo "StartError", .glo "NoRow", .glo "BadMixing", .glo "NoBoard"]
def hex (K : PySem.W.Frag) : Bool := errOk K "StartError" ERRS && neD K "Mixing" && isoD K "Mixing"
abbrev hR : PySem.W.OpenRow := PySem.W.OpenLaw.row PySem.Challenge.rw_startlog_k08_mixings_made_and_refused
abbrev hk : PySem.W.Hook := hookE 5 hfa hfn hex
def hob (s : PySem.W.SharedT) : He.AlD × Bool := obsE 5 hfa hfn hex (HandSHeadRun.getT s)
def hloose0 : List Str := ["FACTOR", "LEAST_WIDTH", "GREATEST", "StartError", "NoRow", "BadMixing", "NoBoard", "Mixing", "_wall", "is_number", "common_divisor", "is_width"]
def hloose1 : List Str := ["is_factor", "_law_box", "_law_take", "_law_common", "_law_is_between", "_law_odd", "_law_due", "_law_told", "_law_text", "_law_drawn", "_law_one_right"]
def hloose : List Str := hloose0 ++ hloose1
theorem opt3 {α β γ δ : Type} {o : Option α} {f : α → β} {g : α → γ} {h : α → δ} {a : β} {b : γ} {c : δ} (ha : o.map f = some a) (hb : o.map g = some b) (hc : o.map h = some c) : o.map (fun s => (f s, g s, h s)) = some (a, b, c) := by
  cases o with
  | none => cases ha
  | some x =>
    cases ha
    cases hb
    cases hc
    rfl
section
open PySem PySem.W PySem.Calls PyProof.Rows HandSHeadRun
theorem hrunA (w : World) (os : OsState) : (endF (stepQ (denQ tabQ) hR.prog w) 8000 hR.prog w os).map (fun s => looksF hR.prog (boot_heap w.params) s.abs) = some true := by
  kernel_rfl
theorem hrunB (w : World) (os : OsState) : (endF (stepQ (denQ tabQ) hR.prog w) 8000 hR.prog w os).map (fun s => seenQ (PySem.W.view hR.prog [27]) hloose (importedModules hR.prog.main.body) (fun s => xlAt (PySem.W.view hR.prog [27]) [] s && recOk hR.toRowW.records s) s.abs) = some (openGood (PySem.W.view hR.prog [27]) hloose) := by
  kernel_rfl
theorem hrunC (w : World) (os : OsState) : (endF (stepQ (denQ tabQ) hR.prog w) 8000 hR.prog w os).map (fun s => hob s) = some (hk.val w) := by
  kernel_rfl
end
theorem hrun (w : World) : HandSHeadRun.RunEq hR (PySem.W.view hR.prog [27]) hk hob 8000 hloose w := by
  intro os
  exact opt3 (hrunA w os) (hrunB w os) (hrunC w os)
end
section
variable {P : Program} {w : World} {K : PySem.W.Frag} {mg : Str → Option Value} {base : Heap}

end
section
variable {P : Program} {w : World} {K : PySem.W.Frag} {mg : Str → Option Value} {base : Heap}
/-! what the head is asked for besides -/
theorem obsE_eq {n : Nat} {fa : List He.Fa} {fn : List He.DefD} {ex : PySem.W.Frag → Bool} {g : Addr → Option Obj} {s : Shared} (h : ∀ a, g a = s.heap.get? a) : obsE n fa fn ex g = (hookE n fa fn ex).obs s := by
  have e : g = s.heap.get? := funext h
  rw [e]
  rfl
/-! heaps -/
theorem same_new {H : Hp} {p : Addr} {o : HO} (h : H p = none) : Same H (upd H p o) := fun b x e => by
  rw [upd_ne (ne_of_none e h)]
  exact e
/-- all that was tracked is as it was, but for p -/
def But (p : Addr) (H G : Hp) : Prop := ∀ b o, H b = some o → b ≠ p → G b = some o
theorem But.upd {p : Addr} {H : Hp} {o : HO} : But p H (upd H p o) := fun b x e n => by
  rw [upd_ne n]
  exact e
/-- a box of draws at p, at most n of them by the second way -/
def Box (H : Hp) (p : Addr) (n : Int) : Prop := ∃ x y z : Int, H p = some (.lst [.int x, .int y, .int z]) ∧ 0 ≤ x ∧ 0 ≤ y ∧ y < 1099511627776 ∧ 0 ≤ z ∧ z ≤ n
theorem Box.same {H G : Hp} {p : Addr} {n : Int} (b : Box H p n) (s : Same H G) : Box G p n := by
  obtain ⟨x, y, z, e, h⟩ := b
  exact ⟨x, y, z, s _ _ e, h⟩
theorem seqT_same {K : PySem.W.Frag} {H G : Hp} {a : Addr} {xs : List V} (s : Same H G) (h : SqT K H a xs) : SqT K G a xs := by
  rcases h with (h | ⟨o, h⟩) | h
  · exact .inl (.inl (s _ _ h))
  · exact .inl (.inr ⟨o, s _ _ h⟩)
  · exact .inr h
theorem bit_lo (b : Bool) : -(2 ^ 64 : Int) < (if b = true then 1 else 0 : Int) := by cases b <;> decide
theorem bit_hi (b : Bool) : (if b = true then 1 else 0 : Int) < 2 ^ 64 := by cases b <;> decide
/-- o.m(k = v, ..) -/
def tMethKw (C : Addr) (m : Str) (n k : Nat) (sp : Sp) (gV : List V → List V → List V) (E : XK) (ta : TE) (t tk : TA) : TE := fun σ H Q => ta σ H fun x H1 => ∃ a dx fs, x = .ref a ∧ H1 a = some (.ins C dx fs) ∧ fs.lookup m = none ∧
  t σ H1 fun vs H2 => tk σ H2 fun zs H3 => vs.length = n ∧ zs.length = k ∧ sp (gV (.ref a :: vs) zs) H3 Q E
theorem pe_methKw {X : Cx} {CX : CXT} {k : Nat} {f C : Addr} {fd : FuncData} {ps ks : List Str} {sp : Sp} {E : XK} {m : Str} {o : Expr} {ta : TE} {apos pos : Pos} {kws : List Keyword} {tk : TA} {g : List Value → List Value → List Value} {gV : List V → List V → List V} {pl : Sem Bool}
    (he : PE X o ta) (c : Cls X.K C) (hm : Meth X.K C m f) (F : FnOk X.prog X.w X.K X.mg X.base CX k f fd ps sp) (hr : Room k X.A) (hb : KBn X.K fd ps 1 ks g gV) (hx : Passes CX X E) (hkw : PK X kws tk)
    (h1 : (backToKw pos (keywordEach kws X.env)).all (·.1.isSome) = true := by rfl) (h2 : (backToKw pos (keywordEach kws X.env)).filterMap (·.1) = ks := by rfl)
    (h4 : ((backTo pos (starEach [] X.env)).any (·.1) || (backToKw pos (keywordEach kws X.env)).any (·.1.isNone)) = false := by rfl)
    (ht : eval (.Call (.Attribute o m apos) [] kws pos) X.env = (do
      let ov ← eval o X.env
      standAt apos.atName
      let (f, first) ← holding [ov] (getMethod ov m pl)
      callWith pos f first (backTo pos (starEach [] X.env)) (backToKw pos (keywordEach kws X.env))) := by rfl) :
    PE X (.Call (.Attribute o m apos) [] kws pos) (tMethKw C m 0 ks.length sp gV E ta tNil tk) := by
  refine ⟨fun pins s σ H Q I h => ?_⟩
  refine PySem.W.methodCall_KW (pl := pl) (thn (he.run pins s σ H _ I h) fun u s1 ⟨x, H1, I1, rx, a, dx, fs, ex, ea, l, q⟩ => ?_) ht
  subst ex
  obtain rfl : u = Value.ref a := rx
  refine getmeth_ok I1 ea c hm l ?_
  refine PySem.W.callWith_KW0 (first := [.ref a]) I1.kIn hm.kp h1 ?_ h4
  refine thn (hkw.run pos pins s1 σ H1 _ I1 q) fun ws s2 ⟨zs, H2, I2, rz, l1, l2, q2⟩ => ⟨I2.kIn, ?_⟩
  rw [h2]
  exact run_fnN (us := [.ref a]) (vs := [.ref a]) F hr hb hx I2 (.cons rfl .nil) rz rfl l2 q2
/-! kinds -/
theorem ty_list {K : PySem.W.Frag} {H : Hp} {a : Addr} {xs : List V} (h : SqL K H a xs) : TyX K H (.ref a) (.type "list") := by
  rcases h with (h | ⟨o, h⟩) | ⟨o, its, n, h1, h2, _⟩
  · exact .base (.lst h)
  · exact .base (.frz h)
  · exact .kList h1 h2
theorem ty_tup {K : PySem.W.Frag} {H : Hp} {a : Addr} {xs : List V} (h : SqT K H a xs) : TyX K H (.ref a) (.type "tuple") := by
  rcases h with (h | ⟨o, h⟩) | ⟨o, its, n, h1, h2, _⟩
  · exact .base (.tup h)
  · exact .fTuple h
  · exact .kTuple h1 h2
mutual
theorem dp_same {K : PySem.W.Frag} {H G : Hp} (s : Same H G) : ∀ (d : PyData) (v : V), Dp K H v d → Dp K G v d
  | .none, _, h => by cases h; exact .non
  | .bool b, _, h => by cases h; exact .bl b
  | .int i, _, h => by cases h; exact .int i
  | .str x, _, h => by cases h; exact .str x
  | .list ds, _, h => by
    cases h with
    | lst a b => exact .lst (s.seq a) (dps_same s ds _ b)
  | .tuple ds, _, h => by
    cases h with
    | tup a b => exact .tup (seqT_same s a) (dps_same s ds _ b)
  | .dict _, _, h => by cases h
theorem dps_same {K : PySem.W.Frag} {H G : Hp} (s : Same H G) : ∀ (ds : List PyData) (vs : List V), DpAll K H vs ds → DpAll K G vs ds
  | [], _, h => by cases h; exact .nil
  | d :: ds, _, h => by
    cases h with
    | cons a b => exact .cons (dp_same s d _ a) (dps_same s ds _ b)
end
/-! a call by keywords alone -/
section
variable {X : Cx} {CX : CXT} {k : Nat} {f : Addr} {fd : FuncData} {ps ks : List Str} {sp : Sp} {E : XK} {x : Str} {p pos : Pos} {kws : List Keyword} {tk : TA} {g : List Value → List Value → List Value} {gV : List V → List V → List V}
end
/-! a call of a def without defaults by keywords -/
/-! the drawer of numbers -/
def spLBox (K : PySem.W.Frag) : Sp := fun vs H Q _ => ∃ (a : Addr) (ns : List Int) (k : Nat), vs = [.ref a, .int k] ∧ SqL K H a (ns.map V.int) ∧ k ≤ 1000 ∧
  ∀ (p : Addr) (x y : Int), H p = none → 0 ≤ x → 0 ≤ y → y < 1099511627776 → Q (.ref p) (upd H p (.lst [.int x, .int y, .int 0]))
def spLTake : Sp := fun vs H Q _ => ∃ (p : Addr) (m n : Int), vs = [.ref p, .int m] ∧ Box H p n ∧ n < 1099511627776 ∧ 0 < m ∧ m < 340282366920938463463374607431768211456 ∧
  ∀ (r : Int) (G : Hp), But p H G → Box G p (n + 1) → 0 ≤ r → r < m → Q (.int r) G
/-! two things alike, kind by kind -/


end
section
variable {P : Program} {w : World} {K : PySem.W.Frag} {mg : Str → Option Value} {base : Heap}
/-- at a: an error of class cls, its dict d -/
def exv (a : Addr) (cls : Value) (d : Option Addr) : HO := .ext fun h => ∃ (oe : Obj) (vs : Array Value), h.get? a = some oe ∧ Zc cls d oe ∧ oe.data = .fields vs
/-! data: what a value stands for, whatever the heap -/
inductive Dt where
  | non | bl (b : Bool) | int (i : Int) | str (x : Str) | lst (ds : List Dt) | tup (ds : List Dt) | obj (c : Str) (ns : List Str) (ds : List Dt) | scr (ns : List Int) | err (c : Str) (d : Dt) | adr (a : Addr) | dic (ks : List Key) (ds : List Dt)
mutual
inductive Rp (K : PySem.W.Frag) (C : Hp) : V → Dt → Prop
  | non : Rp K C .non .non
  | bl (b : Bool) : Rp K C (.bl b) (.bl b)
  | int (i : Int) : Rp K C (.int i) (.int i)
  | str (x : Str) : Rp K C (.str x) (.str x)
  | lst {a : Addr} {xs : List V} {ds : List Dt} : C a = some (.lst xs) → RpL K C xs ds → Rp K C (.ref a) (.lst ds)
  | scr {a : Addr} {ns : List Int} : SqL K C a (ns.map V.int) → Rp K C (.ref a) (.scr ns)
  | tup {a : Addr} {xs : List V} {ds : List Dt} : SqT K C a xs → RpL K C xs ds → Rp K C (.ref a) (.tup ds)
  | obj {c : Str} {x dx : Addr} {ns : List Str} {vs : List V} {ds : List Dt} : C x = some (.ins (He.ga K c) dx (ns.zip vs)) → C dx = some (.own x) → ns.length = vs.length → RpL K C vs ds → Rp K C (.ref x) (.obj c ns ds)
  | adr (a : Addr) : Rp K C (.ref a) (.adr a)
  | dic {a : Addr} {ks : List Key} {vs : List V} {ds : List Dt} : Rd C a (.dK (ks.zip vs)) → ks.length = vs.length → ks.Nodup → RpL K C vs ds → Rp K C (.ref a) (.dic ks ds)
  | err {c : Str} {a dd : Addr} {v : V} {d : Dt} : C a = some (exv a (.ref (He.ga K c)) (some dd)) → C dd = some (.xd [(("what" : Str), v)]) → Rp K C v d → Rp K C (.ref a) (.err c d)
inductive RpL (K : PySem.W.Frag) (C : Hp) : List V → List Dt → Prop
  | nil : RpL K C [] []
  | cons {v : V} {vs : List V} {d : Dt} {ds : List Dt} : Rp K C v d → RpL K C vs ds → RpL K C (v :: vs) (d :: ds)
end
mutual
theorem Rp.same_ {K : PySem.W.Frag} {C G : Hp} (s : Same C G) : ∀ (d : Dt) (v : V), Rp K C v d → Rp K G v d
  | .non, _, h => by cases h; exact .non
  | .bl b, _, h => by cases h; exact .bl b
  | .int i, _, h => by cases h; exact .int i
  | .str x, _, h => by cases h; exact .str x
  | .lst ds, _, h => by
    cases h with
    | lst a b => exact .lst (s _ _ a) (RpL.same_ s ds _ b)
  | .tup ds, _, h => by
    cases h with
    | tup a b => exact .tup (seqT_same s a) (RpL.same_ s ds _ b)
  | .scr ns, _, h => by
    cases h with
    | scr a => exact .scr (s.seq a)
  | .obj c ns ds, _, h => by
    cases h with
    | obj a b l e => exact .obj (s _ _ a) (s _ _ b) l (RpL.same_ s ds _ e)
  | .adr a, _, h => by cases h; exact .adr a
  | .dic ks ds, _, h => by
    cases h with
    | dic a l n e => exact .dic (a.imp (s _ _) fun ⟨o, q⟩ => ⟨o, s _ _ q⟩) l n (RpL.same_ s ds _ e)
  | .err c d, _, h => by
    cases h with
    | err a b e => exact .err (s _ _ a) (s _ _ b) (Rp.same_ s d _ e)
theorem RpL.same_ {K : PySem.W.Frag} {C G : Hp} (s : Same C G) : ∀ (ds : List Dt) (vs : List V), RpL K C vs ds → RpL K G vs ds
  | [], _, h => by cases h; exact .nil
  | d :: ds, _, h => by
    cases h with
    | cons a b => exact .cons (Rp.same_ s d _ a) (RpL.same_ s ds _ b)
end
theorem Rp.same {K : PySem.W.Frag} {C G : Hp} {v : V} {d : Dt} (h : Rp K C v d) (s : Same C G) : Rp K G v d := Rp.same_ s d v h
theorem RpL.same {K : PySem.W.Frag} {C G : Hp} {vs : List V} {ds : List Dt} (h : RpL K C vs ds) (s : Same C G) : RpL K G vs ds := RpL.same_ s ds vs h
theorem RpL.len {K : PySem.W.Frag} {C : Hp} : ∀ {vs : List V} {ds : List Dt}, RpL K C vs ds → vs.length = ds.length
  | _, _, .nil => rfl
  | _, _, .cons _ t => congrArg Nat.succ (RpL.len t)
theorem RpL.at {K : PySem.W.Frag} {C : Hp} : ∀ {vs : List V} {ds : List Dt} {i : Nat} {v : V}, RpL K C vs ds → vs[i]? = some v → ∃ d, ds[i]? = some d ∧ Rp K C v d
  | _, _, i, v, .nil, h => by simp at h
  | _, _, 0, v, .cons a t, h => by
    have e := Option.some.inj h
    subst e
    exact ⟨_, rfl, a⟩
  | _, _, i + 1, v, .cons a t, h => RpL.at (i := i) t h
theorem RpL.at' {K : PySem.W.Frag} {C : Hp} : ∀ {vs : List V} {ds : List Dt} {i : Nat} {d : Dt}, RpL K C vs ds → ds[i]? = some d → ∃ v, vs[i]? = some v ∧ Rp K C v d
  | _, _, i, d, .nil, h => by simp at h
  | _, _, 0, d, .cons a t, h => by
    have e := Option.some.inj h
    subst e
    exact ⟨_, rfl, a⟩
  | _, _, i + 1, d, .cons a t, h => RpL.at' (i := i) t h
theorem RpL.append {K : PySem.W.Frag} {C : Hp} : ∀ {vs ws : List V} {ds es : List Dt}, RpL K C vs ds → RpL K C ws es → RpL K C (vs ++ ws) (ds ++ es)
  | _, _, _, _, .nil, h => h
  | _, _, _, _, .cons a t, h => .cons a (RpL.append t h)
theorem RpL.take {K : PySem.W.Frag} {C : Hp} : ∀ {vs : List V} {ds : List Dt} (n : Nat), RpL K C vs ds → RpL K C (vs.take n) (ds.take n)
  | _, _, 0, _ => .nil
  | _, _, _ + 1, .nil => .nil
  | _, _, n + 1, .cons a t => .cons a (RpL.take n t)
theorem RpL.drop {K : PySem.W.Frag} {C : Hp} : ∀ {vs : List V} {ds : List Dt} (n : Nat), RpL K C vs ds → RpL K C (vs.drop n) (ds.drop n)
  | _, _, 0, h => h
  | _, _, _ + 1, .nil => .nil
  | _, _, n + 1, .cons a t => RpL.drop n t
/-! a def's names, by what they stand for -/
inductive Sl where
  | un | dat (d : Dt) | hot (ds : List Dt) | box (n : Int)
inductive Rs where
  | dat (d : Dt) | hot (i : Nat) (ds : List Dt) | box (i : Nat) (n : Int)
def Sl.mut : Sl → Bool
  | .hot _ => true
  | .box _ => true
  | _ => false
structure Bs where
  C0 : Hp
  H0 : Hp
  bx : Option (Nat × Addr)
def SlOk (K : PySem.W.Frag) (C H : Hp) (x : Option (Option V)) : Sl → Prop
  | .un => True
  | .dat d => ∃ v, x = some (some v) ∧ Rp K C v d
  | .hot ds => ∃ a vs, x = some (some (.ref a)) ∧ H a = some (.lst vs) ∧ RpL K C vs ds ∧ C a = none
  | .box n => ∃ p, x = some (some (.ref p)) ∧ Box H p n ∧ C p = none
structure Sep (K : PySem.W.Frag) (B : Bs) (C H : Hp) (σ : L2.St) (ρ : List Sl) : Prop where
  cold : Same C H
  len : σ.length = ρ.length
  sl : ∀ (i : Nat) (s : Sl), ρ[i]? = some s → SlOk K C H σ[i]? s
  ne : ∀ (i j : Nat) (a : Addr) (s t : Sl), i ≠ j → ρ[i]? = some s → ρ[j]? = some t → s.mut = true → t.mut = true → σ[i]? = some (some (V.ref a)) → σ[j]? = some (some (V.ref a)) → False
  grow : Same B.C0 C
  new : ∀ a o, C a = some o → B.C0 a = none → B.H0 a = none
  dom : ∀ a, B.H0 a ≠ none → H a ≠ none
  keep : ∀ a o, B.H0 a = some o → (∀ i, B.bx ≠ some (i, a)) → H a = some o
  loc : ∀ (i : Nat) (a : Addr) (ds : List Dt), ρ[i]? = some (.hot ds) → σ[i]? = some (some (V.ref a)) → B.H0 a = none
  lob : ∀ (i : Nat) (a : Addr) (n : Int), ρ[i]? = some (.box n) → σ[i]? = some (some (V.ref a)) → B.H0 a = none ∨ B.bx = some (i, a)
  par : ∀ (i : Nat) (a : Addr), B.bx = some (i, a) → σ[i]? = some (some (V.ref a)) ∧ ∃ n, ρ[i]? = some (.box n)
  pz : ∀ (i : Nat) (a : Addr), B.bx = some (i, a) → i = 0
section
variable {B : Bs} {C H : Hp} {σ : L2.St} {ρ : List Sl}
theorem Sep.mutH (S : Sep K B C H σ ρ) {i : Nat} {s : Sl} {a : Addr} (h : ρ[i]? = some s) (m : s.mut = true) (e : σ[i]? = some (some (V.ref a))) : C a = none ∧ H a ≠ none := by
  have q := S.sl i s h
  cases s with
  | un => cases m
  | dat d => cases m
  | hot ds =>
    obtain ⟨b, vs, e2, h2, _, h3⟩ := q
    rw [e] at e2
    cases e2
    exact ⟨h3, by rw [h2]; exact fun z => nomatch z⟩
  | box n =>
    obtain ⟨b, e2, ⟨x, y, z, h2, _⟩, h3⟩ := q
    rw [e] at e2
    cases e2
    exact ⟨h3, by rw [h2]; exact fun z => nomatch z⟩
theorem Sep.alloc (S : Sep K B C H σ ρ) {p : Addr} {o : HO} (hp : H p = none) : Sep K B (upd C p o) (upd H p o) σ ρ := by
  have cp : C p = none := S.cold.free hp
  have sC : Same C (upd C p o) := same_new cp
  have sH : Same H (upd H p o) := same_new hp
  have ha : ∀ a, H a ≠ none → a ≠ p := fun a h e => h (by rw [e]; exact hp)
  refine ⟨fun b x e => ?_, S.len, fun i s h => ?_, S.ne, S.grow.trans sC, fun a x e n => ?_, fun a h => ?_, fun a x h n => sH _ _ (S.keep a x h n), S.loc, S.lob, S.par, S.pz⟩
  · by_cases z : b = p
    · subst z
      rw [upd_same] at e ⊢
      exact e
    · rw [upd_ne z] at e ⊢
      exact S.cold _ _ e
  · have q := S.sl i s h
    cases s with
    | un => trivial
    | dat d =>
      obtain ⟨v, e, r⟩ := q
      exact ⟨v, e, r.same sC⟩
    | hot ds =>
      obtain ⟨a, vs, e, h2, r, h3⟩ := q
      have np := ha a (by rw [h2]; exact fun z => nomatch z)
      exact ⟨a, vs, e, sH _ _ h2, r.same sC, by rw [upd_ne np]; exact h3⟩
    | box n =>
      obtain ⟨a, e, b, h3⟩ := q
      have np := ha a (by obtain ⟨x, y, z, h2, _⟩ := b; rw [h2]; exact fun z => nomatch z)
      exact ⟨a, e, b.same sH, by rw [upd_ne np]; exact h3⟩
  · by_cases z : a = p
    · subst z
      cases q : B.H0 a with
      | none => rfl
      | some u => exact absurd hp (S.dom a (by rw [q]; exact fun z => nomatch z))
    · rw [upd_ne z] at e
      exact S.new a x e n
  · by_cases z : a = p
    · subst z
      rw [upd_same]
      exact fun z => nomatch z
    · rw [upd_ne z]
      exact S.dom a h
theorem get_set {α : Type} {l : List α} {i j : Nat} {x y : α} (h : (l.set i x)[j]? = some y) : (i = j ∧ x = y ∧ i < l.length) ∨ (i ≠ j ∧ l[j]? = some y) := by
  rw [List.getElem?_set] at h
  by_cases e : i = j
  · rw [if_pos e] at h
    by_cases z : i < l.length
    · rw [if_pos (e ▸ z)] at h
      exact .inl ⟨e, Option.some.inj h, z⟩
    · rw [if_neg (e ▸ z)] at h
      cases h
  · rw [if_neg e] at h
    exact .inr ⟨e, h⟩
theorem set_at {α : Type} {l : List α} {i : Nat} {x : α} (h : i < l.length) : (l.set i x)[i]? = some x := by
  rw [List.getElem?_set, if_pos rfl, if_pos h]
theorem set_off {α : Type} {l : List α} {i j : Nat} {x : α} (h : i ≠ j) : (l.set i x)[j]? = l[j]? := by
  rw [List.getElem?_set, if_neg h]
/-- slot i is put anew -/
theorem Sep.put (S : Sep K B C H σ ρ) {i : Nat} {x : Option V} {s : Sl} (hb : i = 0 → ∀ n, ρ[i]? ≠ some (.box n)) (ok : i < ρ.length → SlOk K C H (some x) s) (hm : s.mut = true → ∀ a, x = some (.ref a) → (∀ j t, i ≠ j → ρ[j]? = some t → t.mut = true → σ[j]? ≠ some (some (V.ref a))) ∧ B.H0 a = none) :
    Sep K B C H (σ.set i x) (ρ.set i s) := by
  have hl := S.len
  refine ⟨S.cold, by rw [List.length_set, List.length_set, S.len], fun j t h => ?_, fun j k a t u n h1 h2 m1 m2 e1 e2 => ?_, S.grow, S.new, S.dom, S.keep, fun j a ds h e => ?_, fun j a n h e => ?_, fun j a h => ?_, S.pz⟩
  · rcases get_set h with ⟨rfl, rfl, l⟩ | ⟨n, h⟩
    · rw [set_at (by omega)]
      exact ok l
    · rw [set_off n]
      exact S.sl j t h
  · rcases get_set h1 with ⟨rfl, rfl, l⟩ | ⟨n1, h1⟩
    · rw [set_at (by omega)] at e1
      rw [set_off n] at h2 e2
      exact (hm m1 a (Option.some.inj e1)).1 k u n h2 m2 e2
    · rw [set_off n1] at e1
      rcases get_set h2 with ⟨rfl, rfl, l⟩ | ⟨n2, h2⟩
      · rw [set_at (by omega)] at e2
        exact (hm m2 a (Option.some.inj e2)).1 j t n1 h1 m1 e1
      · rw [set_off n2] at e2
        exact S.ne j k a t u n h1 h2 m1 m2 e1 e2
  · rcases get_set h with ⟨rfl, rfl, l⟩ | ⟨n, h⟩
    · rw [set_at (by omega)] at e
      exact (hm rfl a (Option.some.inj e)).2
    · rw [set_off n] at e
      exact S.loc j a ds h e
  · rcases get_set h with ⟨rfl, rfl, l⟩ | ⟨n, h⟩
    · rw [set_at (by omega)] at e
      exact .inl (hm rfl a (Option.some.inj e)).2
    · rw [set_off n] at e
      exact S.lob j a _ h e
  · obtain ⟨e, m, h2⟩ := S.par j a h
    have n : i ≠ j := fun z => hb (z.trans (S.pz j a h)) m (by rw [z]; exact h2)
    rw [set_off n, set_off n]
    exact ⟨e, m, h2⟩
theorem Sep.dat (S : Sep K B C H σ ρ) {i : Nat} {v : V} {d : Dt} (hb : i = 0 → ∀ n, ρ[i]? ≠ some (.box n)) (r : Rp K C v d) : Sep K B C H (σ.set i (some v)) (ρ.set i (.dat d)) :=
  S.put hb (fun _ => ⟨v, rfl, r⟩) fun z => nomatch z
theorem Sep.un (S : Sep K B C H σ ρ) {i : Nat} {x : Option V} (hb : i = 0 → ∀ n, ρ[i]? ≠ some (.box n)) : Sep K B C H (σ.set i x) (ρ.set i .un) :=
  S.put hb (fun _ => trivial) fun z => nomatch z
/-- a mutable thing grows cold -/
theorem Sep.cool (S : Sep K B C H σ ρ) {i : Nat} {ds : List Dt} {v : V} (h : ρ[i]? = some (.hot ds)) (e : σ[i]? = some (some v)) : ∃ C', Sep K B C' H σ (ρ.set i (.dat (.lst ds))) ∧ Same C C' ∧ Rp K C' v (.lst ds) := by
  obtain ⟨a, vs, e2, ha, r, ca⟩ := S.sl i _ h
  rw [e] at e2
  cases e2
  have sC : Same C (upd C a (.lst vs)) := same_new ca
  have R : Rp K (upd C a (.lst vs)) (.ref a) (.lst ds) := .lst upd_same (r.same sC)
  have li : i < ρ.length := by
    cases Nat.lt_or_ge i ρ.length with
    | inl h => exact h
    | inr g =>
      rw [List.getElem?_eq_none g] at h
      cases h
  refine ⟨upd C a (.lst vs), ⟨fun b o q => ?_, by rw [List.length_set]; exact S.len, fun j t q => ?_, fun j k b t u n h1 h2 m1 m2 e1 e2 => ?_, S.grow.trans sC, fun b o q n => ?_, S.dom, S.keep, fun j b es q q2 => ?_, fun j b n q q2 => ?_, fun j b q => ?_, S.pz⟩, sC, R⟩
  · by_cases z : b = a
    · subst z
      rw [upd_same] at q
      rw [ha]
      exact q
    · rw [upd_ne z] at q
      exact S.cold _ _ q
  · rcases get_set q with ⟨rfl, rfl, l⟩ | ⟨n, q⟩
    · exact ⟨_, e, R⟩
    · have w := S.sl j t q
      cases t with
      | un => trivial
      | dat d =>
        obtain ⟨v, e, r⟩ := w
        exact ⟨v, e, r.same sC⟩
      | hot es =>
        obtain ⟨b, ws, e3, h2, r2, h3⟩ := w
        have np : b ≠ a := fun z => S.ne i j a _ _ n h q rfl rfl e (z ▸ e3)
        exact ⟨b, ws, e3, h2, r2.same sC, by rw [upd_ne np]; exact h3⟩
      | box m =>
        obtain ⟨b, e3, h2, h3⟩ := w
        have np : b ≠ a := fun z => S.ne i j a _ _ n h q rfl rfl e (z ▸ e3)
        exact ⟨b, e3, h2, by rw [upd_ne np]; exact h3⟩
  · rcases get_set h1 with ⟨rfl, rfl, l⟩ | ⟨n1, h1⟩
    · cases m1
    rcases get_set h2 with ⟨rfl, rfl, l⟩ | ⟨n2, h2⟩
    · cases m2
    exact S.ne j k b t u n h1 h2 m1 m2 e1 e2
  · by_cases z : b = a
    · subst z
      exact S.loc i b ds h e
    · rw [upd_ne z] at q
      exact S.new b o q n
  · rcases get_set q with ⟨rfl, z, l⟩ | ⟨n, q⟩
    · cases z
    · exact S.loc j b es q q2
  · rcases get_set q with ⟨rfl, z, l⟩ | ⟨n, q⟩
    · cases z
    · exact S.lob j b _ q q2
  · obtain ⟨e3, m, h2⟩ := S.par j b q
    have n : i ≠ j := fun z => by rw [← z, h] at h2; cases h2
    exact ⟨e3, m, by rw [set_off n]; exact h2⟩
/-- a mutable list is changed -/
theorem Sep.hot (S : Sep K B C H σ ρ) {i : Nat} {ds es : List Dt} {a : Addr} {ws : List V} (h : ρ[i]? = some (.hot ds)) (e : σ[i]? = some (some (V.ref a))) (r : RpL K C ws es) : Sep K B C (upd H a (.lst ws)) σ (ρ.set i (.hot es)) := by
  have ca := (S.mutH h rfl e).1
  have h0 := S.loc i a ds h e
  have nC : ∀ b o, C b = some o → b ≠ a := fun b o q z => by rw [z, ca] at q; cases q
  refine ⟨fun b o q => by rw [upd_ne (nC b o q)]; exact S.cold _ _ q, by rw [List.length_set]; exact S.len, fun j t q => ?_, fun j k b t u n h1 h2 m1 m2 e1 e2 => ?_, S.grow, S.new, fun b q => ?_, fun b o q n => ?_, fun j b es q q2 => ?_, fun j b n q q2 => ?_, fun j b q => ?_, S.pz⟩
  · rcases get_set q with ⟨rfl, rfl, l⟩ | ⟨n, q⟩
    · exact ⟨a, ws, e, upd_same, r, ca⟩
    · have w := S.sl j t q
      cases t with
      | un => trivial
      | dat d => exact w
      | hot fs =>
        obtain ⟨b, us, e3, h2, r2, h3⟩ := w
        have np : b ≠ a := fun z => S.ne i j a _ _ n h q rfl rfl e (z ▸ e3)
        exact ⟨b, us, e3, by rw [upd_ne np]; exact h2, r2, h3⟩
      | box m =>
        obtain ⟨b, e3, ⟨x, y, z, h2, hh⟩, h3⟩ := w
        have np : b ≠ a := fun z => S.ne i j a _ _ n h q rfl rfl e (z ▸ e3)
        exact ⟨b, e3, ⟨x, y, z, by rw [upd_ne np]; exact h2, hh⟩, h3⟩
  · have back : ∀ {m : Nat} {t : Sl}, (ρ.set i (.hot es))[m]? = some t → t.mut = true → ∃ t', ρ[m]? = some t' ∧ t'.mut = true := fun {m t} z y => by
      rcases get_set z with ⟨rfl, rfl, l⟩ | ⟨n, z⟩
      · exact ⟨_, h, rfl⟩
      · exact ⟨t, z, y⟩
    obtain ⟨t', h1, m1⟩ := back h1 m1
    obtain ⟨u', h2, m2⟩ := back h2 m2
    exact S.ne j k b t' u' n h1 h2 m1 m2 e1 e2
  · by_cases z : b = a
    · rw [z, upd_same]
      exact fun z => nomatch z
    · rw [upd_ne z]
      exact S.dom b q
  · have np : b ≠ a := fun z => by rw [z, h0] at q; cases q
    rw [upd_ne np]
    exact S.keep b o q n
  · rcases get_set q with ⟨rfl, z, l⟩ | ⟨n, q⟩
    · exact S.loc _ b ds h q2
    · exact S.loc j b _ q q2
  · rcases get_set q with ⟨rfl, z, l⟩ | ⟨n, q⟩
    · cases z
    · exact S.lob j b _ q q2
  · obtain ⟨e3, m, h2⟩ := S.par j b q
    have n : i ≠ j := fun z => by rw [← z, h] at h2; cases h2
    exact ⟨e3, m, by rw [set_off n]; exact h2⟩
end

end
section
variable {P : Program} {w : World} {K : PySem.W.Frag} {mg : Str → Option Value} {base : Heap}
/-! readings over data -/
inductive Ar where
  | d (x : Dt) | b (i : Nat)
inductive Ro where
  | dat (d : Dt) | new (ds : List Dt)
abbrev WE := List Sl → (Rs → List Sl → Prop) → Prop
abbrev WN := List Sl → (List Dt → List Sl → Prop) → Prop
abbrev WT := List Sl → (Bool → List Sl → Prop) → Prop
abbrev WA := List Sl → (List Ar → List Sl → Prop) → Prop
abbrev WG := Dt → List Sl → (List Sl → Prop) → Prop
def RsOk (K : PySem.W.Frag) (C : Hp) (σ : L2.St) (ρ : List Sl) (v : V) : Rs → Prop
  | .dat d => Rp K C v d
  | .hot i ds => σ[i]? = some (some v) ∧ ρ[i]? = some (.hot ds)
  | .box i n => σ[i]? = some (some v) ∧ ρ[i]? = some (.box n)
/-- data, or a list that may be changed of such -/
def Rt (K : PySem.W.Frag) (C H : Hp) (v : V) (d : Dt) : Prop := Rp K C v d ∨ ∃ a vs ds, v = .ref a ∧ d = .lst ds ∧ H a = some (.lst vs) ∧ RpL K C vs ds
def Fr (K : PySem.W.Frag) (B : Bs) (C H : Hp) (σ : L2.St) (ρ : List Sl) (a : Addr) (ds : List Dt) : Prop :=
  (∃ vs, H a = some (.lst vs) ∧ RpL K C vs ds) ∧ C a = none ∧ B.H0 a = none ∧ ∀ (j : Nat) (t : Sl), ρ[j]? = some t → t.mut = true → σ[j]? ≠ some (some (V.ref a))
class Sd (K : PySem.W.Frag) (t : TE) (w : outParam WE) : Prop where
  run : ∀ (B : Bs) (C H : Hp) (σ : L2.St) (ρ : List Sl) (Q : VK) (Ψ : Rs → List Sl → Prop), Sep K B C H σ ρ → w ρ Ψ → (∀ C' G v r ρ', Sep K B C' G σ ρ' → Same C C' → RsOk K C' σ ρ' v r → Ψ r ρ' → Q v G) → t σ H Q
class Sn (K : PySem.W.Frag) (t : TE) (w : outParam WN) : Prop where
  run : ∀ (B : Bs) (C H : Hp) (σ : L2.St) (ρ : List Sl) (Q : VK) (Ψ : List Dt → List Sl → Prop), Sep K B C H σ ρ → w ρ Ψ → (∀ C' G a ds ρ', Sep K B C' G σ ρ' → Same C C' → Fr K B C' G σ ρ' a ds → Ψ ds ρ' → Q (.ref a) G) → t σ H Q
class Sc (K : PySem.W.Frag) (t : TT) (w : outParam WT) : Prop where
  run : ∀ (B : Bs) (C H : Hp) (σ : L2.St) (ρ : List Sl) (Q : Bool → Hp → Prop) (Ψ : Bool → List Sl → Prop), Sep K B C H σ ρ → w ρ Ψ → (∀ C' G b ρ', Sep K B C' G σ ρ' → Same C C' → Ψ b ρ' → Q b G) → t σ H Q
def ArOk (K : PySem.W.Frag) (C : Hp) (σ : L2.St) (v : V) : Ar → Prop
  | .d x => Rp K C v x
  | .b i => σ[i]? = some (some v)
inductive ArL (K : PySem.W.Frag) (C : Hp) (σ : L2.St) : List V → List Ar → Prop
  | nil : ArL K C σ [] []
  | cons {v : V} {vs : List V} {a : Ar} {as : List Ar} : ArOk K C σ v a → ArL K C σ vs as → ArL K C σ (v :: vs) (a :: as)
class Sa (K : PySem.W.Frag) (t : TA) (w : outParam WA) : Prop where
  run : ∀ (B : Bs) (C H : Hp) (σ : L2.St) (ρ : List Sl) (Q : List V → Hp → Prop) (Ψ : List Ar → List Sl → Prop), Sep K B C H σ ρ → w ρ Ψ → (∀ C' G vs as ρ', Sep K B C' G σ ρ' → Same C C' → ArL K C' σ vs as → Ψ as ρ' → Q vs G) → t σ H Q
theorem ArOk.same {C G : Hp} {σ : L2.St} {v : V} {a : Ar} (h : ArOk K C σ v a) (s : Same C G) : ArOk K G σ v a := by
  cases a with
  | d x => exact Rp.same h s
  | b i => exact h
theorem ArL.same {C G : Hp} {σ : L2.St} (s : Same C G) : ∀ {vs : List V} {as : List Ar}, ArL K C σ vs as → ArL K G σ vs as
  | _, _, .nil => .nil
  | _, _, .cons h t => .cons (h.same s) (ArL.same s t)
/-- what is put into a thing grows cold -/
def store (r : Rs) (ρ : List Sl) (k : Ar → List Sl → Prop) : Prop := match r with
  | .dat d => k (.d d) ρ
  | .hot i ds => k (.d (.lst ds)) (ρ.set i (.dat (.lst ds)))
  | .box i _ => k (.b i) ρ
def Rs.val (ρ : List Sl) : Rs → Option Dt
  | .dat d => some d
  | .hot i _ => match ρ[i]? with
    | some (.hot ds) => some (.lst ds)
    | some (.dat d) => some d
    | _ => none
  | .box _ _ => none
def dats : List Ar → Option (List Dt)
  | [] => some []
  | .d x :: as => match dats as with
    | some ds => some (x :: ds)
    | none => none
  | .b _ :: _ => none
theorem ArL.dats {C : Hp} {σ : L2.St} : ∀ {vs : List V} {as : List Ar} {ds : List Dt}, ArL K C σ vs as → dats as = some ds → RpL K C vs ds
  | _, _, ds, .nil, e => by cases e; exact .nil
  | _, .d x :: as, ds, .cons h t, e => by
    unfold Sl.dats at e
    cases q : Sl.dats as with
    | none => rw [q] at e; cases e
    | some es =>
      rw [q] at e
      cases e
      exact .cons h (ArL.dats t q)
  | _, .b i :: as, ds, .cons h t, e => by cases e
section
variable {B : Bs} {C H G : Hp} {σ : L2.St} {ρ : List Sl}
theorem Sep.stored (S : Sep K B C H σ ρ) {v : V} {r : Rs} {k : Ar → List Sl → Prop} (h : RsOk K C σ ρ v r) (hk : store r ρ k) : ∃ C' a ρ', Sep K B C' H σ ρ' ∧ Same C C' ∧ ArOk K C' σ v a ∧ k a ρ' := by
  cases r with
  | dat d => exact ⟨C, .d d, ρ, S, Same.refl _, h, hk⟩
  | hot i ds =>
    obtain ⟨C', S', s, r⟩ := S.cool h.2 h.1
    exact ⟨C', .d (.lst ds), _, S', s, r, hk⟩
  | box i n => exact ⟨C, .b i, ρ, S, Same.refl _, h.1, hk⟩
theorem Sep.valOf (S : Sep K B C H σ ρ) {C0 : Hp} {ρ0 : List Sl} {v : V} {r : Rs} {d : Dt} (h : RsOk K C0 σ ρ0 v r) (s : Same C0 C) (e : r.val ρ = some d) : Rt K C H v d := by
  cases r with
  | dat d' => cases e; exact .inl (Rp.same h s)
  | hot i ds =>
    obtain ⟨h1, h2⟩ := h
    unfold Rs.val at e
    dsimp only at e
    cases q : ρ[i]? with
    | none => rw [q] at e; cases e
    | some t =>
      rw [q] at e
      cases t with
      | un => cases e
      | dat d' =>
        cases e
        obtain ⟨u, e1, r⟩ := S.sl i _ q
        rw [h1] at e1
        cases e1
        exact .inl r
      | hot es =>
        cases e
        obtain ⟨a, vs, e1, ha, r, _⟩ := S.sl i _ q
        rw [h1] at e1
        cases e1
        exact .inr ⟨a, vs, es, rfl, rfl, ha, r⟩
      | box n => cases e
  | box i n => cases e
theorem Sep.allocN (S : Sep K B C H σ ρ) {p : Addr} {o : HO} (hp : H p = none) : Sep K B C (upd H p o) σ ρ := by
  have sH : Same H (upd H p o) := same_new hp
  refine ⟨S.cold.trans sH, S.len, fun i s h => ?_, S.ne, S.grow, S.new, fun a h => ?_, fun a x h n => sH _ _ (S.keep a x h n), S.loc, S.lob, S.par, S.pz⟩
  · have q := S.sl i s h
    cases s with
    | un => trivial
    | dat d => exact q
    | hot ds =>
      obtain ⟨a, vs, e, h2, r, h3⟩ := q
      exact ⟨a, vs, e, sH _ _ h2, r, h3⟩
    | box n =>
      obtain ⟨a, e, b, h3⟩ := q
      exact ⟨a, e, b.same sH, h3⟩
  · by_cases z : a = p
    · subst z
      rw [upd_same]
      exact fun z => nomatch z
    · rw [upd_ne z]
      exact S.dom a h
theorem Sep.free0 (S : Sep K B C H σ ρ) {p : Addr} (hp : H p = none) : B.H0 p = none := by
  cases q : B.H0 p with
  | none => rfl
  | some u => exact absurd hp (S.dom p (by rw [q]; exact fun z => nomatch z))
theorem Sep.nohot (S : Sep K B C H σ ρ) {p : Addr} (hp : H p = none) : ∀ (j : Nat) (t : Sl), ρ[j]? = some t → t.mut = true → σ[j]? ≠ some (some (V.ref p)) := fun j t h m e => (S.mutH h m e).2 hp
theorem Sep.frN (S : Sep K B C H σ ρ) {p : Addr} {vs : List V} {ds : List Dt} (hp : H p = none) (r : RpL K C vs ds) : Fr K B C (upd H p (.lst vs)) σ ρ p ds :=
  ⟨⟨vs, upd_same, r⟩, S.cold.free hp, S.free0 hp, S.nohot hp⟩
/-- a new list grows cold -/
theorem Fr.cool {a : Addr} {ds : List Dt} (f : Fr K B C H σ ρ a ds) (S : Sep K B C H σ ρ) : ∃ C', Sep K B C' H σ ρ ∧ Same C C' ∧ Rp K C' (.ref a) (.lst ds) := by
  obtain ⟨⟨vs, ha, r⟩, ca, h0, nh⟩ := f
  have sC : Same C (upd C a (.lst vs)) := same_new ca
  refine ⟨upd C a (.lst vs), ⟨fun b o q => ?_, S.len, fun j t q => ?_, S.ne, S.grow.trans sC, fun b o q n => ?_, S.dom, S.keep, S.loc, S.lob, S.par, S.pz⟩, sC, .lst upd_same (r.same sC)⟩
  · by_cases z : b = a
    · subst z
      rw [upd_same] at q
      rw [ha]
      exact q
    · rw [upd_ne z] at q
      exact S.cold _ _ q
  · have w := S.sl j t q
    cases t with
    | un => trivial
    | dat d =>
      obtain ⟨v, e, r⟩ := w
      exact ⟨v, e, r.same sC⟩
    | hot es =>
      obtain ⟨b, ws, e3, h2, r2, h3⟩ := w
      have np : b ≠ a := fun z => nh j _ q rfl (z ▸ e3)
      exact ⟨b, ws, e3, h2, r2.same sC, by rw [upd_ne np]; exact h3⟩
    | box m =>
      obtain ⟨b, e3, h2, h3⟩ := w
      have np : b ≠ a := fun z => nh j _ q rfl (z ▸ e3)
      exact ⟨b, e3, h2, by rw [upd_ne np]; exact h3⟩
  · by_cases z : b = a
    · subst z
      exact h0
    · rw [upd_ne z] at q
      exact S.new b o q n
theorem Rt.list' {v : V} {ds : List Dt} (S : Sep K B C H σ ρ) (h : Rt K C H v (.lst ds)) : ∃ a vs, v = .ref a ∧ H a = some (.lst vs) ∧ RpL K C vs ds := by
  rcases h with h | ⟨b, vs, es, e1, e2, h, r⟩
  · cases h with
    | lst h r => exact ⟨_, _, rfl, S.cold _ _ h, r⟩
  · cases e1
    cases e2
    exact ⟨b, vs, rfl, h, r⟩
theorem Rt.tup' {v : V} {ds : List Dt} (S : Sep K B C H σ ρ) (h : Rt K C H v (.tup ds)) : ∃ a vs, v = .ref a ∧ SqT K H a vs ∧ RpL K C vs ds := by
  rcases h with h | ⟨b, vs, es, e1, e2, h, r⟩
  · cases h with
    | tup h r => exact ⟨_, _, rfl, seqT_same S.cold h, r⟩
  · cases e2
theorem Rt.int {v : V} {i : Int} (h : Rt K C H v (.int i)) : v = .int i := by
  rcases h with h | ⟨b, vs, es, e1, e2, h, r⟩
  · cases h; rfl
  · cases e2
theorem Rt.bl {v : V} {b : Bool} (h : Rt K C H v (.bl b)) : v = .bl b := by
  rcases h with h | ⟨b, vs, es, e1, e2, h, r⟩
  · cases h; rfl
  · cases e2
theorem Rt.str {v : V} {x : Str} (h : Rt K C H v (.str x)) : v = .str x := by
  rcases h with h | ⟨b, vs, es, e1, e2, h, r⟩
  · cases h; rfl
  · cases e2
theorem Rt.non {v : V} (h : Rt K C H v .non) : v = .non := by
  rcases h with h | ⟨b, vs, es, e1, e2, h, r⟩
  · cases h; rfl
  · cases e2
end
/-! names, constants -/
def wVar (i : Nat) : WE := fun ρ Ψ => match ρ[i]? with
  | some (.dat d) => Ψ (.dat d) ρ
  | some (.hot ds) => Ψ (.hot i ds) ρ
  | some (.box n) => Ψ (.box i n) ρ
  | _ => False
instance sd_var {i : Nat} : Sd K (tVar i) (wVar i) where
  run B C H σ ρ Q Ψ S h k := by
    unfold wVar at h
    cases q : ρ[i]? with
    | none => rw [q] at h; exact h.elim
    | some t =>
      rw [q] at h
      have s := S.sl i t q
      cases t with
      | un => exact h.elim
      | dat d =>
        obtain ⟨v, e, r⟩ := s
        exact ⟨v, e, k _ _ _ (.dat d) _ S (Same.refl _) r h⟩
      | hot ds =>
        obtain ⟨a, vs, e, _⟩ := s
        exact ⟨_, e, k _ _ _ (.hot i ds) _ S (Same.refl _) ⟨e, q⟩ h⟩
      | box n =>
        obtain ⟨a, e, _⟩ := s
        exact ⟨_, e, k _ _ _ (.box i n) _ S (Same.refl _) ⟨e, q⟩ h⟩
def datV : V → Option Dt
  | .non => some .non
  | .bl b => some (.bl b)
  | .int i => some (.int i)
  | .str x => some (.str x)
  | _ => none
theorem datV_ok {C : Hp} : ∀ {v : V} {d : Dt}, datV v = some d → Rp K C v d
  | .non, _, e => by cases e; exact .non
  | .bl b, _, e => by cases e; exact .bl b
  | .int i, _, e => by cases e; exact .int i
  | .str x, _, e => by cases e; exact .str x
def wC (v : V) : WE := fun ρ Ψ => match datV v with
  | some d => Ψ (.dat d) ρ
  | none => False
instance sd_c {v : V} : Sd K (tC v) (wC v) where
  run B C H σ ρ Q Ψ S h k := by
    unfold wC at h
    cases q : datV v with
    | none => rw [q] at h; exact h.elim
    | some d =>
      rw [q] at h
      exact k _ _ _ (.dat d) _ S (Same.refl _) (datV_ok q) h
/-! two operands -/
class So (K : PySem.W.Frag) (r : R2) (op : outParam (Dt → Dt → (Dt → Prop) → Prop)) : Prop where
  run : ∀ (B : Bs) (C H : Hp) (σ : L2.St) (ρ : List Sl) (x y : V) (dx dy : Dt) (Q : VK) (Φ : Dt → Prop), Sep K B C H σ ρ → Rt K C H x dx → Rt K C H y dy → op dx dy Φ → (∀ C' G v d, Sep K B C' G σ ρ → Same C C' → Rp K C' v d → Φ d → Q v G) → r x y H Q
def wOp (op : Dt → Dt → (Dt → Prop) → Prop) (wa wb : WE) : WE := fun ρ Ψ => wa ρ fun r1 ρ1 => wb ρ1 fun r2 ρ2 => match r1.val ρ2, r2.val ρ2 with
  | some d1, some d2 => op d1 d2 fun d => Ψ (.dat d) ρ2
  | _, _ => False
instance sd_op {r : R2} {op : Dt → Dt → (Dt → Prop) → Prop} {ta tb : TE} {wa wb : WE} [o : So K r op] [a : Sd K ta wa] [b : Sd K tb wb] : Sd K (tOp r ta tb) (wOp op wa wb) where
  run B C H σ ρ Q Ψ S h k := by
    refine a.run B C H σ ρ _ _ S h fun C1 H1 v1 r1 ρ1 S1 s1 ok1 h1 => ?_
    refine b.run B C1 H1 σ ρ1 _ _ S1 h1 fun C2 H2 v2 r2 ρ2 S2 s2 ok2 h2 => ?_
    cases q1 : r1.val ρ2 with
    | none => simp only [q1] at h2
    | some d1 =>
      cases q2 : r2.val ρ2 with
      | none => simp only [q1, q2] at h2
      | some d2 =>
        simp only [q1, q2] at h2
        exact o.run B C2 H2 σ ρ2 _ _ _ _ _ _ S2 (S2.valOf ok1 s2 q1) (S2.valOf ok2 (Same.refl _) q2) h2 fun C' G v d S' s' r' z => k _ _ _ (.dat d) _ S' (s1.trans (s2.trans s')) r' z
def oI (P : Int → Int → Prop) (g : Int → Int → V) : Dt → Dt → (Dt → Prop) → Prop
  | .int i, .int j, Φ => P i j ∧ (match datV (g i j) with | some d => Φ d | none => False)
  | _, _, _ => False
theorem oI_run {P : Int → Int → Prop} {g : Int → Int → V} {C H : Hp} {x y : V} {dx dy : Dt} {Φ : Dt → Prop} (hx : Rt K C H x dx) (hy : Rt K C H y dy) (h : oI P g dx dy Φ) : ∃ i j d, x = .int i ∧ y = .int j ∧ P i j ∧ datV (g i j) = some d ∧ Φ d := by
  cases dx <;> cases dy <;> try exact False.elim h
  rename_i i j
  obtain ⟨p, z⟩ := h
  cases q : datV (g i j) with
  | none => rw [q] at z; exact z.elim
  | some d =>
    rw [q] at z
    exact ⟨i, j, d, hx.int, hy.int, p, q, z⟩
instance so_I {P : Int → Int → Prop} {g : Int → Int → V} : So K (rI P g) (oI P g) where
  run B C H σ ρ x y dx dy Q Φ S hx hy h k := by
    obtain ⟨i, j, d, rfl, rfl, p, q, z⟩ := oI_run hx hy h
    exact ⟨i, j, rfl, rfl, p, k _ _ _ _ S (Same.refl _) (datV_ok q) z⟩
def oI0 (g : Int → Int → V) : Dt → Dt → (Dt → Prop) → Prop
  | .int i, .int j, Φ => (match datV (g i j) with | some d => Φ d | none => False)
  | _, _, _ => False
theorem oI0_run {g : Int → Int → V} {C H : Hp} {x y : V} {dx dy : Dt} {Φ : Dt → Prop} (hx : Rt K C H x dx) (hy : Rt K C H y dy) (h : oI0 g dx dy Φ) : ∃ i j d, x = .int i ∧ y = .int j ∧ datV (g i j) = some d ∧ Φ d := by
  cases dx <;> cases dy <;> try exact False.elim h
  rename_i i j
  have z : (match datV (g i j) with | some d => Φ d | none => False) := h
  cases q : datV (g i j) with
  | none => rw [q] at z; exact z.elim
  | some d =>
    rw [q] at z
    exact ⟨i, j, d, hx.int, hy.int, q, z⟩
instance so_I0 {g : Int → Int → V} : So K (rI0 g) (oI0 g) where
  run B C H σ ρ x y dx dy Q Φ S hx hy h k := by
    obtain ⟨i, j, d, rfl, rfl, q, z⟩ := oI0_run hx hy h
    exact ⟨i, j, rfl, rfl, k _ _ _ _ S (Same.refl _) (datV_ok q) z⟩
/-! xs[i] -/
def oIxL : Dt → Dt → (Dt → Prop) → Prop
  | .lst ds, .int i, Φ => ∃ d, atI ds i = some d ∧ Φ d
  | _, _, _ => False
def oIxT : Dt → Dt → (Dt → Prop) → Prop
  | .tup ds, .int i, Φ => ∃ d, atI ds i = some d ∧ Φ d
  | _, _, _ => False
theorem RpL.atI {C : Hp} {vs : List V} {ds : List Dt} {i : Int} {d : Dt} (r : RpL K C vs ds) (e : L2.atI ds i = some d) : ∃ v, L2.atI vs i = some v ∧ Rp K C v d := by
  unfold L2.atI at e ⊢
  rw [r.len]
  cases q : ixN ds.length i with
  | none => rw [q] at e; cases e
  | some j =>
    rw [q] at e
    exact r.at' (i := j) e
instance so_ixL : So K (rIxL K) oIxL where
  run B C H σ ρ x y dx dy Q Φ S hx hy h k := by
    cases dx <;> cases dy <;> try exact False.elim h
    obtain ⟨d, e, z⟩ := h
    obtain ⟨a, vs, rfl, hs, r⟩ := hx.list' S
    obtain ⟨v, ev, rv⟩ := r.atI e
    exact ⟨a, vs, _, v, rfl, hy.int, SqL.of hs, ev, k _ _ _ _ S (Same.refl _) rv z⟩
instance so_ixT : So K (rIxT K) oIxT where
  run B C H σ ρ x y dx dy Q Φ S hx hy h k := by
    cases dx <;> cases dy <;> try exact False.elim h
    obtain ⟨d, e, z⟩ := h
    obtain ⟨a, vs, rfl, hs, r⟩ := hx.tup' S
    obtain ⟨v, ev, rv⟩ := r.atI e
    exact ⟨a, vs, _, v, rfl, hy.int, hs, ev, k _ _ _ _ S (Same.refl _) rv z⟩
/-! new lists -/
def wCool (w : WN) : WE := fun ρ Ψ => w ρ fun ds ρ' => Ψ (.dat (.lst ds)) ρ'
instance (priority := low) sd_new {t : TE} {w : WN} [n : Sn K t w] : Sd K t (wCool w) where
  run B C H σ ρ Q Ψ S h k := n.run B C H σ ρ _ _ S h fun C1 H1 a ds ρ1 S1 s1 f z => by
    obtain ⟨C', S', s', r'⟩ := f.cool S1
    exact k _ _ _ (.dat (.lst ds)) _ S' (s1.trans s') r' z
def wANil : WA := fun ρ Ψ => Ψ [] ρ
def wACons (wa : WE) (wr : WA) : WA := fun ρ Ψ => wa ρ fun r ρ1 => store r ρ1 fun a ρ2 => wr ρ2 fun as ρ3 => Ψ (a :: as) ρ3
instance sa_nil : Sa K tNil wANil where
  run B C H σ ρ Q Ψ S h k := k _ _ _ _ _ S (Same.refl _) .nil h
instance sa_cons {ta : TE} {tr : TA} {wa : WE} {wr : WA} [a : Sd K ta wa] [b : Sa K tr wr] : Sa K (tCons ta tr) (wACons wa wr) where
  run B C H σ ρ Q Ψ S h k := by
    refine a.run B C H σ ρ _ _ S h fun C1 H1 v1 r1 ρ1 S1 s1 ok1 h1 => ?_
    obtain ⟨C2, x, ρ2, S2, s2, ok2, h2⟩ := S1.stored ok1 h1
    refine b.run B C2 H1 σ ρ2 _ _ S2 h2 fun C3 H3 vs as ρ3 S3 s3 ok3 h3 => ?_
    exact k _ _ _ _ _ S3 (s1.trans (s2.trans s3)) (.cons (ok2.same s3) ok3) h3
def wLst (wa : WA) : WN := fun ρ Ψ => wa ρ fun as ρ1 => match dats as with
  | some ds => ds.length ≤ sizeLine ∧ Ψ ds ρ1
  | none => False
instance sn_lst {ta : TA} {wa : WA} [a : Sa K ta wa] : Sn K (tLst ta) (wLst wa) where
  run B C H σ ρ Q Ψ S h k := by
    refine a.run B C H σ ρ _ _ S h fun C1 H1 vs as ρ1 S1 s1 ok1 h1 => ?_
    cases q : dats as with
    | none => simp only [q] at h1
    | some ds =>
      simp only [q] at h1
      have r := ok1.dats q
      exact ⟨by rw [r.len]; exact h1.1, fun p hp => k _ _ _ _ _ (S1.allocN hp) s1 (S1.frN hp r) h1.2⟩
def wTup (wa : WA) : WE := fun ρ Ψ => wa ρ fun as ρ1 => match dats as with
  | some ds => ds.length ≤ sizeLine ∧ Ψ (.dat (.tup ds)) ρ1
  | none => False
instance sd_tup {ta : TA} {wa : WA} [a : Sa K ta wa] : Sd K (tTup ta) (wTup wa) where
  run B C H σ ρ Q Ψ S h k := by
    refine a.run B C H σ ρ _ _ S h fun C1 H1 vs as ρ1 S1 s1 ok1 h1 => ?_
    cases q : dats as with
    | none => simp only [q] at h1
    | some ds =>
      simp only [q] at h1
      have r := ok1.dats q
      refine ⟨by rw [r.len]; exact h1.1, fun p hp => ?_⟩
      have sC : Same C1 (upd C1 p (.tup vs)) := same_new (S1.cold.free hp)
      exact k _ _ _ (.dat (.tup ds)) _ (S1.alloc hp) (s1.trans sC) (.tup (.inl (.inl upd_same)) (r.same sC)) h1.2
class Sno (K : PySem.W.Frag) (r : R2) (op : outParam (Dt → Dt → (List Dt → Prop) → Prop)) : Prop where
  run : ∀ (B : Bs) (C H : Hp) (σ : L2.St) (ρ : List Sl) (x y : V) (dx dy : Dt) (Q : VK) (Φ : List Dt → Prop), Sep K B C H σ ρ → Rt K C H x dx → Rt K C H y dy → op dx dy Φ → (∀ C' G a ds, Sep K B C' G σ ρ → Same C C' → Fr K B C' G σ ρ a ds → Φ ds → Q (.ref a) G) → r x y H Q
def wNop (op : Dt → Dt → (List Dt → Prop) → Prop) (wa wb : WE) : WN := fun ρ Ψ => wa ρ fun r1 ρ1 => wb ρ1 fun r2 ρ2 => match r1.val ρ2, r2.val ρ2 with
  | some d1, some d2 => op d1 d2 fun d => Ψ d ρ2
  | _, _ => False
instance sn_op {r : R2} {op : Dt → Dt → (List Dt → Prop) → Prop} {ta tb : TE} {wa wb : WE} [o : Sno K r op] [a : Sd K ta wa] [b : Sd K tb wb] : Sn K (tOp r ta tb) (wNop op wa wb) where
  run B C H σ ρ Q Ψ S h k := by
    refine a.run B C H σ ρ _ _ S h fun C1 H1 v1 r1 ρ1 S1 s1 ok1 h1 => ?_
    refine b.run B C1 H1 σ ρ1 _ _ S1 h1 fun C2 H2 v2 r2 ρ2 S2 s2 ok2 h2 => ?_
    cases q1 : r1.val ρ2 with
    | none => simp only [q1] at h2
    | some d1 =>
      cases q2 : r2.val ρ2 with
      | none => simp only [q1, q2] at h2
      | some d2 =>
        simp only [q1, q2] at h2
        exact o.run B C2 H2 σ ρ2 _ _ _ _ _ _ S2 (S2.valOf ok1 s2 q1) (S2.valOf ok2 (Same.refl _) q2) h2 fun C' G v d S' s' r' z => k _ _ _ _ _ S' (s1.trans (s2.trans s')) r' z

end
section
variable {P : Program} {w : World} {K : PySem.W.Frag} {mg : Str → Option Value} {base : Heap}
local macro_rules | `(tactic| get_elem_tactic_trivial) => `(tactic| (repeat first | exact Wk.nil | exact Wk'.nil | refine Wk.same ?_ | refine Wk'.same ?_ | refine Wk.un (fun _ z => nomatch z) ?_ | refine Wk'.un ?_))
/-! tests -/
def isBl (r : Rs) (k : Bool → Prop) : Prop := match r with
  | .dat (.bl b) => k b
  | _ => False
def wTest (w : WE) : WT := fun ρ Ψ => w ρ fun r ρ1 => isBl r fun b => Ψ b ρ1
theorem wTest_run {C : Hp} {σ : L2.St} {ρ : List Sl} {v : V} {r : Rs} {k : Bool → Prop} (ok : RsOk K C σ ρ v r) (h : isBl r k) : ∃ b, v = .bl b ∧ k b := by
  cases r with
  | dat d =>
    cases d <;> try exact False.elim h
    cases ok
    exact ⟨_, rfl, h⟩
  | hot i ds => exact False.elim h
  | box i n => exact False.elim h
instance sc_b {t : TE} {w : WE} [a : Sd K t w] : Sc K (tB t) (wTest w) where
  run B C H σ ρ Q Ψ S h k := a.run B C H σ ρ _ _ S h fun C1 H1 v1 r1 ρ1 S1 s1 ok1 h1 => by
    obtain ⟨b, rfl, z⟩ := wTest_run ok1 h1
    exact ⟨b, rfl, k _ _ _ _ S1 s1 z⟩
instance sc_test {t : TE} {w : WE} [a : Sd K t w] : Sc K (tTest t) (wTest w) where
  run B C H σ ρ Q Ψ S h k := a.run B C H σ ρ _ _ S h fun C1 H1 v1 r1 ρ1 S1 s1 ok1 h1 => by
    obtain ⟨b, rfl, z⟩ := wTest_run ok1 h1
    exact ⟨b, rfl, k _ _ _ _ S1 s1 z⟩
def wAnd (wa wb : WT) : WT := fun ρ Ψ => wa ρ fun b ρ1 => if b = true then wb ρ1 Ψ else Ψ false ρ1
def wOr (wa wb : WT) : WT := fun ρ Ψ => wa ρ fun b ρ1 => if b = true then Ψ true ρ1 else wb ρ1 Ψ
def wNot (wa : WT) : WT := fun ρ Ψ => wa ρ fun b ρ1 => Ψ (!b) ρ1
instance sc_and {ta tb : TT} {wa wb : WT} [a : Sc K ta wa] [b : Sc K tb wb] : Sc K (tAnd ta tb) (wAnd wa wb) where
  run B C H σ ρ Q Ψ S h k := a.run B C H σ ρ _ _ S h fun C1 H1 c ρ1 S1 s1 h1 => by
    cases c with
    | true => exact b.run B C1 H1 σ ρ1 _ _ S1 h1 fun C2 H2 e ρ2 S2 s2 h2 => k _ _ _ _ S2 (s1.trans s2) h2
    | false => exact k _ _ _ _ S1 s1 h1
instance sc_or {ta tb : TT} {wa wb : WT} [a : Sc K ta wa] [b : Sc K tb wb] : Sc K (tOr ta tb) (wOr wa wb) where
  run B C H σ ρ Q Ψ S h k := a.run B C H σ ρ _ _ S h fun C1 H1 c ρ1 S1 s1 h1 => by
    cases c with
    | false => exact b.run B C1 H1 σ ρ1 _ _ S1 h1 fun C2 H2 e ρ2 S2 s2 h2 => k _ _ _ _ S2 (s1.trans s2) h2
    | true => exact k _ _ _ _ S1 s1 h1
instance sc_not {ta : TT} {wa : WT} [a : Sc K ta wa] : Sc K (tNot ta) (wNot wa) where
  run B C H σ ρ Q Ψ S h k := a.run B C H σ ρ _ _ S h fun C1 H1 c ρ1 S1 s1 h1 => k _ _ _ _ S1 s1 h1
def wBl (w : WT) : WE := fun ρ Ψ => w ρ fun b ρ1 => Ψ (.dat (.bl b)) ρ1
instance sd_not {ta : TE} {wa : WE} [a : Sd K ta wa] : Sd K (tNotV ta) (wBl (wNot (wTest wa))) where
  run B C H σ ρ Q Ψ S h k := a.run B C H σ ρ _ _ S h fun C1 H1 v1 r1 ρ1 S1 s1 ok1 h1 => by
    obtain ⟨b, rfl, z⟩ := wTest_run ok1 h1
    exact ⟨b, rfl, k _ _ _ (.dat _) _ S1 s1 (.bl _) z⟩
def wAndV (wa : WT) (wb : WE) : WE := fun ρ Ψ => wa ρ fun b ρ1 => if b = true then wb ρ1 Ψ else Ψ (.dat (.bl false)) ρ1
def wOrV (wa : WT) (wb : WE) : WE := fun ρ Ψ => wa ρ fun b ρ1 => if b = true then Ψ (.dat (.bl true)) ρ1 else wb ρ1 Ψ
instance sd_and {ta tb : TE} {wa wb : WE} [a : Sd K ta wa] [b : Sd K tb wb] : Sd K (tAndV ta tb) (wAndV (wTest wa) wb) where
  run B C H σ ρ Q Ψ S h k := a.run B C H σ ρ _ _ S h fun C1 H1 v1 r1 ρ1 S1 s1 ok1 h1 => by
    obtain ⟨c, rfl, z⟩ := wTest_run ok1 h1
    refine ⟨c, rfl, ?_⟩
    cases c with
    | true => exact b.run B C1 H1 σ ρ1 _ _ S1 z fun C2 H2 v2 r2 ρ2 S2 s2 ok2 h2 => k _ _ _ _ _ S2 (s1.trans s2) ok2 h2
    | false => exact k _ _ _ (.dat _) _ S1 s1 (.bl _) z
instance sd_or {ta tb : TE} {wa wb : WE} [a : Sd K ta wa] [b : Sd K tb wb] : Sd K (tOrV ta tb) (wOrV (wTest wa) wb) where
  run B C H σ ρ Q Ψ S h k := a.run B C H σ ρ _ _ S h fun C1 H1 v1 r1 ρ1 S1 s1 ok1 h1 => by
    obtain ⟨c, rfl, z⟩ := wTest_run ok1 h1
    refine ⟨c, rfl, ?_⟩
    cases c with
    | false => exact b.run B C1 H1 σ ρ1 _ _ S1 z fun C2 H2 v2 r2 ρ2 S2 s2 ok2 h2 => k _ _ _ _ _ S2 (s1.trans s2) ok2 h2
    | true => exact k _ _ _ (.dat _) _ S1 s1 (.bl _) z
def wIf (wc : WT) (wa wb : WE) : WE := fun ρ Ψ => wc ρ fun b ρ1 => if b = true then wa ρ1 Ψ else wb ρ1 Ψ
instance sd_if {tc : TT} {ta tb : TE} {wc : WT} {wa wb : WE} [c : Sc K tc wc] [a : Sd K ta wa] [b : Sd K tb wb] : Sd K (tIf tc ta tb) (wIf wc wa wb) where
  run B C H σ ρ Q Ψ S h k := c.run B C H σ ρ _ _ S h fun C1 H1 e ρ1 S1 s1 h1 => by
    cases e with
    | true => exact a.run B C1 H1 σ ρ1 _ _ S1 h1 fun C2 H2 v2 r2 ρ2 S2 s2 ok2 h2 => k _ _ _ _ _ S2 (s1.trans s2) ok2 h2
    | false => exact b.run B C1 H1 σ ρ1 _ _ S1 h1 fun C2 H2 v2 r2 ρ2 S2 s2 ok2 h2 => k _ _ _ _ _ S2 (s1.trans s2) ok2 h2
/-- a < b < c: b a plain value -/
def wChain (o o' : Dt → Dt → (Dt → Prop) → Prop) (wa wb wc : WE) : WE := fun ρ Ψ => wa ρ fun r1 ρ1 => wb ρ1 fun r2 ρ2 => match r1, r2 with
  | .dat d1, .dat d2 => o d1 d2 fun d => match d with
    | .bl b => if b = true then wc ρ2 fun r3 ρ3 => match r3 with
      | .dat d3 => o' d2 d3 fun d => Ψ (.dat d) ρ3
      | _ => False
      else Ψ (.dat (.bl false)) ρ2
    | _ => False
  | _, _ => False
instance sd_chain {r r' : R2} {o o' : Dt → Dt → (Dt → Prop) → Prop} {ta tb tc : TE} {wa wb wc : WE} [p : So K r o] [p' : So K r' o'] [a : Sd K ta wa] [b : Sd K tb wb] [c : Sd K tc wc] : Sd K (tChain r r' ta tb tc) (wChain o o' wa wb wc) where
  run B C H σ ρ Q Ψ S h k := by
    refine a.run B C H σ ρ _ _ S h fun C1 H1 v1 r1 ρ1 S1 s1 ok1 h1 => ?_
    refine b.run B C1 H1 σ ρ1 _ _ S1 h1 fun C2 H2 v2 r2 ρ2 S2 s2 ok2 h2 => ?_
    cases r1 <;> cases r2 <;> try exact False.elim h2
    rename_i d1 d2
    refine p.run B C2 H2 σ ρ2 _ _ _ _ _ _ S2 (.inl (Rp.same ok1 s2)) (.inl ok2) h2 fun C3 H3 v d S3 s3 r3 z => ?_
    cases d <;> try exact False.elim z
    rename_i e
    cases r3
    refine ⟨e, rfl, ?_⟩
    cases e with
    | false => exact k _ _ _ (.dat _) _ S3 (s1.trans (s2.trans s3)) (.bl _) z
    | true =>
      refine c.run B C3 H3 σ ρ2 _ _ S3 z fun C4 H4 v4 r4 ρ4 S4 s4 ok4 h4 => ?_
      cases r4 <;> try exact False.elim h4
      refine p'.run B C4 H4 σ ρ4 _ _ _ _ _ _ S4 (.inl ((Rp.same ok2 s3).same s4)) (.inl ok4) h4 fun C5 H5 v5 d5 S5 s5 r5 z5 => ?_
      exact k _ _ _ (.dat _) _ S5 (s1.trans (s2.trans (s3.trans (s4.trans s5)))) r5 z5
/-! builtins by name -/
class Sb (K : PySem.W.Frag) (r : List V → Hp → VK → Prop) (f : outParam (List Dt → (Dt → Prop) → Prop)) : Prop where
  run : ∀ (B : Bs) (C H : Hp) (σ : L2.St) (ρ : List Sl) (vs : List V) (ds : List Dt) (Q : VK) (Φ : Dt → Prop), Sep K B C H σ ρ → RpL K C vs ds → f ds Φ → (∀ C' G v d, Sep K B C' G σ ρ → Same C C' → Rp K C' v d → Φ d → Q v G) → r vs H Q
def wCB (f : List Dt → (Dt → Prop) → Prop) (wa : WA) : WE := fun ρ Ψ => wa ρ fun as ρ1 => match dats as with
  | some ds => f ds fun d => Ψ (.dat d) ρ1
  | none => False
instance sd_cb {r : List V → Hp → VK → Prop} {f : List Dt → (Dt → Prop) → Prop} {ta : TA} {wa : WA} [b : Sb K r f] [a : Sa K ta wa] : Sd K (tCB r ta) (wCB f wa) where
  run B C H σ ρ Q Ψ S h k := a.run B C H σ ρ _ _ S h fun C1 H1 vs as ρ1 S1 s1 ok1 h1 => by
    cases q : dats as with
    | none => simp only [q] at h1
    | some ds =>
      simp only [q] at h1
      exact b.run B C1 H1 σ ρ1 _ _ _ _ S1 (ok1.dats q) h1 fun C2 H2 v d S2 s2 r2 z => k _ _ _ (.dat d) _ S2 (s1.trans s2) r2 z
/-! statements -/
structure Fs where
  nx : List Sl → Prop
  rt : Ro → List Sl → Prop
  bk : List Sl → Prop
  ct : List Sl → Prop
abbrev WS := List Sl → Fs → Prop
def RoOk (K : PySem.W.Frag) (B : Bs) (C H : Hp) (σ : L2.St) (ρ : List Sl) (v : V) : Ro → Prop
  | .dat d => Rp K C v d
  | .new ds => ∃ a, v = .ref a ∧ Fr K B C H σ ρ a ds
structure Meets (K : PySem.W.Frag) (B : Bs) (Φ : Fs) (D : Ends) : Prop where
  nx : ∀ C H σ ρ, Sep K B C H σ ρ → Φ.nx ρ → D.nx σ H
  rt : ∀ C H σ ρ v r, Sep K B C H σ ρ → RoOk K B C H σ ρ v r → Φ.rt r ρ → D.rt v H
  bk : ∀ C H σ ρ, Sep K B C H σ ρ → Φ.bk ρ → D.bk σ H
  ct : ∀ C H σ ρ, Sep K B C H σ ρ → Φ.ct ρ → D.ct σ H
class Ss (K : PySem.W.Frag) (t : TS) (w : outParam WS) : Prop where
  run : ∀ (B : Bs) (C H : Hp) (σ : L2.St) (ρ : List Sl) (D : Ends) (Φ : Fs), Sep K B C H σ ρ → w ρ Φ → Meets K B Φ D → t D σ H
instance ss_next : Ss K tNext (fun ρ Φ => Φ.nx ρ) where
  run B C H σ ρ D Φ S h m := m.nx _ _ _ _ S h
def wSeq (wt wu : WS) : WS := fun ρ Φ => wt ρ { Φ with nx := fun ρ' => wu ρ' Φ }
instance ss_seq {t u : TS} {wt wu : WS} [a : Ss K t wt] [b : Ss K u wu] : Ss K (tSeq t u) (wSeq wt wu) where
  run B C H σ ρ D Φ S h m := a.run B C H σ ρ _ _ S h ⟨fun C1 H1 σ1 ρ1 S1 z => b.run B C1 H1 σ1 ρ1 _ _ S1 z m, m.rt, m.bk, m.ct⟩
/-- slot i, no box of the def's own, is put -/
def put (i : Nat) (s : Sl) (ρ : List Sl) (k : List Sl → Prop) : Prop := match i, ρ[i]? with
  | 0, some (.box _) => False
  | _, _ => k (ρ.set i s)
theorem put_run {i : Nat} {s : Sl} {ρ : List Sl} {k : List Sl → Prop} (h : put i s ρ k) : (i = 0 → ∀ n, ρ[i]? ≠ some (.box n)) ∧ k (ρ.set i s) := by
  unfold put at h
  split at h
  · exact h.elim
  · rename_i x y z
    exact ⟨fun e n q => z n e q, h⟩
class Sg (K : PySem.W.Frag) (g : TG) (w : outParam WG) : Prop where
  run : ∀ (B : Bs) (C H : Hp) (σ : L2.St) (ρ : List Sl) (v : V) (d : Dt) (Q : L2.St → Hp → Prop) (Ψ : List Sl → Prop), Sep K B C H σ ρ → Rp K C v d → w d ρ Ψ → (∀ σ' ρ', Sep K B C H σ' ρ' → Ψ ρ' → Q σ' H) → g v σ H Q
instance sg_name {i : Nat} : Sg K (gName i) (fun d ρ k => put i (.dat d) ρ k) where
  run B C H σ ρ v d Q Ψ S r h k := by
    obtain ⟨h1, h2⟩ := put_run h
    exact k _ _ (S.dat h1 r) h2
class Sgs (K : PySem.W.Frag) (g : TGs) (w : outParam (List Dt → List Sl → (List Sl → Prop) → Prop)) : Prop where
  run : ∀ (B : Bs) (C H : Hp) (σ : L2.St) (ρ : List Sl) (vs : List V) (ds : List Dt) (Q : L2.St → Hp → Prop) (Ψ : List Sl → Prop), Sep K B C H σ ρ → RpL K C vs ds → w ds ρ Ψ → (∀ σ' ρ', Sep K B C H σ' ρ' → Ψ ρ' → Q σ' H) → g vs σ H Q
def wgNil : List Dt → List Sl → (List Sl → Prop) → Prop
  | [], ρ, k => k ρ
  | _ :: _, _, _ => False
def wgCons (w : WG) (ws : List Dt → List Sl → (List Sl → Prop) → Prop) : List Dt → List Sl → (List Sl → Prop) → Prop
  | [], _, _ => False
  | d :: ds, ρ, k => w d ρ fun ρ1 => ws ds ρ1 k
instance sgs_nil : Sgs K gNil wgNil where
  run B C H σ ρ vs ds Q Ψ S r h k := by
    cases r with
    | nil => exact And.intro rfl (k _ _ S h)
    | cons a b => exact False.elim h
instance sgs_cons {g : TG} {gs : TGs} {w : WG} {ws : List Dt → List Sl → (List Sl → Prop) → Prop} [a : Sg K g w] [b : Sgs K gs ws] : Sgs K (gCons g gs) (wgCons w ws) where
  run B C H σ ρ vs ds Q Ψ S r h k := by
    cases r with
    | nil => exact False.elim h
    | cons r1 r2 => exact ⟨_, _, rfl, a.run B C H σ ρ _ _ _ _ S r1 h fun σ1 ρ1 S1 h1 => b.run B C H σ1 ρ1 _ _ _ _ S1 r2 h1 k⟩
def wgTup (n : Nat) (ws : List Dt → List Sl → (List Sl → Prop) → Prop) : WG
  | .tup ds, ρ, k => ds.length = n ∧ ws ds ρ k
  | _, _, _ => False
instance sg_tup {n : Nat} {gs : TGs} {ws : List Dt → List Sl → (List Sl → Prop) → Prop} [a : Sgs K gs ws] : Sg K (gTup K n gs) (wgTup n ws) where
  run B C H σ ρ v d Q Ψ S r h k := by
    cases d <;> try exact False.elim h
    cases r with
    | tup hs rl => exact ⟨_, _, rfl, seqT_same S.cold hs, by rw [rl.len]; exact h.1, a.run B C H σ ρ _ _ _ _ S rl h.2 k⟩
def wAsg (w : WE) (wg : WG) : WS := fun ρ Φ => w ρ fun r ρ1 => store r ρ1 fun a ρ2 => match a with
  | .d x => wg x ρ2 Φ.nx
  | .b _ => False
instance (priority := 900) ss_asg {te : TE} {g : TG} {w : WE} {wg : WG} [a : Sd K te w] [b : Sg K g wg] : Ss K (tAsg te g) (wAsg w wg) where
  run B C H σ ρ D Φ S h m := a.run B C H σ ρ _ _ S h fun C1 H1 v1 r1 ρ1 S1 s1 ok1 h1 => by
    obtain ⟨C2, x, ρ2, S2, s2, ok2, h2⟩ := S1.stored ok1 h1
    cases x with
    | b i => exact False.elim h2
    | d x => exact b.run B C2 H1 σ ρ2 _ _ _ _ S2 ok2 h2 fun σ' ρ' S' z => m.nx _ _ _ _ S' z
def wAsgN (i : Nat) (w : WN) : WS := fun ρ Φ => w ρ fun ds ρ1 => put i (.hot ds) ρ1 Φ.nx
instance ss_asgN {te : TE} {i : Nat} {w : WN} [a : Sn K te w] : Ss K (tAsg te (gName i)) (wAsgN i w) where
  run B C H σ ρ D Φ S h m := a.run B C H σ ρ _ _ S h fun C1 H1 a ds ρ1 S1 s1 f z => by
    obtain ⟨h1, h2⟩ := put_run z
    obtain ⟨⟨vs, ha, r⟩, ca, h0, nh⟩ := f
    exact m.nx _ _ _ _ (S1.put (x := some (.ref a)) (s := .hot ds) h1 (fun _ => ⟨a, vs, rfl, ha, r, ca⟩) fun _ b e => by cases e; exact ⟨fun j t _ => nh j t, h0⟩) h2
def wPar (i j : Nat) (wa : WA) : WS := fun ρ Φ => wa ρ fun as ρ1 => match dats as with
  | some [x, y] => put i (.dat x) ρ1 fun ρ2 => put j (.dat y) ρ2 Φ.nx
  | _ => False
instance ss_par {i j : Nat} {ta : TA} {wa : WA} [a : Sa K ta wa] : Ss K (tPar i j ta) (wPar i j wa) where
  run B C H σ ρ D Φ S h m := a.run B C H σ ρ _ _ S h fun C1 H1 vs as ρ1 S1 s1 ok1 h1 => by
    cases q : dats as with
    | none => simp only [q] at h1
    | some ds =>
      simp only [q] at h1
      have r := ok1.dats q
      match ds, r, h1 with
      | [x, y], .cons r1 (.cons r2 .nil), h1 =>
        obtain ⟨p1, h2⟩ := put_run h1
        obtain ⟨p2, h3⟩ := put_run h2
        exact ⟨_, _, rfl, m.nx _ _ _ _ ((S1.dat p1 r1).dat p2 r2) h3⟩
def wDrop (w : WE) : WS := fun ρ Φ => w ρ fun _ ρ1 => Φ.nx ρ1
instance ss_drop {te : TE} {w : WE} [a : Sd K te w] : Ss K (tDrop te) (wDrop w) where
  run B C H σ ρ D Φ S h m := a.run B C H σ ρ _ _ S h fun C1 H1 v1 r1 ρ1 S1 s1 ok1 h1 => m.nx _ _ _ _ S1 h1
def wRet (w : WE) : WS := fun ρ Φ => w ρ fun r ρ1 => match r with
  | .dat d => Φ.rt (.dat d) ρ1
  | .hot i ds => Φ.rt (.new ds) (ρ1.set i .un)
  | .box _ _ => False
instance (priority := 900) ss_ret {te : TE} {w : WE} [a : Sd K te w] : Ss K (tRet te) (wRet w) where
  run B C H σ ρ D Φ S h m := a.run B C H σ ρ _ _ S h fun C1 H1 v1 r1 ρ1 S1 s1 ok1 h1 => by
    cases r1 with
    | dat d => exact m.rt _ _ _ _ _ (.dat d) S1 ok1 h1
    | box i n => exact False.elim h1
    | hot i ds =>
      obtain ⟨e1, e2⟩ := ok1
      obtain ⟨b, vs, e3, hb, r, cb⟩ := S1.sl i _ e2
      rw [e1] at e3
      cases e3
      have S2 := S1.un (i := i) (x := some (.ref b)) (fun _ n z => by rw [e2] at z; cases z)
      have eσ : σ.set i (some (V.ref b)) = σ := by
        apply List.ext_getElem?
        intro j
        by_cases z : i = j
        · subst z
          rw [set_at (by
            cases Nat.lt_or_ge i σ.length with
            | inl h => exact h
            | inr g => rw [List.getElem?_eq_none g] at e1; cases e1)]
          exact e1.symm
        · rw [set_off z]
      rw [eσ] at S2
      refine m.rt _ _ _ _ _ (.new ds) S2 ⟨b, rfl, ⟨vs, hb, r⟩, cb, S1.loc i b ds e2 e1, fun j t q mt e => ?_⟩ h1
      rcases get_set q with ⟨rfl, rfl, _⟩ | ⟨n, q⟩
      · cases mt
      · exact S1.ne i j b _ _ n e2 q rfl mt e1 e
def wIfS (wc : WT) (wt wu : WS) : WS := fun ρ Φ => wc ρ fun b ρ1 => if b = true then wt ρ1 Φ else wu ρ1 Φ
instance ss_if {tc : TT} {t u : TS} {wc : WT} {wt wu : WS} [c : Sc K tc wc] [a : Ss K t wt] [b : Ss K u wu] : Ss K (tIfS tc t u) (wIfS wc wt wu) where
  run B C H σ ρ D Φ S h m := c.run B C H σ ρ _ _ S h fun C1 H1 e ρ1 S1 s1 h1 => by
    cases e with
    | true => exact a.run B C1 H1 σ ρ1 _ _ S1 h1 m
    | false => exact b.run B C1 H1 σ ρ1 _ _ S1 h1 m
/-- some slots are let go of -/
inductive Wk' : List Sl → List Sl → Prop
  | nil : Wk' [] []
  | same {s : Sl} {ρ ρ' : List Sl} : Wk' ρ ρ' → Wk' (s :: ρ) (s :: ρ')
  | un {s : Sl} {ρ ρ' : List Sl} : Wk' ρ ρ' → Wk' (s :: ρ) (.un :: ρ')
inductive Wk : List Sl → List Sl → Prop
  | nil : Wk [] []
  | same {s : Sl} {ρ ρ' : List Sl} : Wk' ρ ρ' → Wk (s :: ρ) (s :: ρ')
  | un {s : Sl} {ρ ρ' : List Sl} : (∀ n, s ≠ .box n) → Wk' ρ ρ' → Wk (s :: ρ) (.un :: ρ')
theorem Wk'.len : ∀ {ρ ρ' : List Sl}, Wk' ρ ρ' → ρ.length = ρ'.length
  | _, _, .nil => rfl
  | _, _, .same h => congrArg Nat.succ h.len
  | _, _, .un h => congrArg Nat.succ h.len
theorem Wk'.at : ∀ {ρ ρ' : List Sl} {i : Nat} {s : Sl}, Wk' ρ ρ' → ρ'[i]? = some s → s ≠ .un → ρ[i]? = some s
  | _, _, i, s, .nil, h, n => h
  | _, _, 0, s, .same w, h, n => h
  | _, _, 0, s, .un w, h, n => absurd (Option.some.inj h).symm n
  | _, _, i + 1, s, .same w, h, n => Wk'.at (i := i) w h n
  | _, _, i + 1, s, .un w, h, n => Wk'.at (i := i) w h n
theorem Wk.len : ∀ {ρ ρ' : List Sl}, Wk ρ ρ' → ρ.length = ρ'.length
  | _, _, .nil => rfl
  | _, _, .same h => congrArg Nat.succ h.len
  | _, _, .un _ h => congrArg Nat.succ h.len
theorem Wk.at : ∀ {ρ ρ' : List Sl} {i : Nat} {s : Sl}, Wk ρ ρ' → ρ'[i]? = some s → s ≠ .un → ρ[i]? = some s
  | _, _, i, s, .nil, h, n => h
  | _, _, 0, s, .same w, h, n => h
  | _, _, 0, s, .un _ w, h, n => absurd (Option.some.inj h).symm n
  | _, _, i + 1, s, .same w, h, n => Wk'.at (i := i) w h n
  | _, _, i + 1, s, .un _ w, h, n => Wk'.at (i := i) w h n
theorem Wk.box : ∀ {ρ ρ' : List Sl} {n : Int}, Wk ρ ρ' → ρ[0]? = some (.box n) → ρ'[0]? = some (.box n)
  | _, _, n, .nil, h => h
  | _, _, n, .same w, h => h
  | _, _, n, .un z w, h => absurd (Option.some.inj h) (z n)
theorem Sep.weak {B : Bs} {C H : Hp} {σ : L2.St} {ρ ρ' : List Sl} (S : Sep K B C H σ ρ) (w : Wk ρ ρ') : Sep K B C H σ ρ' := by
  have mu : ∀ {t : Sl}, t.mut = true → t ≠ .un := fun m z => by rw [z] at m; cases m
  refine ⟨S.cold, by rw [← w.len]; exact S.len, fun i s h => ?_, fun i j a s t n h1 h2 m1 m2 e1 e2 => S.ne i j a s t n (w.at h1 (mu m1)) (w.at h2 (mu m2)) m1 m2 e1 e2, S.grow, S.new, S.dom, S.keep, fun i a ds h e => S.loc i a ds (w.at h fun z => nomatch z) e, fun i a n h e => S.lob i a n (w.at h fun z => nomatch z) e, fun i a h => ?_, S.pz⟩
  · cases s with
    | un => trivial
    | dat d => exact S.sl i _ (w.at h fun z => nomatch z)
    | hot ds => exact S.sl i _ (w.at h fun z => nomatch z)
    | box n => exact S.sl i _ (w.at h fun z => nomatch z)
  · obtain ⟨h1, n, h2⟩ := S.par i a h
    have e := S.pz i a h
    subst e
    exact ⟨h1, n, w.box h2⟩
/-- to a state that is known less of -/
def To (I : List Sl → Prop) (ρ : List Sl) : Prop := ∃ ρ', Wk ρ ρ' ∧ I ρ'
theorem To.of {I : List Sl → Prop} {ρ ρ' : List Sl} (h : I ρ') (w : Wk ρ ρ') : To I ρ := ⟨ρ', w, h⟩
local macro_rules | `(tactic| get_elem_tactic_trivial) => `(tactic| (repeat first | exact Wk.nil | exact Wk'.nil | refine Wk.same ?_ | refine Wk'.same ?_ | refine Wk.un (fun _ z => nomatch z) ?_ | refine Wk'.un ?_))
/-! loops -/
def ItD (K : PySem.W.Frag) (J : It) (C : Hp) (items : List Dt) : Prop := ∀ B C2 H2 σ2 ρ2, Sep K B C2 H2 σ2 ρ2 → Same C C2 →
  (∀ i, i < items.length → J.go i H2) ∧ J.stop items.length H2 ∧ ∀ i x H' d, items[i]? = some d → J.yld i H2 x H' → ∃ C3, Sep K B C3 H' σ2 ρ2 ∧ Same C2 C3 ∧ Rp K C3 x d
abbrev WI := List Sl → (List Dt → List Sl → Prop) → Prop
class Si (K : PySem.W.Frag) (t : TI) (w : outParam WI) : Prop where
  run : ∀ (B : Bs) (C H : Hp) (σ : L2.St) (ρ : List Sl) (R : It → Hp → Prop) (Ψ : List Dt → List Sl → Prop), Sep K B C H σ ρ → w ρ Ψ → (∀ C' G J items ρ', Sep K B C' G σ ρ' → Same C C' → ItD K J C' items → Ψ items ρ' → R J G) → t σ H R
def wFor (wi : WI) (wg : WG) (wb : WS) : WS := fun ρ Φ => wi ρ fun items ρ1 => ∃ I : Nat → List Sl → Prop, To (I 0) ρ1 ∧
  (∀ k ρ d, items[k]? = some d → I k ρ → wg d ρ fun ρ2 => wb ρ2 { Φ with nx := To (I (k + 1)), ct := To (I (k + 1)), bk := Φ.nx }) ∧ ∀ ρ, I items.length ρ → Φ.nx ρ
instance ss_for {ti : TI} {g : TG} {tb : TS} {wi : WI} {wg : WG} {wb : WS} [i : Si K ti wi] [a : Sg K g wg] [b : Ss K tb wb] : Ss K (tFor ti g tb) (wFor wi wg wb) where
  run B C H σ ρ D Φ S h m := i.run B C H σ ρ _ _ S h fun C1 H1 J items ρ1 S1 s1 hJ h1 => by
    obtain ⟨I, ⟨ρ0, w0, i0⟩, step, fin⟩ := h1
    refine ⟨fun k n σ2 H2 => n = items.length - k ∧ k ≤ items.length ∧ ∃ C2 ρ2, Sep K B C2 H2 σ2 ρ2 ∧ Same C1 C2 ∧ I k ρ2, ⟨_, rfl, Nat.zero_le _, C1, ρ0, S1.weak w0, Same.refl _, i0⟩, ?_⟩
    rintro k n σ2 H2 ⟨rfl, hk, C2, ρ2, S2, s2, hI⟩
    obtain ⟨go, stop, yld⟩ := hJ B C2 H2 σ2 ρ2 S2 s2
    by_cases hlt : k < items.length
    · refine .inr ⟨go k hlt, fun σ3 H3 => ∃ C3 ρ3, Sep K B C3 H3 σ3 ρ3 ∧ Same C1 C3 ∧ I (k + 1) ρ3, fun σ3 H3 ⟨C3, ρ3, S3, s3, h3⟩ => ⟨items.length - (k + 1), by omega, rfl, hlt, C3, ρ3, S3, s3, h3⟩, fun x H' y => ?_⟩
      obtain ⟨C3, S3, s3, r3⟩ := yld k x H' items[k] (List.getElem?_eq_getElem hlt) y
      have st := step k ρ2 _ (List.getElem?_eq_getElem hlt) hI
      refine a.run B C3 H' σ2 ρ2 _ _ _ _ S3 r3 st fun σ4 ρ4 S4 h4 => ?_
      -- the body, over a base that keeps C1's things
      have keep : ∀ C5 H5 σ5 ρ5, Sep K ⟨C3, B.H0, B.bx⟩ C5 H5 σ5 ρ5 → Sep K B C5 H5 σ5 ρ5 ∧ Same C1 C5 := fun C5 H5 σ5 ρ5 z =>
        ⟨⟨z.cold, z.len, z.sl, z.ne, (S3.grow).trans z.grow, fun a o e n => (match q : C3 a with
            | none => z.new a o e q
            | some u => S3.new a u q n), z.dom, z.keep, z.loc, z.lob, z.par, z.pz⟩, (s2.trans s3).trans z.grow⟩
      have S4' : Sep K ⟨C3, B.H0, B.bx⟩ C3 H' σ4 ρ4 := ⟨S4.cold, S4.len, S4.sl, S4.ne, Same.refl _, fun a o e n => (by rw [show C3 a = none from n] at e; cases e), S4.dom, S4.keep, S4.loc, S4.lob, S4.par, S4.pz⟩
      refine b.run ⟨C3, B.H0, B.bx⟩ C3 H' σ4 ρ4 _ _ S4' h4 ⟨fun C5 H5 σ5 ρ5 z h5 => ?_, fun C5 H5 σ5 ρ5 v r z ok h5 => ?_, fun C5 H5 σ5 ρ5 z h5 => ?_, fun C5 H5 σ5 ρ5 z h5 => ?_⟩
      · obtain ⟨ρ6, w6, h6⟩ := h5
        exact ⟨C5, ρ6, (keep _ _ _ _ z).1.weak w6, (keep _ _ _ _ z).2, h6⟩
      · refine m.rt _ _ _ _ v r (keep _ _ _ _ z).1 ?_ h5
        cases r with
        | dat d => exact ok
        | new ds => exact ok
      · exact m.nx _ _ _ _ (keep _ _ _ _ z).1 h5
      · obtain ⟨ρ6, w6, h6⟩ := h5
        exact ⟨C5, ρ6, (keep _ _ _ _ z).1.weak w6, (keep _ _ _ _ z).2, h6⟩
    · have e : k = items.length := by omega
      subst e
      exact .inl ⟨stop, m.nx _ _ _ _ S2 (fin _ hI)⟩
def rngD (lo : Int) (n : Nat) : List Dt := (List.range n).map fun k => .int (lo + (k : Nat))
theorem rng_len {lo : Int} {n : Nat} : (rngD lo n).length = n := by unfold rngD; rw [List.length_map, List.length_range]
theorem rng_at {lo : Int} {n i : Nat} {d : Dt} (h : (rngD lo n)[i]? = some d) : i < n ∧ d = .int (lo + (i : Nat)) := by
  unfold rngD at h
  rw [List.getElem?_map] at h
  by_cases z : i < n
  · rw [List.getElem?_range z] at h
    cases h
    exact ⟨z, rfl⟩
  · rw [List.getElem?_eq_none (by rw [List.length_range]; omega)] at h
    cases h
theorem itd_range {C : Hp} {lo : Int} {n : Nat} : ItD K (Itr lo n) C (rngD lo n) := fun B3 C3 H3 σ3 ρ3 S3 s3 => by
  rw [rng_len]
  refine ⟨fun i hi => hi, Nat.le_refl _, fun i y H' d hd yl => ?_⟩
  obtain ⟨rfl, rfl⟩ := yl
  obtain ⟨_, rfl⟩ := rng_at hd
  exact ⟨C3, S3, Same.refl _, .int _⟩
def rng1 (as : List Ar) (k : List Dt → Prop) : Prop := match as with
  | [.d (.int j)] => -4611686018427387904 ≤ j ∧ j < 4611686018427387904 ∧ k (rngD 0 j.toNat)
  | _ => False
theorem rng1_run {as : List Ar} {k : List Dt → Prop} (h : rng1 as k) : ∃ j, as = [.d (.int j)] ∧ -4611686018427387904 ≤ j ∧ j < 4611686018427387904 ∧ k (rngD 0 j.toNat) := by
  unfold rng1 at h
  split at h
  · exact ⟨_, rfl, h⟩
  · exact h.elim
def wiRng1 (wa : WA) : WI := fun ρ Ψ => wa ρ fun as ρ1 => rng1 as fun l => Ψ l ρ1
instance si_rng1 {ta : TA} {wa : WA} [a : Sa K ta wa] : Si K (iRng1 ta) (wiRng1 wa) where
  run B C H σ ρ R Ψ S h k := a.run B C H σ ρ _ _ S h fun C1 H1 vs as ρ1 S1 s1 ok1 h1 => by
    obtain ⟨j, rfl, h1⟩ := rng1_run h1
    match ok1 with
    | .cons r .nil =>
      cases r
      exact ⟨j, rfl, h1.1, h1.2.1, k _ _ _ _ _ S1 s1 itd_range h1.2.2⟩

end
section
variable {P : Program} {w : World} {K : PySem.W.Frag} {mg : Str → Option Value} {base : Heap}
local macro_rules | `(tactic| get_elem_tactic_trivial) => `(tactic| (repeat first | exact Wk.nil | exact Wk'.nil | refine Wk.same ?_ | refine Wk'.same ?_ | refine Wk.un (fun _ z => nomatch z) ?_ | refine Wk'.un ?_))
/-! a new thing is held while others go on -/
section
variable {B : Bs} {C H G : Hp} {σ : L2.St} {ρ : List Sl}
end
/-! [e for x in it if t] -/

end
section
variable {P : Program} {w : World} {K : PySem.W.Frag} {mg : Str → Option Value} {base : Heap}
local macro_rules | `(tactic| get_elem_tactic_trivial) => `(tactic| (repeat first | exact Wk.nil | exact Wk'.nil | refine Wk.same ?_ | refine Wk'.same ?_ | refine Wk.un (fun _ z => nomatch z) ?_ | refine Wk'.un ?_))
/-! defs over data -/
abbrev WF := List Sl → (Ro → List Sl → Prop) → Prop
def spD (K : PySem.W.Frag) (n : Nat) (wf : WF) : Sp := fun vs H Q _ => vs.length = n ∧ ∃ (C : Hp) (bx : Option (Nat × Addr)) (ps : List Sl) (Ψ : Ro → List Sl → Prop), Sep K ⟨C, H, bx⟩ C H (vs.map some) ps ∧ wf ps Ψ ∧
  ∀ C' G v r ps', Sep K ⟨C, H, bx⟩ C' G (vs.map some) ps' → RoOk K ⟨C, H, bx⟩ C' G (vs.map some) ps' v r → Ψ r ps' → Q v G
def mrg : List Sl → List Sl → List Sl
  | [], _ => []
  | .box n :: ps, [] => .box n :: mrg ps []
  | .box _ :: ps, s :: ρ => s :: mrg ps ρ
  | p :: ps, [] => p :: mrg ps []
  | p :: ps, _ :: ρ => p :: mrg ps ρ
theorem mrg_len : ∀ ps ρ : List Sl, (mrg ps ρ).length = ps.length
  | [], _ => by unfold mrg; rfl
  | p :: ps, [] => by cases p <;> (unfold mrg; exact congrArg Nat.succ (mrg_len ps []))
  | p :: ps, s :: ρ => by cases p <;> (unfold mrg; exact congrArg Nat.succ (mrg_len ps ρ))
theorem mrg_at : ∀ (ps ρ : List Sl) (i : Nat) (s : Sl), (mrg ps ρ)[i]? = some s → (∃ n, ps[i]? = some (.box n) ∧ (ρ[i]? = some s ∨ (ρ[i]? = none ∧ s = .box n))) ∨ (ps[i]? = some s ∧ ∀ n, s ≠ .box n)
  | [], _, i, s, h => by unfold mrg at h; simp at h
  | p :: ps, [], 0, s, h => by
    cases p <;> (unfold mrg at h; have e := Option.some.inj h; subst e)
    · exact .inr ⟨rfl, fun n z => nomatch z⟩
    · exact .inr ⟨rfl, fun n z => nomatch z⟩
    · exact .inr ⟨rfl, fun n z => nomatch z⟩
    · exact .inl ⟨_, rfl, .inr ⟨rfl, rfl⟩⟩
  | p :: ps, t :: ρ, 0, s, h => by
    cases p <;> (unfold mrg at h; have e := Option.some.inj h; subst e)
    · exact .inr ⟨rfl, fun n z => nomatch z⟩
    · exact .inr ⟨rfl, fun n z => nomatch z⟩
    · exact .inr ⟨rfl, fun n z => nomatch z⟩
    · exact .inl ⟨_, rfl, .inl rfl⟩
  | p :: ps, [], i + 1, s, h => by
    have h2 : (mrg ps [])[i]? = some s := by cases p <;> (unfold mrg at h; exact h)
    rcases mrg_at ps [] i s h2 with ⟨n, a, b⟩ | q
    · refine .inl ⟨n, a, ?_⟩
      rcases b with b | b
      · simp at b
      · exact .inr ⟨rfl, b.2⟩
    · exact .inr q
  | p :: ps, t :: ρ, i + 1, s, h => by
    have h2 : (mrg ps ρ)[i]? = some s := by cases p <;> (unfold mrg at h; exact h)
    exact mrg_at ps ρ i s h2
theorem mrg_box : ∀ (ps ρ : List Sl) (i : Nat) (n m : Int), ps[i]? = some (.box n) → ρ[i]? = some (.box m) → (mrg ps ρ)[i]? = some (.box m)
  | p :: ps, t :: ρ, 0, n, m, h, g => by
    have e := Option.some.inj h
    subst e
    unfold mrg
    exact g
  | p :: ps, t :: ρ, i + 1, n, m, h, g => by
    have := mrg_box ps ρ i n m h g
    cases p <;> (unfold mrg; exact this)
  | [], _, i, n, m, h, g => by simp at h
  | p :: ps, [], i, n, m, h, g => by simp at g
/-- a def's own end, told of its arguments -/
theorem Sep.args {C H C' G : Hp} {bx : Option (Nat × Addr)} {vs : List V} {ps ρ : List Sl} {σ : L2.St} (S0 : Sep K ⟨C, H, bx⟩ C H (vs.map some) ps) (S : Sep K ⟨C, H, bx⟩ C' G σ ρ) : Sep K ⟨C, H, bx⟩ C' G (vs.map some) (mrg ps ρ) := by
  have nohot : ∀ (i : Nat) (ds : List Dt), ps[i]? ≠ some (.hot ds) := fun i ds e => by
    obtain ⟨a, us, e2, ha, _⟩ := S0.sl i _ e
    have := S0.loc i a ds e e2
    rw [show (⟨C, H, bx⟩ : Bs).H0 a = H a from rfl, ha] at this
    cases this
  have box : ∀ (i : Nat) (n : Int), ps[i]? = some (.box n) → ∃ a m, bx = some (i, a) ∧ (vs.map some)[i]? = some (some (V.ref a)) ∧ σ[i]? = some (some (V.ref a)) ∧ ρ[i]? = some (.box m) := fun i n e => by
    obtain ⟨a, e2, ⟨x, y, z, ha, _⟩, _⟩ := S0.sl i _ e
    rcases S0.lob i a n e e2 with q | q
    · rw [show (⟨C, H, bx⟩ : Bs).H0 a = H a from rfl, ha] at q
      cases q
    · obtain ⟨g1, m, g2⟩ := S.par i a q
      exact ⟨a, m, q, e2, g1, g2⟩
  have case_ : ∀ (i : Nat) (s : Sl), (mrg ps ρ)[i]? = some s → (∃ a m, s = .box m ∧ bx = some (i, a) ∧ (vs.map some)[i]? = some (some (V.ref a)) ∧ σ[i]? = some (some (V.ref a)) ∧ ρ[i]? = some (.box m)) ∨ (ps[i]? = some s ∧ s.mut = false) := fun i s h => by
    rcases mrg_at ps ρ i s h with ⟨n, e, q⟩ | ⟨e, q⟩
    · obtain ⟨a, m, g1, g2, g3, g4⟩ := box i n e
      rcases q with q | ⟨q, _⟩
      · rw [g4] at q
        cases q
        exact .inl ⟨a, m, rfl, g1, g2, g3, g4⟩
      · rw [g4] at q
        cases q
    · cases s with
      | un => exact .inr ⟨e, rfl⟩
      | dat d => exact .inr ⟨e, rfl⟩
      | hot ds => exact absurd e (nohot i ds)
      | box n => exact absurd rfl (q n)
  refine ⟨S.cold, by rw [mrg_len]; exact S0.len, fun i s h => ?_, fun i j a s t n h1 h2 m1 m2 e1 e2 => ?_, S.grow, S.new, S.dom, S.keep, fun i a ds h e => ?_, fun i a n h e => ?_, fun i a h => ?_, S.pz⟩
  · rcases case_ i s h with ⟨a, m, rfl, g1, g2, g3, g4⟩ | ⟨g1, g2⟩
    · obtain ⟨b, e, q⟩ := S.sl i _ g4
      rw [g3] at e
      cases e
      exact ⟨a, g2, q⟩
    · have q := S0.sl i s g1
      cases s with
      | un => trivial
      | dat d =>
        obtain ⟨v, e, r⟩ := q
        exact ⟨v, e, r.same S.grow⟩
      | hot ds => cases g2
      | box n => cases g2
  · rcases case_ i s h1 with ⟨b, m, rfl, g1, _⟩ | ⟨_, g2⟩
    · rcases case_ j t h2 with ⟨c, m', rfl, k1, _⟩ | ⟨_, g2⟩
      · rw [g1] at k1
        cases k1
        exact n rfl
      · rw [g2] at m2
        cases m2
    · rw [g2] at m1
      cases m1
  · rcases case_ i _ h with ⟨b, m, z, g1, _⟩ | ⟨_, g2⟩
    · cases z
    · cases g2
  · rcases case_ i _ h with ⟨b, m, z, g1, g2, _⟩ | ⟨_, g2⟩
    · rw [g2] at e
      cases e
      exact .inr g1
    · cases g2
  · obtain ⟨h1, n, h2⟩ := S0.par i a h
    obtain ⟨g1, m, g2⟩ := S.par i a h
    exact ⟨h1, m, mrg_box ps ρ i n m h2 g2⟩
def fin (ps : List Sl) (Ψ : Ro → List Sl → Prop) : Fs := ⟨fun ρ => Ψ (.dat .non) (mrg ps ρ), fun r ρ => Ψ r (mrg ps ρ), fun _ => False, fun _ => False⟩
theorem start_sep {C H : Hp} {bx : Option (Nat × Addr)} {N : List Str} {vs : List V} {ps : List Sl} (S : Sep K ⟨C, H, bx⟩ C H (vs.map some) ps) : Sep K ⟨C, H, bx⟩ C H (start N vs) (ps ++ List.replicate (N.length - vs.length) .un) := by
  have hl : vs.length = ps.length := by have := S.len; rw [List.length_map] at this; exact this
  have at_ : ∀ (i : Nat) (s : Sl), (ps ++ List.replicate (N.length - vs.length) Sl.un)[i]? = some s → s ≠ .un → ps[i]? = some s ∧ (start N vs)[i]? = (vs.map some)[i]? := fun i s h n => by
    by_cases z : i < ps.length
    · rw [List.getElem?_append_left z] at h
      refine ⟨h, ?_⟩
      unfold L2.start
      rw [List.getElem?_append_left (by rw [List.length_map]; omega)]
    · rw [List.getElem?_append_right (by omega)] at h
      have := List.mem_of_getElem? h
      exact absurd (List.eq_of_mem_replicate this) n
  have mu : ∀ {t : Sl}, t.mut = true → t ≠ .un := fun m z => by rw [z] at m; cases m
  refine ⟨S.cold, ?_, fun i s h => ?_, fun i j a s t n h1 h2 m1 m2 e1 e2 => ?_, S.grow, S.new, S.dom, S.keep, fun i a ds h e => ?_, fun i a n h e => ?_, fun i a h => ?_, S.pz⟩
  · unfold L2.start
    rw [List.length_append, List.length_append, List.length_replicate, List.length_replicate, List.length_map, hl]
  · cases s with
    | un => trivial
    | dat d => rw [(at_ i _ h (fun z => nomatch z)).2]; exact S.sl i _ (at_ i _ h (fun z => nomatch z)).1
    | hot ds => rw [(at_ i _ h (fun z => nomatch z)).2]; exact S.sl i _ (at_ i _ h (fun z => nomatch z)).1
    | box n => rw [(at_ i _ h (fun z => nomatch z)).2]; exact S.sl i _ (at_ i _ h (fun z => nomatch z)).1
  · rw [(at_ i _ h1 (mu m1)).2] at e1
    rw [(at_ j _ h2 (mu m2)).2] at e2
    exact S.ne i j a s t n (at_ i _ h1 (mu m1)).1 (at_ j _ h2 (mu m2)).1 m1 m2 e1 e2
  · rw [(at_ i _ h (fun z => nomatch z)).2] at e
    exact S.loc i a ds (at_ i _ h (fun z => nomatch z)).1 e
  · rw [(at_ i _ h (fun z => nomatch z)).2] at e
    exact S.lob i a n (at_ i _ h (fun z => nomatch z)).1 e
  · obtain ⟨h1, n, h2⟩ := S.par i a h
    have li : i < ps.length := by
      cases Nat.lt_or_ge i ps.length with
      | inl h => exact h
      | inr g => rw [List.getElem?_eq_none g] at h2; cases h2
    refine ⟨?_, n, by rw [List.getElem?_append_left li]; exact h2⟩
    unfold L2.start
    rw [List.getElem?_append_left (by rw [List.length_map]; omega)]
    exact h1
theorem bodyD {t : TS} {w : WS} [s : Ss K t w] {N : List Str} {vs : List V} {H : Hp} {Q : VK} {E : XK} {n : Nat} {wf : WF} (h : spD K n wf vs H Q E) (hw : ∀ ps Ψ, wf ps Ψ → ps.length = n → w (ps ++ List.replicate (N.length - n) .un) (fin ps Ψ)) :
    t { nx := fun _ H' => Q .non H', rt := Q } (start N vs) H := by
  obtain ⟨hl, C, bx, ps, Ψ, S, hf, k⟩ := h
  have lp : ps.length = n := by have := S.len; rw [List.length_map] at this; omega
  have S1 := start_sep (N := N) S
  have h1 := hw ps Ψ hf lp
  rw [← hl] at h1
  refine s.run _ C H _ _ _ _ S1 h1 ⟨fun C1 H1 σ1 ρ1 S2 z => k _ _ _ (.dat .non) _ (S.args S2) .non z, fun C1 H1 σ1 ρ1 v r S2 ok z => ?_, fun C1 H1 σ1 ρ1 S2 z => False.elim z, fun C1 H1 σ1 ρ1 S2 z => False.elim z⟩
  refine k _ _ _ r _ (S.args S2) ?_ z
  cases r with
  | dat d => exact ok
  | new ds =>
    obtain ⟨a, e, f1, f2, f3, f4⟩ := ok
    refine ⟨a, e, f1, f2, f3, fun j u hj m ej => ?_⟩
    have S3 := S.args S2
    have q := S3.mutH hj m ej
    have f3' : H a = none := f3
    cases u with
    | un => cases m
    | dat d => cases m
    | hot es => 
      rcases mrg_at ps ρ1 j _ hj with ⟨m, e1, e2⟩ | ⟨e1, _⟩
      · rcases e2 with e2 | ⟨_, e2⟩
        · obtain ⟨b, us, e5, hb, _⟩ := S3.sl j _ hj
          rw [ej] at e5
          cases e5
          have := S.mutH e1 rfl ej
          exact this.2 f3'
        · cases e2
      · have := S.mutH e1 rfl ej
        exact this.2 f3'
    | box n =>
      rcases mrg_at ps ρ1 j _ hj with ⟨m, e1, e2⟩ | ⟨e1, z⟩
      · have := S.mutH e1 rfl ej
        exact this.2 f3'
      · exact z n rfl
/-! calls -/
def Ro.val : Ro → Dt
  | .dat d => d
  | .new ds => .lst ds
class Dv (vs : List V) (ds : outParam (List Dt)) : Prop where
  run : ∀ (K : PySem.W.Frag) (C : Hp), RpL K C vs ds
instance dv_nil : Dv [] [] := ⟨fun _ _ => .nil⟩
instance dv_non {vs : List V} {ds : List Dt} [a : Dv vs ds] : Dv (.non :: vs) (.non :: ds) := ⟨fun K C => .cons .non (a.run K C)⟩
instance dv_int {i : Int} {vs : List V} {ds : List Dt} [a : Dv vs ds] : Dv (.int i :: vs) (.int i :: ds) := ⟨fun K C => .cons (.int i) (a.run K C)⟩
instance dv_bl {i : Bool} {vs : List V} {ds : List Dt} [a : Dv vs ds] : Dv (.bl i :: vs) (.bl i :: ds) := ⟨fun K C => .cons (.bl i) (a.run K C)⟩
def boxK (i : Nat) (ρ : List Sl) (Ψ : Ro → List Sl → Prop) (r : Ro) (ps : List Sl) : Prop := match ps with
  | .box n :: _ => Ψ r (ρ.set i (.box n))
  | _ => False
def callW (wf : WF) (as : List Ar) (dd : List Dt) (ρ : List Sl) (Ψ : Ro → List Sl → Prop) : Prop := match as with
  | .b i :: as => match ρ[i]?, dats as with
    | some (.box n), some ds => wf (.box n :: (ds ++ dd).map .dat) (boxK i ρ Ψ)
    | _, _ => False
  | as => match dats as with
    | some ds => wf ((ds ++ dd).map .dat) fun r _ => Ψ r ρ
    | none => False
section
variable {B : Bs} {C H G C' : Hp} {σ : L2.St} {ρ : List Sl}
/-- behind a call that is handed no box -/
theorem Sep.after (S : Sep K B C H σ ρ) {τ : L2.St} {π : List Sl} (S' : Sep K ⟨C, H, none⟩ C' G τ π) : Sep K B C' G σ ρ := by
  have kp : ∀ a o, H a = some o → G a = some o := fun a o h => S'.keep a o h fun i z => nomatch z
  have cn : ∀ a o, H a = some o → C a = none → C' a = none := fun a o h c => by
    cases q : C' a with
    | none => rfl
    | some u =>
      have : H a = none := S'.new a u q c
      rw [h] at this
      cases this
  refine ⟨S'.cold, S.len, fun i s h => ?_, S.ne, S.grow.trans S'.grow, fun a o e n => ?_, fun a h => S'.dom a (S.dom a h), fun a o h n => kp a o (S.keep a o h n), S.loc, S.lob, S.par, S.pz⟩
  · have q := S.sl i s h
    cases s with
    | un => trivial
    | dat d =>
      obtain ⟨v, e, r⟩ := q
      exact ⟨v, e, r.same S'.grow⟩
    | hot ds =>
      obtain ⟨a, vs, e, ha, r, ca⟩ := q
      exact ⟨a, vs, e, kp _ _ ha, r.same S'.grow, cn _ _ ha ca⟩
    | box n =>
      obtain ⟨a, e, ⟨x, y, z, ha, hh⟩, ca⟩ := q
      exact ⟨a, e, ⟨x, y, z, kp _ _ ha, hh⟩, cn _ _ ha ca⟩
  · cases q : C a with
    | some u => exact S.new a u q n
    | none => exact S.free0 (S'.new a o e q)
/-- behind a call that is handed the box at slot i -/
theorem Sep.afterB (S : Sep K B C H σ ρ) {p : Addr} {i : Nat} {m n : Int} {τ : L2.St} {π : List Sl} (hi : ρ[i]? = some (.box m)) (ei : σ[i]? = some (some (V.ref p))) (S' : Sep K ⟨C, H, some (0, p)⟩ C' G τ π) (hn : π[0]? = some (.box n)) : Sep K B C' G σ (ρ.set i (.box n)) := by
  have kp : ∀ a o, H a = some o → a ≠ p → G a = some o := fun a o h z => S'.keep a o h fun i q => by cases q; exact z rfl
  have cn : ∀ a o, H a = some o → C a = none → C' a = none := fun a o h c => by
    cases q : C' a with
    | none => rfl
    | some u =>
      have : H a = none := S'.new a u q c
      rw [h] at this
      cases this
  obtain ⟨e0, m', e1⟩ := S'.par 0 p rfl
  obtain ⟨p', e2, bG, cp⟩ := S'.sl 0 _ hn
  rw [e0] at e2
  cases e2
  have back : ∀ {j : Nat} {t : Sl}, (ρ.set i (.box n))[j]? = some t → t.mut = true → ∃ t', ρ[j]? = some t' ∧ t'.mut = true := fun {j t} z y => by
    rcases get_set z with ⟨rfl, rfl, l⟩ | ⟨_, z⟩
    · exact ⟨_, hi, rfl⟩
    · exact ⟨t, z, y⟩
  refine ⟨S'.cold, by rw [List.length_set]; exact S.len, fun j s h => ?_, fun j k a t u q h1 h2 m1 m2 e1 e2 => ?_, S.grow.trans S'.grow, fun a o e n => ?_, fun a h => S'.dom a (S.dom a h), fun a o h n => kp a o (S.keep a o h n) fun z => ?_, fun j a ds h e => ?_, fun j a n h e => ?_, fun j a h => ?_, S.pz⟩
  · rcases get_set h with ⟨rfl, rfl, l⟩ | ⟨nj, h⟩
    · exact ⟨p, ei, bG, cp⟩
    · have q := S.sl j s h
      cases s with
      | un => trivial
      | dat d =>
        obtain ⟨v, e, r⟩ := q
        exact ⟨v, e, r.same S'.grow⟩
      | hot ds =>
        obtain ⟨a, vs, e, ha, r, ca⟩ := q
        exact ⟨a, vs, e, kp _ _ ha (fun z => S.ne i j p _ _ nj hi h rfl rfl ei (z ▸ e)), r.same S'.grow, cn _ _ ha ca⟩
      | box n =>
        obtain ⟨a, e, ⟨x, y, z, ha, hh⟩, ca⟩ := q
        have na : a ≠ p := fun z => S.ne i j p _ _ nj hi h rfl rfl ei (z ▸ e)
        exact ⟨a, e, ⟨x, y, z, kp _ _ ha na, hh⟩, cn _ _ ha ca⟩
  · obtain ⟨t', h1, m1⟩ := back h1 m1
    obtain ⟨u', h2, m2⟩ := back h2 m2
    exact S.ne j k a t' u' q h1 h2 m1 m2 e1 e2
  · cases q : C a with
    | some u => exact S.new a u q n
    | none => exact S.free0 (S'.new a o e q)
  · subst z
    rcases S.lob i a m hi ei with q | q
    · rw [h] at q
      cases q
    · exact n i q
  · rcases get_set h with ⟨rfl, z, l⟩ | ⟨nj, h⟩
    · cases z
    · exact S.loc j a ds h e
  · rcases get_set h with ⟨rfl, z, l⟩ | ⟨nj, h⟩
    · exact S.lob i a m hi e
    · exact S.lob j a n h e
  · obtain ⟨h1, n', h2⟩ := S.par j a h
    by_cases z : i = j
    · subst z
      refine ⟨h1, n, set_at ?_⟩
      cases Nat.lt_or_ge i ρ.length with
      | inl h => exact h
      | inr g => rw [List.getElem?_eq_none g] at hi; cases hi
    · exact ⟨h1, n', by rw [set_off z]; exact h2⟩
theorem sep_dats {vs : List V} {ds : List Dt} (S : Sep K B C H σ ρ) (r : RpL K C vs ds) : Sep K ⟨C, H, none⟩ C H (vs.map some) (ds.map .dat) := by
  have at_ : ∀ (i : Nat) (s : Sl), (ds.map Sl.dat)[i]? = some s → ∃ d, s = .dat d ∧ ds[i]? = some d := fun i s h => by
    rw [List.getElem?_map] at h
    cases q : ds[i]? with
    | none => rw [q] at h; cases h
    | some d => rw [q] at h; cases h; exact ⟨d, rfl, rfl⟩
  refine ⟨S.cold, by rw [List.length_map, List.length_map]; exact r.len, fun i s h => ?_, fun i j a s t n h1 h2 m1 m2 e1 e2 => ?_, Same.refl _, fun a o e n => ?_, fun a h => h, fun a o h n => h, fun i a ds h e => ?_, fun i a n h e => ?_, (fun i a h => nomatch h), fun i a h => nomatch h⟩
  · obtain ⟨d, rfl, e⟩ := at_ i s h
    obtain ⟨v, ev, rv⟩ := r.at' e
    exact ⟨v, by rw [List.getElem?_map, ev]; rfl, rv⟩
  · obtain ⟨d, rfl, e⟩ := at_ i s h1
    cases m1
  · have n' : C a = none := n
    rw [n'] at e
    cases e
  · obtain ⟨d, z, e⟩ := at_ i _ h
    cases z
  · obtain ⟨d, z, e⟩ := at_ i _ h
    cases z
theorem sep_box {vs : List V} {ds : List Dt} {p : Addr} {i : Nat} {m : Int} (S : Sep K B C H σ ρ) (hi : ρ[i]? = some (.box m)) (ei : σ[i]? = some (some (V.ref p))) (r : RpL K C vs ds) : Sep K ⟨C, H, some (0, p)⟩ C H ((V.ref p :: vs).map some) (.box m :: ds.map .dat) := by
  have D := sep_dats S r
  obtain ⟨p', e2, bG, cp⟩ := S.sl i _ hi
  rw [ei] at e2
  cases e2
  refine ⟨S.cold, by have := D.len; simp only [List.length_map, List.length_cons] at this ⊢; omega, fun j s h => ?_, fun j k a s t n h1 h2 m1 m2 e1 e2 => ?_, Same.refl _, D.new, fun a h => h, fun a o h n => h, fun j a es h e => ?_, fun j a n h e => ?_, fun j a h => ?_, fun j a h => by cases h; rfl⟩
  · cases j with
    | zero =>
      have e := Option.some.inj h
      subst e
      exact ⟨p, rfl, bG, cp⟩
    | succ j => exact D.sl j s h
  · cases j with
    | zero =>
      cases k with
      | zero => exact n rfl
      | succ k =>
        have h2' : (ds.map Sl.dat)[k]? = some t := h2
        rw [List.getElem?_map] at h2'
        cases q : ds[k]? with
        | none => rw [q] at h2'; cases h2'
        | some d => rw [q] at h2'; cases h2'; cases m2
    | succ j =>
      have h1' : (ds.map Sl.dat)[j]? = some s := h1
      rw [List.getElem?_map] at h1'
      cases q : ds[j]? with
      | none => rw [q] at h1'; cases h1'
      | some d => rw [q] at h1'; cases h1'; cases m1
  · cases j with
    | zero => cases h
    | succ j => exact D.loc j a es h e
  · cases j with
    | zero =>
      have e' := Option.some.inj (Option.some.inj e)
      cases e'
      exact .inr rfl
    | succ j =>
      have h1' : (ds.map Sl.dat)[j]? = some (.box n) := h
      rw [List.getElem?_map] at h1'
      cases q : ds[j]? with
      | none => rw [q] at h1'; cases h1'
      | some d => rw [q] at h1'; cases h1'
  · cases h
    exact ⟨rfl, m, rfl⟩
/-- what a call asks, and tells -/
theorem Sep.calls {n : Nat} {wf : WF} {vs dvs : List V} {as : List Ar} {dd : List Dt} {Q : VK} {E : XK} {Ψ : Ro → List Sl → Prop} (S : Sep K B C H σ ρ) (ok : ArL K C σ vs as) (dv : RpL K C dvs dd) (hn : (as.length + dd.length) = n) (h : callW wf as dd ρ Ψ)
    (k : ∀ C' G v r ρ', Sep K B C' G σ ρ' → Same C C' → RoOk K B C' G σ ρ' v r → Ψ r ρ' → Q v G) : spD K n wf (vs ++ dvs) H Q E := by
  have la : vs.length = as.length := by
    have : ∀ {vs : List V} {as : List Ar}, ArL K C σ vs as → vs.length = as.length := fun {vs as} z => by
      induction z with
      | nil => rfl
      | cons _ _ ih => exact congrArg Nat.succ ih
    exact this ok
  refine ⟨by rw [List.length_append, la, dv.len]; exact hn, ?_⟩
  have news : ∀ {bx : Option (Nat × Addr)} {C' G : Hp} {τ : L2.St} {π ρ' : List Sl} {v : V} {r : Ro}, Sep K ⟨C, H, bx⟩ C' G τ π → (∀ (j : Nat) (t : Sl) (a : Addr), ρ'[j]? = some t → t.mut = true → σ[j]? = some (some (V.ref a)) → H a ≠ none) → RoOk K ⟨C, H, bx⟩ C' G τ π v r → RoOk K B C' G σ ρ' v r := fun {bx C' G τ π ρ' v r} S' hh q => by
    cases r with
    | dat d => exact q
    | new ds =>
      obtain ⟨a, e, f1, f2, f3, f4⟩ := q
      exact ⟨a, e, f1, f2, S.free0 f3, fun j t h m ej => hh j t a h m ej f3⟩
  have plain : dats as = none ∨ (∃ ds, dats as = some ds) := by
    cases dats as with
    | none => exact .inl rfl
    | some ds => exact .inr ⟨ds, rfl⟩
  have noB : ∀ ds, dats as = some ds → wf ((ds ++ dd).map .dat) (fun r _ => Ψ r ρ) → ∃ (C₁ : Hp) (bx : Option (Nat × Addr)) (ps : List Sl) (Ψ : Ro → List Sl → Prop), Sep K ⟨C₁, H, bx⟩ C₁ H ((vs ++ dvs).map some) ps ∧ wf ps Ψ ∧
      ∀ C' G v r ps', Sep K ⟨C₁, H, bx⟩ C' G ((vs ++ dvs).map some) ps' → RoOk K ⟨C₁, H, bx⟩ C' G ((vs ++ dvs).map some) ps' v r → Ψ r ps' → Q v G := fun ds e hw =>
    ⟨C, none, _, _, sep_dats S ((ok.dats e).append dv), hw, fun C' G v r ps' S' q z => k _ _ _ _ _ (S.after S') S'.grow (news S' (fun j t a h m ej => (S.mutH h m ej).2) q) z⟩
  match as, ok, h with
  | [], ok, h => exact noB [] rfl h
  | .d x :: as, ok, h =>
    unfold callW at h
    cases q : dats (.d x :: as) with
    | none => simp only [q] at h
    | some ds =>
      simp only [q] at h
      exact noB ds q h
  | .b i :: as, .cons (v := v) (vs := us) oi ok, h =>
    unfold callW at h
    dsimp only at h
    cases q1 : ρ[i]? with
    | none => simp only [q1] at h
    | some t =>
      cases q2 : dats as with
      | none => cases t <;> simp only [q1, q2] at h
      | some ds =>
        cases t <;> simp only [q1, q2] at h
        rename_i m
        have oi' : σ[i]? = some (some v) := oi
        obtain ⟨p, e2, _⟩ := S.sl i _ q1
        rw [oi'] at e2
        cases e2
        refine ⟨C, some (0, p), _, _, sep_box S q1 oi' ((ok.dats q2).append dv), h, fun C' G v r ps' S' q z => ?_⟩
        unfold boxK at z
        cases ps' with
        | nil => exact False.elim z
        | cons s ps' =>
          cases s <;> try exact False.elim z
          rename_i n'
          have S2 := S.afterB q1 oi' S' rfl
          refine k _ _ _ _ _ S2 S'.grow (news S' (fun j t a hj m ej => ?_) q) z
          rcases get_set hj with ⟨rfl, rfl, l⟩ | ⟨nj, hj⟩
          · exact (S.mutH q1 rfl ej).2
          · exact (S.mutH hj m ej).2
end
theorem ArL.len {C : Hp} {σ : L2.St} : ∀ {vs : List V} {as : List Ar}, ArL K C σ vs as → vs.length = as.length
  | _, _, .nil => rfl
  | _, _, .cons _ t => congrArg Nat.succ (ArL.len t)
def wCall (n : Nat) (wf : WF) (dd : List Dt) (wa : WA) : WE := fun ρ Ψ => wa ρ fun as ρ1 => as.length + dd.length = n ∧ callW wf as dd ρ1 fun r ρ2 => Ψ (.dat r.val) ρ2
instance sd_call {n : Nat} {wf : WF} {dvs : List V} {dd : List Dt} {E : XK} {ta : TA} {wa : WA} [v : Dv dvs dd] [a : Sa K ta wa] : Sd K (tCall (spD K n wf) dvs E ta) (wCall n wf dd wa) where
  run B C H σ ρ Q Ψ S h k := a.run B C H σ ρ _ _ S h fun C1 H1 vs as ρ1 S1 s1 ok1 h1 => by
    refine S1.calls ok1 (v.run K C1) h1.1 h1.2 fun C' G v r ρ' S' s' q z => ?_
    cases r with
    | dat d => exact k _ _ _ (.dat d) _ S' (s1.trans s') q z
    | new ds =>
      obtain ⟨b, rfl, f⟩ := q
      obtain ⟨C2, S2, s2, r2⟩ := f.cool S'
      exact k _ _ _ (.dat (.lst ds)) _ S2 (s1.trans (s'.trans s2)) r2 z

end
section
variable {P : Program} {w : World} {K : PySem.W.Frag} {mg : Str → Option Value} {base : Heap}
local macro_rules | `(tactic| get_elem_tactic_trivial) => `(tactic| (repeat first | exact Wk.nil | exact Wk'.nil | refine Wk.same ?_ | refine Wk'.same ?_ | refine Wk.un (fun _ z => nomatch z) ?_ | refine Wk'.un ?_))
/-! defs that show things: while they run nothing else is being shown -/
structure FnOkG (P : Program) (w : World) (K : PySem.W.Frag) (mg : Str → Option Value) (base : Heap) (k : Nat) (f : Addr) (fd : FuncData) (ps : List Str) (sp : Sp) : Prop where
  len : ∀ vs H Q E, sp vs H Q E → vs.length = ps.length
  run : ∀ (A : Around) (outer : List Env) (s : Shared) (H : Hp) (args : Args) (us : List Value) (vs : List V) (Q : VK) (E : XK), A.guards = some [] → Room k A → Env0 P w K mg base A outer s H → BindsTo s fd args (ps.zip us) → Vals vs us → sp vs H Q E →
    codeAny (model P w) A (.call (.ref f) args) (CR CX0 outer P w H s Q E) s
theorem okG_of {x qual : Str} {params : Arguments} {body : List Stmt} {scope : Scope} {dvs : List V} {kws : List (Str × V)} {f : Addr} {fd : FuncData} {N ps : List Str} {k : Nat} {sp : Sp} (F : FunD K x qual params body scope dvs kws f fd) (Z : FnScope N ps scope) (hlen : ∀ vs H Q E, sp vs H Q E → vs.length = ps.length)
    (bd : ∀ (cdv : Value) (A : Around) (outer : List Env) (s : Shared) (H : Hp) (vs : List V) (Q : VK) (E : XK), A.guards = some [] → Room k (A.deeper (envOfC qual scope s.heap.objs.size f cdv)) → sp vs H Q E →
      ∃ t, PSs (cxOf CX0 P w K mg base N qual scope f cdv A outer s H E) body t ∧ t { nx := fun _ H' => Q .non H', rt := Q } (L2.start N vs) H) : FnOkG P w K mg base (k + 1) f fd ps sp := by
  obtain ⟨oc, od, dV, kV, doc, pm, an, cdv, ct, osl, efd, lk, hcd, _, _⟩ := F.ex
  subst efd
  refine ⟨hlen, fun A outer s H args us vs Q E gd hr e0 hb r hsp => ?_⟩
  have there : ∀ b o, base.get? b = some o → s.heap.get? b = some o := fun b o e => (e0.bs b o e).1
  have inK : K.In s.heap := e0.mod.kin.keeps there
  have small : s.heap.NoLimit := e0.mod.nolimit.keeps there
  have kinds : ∀ y ∈ ps.zip us, scope.names.lookup y.1 = some .local ∨ (scope.names.lookup y.1 = some .cell ∧ ((cellsFrom (s.heap.objs.size + 1) scope.names []).lookup y.1).isSome = true) := by
    rintro ⟨n, v⟩ hy
    cases Z.par n (List.of_mem_zip hy).1 with
    | inl q => exact .inl q
    | inr q => exact .inr ⟨q, PySem.W.cellsFrom_some _ _ _ (.inl q)⟩
  apply codeAny_call_function hr.depth (inK _ _ lk) rfl Z.co Z.gen rfl (PySem.W.codeRec_of inK hcd)
  apply hb
  apply wpAny_newFunctionEnv_cells Z.kind kinds
  intro env he s1 y
  subst he
  obtain ⟨t, ht, hq⟩ := bd cdv A outer s H vs Q E gd (hr.deeper _) hsp
  have I := inv_start (CX := CX0) (E := E) Z hr.hd e0 (hlen _ _ _ _ hsp) r y
  refine ⟨small.keeps y.toInCall.keep, codeAny_func (wpAny_mono (ht.run [] s1 (L2.start N vs) H _ I hq) (fun fl s' hs => ?_) fun _ _ z => z)⟩
  match fl, hs with
  | .ret u, ⟨v, σ', H', J, rv, q⟩ => exact ⟨v, H', J.os, J.bare, J.base, J.hok, rv, q⟩
  | .next, ⟨σ', H', J, q⟩ => exact ⟨V.non, H', J.os, J.bare, J.base, J.hok, rfl, q⟩
  | .brk, ⟨_, _, _, q⟩ => exact q.elim
  | .cont, ⟨_, _, _, q⟩ => exact q.elim
section
variable {X : Cx} {k : Nat} {f : Addr} {fd : FuncData} {ps : List Str} {sp : Sp} {dvs : List V} {ds : List Value} {E : XK} {x : Str} {p pos : Pos} {e : Expr} {es : List Expr} {t : TA}
/-- repr of data -/
def cRepr (K : PySem.W.Frag) : List V → Hp → VK → Prop := fun xs H Q => ∃ x d, xs = [x] ∧ Dp K H x d ∧ d.showable = true ∧ d.depth ≤ 60 ∧ d.shown.length ≤ sizeLine ∧ Q (.str d.shown) H
mutual
theorem dp_lay {H : Hp} : ∀ (d : PyData) (v : V), Dp K H v d → d.hasDict = false
  | .none, _, _ => by simp only [PyData.hasDict]
  | .bool _, _, _ => by simp only [PyData.hasDict]
  | .int _, _, _ => by simp only [PyData.hasDict]
  | .str _, _, _ => by simp only [PyData.hasDict]
  | .list ds, _, h => by
    cases h with
    | lst a b =>
      simp only [PyData.hasDict]
      exact dp_lays ds _ b
  | .tuple ds, _, h => by
    cases h with
    | tup a b =>
      simp only [PyData.hasDict]
      exact dp_lays ds _ b
  | .dict _, _, h => by cases h
theorem dp_lays {H : Hp} : ∀ (ds : List PyData) (vs : List V), DpAll K H vs ds → PyData.hasDictAll ds = false
  | [], _, _ => by simp only [PyData.hasDictAll]
  | d :: ds, _, h => by
    cases h with
    | cons a b => simp only [PyData.hasDictAll, dp_lay d _ a, dp_lays ds _ b, Bool.or_self]
end
theorem call_reprD (gd : X.A.guards = some []) (hu : X.A.units + 64 < cLine) : CallR X (.builtin "repr") (cRepr X.K) := by
  intro pins s σ H xs us Q I r h
  obtain ⟨x, d, rfl, hd, hs, hp, hz, q⟩ := h
  obtain ⟨u, rfl, ru⟩ := vals1 r
  obtain ⟨as, rd⟩ := Dp.reads I d x u hd ru
  have nd := PyData.noDict_hsm (as := as) (dp_lay d x hd)
  cases hd with
  | non =>
    cases ru
    exact PySem.P.repr_of_none ⟨.str _, H, I.tok _, ⟨_, rfl⟩, q⟩
  | bl b =>
    cases ru
    exact PySem.P.repr_of_bool ⟨.str _, H, I.tok _, ⟨_, by simp only [PyData.shown]; cases b <;> rfl⟩, q⟩
  | int i =>
    obtain ⟨t, rfl⟩ := ru
    exact PySem.P.repr_of_int (by simpa [PyData.showable] using hs) ⟨.str _, H, I.tok _, ⟨_, rfl⟩, q⟩
  | str z =>
    obtain ⟨t, rfl⟩ := ru
    exact PySem.P.repr_of_str ⟨.str _, H, I.tok _, ⟨_, rfl⟩, q⟩ hz
  | lst h1 h2 =>
    cases ru
    exact repr_of_reads' rd hs nd gd (by omega) (fun _ _ e => e) (fun h' u tk hk => ⟨.str _, H, I.kept hk, ⟨_, rfl⟩, q⟩) hz
  | tup h1 h2 =>
    cases ru
    exact repr_of_reads' rd hs nd gd (by omega) (fun _ _ e => e) (fun h' u tk hk => ⟨.str _, H, I.kept hk, ⟨_, rfl⟩, q⟩) hz
end
/-! the end of a law that shows things -/
theorem law_G {mb : Str → Option Value} {k : Nat} {fa a : Addr} {fd : FuncData} {x : Str} {sp : Sp} {s₁ : Shared} {vs : List Value} {ns : List Int}
    (KX : K.In s₁.heap) (hns : s₁.heap.Ns mainGlobals mg) (hb : s₁.heap.Ns builtinsNs mb) (hbb : ∀ y : Str, y ≠ "__name__" → mb y = bootBuiltins y) (hlim : s₁.heap.NoLimit) (hg : s₁.gens = #[])
    (ha : s₁.heap.get? a = some { cls := .type "list", data := .seq vs.toArray }) (hi : IntsAre vs ns) (hl : ns.length ≤ sizeLine) (hr : Room k callerA)
    (F : ∀ b0 : Heap, K.In b0 → b0.Ns mainGlobals mg → FnOkG P w K mg b0 k fa fd [x] sp) (hbind : ∀ (s : Shared) (u : Value), BindsTo s fd ⟨[u], []⟩ [(x, u)])
    (hsp : ∀ H : Hp, SqL K H a (ns.map V.int) → sp [.ref a] H (fun v _ => v = .bl true) fun _ _ _ => False) :
    codeAny (model P w) callerA (.call (.ref fa) ⟨[.ref a], []⟩) (fun r s' => r = .ok (.ret (.bool true)) ∧ OldK s₁.heap s'.heap ∧ s'.os = s₁.os ∧ AllBare s'.gens) s₁ := by
  have rv := vals_ints hi
  -- H: the script alone, or nothing
  have go : ∀ H : Hp, SqL K H a (ns.map V.int) → HOk P w H s₁.heap → (∀ b u, H b = some u → b = a ∧ K.lookup b = none ∧ ∃ o xs, u = .frz o (.lst xs)) →
      codeAny (model P w) callerA (.call (.ref fa) ⟨[.ref a], []⟩) (fun r s' => r = .ok (.ret (.bool true)) ∧ OldK s₁.heap s'.heap ∧ s'.os = s₁.os ∧ AllBare s'.gens) s₁ := by
    intro H hS hok hA
    have free : ∀ {b : Addr} {o : Obj} {es : Array DictEntry} {ep : Nat}, s₁.heap.get? b = some o → o.data = .dict es ep → H b = none := by
      intro b o es ep e d
      match q : H b with
      | none => rfl
      | some u =>
        obtain ⟨rfl, _⟩ := hA b u q
        rw [ha] at e
        cases e
        cases (show Data.seq vs.toArray _ = Data.dict es ep from d)
    have ns_ : ∀ {b : Addr} {m : Str → Option Value}, s₁.heap.Ns b m → (hidT s₁.heap H).Ns b m := by
      rintro b m ⟨o, es, ep, e, d, r⟩
      exact ⟨o, es, ep, hidT_get e (free e d), d, r⟩
    have kb : K.In (hidT s₁.heap H) := by
      intro b o e
      refine hidT_get (KX b o e) ?_
      match q : H b with
      | none => rfl
      | some u =>
        have z := (hA b u q).2.1
        rw [e] at z
        cases z
    have lim : (hidT s₁.heap H).NoLimit := by
      obtain ⟨mc, h1, h2⟩ := hlim
      exact ⟨mc, ns_ h1, h2⟩
    have e0 : Env0 P w K mg (hidT s₁.heap H) callerA [] s₁ H := by
      refine ⟨rfl, ⟨kb, ns_ hns, ⟨mb, ns_ hb, hbb⟩, lim⟩, fun b o e => of_hidT e, Nat.le_of_eq (hidT_size _ _), trivial, fun b z => ?_, hok, .of_eq hg⟩
      exact absurd (show b ∈ ([] : List Addr) from z) (by simp)
    have run := (F _ kb (ns_ hns)).run callerA [] s₁ H ⟨[.ref a], []⟩ [.ref a] [.ref a] _ _ rfl hr e0 (hbind s₁ (.ref a)) (.cons rfl .nil) (hsp H hS)
    refine codeAny_mono run fun r s' h => ?_
    match r, h with
    | .error e, h => exact False.elim h
    | .ok .next, h => exact False.elim h
    | .ok .brk, h => exact False.elim h
    | .ok .cont, h => exact False.elim h
    | .ok (.ret u), ⟨v, H', os, bare, un, hok', r', q⟩ =>
      cases (show v = .bl true from q)
      cases (show u = Value.bool true from r')
      refine ⟨rfl, OldK.of_keep fun b o e => ?_, os, bare⟩
      match z : H b with
      | none => exact un.keep b o e z (by intro y; exact absurd (show b ∈ ([] : List Addr) from y) (by simp)) (by simp)
      | some u =>
        obtain ⟨_, _, ob, xs, rfl⟩ := hA b u z
        have z2 := un.frzs b ob _ z
        have e1 := (hok b _ z).1
        rw [e] at e1
        cases e1
        exact (hok' b _ z2).1
  by_cases hk : K.lookup a = none
  · refine go (fun b => if b = a then some (.frz { cls := .type "list", data := .seq vs.toArray } (.lst (ns.map V.int))) else none) (.inl (.inr ⟨{ cls := .type "list", data := .seq vs.toArray }, if_pos rfl⟩)) (fun b u z => ?_) fun b u z => ?_
    · by_cases q : b = a
      · subst q
        cases (if_pos rfl).symm.trans z
        exact ⟨ha, by rw [List.length_map]; exact hl, vs, _, rv, ha⟩
      · cases (if_neg q).symm.trans z
    · by_cases q : b = a
      · subst q
        cases (if_pos rfl).symm.trans z
        exact ⟨rfl, hk, _, _, rfl⟩
      · cases (if_neg q).symm.trans z
  · obtain ⟨o, ho⟩ : ∃ o, K.lookup a = some o := Option.ne_none_iff_exists'.mp hk
    have e := KX a o ho
    rw [ha] at e
    cases e
    exact go (fun _ => none) (.inr ⟨_, vs.toArray, _, ho, rfl, rfl, rfl, by rw [List.size_toArray, hi.length]; exact hl, by simpa using rv⟩) (fun b u z => nomatch z) fun b u z => nomatch z
theorem walk_G {l : PySem.W.OpenLaw} {n k : Nat} {q : Program} {loose : List Str} {XP : (Str → Option Value) → Heap → Prop} {YP : World → Heap → Prop} {d : DefRec} {x : Str}
    (hn : l.most = some n) (hn2 : n ≤ sizeLine) (hdf : d.params.defaults = []) (hr : Room k callerA)
    (F : ∀ (w : World) (mg : Str → Option Value) (fa : Addr) (h : Heap), YP w h → h.Ns mainGlobals mg → mg d.name = some (.ref fa) →
      ∃ (K : PySem.W.Frag) (fd : FuncData) (sp : Sp), K.In h ∧ (∀ (s : Shared) (u : Value), BindsTo s fd ⟨[u], []⟩ [(x, u)]) ∧
        (∀ (H : Hp) (a : Addr) (ns : List Int), ns.length ≤ n → SqL K H a (ns.map V.int) → sp [.ref a] H (fun v _ => v = .bl true) fun _ _ _ => False) ∧
        ∀ b0 : Heap, K.In b0 → b0.Ns mainGlobals mg → FnOkG l.prog w K mg b0 k fa fd [x] sp) : PySem.W.WalkO q loose XP YP l.row.toRowW d [] (fun f vs => PySem.call f vs) := by
  apply Att.attach_call hn hdf
  intro w s₀ s₁ mg mb fa o pm cd doc a vs ns G Y ho hd hcd hmg hobj hints hlen hg
  obtain ⟨K, fd, sp, KX, hb, hsp, hF⟩ := F w mg fa _ Y G.T.g hmg
  exact law_G KX G.T.g G.T.b G.T.builtins G.T.nolimit hg hobj hints (Nat.le_trans hlen hn2) hr hF hb fun H hS => hsp H a ns hlen hS

end
section
variable {P : Program} {w : World} {K : PySem.W.Frag} {mg : Str → Option Value} {base : Heap}
local macro_rules | `(tactic| get_elem_tactic_trivial) => `(tactic| (repeat first | exact Wk.nil | exact Wk'.nil | refine Wk.same ?_ | refine Wk'.same ?_ | refine Wk.un (fun _ z => nomatch z) ?_ | refine Wk'.un ?_))
/-! as the library's data -/
mutual
def Dt.py : Dt → PyData
  | .non => .none
  | .bl b => .bool b
  | .int i => .int i
  | .str x => .str x
  | .lst ds => .list (pys ds)
  | .tup ds => .tuple (pys ds)
  | .obj _ _ _ => .none
  | .err _ _ => .none
  | .adr _ => .none
  | .dic _ _ => .none
  | .scr _ => .none
def pys : List Dt → List PyData
  | [] => []
  | d :: ds => d.py :: pys ds
end
mutual
def Dt.pure : Dt → Bool
  | .lst ds => pures ds
  | .tup ds => pures ds
  | .obj _ _ _ => false
  | .err _ _ => false
  | .adr _ => false
  | .dic _ _ => false
  | .scr _ => false
  | _ => true
def pures : List Dt → Bool
  | [] => true
  | d :: ds => d.pure && pures ds
end
mutual
theorem Rp.dp {C : Hp} : ∀ (d : Dt) (v : V), Rp K C v d → d.pure = true → Dp K C v d.py
  | .non, _, h, _ => by cases h; exact .non
  | .bl b, _, h, _ => by cases h; exact .bl b
  | .int i, _, h, _ => by cases h; exact .int i
  | .str x, _, h, _ => by cases h; exact .str x
  | .lst ds, _, h, p => by
    cases h with
    | lst a b => exact .lst (SqL.of a) (RpL.dp ds _ b (by simpa only [Dt.pure] using p))
  | .tup ds, _, h, p => by
    cases h with
    | tup a b => exact .tup a (RpL.dp ds _ b (by simpa only [Dt.pure] using p))
  | .obj _ _ _, _, _, p => by simp only [Dt.pure] at p; cases p
  | .err _ _, _, _, p => by simp only [Dt.pure] at p; cases p
  | .adr _, _, _, p => by simp only [Dt.pure] at p; cases p
  | .dic _ _, _, _, p => by simp only [Dt.pure] at p; cases p
  | .scr _, _, _, p => by simp only [Dt.pure] at p; cases p
theorem RpL.dp {C : Hp} : ∀ (ds : List Dt) (vs : List V), RpL K C vs ds → pures ds = true → DpAll K C vs (pys ds)
  | [], _, h, _ => by cases h; exact .nil
  | d :: ds, _, h, p => by
    cases h with
    | cons a b =>
      simp only [pures, Bool.and_eq_true] at p
      exact .cons (Rp.dp d _ a p.1) (RpL.dp ds _ b p.2)
end
theorem Rt.dp {B : Bs} {C H : Hp} {σ : L2.St} {ρ : List Sl} {v : V} {d : Dt} (S : Sep K B C H σ ρ) (h : Rt K C H v d) (p : d.pure = true) : Dp K H v d.py := by
  rcases h with h | ⟨a, vs, ds, rfl, rfl, ha, r⟩
  · exact dp_same S.cold _ _ (Rp.dp d v h p)
  · exact .lst (SqL.of ha) (dps_same S.cold _ _ (RpL.dp ds vs r (by simpa only [Dt.pure] using p)))
structure Nice (n b : Nat) (d : Dt) : Prop where
  pu : d.pure = true
  lay : d.py.canLay0 = true
  sh : d.py.showable = true
  lv : d.py.leavesShort 1921 = true
  dp : d.py.depth ≤ n
  bk : d.py.bulk ≤ b
theorem Nice.mono {n b m c : Nat} {d : Dt} (h : Nice n b d) (h1 : n ≤ m) (h2 : b ≤ c) : Nice m c d := ⟨h.pu, h.lay, h.sh, h.lv, Nat.le_trans h.dp h1, Nat.le_trans h.bk h2⟩
theorem nice_non : Nice 0 0 .non := ⟨rfl, rfl, rfl, rfl, Nat.le_refl _, Nat.le_refl _⟩
theorem nice_bl (b : Bool) : Nice 0 0 (.bl b) := ⟨rfl, rfl, rfl, rfl, Nat.le_refl _, Nat.le_refl _⟩
theorem log_lt {i : Int} {k : Nat} (hk : 0 < k) (h : i.natAbs < 2 ^ k) : i.natAbs.log2 < k := by
  by_cases z : i.natAbs = 0
  · rw [z]
    exact hk
  · exact (Nat.log2_lt z).mpr h
theorem nice_int {i : Int} (h : i.natAbs < 2 ^ 1900) : Nice 0 0 (.int i) := by
  have h1 : i.natAbs.log2 < 1920 := Nat.lt_trans (log_lt (by decide) h) (by decide)
  refine ⟨rfl, rfl, ?_, ?_, Nat.le_refl _, Nat.le_refl _⟩
  · show PyData.showable (.int i) = true
    simp only [PyData.showable, decide_eq_true_eq]
    exact h1
  · show PyData.leavesShort 1921 (.int i) = true
    simp only [PyData.leavesShort, decide_eq_true_eq]
    exact PyProof.Rows.int_text_len_1921 h1
theorem nices {n b : Nat} : ∀ {ds : List Dt}, (∀ d ∈ ds, Nice n b d) → pures ds = true ∧ PyData.canLayAll0 (pys ds) = true ∧ PyData.showableAll (pys ds) = true ∧ PyData.leavesShortAll 1921 (pys ds) = true ∧ PyData.depthAll (pys ds) ≤ n ∧ PyData.bulkAll (pys ds) ≤ ds.length * (b + 1)
  | [], _ => ⟨rfl, rfl, rfl, rfl, Nat.zero_le _, Nat.zero_le _⟩
  | d :: ds, h => by
    obtain ⟨h1, h2, h3, h4, h5, h6⟩ := nices (ds := ds) fun e he => h e (List.mem_cons_of_mem _ he)
    have q := h d (List.mem_cons_self ..)
    refine ⟨?_, ?_, ?_, ?_, ?_, ?_⟩
    · simp only [pures, q.pu, h1, Bool.and_self]
    · simp only [pys, PyData.canLayAll0, q.lay, h2, Bool.and_self]
    · simp only [pys, PyData.showableAll, q.sh, h3, Bool.and_self]
    · simp only [pys, PyData.leavesShortAll, q.lv, h4, Bool.and_self]
    · simp only [pys, PyData.depthAll]
      exact Nat.max_le.mpr ⟨q.dp, h5⟩
    · simp only [pys, PyData.bulkAll, List.length_cons]
      have := q.bk
      have e : (ds.length + 1) * (b + 1) = ds.length * (b + 1) + (b + 1) := by rw [Nat.succ_mul]
      omega
theorem nice_lst {n b : Nat} {ds : List Dt} (h : ∀ d ∈ ds, Nice n b d) : Nice (n + 1) (ds.length * (b + 1)) (.lst ds) := by
  obtain ⟨h1, h2, h3, h4, h5, h6⟩ := nices h
  refine ⟨?_, ?_, ?_, ?_, ?_, ?_⟩
  · simp only [Dt.pure]; exact h1
  · simp only [Dt.py, PyData.canLay0]; exact h2
  · simp only [Dt.py, PyData.showable]; exact h3
  · simp only [Dt.py, PyData.leavesShort]; exact h4
  · simp only [Dt.py, PyData.depth]; omega
  · simp only [Dt.py, PyData.bulk]; exact h6
theorem nice_tup {n b : Nat} {ds : List Dt} (h : ∀ d ∈ ds, Nice n b d) : Nice (n + 1) (ds.length * (b + 1)) (.tup ds) := by
  obtain ⟨h1, h2, h3, h4, h5, h6⟩ := nices h
  refine ⟨?_, ?_, ?_, ?_, ?_, ?_⟩
  · simp only [Dt.pure]; exact h1
  · simp only [Dt.py, PyData.canLay0]; exact h2
  · simp only [Dt.py, PyData.showable]; exact h3
  · simp only [Dt.py, PyData.leavesShort]; exact h4
  · simp only [Dt.py, PyData.depth]; omega
  · simp only [Dt.py, PyData.bulk]; exact h6
theorem Nice.shaped {n b : Nat} {d : Dt} (h : Nice n b d) (hn : n ≤ 60) : SeqAt.shaped d.py = true := by
  unfold SeqAt.shaped
  rw [h.lay, Bool.true_and, decide_eq_true_eq]
  have := h.dp
  omega
theorem Nice.short {n b : Nat} {d : Dt} (h : Nice n b d) (hb : b ≤ 8000) : d.py.shown.length ≤ sizeLine := by
  have q := PyData.shown_le_bulk 1921 (by decide) d.py h.lv
  have w := h.bk
  have e : sizeLine = 16777216 := by decide
  rw [e]
  omega
/-! == and != of data -/
def eD (d e : Dt) : Bool := PyData.eqv d.py e.py
def oEqD (neg : Bool) (d e : Dt) (Φ : Dt → Prop) : Prop := (d.pure = true ∧ e.pure = true ∧ SeqAt.shaped d.py = true ∧ SeqAt.shaped e.py = true) ∧ Φ (.bl (if neg then !eD d e else eD d e))
instance so_eqD : So K (rEqD K) (oEqD false) where
  run B C H σ ρ x y dx dy Q Φ S hx hy h k := by
    obtain ⟨⟨h1, h2, h3, h4⟩, z⟩ := h
    exact ⟨_, _, hx.dp S h1, hy.dp S h2, h3, h4, k _ _ _ _ S (Same.refl _) (.bl _) z⟩
instance so_neD : So K (rNeD K) (oEqD true) where
  run B C H σ ρ x y dx dy Q Φ S hx hy h k := by
    obtain ⟨⟨h1, h2, h3, h4⟩, z⟩ := h
    exact ⟨_, _, hx.dp S h1, hy.dp S h2, h3, h4, k _ _ _ _ S (Same.refl _) (.bl _) z⟩
/-! is None -/
def rIsNone : R2 := fun x y H Q => y = .non ∧ Q (.bl (decide (x = .non))) H
def rNotNone : R2 := fun x y H Q => y = .non ∧ Q (.bl (!decide (x = .non))) H
def isNon : Dt → Bool
  | .non => true
  | _ => false
def oIsN (neg : Bool) (d e : Dt) (Φ : Dt → Prop) : Prop := e = .non ∧ Φ (.bl (if neg then !isNon d else isNon d))
theorem isNon_ok {C H : Hp} {x : V} {d : Dt} (h : Rt K C H x d) : decide (x = V.non) = isNon d := by
  rcases h with h | ⟨a, vs, ds, rfl, rfl, _⟩
  · cases h <;> rfl
  · rfl
instance so_isN : So K rIsNone (oIsN false) where
  run B C H σ ρ x y dx dy Q Φ S hx hy h k := by
    obtain ⟨rfl, z⟩ := h
    exact ⟨hy.non, by rw [isNon_ok hx]; exact k _ _ _ _ S (Same.refl _) (.bl _) z⟩
instance so_notN : So K rNotNone (oIsN true) where
  run B C H σ ρ x y dx dy Q Φ S hx hy h k := by
    obtain ⟨rfl, z⟩ := h
    exact ⟨hy.non, by rw [isNon_ok hx]; exact k _ _ _ _ S (Same.refl _) (.bl _) z⟩
/-! lists made of two -/
def oCat : Dt → Dt → (List Dt → Prop) → Prop
  | .lst ds, .lst es, Φ => ds.length + es.length ≤ sizeLine ∧ Φ (ds ++ es)
  | _, _, _ => False
instance sno_cat : Sno K rCat oCat where
  run B C H σ ρ x y dx dy Q Φ S hx hy h k := by
    cases dx <;> cases dy <;> try exact False.elim h
    obtain ⟨a, vs, rfl, ha, ra⟩ := hx.list' S
    obtain ⟨b, ws, rfl, hb, rb⟩ := hy.list' S
    exact ⟨a, b, vs, ws, rfl, rfl, ha, hb, by rw [ra.len, rb.len]; exact h.1, fun p hp => k _ _ _ _ (S.allocN hp) (Same.refl _) (S.frN hp (ra.append rb)) h.2⟩
/-! slices -/
def cutD (ds : List Dt) (lo hi : Option Int) : List Dt := (ds.drop (HT.sIx ds.length 0 lo)).take (HT.sIx ds.length ds.length hi - HT.sIx ds.length 0 lo)
theorem RpL.cut {C : Hp} {vs : List V} {ds : List Dt} (r : RpL K C vs ds) (lo hi : Option Int) : RpL K C (cutV vs lo hi) (cutD ds lo hi) := by
  unfold cutV cutD
  rw [r.len]
  exact (r.drop _).take _
abbrev WO := List Sl → (Option Int → List Sl → Prop) → Prop
class Sop (K : PySem.W.Frag) (t : TO) (w : outParam WO) : Prop where
  run : ∀ (B : Bs) (C H : Hp) (σ : L2.St) (ρ : List Sl) (Q : Option Int → Hp → Prop) (Ψ : Option Int → List Sl → Prop), Sep K B C H σ ρ → w ρ Ψ → (∀ C' G o ρ', Sep K B C' G σ ρ' → Same C C' → Ψ o ρ' → Q o G) → t σ H Q
instance sop_no : Sop K tNoPart (fun ρ Ψ => Ψ none ρ) where
  run B C H σ ρ Q Ψ S h k := k _ _ _ _ S (Same.refl _) h
def isInt (r : Rs) (k : Int → Prop) : Prop := match r with
  | .dat (.int i) => k i
  | _ => False
theorem isInt_run {C : Hp} {σ : L2.St} {ρ : List Sl} {v : V} {r : Rs} {k : Int → Prop} (ok : RsOk K C σ ρ v r) (h : isInt r k) : ∃ i, v = .int i ∧ k i := by
  cases r with
  | dat d =>
    cases d <;> try exact False.elim h
    cases ok
    exact ⟨_, rfl, h⟩
  | hot i ds => exact False.elim h
  | box i n => exact False.elim h
instance sop_part {t : TE} {w : WE} [a : Sd K t w] : Sop K (tPart t) (fun ρ Ψ => w ρ fun r ρ1 => isInt r fun i => Ψ (some i) ρ1) where
  run B C H σ ρ Q Ψ S h k := a.run B C H σ ρ _ _ S h fun C1 H1 v1 r1 ρ1 S1 s1 ok1 h1 => by
    obtain ⟨i, rfl, z⟩ := isInt_run ok1 h1
    exact ⟨i, rfl, k _ _ _ _ S1 s1 z⟩
def wSlL (w : WE) (wl wh : WO) : WN := fun ρ Ψ => w ρ fun r ρ1 => wl ρ1 fun lo ρ2 => wh ρ2 fun hi ρ3 => match r.val ρ3 with
  | some (.lst ds) => Ψ (cutD ds lo hi) ρ3
  | _ => False
instance sn_slL {te : TE} {tl th : TO} {w : WE} {wl wh : WO} [a : Sd K te w] [b : Sop K tl wl] [c : Sop K th wh] : Sn K (tSl (rSlL K) te tl th) (wSlL w wl wh) where
  run B C H σ ρ Q Ψ S h k := by
    refine a.run B C H σ ρ _ _ S h fun C1 H1 v1 r1 ρ1 S1 s1 ok1 h1 => ?_
    refine b.run B C1 H1 σ ρ1 _ _ S1 h1 fun C2 H2 lo ρ2 S2 s2 h2 => ?_
    refine c.run B C2 H2 σ ρ2 _ _ S2 h2 fun C3 H3 hi ρ3 S3 s3 h3 => ?_
    cases q : r1.val ρ3 with
    | none => simp only [q] at h3
    | some d =>
      simp only [q] at h3
      cases d <;> try exact False.elim h3
      obtain ⟨x, vs, rfl, ha, ra⟩ := (S3.valOf ok1 (s2.trans s3) q).list' S3
      exact ⟨x, vs, rfl, SqL.of ha, fun p hp => k _ _ _ _ _ (S3.allocN hp) (s1.trans (s2.trans s3)) (S3.frN hp (ra.cut lo hi)) h3⟩
/-! builtins of one thing -/
class Sb1 (K : PySem.W.Frag) (r : List V → Hp → VK → Prop) (f : outParam (Dt → (Dt → Prop) → Prop)) : Prop where
  run : ∀ (B : Bs) (C H : Hp) (σ : L2.St) (ρ : List Sl) (v : V) (d : Dt) (Q : VK) (Φ : Dt → Prop), Sep K B C H σ ρ → Rt K C H v d → f d Φ → (∀ C' G v d, Sep K B C' G σ ρ → Same C C' → Rp K C' v d → Φ d → Q v G) → r [v] H Q
def wCB1 (f : Dt → (Dt → Prop) → Prop) (wa : WE) : WE := fun ρ Ψ => wa ρ fun r ρ1 => match r.val ρ1 with
  | some d => f d fun e => Ψ (.dat e) ρ1
  | none => False
instance sd_cb1 {r : List V → Hp → VK → Prop} {f : Dt → (Dt → Prop) → Prop} {ta : TE} {wa : WE} [b : Sb1 K r f] [a : Sd K ta wa] : Sd K (tCB r (tCons ta tNil)) (wCB1 f wa) where
  run B C H σ ρ Q Ψ S h k := a.run B C H σ ρ _ _ S h fun C1 H1 v1 r1 ρ1 S1 s1 ok1 h1 => by
    cases q : r1.val ρ1 with
    | none => simp only [q] at h1
    | some d =>
      simp only [q] at h1
      exact b.run B C1 H1 σ ρ1 _ _ _ _ S1 (S1.valOf ok1 (Same.refl _) q) h1 fun C2 H2 v d S2 s2 r2 z => k _ _ _ (.dat d) _ S2 (s1.trans s2) r2 z
def fLen : Dt → (Dt → Prop) → Prop
  | .lst ds, Φ => Φ (.int ds.length)
  | .tup ds, Φ => Φ (.int ds.length)
  | .scr ns, Φ => Φ (.int ns.length)
  | .str x, Φ => x.length ≤ sizeLine ∧ Φ (.int x.length)
  | _, _ => False
instance sb_len : Sb1 K (rLen K) fLen where
  run B C H σ ρ v d Q Φ S hv h k := by
    cases d <;> try exact False.elim h
    · cases hv.str
      exact ⟨_, _, rfl, ⟨h.1, rfl⟩, k _ _ _ _ S (Same.refl _) (.int _) h.2⟩
    · obtain ⟨a, vs, rfl, ha, ra⟩ := hv.list' S
      exact ⟨_, _, rfl, .inl ⟨vs, SqL.of ha, rfl⟩, by rw [ra.len]; exact k _ _ _ _ S (Same.refl _) (.int _) h⟩
    · obtain ⟨a, vs, rfl, ha, ra⟩ := hv.tup' S
      exact ⟨_, _, rfl, .inr ⟨vs, ha, rfl⟩, by rw [ra.len]; exact k _ _ _ _ S (Same.refl _) (.int _) h⟩
    · rcases hv with hv | ⟨_, _, _, _, e, _⟩
      · cases hv with
        | scr a => exact ⟨_, _, rfl, .inl ⟨_, S.cold.seq a, by rw [List.length_map]⟩, k _ _ _ _ S (Same.refl _) (.int _) h⟩
      · cases e
def cMax2 : List V → Hp → VK → Prop := fun xs H Q => ∃ i j, xs = [.int i, .int j] ∧ Q (.int (if j > i then j else i)) H
def cMin2 : List V → Hp → VK → Prop := fun xs H Q => ∃ i j, xs = [.int i, .int j] ∧ Q (.int (if j < i then j else i)) H
def fMax : List Dt → (Dt → Prop) → Prop
  | [.int i, .int j], Φ => Φ (.int (if j > i then j else i))
  | _, _ => False
def fMin : List Dt → (Dt → Prop) → Prop
  | [.int i, .int j], Φ => Φ (.int (if j < i then j else i))
  | _, _ => False
theorem two_ints {C : Hp} {vs : List V} {i j : Int} (h : RpL K C vs [.int i, .int j]) : vs = [.int i, .int j] := by
  match h with
  | .cons a (.cons b .nil) =>
    cases a
    cases b
    rfl
instance sb_max : Sb K cMax2 fMax where
  run B C H σ ρ vs ds Q Φ S r h k := by
    unfold fMax at h
    split at h
    · exact ⟨_, _, two_ints r, k _ _ _ _ S (Same.refl _) (.int _) h⟩
    · exact h.elim
instance sb_min : Sb K cMin2 fMin where
  run B C H σ ρ vs ds Q Φ S r h k := by
    unfold fMin at h
    split at h
    · exact ⟨_, _, two_ints r, k _ _ _ _ S (Same.refl _) (.int _) h⟩
    · exact h.elim
/-- how it is shown -/
@[irreducible] def shw (d : Dt) : Str := d.py.shown
theorem shw_eq (d : Dt) : shw d = d.py.shown := by unfold shw; rfl
def fRepr (d : Dt) (Φ : Dt → Prop) : Prop := Nice 60 8000 d ∧ Φ (.str (shw d))
instance sb_repr : Sb1 K (cRepr K) fRepr where
  run B C H σ ρ v d Q Φ S hv h k := by
    obtain ⟨n, z⟩ := h
    rw [shw_eq] at z
    exact ⟨v, d.py, rfl, hv.dp S n.pu, n.sh, n.dp, n.short (Nat.le_refl _), k _ _ _ _ S (Same.refl _) (.str _) z⟩
/-! methods of a list that may be changed -/
def hotAt (i : Nat) (ρ : List Sl) (k : List Dt → Prop) : Prop := match ρ[i]? with
  | some (.hot ds) => k ds
  | _ => False
theorem hotAt_run {i : Nat} {ρ : List Sl} {k : List Dt → Prop} (h : hotAt i ρ k) : ∃ ds, ρ[i]? = some (.hot ds) ∧ k ds := by
  unfold hotAt at h
  cases q : ρ[i]? with
  | none => rw [q] at h; exact h.elim
  | some t => rw [q] at h; cases t <;> first | exact ⟨_, rfl, h⟩ | exact False.elim h
def isD (a : Ar) (k : Dt → Prop) : Prop := match a with
  | .d x => k x
  | .b _ => False
def wAppend (i : Nat) (wa : WE) : WE := fun ρ Ψ => hotAt i ρ fun _ => wa ρ fun r ρ1 => store r ρ1 fun a ρ2 => isD a fun d => hotAt i ρ2 fun ds => ds.length < sizeLine ∧ Ψ (.dat .non) (ρ2.set i (.hot (ds ++ [d])))
instance sd_append {i : Nat} {te : TE} {w : WE} [a : Sd K te w] : Sd K (tBM K "list" rAppend (tVar i) (tCons te tNil)) (wAppend i w) where
  run B C H σ ρ Q Ψ S h k := by
    obtain ⟨ds0, e0, h⟩ := hotAt_run h
    obtain ⟨c, vs0, e, hc, _⟩ := S.sl i _ e0
    refine ⟨_, e, Or.inl ⟨rfl, _, SqL.of hc⟩, a.run B C H σ ρ _ _ S h fun C1 H1 v1 r1 ρ1 S1 s1 ok1 h1 => ?_⟩
    obtain ⟨C2, x, ρ2, S2, s2, ok2, h2⟩ := S1.stored ok1 h1
    cases x with
    | b j => exact False.elim h2
    | d x =>
      obtain ⟨ds, e2, h3, h4⟩ := hotAt_run h2
      obtain ⟨c', vs, e3, hc3, r3, _⟩ := S2.sl i _ e2
      rw [e] at e3
      cases e3
      exact ⟨c, vs, v1, rfl, rfl, hc3, by rw [r3.len]; exact h3, k _ _ _ (.dat .non) _ (S2.hot e2 e (r3.append (.cons ok2 .nil))) (s1.trans s2) .non h4⟩
/-! the drawer -/
theorem Sep.boxed {B : Bs} {C H G : Hp} {σ : L2.St} {ρ : List Sl} (S : Sep K B C H σ ρ) {i : Nat} {p : Addr} {n m : Int} (hi : ρ[i]? = some (.box n)) (ei : σ[i]? = some (some (V.ref p))) (b : But p H G) (hb : Box G p m) : Sep K B C G σ (ρ.set i (.box m)) := by
  have cp := (S.mutH hi rfl ei).1
  have kp : ∀ a o, H a = some o → a ≠ p → G a = some o := b
  have back : ∀ {j : Nat} {t : Sl}, (ρ.set i (.box m))[j]? = some t → t.mut = true → ∃ t', ρ[j]? = some t' ∧ t'.mut = true := fun {j t} z y => by
    rcases get_set z with ⟨rfl, rfl, l⟩ | ⟨_, z⟩
    · exact ⟨_, hi, rfl⟩
    · exact ⟨t, z, y⟩
  refine ⟨fun a o q => kp a o (S.cold _ _ q) fun z => (by rw [z, cp] at q; cases q), by rw [List.length_set]; exact S.len, fun j s h => ?_, fun j k a t u q h1 h2 m1 m2 e1 e2 => ?_, S.grow, S.new, fun a h => ?_, fun a o h n => kp a o (S.keep a o h n) fun z => ?_, fun j a ds h e => ?_, fun j a n h e => ?_, fun j a h => ?_, S.pz⟩
  · rcases get_set h with ⟨rfl, rfl, l⟩ | ⟨nj, h⟩
    · exact ⟨p, ei, hb, cp⟩
    · have q := S.sl j s h
      cases s with
      | un => trivial
      | dat d => exact q
      | hot ds =>
        obtain ⟨a, vs, e, ha, r, ca⟩ := q
        exact ⟨a, vs, e, kp _ _ ha (fun z => S.ne i j p _ _ nj hi h rfl rfl ei (z ▸ e)), r, ca⟩
      | box n =>
        obtain ⟨a, e, ⟨x, y, z, ha, hh⟩, ca⟩ := q
        have na : a ≠ p := fun z => S.ne i j p _ _ nj hi h rfl rfl ei (z ▸ e)
        exact ⟨a, e, ⟨x, y, z, kp _ _ ha na, hh⟩, ca⟩
  · obtain ⟨t', h1, m1⟩ := back h1 m1
    obtain ⟨u', h2, m2⟩ := back h2 m2
    exact S.ne j k a t' u' q h1 h2 m1 m2 e1 e2
  · have q := S.dom a h
    by_cases z : a = p
    · obtain ⟨x, y, w, hh, _⟩ := hb
      rw [z, hh]
      exact fun z => nomatch z
    · cases e : H a with
      | none => exact absurd e q
      | some o =>
        rw [kp a o e z]
        exact fun z => nomatch z
  · subst z
    rcases S.lob i a _ hi ei with q | q
    · rw [h] at q
      cases q
    · exact n i q
  · rcases get_set h with ⟨rfl, z, l⟩ | ⟨nj, h⟩
    · cases z
    · exact S.loc j a ds h e
  · rcases get_set h with ⟨rfl, z, l⟩ | ⟨nj, h⟩
    · exact S.lob i a _ hi e
    · exact S.lob j a n h e
  · obtain ⟨h1, n', h2⟩ := S.par j a h
    by_cases z : i = j
    · subst z
      refine ⟨h1, m, set_at ?_⟩
      cases Nat.lt_or_ge i ρ.length with
      | inl h => exact h
      | inr g => rw [List.getElem?_eq_none g] at hi; cases hi
    · exact ⟨h1, n', by rw [set_off z]; exact h2⟩
def wTake : WF := fun ps Ψ => match ps with
  | [.box n, .dat (.int m)] => (n < 1000000000 ∧ 0 < m ∧ m < 340282366920938463463374607431768211456) ∧ ∀ r : Int, 0 ≤ r → r < m → Ψ (.dat (.int r)) [.box (n + 1), .dat (.int m)]
  | _ => False
theorem take_imp {vs : List V} {H : Hp} {Q : VK} {E : XK} (h : spD K 2 wTake vs H Q E) : spLTake vs H Q E := by
  obtain ⟨hl, C, bx, ps, Ψ, S, hw, k⟩ := h
  unfold wTake at hw
  split at hw
  · rename_i n m
    obtain ⟨⟨h1, h2, h3⟩, hw⟩ := hw
    match vs, hl with
    | [a, b], _ =>
      obtain ⟨p, e, hb, _⟩ := S.sl 0 _ rfl
      obtain ⟨v, e2, r⟩ := S.sl 1 _ rfl
      cases (Option.some.inj (Option.some.inj e))
      cases (Option.some.inj (Option.some.inj e2))
      cases r
      exact ⟨p, m, n, rfl, hb, by omega, h2, h3, fun r G bt bG r0 r1 => k C G (.int r) (.dat (.int r)) _ (S.boxed (i := 0) rfl rfl bt bG) (.int r) (hw r r0 r1)⟩
  · exact hw.elim
/-- a new drawer, in slot i -/
def wBox (i : Nat) (wa : WA) : WS := fun ρ Φ => wa ρ fun as ρ1 => match as with
  | [.d (.scr _), .d (.int k)] => (0 ≤ k ∧ k ≤ 1000) ∧ put i (.box 0) ρ1 Φ.nx
  | _ => False
instance ss_box {i : Nat} {ta : TA} {wa : WA} {E : XK} [a : Sa K ta wa] : Ss K (tAsg (tCall (spLBox K) [] E ta) (gName i)) (wBox i wa) where
  run B C H σ ρ D Φ S h m := a.run B C H σ ρ _ _ S h fun C1 H1 vs as ρ1 S1 s1 ok1 h1 => by
    split at h1
    · rename_i ns k
      obtain ⟨⟨k0, k1⟩, h1⟩ := h1
      obtain ⟨h2, h3⟩ := put_run h1
      match ok1 with
      | .cons (v := v1) r1 (.cons (v := v2) r2 .nil) =>
        cases r2
        cases r1 with
        | @scr b _ hs =>
          have ek : V.int k = V.int ((k.toNat : Nat) : Int) := by rw [Int.toNat_of_nonneg k0]
          refine ⟨b, ns, k.toNat, by rw [ek]; rfl, S1.cold.seq hs, by omega, fun p x y hp hx hy hy2 => ?_⟩
          exact m.nx _ _ _ _ ((S1.allocN hp).put (x := some (.ref p)) (s := .box 0) h2 (fun _ => ⟨p, rfl, ⟨x, y, 0, upd_same, hx, hy, hy2, Int.le_refl _, Int.le_refl _⟩, S1.cold.free hp⟩) fun _ b e => by cases e; exact ⟨fun j t _ => S1.nohot hp j t, S1.free0 hp⟩) h3
    · exact h1.elim
/-! the law -/
def spLawD (K : PySem.W.Frag) : Sp := spD K 1 fun ps Ψ => match ps with
  | [.dat (.scr ns)] => ns.length ≤ 63 ∧ Ψ (.dat (.bl true)) ps
  | _ => False
theorem law_imp {H : Hp} {a : Addr} {ns : List Int} (hl : ns.length ≤ 63) (h : SqL K H a (ns.map V.int)) : spLawD K [.ref a] H (fun v _ => v = .bl true) fun _ _ _ => False := by
  refine ⟨rfl, H, none, [.dat (.scr ns)], fun r _ => r = .dat (.bl true), ⟨Same.refl _, rfl, fun i s e => ?_, fun i j a s t n h1 h2 m1 m2 e1 e2 => ?_, Same.refl _, fun a o e n => (by rw [show H a = none from n] at e; cases e), fun a h => h, fun a o h n => h, fun i a ds h e => ?_, fun i a n h e => ?_, fun i a h => (nomatch h), fun i a h => (nomatch h)⟩, ⟨hl, rfl⟩, fun C' G v r ps' S' ok e => ?_⟩
  · match i, e with
    | 0, e =>
      cases e
      exact ⟨_, rfl, .scr h⟩
    | i + 1, e => simp at e
  · match i, h1 with
    | 0, h1 => cases h1; cases m1
    | i + 1, h1 => simp at h1
  · match i, h with
    | 0, h => cases h
    | i + 1, h => simp at h
  · match i, h with
    | 0, h => cases h
    | i + 1, h => simp at h
  · subst e
    cases ok
    rfl

end
section
variable {P : Program} {w : World} {K : PySem.W.Frag} {mg : Str → Option Value} {base : Heap}
local macro_rules | `(tactic| get_elem_tactic_trivial) => `(tactic| (repeat first | exact Wk.nil | exact Wk'.nil | refine Wk.same ?_ | refine Wk'.same ?_ | refine Wk.un (fun _ z => nomatch z) ?_ | refine Wk'.un ?_))
/-! subscripts of lists, tuples, texts -/
def oIx : Dt → Dt → (Dt → Prop) → Prop
  | .lst ds, .int i, Φ => ∃ d, atI ds i = some d ∧ Φ d
  | .tup ds, .int i, Φ => ∃ d, atI ds i = some d ∧ Φ d
  | .str z, .int i, Φ => z.length ≤ sizeLine ∧ ∃ c, atI z.cps.toList i = some c ∧ Φ (.str ⟨#[c]⟩)
  | _, _, _ => False
instance so_ix : So K (rIx K) oIx where
  run B C H σ ρ x y dx dy Q Φ S hx hy h k := by
    cases dx <;> cases dy <;> try exact False.elim h
    · obtain ⟨z, c, e, q⟩ := h
      exact .inr (.inr ⟨_, _, c, hx.str, hy.int, z, e, k _ _ _ _ S (Same.refl _) (.str _) q⟩)
    · exact .inl (so_ixL.run B C H σ ρ _ _ _ _ Q Φ S hx hy h k)
    · exact .inr (.inl (so_ixT.run B C H σ ρ _ _ _ _ Q Φ S hx hy h k))
/-! what a for walks -/
section
variable {X : Cx} {tg e : Expr} {te : TE}
def iAny (K : PySem.W.Frag) (te : TE) : TI := fun σ H R => te σ H fun x H1 => ∃ a, x = .ref a ∧ (((∃ xs, SqL K H1 a xs) ∧ R (Itl K a) H1) ∨ ((∃ xs, SqT K H1 a xs) ∧ R (Itt K a) H1))
theorem piAny (hk : X.K = K) (he : PE X e te) : PI X tg e (iAny K te) := by
  subst hk
  constructor
  intro pins s σ H R I h
  apply thn (he.run pins s σ H _ I h)
  rintro v s1 ⟨x, H1, I1, r1, a, rfl, q⟩
  cases r1
  have fresh : ∀ b ∈ [s1.heap.objs.size], FpOk X pins H1 b := by
    intro b hb
    rw [List.mem_singleton.mp hb]
    exact I1.fpOk (Nat.le_refl _) (I1.hok.fresh (Nat.le_refl _))
  rcases q with ⟨⟨xs, hq⟩, q⟩ | ⟨⟨xs, hq⟩, q⟩
  · obtain ⟨its, _, pl, _⟩ := I1.list hq
    apply wpAny_pyIter_list pl.isList
    exact ⟨_, _, _, _, H1, rfl, I1.kept (t' := s1.toks) fun b o z => Heap.get?_push_of_some _ z, turn_list a _, ⟨_, Heap.get?_push_size _ rfl, rfl, rfl⟩, fresh, q⟩
  · obtain ⟨its, _, pl, _⟩ := I1.tuple hq
    apply wpAny_pyIter_tuple (show s1.heap.IsTuple a its.toArray from pl)
    exact ⟨_, _, _, _, H1, rfl, I1.kept (t' := s1.toks) fun b o z => Heap.get?_push_of_some _ z, turn_tuple a _, ⟨_, Heap.get?_push_size _ rfl, rfl, rfl⟩, fresh, q⟩
end
def seqOf (a : Ar) (k : List Dt → Prop) : Prop := match a with
  | .d (.lst ds) => k ds
  | .d (.tup ds) => k ds
  | _ => False
def wiAny (w : WE) : WI := fun ρ Ψ => w ρ fun r ρ1 => store r ρ1 fun a ρ2 => seqOf a fun ds => Ψ ds ρ2
theorem itd_list {C : Hp} {a : Addr} {xs : List V} {ds : List Dt} (hs : C a = some (.lst xs)) (rl : RpL K C xs ds) : ItD K (Itl K a) C ds := fun B3 C3 H3 σ3 ρ3 S3 s3 => by
  have q : SqL K H3 a xs := SqL.of (S3.cold _ _ (s3 _ _ hs))
  have lq := rl.len
  refine ⟨fun i hi => ⟨xs, xs[i], q, by simp [lq, hi]⟩, ⟨xs, q, by omega⟩, fun i y H' d hd yl => ?_⟩
  obtain ⟨rfl, yl⟩ := yl
  obtain ⟨d', hd', r'⟩ := rl.at (yl xs q)
  rw [hd] at hd'
  cases hd'
  exact ⟨C3, S3, Same.refl _, r'.same s3⟩
theorem itd_tup {C : Hp} {a : Addr} {xs : List V} {ds : List Dt} (hs : SqT K C a xs) (rl : RpL K C xs ds) : ItD K (Itt K a) C ds := fun B3 C3 H3 σ3 ρ3 S3 s3 => by
  have q := seqT_same S3.cold (seqT_same s3 hs)
  have lq := rl.len
  refine ⟨fun i hi => ⟨xs, xs[i], q, by simp [lq, hi]⟩, ⟨xs, q, by omega⟩, fun i y H' d hd yl => ?_⟩
  obtain ⟨rfl, yl⟩ := yl
  obtain ⟨d', hd', r'⟩ := rl.at (yl xs q)
  rw [hd] at hd'
  cases hd'
  exact ⟨C3, S3, Same.refl _, r'.same s3⟩
instance si_any {te : TE} {w : WE} [a : Sd K te w] : Si K (iAny K te) (wiAny w) where
  run B C H σ ρ R Ψ S h k := a.run B C H σ ρ _ _ S h fun C1 H1 v1 r1 ρ1 S1 s1 ok1 h1 => by
    obtain ⟨C2, x, ρ2, S2, s2, ok2, h2⟩ := S1.stored ok1 h1
    cases x with
    | b i => exact False.elim h2
    | d x =>
      cases x <;> try exact False.elim h2
      · cases ok2 with
        | lst hs rl => exact ⟨_, rfl, .inl ⟨⟨_, SqL.of (S2.cold _ _ hs)⟩, k _ _ _ _ _ S2 (s1.trans s2) (itd_list hs rl) h2⟩⟩
      · cases ok2 with
        | tup hs rl => exact ⟨_, rfl, .inr ⟨⟨_, seqT_same S2.cold hs⟩, k _ _ _ _ _ S2 (s1.trans s2) (itd_tup hs rl) h2⟩⟩
/-! == and != of all kinds -/
def rEqA (K : PySem.W.Frag) : R2 := fun x y H Q => rEq x y H Q ∨ rEqD K x y H Q
def rNeA (K : PySem.W.Frag) : R2 := fun x y H Q => rNe x y H Q ∨ rNeD K x y H Q
section
variable {X : Cx}
theorem opEqA (hk : X.K = K) (hu : X.A.units + 64 < cLine) : OpR X (compareOp .Eq) (rEqA K) := by
  subst hk
  exact op_eq.or (op_eqD hu)
theorem opNeA (hk : X.K = K) (hu : X.A.units + 64 < cLine) : OpR X (compareOp .NotEq) (rNeA K) := by
  subst hk
  exact op_ne.or (op_neD hu)
end
def oEqA (neg : Bool) : Dt → Dt → (Dt → Prop) → Prop
  | .int i, .int j, Φ => Φ (.bl (if neg then !decide (i = j) else decide (i = j)))
  | .str i, .str j, Φ => Φ (.bl (if neg then !decide (i = j) else decide (i = j)))
  | .bl i, .bl j, Φ => Φ (.bl (if neg then !decide (i = j) else decide (i = j)))
  | d, e, Φ => oEqD neg d e Φ
theorem dec_V {α : Type} [DecidableEq α] {f : α → V} (inj : ∀ {a b : α}, f a = f b → a = b) (i j : α) : decide (f i = f j) = decide (i = j) := by
  by_cases h : i = j
  · rw [h, decide_eq_true rfl, decide_eq_true rfl]
  · rw [decide_eq_false h, decide_eq_false fun z => h (inj z)]
instance so_EqA : So K (rEqA K) (oEqA false) where
  run B C H σ ρ x y dx dy Q Φ S hx hy h k := by
    cases dx <;> cases dy <;> first
      | exact .inr (so_eqD.run B C H σ ρ _ _ _ _ Q Φ S hx hy h k)
      | (cases hx.int; cases hy.int; exact .inl ⟨rfl, by rw [dec_V (f := V.int) V.int.inj]; exact k _ _ _ _ S (Same.refl _) (.bl _) h⟩)
      | (cases hx.str; cases hy.str; exact .inl ⟨rfl, by rw [dec_V (f := V.str) V.str.inj]; exact k _ _ _ _ S (Same.refl _) (.bl _) h⟩)
      | (cases hx.bl; cases hy.bl; exact .inl ⟨rfl, by rw [dec_V (f := V.bl) V.bl.inj]; exact k _ _ _ _ S (Same.refl _) (.bl _) h⟩)
instance so_NeA : So K (rNeA K) (oEqA true) where
  run B C H σ ρ x y dx dy Q Φ S hx hy h k := by
    cases dx <;> cases dy <;> first
      | exact .inr (so_neD.run B C H σ ρ _ _ _ _ Q Φ S hx hy h k)
      | (cases hx.int; cases hy.int; exact .inl ⟨rfl, by rw [dec_V (f := V.int) V.int.inj]; exact k _ _ _ _ S (Same.refl _) (.bl _) h⟩)
      | (cases hx.str; cases hy.str; exact .inl ⟨rfl, by rw [dec_V (f := V.str) V.str.inj]; exact k _ _ _ _ S (Same.refl _) (.bl _) h⟩)
      | (cases hx.bl; cases hy.bl; exact .inl ⟨rfl, by rw [dec_V (f := V.bl) V.bl.inj]; exact k _ _ _ _ S (Same.refl _) (.bl _) h⟩)
/-! calls by keywords -/
def gP (is : List Nat) {α : Type} (us ws : List α) : List α := is.filterMap fun i => (us ++ ws)[i]?
theorem gP_vals (is : List Nat) {vs zs : List V} {us ws : List Value} (h1 : Vals vs us) (h2 : Vals zs ws) : Vals (gP is vs zs) (gP is us ws) := by
  have h := h1.append h2
  unfold gP
  induction is with
  | nil => exact .nil
  | cons i is ih =>
    rw [List.filterMap_cons, List.filterMap_cons]
    cases q : (vs ++ zs)[i]? with
    | none =>
      rw [h.none_of q]
      exact ih
    | some v =>
      obtain ⟨u, e, r⟩ := h.get q
      rw [e]
      exact .cons r ih
theorem ArL.ofRp {C : Hp} {σ : L2.St} : ∀ {vs : List V} {ds : List Dt}, RpL K C vs ds → ArL K C σ vs (ds.map .d)
  | _, _, .nil => .nil
  | _, _, .cons h t => .cons h (ArL.ofRp t)

end
section
variable {P : Program} {w : World} {K : PySem.W.Frag} {mg : Str → Option Value} {base : Heap}
local macro_rules | `(tactic| get_elem_tactic_trivial) => `(tactic| (repeat first | exact Wk.nil | exact Wk'.nil | refine Wk.same ?_ | refine Wk'.same ?_ | refine Wk.un (fun _ z => nomatch z) ?_ | refine Wk'.un ?_))
/-! words for reading -/
theorem ifF {b : Bool} {p q : Prop} (h : b = false) (hq : q) : if b = true then p else q := by rw [h, if_neg Bool.false_ne_true]; exact hq
theorem ifT {b : Bool} {p q : Prop} (h : b = true) (hp : p) : if b = true then p else q := by rw [h, if_pos rfl]; exact hp
theorem atD {α : Type} {xs : List α} {r : Int} (h0 : 0 ≤ r) (h1 : r < xs.length) : ∃ v, atI xs r = some v ∧ v ∈ xs := by
  obtain ⟨j, rfl⟩ : ∃ j : Nat, r = (j : Int) := ⟨r.toNat, by omega⟩
  have hj : j < xs.length := by omega
  exact ⟨xs[j], atI_nat (List.getElem?_eq_getElem hj), List.getElem_mem hj⟩
theorem eqSame {α : Type} [DecidableEq α] {x y : α} (h : x = y) : (if false = true then !decide (x = y) else decide (x = y)) = true := by rw [if_neg Bool.false_ne_true, decide_eq_true h]
theorem eqDiff {α : Type} [DecidableEq α] {x y : α} (h : x ≠ y) : (if false = true then !decide (x = y) else decide (x = y)) = false := by rw [if_neg Bool.false_ne_true, decide_eq_false h]
/-! the ways of an if joined -/
/-! a test or a thing that changes nothing, by its outcome -/

end
section
variable {P : Program} {w : World} {K : PySem.W.Frag} {mg : Str → Option Value} {base : Heap}
local macro_rules | `(tactic| get_elem_tactic_trivial) => `(tactic| (repeat first | exact Wk.nil | exact Wk'.nil | refine Wk.same ?_ | refine Wk'.same ?_ | refine Wk.un (fun _ z => nomatch z) ?_ | refine Wk'.un ?_))
/-! two names put at once, one or both of them a new list -/
theorem isD_run {C : Hp} {σ : L2.St} {v : V} {a : Ar} {k : Dt → Prop} (ok : ArOk K C σ v a) (h : isD a k) : ∃ d, Rp K C v d ∧ k d := by
  cases a with
  | d x => exact ⟨x, ok, h⟩
  | b i => exact False.elim h
/-! extend -/
/-! texts -/
def rAddS : R2 := fun x y H Q => ∃ i j, x = .str i ∧ y = .str j ∧ i.length + j.length ≤ sizeLine ∧ Q (.str (i ++ j)) H
def oAddS : Dt → Dt → (Dt → Prop) → Prop
  | .str i, .str j, Φ => i.length + j.length ≤ sizeLine ∧ Φ (.str (i ++ j))
  | _, _, _ => False
instance so_addS : So K rAddS oAddS where
  run B C H σ ρ x y dx dy Q Φ S hx hy h k := by
    cases dx <;> cases dy <;> try exact False.elim h
    exact ⟨_, _, hx.str, hy.str, h.1, k _ _ _ _ S (Same.refl _) (.str _) h.2⟩
/-- texts -/
def txts : List Dt → Option (List Str)
  | [] => some []
  | .str x :: ds => match txts ds with
    | some xs => some (x :: xs)
    | none => none
  | _ :: _ => none
theorem txts_ok {C : Hp} : ∀ {vs : List V} {ds : List Dt} {xs : List Str}, RpL K C vs ds → txts ds = some xs → vs = xs.map V.str
  | _, _, xs, .nil, e => by cases e; rfl
  | _, .str b :: ds, xs, .cons h t, e => by
    cases h
    unfold txts at e
    cases q : txts ds with
    | none => rw [q] at e; cases e
    | some cs =>
      rw [q] at e
      cases e
      rw [txts_ok t q]
      rfl
  | _, .non :: ds, bs, .cons h t, e => by cases e
  | _, .int _ :: ds, bs, .cons h t, e => by cases e
  | _, .bl _ :: ds, bs, .cons h t, e => by cases e
  | _, .lst _ :: ds, bs, .cons h t, e => by cases e
  | _, .tup _ :: ds, bs, .cons h t, e => by cases e
  | _, .obj _ _ _ :: ds, bs, .cons h t, e => by cases e
  | _, .err _ _ :: ds, bs, .cons h t, e => by cases e
  | _, .scr _ :: ds, bs, .cons h t, e => by cases e
/-- a text's method of one thing -/
class Sm1 (K : PySem.W.Frag) (r : V → List V → Hp → VK → Prop) (f : outParam (Str → Dt → (Dt → Prop) → Prop)) : Prop where
  run : ∀ (B : Bs) (C H : Hp) (σ : L2.St) (ρ : List Sl) (x : Str) (y : V) (d : Dt) (Q : VK) (Φ : Dt → Prop), Sep K B C H σ ρ → Rt K C H y d → f x d Φ → (∀ C' G v e, Sep K B C' G σ ρ → Same C C' → Rp K C' v e → Φ e → Q v G) → r (.str x) [y] H Q
def isStr (r : Rs) (k : Str → Prop) : Prop := match r with
  | .dat (.str x) => k x
  | _ => False
theorem isStr_run {C : Hp} {σ : L2.St} {ρ : List Sl} {v : V} {r : Rs} {k : Str → Prop} (ok : RsOk K C σ ρ v r) (h : isStr r k) : ∃ x, v = .str x ∧ k x := by
  cases r with
  | dat d =>
    cases d <;> try exact False.elim h
    cases ok
    exact ⟨_, rfl, h⟩
  | hot i ds => exact False.elim h
  | box i n => exact False.elim h
def wM1 (f : Str → Dt → (Dt → Prop) → Prop) (wo we : WE) : WE := fun ρ Ψ => wo ρ fun r ρ1 => isStr r fun x => we ρ1 fun r2 ρ2 => match r2.val ρ2 with
  | some d => f x d fun e => Ψ (.dat e) ρ2
  | none => False
instance sd_m1 {r : V → List V → Hp → VK → Prop} {f : Str → Dt → (Dt → Prop) → Prop} {to te : TE} {wo we : WE} [m : Sm1 K r f] [a : Sd K to wo] [b : Sd K te we] : Sd K (tM1 r to te) (wM1 f wo we) where
  run B C H σ ρ Q Ψ S h k := a.run B C H σ ρ _ _ S h fun C1 H1 v1 r1 ρ1 S1 s1 ok1 h1 => by
    obtain ⟨x, rfl, h1⟩ := isStr_run ok1 h1
    refine ⟨⟨x, rfl⟩, b.run B C1 H1 σ ρ1 _ _ S1 h1 fun C2 H2 v2 r2 ρ2 S2 s2 ok2 h2 => ?_⟩
    cases q : r2.val ρ2 with
    | none => simp only [q] at h2
    | some d =>
      simp only [q] at h2
      exact m.run B C2 H2 σ ρ2 x v2 d Q _ S2 (S2.valOf ok2 (Same.refl _) q) h2 fun C3 H3 v e S3 s3 r3 z => k _ _ _ (.dat e) _ S3 (s1.trans (s2.trans s3)) r3 z
def cJoin (K : PySem.W.Frag) : V → List V → Hp → VK → Prop := fun x xs H Q => ∃ a p, ∃ ys : List Str, x = .str a ∧ xs = [.ref p] ∧ (SqL K H p (ys.map V.str) ∨ SqT K H p (ys.map V.str)) ∧ (ys.map (·.length)).sum + ys.length * a.length ≤ 16777216 ∧ Q (.str (Txt.join a ys)) H
def fJoin (x : Str) : Dt → (Dt → Prop) → Prop
  | .lst ds, Φ => ∃ ys, txts ds = some ys ∧ (ys.map (·.length)).sum + ys.length * x.length ≤ 16777216 ∧ Φ (.str (Txt.join x ys))
  | _, _ => False
instance sm_join : Sm1 K (cJoin K) fJoin where
  run B C H σ ρ x y d Q Φ S hy h k := by
    cases d <;> try exact False.elim h
    obtain ⟨ys, e, z, h⟩ := h
    obtain ⟨a, vs, rfl, ha, ra⟩ := hy.list' S
    exact ⟨x, a, ys, rfl, rfl, .inl (by rw [← txts_ok ra e]; exact SqL.of ha), z, k _ _ _ _ S (Same.refl _) (.str _) h⟩

end
section
variable {P : Program} {w : World} {K : PySem.W.Frag} {mg : Str → Option Value} {base : Heap}
local macro_rules | `(tactic| get_elem_tactic_trivial) => `(tactic| (repeat first | exact Wk.nil | exact Wk'.nil | refine Wk.same ?_ | refine Wk'.same ?_ | refine Wk.un (fun _ z => nomatch z) ?_ | refine Wk'.un ?_))
/-! tuples cut and joined -/
/-! calls by keywords that tell a new list -/
theorem nice_str {x : Str} (h : PyData.strOk x = true) {b : Nat} (hb : x.cps.size ≤ b) : Nice 0 b (.str x) := by
  refine ⟨rfl, ?_, ?_, ?_, Nat.le_refl _, ?_⟩
  · show PyData.canLay0 (.str x) = true
    simp only [PyData.canLay0]
    exact h
  · show PyData.showable (.str x) = true
    simp only [PyData.showable]
  · show PyData.leavesShort 1921 (.str x) = true
    simp only [PyData.leavesShort]
    rw [List.all_eq_true]
    intro c hc
    rw [decide_eq_true_eq]
    have := Array.all_eq_true_iff_forall_mem.mp h c (Array.mem_def.mpr hc)
    have h2 : c < 0x110000 := of_decide_eq_true this
    exact Nat.lt_of_lt_of_le h2 (by decide)
  · show PyData.bulk (.str x) ≤ b
    simp only [PyData.bulk]
    exact hb

end
section
variable {P : Program} {w : World} {K : PySem.W.Frag} {mg : Str → Option Value} {base : Heap}
local macro_rules | `(tactic| get_elem_tactic_trivial) => `(tactic| (repeat first | exact Wk.nil | exact Wk'.nil | refine Wk.same ?_ | refine Wk'.same ?_ | refine Wk.un (fun _ z => nomatch z) ?_ | refine Wk'.un ?_))
/-! kinds -/
def kindS : Dt → Option String
  | .non => some "NoneType"
  | .bl _ => some "bool"
  | .int _ => some "int"
  | .str _ => some "str"
  | .lst _ => some "list"
  | .tup _ => some "tuple"
  | .scr _ => some "list"
  | .obj _ _ _ => none
  | .err _ _ => none
  | .adr _ => none
  | .dic _ _ => none
theorem kind_ty {B : Bs} {C H : Hp} {σ : L2.St} {ρ : List Sl} {v : V} {d : Dt} {k : String} (S : Sep K B C H σ ρ) (h : Rt K C H v d) (e : kindS d = some k) : TyX K H v (.type k) := by
  cases d <;> cases e
  · cases h.non; exact .base .non
  · cases h.bl; exact .base (.bl _)
  · cases h.int; exact .base (.int _)
  · cases h.str; exact .base (.str _)
  · obtain ⟨a, vs, rfl, ha, _⟩ := h.list' S; exact ty_list (SqL.of ha)
  · obtain ⟨a, vs, rfl, ha, _⟩ := h.tup' S; exact ty_tup ha
  · rcases h with h | ⟨_, _, _, _, e, _⟩
    · cases h with
      | scr a => exact ty_list (S.cold.seq a)
    · cases e
class KindT (c : String) (f : outParam (Dt → Bool)) : Prop where
  ok : ∀ d k, kindS d = some k → kitB k c = some (f d)
def kInt : Dt → Bool
  | .int _ => true
  | .bl _ => true
  | _ => false
def kBool : Dt → Bool
  | .bl _ => true
  | _ => false
instance : KindT "int" kInt := ⟨fun d k h => by cases d <;> cases h <;> first | (show kitB _ _ = some true; decide +kernel) | (show kitB _ _ = some false; decide +kernel)⟩
instance : KindT "bool" kBool := ⟨fun d k h => by cases d <;> cases h <;> first | (show kitB _ _ = some true; decide +kernel) | (show kitB _ _ = some false; decide +kernel)⟩
def noObj (d : Dt) (k : Prop) : Prop := match d with
  | .obj _ _ _ => False
  | .err _ _ => False
  | .adr _ => False
  | .dic _ _ => False
  | _ => k
theorem noObj_run {d : Dt} {k : Prop} (h : noObj d k) : (∃ s, kindS d = some s) ∧ k := by
  cases d <;> first | exact ⟨⟨_, rfl⟩, h⟩ | exact False.elim h
def wIsi (f : Dt → Bool) (wa : WE) : WE := fun ρ Ψ => wa ρ fun r ρ1 => match r.val ρ1 with
  | some d => noObj d (Ψ (.dat (.bl (f d))) ρ1)
  | none => False
instance sd_isi {c : String} {f : Dt → Bool} {ta : TE} {wa : WE} [kt : KindT c f] [a : Sd K ta wa] : Sd K (tCB (rIsi K) (tCons ta (tCons (tC (.ty c)) tNil))) (wIsi f wa) where
  run B C H σ ρ Q Ψ S h k := a.run B C H σ ρ _ _ S h fun C1 H1 v1 r1 ρ1 S1 s1 ok1 h1 => by
    cases q : r1.val ρ1 with
    | none => simp only [q] at h1
    | some d =>
      simp only [q] at h1
      obtain ⟨⟨s, e⟩, z⟩ := noObj_run h1
      exact ⟨v1, .ty c, .type s, .type c, f d, rfl, .ty _, kind_ty S1 (S1.valOf ok1 (Same.refl _) q) e, kit_ty (kt.ok d s e), k _ _ _ (.dat _) _ S1 s1 (.bl _) z⟩
/-! in, not in -/
section
variable {X : Cx}
end
/-! is, is not of truths -/
/-! the top's tuples -/
/-! xs[i] = e -/

end
section
variable {P : Program} {w : World} {K : PySem.W.Frag} {mg : Str → Option Value} {base : Heap}
local macro_rules | `(tactic| get_elem_tactic_trivial) => `(tactic| (repeat first | exact Wk.nil | exact Wk'.nil | refine Wk.same ?_ | refine Wk'.same ?_ | refine Wk.un (fun _ z => nomatch z) ?_ | refine Wk'.un ?_))
/-! one sign in a text -/
theorem Sep.same {B : Bs} {C H G : Hp} {σ : L2.St} {ρ : List Sl} (S : Sep K B C H σ ρ) (s : Same H G) : Sep K B C G σ ρ := by
  refine ⟨S.cold.trans s, S.len, fun i t h => ?_, S.ne, S.grow, S.new, fun a h => ?_, fun a o h n => s _ _ (S.keep a o h n), S.loc, S.lob, S.par, S.pz⟩
  · have q := S.sl i t h
    cases t with
    | un => trivial
    | dat d => exact q
    | hot ds =>
      obtain ⟨a, vs, e, h2, r, h3⟩ := q
      exact ⟨a, vs, e, s _ _ h2, r, h3⟩
    | box n =>
      obtain ⟨a, e, b, h3⟩ := q
      exact ⟨a, e, b.same s, h3⟩
  · have q := S.dom a h
    cases e : H a with
    | none => exact absurd e q
    | some o => rw [s _ _ e]; exact fun z => nomatch z
/-! two things alike -/
/-! one operand -/
def wUn (g : Int → V) (wa : WE) : WE := fun ρ Ψ => wa ρ fun r ρ1 => isInt r fun i => match datV (g i) with
  | some d => Ψ (.dat d) ρ1
  | none => False
instance sd_un {g : Int → V} {ta : TE} {wa : WE} [a : Sd K ta wa] : Sd K (tUn (rU g) ta) (wUn g wa) where
  run B C H σ ρ Q Ψ S h k := a.run B C H σ ρ _ _ S h fun C1 H1 v1 r1 ρ1 S1 s1 ok1 h1 => by
    obtain ⟨i, rfl, z⟩ := isInt_run ok1 h1
    cases q : datV (g i) with
    | none => simp only [q] at z
    | some d =>
      simp only [q] at z
      exact ⟨i, rfl, k _ _ _ (.dat d) _ S1 s1 (datV_ok q) z⟩

end
section
variable {P : Program} {w : World} {K : PySem.W.Frag} {mg : Str → Option Value} {base : Heap}
local macro_rules | `(tactic| get_elem_tactic_trivial) => `(tactic| (repeat first | exact Wk.nil | exact Wk'.nil | refine Wk.same ?_ | refine Wk'.same ?_ | refine Wk.un (fun _ z => nomatch z) ?_ | refine Wk'.un ?_))
/-! enumerate of a tuple -/
/-! their data -/

end
section
variable {P : Program} {w : World} {K : PySem.W.Frag} {mg : Str → Option Value} {base : Heap}
local macro_rules | `(tactic| get_elem_tactic_trivial) => `(tactic| (repeat first | exact Wk.nil | exact Wk'.nil | refine Wk.same ?_ | refine Wk'.same ?_ | refine Wk.un (fun _ z => nomatch z) ?_ | refine Wk'.un ?_))
/-! a sign's place in a text; a text cut -/


end
section
variable {P : Program} {w : World} {K : PySem.W.Frag} {mg : Str → Option Value} {base : Heap}
local macro_rules | `(tactic| get_elem_tactic_trivial) => `(tactic| (repeat first | exact Wk.nil | exact Wk'.nil | refine Wk.same ?_ | refine Wk'.same ?_ | refine Wk.un (fun _ z => nomatch z) ?_ | refine Wk'.un ?_))
namespace DSet
section
variable {P : Program} {w : World} {K : Type} [DecidableEq K]
variable {kd : KeyKind P w K} {S : K → Bool} {n : Nat} {a : Addr}
variable {A : Around} {E : Value → Shared → Prop} {s : Shared}
end
end DSet
end
section
variable {P : Program} {w : World} {K : PySem.W.Frag} {mg : Str → Option Value} {base : Heap}
local macro_rules | `(tactic| get_elem_tactic_trivial) => `(tactic| (repeat first | exact Wk.nil | exact Wk'.nil | refine Wk.same ?_ | refine Wk'.same ?_ | refine Wk.un (fun _ z => nomatch z) ?_ | refine Wk'.un ?_))
namespace DSet
section
variable {P : Program} {w : World} {A : Around} {E : Value → Shared → Prop} {s : Shared} {K : Type} [DecidableEq K] {kd : KeyKind P w K}
end
end DSet
end
section
variable {P : Program} {w : World} {K : PySem.W.Frag} {mg : Str → Option Value} {base : Heap}
local macro_rules | `(tactic| get_elem_tactic_trivial) => `(tactic| (repeat first | exact Wk.nil | exact Wk'.nil | refine Wk.same ?_ | refine Wk'.same ?_ | refine Wk.un (fun _ z => nomatch z) ?_ | refine Wk'.un ?_))
namespace DSet
section
variable {P : Program} {w : World} {A : Around} {E : Value → Shared → Prop} {s : Shared}
end
end DSet
end
section
variable {P : Program} {w : World} {K : PySem.W.Frag} {mg : Str → Option Value} {base : Heap}
local macro_rules | `(tactic| get_elem_tactic_trivial) => `(tactic| (repeat first | exact Wk.nil | exact Wk'.nil | refine Wk.same ?_ | refine Wk'.same ?_ | refine Wk.un (fun _ z => nomatch z) ?_ | refine Wk'.un ?_))
namespace DSet
section
variable {P : Program} {w : World} {A : Around} {E : Value → Shared → Prop} {s : Shared}
end
end DSet

end
section
variable {P : Program} {w : World} {K : PySem.W.Frag} {mg : Str → Option Value} {base : Heap}
local macro_rules | `(tactic| get_elem_tactic_trivial) => `(tactic| (repeat first | exact Wk.nil | exact Wk'.nil | refine Wk.same ?_ | refine Wk'.same ?_ | refine Wk.un (fun _ z => nomatch z) ?_ | refine Wk'.un ?_))
/-! sorted(set(xs)) as one thing -/
section
variable {X : Cx} {e : Expr} {te : TE} {p p2 q pos : Pos}
end
/-! sorted of texts -/
/-! any -/
/-! enumerate of a list or a tuple -/

end
section
variable {P : Program} {w : World} {K : PySem.W.Frag} {mg : Str → Option Value} {base : Heap}
local macro_rules | `(tactic| get_elem_tactic_trivial) => `(tactic| (repeat first | exact Wk.nil | exact Wk'.nil | refine Wk.same ?_ | refine Wk'.same ?_ | refine Wk.un (fun _ z => nomatch z) ?_ | refine Wk'.un ?_))
/-! zip of a list or a tuple with a tuple -/

end
section
variable {P : Program} {w : World} {K : PySem.W.Frag} {mg : Str → Option Value} {base : Heap}
local macro_rules | `(tactic| get_elem_tactic_trivial) => `(tactic| (repeat first | exact Wk.nil | exact Wk'.nil | refine Wk.same ?_ | refine Wk'.same ?_ | refine Wk.un (fun _ z => nomatch z) ?_ | refine Wk'.un ?_))
/-! {..}.get(x, y) of two texts with numbers -/

end
section
variable {P : Program} {w : World} {K : PySem.W.Frag} {mg : Str → Option Value} {base : Heap}
local macro_rules | `(tactic| get_elem_tactic_trivial) => `(tactic| (repeat first | exact Wk.nil | exact Wk'.nil | refine Wk.same ?_ | refine Wk'.same ?_ | refine Wk.un (fun _ z => nomatch z) ?_ | refine Wk'.un ?_))
/-! a tuple so many times -/
/-! how often a text is in a list -/

end
section
variable {P : Program} {w : World} {K : PySem.W.Frag} {mg : Str → Option Value} {base : Heap}
local macro_rules | `(tactic| get_elem_tactic_trivial) => `(tactic| (repeat first | exact Wk.nil | exact Wk'.nil | refine Wk.same ?_ | refine Wk'.same ?_ | refine Wk.un (fun _ z => nomatch z) ?_ | refine Wk'.un ?_))
/-! calls that leave numbers out -/

end
section
variable {P : Program} {w : World} {K : PySem.W.Frag} {mg : Str → Option Value} {base : Heap}
local macro_rules | `(tactic| get_elem_tactic_trivial) => `(tactic| (repeat first | exact Wk.nil | exact Wk'.nil | refine Wk.same ?_ | refine Wk'.same ?_ | refine Wk.un (fun _ z => nomatch z) ?_ | refine Wk'.un ?_))
/-! upper, str of a number, < of numbers or texts -/
def cStrI : List V → Hp → VK → Prop := fun xs H Q => ∃ i : Int, xs = [.int i] ∧ i.natAbs.log2 < 1920 ∧ Q (.str (toString i)) H
def fStrI : Dt → (Dt → Prop) → Prop
  | .int i, Φ => i.natAbs.log2 < 1920 ∧ Φ (.str (toString i))
  | _, _ => False
instance sb_strI : Sb1 K cStrI fStrI where
  run B C H σ ρ v d Q Φ S hv h k := by
    cases d <;> try exact False.elim h
    cases hv.int
    exact ⟨_, rfl, h.1, k _ _ _ _ S (Same.refl _) (.str _) h.2⟩
/-! a pair taken apart, its second a new list that stays changeable -/

end
section
variable {P : Program} {w : World} {K : PySem.W.Frag} {mg : Str → Option Value} {base : Heap}
local macro_rules | `(tactic| get_elem_tactic_trivial) => `(tactic| (repeat first | exact Wk.nil | exact Wk'.nil | refine Wk.same ?_ | refine Wk'.same ?_ | refine Wk.un (fun _ z => nomatch z) ?_ | refine Wk'.un ?_))
/-! pop(i), insert(i, x) of a list that may be changed -/
/-! a new drawer given to a def at once -/

end
section
variable {P : Program} {w : World} {K : PySem.W.Frag} {mg : Str → Option Value} {base : Heap}
local macro_rules | `(tactic| get_elem_tactic_trivial) => `(tactic| (repeat first | exact Wk.nil | exact Wk'.nil | refine Wk.same ?_ | refine Wk'.same ?_ | refine Wk.un (fun _ z => nomatch z) ?_ | refine Wk'.un ?_))
/-! split, str of a text or a number, (*xs, y) -/
theorem ArL.app {C : Hp} {σ : L2.St} : ∀ {vs us : List V} {as bs : List Ar}, ArL K C σ vs as → ArL K C σ us bs → ArL K C σ (vs ++ us) (as ++ bs)
  | _, _, _, _, .nil, h => h
  | _, _, _, _, .cons a t, h => .cons a (ArL.app t h)
/-! a thing that is only read: lists stay changeable -/
def coolS : Sl → Sl
  | .hot ds => .dat (.lst ds)
  | .box _ => .un
  | s => s
theorem Sep.cooled {B : Bs} {C H : Hp} {σ : L2.St} {ρ : List Sl} (S : Sep K B C H σ ρ) : Sep K ⟨H, H, none⟩ H H σ (ρ.map coolS) := by
  have old : ∀ {i : Nat} {s : Sl}, (ρ.map coolS)[i]? = some s → ∃ t, ρ[i]? = some t ∧ s = coolS t := fun {i s} h => by
    rw [List.getElem?_map] at h
    obtain ⟨t, ht, e⟩ := Option.map_eq_some_iff.mp h
    exact ⟨t, ht, e.symm⟩
  have nm : ∀ {i : Nat} {s : Sl}, (ρ.map coolS)[i]? = some s → s.mut = true → False := fun {i s} h m => by
    obtain ⟨t, _, rfl⟩ := old h
    cases t <;> cases m
  refine ⟨Same.refl _, by rw [List.length_map]; exact S.len, fun i s h => ?_, fun i j a s t n h1 h2 m1 m2 e1 e2 => (nm h1 m1).elim, Same.refl _, fun a o e n => (by rw [show H a = none from n] at e; cases e), fun a h => h, fun a o h n => h, fun i a ds h e => ?_, fun i a n h e => ?_, fun i a h => (nomatch h), fun i a h => (nomatch h)⟩
  · obtain ⟨t, ht, rfl⟩ := old h
    have z := S.sl i t ht
    cases t with
    | un => trivial
    | dat d =>
      obtain ⟨v, e, r⟩ := z
      exact ⟨v, e, r.same S.cold⟩
    | hot ds =>
      obtain ⟨a, vs, e, ha, r, _⟩ := z
      exact ⟨.ref a, e, .lst ha (r.same S.cold)⟩
    | box n => trivial
  · exact (nm h rfl).elim
  · exact (nm h rfl).elim

end
section
variable {P : Program} {w : World} {K : PySem.W.Frag} {mg : Str → Option Value} {base : Heap}
local macro_rules | `(tactic| get_elem_tactic_trivial) => `(tactic| (repeat first | exact Wk.nil | exact Wk'.nil | refine Wk.same ?_ | refine Wk'.same ?_ | refine Wk.un (fun _ z => nomatch z) ?_ | refine Wk'.un ?_))
/-! while -/
def wWhile (wc : WT) (wb : WS) : WS := fun ρ Φ => ∃ I : Nat → List Sl → Prop, (∃ m, To (I m) ρ) ∧ ∀ m ρ, I m ρ → wc ρ fun b ρ1 => if b = true then wb ρ1 { Φ with nx := fun ρ' => ∃ m', m' < m ∧ To (I m') ρ', ct := fun ρ' => ∃ m', m' < m ∧ To (I m') ρ', bk := Φ.nx } else Φ.nx ρ1
instance ss_while {tc : TT} {tb : TS} {wc : WT} {wb : WS} [c : Sc K tc wc] [b : Ss K tb wb] : Ss K (tWhile tc tb) (wWhile wc wb) where
  run B C H σ ρ D Φ S h m := by
    obtain ⟨I, ⟨m0, ρ0, w0, i0⟩, turn⟩ := h
    refine ⟨fun n σ2 H2 => ∃ C2 ρ2, Sep K B C2 H2 σ2 ρ2 ∧ I n ρ2, ⟨m0, C, ρ0, S.weak w0, i0⟩, ?_⟩
    rintro n σ2 H2 ⟨C2, ρ2, S2, hI⟩
    refine c.run B C2 H2 σ2 ρ2 _ _ S2 (turn n ρ2 hI) fun C3 H3 b3 ρ3 S3 s3 h3 => ?_
    cases b3 with
    | false => exact m.nx _ _ _ _ S3 h3
    | true =>
      refine ⟨fun σ' H' => ∃ m', m' < n ∧ ∃ C4 ρ4, Sep K B C4 H' σ' ρ4 ∧ I m' ρ4, fun σ' H' z => z, b.run B C3 H3 σ2 ρ3 _ _ S3 h3 ⟨fun C4 H4 σ4 ρ4 S4 z => ?_, m.rt, fun C4 H4 σ4 ρ4 S4 z => m.nx _ _ _ _ S4 z, fun C4 H4 σ4 ρ4 S4 z => ?_⟩⟩
      · obtain ⟨m', lt, ρ5, w5, i5⟩ := z
        exact ⟨m', lt, C4, ρ5, S4.weak w5, i5⟩
      · obtain ⟨m', lt, ρ5, w5, i5⟩ := z
        exact ⟨m', lt, C4, ρ5, S4.weak w5, i5⟩

end
section
variable {P : Program} {w : World} {K : PySem.W.Frag} {mg : Str → Option Value} {base : Heap}
local macro_rules | `(tactic| get_elem_tactic_trivial) => `(tactic| (repeat first | exact Wk.nil | exact Wk'.nil | refine Wk.same ?_ | refine Wk'.same ?_ | refine Wk.un (fun _ z => nomatch z) ?_ | refine Wk'.un ?_))
/-! things of a class, read: e.f and e.m(..) -/
structure FldOk (K : PySem.W.Frag) (c f : Str) : Prop where
  cls : Cls K (He.ga K c)
  no : NoAttr K (He.ga K c) f
def wFld (K : PySem.W.Frag) (w : WE) (f : Str) : WE := fun ρ Ψ => w ρ fun r ρ1 => match r with
  | .dat (.obj c ns ds) => ∃ (i : Nat) (d : Dt), (ns.zip (List.range ns.length)).lookup f = some i ∧ ds[i]? = some d ∧ FldOk K c f ∧ Ψ (.dat d) ρ1
  | _ => False
theorem zip_look {α : Type} {f : Str} : ∀ {ns : List Str} {vs : List α} {k i : Nat} {v : α}, (ns.zip ((List.range ns.length).map (k + ·))).lookup f = some i → vs[i - k]? = some v → ns.length = vs.length → (ns.zip vs).lookup f = some v ∧ k ≤ i
  | [], vs, k, i, v, h, _, _ => by simp at h
  | n :: ns, [], k, i, v, _, _, l => by simp at l
  | n :: ns, u :: vs, k, i, v, h, hv, l => by
    rw [List.length_cons, List.range_succ_eq_map, List.map_cons, List.zip_cons_cons, List.lookup_cons] at h
    rw [List.zip_cons_cons, List.lookup_cons]
    by_cases e : f == n
    · rw [e] at h ⊢
      cases h
      rw [Nat.add_zero, Nat.sub_self] at hv
      cases hv
      exact ⟨rfl, Nat.le_add_right _ _⟩
    · rw [Bool.not_eq_true] at e
      rw [e] at h ⊢
      rw [List.map_map] at h
      have h2 : (ns.zip ((List.range ns.length).map (k + 1 + ·))).lookup f = some i := by
        have e2 : ((k + ·) ∘ Nat.succ) = (k + 1 + ·) := by
          funext x
          show k + (x + 1) = k + 1 + x
          omega
        rw [← e2]
        exact h
      have lt : k + 1 ≤ i := by
        obtain ⟨_, hm⟩ : ∃ j, i = k + 1 + j := by
          have : ∀ {xs : List Str} {ys : List Nat}, (xs.zip ys).lookup f = some i → i ∈ ys := fun {xs ys} z => by
            induction xs generalizing ys with
            | nil => simp at z
            | cons x xs ih =>
              cases ys with
              | nil => simp at z
              | cons y ys =>
                rw [List.zip_cons_cons, List.lookup_cons] at z
                split at z
                · cases z
                  exact List.mem_cons_self ..
                · exact List.mem_cons_of_mem _ (ih z)
          obtain ⟨j, _, rfl⟩ := List.mem_map.mp (this h2)
          exact ⟨j, rfl⟩
        omega
      have hv2 : vs[i - (k + 1)]? = some v := by
        rw [show i - k = (i - (k + 1)) + 1 by omega] at hv
        exact hv
      have z := zip_look (k := k + 1) h2 hv2 (by simpa using l)
      exact ⟨z.1, by omega⟩
theorem zip_look0 {α : Type} {f : Str} {ns : List Str} {vs : List α} {i : Nat} {v : α} (h : (ns.zip (List.range ns.length)).lookup f = some i) (hv : vs[i]? = some v) (l : ns.length = vs.length) : (ns.zip vs).lookup f = some v := by
  refine (zip_look (k := 0) (i := i) ?_ hv l).1
  have e : (fun x : Nat => 0 + x) = id := by funext x; exact Nat.zero_add x
  rw [e, List.map_id]
  exact h
instance sd_fld {ta : TE} {f : Str} {wa : WE} [a : Sd K ta wa] : Sd K (tFld K ta f) (wFld K wa f) where
  run B C H σ ρ Q Ψ S h k := a.run B C H σ ρ _ _ S h fun C1 H1 v1 r1 ρ1 S1 s1 ok1 h1 => by
    cases r1 with
    | hot i ds => exact False.elim h1
    | box i n => exact False.elim h1
    | dat x =>
      cases x <;> try exact False.elim h1
      rename_i c ns ds
      obtain ⟨i, d, hi, hd, fo, h1⟩ := h1
      cases ok1 with
      | @obj _ x dx _ vs _ hx hdx hl rl =>
        obtain ⟨v, hv, rv⟩ := rl.at' hd
        exact ⟨x, _, dx, _, v, rfl, S1.cold _ _ hx, fo.cls, fo.no, zip_look0 hi hv hl, k _ _ _ (.dat d) _ S1 s1 rv h1⟩
theorem zip_none {α β : Type} {m : Str} : ∀ {ns : List Str} {vs : List α} {us : List β}, (ns.zip us).lookup m = none → ns.length = us.length → (ns.zip vs).lookup m = none
  | [], _, _, _, _ => by simp
  | n :: ns, [], _, _, _ => by simp
  | n :: ns, v :: vs, [], _, l => by simp at l
  | n :: ns, v :: vs, u :: us, h, l => by
    rw [List.zip_cons_cons, List.lookup_cons] at h ⊢
    split at h
    · cases h
    · exact zip_none (us := us) h (by simpa using l)
def wMeth (K : PySem.W.Frag) (C : Addr) (m : Str) (n : Nat) (wf : WF) (dd : List Dt) (wa : WE) (wt : WA) : WE := fun ρ Ψ => wa ρ fun r ρ1 => match r with
  | .dat (.obj c ns ds) => (He.ga K c = C ∧ (ns.zip (List.range ns.length)).lookup m = none) ∧ wt ρ1 fun as ρ2 => (as.length + 1 + dd.length = n) ∧ callW wf (.d (.obj c ns ds) :: as) dd ρ2 fun r ρ3 => Ψ (.dat r.val) ρ3
  | _ => False
instance sd_meth {Cl : Addr} {mm : Str} {n : Nat} {wf : WF} {dvs : List V} {dd : List Dt} {E : XK} {ta : TE} {tt : TA} {wa : WE} {wt : WA} [v : Dv dvs dd] [a : Sd K ta wa] [b : Sa K tt wt] : Sd K (tMeth Cl mm (spD K n wf) dvs E ta tt) (wMeth K Cl mm n wf dd wa wt) where
  run B C H σ ρ Q Ψ S h k := a.run B C H σ ρ _ _ S h fun C1 H1 v1 r1 ρ1 S1 s1 ok1 h1 => by
    cases r1 with
    | hot i ds => exact False.elim h1
    | box i n => exact False.elim h1
    | dat x =>
      cases x <;> try exact False.elim h1
      rename_i c ns ds
      obtain ⟨⟨ec, el⟩, h1⟩ := h1
      have ok0 : Rp K C1 v1 (.obj c ns ds) := ok1
      cases ok1 with
      | @obj _ x dx _ vs _ hx hdx hl rl =>
        refine ⟨x, dx, _, rfl, by rw [← ec]; exact S1.cold _ _ hx, zip_none el (by rw [List.length_range]), ?_⟩
        refine b.run B C1 H1 σ ρ1 _ _ S1 h1 fun C2 H2 us as ρ2 S2 s2 ok2 h2 => ?_
        have ar : ArL K C2 σ (.ref x :: us) (.d (.obj c ns ds) :: as) := .cons (ok0.same s2) ok2
        refine S2.calls ar (v.run K C2) (by rw [List.length_cons]; exact h2.1) h2.2 fun C' G v r ρ' S' s' q z => ?_
        cases r with
        | dat d => exact k _ _ _ (.dat d) _ S' (s1.trans (s2.trans s')) q z
        | new ds =>
          obtain ⟨b, rfl, f⟩ := q
          obtain ⟨C3, S3, s3, r3⟩ := f.cool S'
          exact k _ _ _ (.dat (.lst ds)) _ S3 (s1.trans (s2.trans (s'.trans s3))) r3 z
/-! C(.., k=..): a thing made, its fields as given -/

end
section
variable {P : Program} {w : World} {K : PySem.W.Frag} {mg : Str → Option Value} {base : Heap}
local macro_rules | `(tactic| get_elem_tactic_trivial) => `(tactic| (repeat first | exact Wk.nil | exact Wk'.nil | refine Wk.same ?_ | refine Wk'.same ?_ | refine Wk.un (fun _ z => nomatch z) ?_ | refine Wk'.un ?_))
/-! [e for x in it if t for y in it2 if u] -/

end
section
variable {P : Program} {w : World} {K : PySem.W.Frag} {mg : Str → Option Value} {base : Heap}
local macro_rules | `(tactic| get_elem_tactic_trivial) => `(tactic| (repeat first | exact Wk.nil | exact Wk'.nil | refine Wk.same ?_ | refine Wk'.same ?_ | refine Wk.un (fun _ z => nomatch z) ?_ | refine Wk'.un ?_))
/-! t.index(x) of a module's tuple of texts; [..].index(x) -/
/-! o.m(k=..) -/
def wMethKw (K : PySem.W.Frag) (C : Addr) (m : Str) (n k np : Nat) (wf : WF) (wa : WE) (wt wk : WA) : WE := fun ρ Ψ => wa ρ fun r ρ1 => match r with
  | .dat (.obj c ns ds) => (He.ga K c = C ∧ (ns.zip (List.range ns.length)).lookup m = none) ∧ wt ρ1 fun as ρ2 => wk ρ2 fun bs ρ3 => (as.length = n ∧ bs.length = k ∧ 1 + n + k = np) ∧ callW wf (.d (.obj c ns ds) :: (as ++ bs)) [] ρ3 fun r ρ4 => Ψ (.dat r.val) ρ4
  | _ => False
instance sd_methKw {Cl : Addr} {mm : Str} {n k np : Nat} {wf : WF} {E : XK} {ta : TE} {tt tk : TA} {wa : WE} {wt wk : WA} [a : Sd K ta wa] [b : Sa K tt wt] [c : Sa K tk wk] : Sd K (tMethKw Cl mm n k (spD K np wf) (fun vs zs => vs ++ zs) E ta tt tk) (wMethKw K Cl mm n k np wf wa wt wk) where
  run B C H σ ρ Q Ψ S h kk := a.run B C H σ ρ _ _ S h fun C1 H1 v1 r1 ρ1 S1 s1 ok1 h1 => by
    cases r1 with
    | hot i ds => exact False.elim h1
    | box i n => exact False.elim h1
    | dat x =>
      cases x <;> try exact False.elim h1
      rename_i c' ns ds
      obtain ⟨⟨ec, el⟩, h1⟩ := h1
      have ok0 : Rp K C1 v1 (.obj c' ns ds) := ok1
      cases ok1 with
      | @obj _ x dx _ vs _ hx hdx hl rl =>
        refine ⟨x, dx, _, rfl, by rw [← ec]; exact S1.cold _ _ hx, zip_none el (by rw [List.length_range]), ?_⟩
        refine b.run B C1 H1 σ ρ1 _ _ S1 h1 fun C2 H2 us as ρ2 S2 s2 ok2 h2 => ?_
        refine c.run B C2 H2 σ ρ2 _ _ S2 h2 fun C3 H3 zs bs ρ3 S3 s3 ok3 h3 => ?_
        obtain ⟨⟨l1, l2, l3⟩, h3⟩ := h3
        have ok2' : ArL K C3 σ us as := ArL.same s3 ok2
        have ar : ArL K C3 σ (.ref x :: (us ++ zs)) (.d (.obj c' ns ds) :: (as ++ bs)) := .cons ((ok0.same s2).same s3) (ok2'.app ok3)
        refine ⟨by rw [ok2.len]; exact l1, by rw [ok3.len]; exact l2, ?_⟩
        have key : spD K np wf ((.ref x :: (us ++ zs)) ++ []) H3 Q E := S3.calls ar RpL.nil (by rw [List.length_cons, List.length_append]; show as.length + bs.length + 1 + 0 = np; omega) h3 fun C' G v r ρ' S' s' q z => ?_
        · rw [List.append_nil] at key
          exact key
        cases r with
        | dat d => exact kk _ _ _ (.dat d) _ S' (s1.trans (s2.trans (s3.trans s'))) q z
        | new ds =>
          obtain ⟨b, rfl, f⟩ := q
          obtain ⟨C4, S4, s4, r4⟩ := f.cool S'
          exact kk _ _ _ (.dat (.lst ds)) _ S4 (s1.trans (s2.trans (s3.trans (s'.trans s4)))) r4 z

end
section
variable {P : Program} {w : World} {K : PySem.W.Frag} {mg : Str → Option Value} {base : Heap}
local macro_rules | `(tactic| get_elem_tactic_trivial) => `(tactic| (repeat first | exact Wk.nil | exact Wk'.nil | refine Wk.same ?_ | refine Wk'.same ?_ | refine Wk.un (fun _ z => nomatch z) ?_ | refine Wk'.un ?_))
/-! a call that moves the drawer alone and tells a datum without lists: lists stay changeable -/
open Classical in
open Classical in
section
variable {B : Bs} {C H : Hp} {σ : L2.St} {ρ : List Sl}
end

end
section
variable {P : Program} {w : World} {K : PySem.W.Frag} {mg : Str → Option Value} {base : Heap}
local macro_rules | `(tactic| get_elem_tactic_trivial) => `(tactic| (repeat first | exact Wk.nil | exact Wk'.nil | refine Wk.same ?_ | refine Wk'.same ?_ | refine Wk.un (fun _ z => nomatch z) ?_ | refine Wk'.un ?_))

end
section
variable {P : Program} {w : World} {K : PySem.W.Frag} {mg : Str → Option Value} {base : Heap}
local macro_rules | `(tactic| get_elem_tactic_trivial) => `(tactic| (repeat first | exact Wk.nil | exact Wk'.nil | refine Wk.same ?_ | refine Wk'.same ?_ | refine Wk.un (fun _ z => nomatch z) ?_ | refine Wk'.un ?_))
/-! errors of the program's own as values -/
theorem oexB_ok {K : PySem.W.Frag} {C : Addr} (h : oexB K C = true) : ∃ nm q N bs bm sn sub ab col dd k0 k1 k2 k3 k5, K.lookup C = some (excClassObj nm q C N bs bm true sn sub ab col dd k0 k1 k2 k3 k5 "ValueError.__new__") ∧ PySem.HandSPX.refsVE bm = true := by
  unfold oexB at h
  split at h
  · next dd cd sl lk =>
    split at h
    · next D bm k0 k1 k2 k3 n k5 hm hs =>
      obtain ⟨h1, h⟩ := He.ba h
      obtain ⟨h2, h⟩ := He.ba h
      obtain ⟨h3, h⟩ := He.ba h
      obtain ⟨h4, h5⟩ := He.ba h
      have e1 : D = C := beq_iff_eq.mp h1
      have e2 : n = "ValueError.__new__" := beq_iff_eq.mp h2
      obtain ⟨nm, bs, mro, ns, qn, hd, sn, sub, ab, col, del⟩ := cd
      dsimp only at hm h3 h4
      have e3 : del = false := by cases del <;> simp_all
      obtain ⟨l⟩ := sl
      have e4 : l = [k0, k1, k2, k3, some (.builtin n), k5] := hs
      subst e1 e2 e3 e4 hm h4
      exact ⟨nm, qn, ns, bs, bm, sn, sub, ab, col, dd, k0, k1, k2, k3, k5, lk, h5⟩
    · cases h
  · cases h
/-- what the written part says of an error's class -/
structure ECl (K : PySem.W.Frag) (C fI : Addr) : Prop where
  ox : OexC K C
  ga : PySem.W.findIn K (.ref C) "__getattribute__" = some (some (.builtin "BaseException.__getattribute__"))
  gg : PySem.W.findIn K (.ref C) "__getattr__" = some none
  hd : PySem.W.hasDictIn K C = true
  cl : PySem.W.findIn K (.ref C) "__class__" = some (some (.builtin "object.__class__"))
  sp : PySem.W.specialIn K (.builtin "object.__class__") "__get__" = some (some (.builtin "getset_descriptor.__get__"))
  tk : PySem.W.takesIn K (.builtin "object.__class__") = some true
  mo : PySem.W.mroIn K C (.type "object") = some true
  wh : PySem.W.findIn K (.ref C) "what" = some none
  ini : PySem.W.findIn K (.ref C) "__init__" = some (some (.ref fI))
  fty : PySem.W.typeIn K (.ref fI) = some (.type "function")
theorem eclB_ok {K : PySem.W.Frag} {C fI : Addr} (h : eclB K C fI = true) : ECl K C fI := by
  obtain ⟨h1, h⟩ := He.ba h
  obtain ⟨h2, h⟩ := He.ba h
  obtain ⟨h3, h⟩ := He.ba h
  obtain ⟨h4, h⟩ := He.ba h
  obtain ⟨h5, h⟩ := He.ba h
  obtain ⟨h6, h⟩ := He.ba h
  obtain ⟨h7, h⟩ := He.ba h
  obtain ⟨h8, h⟩ := He.ba h
  obtain ⟨h9, h⟩ := He.ba h
  obtain ⟨h10, h⟩ := He.ba h
  obtain ⟨h11, h⟩ := He.ba h
  obtain ⟨h12, h⟩ := He.ba h
  obtain ⟨h13, h⟩ := He.ba h
  obtain ⟨h14, h15⟩ := He.ba h
  exact ⟨⟨oexB_ok h1, He.eqO_ok h2, of_decide_eq_true h3, of_decide_eq_true h4, h5⟩, He.eqO_ok h6, He.eqO_ok h7, h8, He.eqO_ok h9, He.eqO_ok h10, of_decide_eq_true h11, of_decide_eq_true h12, He.eqO_ok h13, He.eqO_ok h14, of_decide_eq_true h15⟩
theorem err_cl {K : PySem.W.Frag} {root : Str} {cs : List Str} (h : errOk K root cs = true) {c : Str} (hc : c ∈ cs) : ECl K (He.ga K c) (He.ma K (He.ga K root) "__init__") :=
  eclB_ok (He.ba (List.all_eq_true.mp h c hc)).1
theorem err_ve {K : PySem.W.Frag} {root : Str} {cs : List Str} (h : errOk K root cs = true) {c : Str} (hc : c ∈ cs) : PySem.W.kitOne K (.ref (He.ga K c)) (.type "ValueError") = some true :=
  of_decide_eq_true (He.ba (He.ba (List.all_eq_true.mp h c hc)).2).1
theorem err_is {K : PySem.W.Frag} {root : Str} {cs : List Str} (h : errOk K root cs = true) {c e : Str} (hc : c ∈ cs) (he : e ∈ cs) : PySem.W.kitOne K (.ref (He.ga K c)) (.ref (He.ga K e)) = some (decide (e = c) || decide (e = root)) :=
  of_decide_eq_true (He.ba (List.all_eq_true.mp (He.ba (He.ba (List.all_eq_true.mp h c hc)).2).2 e he)).1
/-- an error of class c, in the clause of class e -/
theorem err_ex {K : PySem.W.Frag} {root : Str} {cs : List Str} (h : errOk K root cs = true) {c e : Str} (hc : c ∈ cs) (he : e ∈ cs) : PySem.W.exmOne K (.ref (He.ga K c)) (.ref (He.ga K e)) = some (decide (e = c) || decide (e = root)) :=
  PySem.W.exm_ref (err_cl h he).ox.exC (err_cl h he).hd (err_cl h he).ox.tyC (of_decide_eq_true (He.ba (List.all_eq_true.mp (He.ba (He.ba (List.all_eq_true.mp h c hc)).2).2 e he)).2)
end
section
variable {P : Program} {w : World} {K : PySem.W.Frag} {mg : Str → Option Value} {base : Heap}
local macro_rules | `(tactic| get_elem_tactic_trivial) => `(tactic| (repeat first | exact Wk.nil | exact Wk'.nil | refine Wk.same ?_ | refine Wk'.same ?_ | refine Wk.un (fun _ z => nomatch z) ?_ | refine Wk'.un ?_))
open PySem.W PySem.Calls PySem.HandSPX
section
variable {M : Model} {A : Around} {E : Value → Shared → Prop} {h : Heap} {g : Array GenState} {d : Drawn} {t : Nat} {os : OsState}
variable {nm q : Str} {C N : Addr} {bs bm : List Value} {hdct : Bool} {sn : List Str} {sub : List Value} {ab : Bool} {col : Option Bool} {dd : Option Addr} {k0 k1 k2 k3 k5 : Option Value}
end
section
variable {prog : Program} {w : World} {A : Around} {E : Value → Shared → Prop} {R : Result → Shared → Prop} {h : Heap} {g : Array GenState} {d : Drawn} {t : Nat} {os : OsState}
variable {nm q : Str} {C N : Addr} {bs bm : List Value} {hdct : Bool} {sn : List Str} {sub : List Value} {ab : Bool} {col : Option Bool} {dd : Option Addr} {k0 k1 k2 k3 k5 : Option Value}
end
/-! C(e) and C(what=e) as values -/
def spInitE (K : PySem.W.Frag) : Sp := fun vs H Q _ => ∃ (a C fI : Addr) (v : V), vs = [.ref a, v] ∧ H a = some (exo a C none) ∧ ECl K C fI ∧ ∀ d, H d = none → d ≠ a → Q .non (upd (upd H d (exd d [(("what" : Str), v)])) a (exo a C (some d)))
section
variable {X : Cx} {x : Str} {C fI : Addr} {k : Nat} {fd : FuncData} {p pos : Pos}
end

end
section
variable {P : Program} {w : World} {K : PySem.W.Frag} {mg : Str → Option Value} {base : Heap}
local macro_rules | `(tactic| get_elem_tactic_trivial) => `(tactic| (repeat first | exact Wk.nil | exact Wk'.nil | refine Wk.same ?_ | refine Wk'.same ?_ | refine Wk.un (fun _ z => nomatch z) ?_ | refine Wk'.un ?_))
/-! an error that is caught and kept behind its suite -/
theorem exv_ok {P : Program} {w : World} {H : Hp} {h : Heap} {a : Addr} {cls : Value} {d : Option Addr} {oe : Obj} {vs : Array Value} (e : h.get? a = some oe) (z : Zc cls d oe) (q : oe.data = .fields vs) : ObjOk P w H h a (exv a cls d) :=
  ⟨⟨oe, vs, e, z, q⟩, ⟨oe, e⟩, fun _ _ ⟨o, v, q, r⟩ k => ⟨o, v, k o q, r⟩⟩
theorem exv_at {P : Program} {w : World} {H : Hp} {h : Heap} {a : Addr} {cls : Value} {d : Option Addr} (hok : HOk P w H h) (he : H a = some (exv a cls d)) : ∃ (oe : Obj) (vs : Array Value), h.get? a = some oe ∧ Zc cls d oe ∧ oe.data = .fields vs := by
  have x : ObjOk P w H h a (.ext fun h => ∃ (oe : Obj) (vs : Array Value), h.get? a = some oe ∧ Zc cls d oe ∧ oe.data = .fields vs) := hok a _ he
  exact x.1
/-- an object that stands untracked, and that stood nowhere at the entry, is tracked from here on -/
theorem inv_track {X : Cx} {pins : List (Addr × Obj)} {σ : L2.St} {H : Hp} {s : Shared} {a : Addr} {o : HO} (I : Inv X pins σ H s) (na : H a = none) (new : ObjOk X.prog X.w (upd H a o) s.heap a o) (n0 : X.s_0.heap.get? a = none) (np : ∀ p ∈ X.pn ++ pins, p.1 ≠ a) (nL : a ≠ X.env.locals)
    (nC : ∀ x c, X.env.cells.lookup x = some c → c ≠ a) : Inv X pins σ (upd H a o) s := by
  have ne0 : ∀ b u, X.s_0.heap.get? b = some u → b ≠ a := fun b u e z => by
    rw [z, n0] at e
    cases e
  refine ⟨I.ok, I.os, I.bare, ⟨I.base.keep, I.base.slot, fun b u e n hx => ?_, I.base.there, fun b xs e => ?_, fun b u v e => ?_, fun b ps e => ?_⟩, I.loc, I.cell, ?_, fun x c e => ?_, fun p hp => ?_, fun b u e => ?_, I.len⟩
  · rw [upd_ne (ne0 b u e)]
    exact I.base.free b u e n hx
  · have q := I.base.tups b xs e
    rw [upd_ne (ne_of_none q na)]
    exact q
  · have q := I.base.frzs b u v e
    rw [upd_ne (ne_of_none q na)]
    exact q
  · obtain ⟨m, q⟩ := I.base.tbls b ps e
    exact ⟨m, by rw [upd_ne (ne_of_none q na)]; exact q⟩
  · rw [upd_ne (Ne.symm nL)]
    exact I.free
  · rw [upd_ne (nC x c e)]
    exact I.freeC x c e
  · obtain ⟨e, n, ne, nf, d⟩ := I.pin p hp
    exact ⟨e, by rw [upd_ne (np p hp)]; exact n, ne, nf, d⟩
  · by_cases hb : b = a
    · subst hb
      rw [upd_same] at e
      cases e
      exact new
    · rw [upd_ne hb] at e
      exact (I.hok b u e).stay (fun _ _ _ q => q) (fun c q => by rw [upd_ne (ne_of_none q na)]; exact q) fun c xs q => by rw [upd_ne (ne_of_none q na)]; exact q
/-- a stands nowhere at the entry, is no pin and no cell -/
structure NewAt (X : Cx) (pq : List (Addr × Obj)) (a : Addr) : Prop where
  n0 : X.s_0.heap.get? a = none
  np : ∀ p ∈ X.pn ++ pq, p.1 ≠ a
  nc : ∀ y k, X.env.cells.lookup y = some k → k ≠ a
  nl : a ≠ X.env.locals
  nf : a ∉ X.fs
theorem newAt_of {X : Cx} {pq : List (Addr × Obj)} {r : L2.St} {G : Hp} {t : Shared} {B h : Heap} {a : Addr} {Z : Obj → Prop} (hx : X.ex = []) (hs : X.stack = X.env :: X.outer) (hf : X.env.frame = some X.env.locals) (J : Inv X pq r G t)
    (gr : ∀ b o, t.heap.get? b = some o → b ∉ frs X.stack → B.get? b = some o) (fl : HandSPX.FlyingZ B (X.env :: X.outer) a Z h) : NewAt X pq a := by
  obtain ⟨oe, vs, he, _, hd⟩ := fl.there
  have out : a ∉ frs (X.env :: X.outer) := fun hm => by
    obtain ⟨_, o', e', z⟩ := fl.2.2.1.mem hm
    rw [he] at e'
    cases e'
    exact z _ hd
  have nI : t.heap.get? a = none := by
    cases e : t.heap.get? a with
    | none => rfl
    | some o =>
      have z := gr a o e (by rw [hs]; exact out)
      rw [fl.2.1] at z
      cases z
  refine ⟨?_, fun p hp z => ?_, fun y k e z => ?_, fun z => out ?_, fun hm => out ?_⟩
  · cases e : X.s_0.heap.get? a with
    | none => rfl
    | some o =>
      obtain ⟨o', z⟩ := J.base.there a o e (by rw [hx]; exact fun z => nomatch z)
      rw [nI] at z
      cases z
  · have e := (J.pin p hp).1
    rw [z, nI] at e
    cases e
  · obtain ⟨v, o, ho, _⟩ := J.cell y k e
    rw [z, nI] at ho
    cases ho
  · exact List.mem_filterMap.mpr ⟨X.env, List.mem_cons_self, by rw [hf, z]⟩
  · obtain ⟨e, he, q⟩ := List.mem_filterMap.mp hm
    exact List.mem_filterMap.mpr ⟨e, List.mem_cons_of_mem _ he, q⟩
end
section
variable {P : Program} {w : World} {K : PySem.W.Frag} {mg : Str → Option Value} {base : Heap}
local macro_rules | `(tactic| get_elem_tactic_trivial) => `(tactic| (repeat first | exact Wk.nil | exact Wk'.nil | refine Wk.same ?_ | refine Wk'.same ?_ | refine Wk.un (fun _ z => nomatch z) ?_ | refine Wk'.un ?_))
section
variable {X : Cx} {x n : Str} {c : Value} {i : Nat} {body rest : List Stmt} {b1 : Stmt} {np at1 at2 : Pos} {tb : WX → TS} {ts : Addr → Value → Option Addr → TS} {Wo : WX}
/-- what the suite is asked for, where the error at a is tracked behind it -/
def keepD (D : Ends) (i : Nat) (a : Addr) (cls : Value) (d : Option Addr) : Ends := { nx := fun r G => D.nx (r.set i none) (upd G a (exv a cls d)), rt := fun v G => D.rt v (upd G a (exv a cls d)), bk := fun r G => D.bk (r.set i none) (upd G a (exv a cls d)), ct := fun r G => D.ct (r.set i none) (upd G a (exv a cls d)) }
/-- what 'except x as n' asks of the body's error -/
def kpX (K : PySem.W.Frag) (c : Value) (i : Nat) (ts : Addr → Value → Option Addr → TS) (Wo : WX) (D : Ends) : WX := fun cls d r G =>
  ∃ b, PySem.W.exmOne K cls c = some b ∧ (b = true → ∀ a, G a = none → ts a cls d (keepD D i a cls d) (r.set i (some (.ref a))) G) ∧ (b = false → Wo cls d r G)
/-- the suite's end: the name goes, the error stays, tracked -/
theorem keep_end {pq : List (Addr × Obj)} {t : Shared} {D : Ends} {a : Addr} {oe : Obj} {vs : Array Value} {cls : Value} {d : Option Addr} {f : Flow} (ok : X.Ok) (nw : NewAt X pq a) (hz : Zc cls d oe) (hd : oe.data = .fields vs) (hN : X.N.Nodup) (hi : X.N[i]? = some n) (hl : X.env.kindOf n = some .local)
    (S : SP (X.suite a ((a, oe) :: (X.pn ++ pq))) [] (keepD D i a cls d) f t) :
    wpAny (model X.prog X.w) X.A (do bindName X.env n .none; unbindBehindTheSuite X.env n at2) (fun _ t2 => SP X pq D f t2) X.xe t := by
  have go : ∀ {r : L2.St} {G : Hp}, Inv (X.suite a ((a, oe) :: (X.pn ++ pq))) [] r G t → Inv X pq r (upd G a (exv a cls d)) t := fun {r G} S => by
    obtain ⟨e, z, _⟩ := S.pin (a, oe) (List.mem_append_left _ List.mem_cons_self)
    exact inv_track (S.unsuite ok) z (exv_ok e hz hd) nw.n0 nw.np nw.nl nw.nc
  cases f with
  | ret u =>
    obtain ⟨v, r, G, S, rv, q⟩ := S
    exact gone_ok (go S) hN hi hl fun t2 J => ⟨_, _, _, J, rv, q⟩
  | next =>
    obtain ⟨r, G, S, q⟩ := S
    exact gone_ok (go S) hN hi hl fun t2 J => ⟨_, _, J, q⟩
  | brk =>
    obtain ⟨r, G, S, q⟩ := S
    exact gone_ok (go S) hN hi hl fun t2 J => ⟨_, _, J, q⟩
  | cont =>
    obtain ⟨r, G, S, q⟩ := S
    exact gone_ok (go S) hN hi hl fun t2 J => ⟨_, _, J, q⟩
/-- the one clause, looked at by an error in the air -/
theorem keep_clause {pq : List (Addr × Obj)} {D : Ends} {a : Addr} {B : Heap} {tI t : Shared} {r : L2.St} {G : Hp} {cls : Value} {d : Option Addr} (hx : X.ex = []) (hs : X.stack = X.env :: X.outer) (hf : X.env.frame = some X.env.locals) (hN : X.N.Nodup) (hi : X.N[i]? = some n) (hl : X.env.kindOf n = some .local)
    (hc : Names X x c) (tk : Takes X Wo) (hsu : ∀ (a : Addr) (oe : Obj) (cls : Value) (d : Option Addr) (pn : List (Addr × Obj)), Zc cls d oe → (∃ vs, oe.data = .fields vs) → PSs (X.suite a ((a, oe) :: pn)) (b1 :: rest) (ts a cls d))
    (J : Inv X pq r G tI) (gr : ∀ b o, tI.heap.get? b = some o → b ∉ frs X.stack → B.get? b = some o) (up : tI.heap.UpToSlots t.heap) (fl : HandSPX.FlyingZ B (X.env :: X.outer) a (Zc cls d) t.heap) (na : G a = none) (os : t.os = tI.os) (ag : AllBare t.gens) (wk : kpX X.K c i ts Wo D cls d r G) :
    wpAny (model X.prog X.w) X.A (handleBy (.ref a) X.env [.ExceptHandler (some (.Name x np)) (some n) (b1 :: rest) at2]) (SP X pq D) X.xe t := by
  obtain ⟨b, is, yes, no⟩ := wk
  have nw := newAt_of hx hs hf J gr fl
  have I1 : Inv X pq r G t := J.landed gr fl.1 up os ag
  obtain ⟨o1, v1, h1, z1, d1⟩ := fl.there
  have S1 := I1.suite h1 d1 na nw.nl nw.nf
  refine wpAny_handleBy_cons (codeAny_handlers_test ?_) (fun q => nomatch q)
  have lt : PySem.W.Looks (model X.prog X.w) t.heap (typeOf (.ref a)) cls := fun _ _ _ _ k q => wpAny_typeOf_ref (k _ _ h1) (by rw [z1.1]; exact q)
  have lm := PySem.W.exm_one (M := model X.prog X.w) I1.kIn lt is
  have named : ∀ {Q : Value → Shared → Prop} {F : Value → Shared → Prop}, Q c t → wpAny (model X.prog X.w) (X.A.mark (some (.ref a))) (eval (.Name x np) X.env) Q F t := fun {Q F} q => by
    obtain ⟨g, db, m | ⟨m, bv, nn⟩⟩ := hc
    · exact ld_glob (X := X.suite a ((a, o1) :: (X.pn ++ pq))) S1 g m q db
    · exact ld_blt (X := X.suite a ((a, o1) :: (X.pn ++ pq))) S1 g m bv q nn db
  refine named (lm.here ?_)
  cases b with
  | true =>
    refine codeAny_handlers_suite_as (HandSPX.lands_againZ fl fun h2 fl2 up2 => ?_)
    have I2 : Inv X pq r G { t with heap := h2 } := J.landed gr fl2.1 (up.trans up2) os ag
    obtain ⟨o2, v2, e2, z2, d2⟩ := fl2.there
    refine store_ok (X := X.suite a ((a, o2) :: (X.pn ++ pq))) (v := .ref a) (I2.suite e2 d2 na nw.nl nw.nf) hN hi (.inl hl) rfl (fun t3 S3 => ?_) (.inr hl)
    exact wpAny_mono ((hsu a o2 cls d (X.pn ++ pq) z2 ⟨_, d2⟩).run [] t3 _ G _ S3 (yes rfl a na)) (fun f t4 sp => keep_end J.ok nw z2 d2 hN hi hl sp) fun _ _ z => z.elim
  | false =>
    show wpAny _ X.A (handleBy (.ref a) X.env []) _ _ _
    refine wpAny_handleBy_nil ?_
    obtain ⟨oe, vs, T, oT, tt, he, hz, hd, hT, _⟩ := fl.2.2.2
    unfold PySem.passOn
    refine wpAny_bind (wpAny_field he hd hT ?_)
    rw [if_neg (show ¬ ((Value.ref T == Value.none) = true) from by simp)]
    have fin : wpAny (model X.prog X.w) X.A (setFlight (.ref a) X.env.frame) (fun _ t4 => wpAny (model X.prog X.w) X.A (throw (.ref a) : Sem Flow) (SP X pq D) X.xe t4) X.xe t := by
      rw [hf]
      exact HandSPX.setFlight_upZ fl fun h4 hh up4 => wpAny_throw (tk _ _ ⟨a, B, tI, pq, r, G, cls, d, rfl, J, gr, up.trans up4, .inr (.inr (by rw [hs]; exact hh)), na, os, ag, no rfl⟩)
    first
      | exact wpAny_bind (wpAny_pure (wpAny_bind fin))
      | exact wpAny_bind fin
/-- try: body / except x as n: suite, where the suite may keep the error: it is tracked behind it -/
theorem ps_try_keep (hx : X.ex = []) (hs : X.stack = X.env :: X.outer) (hf : X.env.frame = some X.env.locals) (hN : X.N.Nodup) (hi : X.N[i]? = some n) (hl : X.env.kindOf n = some .local) (hc : Names X x c) (tk : Takes X Wo)
    (hb : ∀ (W : WX) (pn : List (Addr × Obj)) (xe : Value → Shared → Prop), Takes (X.tr pn xe) W → PassesOwn (model X.prog X.w) X.A X.env xe → PSs (X.tr pn xe) body (tb W))
    (hsu : ∀ (a : Addr) (oe : Obj) (cls : Value) (d : Option Addr) (pn : List (Addr × Obj)), Zc cls d oe → (∃ vs, oe.data = .fields vs) → PSs (X.suite a ((a, oe) :: pn)) (b1 :: rest) (ts a cls d)) :
    PS X (.Try body [.ExceptHandler (some (.Name x np)) (some n) (b1 :: rest) at2] [] [] at1) (fun D r G => tb (kpX X.K c i ts Wo D) D r G) := by
  refine ⟨fun pq s r G D I h => wpAny_Try_except ?_⟩
  have fr : X.A.frames = some (X.env :: X.outer) := by rw [I.ok.frames, hs]
  refine wpAny_mono ((hb (kpX X.K c i ts Wo D) (X.pn ++ pq) (fun e t1 => wpAny (model X.prog X.w) X.A (noteFrame e X.env) (fun _ t2 => wpAny (model X.prog X.w) X.A (setFlight e none) (fun _ t3 =>
    wpAny (model X.prog X.w) X.A (handleBy e X.env [.ExceptHandler (some (.Name x np)) (some n) (b1 :: rest) at2]) (SP X pq D) X.xe t3) X.xe t2) X.xe t1) (fun u t z => ?_) PassesOwn.looking).run [] s r G D (I.toTry _) h) (fun f t z => ?_) (fun _ _ z => z)
  · obtain ⟨a, B, tI, _, r', G', cls, d, rfl, J, gr, up, sky, na, os, ag, wk⟩ := z
    refine Sky.land Zc.steady fr hf (by rw [← hs]; exact sky) fun h3 fl up3 => ?_
    exact keep_clause (t := { t with heap := h3 }) hx hs hf hN hi hl hc tk hsu (J.ofTry I.ok) gr (up.trans up3) fl na os ag wk
  · cases f with
    | ret u =>
      obtain ⟨v, r', G', J, rv, q⟩ := z
      exact ⟨v, r', G', J.ofTry I.ok, rv, q⟩
    | next =>
      obtain ⟨r', G', J, q⟩ := z
      exact wpAny_execs_nil ⟨r', G', J.ofTry I.ok, q⟩
    | brk =>
      obtain ⟨r', G', J, q⟩ := z
      exact ⟨r', G', J.ofTry I.ok, q⟩
    | cont =>
      obtain ⟨r', G', J, q⟩ := z
      exact ⟨r', G', J.ofTry I.ok, q⟩
end
end
section
variable {P : Program} {w : World} {K : PySem.W.Frag} {mg : Str → Option Value} {base : Heap}
local macro_rules | `(tactic| get_elem_tactic_trivial) => `(tactic| (repeat first | exact Wk.nil | exact Wk'.nil | refine Wk.same ?_ | refine Wk'.same ?_ | refine Wk.un (fun _ z => nomatch z) ?_ | refine Wk'.un ?_))
/-- a caught error of the class at C at a; it bears v -/
def Caught (H : Hp) (a C : Addr) (v : V) : Prop := ∃ d fs, H a = some (exv a (.ref C) (some d)) ∧ H d = some (.xd fs) ∧ fs.lookup ("what" : Str) = some v
theorem inst_caught {X : Cx} {pins : List (Addr × Obj)} {σ : L2.St} {H : Hp} {s : Shared} {a C : Addr} {v : V} (I : Inv X pins σ H s) (e : Caught H a C v) :
    ∃ oe od u, PySem.W.InstAt s.heap a oe C (some od) ∧ PySem.W.lookIn "what" od = some (some u) ∧ RelV v u := by
  obtain ⟨d, fs, h1, h2, h3⟩ := e
  obtain ⟨oe, vs, q1, z, q2⟩ := exv_at I.hok h1
  obtain ⟨mA, hn, hr⟩ : ObjOk X.prog X.w H s.heap d (.xd fs) := I.hok d _ h2
  obtain ⟨od, ho, hl⟩ := lookIn_ns hn
  obtain ⟨u, hu, ru⟩ := RelO.some_of (v := v) (o := mA "what") (by rw [← h3]; exact hr "what")
  exact ⟨oe, od, u, ⟨q1, z.1, by unfold PySem.W.notCls; rw [q2] <;> rfl, by rw [z.2]; exact ho⟩, by rw [hl, hu], ru⟩
/-- isinstance(e, c) of a caught one -/
def rIsC (K : PySem.W.Frag) : List V → Hp → VK → Prop := fun xs H Q => ∃ (a D fI : Addr) (w c : V) (u : Value) (b : Bool), xs = [.ref a, c] ∧ ClsV c u ∧ Caught H a D w ∧ ECl K D fI ∧ PySem.W.kitOne K (.ref D) u = some b ∧ Q (.bl b) H
theorem call_isC {X : Cx} : CallR X (.builtin "isinstance") (rIsC X.K) := by
  intro pins s σ H xs us Q I r h
  obtain ⟨a, D, fI, w, c, u, b, rfl, hc, he, T, hk, q⟩ := h
  obtain ⟨u1, u2, rfl, r1, r2⟩ := vals2 r
  obtain rfl : u1 = Value.ref a := r1
  have e2 := hc.eq r2
  subst e2
  obtain ⟨oe, od, z, J, _, _⟩ := inst_caught I he
  have hcl : (PySem.W.clsIn X.K D).isSome = true := by
    have := T.hd
    unfold PySem.W.hasDictIn at this
    cases e : PySem.W.clsIn X.K D with
    | none => rw [e] at this; cases this
    | some _ => rfl
  exact PySem.W.kia_one (PySem.W.kitx_exc (od := some od) hcl T.ga T.gg T.ox.exC T.cl T.sp T.tk T.mo) I.kIn J hk (fun z => nomatch z) fun tk => ⟨.bl b, H, I.tok tk, rfl, q⟩
/-- isinstance(e, (c1, c2, ..)) of a caught one -/
def rIsCT (K : PySem.W.Frag) : List V → Hp → VK → Prop := fun xs H Q => ∃ (a D fI tp : Addr) (w : V) (cs : List V) (us : List Value) (b : Bool), xs = [.ref a, .ref tp] ∧ H tp = some (.tup cs) ∧ Paired ClsV cs us ∧ Caught H a D w ∧ ECl K D fI ∧ PySem.W.kitAny K (.ref D) us = some b ∧ Q (.bl b) H
theorem call_isCT {X : Cx} : CallR X (.builtin "isinstance") (rIsCT X.K) := by
  intro pins s σ H xs us Q I r h
  obtain ⟨a, D, fI, tp, w, cs, ws, b, rfl, hT, k, he, T, hk, q⟩ := h
  obtain ⟨u1, u2, rfl, r1, r2⟩ := vals2 r
  obtain rfl : u1 = Value.ref a := r1
  obtain rfl : u2 = Value.ref tp := r2
  obtain ⟨oe, od, z, J, _, _⟩ := inst_caught I he
  have hcl : (PySem.W.clsIn X.K D).isSome = true := by
    have := T.hd
    unfold PySem.W.hasDictIn at this
    cases e : PySem.W.clsIn X.K D with
    | none => rw [e] at this; cases this
    | some _ => rfl
  obtain ⟨_, its, rv, o, h1, h2, n, h3⟩ : ObjOk X.prog X.w H s.heap tp (.tup cs) := I.hok tp _ hT
  obtain rfl := ClsV.all k rv
  obtain ⟨oc, od2, dt, sl⟩ := o
  dsimp only at h2 h3
  subst h2 h3
  exact PySem.W.kia_tup (PySem.W.kitx_exc (od := some od) hcl T.ga T.gg T.ox.exC T.cl T.sp T.tk T.mo) I.kIn J h1 hk (fun z => nomatch z) fun tk => ⟨.bl b, H, I.tok tk, rfl, q⟩
/-- e.what of a caught one -/
def tWhatC (K : PySem.W.Frag) (te : TE) : TE := fun σ H Q => te σ H fun x H1 => ∃ (a D fI : Addr) (v : V), x = .ref a ∧ Caught H1 a D v ∧ ECl K D fI ∧ Q v H1
theorem pe_whatC {X : Cx} {e : Expr} {te : TE} {pos : Pos} (he : PE X e te) (hb : attributeBase e "what" X.env (eval e X.env) = eval e X.env := by rfl) : PE X (.Attribute e "what" pos) (tWhatC X.K te) := by
  refine ⟨fun pins s σ H Q I h => ?_⟩
  refine attr_of hb (thn (he.run pins s σ H _ I h) fun u s1 hh => ?_)
  obtain ⟨x, H1, I1, rx, a, D, fI, v, ex, er, T, q⟩ := hh
  subst ex
  obtain rfl : u = Value.ref a := rx
  obtain ⟨oe, od, z, J, hl, rz⟩ := inst_caught I1 er
  exact HandSPX.exc_get I1.kIn J T.ga T.gg T.ox.exC (PySem.W.findObj_own T.hd T.wh rfl hl) (handed_of rz) ⟨v, H1, I1.tok _, rz, q⟩

end
section
variable {P : Program} {w : World} {K : PySem.W.Frag} {mg : Str → Option Value} {base : Heap}
local macro_rules | `(tactic| get_elem_tactic_trivial) => `(tactic| (repeat first | exact Wk.nil | exact Wk'.nil | refine Wk.same ?_ | refine Wk'.same ?_ | refine Wk.un (fun _ z => nomatch z) ?_ | refine Wk'.un ?_))
/-! an own error made to be raised, its context none: what a suite that raises anew asks of the body's errors -/
section
variable {X : Cx} {x : Str} {C fI : Addr} {k : Nat} {fd : FuncData} {p pos : Pos}
end
end
section
variable {P : Program} {w : World} {K : PySem.W.Frag} {mg : Str → Option Value} {base : Heap}
local macro_rules | `(tactic| get_elem_tactic_trivial) => `(tactic| (repeat first | exact Wk.nil | exact Wk'.nil | refine Wk.same ?_ | refine Wk'.same ?_ | refine Wk.un (fun _ z => nomatch z) ?_ | refine Wk'.un ?_))

end
section
variable {P : Program} {w : World} {K : PySem.W.Frag} {mg : Str → Option Value} {base : Heap}
local macro_rules | `(tactic| get_elem_tactic_trivial) => `(tactic| (repeat first | exact Wk.nil | exact Wk'.nil | refine Wk.same ?_ | refine Wk'.same ?_ | refine Wk.un (fun _ z => nomatch z) ?_ | refine Wk'.un ?_))
/-! defs that raise, over data -/
def ExAt (K : PySem.W.Frag) (C : Hp) (cls : Value) (dd : Option Addr) (c : Str) (d : Dt) : Prop := cls = .ref (He.ga K c) ∧ ∃ (a : Addr) (v : V), dd = some a ∧ C a = some (.xd [(("what" : Str), v)]) ∧ Rp K C v d
abbrev XE' := Str → Dt → List Sl → Prop
/-- what is asked of an error that leaves -/
def MeetsX (K : PySem.W.Frag) (B : Bs) (Ξ : XE') (W : WX) : Prop := ∀ (C' G : Hp) (σ : L2.St) (ρ : List Sl) (cls : Value) (dd : Option Addr) (c : Str) (d : Dt), Sep K B C' G σ ρ → ExAt K C' cls dd c d → Ξ c d ρ → W cls dd σ G
abbrev WEX := List Sl → (Rs → List Sl → Prop) → XE' → Prop
abbrev WSX := List Sl → Fs → XE' → Prop
class Xd (K : PySem.W.Frag) (W : WX) (t : TE) (w : outParam WEX) : Prop where
  run : ∀ (B : Bs) (C H : Hp) (σ : L2.St) (ρ : List Sl) (Q : VK) (Ψ : Rs → List Sl → Prop) (Ξ : XE'), Sep K B C H σ ρ → w ρ Ψ Ξ → (∀ C' G v r ρ', Sep K B C' G σ ρ' → Same C C' → RsOk K C' σ ρ' v r → Ψ r ρ' → Q v G) → MeetsX K B Ξ W → t σ H Q
class Xs (K : PySem.W.Frag) (W : WX) (t : TS) (w : outParam WSX) : Prop where
  run : ∀ (B : Bs) (C H : Hp) (σ : L2.St) (ρ : List Sl) (D : Ends) (Φ : Fs) (Ξ : XE'), Sep K B C H σ ρ → w ρ Φ Ξ → Meets K B Φ D → MeetsX K B Ξ W → t D σ H
instance (priority := 100) xd_sd {W : WX} {t : TE} {w : WE} [a : Sd K t w] : Xd K W t (fun ρ Ψ _ => w ρ Ψ) where
  run B C H σ ρ Q Ψ Ξ S h k m := a.run B C H σ ρ Q Ψ S h k
instance (priority := 100) xs_ss {W : WX} {t : TS} {w : WS} [a : Ss K t w] : Xs K W t (fun ρ Φ _ => w ρ Φ) where
  run B C H σ ρ D Φ Ξ S h m mx := a.run B C H σ ρ D Φ S h m
def wIfX (wc : WT) (wt wu : WSX) : WSX := fun ρ Φ Ξ => wc ρ fun b ρ1 => if b = true then wt ρ1 Φ Ξ else wu ρ1 Φ Ξ
instance xs_if {W : WX} {tc : TT} {t u : TS} {wc : WT} {wt wu : WSX} [c : Sc K tc wc] [a : Xs K W t wt] [b : Xs K W u wu] : Xs K W (tIfS tc t u) (wIfX wc wt wu) where
  run B C H σ ρ D Φ Ξ S h m mx := c.run B C H σ ρ _ _ S h fun C1 H1 e ρ1 S1 s1 h1 => by
    cases e with
    | true => exact a.run B C1 H1 σ ρ1 _ _ Ξ S1 h1 m mx
    | false => exact b.run B C1 H1 σ ρ1 _ _ Ξ S1 h1 m mx
def wAsgX (w : WEX) (wg : WG) : WSX := fun ρ Φ Ξ => w ρ (fun r ρ1 => store r ρ1 fun a ρ2 => isD a fun x => wg x ρ2 Φ.nx) Ξ
instance (priority := 900) xs_asg {W : WX} {te : TE} {g : TG} {w : WEX} {wg : WG} [a : Xd K W te w] [b : Sg K g wg] : Xs K W (tAsg te g) (wAsgX w wg) where
  run B C H σ ρ D Φ Ξ S h m mx := a.run B C H σ ρ _ _ Ξ S h (fun C1 H1 v1 r1 ρ1 S1 s1 ok1 h1 => by
    obtain ⟨C2, x, ρ2, S2, s2, ok2, h2⟩ := S1.stored ok1 h1
    obtain ⟨d, rd, h3⟩ := isD_run ok2 h2
    exact b.run B C2 H1 σ ρ2 _ _ _ _ S2 rd h3 fun σ' ρ' S' z => m.nx _ _ _ _ S' z) mx
def wDropX (w : WEX) : WSX := fun ρ Φ Ξ => w ρ (fun _ ρ1 => Φ.nx ρ1) Ξ
instance xs_drop {W : WX} {te : TE} {w : WEX} [a : Xd K W te w] : Xs K W (tDrop te) (wDropX w) where
  run B C H σ ρ D Φ Ξ S h m mx := a.run B C H σ ρ _ _ Ξ S h (fun C1 H1 v1 r1 ρ1 S1 s1 ok1 h1 => m.nx _ _ _ _ S1 h1) mx
instance (priority := 1000) xs_retS {W : WX} {te : TE} {w : WE} [a : Sd K te w] : Xs K W (tRet te) (fun ρ Φ _ => wRet w ρ Φ) where
  run B C H σ ρ D Φ Ξ S h m mx := (ss_ret (te := te) (w := w)).run B C H σ ρ D Φ S h m
/-- the base grown within a loop -/
theorem sep_back {B : Bs} {C3 C5 H5 : Hp} {σ5 : L2.St} {ρ5 : List Sl} (gr : Same B.C0 C3) (nw : ∀ a o, C3 a = some o → B.C0 a = none → B.H0 a = none) (z : Sep K ⟨C3, B.H0, B.bx⟩ C5 H5 σ5 ρ5) : Sep K B C5 H5 σ5 ρ5 ∧ Same C3 C5 :=
  ⟨⟨z.cold, z.len, z.sl, z.ne, gr.trans z.grow, fun a o e n => (match q : C3 a with
      | none => z.new a o e q
      | some u => nw a u q n), z.dom, z.keep, z.loc, z.lob, z.par, z.pz⟩, z.grow⟩
theorem Sep.rebase {B : Bs} {C H : Hp} {σ : L2.St} {ρ : List Sl} (S : Sep K B C H σ ρ) : Sep K ⟨C, B.H0, B.bx⟩ C H σ ρ :=
  ⟨S.cold, S.len, S.sl, S.ne, Same.refl _, fun a o e n => (by rw [show C a = none from n] at e; cases e), S.dom, S.keep, S.loc, S.lob, S.par, S.pz⟩
def wForX (wi : WI) (wg : WG) (wb : WSX) : WSX := fun ρ Φ Ξ => wi ρ fun items ρ1 => ∃ I : Nat → List Sl → Prop, To (I 0) ρ1 ∧
  (∀ k ρ d, items[k]? = some d → I k ρ → wg d ρ fun ρ2 => wb ρ2 { Φ with nx := To (I (k + 1)), ct := To (I (k + 1)), bk := Φ.nx } Ξ) ∧ ∀ ρ, I items.length ρ → Φ.nx ρ
instance xs_for {W : WX} {ti : TI} {g : TG} {tb : TS} {wi : WI} {wg : WG} {wb : WSX} [i : Si K ti wi] [a : Sg K g wg] [b : Xs K W tb wb] : Xs K W (tFor ti g tb) (wForX wi wg wb) where
  run B C H σ ρ D Φ Ξ S h m mx := i.run B C H σ ρ _ _ S h fun C1 H1 J items ρ1 S1 s1 hJ h1 => by
    obtain ⟨I, ⟨ρ0, w0, i0⟩, step, fin⟩ := h1
    refine ⟨fun k n σ2 H2 => n = items.length - k ∧ k ≤ items.length ∧ ∃ C2 ρ2, Sep K B C2 H2 σ2 ρ2 ∧ Same C1 C2 ∧ I k ρ2, ⟨_, rfl, Nat.zero_le _, C1, ρ0, S1.weak w0, Same.refl _, i0⟩, ?_⟩
    rintro k n σ2 H2 ⟨rfl, hk, C2, ρ2, S2, s2, hI⟩
    obtain ⟨go, stop, yld⟩ := hJ B C2 H2 σ2 ρ2 S2 s2
    by_cases hlt : k < items.length
    · refine .inr ⟨go k hlt, fun σ3 H3 => ∃ C3 ρ3, Sep K B C3 H3 σ3 ρ3 ∧ Same C1 C3 ∧ I (k + 1) ρ3, fun σ3 H3 ⟨C3, ρ3, S3, s3, h3⟩ => ⟨items.length - (k + 1), by omega, rfl, hlt, C3, ρ3, S3, s3, h3⟩, fun x H' y => ?_⟩
      obtain ⟨C3, S3, s3, r3⟩ := yld k x H' items[k] (List.getElem?_eq_getElem hlt) y
      have st := step k ρ2 _ (List.getElem?_eq_getElem hlt) hI
      refine a.run B C3 H' σ2 ρ2 _ _ _ _ S3 r3 st fun σ4 ρ4 S4 h4 => ?_
      have keep : ∀ C5 H5 σ5 ρ5, Sep K ⟨C3, B.H0, B.bx⟩ C5 H5 σ5 ρ5 → Sep K B C5 H5 σ5 ρ5 ∧ Same C1 C5 := fun C5 H5 σ5 ρ5 z =>
        ⟨(sep_back S3.grow S3.new z).1, (s2.trans s3).trans z.grow⟩
      refine b.run ⟨C3, B.H0, B.bx⟩ C3 H' σ4 ρ4 _ _ Ξ S4.rebase h4 ⟨fun C5 H5 σ5 ρ5 z h5 => ?_, fun C5 H5 σ5 ρ5 v r z ok h5 => ?_, fun C5 H5 σ5 ρ5 z h5 => ?_, fun C5 H5 σ5 ρ5 z h5 => ?_⟩ fun C5 H5 σ5 ρ5 cls dd c d z ex h5 => mx C5 H5 σ5 ρ5 cls dd c d (keep _ _ _ _ z).1 ex h5
      · obtain ⟨ρ6, w6, h6⟩ := h5
        exact ⟨C5, ρ6, (keep _ _ _ _ z).1.weak w6, (keep _ _ _ _ z).2, h6⟩
      · refine m.rt _ _ _ _ v r (keep _ _ _ _ z).1 ?_ h5
        cases r with
        | dat d => exact ok
        | new ds => exact ok
      · exact m.nx _ _ _ _ (keep _ _ _ _ z).1 h5
      · obtain ⟨ρ6, w6, h6⟩ := h5
        exact ⟨C5, ρ6, (keep _ _ _ _ z).1.weak w6, (keep _ _ _ _ z).2, h6⟩
    · have e : k = items.length := by omega
      subst e
      exact .inl ⟨stop, m.nx _ _ _ _ S2 (fin _ hI)⟩
/-! raising calls -/
section
variable {B : Bs} {C H : Hp} {σ : L2.St} {ρ : List Sl}
end
def tCallNS (n m : Nat) (sp : Sp) (gV : List V → List V → List V) (E : L2.St → XK) (t tk : TA) : TE := fun σ H Q => t σ H fun vs H1 => tk σ H1 fun zs H2 => vs.length = n ∧ zs.length = m ∧ sp (gV vs zs) H2 Q (E σ)
section
variable {X : Cx} {CX : CXT} {k n : Nat} {f : Addr} {fd : FuncData} {ps ks : List Str} {sp : Sp} {E : L2.St → XK} {x : Str} {p pos : Pos} {e : Expr} {es : List Expr} {kws : List Keyword} {t tk : TA} {g : List Value → List Value → List Value} {gV : List V → List V → List V}
theorem run_fnNS {pins : List (Addr × Obj)} {σ : L2.St} {H : Hp} {s : Shared} {Q : VK} {us ws : List Value} {vs zs : List V} (F : FnOk X.prog X.w X.K X.mg X.base CX k f fd ps sp) (hr : Room k X.A) (hb : KBn X.K fd ps n ks g gV) (hx : PassesAt CX X σ (E σ))
    (I : Inv X pins σ H s) (r : Vals vs us) (rz : Vals zs ws) (l1 : vs.length = n) (l2 : zs.length = ks.length) (h : sp (gV vs zs) H Q (E σ)) : wpAny (model X.prog X.w) X.A (call (.ref f) us (ks.zip ws)) (EP X pins σ Q) X.xe s := by
  have r2 := hb.rel r rz
  refine wpAny_call (codeAny_mono (F.run X.A X.stack s H ⟨us, ks.zip ws⟩ (g us ws) (gV vs zs) Q (E σ) hr I.env0 (hb.to s us ws I.kIn (r.length.symm.trans l1) (rz.length.symm.trans l2)) r2 h) fun r s' hq => ?_)
  cases r with
  | error e => exact hx pins H s e s' I hq
  | ok fl =>
    cases fl with
    | ret u => exact I.after hq
    | next => exact False.elim hq
    | brk => exact False.elim hq
    | cont => exact False.elim hq
theorem pe_callNS (F : FnOk X.prog X.w X.K X.mg X.base CX k f fd ps sp) (hr : Room k X.A) (hg : Gl X x) (hm : X.mg x = some (.ref f)) (hk : PySem.W.keepIn X.K (.ref f) = true) (hb : KBn X.K fd ps n ks g gV) (hx : ∀ σ, PassesAt CX X σ (E σ))
    (ha : PA X (e :: es) t) (hkw : PK X kws tk) (hall : (backToKw pos (keywordEach kws X.env)).all (·.1.isSome) = true := by rfl) (hks : (backToKw pos (keywordEach kws X.env)).filterMap (·.1) = ks := by rfl)
    (hdb : (x == ("__debug__" : Str)) = false := by decide) (he : starEach (e :: es) X.env = (false, eval e X.env) :: starEach es X.env := by rfl)
    (hpl : ((backTo pos (starEach (e :: es) X.env)).any (·.1) || (backToKw pos (keywordEach kws X.env)).any (·.1.isNone)) = false := by rfl) :
    PE X (.Call (.Name x p) (e :: es) kws pos) (tCallNS n ks.length sp gV E t tk) := by
  refine ⟨fun pins s σ H Q I h => ?_⟩
  refine wpAny_Call_Name_kw (ld_glob I hg hm ?_ hdb)
  refine PySem.W.callWith_KW (h₀ := X.base) I.ok.mod.kin hk hall (thn (ha.run pos pins s σ H _ I h) fun us s1 ⟨vs, H1, I1, r, q⟩ => ?_) hpl he
  refine thn (hkw.run pos pins s1 σ H1 _ I1 q) fun ws s2 ⟨zs, H2, I2, rz, l1, l2, q2⟩ => ⟨I2.kIn, ?_⟩
  rw [hks]
  exact run_fnNS F hr hb (hx σ) I2 r rz l1 l2 q2
end
end
section
variable {P : Program} {w : World} {K : PySem.W.Frag} {mg : Str → Option Value} {base : Heap}
local macro_rules | `(tactic| get_elem_tactic_trivial) => `(tactic| (repeat first | exact Wk.nil | exact Wk'.nil | refine Wk.same ?_ | refine Wk'.same ?_ | refine Wk.un (fun _ z => nomatch z) ?_ | refine Wk'.un ?_))
section
variable {B : Bs} {C H : Hp} {σ : L2.St} {ρ : List Sl}
end
/-! the same where it doesn't raise -/
/-! new lists of raising calls stay changeable -/
end
section
variable {P : Program} {w : World} {K : PySem.W.Frag} {mg : Str → Option Value} {base : Heap}
local macro_rules | `(tactic| get_elem_tactic_trivial) => `(tactic| (repeat first | exact Wk.nil | exact Wk'.nil | refine Wk.same ?_ | refine Wk'.same ?_ | refine Wk.un (fun _ z => nomatch z) ?_ | refine Wk'.un ?_))
/-! raise C(e) -/
def tRaiseD (C : Addr) (ta : TA) (W : WX) : TS := fun _ σ H => ta σ H fun vs H1 => ∃ v, vs = [v] ∧ ∀ d : Addr, H1 d = none → W (.ref C) (some d) σ (upd H1 d (.xd [(("what" : Str), v)]))
theorem err_letD {H1 : Hp} {a C d : Addr} {v : V} (ha : H1 a = none) (hd : (upd H1 a (exo a C none)) d = none) (ne : d ≠ a) :
    H1 d = none ∧ upd (del (upd (upd (upd H1 a (exo a C none)) d (exd d [(("what" : Str), v)])) a (exo a C (some d))) a) d (.xd [(("what" : Str), v)]) = upd H1 d (.xd [(("what" : Str), v)]) := by
  rw [upd_ne ne] at hd
  refine ⟨hd, funext fun b => ?_⟩
  by_cases h1 : b = d
  · rw [h1, upd_same, upd_same]
  · rw [upd_ne h1, upd_ne h1]
    by_cases h2 : b = a
    · rw [h2, del_same, ha]
    · rw [del_ne h2, upd_ne h2, upd_ne h1, upd_ne h2]
section
variable {X : Cx} {x : Str} {C fI : Addr} {k : Nat} {fd : FuncData} {p pos : Pos}
def tMkD (C : Addr) (ta : TA) : L2.St → Hp → XK → Prop := fun σ H Q => ta σ H fun vs H1 => ∃ v, vs = [v] ∧ ∀ d : Addr, H1 d = none → Q (.ref C) (some d) (upd H1 d (.xd [(("what" : Str), v)]))
theorem pmk_errD {e : Expr} {ta : TA} (T : ECl X.K C fI) (F1 : FnOk X.prog X.w X.K X.mg X.base CX0 k fI fd ["self", "what"] (spInitE X.K)) (hr : Room (k + 1) X.A) (hb : Binds X.K fd ["self", "what"] []) (hg : Gl X x) (hm : X.mg x = some (.ref C)) (ha : PA X [e] ta)
    (h1 : (x == ("__debug__" : Str)) = false := by decide) (h2 : starEach [e] X.env = (false, eval e X.env) :: starEach [] X.env := by rfl) (h3 : (backTo pos (starEach [] X.env)).any (·.1) = false := by rfl) :
    L2N.PMk X (.Call (.Name x p) [e] [] pos) (tMkD C ta) := by
  intro pins s σ H Q I h
  obtain ⟨nm, q, N, bs, bm, sn, sub, ab, col, dd, k0, k1, k2, k3, k5, hC, hbm⟩ := T.ox.cls
  refine wpAny_Call_Name_kw (ld_glob I hg hm ?_ h1)
  refine PySem.W.callWith_K (h₀ := X.base) I.ok.mod.kin T.ox.kC (thn (ha.run pos pins s σ H _ I h) fun us s1 ⟨vs, H1, I1, r1, v, ev, q1⟩ => ⟨I1.kIn, ?_⟩) h2 h3
  subst ev
  obtain ⟨u, rfl, ru⟩ := vals1 r1
  show wpAny _ _ (call (.ref C) [u]) _ _ _
  obtain ⟨hp, g, dr, tk, os⟩ := s1
  have hn : H1 (hp.objs.size + 1) = none := I1.hok.fresh (Nat.le_succ _)
  have grow : ∀ b o, hp.get? b = some o → ((hp.push (PySem.W.kdv_tup [u])).push (HandSPX.excO C hp.objs.size)).get? b = some o := fun b o e => Heap.get?_push_of_some _ (Heap.get?_push_of_some _ e)
  have new : ((hp.push (PySem.W.kdv_tup [u])).push (HandSPX.excO C hp.objs.size)).get? (hp.objs.size + 1) = some (HandSPX.excO C hp.objs.size) := by heap_get
  have I2 : Inv X pins σ (upd H1 (hp.objs.size + 1) (exo (hp.objs.size + 1) C none)) ⟨(hp.push (PySem.W.kdv_tup [u])).push (HandSPX.excO C hp.objs.size), g, dr, tk, os⟩ := I1.laid (t' := tk) grow (Nat.le_succ _) (exo_ok new)
  have r2 : Vals [V.ref (hp.objs.size + 1), v] [Value.ref (hp.objs.size + 1), u] := .cons rfl (.cons ru .nil)
  refine wpAny_call (HandSPX.call_own F.excBase_ValueError (fun Y => HandSPX.refsVE_contains Y bm hbm) (I1.kIn _ _ hC) (PySem.W.looks_findIn I1.kIn T.ini) (fun self => PySem.W.bind_fn I1.kIn self T.fty) (by rw [sizeLine_eq]; show 1 ≤ 16777216; decide)
    (codeAny_mono (F1.run _ X.stack _ _ ⟨[Value.ref (hp.objs.size + 1), u], []⟩ [Value.ref (hp.objs.size + 1), u] _
      (fun w' G => w' = .non ∧ ∃ d : Addr, G (hp.objs.size + 1) = some (exo (hp.objs.size + 1) C (some d)) ∧ G d = some (exd d [(("what" : Str), v)]) ∧ H1 d = none ∧ Q (.ref C) (some d) (upd (del G (hp.objs.size + 1)) d (.xd [(("what" : Str), v)])))
      (fun _ _ _ => False) (hr.make C [u] []) (I2.env0.make C [u] []) (hb _ _ I2.kIn rfl) r2 ⟨_, C, fI, v, rfl, upd_same, T, fun d hd ne => ⟨rfl, d, upd_same, ?_, ?_⟩⟩) fun r s' hq' => ?_))
  · rw [upd_ne ne, upd_same]
  · obtain ⟨a1, a2⟩ := err_letD (C := C) (v := v) hn hd ne
    refine ⟨a1, ?_⟩
    rw [a2]
    exact q1 d a1
  · cases r with
    | error er => exact hq'.elim
    | ok fl =>
      cases fl with
      | ret w' =>
        obtain ⟨v2, H2, o2, b2, un2, ok2, rv, ev, d, ea, ed, hd1, q2⟩ := hq'
        subst ev
        obtain ⟨h2, g2, d2, t2, os'⟩ := s'
        obtain ⟨t0, G, J, kG, ge, hoe, na⟩ := mk_end0 (d2 := d2) (t2 := t2) I1 (Nat.le_succ _) grow un2 ok2 o2 b2 ea ed hd1
        exact ⟨rv, hp.objs.size + 1, _, _, ⟨G, g2, d2, t2, os'⟩, _, .ref C, some d, rfl, J, kG, ge, hoe, ⟨rfl, rfl, fun ws hv => by cases hv; rfl⟩, rfl, rfl, na, rfl, b2, raises_own T.ox.exC T.ox.tyC, q2⟩
      | next => exact hq'.elim
      | brk => exact hq'.elim
      | cont => exact hq'.elim
theorem ps_raiseD {W : WX} {e : Expr} {ta : TA} {pos : Pos} (hc : X.calm = true) (tk : L2N.Takes X W) (he : L2N.PMk X e (tMkD C ta)) : PS X (.Raise (some e) none pos) (tRaiseD C ta W) := L2N.ps_raise hc tk he
end
def wRaise (K : PySem.W.Frag) (C : Addr) (wa : WA) : WSX := fun ρ Φ Ξ => wa ρ fun as ρ1 => match as with
  | [.d d] => ∃ c : Str, C = He.ga K c ∧ Ξ c d ρ1
  | _ => False
instance xs_raise {W : WX} {Cl : Addr} {ta : TA} {wa : WA} [a : Sa K ta wa] : Xs K W (tRaiseD Cl ta W) (wRaise K Cl wa) where
  run B C H σ ρ D Φ Ξ S h m mx := a.run B C H σ ρ _ _ S h fun C1 H1 vs as ρ1 S1 s1 ok1 h1 => by
    cases ok1 with
    | nil => exact False.elim h1
    | @cons v vs x as o1 o2 =>
      cases x with
      | b i => cases as <;> exact False.elim h1
      | d x =>
        cases o2 with
        | cons _ _ => exact False.elim h1
        | nil =>
          obtain ⟨c, rfl, z⟩ := h1
          refine ⟨v, rfl, fun dd hd => ?_⟩
          have cd : C1 dd = none := S1.cold.free hd
          exact mx _ _ _ _ _ _ _ _ (S1.alloc (o := .xd [(("what" : Str), v)]) hd) ⟨rfl, dd, v, rfl, upd_same, Rp.same o1 (same_new cd)⟩ z
/-! a def's body that may raise -/
end
section
variable {P : Program} {w : World} {K : PySem.W.Frag} {mg : Str → Option Value} {base : Heap}
local macro_rules | `(tactic| get_elem_tactic_trivial) => `(tactic| (repeat first | exact Wk.nil | exact Wk'.nil | refine Wk.same ?_ | refine Wk'.same ?_ | refine Wk.un (fun _ z => nomatch z) ?_ | refine Wk'.un ?_))
/-! a def whose errors' contexts are none is one that raises -/
theorem FnOk.nl {k : Nat} {f : Addr} {fd : FuncData} {ps : List Str} {sp : Sp} (F : FnOk P w K mg base (L2N.CX P w) k f fd ps sp) : FnOk P w K mg base (L2.CX P w) k f fd ps sp := by
  refine ⟨F.len, fun A outer s H args us vs Q E hr h0 b r h => codeAny_mono (F.run A outer s H args us vs Q E hr h0 b r h) fun r s' q => ?_⟩
  cases r with
  | ok fl => cases fl <;> exact q
  | error e =>
    obtain ⟨a, B, H', cls, d, e1, fl, rest⟩ := q
    exact ⟨a, B, H', cls, d, e1, ⟨fl.1, fl.2.1, fl.2.2.1, by obtain ⟨oe, vs, T, oT, tt, he, hz, r2⟩ := fl.2.2.2; exact ⟨oe, vs, T, oT, tt, he, hz.zc, r2⟩⟩, rest⟩
end
section
variable {P : Program} {w : World} {K : PySem.W.Frag} {mg : Str → Option Value} {base : Heap}
local macro_rules | `(tactic| get_elem_tactic_trivial) => `(tactic| (repeat first | exact Wk.nil | exact Wk'.nil | refine Wk.same ?_ | refine Wk'.same ?_ | refine Wk.un (fun _ z => nomatch z) ?_ | refine Wk'.un ?_))
/-! try .. except .. as .. -/
def tTry (K : PySem.W.Frag) (c : Value) (i : Nat) (tb : WX → TS) (ts : Addr → Value → Option Addr → TS) (Wo : WX) : TS := fun D r G => tb (kpX K c i ts Wo D) D r G
class Su (K : PySem.W.Frag) (i : Nat) (ts : Addr → Value → Option Addr → TS) (w : outParam (Str → Dt → WS)) : Prop where
  run : ∀ (B : Bs) (C G : Hp) (σ : L2.St) (ρ : List Sl) (D : Ends) (Φ : Fs) (a : Addr) (cls : Value) (dd : Option Addr) (c : Str) (d : Dt), Sep K B C G σ ρ → G a = none → ExAt K C cls dd c d → w c d ρ Φ → Meets K B Φ D → ts a cls dd (keepD D i a cls dd) (σ.set i (some (.ref a))) G
def wSuKeep (i j : Nat) : Str → Dt → WS := fun c d ρ Φ => (i ≠ j ∧ i < ρ.length) ∧ put i .un ρ fun ρ1 => put j (.dat (.err c d)) ρ1 Φ.nx
instance su_keep {i j : Nat} : Su K i (fun _ _ _ => tAsg (tVar i) (gName j)) (wSuKeep i j) where
  run B C G σ ρ D Φ a cls dd c d S ha ex h m := by
    obtain ⟨⟨ne, lr⟩, h⟩ := h
    obtain ⟨p1, h⟩ := put_run h
    obtain ⟨p2, h⟩ := put_run h
    obtain ⟨rfl, b, v, rfl, hb, rv⟩ := ex
    have ca : C a = none := S.cold.free ha
    have S1 := S.alloc (o := exv a (.ref (He.ga K c)) (some b)) ha
    have sC := same_new (o := exv a (.ref (He.ga K c)) (some b)) ca
    have S2 := S1.un (i := i) (x := none) p1
    have S3 := S2.dat (i := j) (v := .ref a) (d := .err c d) p2 (.err upd_same (sC _ _ hb) (rv.same sC))
    have li : i < σ.length := by
      rw [S.len]
      exact lr
    refine ⟨.ref a, set_at li, ?_⟩
    show D.nx (((σ.set i (some (.ref a))).set j (some (.ref a))).set i none) _
    rw [List.set_comm _ _ (Ne.symm ne), List.set_set]
    exact m.nx _ _ _ _ S3 h
/-! isinstance and what of caught errors -/
def IsEv (K : PySem.W.Frag) (c : Str) (cv : V) (b : Bool) : Prop := ∃ (fI : Addr) (u : Value), ClsV cv u ∧ ECl K (He.ga K c) fI ∧ PySem.W.kitOne K (.ref (He.ga K c)) u = some b
theorem caught_of {C H : Hp} {v : V} {c : Str} {d : Dt} (s : Same C H) (h : Rp K C v (.err c d)) : ∃ (a : Addr) (w : V), v = .ref a ∧ Caught H a (He.ga K c) w ∧ Rp K C w d := by
  cases h with
  | err h1 h2 h3 => exact ⟨_, _, rfl, ⟨_, _, s _ _ h1, s _ _ h2, by simp [List.lookup]⟩, h3⟩
def wIsC (K : PySem.W.Frag) (cv : V) (wa : WE) : WE := fun ρ Ψ => wa ρ fun r ρ1 => match r with
  | .dat (.err c d) => ∃ b, IsEv K c cv b ∧ Ψ (.dat (.bl b)) ρ1
  | _ => False
instance (priority := 1200) sd_isC {cv : V} {ta : TE} {wa : WE} [a : Sd K ta wa] : Sd K (tCB (rIsC K) (tCons ta (tCons (tC cv) tNil))) (wIsC K cv wa) where
  run B C H σ ρ Q Ψ S h k := a.run B C H σ ρ _ _ S h fun C1 H1 v1 r1 ρ1 S1 s1 ok1 h1 => by
    cases r1 with
    | hot i ds => exact False.elim h1
    | box i n => exact False.elim h1
    | dat x =>
      cases x <;> try exact False.elim h1
      rename_i c d
      obtain ⟨b, ⟨fI, u, hc, T, hk⟩, z⟩ := h1
      obtain ⟨a, w, rfl, hA, _⟩ := caught_of S1.cold ok1
      exact ⟨a, _, fI, w, cv, u, b, rfl, hc, hA, T, hk, k _ _ _ (.dat (.bl b)) _ S1 s1 (.bl b) z⟩
class Ct (ta : TA) (cs : outParam (List V)) : Prop where
  run : ∀ (σ : L2.St) (H : Hp) (Q : List V → Hp → Prop), Q cs H → ta σ H Q
instance ct_nil : Ct tNil [] := ⟨fun σ H Q h => h⟩
instance ct_cons {v : V} {ta : TA} {cs : List V} [a : Ct ta cs] : Ct (tCons (tC v) ta) (v :: cs) := ⟨fun σ H Q h => a.run σ H _ h⟩
def IsEvs (K : PySem.W.Frag) (c : Str) (cs : List V) (b : Bool) : Prop := cs.length ≤ sizeLine ∧ ∃ (fI : Addr) (us : List Value), Paired ClsV cs us ∧ ECl K (He.ga K c) fI ∧ PySem.W.kitAny K (.ref (He.ga K c)) us = some b
def wIsCT (K : PySem.W.Frag) (cs : List V) (wa : WE) : WE := fun ρ Ψ => wa ρ fun r ρ1 => match r with
  | .dat (.err c d) => ∃ b, IsEvs K c cs b ∧ Ψ (.dat (.bl b)) ρ1
  | _ => False
instance (priority := 1200) sd_isCT {ta : TE} {tt : TA} {cs : List V} {wa : WE} [a : Sd K ta wa] [ct : Ct tt cs] : Sd K (tCB (rIsCT K) (tCons ta (tCons (tTup tt) tNil))) (wIsCT K cs wa) where
  run B C H σ ρ Q Ψ S h k := a.run B C H σ ρ _ _ S h fun C1 H1 v1 r1 ρ1 S1 s1 ok1 h1 => by
    cases r1 with
    | hot i ds => exact False.elim h1
    | box i n => exact False.elim h1
    | dat x =>
      cases x <;> try exact False.elim h1
      rename_i c d
      obtain ⟨b, ⟨lc, fI, us, hc, T, hk⟩, z⟩ := h1
      refine ct.run σ H1 _ ⟨lc, fun tp htp => ?_⟩
      have S2 := S1.allocN (o := .tup cs) htp
      obtain ⟨a, w, rfl, hA, _⟩ := caught_of S2.cold ok1
      exact ⟨a, _, fI, tp, w, cs, us, b, rfl, upd_same, hc, hA, T, hk, k _ _ _ (.dat (.bl b)) _ S2 s1 (.bl b) z⟩
def wWhat (K : PySem.W.Frag) (wa : WE) : WE := fun ρ Ψ => wa ρ fun r ρ1 => match r with
  | .dat (.err c d) => (∃ fI, ECl K (He.ga K c) fI) ∧ Ψ (.dat d) ρ1
  | _ => False
instance sd_what {ta : TE} {wa : WE} [a : Sd K ta wa] : Sd K (tWhatC K ta) (wWhat K wa) where
  run B C H σ ρ Q Ψ S h k := a.run B C H σ ρ _ _ S h fun C1 H1 v1 r1 ρ1 S1 s1 ok1 h1 => by
    cases r1 with
    | hot i ds => exact False.elim h1
    | box i n => exact False.elim h1
    | dat x =>
      cases x <;> try exact False.elim h1
      rename_i c d
      obtain ⟨⟨fI, T⟩, z⟩ := h1
      obtain ⟨a, w, rfl, hA, rw⟩ := caught_of S1.cold ok1
      exact ⟨a, _, fI, w, rfl, hA, T, k _ _ _ (.dat d) _ S1 s1 rw z⟩
theorem isE {root : Str} {cs : List Str} (h : errOk K root cs = true) {c e : Str} (hc : c ∈ cs) (he : e ∈ cs) : IsEv K c (.ref (He.ga K e)) (decide (e = c) || decide (e = root)) := ⟨_, _, .own _, err_cl h hc, err_is h hc he⟩
theorem isV {root : Str} {cs : List Str} (h : errOk K root cs = true) {c : Str} (hc : c ∈ cs) : IsEv K c (.ty "ValueError") true := ⟨_, _, .ty _, err_cl h hc, err_ve h hc⟩
theorem isEs {root : Str} {cs : List Str} (h : errOk K root cs = true) {c : Str} (hc : c ∈ cs) : ∀ es : List Str, (∀ e ∈ es, e ∈ cs) → es.length ≤ sizeLine → IsEvs K c (es.map fun e => .ref (He.ga K e)) (es.any fun e => decide (e = c) || decide (e = root)) := fun es he hl => by
  refine ⟨by rw [List.length_map]; exact hl, _, es.map fun e => .ref (He.ga K e), ?_, err_cl h hc, ?_⟩
  · clear he hl
    induction es with
    | nil => exact .nil
    | cons e es ih => exact .cons (.own _) ih
  · clear hl
    induction es with
    | nil => rfl
    | cons e es ih =>
      have h1 := err_is h hc (he e (List.mem_cons_self ..))
      show (match PySem.W.kitOne K (.ref (He.ga K c)) (.ref (He.ga K e)) with | some true => some true | some false => _ | none => none) = _
      rw [h1, List.any_cons]
      cases (decide (e = c) || decide (e = root)) with
      | true => rfl
      | false => exact ih fun x hx => he x (List.mem_cons_of_mem _ hx)

end
section
variable {P : Program} {w : World} {K : PySem.W.Frag} {mg : Str → Option Value} {base : Heap}
local macro_rules | `(tactic| get_elem_tactic_trivial) => `(tactic| (repeat first | exact Wk.nil | exact Wk'.nil | refine Wk.same ?_ | refine Wk'.same ?_ | refine Wk.un (fun _ z => nomatch z) ?_ | refine Wk'.un ?_))
/-! xs[i], xs[j] = a, b -/
/-! xs.pop(i), what it tells -/
/-! raising defs that tell new lists -/
/-! new lists that a raising call tells stay changeable -/

end
section
variable {P : Program} {w : World} {K : PySem.W.Frag} {mg : Str → Option Value} {base : Heap}
local macro_rules | `(tactic| get_elem_tactic_trivial) => `(tactic| (repeat first | exact Wk.nil | exact Wk'.nil | refine Wk.same ?_ | refine Wk'.same ?_ | refine Wk.un (fun _ z => nomatch z) ?_ | refine Wk'.un ?_))
/-! either raising call -/
/-! a def that tells a new list or another thing -/
def slotOf : Ro → Sl
  | .new ds => .hot ds
  | .dat d => .dat d

end
section
variable {P : Program} {w : World} {K : PySem.W.Frag} {mg : Str → Option Value} {base : Heap}
local macro_rules | `(tactic| get_elem_tactic_trivial) => `(tactic| (repeat first | exact Wk.nil | exact Wk'.nil | refine Wk.same ?_ | refine Wk'.same ?_ | refine Wk.un (fun _ z => nomatch z) ?_ | refine Wk'.un ?_))
/-! list(range(n)) -/

end
section
variable {P : Program} {w : World} {K : PySem.W.Frag} {mg : Str → Option Value} {base : Heap}
local macro_rules | `(tactic| get_elem_tactic_trivial) => `(tactic| (repeat first | exact Wk.nil | exact Wk'.nil | refine Wk.same ?_ | refine Wk'.same ?_ | refine Wk.un (fun _ z => nomatch z) ?_ | refine Wk'.un ?_))
/-! either of two new lists -/

end
section
variable {P : Program} {w : World} {K : PySem.W.Frag} {mg : Str → Option Value} {base : Heap}
local macro_rules | `(tactic| get_elem_tactic_trivial) => `(tactic| (repeat first | exact Wk.nil | exact Wk'.nil | refine Wk.same ?_ | refine Wk'.same ?_ | refine Wk.un (fun _ z => nomatch z) ?_ | refine Wk'.un ?_))
/-! methods that tell new lists -/
end
section
variable {P : Program} {w : World} {K : PySem.W.Frag} {mg : Str → Option Value} {base : Heap}
local macro_rules | `(tactic| get_elem_tactic_trivial) => `(tactic| (repeat first | exact Wk.nil | exact Wk'.nil | refine Wk.same ?_ | refine Wk'.same ?_ | refine Wk.un (fun _ z => nomatch z) ?_ | refine Wk'.un ?_))
/-! C(.., k=..): a thing made, its fields reckoned -/
/-! reading on heaps, over defs read on data -/
end
section
variable {P : Program} {w : World} {K : PySem.W.Frag} {mg : Str → Option Value} {base : Heap}
local macro_rules | `(tactic| get_elem_tactic_trivial) => `(tactic| (repeat first | exact Wk.nil | exact Wk'.nil | refine Wk.same ?_ | refine Wk'.same ?_ | refine Wk.un (fun _ z => nomatch z) ?_ | refine Wk'.un ?_))
/-! zip of two lists, or of two tuples -/
end
section
variable {P : Program} {w : World} {K : PySem.W.Frag} {mg : Str → Option Value} {base : Heap}
local macro_rules | `(tactic| get_elem_tactic_trivial) => `(tactic| (repeat first | exact Wk.nil | exact Wk'.nil | refine Wk.same ?_ | refine Wk'.same ?_ | refine Wk.un (fun _ z => nomatch z) ?_ | refine Wk'.un ?_))
/-! a new list that is only read from here on -/

end
section
variable {P : Program} {w : World} {K : PySem.W.Frag} {mg : Str → Option Value} {base : Heap}
local macro_rules | `(tactic| get_elem_tactic_trivial) => `(tactic| (repeat first | exact Wk.nil | exact Wk'.nil | refine Wk.same ?_ | refine Wk'.same ?_ | refine Wk.un (fun _ z => nomatch z) ?_ | refine Wk'.un ?_))
/-! try .. except C: raise D(..) from None, over data -/
end
section
variable {P : Program} {w : World} {K : PySem.W.Frag} {mg : Str → Option Value} {base : Heap}
local macro_rules | `(tactic| get_elem_tactic_trivial) => `(tactic| (repeat first | exact Wk.nil | exact Wk'.nil | refine Wk.same ?_ | refine Wk'.same ?_ | refine Wk.un (fun _ z => nomatch z) ?_ | refine Wk'.un ?_))
/-! divmod -/
end
section
variable {P : Program} {w : World} {K : PySem.W.Frag} {mg : Str → Option Value} {base : Heap}
local macro_rules | `(tactic| get_elem_tactic_trivial) => `(tactic| (repeat first | exact Wk.nil | exact Wk'.nil | refine Wk.same ?_ | refine Wk'.same ?_ | refine Wk.un (fun _ z => nomatch z) ?_ | refine Wk'.un ?_))
/-! things put together whose parts may raise -/
/-- as xd_sd, by a word (so it is found behind ∀ W) -/
def liftD (w : WE) : WEX := fun ρ Ψ _ => w ρ Ψ
instance (priority := 90) xd_sdL {W : WX} {t : TE} {w : WE} [a : Sd K t w] : Xd K W t (liftD w) := ⟨(xd_sd (K := K) (W := W) (t := t) (w := w)).run⟩
def liftS (w : WS) : WSX := fun ρ Φ _ => w ρ Φ
instance (priority := 90) xs_ssL {W : WX} {t : TS} {w : WS} [a : Ss K t w] : Xs K W t (liftS w) := ⟨(xs_ss (K := K) (W := W) (t := t) (w := w)).run⟩
end
section
variable {P : Program} {w : World} {K : PySem.W.Frag} {mg : Str → Option Value} {base : Heap}
local macro_rules | `(tactic| get_elem_tactic_trivial) => `(tactic| (repeat first | exact Wk.nil | exact Wk'.nil | refine Wk.same ?_ | refine Wk'.same ?_ | refine Wk.un (fun _ z => nomatch z) ?_ | refine Wk'.un ?_))
/-! a new drawer and another thing at once -/

end
section
variable {P : Program} {w : World} {K : PySem.W.Frag} {mg : Str → Option Value} {base : Heap}
local macro_rules | `(tactic| get_elem_tactic_trivial) => `(tactic| (repeat first | exact Wk.nil | exact Wk'.nil | refine Wk.same ?_ | refine Wk'.same ?_ | refine Wk.un (fun _ z => nomatch z) ?_ | refine Wk'.un ?_))
/-! level 2: lists that are changed wherever they stand, by their addresses -/
def Bs.hang (B : Bs) (U : Hp) : Bs := ⟨B.C0, fun a => match U a with | some o => some o | none => B.H0 a, B.bx⟩
section
variable {B : Bs} {C H U : Hp} {σ : L2.St} {ρ : List Sl} {μ : Mu}
theorem hang_at {a : Addr} {o : HO} (h : U a = some o) : (B.hang U).H0 a = some o := by
  show (match U a with | some o => some o | none => B.H0 a) = _
  rw [h]
theorem hang_off {a : Addr} (h : U a = none) : (B.hang U).H0 a = B.H0 a := by
  show (match U a with | some o => some o | none => B.H0 a) = _
  rw [h]
theorem hang_no {a : Addr} (h : (B.hang U).H0 a = none) : U a = none ∧ B.H0 a = none := by
  cases q : U a with
  | some o => rw [hang_at q] at h; cases h
  | none => rw [hang_off q] at h; exact ⟨rfl, h⟩
theorem hang_nil : B.hang (fun _ => none) = B := rfl
end

end
section
variable {P : Program} {w : World} {K : PySem.W.Frag} {mg : Str → Option Value} {base : Heap}
local macro_rules | `(tactic| get_elem_tactic_trivial) => `(tactic| (repeat first | exact Wk.nil | exact Wk'.nil | refine Wk.same ?_ | refine Wk'.same ?_ | refine Wk.un (fun _ z => nomatch z) ?_ | refine Wk'.un ?_))
/-! level 2: reading
-/
/-! what level 1 reads -/
end
section
variable {P : Program} {w : World} {K : PySem.W.Frag} {mg : Str → Option Value} {base : Heap}
local macro_rules | `(tactic| get_elem_tactic_trivial) => `(tactic| (repeat first | exact Wk.nil | exact Wk'.nil | refine Wk.same ?_ | refine Wk'.same ?_ | refine Wk.un (fun _ z => nomatch z) ?_ | refine Wk'.un ?_))
/-! arguments, tuples -/
/-! statements -/

end
section
variable {P : Program} {w : World} {K : PySem.W.Frag} {mg : Str → Option Value} {base : Heap}
local macro_rules | `(tactic| get_elem_tactic_trivial) => `(tactic| (repeat first | exact Wk.nil | exact Wk'.nil | refine Wk.same ?_ | refine Wk'.same ?_ | refine Wk.un (fun _ z => nomatch z) ?_ | refine Wk'.un ?_))
/-! level 2: lists changed, defs that tell such lists, reading all as it stands -/
end
section
variable {P : Program} {w : World} {K : PySem.W.Frag} {mg : Str → Option Value} {base : Heap}
local macro_rules | `(tactic| get_elem_tactic_trivial) => `(tactic| (repeat first | exact Wk.nil | exact Wk'.nil | refine Wk.same ?_ | refine Wk'.same ?_ | refine Wk.un (fun _ z => nomatch z) ?_ | refine Wk'.un ?_))
/-- many new lists at once -/
theorem Sep.hangAll {B : Bs} {C H U U' : Hp} {σ : L2.St} {ρ : List Sl} (S : Sep K (B.hang U) C H σ ρ) (h : ∀ a o, U' a = some o → H a = some o ∧ C a = none ∧ (B.hang U).H0 a = none ∧ ∀ (j : Nat) (t : Sl), ρ[j]? = some t → t.mut = true → σ[j]? ≠ some (some (V.ref a))) :
    Sep K (B.hang fun a => match U' a with | some o => some o | none => U a) C H σ ρ := by
  have at_ : ∀ {a : Addr} {o : HO}, U' a = some o → (B.hang fun a => match U' a with | some o => some o | none => U a).H0 a = some o := fun {a o} e => by
    show (match (match U' a with | some o => some o | none => U a) with | some o => some o | none => B.H0 a) = _
    rw [e]
  have off : ∀ {a : Addr}, U' a = none → (B.hang fun a => match U' a with | some o => some o | none => U a).H0 a = (B.hang U).H0 a := fun {a} e => by
    show (match (match U' a with | some o => some o | none => U a) with | some o => some o | none => B.H0 a) = (match U a with | some o => some o | none => B.H0 a)
    rw [e]
  have no : ∀ {a : Addr}, (∀ o, U' a ≠ some o) → U' a = none := fun {a} z => by
    cases q : U' a with
    | none => rfl
    | some o => exact absurd q (z o)
  refine ⟨S.cold, S.len, S.sl, S.ne, S.grow, fun a x e n => ?_, fun a g => ?_, fun a x g n => ?_, fun i a ds g e => ?_, fun i a n g e => ?_, S.par, S.pz⟩
  · rw [off (no fun o q => by rw [(h a o q).2.1] at e; cases e)]
    exact S.new a x e n
  · cases q : U' a with
    | some o => rw [(h a o q).1]; exact fun z => nomatch z
    | none => rw [off q] at g; exact S.dom a g
  · cases q : U' a with
    | some o =>
      rw [at_ q] at g
      cases g
      exact (h a _ q).1
    | none => rw [off q] at g; exact S.keep a x g n
  · rw [off (no fun o q => (h a o q).2.2.2 i _ g rfl e)]
    exact S.loc i a ds g e
  · rw [off (no fun o q => (h a o q).2.2.2 i _ g rfl e)]
    exact S.lob i a n g e

end
section
variable {P : Program} {w : World} {K : PySem.W.Frag} {mg : Str → Option Value} {base : Heap}
local macro_rules | `(tactic| get_elem_tactic_trivial) => `(tactic| (repeat first | exact Wk.nil | exact Wk'.nil | refine Wk.same ?_ | refine Wk'.same ?_ | refine Wk.un (fun _ z => nomatch z) ?_ | refine Wk'.un ?_))
/-! level 2: all read as it stands -/
end
section
variable {P : Program} {w : World} {K : PySem.W.Frag} {mg : Str → Option Value} {base : Heap}
local macro_rules | `(tactic| get_elem_tactic_trivial) => `(tactic| (repeat first | exact Wk.nil | exact Wk'.nil | refine Wk.same ?_ | refine Wk'.same ?_ | refine Wk.un (fun _ z => nomatch z) ?_ | refine Wk'.un ?_))
/-! level 2: bodies -/

end
section
variable {P : Program} {w : World} {K : PySem.W.Frag} {mg : Str → Option Value} {base : Heap}
local macro_rules | `(tactic| get_elem_tactic_trivial) => `(tactic| (repeat first | exact Wk.nil | exact Wk'.nil | refine Wk.same ?_ | refine Wk'.same ?_ | refine Wk.un (fun _ z => nomatch z) ?_ | refine Wk'.un ?_))
/-! level 2: lists that are only read from here on -/
def orU (U C : Hp) : Hp := fun a => match U a with | some o => some o | none => C a
theorem orU_at {U C : Hp} {a : Addr} {o : HO} (e : U a = some o) : orU U C a = some o := by
  unfold orU
  rw [e]
theorem orU_off {U C : Hp} {a : Addr} (e : U a = none) : orU U C a = C a := by
  unfold orU
  rw [e]
/-! a try whose body never raises -/
end
section
variable {P : Program} {w : World} {K : PySem.W.Frag} {mg : Str → Option Value} {base : Heap}
local macro_rules | `(tactic| get_elem_tactic_trivial) => `(tactic| (repeat first | exact Wk.nil | exact Wk'.nil | refine Wk.same ?_ | refine Wk'.same ?_ | refine Wk.un (fun _ z => nomatch z) ?_ | refine Wk'.un ?_))
/-! C(), C(k=..): what is left out as the def has it -/

end
section
variable {P : Program} {w : World} {K : PySem.W.Frag} {mg : Str → Option Value} {base : Heap}
local macro_rules | `(tactic| get_elem_tactic_trivial) => `(tactic| (repeat first | exact Wk.nil | exact Wk'.nil | refine Wk.same ?_ | refine Wk'.same ?_ | refine Wk.un (fun _ z => nomatch z) ?_ | refine Wk'.un ?_))
/-! statements that are never reached -/
/-! level 2: a number read with all lists as they stand -/
/-! divmod of numbers of any size -/

end
section
variable {P : Program} {w : World} {K : PySem.W.Frag} {mg : Str → Option Value} {base : Heap}
local macro_rules | `(tactic| get_elem_tactic_trivial) => `(tactic| (repeat first | exact Wk.nil | exact Wk'.nil | refine Wk.same ?_ | refine Wk'.same ?_ | refine Wk.un (fun _ z => nomatch z) ?_ | refine Wk'.un ?_))
/-! wide numbers shown -/
end
section
variable {P : Program} {w : World} {K : PySem.W.Frag} {mg : Str → Option Value} {base : Heap}
local macro_rules | `(tactic| get_elem_tactic_trivial) => `(tactic| (repeat first | exact Wk.nil | exact Wk'.nil | refine Wk.same ?_ | refine Wk'.same ?_ | refine Wk.un (fun _ z => nomatch z) ?_ | refine Wk'.un ?_))

end
section
variable {P : Program} {w : World} {K : PySem.W.Frag} {mg : Str → Option Value} {base : Heap}
local macro_rules | `(tactic| get_elem_tactic_trivial) => `(tactic| (repeat first | exact Wk.nil | exact Wk'.nil | refine Wk.same ?_ | refine Wk'.same ?_ | refine Wk.un (fun _ z => nomatch z) ?_ | refine Wk'.un ?_))
/-! level 2: chunks read, copied, changed, walked -/
/-! for x in a chunk: it keeps its length N -/
/-! a new list of numbers, read with all chunks as they stand -/

end
section
variable {P : Program} {w : World} {K : PySem.W.Frag} {mg : Str → Option Value} {base : Heap}
local macro_rules | `(tactic| get_elem_tactic_trivial) => `(tactic| (repeat first | exact Wk.nil | exact Wk'.nil | refine Wk.same ?_ | refine Wk'.same ?_ | refine Wk.un (fun _ z => nomatch z) ?_ | refine Wk'.un ?_))
/-! level 2: defs that tell lists of their own, called by keywords; chunks in another order -/

end
section
variable {P : Program} {w : World} {K : PySem.W.Frag} {mg : Str → Option Value} {base : Heap}
local macro_rules | `(tactic| get_elem_tactic_trivial) => `(tactic| (repeat first | exact Wk.nil | exact Wk'.nil | refine Wk.same ?_ | refine Wk'.same ?_ | refine Wk.un (fun _ z => nomatch z) ?_ | refine Wk'.un ?_))
/-! level 2 left: all chunks grow cold, the rest is read at level 1 -/

end
section
variable {P : Program} {w : World} {K : PySem.W.Frag} {mg : Str → Option Value} {base : Heap}
local macro_rules | `(tactic| get_elem_tactic_trivial) => `(tactic| (repeat first | exact Wk.nil | exact Wk'.nil | refine Wk.same ?_ | refine Wk'.same ?_ | refine Wk.un (fun _ z => nomatch z) ?_ | refine Wk'.un ?_))
/-! level 2: comprehensions whose parts are chunks, clear, either of two, a try that never raises -/
/-! a test that only reads leaves lists changeable -/

end
section
variable {P : Program} {w : World} {K : PySem.W.Frag} {mg : Str → Option Value} {base : Heap}
local macro_rules | `(tactic| get_elem_tactic_trivial) => `(tactic| (repeat first | exact Wk.nil | exact Wk'.nil | refine Wk.same ?_ | refine Wk'.same ?_ | refine Wk.un (fun _ z => nomatch z) ?_ | refine Wk'.un ?_))
/-! enumerate over zip: the zip's tuples stay out -/
section
variable {prog : Program} {w : World} {A : Around} {E : Value → Shared → Prop} {s : Shared}
variable {z TI TO i1 i2 : Addr} {fp1 fp2 : List Addr} {n1 n2 i : Nat} {P1 P2 : Nat → Value → Prop} {St1 St2 : Nat → Heap → Prop}
end
end
section
variable {P : Program} {w : World} {K : PySem.W.Frag} {mg : Str → Option Value} {base : Heap}
local macro_rules | `(tactic| get_elem_tactic_trivial) => `(tactic| (repeat first | exact Wk.nil | exact Wk'.nil | refine Wk.same ?_ | refine Wk'.same ?_ | refine Wk.un (fun _ z => nomatch z) ?_ | refine Wk'.un ?_))
section
variable {prog : Program} {w : World} {A : Around} {E : Value → Shared → Prop} {s : Shared} {z TI TO i1 i2 : Addr} {fp1 fp2 : List Addr} {n1 n2 i : Nat} {P1 P2 : Nat → Value → Prop} {St1 St2 : Nat → Heap → Prop}
end

end
section
variable {P : Program} {w : World} {K : PySem.W.Frag} {mg : Str → Option Value} {base : Heap}
local macro_rules | `(tactic| get_elem_tactic_trivial) => `(tactic| (repeat first | exact Wk.nil | exact Wk'.nil | refine Wk.same ?_ | refine Wk'.same ?_ | refine Wk.un (fun _ z => nomatch z) ?_ | refine Wk'.un ?_))
/-! the turn -/
section
variable {X : Cx} {pins : List (Addr × Obj)} {σ : L2.St} {H : Hp} {s : Shared}
end

end
section
variable {P : Program} {w : World} {K : PySem.W.Frag} {mg : Str → Option Value} {base : Heap}
local macro_rules | `(tactic| get_elem_tactic_trivial) => `(tactic| (repeat first | exact Wk.nil | exact Wk'.nil | refine Wk.same ?_ | refine Wk'.same ?_ | refine Wk.un (fun _ z => nomatch z) ?_ | refine Wk'.un ?_))
/-! enumerate(zip(..)) walked -/

end
section
variable {P : Program} {w : World} {K : PySem.W.Frag} {mg : Str → Option Value} {base : Heap}
local macro_rules | `(tactic| get_elem_tactic_trivial) => `(tactic| (repeat first | exact Wk.nil | exact Wk'.nil | refine Wk.same ?_ | refine Wk'.same ?_ | refine Wk.un (fun _ z => nomatch z) ?_ | refine Wk'.un ?_))
/-! a += b, break, continue -/

end
section
variable {P : Program} {w : World} {K : PySem.W.Frag} {mg : Str → Option Value} {base : Heap}
local macro_rules | `(tactic| get_elem_tactic_trivial) => `(tactic| (repeat first | exact Wk.nil | exact Wk'.nil | refine Wk.same ?_ | refine Wk'.same ?_ | refine Wk.un (fun _ z => nomatch z) ?_ | refine Wk'.un ?_))
/-! comprehensions whose parts may raise; promises of defs that raise now and then -/

/-! x.append(..) of what may raise -/

end
section
variable {P : Program} {w : World} {K : PySem.W.Frag} {mg : Str → Option Value} {base : Heap}
local macro_rules | `(tactic| get_elem_tactic_trivial) => `(tactic| (repeat first | exact Wk.nil | exact Wk'.nil | refine Wk.same ?_ | refine Wk'.same ?_ | refine Wk.un (fun _ z => nomatch z) ?_ | refine Wk'.un ?_))
/-! level 2: x.pop(i) of a chunk -/
/-! {..}[x] of three texts -/

end
section
variable {P : Program} {w : World} {K : PySem.W.Frag} {mg : Str → Option Value} {base : Heap}
local macro_rules | `(tactic| get_elem_tactic_trivial) => `(tactic| (repeat first | exact Wk.nil | exact Wk'.nil | refine Wk.same ?_ | refine Wk'.same ?_ | refine Wk.un (fun _ z => nomatch z) ?_ | refine Wk'.un ?_))
/-! x != y of two things with an own ==, where no own != stands -/
section
variable {prog : Program} {A : Around} {E : Value → Shared → Prop} {s : Shared} {x y C f : Addr} {ox : Obj} {od : Option Obj}
theorem ifBoundB_K {M : Model} {id : String} {name : Str} {args : List Value} {Q : Option Value → Shared → Prop} (X : K.In s.heap) (I : PySem.W.InstAt s.heap x ox C od) (hs : PySem.W.findIn K (.ref C) name = some (some (.builtin id))) (hb : ∀ self, bindSpecial (.builtin id) self = pure (.builtin id, [self]))
    (h : wpAny M A (call (.builtin id) (.ref x :: args)) (fun v => Q (some v)) E s) : wpAny M A (callSpecialIfBound? (.ref x) name args) Q E s := by
  simp only [callSpecialIfBound?, bindSpecialIfBound?]
  refine wpAny_holding (wpAny_bind (wpAny_bind (wpAny_bind (I.type.here ((PySem.W.looks_findIn X hs).here ?_)))))
  simp only [hb]
  refine wpAny_bind (wpAny_askSetting (wpAny_ite ?_))
  have fin : wpAny M A (call (.builtin id) ([.ref x] ++ args) >>= fun v => pure (some v)) Q E s := wpAny_bind (wpAny_mono h (fun v s' h' => wpAny_pure h') fun _ _ h' => h')
  split
  · exact wpAny_bind (wpAny_pure (wpAny_pure fin))
  · exact wpAny_tryCatch (wpAny_bind (wpAny_pure (wpAny_pure fin)))
theorem check_slot_K {M : Model} {id owner n : String} {rest : List Value} {Q : Unit → Shared → Prop} (hk : builtinKind id = some .slot) (hs : splitId id = some (owner, n)) (ha : argsOk id ⟨.ref x :: rest, []⟩) (X : K.In s.heap) (I : PySem.W.InstAt s.heap x ox C od)
    (hsub : PySem.W.subIn K (.ref C) (.type owner) = some true) (hq : Q () s) : wpAny M A (checkBuiltinCall id ⟨.ref x :: rest, []⟩) Q E s := by
  simp only [checkBuiltinCall, hk, hs]
  refine wpAny_bind ?_
  first
  | refine wpAny_bind (wpAny_bind (I.type.here ((PySem.W.looks_subIn X hsub).here ?_)))
  | refine wpAny_bind (I.type.here ((PySem.W.looks_subIn X hsub).here ?_))
  | (unfold isInstance; refine wpAny_bind (wpAny_bind (I.type.here ((PySem.W.looks_subIn X hsub).here ?_))))
  | (unfold isInstance; refine wpAny_bind (I.type.here (wpAny_bind ((PySem.W.looks_subIn X hsub).here ?_))))
  simp only [Bool.not_true, Bool.false_eq_true, if_false]
  cases hsig : Manifest.signature? id with
  | none => exact wpAny_pure hq
  | some sig =>
    simp only [argsOk, hsig] at ha
    have h2 : Bind.checkArgs id sig ⟨.ref x :: rest, []⟩ = pure () := ha
    show wpAny M A (Bind.checkArgs id sig ⟨.ref x :: rest, []⟩) Q E _
    rw [h2]; exact wpAny_pure hq
theorem obj_ne_K {Q : Fin → Shared → Prop} (X : K.In s.heap) (I : PySem.W.InstAt s.heap x ox C od) (hu : A.units < cLine) (hs : PySem.W.findIn K (.ref C) "__eq__" = some (some (.ref f))) (hf : PySem.W.isFn K (.ref f) = true)
    (h : wpAny (model prog w) A (call (.ref f) [.ref x, .ref y]) (fun v s' => ∃ b, v = .bool b ∧ Q (.done (.ret (.bool (!b)))) s') E s) :
    wpAny (model prog w) A (Builtin.«object.__ne__» ⟨[.ref x, .ref y], []⟩) Q E s := by
  obtain ⟨hp, g, d, t, os⟩ := s
  unfold Builtin.«object.__ne__»
  repeat (first
    | with_reducible refine wpAny_cRoomFor hu ?_
    | (refine wpAny_bind (m := callSpecialIfBound? (.ref x) (Str.ofString "__eq__") [.ref y])
        (PySem.W.ifBound_K X I hs hf (wpAny_mono h (fun r s' hr => by
          obtain ⟨b, rfl, hq⟩ := hr
          repeat (first | exact hq | exact wpAny_pure hq | exact wpAny_truthy_bool hq | (refine wpAny_bind (m := truthy (.bool _)) (wpAny_truthy_bool ?_)) | wp_step)) fun _ _ e => e)))
    | wp_step)
theorem rc_ne_K {Q : Value → Shared → Prop} (X : K.In s.heap) (I : PySem.W.InstAt s.heap x ox C od) (hy : PySem.W.Looks (model prog w) s.heap (typeOf (.ref y)) (.ref C)) (hu : A.units + 1 < cLine)
    (hn : PySem.W.findIn K (.ref C) "__ne__" = some (some (.builtin "object.__ne__"))) (ho : PySem.W.subIn K (.ref C) (.type "object") = some true) (hs : PySem.W.findIn K (.ref C) "__eq__" = some (some (.ref f))) (hf : PySem.W.isFn K (.ref f) = true)
    (h : wpAny (model prog w) A.in1 (call (.ref f) [.ref x, .ref y]) (fun v s' => ∃ b, v = .bool b ∧ Q (.bool (!b)) s') E s) :
    wpAny (model prog w) A (richCompare .NotEq (.ref x) (.ref y)) Q E s := by
  have FB := PySem.F.cmp_object
  have one : wpAny (model prog w) A (tryCompare (.ref x) "__ne__" (.ref y)) (fun r s' => ∃ v, r = some v ∧ Q v s') E s := by
    unfold tryCompare
    refine wpAny_bind (ifBoundB_K X I hn FB.ne.bind (wpAny_call (codeAny_call_builtin FB.ne.plain PySem.F.cmpEntry_ne (check_slot_K PySem.F.cmpKind_ne PySem.F.cmpSplit_ne (PySem.F.cmpArgs_ne _ _) X I ho
      (obj_ne_K (A := A.in1) X I (by show A.in1.units < cLine; exact hu) hs hf (wpAny_mono h (fun v s' hv => ?_) fun _ _ e => e))))))
    obtain ⟨b, rfl, hq⟩ := hv
    first | exact ⟨b, rfl, wpAny_pure ⟨_, rfl, hq⟩⟩ | exact ⟨b, rfl, wpAny_pure (wpAny_pure ⟨_, rfl, hq⟩)⟩ | exact ⟨b, rfl, ⟨_, rfl, hq⟩⟩
  unfold richCompare
  simp only [oneThing_ref]
  refine wpAny_holding (wpAny_bind (wpAny_cRoomFor (Nat.lt_of_succ_lt hu) ?_))
  rw [cmpInfo_NotEq]
  dsimp only
  refine wpAny_bind (I.type.here (wpAny_bind (hy.here ?_)))
  rw [show (Value.ref C != Value.ref C) = false from by simp]
  simp only [Bool.false_eq_true, if_false]
  refine wpAny_bind (wpAny_pure ?_)
  simp only [Bool.false_eq_true, if_false]
  refine wpAny_bind (wpAny_mono one (fun r s' z => ?_) fun _ _ e => e)
  obtain ⟨v, rfl, hq⟩ := z
  exact wpAny_pure hq
end
def rNeOwn (C : Addr) (sp : Sp) : R2 := fun x y H Q => ∃ a b dx dy fs gs, x = .ref a ∧ y = .ref b ∧ H a = some (.ins C dx fs) ∧ H b = some (.ins C dy gs) ∧ sp [x, y] H (fun v G => ∃ t, v = .bl t ∧ Q (.bl (!t)) G) E0
theorem opNeOwn {X : Cx} {C f : Addr} {fd : FuncData} {ps : List Str} {n : Nat} {sp : Sp} (hn : PySem.W.findIn X.K (.ref C) "__ne__" = some (some (.builtin "object.__ne__"))) (ho : PySem.W.subIn X.K (.ref C) (.type "object") = some true) (M : Meth X.K C "__eq__" f)
    (F : FnOk X.prog X.w X.K X.mg X.base CX0 n f fd ps sp) (hb : Binds X.K fd ps []) (hr : Room (n + 1) X.A) : OpR X (compareOp .NotEq) (rNeOwn C sp) := by
  intro pins s σ H x y v u Q I rx ry hq
  obtain ⟨a, b, dx, dy, fs, gs, rfl, rfl, ha, hb', hsp⟩ := hq
  show wpAny (model X.prog X.w) X.A (richCompare .NotEq v u) (EP X pins σ Q) X.xe s
  cases rx
  cases ry
  obtain ⟨mA, J, _⟩ := ins_get I.hok ha
  obtain ⟨mB, J', _⟩ := ins_get I.hok hb'
  obtain ⟨od, J, _⟩ := J.look
  obtain ⟨od', J', _⟩ := J'.look
  refine rc_ne_K I.kIn J J'.type hr.in1.units0 hn ho M.at_ M.fn ?_
  have e0 : Env0 X.prog X.w X.K X.mg X.base X.A.in1 X.stack s H := I.env0.in1
  have hl := F.len _ _ _ _ hsp
  have r2 : Vals [V.ref a, V.ref b] [Value.ref a, Value.ref b] := .cons rfl (.cons rfl .nil)
  refine wpAny_call (codeAny_mono (F.run X.A.in1 X.stack s H ⟨[.ref a, .ref b], []⟩ [.ref a, .ref b] [.ref a, .ref b] _ E0 hr.in1 e0 (by
    have := hb s [.ref a, .ref b] I.kIn (by simpa using hl)
    simpa using this) r2 hsp) fun r s' hq => ?_)
  cases r with
  | error e => exact False.elim hq
  | ok fl =>
    cases fl with
    | ret w =>
      obtain ⟨z, H', I', rz, t, ez, q⟩ := I.after hq
      subst ez
      cases rz
      exact ⟨t, rfl, .bl (!t), H', I', rfl, q⟩
    | next => exact False.elim hq
    | brk => exact False.elim hq
    | cont => exact False.elim hq
def oNeOwn (c : Str) (wf : WF) : Dt → Dt → (Dt → Prop) → Prop := fun dx dy Φ => (∃ ns ds, dx = .obj c ns ds) ∧ (∃ ns ds, dy = .obj c ns ds) ∧ wf [.dat dx, .dat dy] fun r _ => ∃ t, r = .dat (.bl t) ∧ Φ (.bl (!t))
instance so_neOwn {c : Str} {wf : WF} : So K (rNeOwn (He.ga K c) (spD K 2 wf)) (oNeOwn c wf) where
  run B C H σ ρ x y dx dy Q Φ S hx hy h k := by
    obtain ⟨⟨ns, ds, rfl⟩, ⟨ms, es, rfl⟩, h⟩ := h
    have rx : Rp K C x (.obj c ns ds) := by
      rcases hx with hx | ⟨_, _, _, _, e, _⟩
      · exact hx
      · cases e
    have ry : Rp K C y (.obj c ms es) := by
      rcases hy with hy | ⟨_, _, _, _, e, _⟩
      · exact hy
      · cases e
    cases id rx with
    | obj a1 a2 a3 a4 =>
      cases id ry with
      | obj b1 b2 b3 b4 =>
        refine ⟨_, _, _, _, _, _, rfl, rfl, S.cold _ _ a1, S.cold _ _ b1, rfl, C, none, _, _, sep_dats S (.cons rx (.cons ry .nil)), h, fun C' G v r ps' S' ok z => ?_⟩
        obtain ⟨t, rfl, z⟩ := z
        cases ok
        exact ⟨t, rfl, k C' G _ (.bl (!t)) (S.after S') S'.grow (.bl _) z⟩

end
section
variable {P : Program} {w : World} {K : PySem.W.Frag} {mg : Str → Option Value} {base : Heap}
local macro_rules | `(tactic| get_elem_tactic_trivial) => `(tactic| (repeat first | exact Wk.nil | exact Wk'.nil | refine Wk.same ?_ | refine Wk'.same ?_ | refine Wk.un (fun _ z => nomatch z) ?_ | refine Wk'.un ?_))
/-- what is looked up of a class with an own == -/
structure IsF (K : PySem.W.Frag) (C : Addr) : Prop where
  ne : PySem.W.findIn K (.ref C) "__ne__" = some (some (.builtin "object.__ne__"))
  ob : PySem.W.subIn K (.ref C) (.type "object") = some true
  ha : PySem.W.findIn K (.ref C) "__class__" = some (some (.builtin "object.__class__"))
  hn : PySem.W.specialIn K (.builtin "object.__class__") "__get__" = some (some (.builtin "getset_descriptor.__get__"))
  ht : PySem.W.takesIn K (.builtin "object.__class__") = some true
  hm : PySem.W.mroIn K C (.type "object") = some true
theorem neD_is {c : Str} (h : neD K c = true) : IsF K (He.ga K c) := by
  unfold neD at h
  simp only [Bool.and_eq_true] at h
  obtain ⟨⟨⟨⟨⟨h1, h2⟩, h3⟩, h4⟩, h5⟩, h6⟩ := h
  exact ⟨eq_of_beq h1, eq_of_beq h2, eq_of_beq h3, eq_of_beq h4, eq_of_beq h5, eq_of_beq h6⟩
/-! isinstance of a thing of one's own, of its very class -/
theorem kit_same {C : Addr} : PySem.W.kitOne K (.ref C) (.ref C) = some true := by
  unfold PySem.W.kitOne
  simp
/-! o.m(k=..) with its names in any order; C(k=..) turned -/

end
section
variable {P : Program} {w : World} {K : PySem.W.Frag} {mg : Str → Option Value} {base : Heap}
local macro_rules | `(tactic| get_elem_tactic_trivial) => `(tactic| (repeat first | exact Wk.nil | exact Wk'.nil | refine Wk.same ?_ | refine Wk'.same ?_ | refine Wk.un (fun _ z => nomatch z) ?_ | refine Wk'.un ?_))
/-! comprehensions whose element may raise: the block's exception is noted by the def's own frame, the block's names are let go, and it flies on -/
end
end Sl
namespace L2
open PySem PySem.Spec PyProof.Rows
theorem note_env (e : Value) {ce env : Env} (h : ce.frame = env.frame) : noteFrame e ce = noteFrame e env := by
  have q : PySem.frameOf ce = PySem.frameOf env := by unfold PySem.frameOf; rw [h]
  unfold noteFrame; rw [h, q]
theorem ns_up {h h' : Heap} {L : Addr} {m : Str → Option Value} (hn : h.Ns L m) (hk : h.UpToSlots h') : h'.Ns L m := by
  obtain ⟨o, es, ep, e, d, r⟩ := hn
  obtain ⟨sl, q⟩ := hk L o e fun vs z => by rw [d] at z; cases z
  exact ⟨_, es, ep, q, d, r⟩
theorem frames_but {h h' bg : Heap} {L : Addr} {m : Str → Option Value} (hs : Heap.SameBut L h h') (hn : h'.Ns L m) : ∀ {l : List Env}, h.FunFrames bg l → h'.FunFrames bg l
  | [], _ => trivial
  | _ :: _, ⟨k, ⟨L', o, f, b, ho, d⟩, r⟩ => by
    refine ⟨k, ?_, frames_but hs hn r⟩
    rcases Classical.em (L' = L) with q | q
    · obtain ⟨u, es, ep, hu, du, _⟩ := hn
      exact ⟨L', u, f, b, by rw [q]; exact hu, fun vs z => by rw [du] at z; cases z⟩
    · exact ⟨L', o, f, b, (hs.2 L' q).trans ho, d⟩
theorem traced_but {h h' bg : Heap} {e L : Addr} {Z : Obj → Prop} {fl : Value} {m : Str → Option Value} (x : HandSPX.TracedZ h bg e Z fl) (hn : h.Ns L m) (hs : Heap.SameBut L h h') : HandSPX.TracedZ h' bg e Z fl := by
  obtain ⟨oe, vs, T, oT, ts, he, hz, d, h1, hb, hT, eT, dT, h3⟩ := x
  obtain ⟨o, es, ep, ho, dd, _⟩ := hn
  have ne : ∀ b u, h.get? b = some u → (∃ vs, u.data = .fields vs) → b ≠ L := fun b u q ⟨vs, z⟩ w => by
    rw [w, ho] at q
    cases q
    rw [dd] at z
    cases z
  exact ⟨oe, vs, T, oT, ts, (hs.2 _ (ne _ _ he ⟨_, d⟩)).trans he, hz, d, h1, hb, hT, (hs.2 _ (ne _ _ eT ⟨_, dT⟩)).trans eT, dT, h3⟩
section
variable {M : Model} {A : Around} {E : Value → Shared → Prop} {s' : Shared} {bg : Heap} {env ce : Env} {outer : List Env} {e L : Addr} {Z : Obj → Prop} {m : Str → Option Value}
theorem noted_lc (hZ : HandSPX.Steady Z) (hfr : A.frames = some (env :: outer)) (hcf : ce.frame = env.frame) (hf : env.frame = some L) (hb : bg.get? ce.locals = none) (hn : s'.heap.Ns ce.locals m) (fl : HandSPX.FlyingZ bg (env :: outer) e Z s'.heap)
    (hQ : ∀ h', HandSPX.HeldZ bg (env :: outer) e Z L h' → (∀ b o, s'.heap.get? b = some o → b ≠ ce.locals → (∀ vs, o.data ≠ .fields vs) → ∃ sl, h'.get? b = some { o with slots := sl }) → E (.ref e) { s' with heap := h' }) :
    notedBy M A ce (CompFails M A E ce) (.ref e) s' := by
  show wpAny M A (noteFrame (.ref e) ce) _ _ s'
  rw [note_env _ hcf]
  refine HandSPX.looks_onZ hZ hfr hf fl fun h1 ⟨b1, b0, f1, t1⟩ k1 => ⟨m, ns_up hn k1, fun h2 m2 n2 sb => ?_⟩
  have st : bg.StaysIn h2 := fun b o q => (sb.2 b fun z => by rw [z, hb] at q; cases q).trans (b1 b o q)
  have t2 := traced_but t1 (ns_up hn k1) sb
  have f2 := frames_but sb n2 f1
  obtain ⟨oe, vs, T, oT, ts, he, _, d, h1', _⟩ := id t2
  unfold PySem.passOn
  refine wpAny_bind (wpAny_field he d h1' ?_)
  rw [if_neg (show ¬ ((Value.ref T == Value.none) = true) from by simp), hcf, hf]
  refine wpAny_bind (HandSPX.setFlight_onZ ⟨st, b0, f2, t2⟩ fun h3 hh k3 => wpAny_throw (hQ h3 hh fun b o q n nf => ?_))
  obtain ⟨sl, q1⟩ := k1 b o q nf
  obtain ⟨sl', q2⟩ := k3 b _ ((sb.2 b n).trans q1) nf
  exact ⟨sl', q2⟩
end
/-- an exception of a call in flight over the block -/
def XEF (X : Cx) (W : WX) (u : Value) (s' : Shared) : Prop :=
  ∃ (a : Addr) (B : Heap) (sI : Shared) (pins : List (Addr × Obj)) (σ : St) (H : Hp) (cls : Value) (d : Option Addr), u = .ref a ∧ Inv X pins σ H sI ∧ (∀ b o, sI.heap.get? b = some o → b ∉ frs X.stack → B.get? b = some o) ∧ sI.heap.UpToSlots s'.heap ∧
    HandSPX.FlyingZ B X.stack a (Zc cls d) s'.heap ∧ H a = none ∧ s'.os = sI.os ∧ AllBare s'.gens ∧ W cls d σ H
section
variable {X : Cx} {pins : List (Addr × Obj)} {σ : St} {H : Hp} {s s' : Shared} {W : WX} {E : XK}
theorem XEF.of_call (I : Inv X pins σ H s) (hW : ∀ cls d H', E cls d H' → W cls d σ H') {u : Value} (c : CX X.prog X.w X.stack H s E u s') : XEF X W u s' := by
  obtain ⟨a, B, H', cls, d, rfl, fl, hok, ub, na, os, ag, hE⟩ := c
  obtain ⟨G, g1, g2⟩ := restrict s'.heap fun b => (B.get? b).isSome || decide (b ∈ frs X.stack)
  have gB : ∀ b o, B.get? b = some o → G.get? b = some o := fun b o q => (g1 b (by simp [q])).trans (fl.1 b o q)
  have gF : ∀ b, b ∈ frs X.stack → G.get? b = s'.heap.get? b := fun b hb => g1 b (by simp [hb])
  have og : ∀ b o, G.get? b = some o → s'.heap.get? b = some o ∧ ((B.get? b).isSome = true ∨ b ∈ frs X.stack) := fun b o q => by
    by_cases z : ((B.get? b).isSome || decide (b ∈ frs X.stack)) = true
    · rw [g1 b z] at q
      exact ⟨q, by simpa [Bool.or_eq_true] using z⟩
    · rw [g2 b (Bool.not_eq_true _ ▸ z)] at q
      cases q
  have J : Inv X pins σ H' { s with heap := G, gens := s'.gens, drawn := s'.drawn, toks := s'.toks } :=
    I.call (ch := []) ⟨fun b o q n hb _ => gB b o (ub.keep b o q n hb), fun b o q _ hb _ => (ub.slot b o q hb).imp fun sl z => (gF b hb).trans z, fun b o q n _ => ub.free b o q n, fun b o q _ => by
      rcases Classical.em (b ∈ frs X.stack) with hb | hb
      · obtain ⟨sl, z⟩ := ub.slot b o q hb
        exact ⟨_, (gF b hb).trans z⟩
      · obtain ⟨o', z⟩ := ub.there b o q hb
        exact ⟨o', gB b o' z⟩, ub.tups, ub.frzs, ub.tbls⟩ (hok.kept gB) ag (fun _ z => nomatch z)
  refine ⟨a, B, _, pins, σ, H', cls, d, rfl, J, fun b o q hb => ?_, Heap.UpToSlots.of_keeps fun b o q => (og b o q).1, fl, na, os, ag, hW _ _ _ hE⟩
  obtain ⟨q', z⟩ := og b o q
  rcases z with z | z
  · obtain ⟨o', z⟩ := Option.isSome_iff_exists.mp z
    have y := fl.1 b o' z
    rw [q'] at y
    cases y
    exact z
  · exact absurd z hb
/-- the block, where its exceptions are told -/
abbrev Cx.blkX (X : Cx) (W : WX) (s : Shared) (H : Hp) (scope : Scope) (ce : Env) (fp : List Addr) : Cx := (X.blk s H scope ce fp).wish (XEF (X.blk s H scope ce fp) W)
theorem passB {W : WX} {s0 : Shared} {H0 : Hp} {scope : Scope} {ce : Env} {fp : List Addr} (σ : St) : PassesAt (L2.CX (X.blkX W s0 H0 scope ce fp).prog (X.blkX W s0 H0 scope ce fp).w) (X.blkX W s0 H0 scope ce fp) σ (WE W σ) :=
  fun _ _ _ _ _ I c => XEF.of_call (X := X.blk s0 H0 scope ce fp) (Inv.unwish I) (fun _ _ _ h => h) c
/-- the block's exception, in the def's air -/
theorem blk_out {s3 : Shared} {H3 : Hp} {scope : Scope} {ce : Env} {fp : List Addr} {u : Value} (I3 : Inv X pins σ H3 s3) (f3 : ∀ b ∈ fp, FpOk X pins H3 b ∧ b < s3.heap.objs.size) (hC : ce.locals = s3.heap.objs.size) (hcf : ce.frame = X.env.frame)
    (hst : X.stack = X.env :: X.outer) (hf : X.env.frame = some X.env.locals) {E : XK} (tk : Takes X (fun cls d _ H => E cls d H)) (x : XEF (X.blk s3 H3 scope ce fp) (fun cls d _ H => E cls d H) u s') : notedBy (model X.prog X.w) X.A ce (CompFails (model X.prog X.w) X.A X.xe ce) u s' := by
  obtain ⟨a, B, sI, pi, σ', H', cls, d, rfl, I, nb, up, fl, na, os, ag, w⟩ := x
  obtain ⟨m, hn, _⟩ := I.loc
  have hn : sI.heap.Ns ce.locals m := hn
  have hid : ∀ (h : Heap) b o, (PySem.W.hideAll h [ce.locals]).get? b = some o → h.get? b = some o ∧ b ≠ ce.locals := fun h b o q => ⟨PySem.W.of_hideAll _ q, fun z => by
    rw [PySem.W.hideAll_none [ce.locals] (by simp [z])] at q
    cases q⟩
  have sh : ∀ (h : Heap) b o, h.get? b = some o → b ≠ ce.locals → (PySem.W.hideAll h [ce.locals]).get? b = some o := fun h b o q n => PySem.W.hideAll_get _ q (by simpa using n)
  have no : ∀ b, B.get? b = none → (PySem.W.hideAll B [ce.locals]).get? b = none := fun b q => by
    cases z : (PySem.W.hideAll B [ce.locals]).get? b with
    | none => rfl
    | some o => rw [(hid _ _ _ z).1] at q; cases q
  have fl' : HandSPX.FlyingZ (PySem.W.hideAll B [ce.locals]) (X.env :: X.outer) a (Zc cls d) s'.heap := by
    obtain ⟨x1, x2, x3, oe, vs, T, oT, ts, y1, y2, y3, y4, y5, y6⟩ := fl
    rw [← hst]
    exact ⟨fun b o q => x1 b o (hid _ _ _ q).1, no a x2, funFrames_none x3 fun b hb => no b (x3.mem hb).1, oe, vs, T, oT, ts, y1, y2, y3, y4, no T y5, y6⟩
  have nC : ∀ b o, s3.heap.get? b = some o → b ≠ ce.locals := fun b o q z => absurd (Heap.lt_size q) (by rw [z, hC]; exact Nat.lt_irrefl _)
  refine noted_lc (Z := Zc cls d) Zc.steady (by rw [I3.ok.frames, hst]) hcf hf (PySem.W.hideAll_none _ (by simp)) (ns_up hn up) fl' fun h' hh k => tk _ _ ⟨a, PySem.W.hideAll B [ce.locals], { sI with heap := PySem.W.hideAll sI.heap [ce.locals] }, pins, σ, H', cls, d, rfl, ?_, fun b o q hb => ?_, fun b o q nf => ?_, .inr (.inr (by rw [hst]; exact hh)), na, os, ag, w⟩
  · have U : Un (frs X.stack) fp H3 H' s3.heap sI.heap := I.base
    refine I3.call' (ch := fp) I.os ⟨fun b o q n hb hx => sh _ _ _ (U.keep b o q n hb hx) (nC b o q), fun b o q n hb hx => (U.slot b o q n hb hx).imp fun sl z => sh _ _ _ z (nC b o q), U.free, fun b o q hx => (U.there b o q hx).imp fun o' z => sh _ _ _ z (nC b o q), U.tups, U.frzs, U.tbls⟩ (fun b o q => ?_) I.bare fun b hb => ⟨(f3 b hb).1.2.2.2.1, (f3 b hb).1.2.1, (f3 b hb).1.2.2.2.2.1, (f3 b hb).1.2.2.2.2.2⟩
    have fr : H' ce.locals = none := I.free
    exact (I.hok b o q).stay (fun c u hc r => sh _ _ _ r fun z => by
      rw [z] at hc
      rcases hc with hc | hc
      · rw [← hc, fr] at q; cases q
      · rw [fr] at hc; cases hc) (fun _ r => r) fun _ _ r => r
  · obtain ⟨q1, q2⟩ := hid _ _ _ q
    exact sh _ _ _ (nb b o q1 hb) q2
  · obtain ⟨q1, q2⟩ := hid _ _ _ q
    obtain ⟨sl, e1⟩ := up b o q1 nf
    obtain ⟨sl', e2⟩ := k b _ e1 q2 nf
    exact ⟨sl', e2⟩
end
end L2
namespace Sl
open PySem PySem.Spec PyProof.Rows L2
section
variable {P : Program} {w : World} {K : PySem.W.Frag} {mg : Str → Option Value} {base : Heap}

end
section
variable {P : Program} {w : World} {K : PySem.W.Frag} {mg : Str → Option Value} {base : Heap}
local macro_rules | `(tactic| get_elem_tactic_trivial) => `(tactic| (repeat first | exact Wk.nil | exact Wk'.nil | refine Wk.same ?_ | refine Wk'.same ?_ | refine Wk.un (fun _ z => nomatch z) ?_ | refine Wk'.un ?_))
/-! [elt for .. in ..] whose element may raise, as a value and stored -/
end
end Sl
namespace L2
open PySem PySem.Spec PyProof.Rows
section
variable {X : Cx} {pins : List (Addr × Obj)} {σ : St} {H : Hp} {s : Shared} {E : XK}
theorem blk_back {s3 s' : Shared} {H3 H' : Hp} {scope : Scope} {ce : Env} {fp : List Addr} {pi : List (Addr × Obj)} {σ' : St} (I3 : Inv X pins σ H3 s3) (f3 : ∀ b ∈ fp, FpOk X pins H3 b ∧ b < s3.heap.objs.size) (I : Inv (X.blk s3 H3 scope ce fp) pi σ' H' s') : Inv X pins σ H' s' :=
  I3.call' (ch := fp) I.os I.base I.hok I.bare fun b hb => ⟨(f3 b hb).1.2.2.2.1, (f3 b hb).1.2.1, (f3 b hb).1.2.2.2.2.1, (f3 b hb).1.2.2.2.2.2⟩
/-- the loop, the block having begun -/
theorem lcX_loop {Q : VK} {elt tg iter : Expr} {ifs : List Expr} {scope : Scope} {vs : List Nat} {pos : Pos} {g : TG} {tt : TT} {te : TE} {use : Option (Value → Sem Unit)} {Qf : Value → Shared → Prop} {s3 s4 : Shared} {H3 : Hp} {ce : Env} {fp : List Addr} {tn : Nat → Heap → Prop} {J : It} {it D : Addr}
    (hc : X.calm = true) (I3 : Inv X pins σ H3 s3) (f3 : ∀ b ∈ fp, FpOk X pins H3 b ∧ b < s3.heap.objs.size) (I4 : Inv (X.blk s3 H3 scope ce fp) [] (wipe σ vs) H3 s4) (T : Turn X.prog X.w X.K tg J fp it tn) (st4 : tn 0 s4.heap)
    (hC : ce.locals = s3.heap.objs.size) (hcf : ce.frame = X.env.frame) (hst : X.stack = X.env :: X.outer) (hf : X.env.frame = some X.env.locals) (tk : Takes X (fun cls d _ H => E cls d H))
    (pg : PG (X.blk s3 H3 scope ce fp) tg g) (pt : PTs (X.blk s3 H3 scope ce fp) ifs tt) (pe : PE (X.blkX (fun cls d _ H => E cls d H) s3 H3 scope ce fp) elt te)
    {W : Nat → Nat → Hp → Prop} {m0 : Nat} (w0 : W 0 m0 H3) (turn : ∀ i m H, W i m H → (J.stop i H ∧ Q (.ref D) H) ∨ (J.go i H ∧ ∃ Nx : Hp → Prop, (∀ H', Nx H' → ∃ m', m' < m ∧ W (i + 1) m' H') ∧ ∀ x H', J.yld i H x H' → g x (wipe σ vs) H' fun σ2 H2 => wipe σ2 vs = wipe σ vs ∧ tt σ2 H2 fun b H3 =>
      if b = true then te σ2 H3 fun y H4 => ∃ acc, H4 D = some (.lst acc) ∧ acc.length < sizeLine ∧ Nx (upd H4 D (.lst (acc ++ [y]))) else Nx H3))
    (hRR : ∀ s' m H', Inv X pins σ H' s' → Q (.ref D) H' → s'.heap.Ns ce.locals m → FpOk X pins H' ce.locals → compEnds (model X.prog X.w) X.A X.xe use Qf (.ref D) ce (.ok .next) s') :
    codeAny (model X.prog X.w) X.A (.compLoop (.ListComp elt [⟨tg, iter, ifs, 0⟩] scope pos) 0 (.ref it) (.ref D) ce) (compEnds (model X.prog X.w) X.A X.xe use Qf (.ref D) ce) s4 := by
  have nfp : ∀ b ∈ fp, H3 b = none := fun b hb => (f3 b hb).1.1
  have stat : ∀ {σ' : St} {H' : Hp} {s' : Shared}, Inv (X.blk s3 H3 scope ce fp) [] σ' H' s' → (∀ b ∈ fp, H' b = none) → ∀ b ∈ fp, FpOk (X.blk s3 H3 scope ce fp) [] H' b := fun I' hn b hb =>
    ⟨hn b hb, (I'.ok.exf b hb).1, I'.ok.exfs b hb, .inl hb, fun x c e => (I'.ok.exf b hb).2 x c e, fun p hp => by simp at hp⟩
  refine compLoop_any (fun n s' => ∃ i H', Inv (X.blk s3 H3 scope ce fp) [] (wipe σ vs) H' s' ∧ tn i s'.heap ∧ (∀ b ∈ fp, H' b = none) ∧ W i n H') ?_ m0 ⟨0, H3, I4, st4, nfp, w0⟩
  rintro n s5 ⟨i, H5, I5, st5, n5, w5⟩
  rcases turn i n H5 w5 with ⟨stop, qq⟩ | ⟨go, Nx, hNx, step⟩
  · refine thnF (T.done (X.blk s3 H3 scope ce fp) rfl rfl rfl hc i [] s5 _ H5 (fun _ _ => False) I5 (stat I5 n5) st5 stop) ?_
    rintro _ s6 ⟨rfl, I6⟩
    obtain ⟨m, hn, _⟩ := I6.loc
    exact hRR s6 m H5 (blk_back I3 f3 I6) qq hn (I3.fpOk (Nat.le_of_eq hC.symm) I6.free)
  · refine thnF (T.item (X.blk s3 H3 scope ce fp) rfl rfl rfl hc i [] s5 _ H5 (fun _ _ => False) I5 (stat I5 n5) st5 go) ?_
    rintro _ s6 ⟨u, rfl, h6⟩
    refine thnF h6 fun _ s7 ⟨x, H7, I7, r7, y7, st7, n7⟩ => ?_
    refine thnF (pg.run _ s7 _ H7 x u _ (I7.pinned (stat I7 n7) (T.obj _ _ st7)) r7 (step x H7 y7)) fun _ s8 ⟨σ8, H8, I8, hw8, q8⟩ => ?_
    have next : ∀ {s' : Shared} {H' : Hp}, Inv (X.blk s3 H3 scope ce fp) ([] ++ pinsAt fp s7.heap) σ8 H' s' → Nx H' → ∃ m, m < n ∧ ∃ i H', Inv (X.blk s3 H3 scope ce fp) [] (wipe σ vs) H' s' ∧ tn i s'.heap ∧ (∀ b ∈ fp, H' b = none) ∧ W i m H' := fun {s' H'} I' nx => by
      obtain ⟨m', hm, w'⟩ := hNx H' nx
      have kept : ∀ b ∈ fp, ∀ o, s7.heap.get? b = some o → s'.heap.get? b = some o ∧ H' b = none := fun b hb o e =>
        have z := I'.pin (b, o) (List.mem_append_right _ (List.mem_append_right _ (mem_pinsAt hb e)))
        ⟨z.1, z.2.1⟩
      refine ⟨m', hm, i + 1, H', (I'.unpinned (pins := [])).weak (by rw [← hw8, wipe_length]) (fun j v e => (wipe_some (hw8 ▸ e)).1), T.keep _ _ _ st7 fun b hb o e => (kept b hb o e).1, fun b hb => ?_, w'⟩
      obtain ⟨o, e, _⟩ := T.obj _ _ st7 b hb
      exact (kept b hb o e).2
    refine thnF (pt.run _ s8 σ8 H8 _ I8 q8) fun b s9 ⟨H9, I9, q9⟩ => ?_
    cases b with
    | false =>
      simp only [Bool.false_eq_true, if_false] at q9 ⊢
      exact next I9 q9
    | true =>
      simp only [if_true] at q9 ⊢
      refine wpAny_mono (pe.run _ s9 σ8 H9 _ (I9.wish _) q9) (fun z s10 ⟨yv, H10, I10, r10, acc, hD10, hz10, nx⟩ => ?_) fun e s' x => ?_
      · exact app_ok (X := X.blk s3 H3 scope ce fp) (Inv.unwish I10) hD10 hz10 r10 fun s11 I11 => next I11 nx
      · have z := blk_out I3 f3 hC hcf hst hf tk x
        cases use <;> exact z
theorem lcX_core {Q : VK} {elt tg iter : Expr} {ifs : List Expr} {scope : Scope} {own : List (Str × Nat)} {pos pos' : Pos} {wi : TI} {g : TG} {tt : TT} {te : TE} {use : Option (Value → Sem Unit)} {Qf : Value → Shared → Prop}
    (hc : X.calm = true) (hN : X.N.Nodup) (hst : X.stack = X.env :: X.outer) (hf : X.env.frame = some X.env.locals) (tk : Takes X (fun cls d _ H => E cls d H)) (I : Inv X pins σ H s) (hi : PI X tg iter wi) (ok : BlkOk X.N X.env.scope scope own)
    (hg : ∀ (s : Shared) (H : Hp) (C : Addr) (cl : List (Str × Addr)) (fp : List Addr), PG (X.blk s H scope (compEnvC scope cl C X.env) fp) tg g) (ht : ∀ (s : Shared) (H : Hp) (C : Addr) (cl : List (Str × Addr)) (fp : List Addr), PTs (X.blk s H scope (compEnvC scope cl C X.env) fp) ifs tt)
    (he : ∀ (s : Shared) (H : Hp) (C : Addr) (cl : List (Str × Addr)) (fp : List Addr), PE (X.blkX (fun cls d _ H => E cls d H) s H scope (compEnvC scope cl C X.env) fp) elt te) (hs : ∀ x, foldedSetIterable iter X.env x = pure x)
    (h : tLc wi g tt te (own.map (·.2)) σ H Q)
    (hRR : ∀ D ce s' m H', Inv X pins σ H' s' → Q (.ref D) H' → s'.heap.Ns ce.locals m → FpOk X pins H' ce.locals → compEnds (model X.prog X.w) X.A X.xe use Qf (.ref D) ce (.ok .next) s') :
    wpAny (model X.prog X.w) X.A (comprehension (.ListComp elt [⟨tg, iter, ifs, 0⟩] scope pos) scope X.env pos' (newList []) false (eval iter X.env) use) Qf X.xe s := by
  refine comprehension_at (use := use) rfl hs (closure_ok fun y hy e => (ok.free y hy e).elim (fun k => I.ok.has _ (.inl k)) fun k => I.ok.has _ (.inr k)) ok.kind (fun y hy e => by rw [ok.uniq y hy, e])
    (thn (hi.run pins s σ H _ I h) fun _ s1 hx => thn hx ?_)
  rintro _ s2 ⟨it, fp, tn, J, H2, rfl, I2, T, st2, f2, q⟩
  refine wpAny_newObj_type (newEnv_comp ?_) (by show 0 ≤ sizeLine; decide)
  obtain ⟨W, ⟨m0, w0⟩, turn⟩ := q s2.heap.objs.size (I2.hok.fresh (Nat.le_refl _))
  generalize hs3 : ({ s2 with heap := s2.heap.push { cls := .type "list", data := .seq ([] : List Value).toArray } } : Shared) = s3
  have push : ∀ b o, s2.heap.get? b = some o → s3.heap.get? b = some o := fun b o e => by rw [← hs3]; exact Heap.get?_push_of_some _ e
  have I3 : Inv X pins σ (upd H2 s2.heap.objs.size (.lst [])) s3 := by
    rw [← hs3]
    exact I2.laid (t' := s2.toks) (fun b o e => Heap.get?_push_of_some _ e) (Nat.le_refl _) ⟨Nat.zero_le _, [], 0, .nil, Heap.get?_push_size _ rfl⟩
  have f3 : ∀ b ∈ fp, FpOk X pins (upd H2 s2.heap.objs.size (.lst [])) b ∧ b < s3.heap.objs.size := fun b hb => by
    obtain ⟨o, e, _⟩ := T.obj _ _ st2 b hb
    exact ⟨⟨by rw [upd_ne (Nat.ne_of_lt (Heap.lt_size e))]; exact (f2 b hb).1, (f2 b hb).2⟩, Heap.lt_size (push b o e)⟩
  have I4 := block_start I3 ok hN f3
  have st4 : tn 0 (pushCells (s3.heap.push { cls := .type "dict", data := .dict #[] }) scope.names) := T.keep _ _ _ st2 fun b _ o e => pushCells_keeps _ _ _ _ (Heap.get?_push_of_some _ (push b o e))
  have loop := lcX_loop (Q := Q) (elt := elt) (iter := iter) (pos := pos) (use := use) (Qf := Qf) (m0 := m0) hc I3 f3 I4 T st4 rfl rfl hst hf tk (hg _ _ _ _ _) (ht _ _ _ _ _) (he _ _ _ _ _) w0 turn fun s' m H' => hRR _ _ s' m H'
  exact codeAny_compStart_list loop (T.self X.A 0 _ _ _ st4 loop)
/-- as a value -/
theorem pe_lcX {elt tg iter : Expr} {ifs : List Expr} {scope : Scope} {own : List (Str × Nat)} {pos : Pos} {wi : TI} {g : TG} {tt : TT} {te : TE} (hc : X.calm = true) (hN : X.N.Nodup) (hst : X.stack = X.env :: X.outer) (hf : X.env.frame = some X.env.locals) (tk : Takes X (fun cls d _ H => E cls d H)) (hi : PI X tg iter wi) (ok : BlkOk X.N X.env.scope scope own)
    (hg : ∀ (s : Shared) (H : Hp) (C : Addr) (cl : List (Str × Addr)) (fp : List Addr), PG (X.blk s H scope (compEnvC scope cl C X.env) fp) tg g) (ht : ∀ (s : Shared) (H : Hp) (C : Addr) (cl : List (Str × Addr)) (fp : List Addr), PTs (X.blk s H scope (compEnvC scope cl C X.env) fp) ifs tt)
    (he : ∀ (s : Shared) (H : Hp) (C : Addr) (cl : List (Str × Addr)) (fp : List Addr), PE (X.blkX (fun cls d _ H => E cls d H) s H scope (compEnvC scope cl C X.env) fp) elt te) (hs : ∀ x, foldedSetIterable iter X.env x = pure x := by intro _; rfl) :
    PE X (.ListComp elt [⟨tg, iter, ifs, 0⟩] scope pos) (tLc wi g tt te (own.map (·.2))) := ⟨fun pins s σ H Q I h => by
  rw [eval_ListComp]
  exact lcX_core hc hN hst hf tk I hi ok hg ht he hs h fun D ce s' m H' I' q hn ⟨f0, f1, f2, f3, f4, f5⟩ => ⟨m, hn, fun h'' sb => ⟨.ref D, H', I'.turned (t' := s'.toks) (fun b o hb e => (sb.2 b hb).trans e) f0 f1 f3 f4 f5, rfl, q⟩⟩⟩
/-- y = [..] on one line, y a local -/
theorem ps_setLcX {i : Nat} {y : Str} {py : Pos} {elt tg iter : Expr} {ifs : List Expr} {scope : Scope} {own : List (Str × Nat)} {pos spos : Pos} {wi : TI} {g : TG} {tt : TT} {te : TE} (hc : X.calm = true) (hN : X.N.Nodup) (hst : X.stack = X.env :: X.outer) (hf : X.env.frame = some X.env.locals) (tk : Takes X (fun cls d _ H => E cls d H))
    (hy : X.N[i]? = some y) (hyl : X.env.scope.names.lookup y = some .local) (hsw : swapsWith (.ListComp elt [⟨tg, iter, ifs, 0⟩] scope pos) (some (.Name y py)) spos.line X.env = pure true) (hi : PI X tg iter wi) (ok : BlkOk X.N X.env.scope scope own)
    (hg : ∀ (s : Shared) (H : Hp) (C : Addr) (cl : List (Str × Addr)) (fp : List Addr), PG (X.blk s H scope (compEnvC scope cl C X.env) fp) tg g) (ht : ∀ (s : Shared) (H : Hp) (C : Addr) (cl : List (Str × Addr)) (fp : List Addr), PTs (X.blk s H scope (compEnvC scope cl C X.env) fp) ifs tt)
    (he : ∀ (s : Shared) (H : Hp) (C : Addr) (cl : List (Str × Addr)) (fp : List Addr), PE (X.blkX (fun cls d _ H => E cls d H) s H scope (compEnvC scope cl C X.env) fp) elt te) (hs : ∀ x, foldedSetIterable iter X.env x = pure x := by intro _; rfl) :
    PS X (.Assign [.Name y py] (.ListComp elt [⟨tg, iter, ifs, 0⟩] scope pos) spos) (tAsg (tLc wi g tt te (own.map (·.2))) (gName i)) := ⟨fun pins s σ H D I h => by
  rw [exec_Assign_Name_used _ _ _ _ hsw]
  refine wpAny_bind (wpAny_standAt (wpAny_bind ?_))
  show wpAny _ X.A (do let _ ← comprehension (.ListComp elt [⟨tg, iter, ifs, 0⟩] scope pos) scope X.env (firstIterPos [⟨tg, iter, ifs, 0⟩] pos) (newList []) false (eval iter X.env) (some (assign (.Name y py) X.env))) _ _ s
  refine wpAny_bind (thn (lcX_core (Qf := fun _ s' => SP X pins D .next s') (Q := fun x H1 => gName i x σ H1 D.nx) hc hN hst hf tk I hi ok hg ht he hs h fun L ce s' m H' I' q hn ⟨f0, f1, f2, f3, f4, f5⟩ => ?_) fun _ s' hq => wpAny_pure (wpAny_pure hq))
  show wpAny _ _ (assign (.Name y py) X.env (.ref L)) _ _ _
  refine wpAny_assign_Name (store_ok2 (v := V.ref L) I' hN hy (.inl hyl) rfl (fun s2 I2 ⟨a, sb, ha⟩ => ?_) (.inr hyl))
  have ne : ce.locals ≠ a := ha.elim (fun z => by rw [z]; exact f1) fun z e => f4 y a z e.symm
  exact ⟨m, hn.sameBut sb ne, fun h3 sb3 => ⟨_, H', I2.turned (t' := s2.toks) (fun b o hb e => (sb3.2 b hb).trans e) f0 f1 f3 f4 f5, q⟩⟩⟩
end
end L2
namespace Sl
open PySem PySem.Spec PyProof.Rows L2
section
variable {P : Program} {w : World} {K : PySem.W.Frag} {mg : Str → Option Value} {base : Heap}

end
section
variable {P : Program} {w : World} {K : PySem.W.Frag} {mg : Str → Option Value} {base : Heap}
local macro_rules | `(tactic| get_elem_tactic_trivial) => `(tactic| (repeat first | exact Wk.nil | exact Wk'.nil | refine Wk.same ?_ | refine Wk'.same ?_ | refine Wk.un (fun _ z => nomatch z) ?_ | refine Wk'.un ?_))
/-! level 2: a new list of scalars, told with all chunks as they stand, grown cold at once -/

end
section
variable {P : Program} {w : World} {K : PySem.W.Frag} {mg : Str → Option Value} {base : Heap}
local macro_rules | `(tactic| get_elem_tactic_trivial) => `(tactic| (repeat first | exact Wk.nil | exact Wk'.nil | refine Wk.same ?_ | refine Wk'.same ?_ | refine Wk.un (fun _ z => nomatch z) ?_ | refine Wk'.un ?_))
/-! texts put together; wide numbers as texts; partition; wide numbers shown at any depth -/
def wFmt (wa : WE) : WE := fun ρ Ψ => wa ρ fun r ρ1 => match r with
  | .dat (.str y) => y.length ≤ sizeLine ∧ Ψ (.dat (.str y)) ρ1
  | .dat (.int i) => i.natAbs.log2 < 1920 ∧ Ψ (.dat (.str (toString i))) ρ1
  | _ => False
instance sd_fmt {te : TE} {wa : WE} [a : Sd K te wa] : Sd K (tFmt te) (wFmt wa) where
  run B C H σ ρ Q Ψ S h k := a.run B C H σ ρ _ _ S h fun C1 H1 v1 r1 ρ1 S1 s1 ok1 h1 => by
    cases r1 with
    | hot i ds => exact False.elim h1
    | box i n => exact False.elim h1
    | dat x =>
      cases x <;> try exact False.elim h1
      · cases ok1
        exact .inr ⟨_, rfl, h1.1, k _ _ _ (.dat (.str _)) _ S1 s1 (.str _) h1.2⟩
      · cases ok1
        exact .inl ⟨_, rfl, h1.1, k _ _ _ (.dat (.str _)) _ S1 s1 (.str _) h1.2⟩
def tJoinF (ts : List TE) : TE := fun σ H Q => tJs ts Str.empty σ H fun out H1 => Q (.str out) H1
theorem peJoinF {X : Cx} {v1 v2 : Expr} {rest : List Expr} {ts : List TE} {pos : Pos} (h : PJ X (v1 :: v2 :: rest) ts) : PE X (.JoinedStr (v1 :: v2 :: rest) pos) (tJoinF ts) := pe_joined h
abbrev WJ := Str → List Sl → (Str → List Sl → Prop) → Prop
class Sj (K : PySem.W.Frag) (ts : List TE) (w : outParam WJ) : Prop where
  run : ∀ (B : Bs) (C H : Hp) (σ : L2.St) (ρ : List Sl) (acc : Str) (Q : Str → Hp → Prop) (Φ : Str → List Sl → Prop), Sep K B C H σ ρ → w acc ρ Φ → (∀ C' G out ρ', Sep K B C' G σ ρ' → Same C C' → Φ out ρ' → Q out G) → tJs ts acc σ H Q
def wJnil : WJ := fun acc ρ Φ => Φ acc ρ
instance sj_nil : Sj K [] wJnil where
  run B C H σ ρ acc Q Φ S h k := k _ _ _ _ S (Same.refl _) h
def wJcons (wa : WE) (wr : WJ) : WJ := fun acc ρ Φ => wa ρ fun r ρ1 => isStr r fun y => (acc ++ y).length ≤ sizeLine ∧ wr (acc ++ y) ρ1 Φ
instance sj_cons {t : TE} {ts : List TE} {wa : WE} {wr : WJ} [a : Sd K t wa] [b : Sj K ts wr] : Sj K (t :: ts) (wJcons wa wr) where
  run B C H σ ρ acc Q Φ S h k := a.run B C H σ ρ _ _ S h fun C1 H1 v1 r1 ρ1 S1 s1 ok1 h1 => by
    obtain ⟨y, rfl, hl, h1⟩ := isStr_run ok1 h1
    exact ⟨y, rfl, hl, b.run B C1 H1 σ ρ1 _ _ Φ S1 h1 fun C2 H2 out ρ2 S2 s2 z => k _ _ _ _ S2 (s1.trans s2) z⟩
def wJoinF (w : WJ) : WE := fun ρ Ψ => w Str.empty ρ fun out ρ1 => Ψ (.dat (.str out)) ρ1
instance sd_joinF {ts : List TE} {w : WJ} [a : Sj K ts w] : Sd K (tJoinF ts) (wJoinF w) where
  run B C H σ ρ Q Ψ S h k := a.run B C H σ ρ _ _ _ S h fun C' G out ρ' S' s' z => k _ _ _ (.dat (.str out)) _ S' s' (.str _) z
/-! str of a text or a number of any size -/
/-! partition -/
end
section
variable {P : Program} {w : World} {K : PySem.W.Frag} {mg : Str → Option Value} {base : Heap}
local macro_rules | `(tactic| get_elem_tactic_trivial) => `(tactic| (repeat first | exact Wk.nil | exact Wk'.nil | refine Wk.same ?_ | refine Wk'.same ?_ | refine Wk.un (fun _ z => nomatch z) ?_ | refine Wk'.un ?_))
/-! shown, numbers of any size -/
end
section
variable {P : Program} {w : World} {K : PySem.W.Frag} {mg : Str → Option Value} {base : Heap}
local macro_rules | `(tactic| get_elem_tactic_trivial) => `(tactic| (repeat first | exact Wk.nil | exact Wk'.nil | refine Wk.same ?_ | refine Wk'.same ?_ | refine Wk.un (fun _ z => nomatch z) ?_ | refine Wk'.un ?_))
/-! what may be shown so -/
/-! a list taken apart -/

end
section
variable {P : Program} {w : World} {K : PySem.W.Frag} {mg : Str → Option Value} {base : Heap}
local macro_rules | `(tactic| get_elem_tactic_trivial) => `(tactic| (repeat first | exact Wk.nil | exact Wk'.nil | refine Wk.same ?_ | refine Wk'.same ?_ | refine Wk.un (fun _ z => nomatch z) ?_ | refine Wk'.un ?_))
/-! level 3: lists, instances, dicts that are changed wherever they stand, and packs of such, by their addresses -/
inductive Fl where
  | lst (ds : List Dt) | ins (c : Str) (ns : List Str) (ds : List Dt) | dic (ks : List Key) (ds : List Dt) | lck (ks : List Key) (ds : List Dt)
abbrev Fm := List (Addr × Fl)
inductive Ob where
  | fl (f : Fl) | pk (I : Addr → Fm → Prop)
abbrev My := List (Addr × Ob)
def FlOk (K : PySem.W.Frag) (C U : Hp) (a : Addr) : Fl → Prop
  | .lst ds => ∃ vs, U a = some (.lst vs) ∧ RpL K C vs ds
  | .ins c ns ds => ∃ dx vs, U a = some (.ins (He.ga K c) dx (ns.zip vs)) ∧ U dx = some (.own a) ∧ ns.length = vs.length ∧ RpL K C vs ds ∧ ∀ f, f ∈ ns → FldOk K c f
  | .dic ks ds => ∃ vs, U a = some (.dK (ks.zip vs)) ∧ ks.length = vs.length ∧ ks.Nodup ∧ RpL K C vs ds
  | .lck ks ds => ∃ o vs, U a = some (.frz o (.dK (ks.zip vs))) ∧ ks.length = vs.length ∧ ks.Nodup ∧ RpL K C vs ds
structure Mf (K : PySem.W.Frag) (B : Bs) (C U : Hp) (m : Fm) : Prop where
  nd : (m.map (·.1)).Nodup
  at_ : ∀ a f, (a, f) ∈ m → FlOk K C U a f
  all : ∀ a o, U a = some o → (∃ f, (a, f) ∈ m) ∨ ∃ x f, o = .own x ∧ (x, f) ∈ m
  fr : ∀ a o, U a = some o → C a = none ∧ B.H0 a = none ∧ ∀ i, B.bx ≠ some (i, a)
def SepF (K : PySem.W.Frag) (B : Bs) (C H : Hp) (σ : L2.St) (ρ : List Sl) (m : Fm) : Prop := ∃ U, Mf K B C U m ∧ Sep K (B.hang U) C H σ ρ
def NoSlot (σ : L2.St) (ρ : List Sl) (a : Addr) : Prop := ∀ (j : Nat) (t : Sl), ρ[j]? = some t → t.mut = true → σ[j]? ≠ some (some (V.ref a))
section
variable {B : Bs} {C C' H G U U' : Hp} {σ σ' : L2.St} {ρ ρ' : List Sl} {m m1 m2 : Fm} {a : Addr} {f : Fl}
theorem FlOk.root (h : FlOk K C U a f) : ∃ o, U a = some o ∧ ∀ x, o ≠ .own x := by
  cases f with
  | lst ds => obtain ⟨vs, e, _⟩ := h; exact ⟨_, e, fun _ z => nomatch z⟩
  | ins c ns ds => obtain ⟨dx, vs, e, _⟩ := h; exact ⟨_, e, fun _ z => nomatch z⟩
  | dic ks ds => obtain ⟨vs, e, _⟩ := h; exact ⟨_, e, fun _ z => nomatch z⟩
  | lck ks ds => obtain ⟨o, vs, e, _⟩ := h; exact ⟨_, e, fun _ z => nomatch z⟩
theorem FlOk.same (h : FlOk K C U a f) (s : Same C C') : FlOk K C' U a f := by
  cases f with
  | lst ds => obtain ⟨vs, e, r⟩ := h; exact ⟨vs, e, r.same s⟩
  | ins c ns ds => obtain ⟨dx, vs, e, e2, l, r, ff⟩ := h; exact ⟨dx, vs, e, e2, l, r.same s, ff⟩
  | dic ks ds => obtain ⟨vs, e, l, n, r⟩ := h; exact ⟨vs, e, l, n, r.same s⟩
  | lck ks ds => obtain ⟨o, vs, e, l, n, r⟩ := h; exact ⟨o, vs, e, l, n, r.same s⟩
theorem FlOk.heap (h : FlOk K C U a f) (k : ∀ b o, (b = a ∨ o = .own a) → U b = some o → U' b = some o) : FlOk K C U' a f := by
  cases f with
  | lst ds => obtain ⟨vs, e, r⟩ := h; exact ⟨vs, k _ _ (.inl rfl) e, r⟩
  | ins c ns ds => obtain ⟨dx, vs, e, e2, l, r, ff⟩ := h; exact ⟨dx, vs, k _ _ (.inl rfl) e, k _ _ (.inr rfl) e2, l, r, ff⟩
  | dic ks ds => obtain ⟨vs, e, l, r⟩ := h; exact ⟨vs, k _ _ (.inl rfl) e, l, r⟩
  | lck ks ds => obtain ⟨o, vs, e, l, r⟩ := h; exact ⟨o, vs, k _ _ (.inl rfl) e, l, r⟩
theorem Mf.ne (M : Mf K B C U m) (h : (a, f) ∈ m) : U a ≠ none := fun z => by
  obtain ⟨o, e, _⟩ := (M.at_ a f h).root
  rw [z] at e
  cases e
theorem Mf.on (M : Mf K B C U m) (g : Same B.C0 C) (s : Same C C') (S : Sep K (B.hang U) C' G σ' ρ') : Mf K B C' U m :=
  ⟨M.nd, fun a f h => (M.at_ a f h).same s, M.all, fun a o h => by
    obtain ⟨c, b, x⟩ := M.fr a o h
    refine ⟨?_, b, x⟩
    cases q : C' a with
    | none => rfl
    | some u =>
      have := S.new a u q (g.free c)
      rw [hang_at h] at this
      cases this⟩
theorem Mf.bound (M : Mf K B C U m) (S : Sep K (B.hang U) C H σ ρ) {o : HO} (h : U a = some o) : H a = some o := S.keep a o (hang_at h) (M.fr a o h).2.2
theorem Mf.noSlot (M : Mf K B C U m) (S : Sep K (B.hang U) C H σ ρ) {o : HO} (h : U a = some o) : NoSlot σ ρ a := fun j t hj mt e => by
  obtain ⟨_, b0, bx⟩ := M.fr a o h
  cases t with
  | un => cases mt
  | dat d => cases mt
  | hot ds =>
    have := S.loc j a ds hj e
    rw [hang_at h] at this
    cases this
  | box n =>
    rcases S.lob j a n hj e with z | z
    · rw [hang_at h] at z
      cases z
    · exact absurd z (bx j)
/-- fewer are hung -/
theorem Sep.hangLe (S : Sep K (B.hang U) C H σ ρ) (le : ∀ a o, U' a = some o → U a = some o) (fr : ∀ a o, U a = some o → B.H0 a = none) : Sep K (B.hang U') C H σ ρ := by
  have off : ∀ {a : Addr}, (B.hang U).H0 a = none → (B.hang U').H0 a = none := fun {a} h => by
    obtain ⟨h1, h2⟩ := hang_no h
    have h3 : U' a = none := by
      cases q : U' a with
      | none => rfl
      | some o => rw [le a o q] at h1; cases h1
    rw [hang_off h3]
    exact h2
  have b0 : ∀ {a : Addr}, U' a = none → ∀ {x : HO}, B.H0 a = some x → (B.hang U).H0 a = some x := fun {a} e {x} h => by
    cases q : U a with
    | some o => rw [fr a o q] at h; cases h
    | none => rw [hang_off q]; exact h
  refine ⟨S.cold, S.len, S.sl, S.ne, S.grow, fun a x e n => off (S.new a x e n), fun a h => ?_, fun a x h n => ?_, fun i a ds h e => off (S.loc i a ds h e), fun i a n h e => (S.lob i a n h e).imp off id, S.par, S.pz⟩
  · cases q : U' a with
    | some o => exact S.dom a (by rw [hang_at (le a o q)]; exact fun z => nomatch z)
    | none =>
      rw [hang_off q] at h
      cases q2 : B.H0 a with
      | none => exact absurd q2 h
      | some x => exact S.dom a (by rw [b0 q q2]; exact fun z => nomatch z)
  · cases q : U' a with
    | some o =>
      rw [hang_at q] at h
      cases h
      exact S.keep a _ (hang_at (le a _ q)) n
    | none =>
      rw [hang_off q] at h
      exact S.keep a x (b0 q h) n
theorem Sep.unhang (S : Sep K (B.hang U) C H σ ρ) (M : Mf K B C U m) : Sep K B C H σ ρ := by
  have := S.hangLe (U' := fun _ => none) (fun a o h => nomatch h) fun a o h => (M.fr a o h).2.1
  rwa [hang_nil] at this
/-- a part of what is hung -/
noncomputable def partU (U : Hp) (m : Fm) : Hp := fun a => by
  classical
  exact if (∃ f, (a, f) ∈ m) ∨ ∃ x f, U a = some (.own x) ∧ (x, f) ∈ m then U a else none
theorem partU_le {o : HO} (h : partU U m a = some o) : U a = some o ∧ ((∃ f, (a, f) ∈ m) ∨ ∃ x f, o = .own x ∧ (x, f) ∈ m) := by
  unfold partU at h
  split at h
  · next q =>
    refine ⟨h, q.imp id ?_⟩
    rintro ⟨x, f, e, k⟩
    rw [h] at e
    cases e
    exact ⟨x, f, rfl, k⟩
  · cases h
theorem partU_in {o : HO} (h : U a = some o) (q : (∃ f, (a, f) ∈ m) ∨ ∃ x f, o = .own x ∧ (x, f) ∈ m) : partU U m a = some o := by
  unfold partU
  rw [if_pos]
  · exact h
  · refine q.imp id ?_
    rintro ⟨x, f, rfl, k⟩
    exact ⟨x, f, h, k⟩
theorem Mf.part {M' : Fm} (M : Mf K B C U M') (sub : ∀ x, x ∈ m → x ∈ M') (nd : (m.map (·.1)).Nodup) : Mf K B C (partU U m) m :=
  ⟨nd, fun a f h => (M.at_ a f (sub _ h)).heap fun b o q e => partU_in e (q.imp (fun z => ⟨f, by rw [z]; exact h⟩) fun z => ⟨a, f, z, h⟩), fun a o h => (partU_le h).2, fun a o h => M.fr a o (partU_le h).1⟩
theorem SepF.split (S : SepF K B C H σ ρ (m1 ++ m2)) : ∃ U1 U2, Mf K B C U1 m1 ∧ Mf K B C U2 m2 ∧ Sep K (B.hang U2) C H σ ρ ∧ ∀ a o, U1 a = some o → H a = some o ∧ U2 a = none ∧ NoSlot σ ρ a := by
  obtain ⟨U, M, S⟩ := S
  have nd := M.nd
  rw [List.map_append] at nd
  obtain ⟨n1, n2, n3⟩ := List.nodup_append.mp nd
  have dis : ∀ a f g, (a, f) ∈ m1 → (a, g) ∈ m2 → False := fun a f g h1 h2 => n3 a (List.mem_map.mpr ⟨_, h1, rfl⟩) a (List.mem_map.mpr ⟨_, h2, rfl⟩) rfl
  refine ⟨partU U m1, partU U m2, M.part (fun x h => List.mem_append_left _ h) n1, M.part (fun x h => List.mem_append_right _ h) n2, S.hangLe (fun a o h => (partU_le h).1) fun a o h => (M.fr a o h).2.1, fun a o h => ?_⟩
  obtain ⟨e, k⟩ := partU_le h
  refine ⟨M.bound S e, ?_, M.noSlot S e⟩
  cases q : partU U m2 a with
  | none => rfl
  | some u =>
    obtain ⟨e2, k2⟩ := partU_le q
    rw [e] at e2
    cases e2
    have nown : ∀ {g : Fl} {x : Addr}, (a, g) ∈ m1 ++ m2 → o ≠ .own x := fun {g x} z => by
      obtain ⟨o', e', ne⟩ := (M.at_ a g z).root
      rw [e] at e'
      cases e'
      exact ne x
    rcases k with ⟨f, k⟩ | ⟨x, f, k, k'⟩
    · rcases k2 with ⟨g, k2⟩ | ⟨y, g, k2, _⟩
      · exact (dis a f g k k2).elim
      · exact absurd k2 (nown (List.mem_append_left _ k))
    · rcases k2 with ⟨g, k2⟩ | ⟨y, g, k2, k2'⟩
      · exact absurd k (nown (List.mem_append_right _ k2))
      · rw [k] at k2
        cases k2
        exact (dis x f g k' k2').elim
theorem SepF.join {U1 U2 : Hp} (M1 : Mf K B C U1 m1) (M2 : Mf K B C U2 m2) (S : Sep K (B.hang U2) C H σ ρ) (hh : ∀ a o, U1 a = some o → H a = some o ∧ U2 a = none ∧ NoSlot σ ρ a) : SepF K B C H σ ρ (m1 ++ m2) := by
  have l1 : ∀ {b : Addr} {o : HO}, U1 b = some o → (fun a => match U1 a with | some o => some o | none => U2 a) b = some o := fun {b o} e => by
    show (match U1 b with | some o => some o | none => U2 b) = _
    rw [e]
  have l2 : ∀ {b : Addr} {o : HO}, U2 b = some o → (fun a => match U1 a with | some o => some o | none => U2 a) b = some o := fun {b o} e => by
    show (match U1 b with | some o => some o | none => U2 b) = _
    cases q : U1 b with
    | none => exact e
    | some u =>
      have := (hh b u q).2.1
      rw [e] at this
      cases this
  have un : ∀ {b : Addr} {o : HO}, (fun a => match U1 a with | some o => some o | none => U2 a) b = some o → U1 b = some o ∨ U2 b = some o := fun {b o} e => by
    have e : (match U1 b with | some o => some o | none => U2 b) = some o := e
    cases q : U1 b with
    | none => rw [q] at e; exact .inr e
    | some u => rw [q] at e; cases e; exact .inl rfl
  refine ⟨_, ⟨?_, fun a f h => ?_, fun a o h => ?_, fun a o h => ?_⟩, S.hangAll (U' := U1) fun a o h => ⟨(hh a o h).1, (M1.fr a o h).1, by rw [hang_off (hh a o h).2.1]; exact (M1.fr a o h).2.1, (hh a o h).2.2⟩⟩
  · rw [List.map_append]
    refine List.nodup_append.mpr ⟨M1.nd, M2.nd, fun a h1 b h2 z => ?_⟩
    subst z
    obtain ⟨⟨x, f⟩, g1, rfl⟩ := List.mem_map.mp h1
    obtain ⟨⟨y, g⟩, g2, e2⟩ := List.mem_map.mp h2
    have e3 : y = x := e2
    subst e3
    cases q : U1 y with
    | none => exact M1.ne g1 q
    | some o => exact M2.ne g2 (hh y o q).2.1
  · rcases List.mem_append.mp h with h | h
    · exact (M1.at_ a f h).heap fun b o _ e => l1 e
    · exact (M2.at_ a f h).heap fun b o _ e => l2 e
  · rcases un h with h | h
    · exact (M1.all a o h).imp (fun ⟨f, z⟩ => ⟨f, List.mem_append_left _ z⟩) fun ⟨x, f, e, z⟩ => ⟨x, f, e, List.mem_append_left _ z⟩
    · exact (M2.all a o h).imp (fun ⟨f, z⟩ => ⟨f, List.mem_append_right _ z⟩) fun ⟨x, f, e, z⟩ => ⟨x, f, e, List.mem_append_right _ z⟩
  · rcases un h with h | h
    · exact M1.fr a o h
    · exact M2.fr a o h
theorem Mf.perm (M : Mf K B C U m1) (p : m1.Perm m2) : Mf K B C U m2 :=
  ⟨(p.map _).nodup_iff.mp M.nd, fun a f h => M.at_ a f (p.mem_iff.mpr h), fun a o h => (M.all a o h).imp (fun ⟨f, z⟩ => ⟨f, p.mem_iff.mp z⟩) fun ⟨x, f, e, z⟩ => ⟨x, f, e, p.mem_iff.mp z⟩, M.fr⟩
theorem SepF.perm (S : SepF K B C H σ ρ m1) (p : m1.Perm m2) : SepF K B C H σ ρ m2 := by
  obtain ⟨U, M, S⟩ := S
  exact ⟨U, M.perm p, S⟩
theorem SepF.right (S : SepF K B C H σ ρ (m1 ++ m2)) : SepF K B C H σ ρ m2 := by
  obtain ⟨U1, U2, M1, M2, S, _⟩ := S.split
  exact ⟨U2, M2, S⟩
theorem SepF.left (S : SepF K B C H σ ρ (m1 ++ m2)) : SepF K B C H σ ρ m1 := (S.perm List.perm_append_comm).right
theorem SepF.sep (S : SepF K B C H σ ρ m) : Sep K B C H σ ρ := by
  obtain ⟨U, M, S⟩ := S
  exact S.unhang M
theorem SepF.has (S : SepF K B C H σ ρ m) (h : (a, f) ∈ m) : FlOk K C H a f := by
  obtain ⟨U, M, S⟩ := S
  exact (M.at_ a f h).heap fun b o _ e => M.bound S e
def oneU (a : Addr) (o : HO) : Hp := fun b => if b = a then some o else none
theorem oneU_at {o : HO} : oneU a o a = some o := if_pos rfl
theorem oneU_eq {o u : HO} {b : Addr} (h : oneU a o b = some u) : b = a ∧ u = o := by
  unfold oneU at h
  split at h
  · next e => exact ⟨e, (Option.some.inj h).symm⟩
  · cases h
theorem Mf.one {o : HO} (ok : FlOk K C (oneU a o) a f) (c : C a = none) (b : B.H0 a = none) (x : ∀ i, B.bx ≠ some (i, a)) : Mf K B C (oneU a o) [(a, f)] :=
  ⟨List.nodup_cons.mpr ⟨by simp, .nil⟩, fun b g h => by
    obtain ⟨rfl, rfl⟩ := Prod.mk.inj (List.mem_singleton.mp h)
    exact ok, fun b u h => .inl ⟨f, by rw [(oneU_eq h).1]; exact List.mem_cons_self ..⟩, fun b' u h => by
    rw [(oneU_eq h).1]
    exact ⟨c, b, x⟩⟩
/-- a thing of its own is hung -/
theorem Sep.nobx (S : Sep K B C H σ ρ) (ns : NoSlot σ ρ a) (i : Nat) : B.bx ≠ some (i, a) := fun e => by
  obtain ⟨e1, n, e2⟩ := S.par i a e
  exact ns i _ e2 rfl e1
theorem SepF.push (S : Sep K (B.hang U) C H σ ρ) (M : Mf K B C U m) {o : HO} (ha : H a = some o) (ca : C a = none) (h0 : (B.hang U).H0 a = none) (ns : NoSlot σ ρ a) (ok : FlOk K C (oneU a o) a f) : SepF K B C H σ ρ ((a, f) :: m) := by
  obtain ⟨u0, b0⟩ := hang_no h0
  refine SepF.join (m1 := [(a, f)]) (Mf.one ok ca b0 (S.nobx ns)) M S fun b u h => ?_
  obtain ⟨rfl, rfl⟩ := oneU_eq h
  exact ⟨ha, u0, ns⟩
theorem SepF.fresh {ds : List Dt} (S : Sep K (B.hang U) C H σ ρ) (M : Mf K B C U m) (f : Fr K (B.hang U) C H σ ρ a ds) : SepF K B C H σ ρ ((a, .lst ds) :: m) := by
  obtain ⟨⟨vs, ha, r⟩, ca, h0, ns⟩ := f
  exact SepF.push S M ha ca h0 ns ⟨vs, oneU_at, r⟩
/-- a new object is laid and kept cold -/
theorem SepF.alloc {p : Addr} {o : HO} (S : SepF K B C H σ ρ m) (hp : H p = none) : SepF K B (upd C p o) (upd H p o) σ ρ m ∧ Same C (upd C p o) := by
  obtain ⟨U, M, S⟩ := S
  have cp := S.cold.free hp
  exact ⟨⟨U, M.on S.grow (same_new cp) (S.alloc hp), S.alloc hp⟩, same_new cp⟩
theorem Sep.wr {o' : HO} (S : Sep K B C H σ ρ) (ca : C a = none) (h0 : B.H0 a = none) (ns : NoSlot σ ρ a) : Sep K B C (upd H a o') σ ρ := by
  have nC : ∀ b x, C b = some x → b ≠ a := fun b x h z => by rw [z, ca] at h; cases h
  have nB : ∀ b x, B.H0 b = some x → b ≠ a := fun b x h z => by rw [z, h0] at h; cases h
  refine ⟨fun b x e => by rw [upd_ne (nC b x e)]; exact S.cold _ _ e, S.len, fun i s h => ?_, S.ne, S.grow, S.new, fun b h => ?_, fun b x h n => by rw [upd_ne (nB b x h)]; exact S.keep b x h n, S.loc, S.lob, S.par, S.pz⟩
  · have q := S.sl i s h
    cases s with
    | un => trivial
    | dat d => exact q
    | hot ds =>
      obtain ⟨b, vs, e, h2, r, h3⟩ := q
      exact ⟨b, vs, e, by rw [upd_ne (fun z : b = a => ns i _ h rfl (by rw [← z]; exact e))]; exact h2, r, h3⟩
    | box n =>
      obtain ⟨b, e, ⟨x, y, z, h2, h4⟩, h3⟩ := q
      exact ⟨b, e, ⟨x, y, z, by rw [upd_ne (fun z : b = a => ns i _ h rfl (by rw [← z]; exact e))]; exact h2, h4⟩, h3⟩
  · by_cases z : b = a
    · rw [z, upd_same]
      exact fun q => nomatch q
    · rw [upd_ne z]
      exact S.dom b h
/-- one of them is changed -/
theorem SepF.set {f' : Fl} {o' : HO} (S : SepF K B C H σ ρ ((a, f) :: m)) (ok : ∀ U1 : Hp, FlOk K C U1 a f → (∀ b o, U1 b = some o → H b = some o) → FlOk K C (upd U1 a o') a f') : SepF K B C (upd H a o') σ ρ ((a, f') :: m) := by
  obtain ⟨U1, U2, M1, M2, S, hh⟩ := SepF.split (m1 := [(a, f)]) S
  have f1 := M1.at_ a f (List.mem_cons_self ..)
  obtain ⟨o, e1, no⟩ := f1.root
  obtain ⟨ca, b0, bx⟩ := M1.fr a o e1
  obtain ⟨ha, u2, ns⟩ := hh a o e1
  refine SepF.join (m1 := [(a, f')]) (U1 := upd U1 a o') ⟨List.nodup_cons.mpr ⟨by simp, .nil⟩, fun b g h => ?_, fun b u h => ?_, fun b u h => ?_⟩ M2 (S.wr ca (by rw [hang_off u2]; exact b0) ns) fun b u h => ?_
  · obtain ⟨rfl, rfl⟩ := Prod.mk.inj (List.mem_singleton.mp h)
    exact ok U1 f1 fun b o e => (hh b o e).1
  · by_cases z : b = a
    · exact .inl ⟨f', by rw [z]; exact List.mem_cons_self ..⟩
    · rw [upd_ne z] at h
      rcases M1.all b u h with ⟨g, k⟩ | ⟨x, g, k, k2⟩
      · exact absurd (Prod.mk.inj (List.mem_singleton.mp k)).1 z
      · exact .inr ⟨x, f', k, by rw [(Prod.mk.inj (List.mem_singleton.mp k2)).1]; exact List.mem_cons_self ..⟩
  · by_cases z : b = a
    · rw [z]
      exact ⟨ca, b0, bx⟩
    · rw [upd_ne z] at h
      exact M1.fr b u h
  · by_cases z : b = a
    · rw [z]
      rw [z, upd_same] at h
      cases h
      exact ⟨upd_same, u2, ns⟩
    · rw [upd_ne z] at h
      rw [upd_ne z]
      exact hh b u h
theorem Sep.coolU {U1 : Hp} (S : Sep K B C H σ ρ) (h : ∀ a o, U1 a = some o → H a = some o ∧ C a = none ∧ B.H0 a = none ∧ NoSlot σ ρ a) : Sep K B (orU U1 C) H σ ρ ∧ Same C (orU U1 C) := by
  have sC : Same C (orU U1 C) := fun a o e => by
    cases q : U1 a with
    | some u =>
      rw [(h a u q).2.1] at e
      cases e
    | none => rw [orU_off q]; exact e
  have off : ∀ (i : Nat) (t : Sl) (a : Addr), ρ[i]? = some t → t.mut = true → σ[i]? = some (some (V.ref a)) → U1 a = none := fun i t a ht m e => by
    cases q : U1 a with
    | none => rfl
    | some u => exact absurd e ((h a u q).2.2.2 i t ht m)
  refine ⟨⟨fun a o e => ?_, S.len, fun i s hs => ?_, S.ne, S.grow.trans sC, fun a o e n => ?_, S.dom, S.keep, S.loc, S.lob, S.par, S.pz⟩, sC⟩
  · cases q : U1 a with
    | some u =>
      rw [orU_at q] at e
      cases e
      exact (h a _ q).1
    | none => rw [orU_off q] at e; exact S.cold _ _ e
  · have q := S.sl i s hs
    cases s with
    | un => trivial
    | dat d =>
      obtain ⟨v, e, r⟩ := q
      exact ⟨v, e, r.same sC⟩
    | hot ds =>
      obtain ⟨a, vs, e, h2, r, h3⟩ := q
      exact ⟨a, vs, e, h2, r.same sC, by rw [orU_off (off i _ a hs rfl e)]; exact h3⟩
    | box n =>
      obtain ⟨a, e, b, h3⟩ := q
      exact ⟨a, e, b, by rw [orU_off (off i _ a hs rfl e)]; exact h3⟩
  · cases q : U1 a with
    | some u => exact (h a u q).2.2.1
    | none => rw [orU_off q] at e; exact S.new a o e n
def Fl.cold : Fl → Dt
  | .lst ds => .lst ds
  | .ins c ns ds => .obj c ns ds
  | .dic ks ds => .dic ks ds
  | .lck ks ds => .dic ks ds
/-- one of them grows cold -/
theorem SepF.cool (S : SepF K B C H σ ρ ((a, f) :: m)) : ∃ C', SepF K B C' H σ ρ m ∧ Same C C' ∧ Rp K C' (.ref a) f.cold := by
  obtain ⟨U1, U2, M1, M2, S, hh⟩ := SepF.split (m1 := [(a, f)]) S
  obtain ⟨S', sC⟩ := S.coolU (U1 := U1) fun b o e => ⟨(hh b o e).1, (M1.fr b o e).1, by rw [hang_off (hh b o e).2.1]; exact (M1.fr b o e).2.1, (hh b o e).2.2⟩
  refine ⟨_, ⟨U2, M2.on S.grow sC S', S'⟩, sC, ?_⟩
  have ok := (M1.at_ a f (List.mem_cons_self ..)).same sC
  cases f with
  | lst ds =>
    obtain ⟨vs, e, r⟩ := ok
    exact .lst (orU_at e) r
  | ins c ns ds =>
    obtain ⟨dx, vs, e, e2, l, r, _⟩ := ok
    exact .obj (orU_at e) (orU_at e2) l r
  | dic ks ds =>
    obtain ⟨vs, e, l, n, r⟩ := ok
    exact .dic (.inl (orU_at e)) l n r
  | lck ks ds =>
    obtain ⟨o, vs, e, l, n, r⟩ := ok
    exact .dic (.inr ⟨o, orU_at e⟩) l n r
theorem SepF.put {i : Nat} {v : V} {d : Dt} (S : SepF K B C H σ ρ m) (hb : i = 0 → ∀ n, ρ[i]? ≠ some (.box n)) (r : Rp K C v d) : SepF K B C H (σ.set i (some v)) (ρ.set i (.dat d)) m := by
  obtain ⟨U, M, S⟩ := S
  exact ⟨U, M, S.dat hb r⟩
/-- a list becomes a name's own -/
theorem SepF.toHot {i : Nat} {ds : List Dt} (S : SepF K B C H σ ρ ((a, .lst ds) :: m)) (hb : i = 0 → ∀ n, ρ[i]? ≠ some (.box n)) : SepF K B C H (σ.set i (some (.ref a))) (ρ.set i (.hot ds)) m := by
  obtain ⟨U1, U2, M1, M2, S, hh⟩ := SepF.split (m1 := [(a, .lst ds)]) S
  obtain ⟨vs, e, r⟩ := M1.at_ a _ (List.mem_cons_self ..)
  obtain ⟨ca, b0, bx⟩ := M1.fr a _ e
  obtain ⟨ha, u2, ns⟩ := hh a _ e
  refine ⟨U2, M2, S.put hb (fun _ => ⟨a, vs, rfl, ha, r, ca⟩) fun _ b eb => ?_⟩
  cases eb
  exact ⟨fun j t _ hj mt => ns j t hj mt, by rw [hang_off u2]; exact b0⟩
end

end
section
variable {P : Program} {w : World} {K : PySem.W.Frag} {mg : Str → Option Value} {base : Heap}
local macro_rules | `(tactic| get_elem_tactic_trivial) => `(tactic| (repeat first | exact Wk.nil | exact Wk'.nil | refine Wk.same ?_ | refine Wk'.same ?_ | refine Wk.un (fun _ z => nomatch z) ?_ | refine Wk'.un ?_))
/-! level 3: packs opened and closed -/
def Ex1 : Addr × Ob → Fm → Prop
  | (a, .fl f), m => m = [(a, f)]
  | (a, .pk I), m => I a m
def Exp : My → Fm → Prop
  | [], m => m = []
  | c :: μ, m => ∃ m1 m2, m = m1 ++ m2 ∧ Ex1 c m1 ∧ Exp μ m2
theorem Exp.app : ∀ {μ1 μ2 : My} {m1 m2 : Fm}, Exp μ1 m1 → Exp μ2 m2 → Exp (μ1 ++ μ2) (m1 ++ m2)
  | [], _, _, _, h, k => by cases h; exact k
  | c :: μ1, μ2, m1, m2, ⟨x, y, e, h1, h2⟩, k => ⟨x, y ++ m2, by rw [e, List.append_assoc], h1, Exp.app h2 k⟩
theorem Exp.unapp : ∀ {μ1 μ2 : My} {m : Fm}, Exp (μ1 ++ μ2) m → ∃ m1 m2, m = m1 ++ m2 ∧ Exp μ1 m1 ∧ Exp μ2 m2
  | [], _, m, h => ⟨[], m, rfl, rfl, h⟩
  | c :: μ1, μ2, m, ⟨x, y, e, h1, h2⟩ => by
    obtain ⟨m1, m2, e2, k1, k2⟩ := Exp.unapp h2
    exact ⟨x ++ m1, m2, by rw [e, e2, List.append_assoc], ⟨x, m1, rfl, h1, k1⟩, k2⟩
theorem Exp.perm {μ μ' : My} (p : μ.Perm μ') : ∀ {m : Fm}, Exp μ m → ∃ m', Exp μ' m' ∧ m.Perm m' := by
  induction p with
  | nil => exact fun {m} h => ⟨m, h, .refl _⟩
  | cons c p ih =>
    rintro m ⟨x, y, rfl, h1, h2⟩
    obtain ⟨y', k, q⟩ := ih h2
    exact ⟨x ++ y', ⟨x, y', rfl, h1, k⟩, q.append_left x⟩
  | swap c d μ =>
    rintro m ⟨x, _, rfl, h1, y, z, rfl, h2, h3⟩
    exact ⟨y ++ (x ++ z), ⟨y, x ++ z, rfl, h2, x, z, rfl, h1, h3⟩, by
      rw [← List.append_assoc, ← List.append_assoc]
      exact List.Perm.append_right _ List.perm_append_comm⟩
  | trans p q ih1 ih2 =>
    intro m h
    obtain ⟨m1, h1, q1⟩ := ih1 h
    obtain ⟨m2, h2, q2⟩ := ih2 h1
    exact ⟨m2, h2, q1.trans q2⟩
/-- what may be had instead -/
def Ent (μ μ' : My) : Prop := ∀ m, Exp μ m → ∃ m' r, Exp μ' m' ∧ m.Perm (m' ++ r)
theorem Ent.refl (μ : My) : Ent μ μ := fun m h => ⟨m, [], h, by rw [List.append_nil]⟩
theorem Ent.trans {μ1 μ2 μ3 : My} (h : Ent μ1 μ2) (k : Ent μ2 μ3) : Ent μ1 μ3 := fun m e => by
  obtain ⟨m2, r2, e2, p2⟩ := h m e
  obtain ⟨m3, r3, e3, p3⟩ := k m2 e2
  exact ⟨m3, r3 ++ r2, e3, p2.trans (by rw [← List.append_assoc]; exact p3.append_right _)⟩
theorem Ent.perm {μ μ' : My} (p : μ.Perm μ') : Ent μ μ' := fun m e => by
  obtain ⟨m', e', q⟩ := e.perm p
  exact ⟨m', [], e', by rw [List.append_nil]; exact q⟩
theorem Ent.drop {μ μ' r : My} (p : μ.Perm (μ' ++ r)) : Ent μ μ' := (Ent.perm p).trans fun m e => by
  obtain ⟨m1, m2, rfl, e1, e2⟩ := e.unapp
  exact ⟨m1, m2, e1, .refl _⟩
theorem Ent.app {μ1 μ1' μ2 μ2' : My} (h : Ent μ1 μ1') (k : Ent μ2 μ2') : Ent (μ1 ++ μ2) (μ1' ++ μ2') := fun m e => by
  obtain ⟨m1, m2, rfl, e1, e2⟩ := e.unapp
  obtain ⟨n1, r1, f1, p1⟩ := h m1 e1
  obtain ⟨n2, r2, f2, p2⟩ := k m2 e2
  refine ⟨n1 ++ n2, r1 ++ r2, f1.app f2, ((p1.append p2).trans ?_)⟩
  rw [List.append_assoc, List.append_assoc]
  refine List.Perm.append_left _ ?_
  rw [← List.append_assoc, ← List.append_assoc]
  exact List.Perm.append_right _ List.perm_append_comm
theorem Ent.cons {c : Addr × Ob} {μ μ' : My} (h : Ent μ μ') : Ent (c :: μ) (c :: μ') := Ent.app (μ1 := [c]) (μ1' := [c]) (Ent.refl _) h
def Sep3 (K : PySem.W.Frag) (B : Bs) (C H : Hp) (σ : L2.St) (ρ : List Sl) (μ : My) : Prop := ∃ m, Exp μ m ∧ SepF K B C H σ ρ m
section
variable {B : Bs} {C C' H G : Hp} {σ σ' : L2.St} {ρ ρ' : List Sl} {μ μ' μ1 μ2 : My} {a : Addr} {f : Fl}
theorem Sep3.ent (S : Sep3 K B C H σ ρ μ) (h : Ent μ μ') : Sep3 K B C H σ ρ μ' := by
  obtain ⟨m, e, S⟩ := S
  obtain ⟨m', r, e', p⟩ := h m e
  exact ⟨m', e', (S.perm p).left⟩
theorem Sep3.sep (S : Sep3 K B C H σ ρ μ) : Sep K B C H σ ρ := by
  obtain ⟨m, e, S⟩ := S
  exact S.sep
theorem at_split {α : Type} : ∀ {l : List α} {i : Nat} {x : α}, l[i]? = some x → ∃ r, l.Perm (x :: r) ∧ ∀ y, (l.set i y).Perm (y :: r)
  | [], i, x, h => by simp at h
  | z :: l, 0, x, h => by
    cases h
    exact ⟨l, .refl _, fun y => .refl _⟩
  | z :: l, i + 1, x, h => by
    obtain ⟨r, p, q⟩ := at_split (l := l) (i := i) h
    exact ⟨z :: r, (List.Perm.cons _ p).trans (.swap _ _ _), fun y => (List.Perm.cons _ (q y)).trans (.swap _ _ _)⟩
theorem Sep3.has {i : Nat} (S : Sep3 K B C H σ ρ μ) (h : μ[i]? = some (a, .fl f)) : FlOk K C H a f := by
  obtain ⟨r, p, _⟩ := at_split h
  obtain ⟨m, ⟨x, y, rfl, h1, _⟩, S⟩ := S.ent (Ent.perm p)
  cases h1
  exact S.has (List.mem_append_left _ (List.mem_cons_self ..))
theorem Sep3.set {i : Nat} {f' : Fl} {o' : HO} (S : Sep3 K B C H σ ρ μ) (h : μ[i]? = some (a, .fl f)) (ok : ∀ U1 : Hp, FlOk K C U1 a f → (∀ b o, U1 b = some o → H b = some o) → FlOk K C (upd U1 a o') a f') : Sep3 K B C (upd H a o') σ ρ (μ.set i (a, .fl f')) := by
  obtain ⟨r, p, q⟩ := at_split h
  obtain ⟨m, ⟨x, y, rfl, h1, h2⟩, S⟩ := S.ent (Ent.perm p)
  cases h1
  exact (show Sep3 K B C (upd H a o') σ ρ ((a, .fl f') :: r) from ⟨_, ⟨[(a, f')], y, rfl, rfl, h2⟩, SepF.set S ok⟩).ent (Ent.perm (q _).symm)
theorem Sep3.alloc {p : Addr} {o : HO} (S : Sep3 K B C H σ ρ μ) (hp : H p = none) : Sep3 K B (upd C p o) (upd H p o) σ ρ μ ∧ Same C (upd C p o) := by
  obtain ⟨m, e, S⟩ := S
  exact ⟨⟨m, e, (S.alloc hp).1⟩, (S.alloc (o := o) hp).2⟩
theorem Sep3.cool (S : Sep3 K B C H σ ρ ((a, .fl f) :: μ)) : ∃ C', Sep3 K B C' H σ ρ μ ∧ Same C C' ∧ Rp K C' (.ref a) f.cold := by
  obtain ⟨m, ⟨x, y, rfl, h1, h2⟩, S⟩ := S
  cases h1
  obtain ⟨C', S, s, r⟩ := SepF.cool (m := y) S
  exact ⟨C', ⟨y, h2, S⟩, s, r⟩
theorem Sep3.put {i : Nat} {v : V} {d : Dt} (S : Sep3 K B C H σ ρ μ) (hb : i = 0 → ∀ n, ρ[i]? ≠ some (.box n)) (r : Rp K C v d) : Sep3 K B C H (σ.set i (some v)) (ρ.set i (.dat d)) μ := by
  obtain ⟨m, e, S⟩ := S
  exact ⟨m, e, S.put hb r⟩
theorem Sep3.toHot {i : Nat} {ds : List Dt} (S : Sep3 K B C H σ ρ ((a, .fl (.lst ds)) :: μ)) (hb : i = 0 → ∀ n, ρ[i]? ≠ some (.box n)) : Sep3 K B C H (σ.set i (some (.ref a))) (ρ.set i (.hot ds)) μ := by
  obtain ⟨m, ⟨x, y, rfl, h1, h2⟩, S⟩ := S
  cases h1
  exact ⟨y, h2, SepF.toHot (m := y) S hb⟩
/-- a new list -/
theorem Sep3.new {p : Addr} {vs : List V} {ds : List Dt} (S : Sep3 K B C H σ ρ μ) (hp : H p = none) (r : RpL K C vs ds) : Sep3 K B C (upd H p (.lst vs)) σ ρ ((p, .fl (.lst ds)) :: μ) := by
  obtain ⟨m, e, U, M, S⟩ := S
  exact ⟨_, ⟨[(p, .lst ds)], m, rfl, rfl, e⟩, SepF.fresh (S.allocN hp) M (S.frN hp r)⟩
theorem Sep3.weakS (S : Sep3 K B C H σ ρ μ) (w : Wk ρ ρ') : Sep3 K B C H σ ρ' μ := by
  obtain ⟨m, e, U, M, S⟩ := S
  exact ⟨m, e, U, M, S.weak w⟩
end

end
section
variable {P : Program} {w : World} {K : PySem.W.Frag} {mg : Str → Option Value} {base : Heap}
local macro_rules | `(tactic| get_elem_tactic_trivial) => `(tactic| (repeat first | exact Wk.nil | exact Wk'.nil | refine Wk.same ?_ | refine Wk'.same ?_ | refine Wk.un (fun _ z => nomatch z) ?_ | refine Wk'.un ?_))
/-! level 3: readings -/
abbrev XE3 := Str → Dt → List Sl → My → Prop
abbrev WE3 := List Sl → My → (Ro → List Sl → My → Prop) → XE3 → Prop
abbrev WA3 := List Sl → My → (List Ar → List Sl → My → Prop) → XE3 → Prop
abbrev WR3 := List Sl → My → (Ar → List Sl → My → Prop) → XE3 → Prop
abbrev WT3 := List Sl → My → (Bool → List Sl → My → Prop) → XE3 → Prop
structure Fs3 where
  nx : List Sl → My → Prop
  rt : Ro → List Sl → My → Prop
  bk : List Sl → My → Prop
  ct : List Sl → My → Prop
abbrev WS3 := List Sl → My → Fs3 → XE3 → Prop
def Ok3 (K : PySem.W.Frag) (B : Bs) (C H : Hp) (σ : L2.St) (ρ : List Sl) (μ : My) (v : V) : Ro → Prop
  | .dat d => Sep3 K B C H σ ρ μ ∧ Rp K C v d
  | .new ds => ∃ a, v = .ref a ∧ Sep3 K B C H σ ρ ((a, .fl (.lst ds)) :: μ)
def MeetsX3 (K : PySem.W.Frag) (B : Bs) (Ξ : XE3) (W : WX) : Prop := ∀ (C' G : Hp) (σ : L2.St) (ρ : List Sl) (μ : My) (cls : Value) (dd : Option Addr) (c : Str) (d : Dt), Sep3 K B C' G σ ρ μ → ExAt K C' cls dd c d → Ξ c d ρ μ → W cls dd σ G
structure Meets3 (K : PySem.W.Frag) (B : Bs) (Φ : Fs3) (D : Ends) : Prop where
  nx : ∀ C H σ ρ μ, Sep3 K B C H σ ρ μ → Φ.nx ρ μ → D.nx σ H
  rt : ∀ C H σ ρ μ v r, Ok3 K B C H σ ρ μ v r → Φ.rt r ρ μ → D.rt v H
  bk : ∀ C H σ ρ μ, Sep3 K B C H σ ρ μ → Φ.bk ρ μ → D.bk σ H
  ct : ∀ C H σ ρ μ, Sep3 K B C H σ ρ μ → Φ.ct ρ μ → D.ct σ H
class E3 (K : PySem.W.Frag) (W : WX) (t : TE) (w : outParam WE3) : Prop where
  run : ∀ (B : Bs) (C H : Hp) (σ : L2.St) (ρ : List Sl) (μ : My) (Q : VK) (Ψ : Ro → List Sl → My → Prop) (Ξ : XE3), Sep3 K B C H σ ρ μ → w ρ μ Ψ Ξ → (∀ C' G v r ρ' μ', Ok3 K B C' G σ ρ' μ' v r → Same C C' → Ψ r ρ' μ' → Q v G) → MeetsX3 K B Ξ W → t σ H Q
class R3 (K : PySem.W.Frag) (W : WX) (t : TE) (w : outParam WR3) : Prop where
  run : ∀ (B : Bs) (C H : Hp) (σ : L2.St) (ρ : List Sl) (μ : My) (Q : VK) (Ψ : Ar → List Sl → My → Prop) (Ξ : XE3), Sep3 K B C H σ ρ μ → w ρ μ Ψ Ξ → (∀ C' G v a ρ' μ', Sep3 K B C' G σ ρ' μ' → Same C C' → ArOk K C' σ v a → Ψ a ρ' μ' → Q v G) → MeetsX3 K B Ξ W → t σ H Q
class A3 (K : PySem.W.Frag) (W : WX) (t : TA) (w : outParam WA3) : Prop where
  run : ∀ (B : Bs) (C H : Hp) (σ : L2.St) (ρ : List Sl) (μ : My) (Q : List V → Hp → Prop) (Ψ : List Ar → List Sl → My → Prop) (Ξ : XE3), Sep3 K B C H σ ρ μ → w ρ μ Ψ Ξ → (∀ C' G vs as ρ' μ', Sep3 K B C' G σ ρ' μ' → Same C C' → ArL K C' σ vs as → Ψ as ρ' μ' → Q vs G) → MeetsX3 K B Ξ W → t σ H Q
class C3 (K : PySem.W.Frag) (W : WX) (t : TT) (w : outParam WT3) : Prop where
  run : ∀ (B : Bs) (C H : Hp) (σ : L2.St) (ρ : List Sl) (μ : My) (Q : Bool → Hp → Prop) (Ψ : Bool → List Sl → My → Prop) (Ξ : XE3), Sep3 K B C H σ ρ μ → w ρ μ Ψ Ξ → (∀ C' G b ρ' μ', Sep3 K B C' G σ ρ' μ' → Same C C' → Ψ b ρ' μ' → Q b G) → MeetsX3 K B Ξ W → t σ H Q
class S3 (K : PySem.W.Frag) (W : WX) (t : TS) (w : outParam WS3) : Prop where
  run : ∀ (B : Bs) (C H : Hp) (σ : L2.St) (ρ : List Sl) (μ : My) (D : Ends) (Φ : Fs3) (Ξ : XE3), Sep3 K B C H σ ρ μ → w ρ μ Φ Ξ → Meets3 K B Φ D → MeetsX3 K B Ξ W → t D σ H
section
variable {B : Bs} {C C' H G : Hp} {σ σ' : L2.St} {ρ ρ' : List Sl} {μ μ' : My} {v : V} {r : Ro}
theorem Ok3.cool (h : Ok3 K B C H σ ρ μ v r) : ∃ C', Sep3 K B C' H σ ρ μ ∧ Same C C' ∧ Rp K C' v r.val := by
  cases r with
  | dat d => exact ⟨C, h.1, Same.refl _, h.2⟩
  | new ds =>
    obtain ⟨a, rfl, S⟩ := h
    exact Sep3.cool S
/-- level 1 goes on from here -/
theorem Sep3.lift (S : Sep3 K B C H σ ρ μ) : ∃ B1 : Bs, Sep K B1 C H σ ρ ∧ (∀ {C' G : Hp} {σ' : L2.St} {ρ' : List Sl}, Sep K B1 C' G σ' ρ' → Sep3 K B C' G σ' ρ' μ ∧ Same C C') ∧ ∀ {C' G : Hp} {σ' : L2.St} {ρ' : List Sl} {a : Addr} {ds : List Dt}, Sep K B1 C' G σ' ρ' → Fr K B1 C' G σ' ρ' a ds → Sep3 K B C' G σ' ρ' ((a, .fl (.lst ds)) :: μ) := by
  obtain ⟨m, e, U, M, S⟩ := S
  refine ⟨⟨C, (B.hang U).H0, B.bx⟩, S.rebase, fun {C' G σ' ρ'} z => ?_, fun {C' G σ' ρ' a ds} z f => ?_⟩
  · obtain ⟨z1, z2⟩ := sep_back (B := B.hang U) S.grow S.new z
    exact ⟨⟨m, e, U, M.on S.grow z2 z1, z1⟩, z2⟩
  · obtain ⟨z1, z2⟩ := sep_back (B := B.hang U) S.grow S.new z
    exact ⟨_, ⟨[(a, .lst ds)], m, rfl, rfl, e⟩, SepF.fresh z1 (M.on S.grow z2 z1) f⟩
theorem MeetsX3.on {Ξ : XE3} {W : WX} {B1 : Bs} (mx : MeetsX3 K B Ξ W) (back : ∀ {C' G : Hp} {σ' : L2.St} {ρ' : List Sl}, Sep K B1 C' G σ' ρ' → Sep3 K B C' G σ' ρ' μ ∧ Same C C') : MeetsX K B1 (fun c d ρ' => Ξ c d ρ' μ) W := fun C' G σ ρ cls dd c d S ex z => mx _ _ _ _ _ _ _ _ _ (back S).1 ex z
end
/-! what level 1 reads -/
def lf3 (w : WEX) : WE3 := fun ρ μ Ψ Ξ => w ρ (fun r ρ1 => store r ρ1 fun a ρ2 => isD a fun d => Ψ (.dat d) ρ2 μ) fun c d ρ' => Ξ c d ρ' μ
instance (priority := 50) e3_lf {W : WX} {t : TE} {w : WEX} [a : Xd K W t w] : E3 K W t (lf3 w) where
  run B C H σ ρ μ Q Ψ Ξ S h k mx := by
    obtain ⟨B1, S1, back, _⟩ := S.lift
    refine a.run B1 C H σ ρ _ _ _ S1 h (fun C1 G v r ρ1 S2 s2 ok z => ?_) (mx.on back)
    obtain ⟨C2, x, ρ2, S3, s3, rx, z⟩ := S2.stored ok z
    cases x with
    | b i => exact False.elim z
    | d d => exact k _ _ _ (.dat d) _ _ ⟨(back S3).1, rx⟩ (back S3).2 z
def lr3 (w : WEX) : WR3 := fun ρ μ Ψ Ξ => w ρ (fun r ρ1 => store r ρ1 fun a ρ2 => Ψ a ρ2 μ) fun c d ρ' => Ξ c d ρ' μ
instance (priority := 50) r3_lf {W : WX} {t : TE} {w : WEX} [a : Xd K W t w] : R3 K W t (lr3 w) where
  run B C H σ ρ μ Q Ψ Ξ S h k mx := by
    obtain ⟨B1, S1, back, _⟩ := S.lift
    refine a.run B1 C H σ ρ _ _ _ S1 h (fun C1 G v r ρ1 S2 s2 ok z => ?_) (mx.on back)
    obtain ⟨C2, x, ρ2, S3, s3, rx, z⟩ := S2.stored ok z
    exact k _ _ _ _ _ _ (back S3).1 (back S3).2 rx z
def le3 (w : WE3) : WR3 := fun ρ μ Ψ Ξ => w ρ μ (fun r ρ1 μ1 => Ψ (.d r.val) ρ1 μ1) Ξ
instance (priority := 40) r3_e3 {W : WX} {t : TE} {w : WE3} [a : E3 K W t w] : R3 K W t (le3 w) where
  run B C H σ ρ μ Q Ψ Ξ S h k mx := a.run B C H σ ρ μ _ _ _ S h (fun C1 G v r ρ1 μ1 ok s1 z => by
    obtain ⟨C2, S2, s2, r2⟩ := ok.cool
    exact k _ _ _ (.d r.val) _ _ S2 (s1.trans s2) r2 z) mx
def lc3 (w : WT) : WT3 := fun ρ μ Ψ _ => w ρ fun b ρ1 => Ψ b ρ1 μ
instance (priority := 50) c3_lf {W : WX} {t : TT} {w : WT} [a : Sc K t w] : C3 K W t (lc3 w) where
  run B C H σ ρ μ Q Ψ Ξ S h k mx := by
    obtain ⟨B1, S1, back, _⟩ := S.lift
    exact a.run B1 C H σ ρ _ _ S1 h fun C1 G b ρ1 S2 s2 z => k _ _ _ _ _ (back S2).1 (back S2).2 z
def ls3 (w : WSX) : WS3 := fun ρ μ Φ Ξ => w ρ ⟨fun ρ' => Φ.nx ρ' μ, fun r ρ' => Φ.rt r ρ' μ, fun ρ' => Φ.bk ρ' μ, fun ρ' => Φ.ct ρ' μ⟩ fun c d ρ' => Ξ c d ρ' μ
instance (priority := 50) s3_lf {W : WX} {t : TS} {w : WSX} [a : Xs K W t w] : S3 K W t (ls3 w) where
  run B C H σ ρ μ D Φ Ξ S h m mx := by
    obtain ⟨B1, S1, back, fr⟩ := S.lift
    refine a.run B1 C H σ ρ _ _ _ S1 h ⟨fun C1 G σ1 ρ1 S2 z => m.nx _ _ _ _ _ (back S2).1 z, fun C1 G σ1 ρ1 v r S2 ok z => m.rt C1 G σ1 ρ1 μ v r ?_ z, fun C1 G σ1 ρ1 S2 z => m.bk _ _ _ _ _ (back S2).1 z, fun C1 G σ1 ρ1 S2 z => m.ct _ _ _ _ _ (back S2).1 z⟩ (mx.on back)
    cases r with
    | dat d => exact ⟨(back S2).1, ok⟩
    | new ds =>
      obtain ⟨x, rfl, f⟩ := ok
      exact ⟨x, rfl, fr S2 f⟩
/-! arguments -/
def wA3Nil : WA3 := fun ρ μ Ψ _ => Ψ [] ρ μ
instance a3_nil {W : WX} : A3 K W tNil wA3Nil where run B C H σ ρ μ Q Ψ Ξ S h k mx := k _ _ _ _ _ _ S (Same.refl _) .nil h
def wA3Cons (wa : WR3) (wr : WA3) : WA3 := fun ρ μ Ψ Ξ => wa ρ μ (fun a ρ1 μ1 => wr ρ1 μ1 (fun as ρ2 μ2 => Ψ (a :: as) ρ2 μ2) Ξ) Ξ
instance a3_cons {W : WX} {ta : TE} {tr : TA} {wa : WR3} {wr : WA3} [a : R3 K W ta wa] [b : A3 K W tr wr] : A3 K W (tCons ta tr) (wA3Cons wa wr) where
  run B C H σ ρ μ Q Ψ Ξ S h k mx := a.run B C H σ ρ μ _ _ _ S h (fun C1 H1 v d ρ1 μ1 S1 s1 r1 h1 => b.run B C1 H1 σ ρ1 μ1 _ _ _ S1 h1 (fun C2 H2 vs ds ρ2 μ2 S2 s2 r2 h2 => k _ _ _ _ _ _ S2 (s1.trans s2) (.cons (r1.same s2) r2) h2) mx) mx
/-! statements -/
def wSeq3 (wt wu : WS3) : WS3 := fun ρ μ Φ Ξ => wt ρ μ { Φ with nx := fun ρ' μ' => wu ρ' μ' Φ Ξ } Ξ
instance s3_seq {W : WX} {t u : TS} {wt wu : WS3} [a : S3 K W t wt] [b : S3 K W u wu] : S3 K W (tSeq t u) (wSeq3 wt wu) where
  run B C H σ ρ μ D Φ Ξ S h m mx := a.run B C H σ ρ μ _ _ _ S h ⟨fun C1 H1 σ1 ρ1 μ1 S1 z => b.run B C1 H1 σ1 ρ1 μ1 _ _ _ S1 z m mx, m.rt, m.bk, m.ct⟩ mx
def wIf3 (wc : WT3) (wt wu : WS3) : WS3 := fun ρ μ Φ Ξ => wc ρ μ (fun b ρ1 μ1 => if b = true then wt ρ1 μ1 Φ Ξ else wu ρ1 μ1 Φ Ξ) Ξ
instance (priority := 40) s3_if {W : WX} {tc : TT} {t u : TS} {wc : WT3} {wt wu : WS3} [c : C3 K W tc wc] [a : S3 K W t wt] [b : S3 K W u wu] : S3 K W (tIfS tc t u) (wIf3 wc wt wu) where
  run B C H σ ρ μ D Φ Ξ S h m mx := c.run B C H σ ρ μ _ _ _ S h (fun C1 H1 e ρ1 μ1 S1 s1 h1 => by
    cases e with
    | true => exact a.run B C1 H1 σ ρ1 μ1 _ _ _ S1 h1 m mx
    | false => exact b.run B C1 H1 σ ρ1 μ1 _ _ _ S1 h1 m mx) mx
/-- a slot is put, a new list as the name's own -/
def wAsg3 (i : Nat) (w : WE3) : WS3 := fun ρ μ Φ Ξ => w ρ μ (fun r ρ1 μ1 => put i (slotOf r) ρ1 fun ρ2 => Φ.nx ρ2 μ1) Ξ
instance (priority := 40) s3_asg {W : WX} {te : TE} {i : Nat} {w : WE3} [a : E3 K W te w] : S3 K W (tAsg te (gName i)) (wAsg3 i w) where
  run B C H σ ρ μ D Φ Ξ S h m mx := a.run B C H σ ρ μ _ _ _ S h (fun C1 H1 v r ρ1 μ1 ok s1 z => by
    obtain ⟨hb, z⟩ := put_run z
    cases r with
    | dat d => exact m.nx _ _ _ _ _ (ok.1.put hb ok.2) z
    | new ds =>
      obtain ⟨x, rfl, S1⟩ := ok
      exact m.nx _ _ _ _ _ (S1.toHot hb) z) mx
def two (as : List Ar) (k : Dt → Dt → Prop) : Prop := match as with
  | [.d x, .d y] => k x y
  | _ => False
theorem two_run {as : List Ar} {k : Dt → Dt → Prop} (h : two as k) : ∃ x y, as = [.d x, .d y] ∧ k x y := by
  unfold two at h
  split at h
  · exact ⟨_, _, rfl, h⟩
  · exact h.elim
def wPar3' (i j : Nat) (wa : WA3) : WS3 := fun ρ μ Φ Ξ => wa ρ μ (fun as ρ1 μ1 => two as fun x y => put i (.dat x) ρ1 fun ρ2 => put j (.dat y) ρ2 fun ρ3 => Φ.nx ρ3 μ1) Ξ
theorem ar_two {C : Hp} {σ : L2.St} {vs : List V} {x y : Dt} (h : ArL K C σ vs [.d x, .d y]) : ∃ v w, vs = [v, w] ∧ Rp K C v x ∧ Rp K C w y := by
  cases h with
  | cons a t =>
    cases t with
    | cons b u =>
      cases u
      exact ⟨_, _, rfl, a, b⟩
instance (priority := 30) s3_par {W : WX} {i j : Nat} {ta : TA} {wa : WA3} [a : A3 K W ta wa] : S3 K W (tPar i j ta) (wPar3' i j wa) where
  run B C H σ ρ μ D Φ Ξ S h m mx := a.run B C H σ ρ μ _ _ _ S h (fun C1 H1 vs as ρ1 μ1 S1 s1 ok z => by
    obtain ⟨x, y, e, z1⟩ := two_run z
    subst e
    obtain ⟨v, w, rfl, rx, ry⟩ := ar_two ok
    obtain ⟨hb, z2⟩ := put_run z1
    obtain ⟨hb2, z3⟩ := put_run z2
    exact ⟨v, w, rfl, m.nx _ _ _ _ _ ((S1.put hb rx).put hb2 ry) z3⟩) mx
/-! to a state that is known less of -/
def To3 (I : List Sl → My → Prop) (ρ : List Sl) (μ : My) : Prop := ∃ ρ' μ', Wk ρ ρ' ∧ Ent μ μ' ∧ I ρ' μ'
theorem To3.of {I : List Sl → My → Prop} {ρ ρ' : List Sl} {μ : My} (h : I ρ' μ) (w : Wk ρ ρ') : To3 I ρ μ := ⟨ρ', μ, w, Ent.refl _, h⟩
theorem Sep3.to {B : Bs} {C H : Hp} {σ : L2.St} {ρ : List Sl} {μ : My} {I : List Sl → My → Prop} (S : Sep3 K B C H σ ρ μ) (h : To3 I ρ μ) : ∃ ρ' μ', Sep3 K B C H σ ρ' μ' ∧ I ρ' μ' := by
  obtain ⟨ρ', μ', w, e, h⟩ := h
  exact ⟨ρ', μ', (S.weakS w).ent e, h⟩
theorem Sep3.rebase {B : Bs} {C H : Hp} {σ : L2.St} {ρ : List Sl} {μ : My} (S : Sep3 K B C H σ ρ μ) : Sep3 K ⟨C, B.H0, B.bx⟩ C H σ ρ μ ∧ ∀ {C' G : Hp} {σ' : L2.St} {ρ' : List Sl} {μ' : My}, Sep3 K ⟨C, B.H0, B.bx⟩ C' G σ' ρ' μ' → Sep3 K B C' G σ' ρ' μ' ∧ Same C C' := by
  obtain ⟨m, e, U, M, S⟩ := S
  refine ⟨⟨m, e, U, ⟨M.nd, M.at_, M.all, M.fr⟩, S.rebase⟩, fun {C' G σ' ρ' μ'} z => ?_⟩
  obtain ⟨m', e', U', M', S'⟩ := z
  have s : Same C C' := S'.grow
  have z1 : Sep K (B.hang U') C' G σ' ρ' := by
    refine ⟨S'.cold, S'.len, S'.sl, S'.ne, S.grow.trans s, fun a o h n => ?_, S'.dom, S'.keep, S'.loc, S'.lob, S'.par, S'.pz⟩
    cases q : C a with
    | none => exact S'.new a o h q
    | some u =>
      have := hang_no (S.new a u q n)
      have h2 : U' a = none := by
        cases q2 : U' a with
        | none => rfl
        | some x => rw [(M'.fr a x q2).1] at h; cases h
      rw [hang_off h2]
      exact this.2
  exact ⟨⟨m', e', U', ⟨M'.nd, M'.at_, M'.all, M'.fr⟩, z1⟩, s⟩

end
section
variable {P : Program} {w : World} {K : PySem.W.Frag} {mg : Str → Option Value} {base : Heap}
local macro_rules | `(tactic| get_elem_tactic_trivial) => `(tactic| (repeat first | exact Wk.nil | exact Wk'.nil | refine Wk.same ?_ | refine Wk'.same ?_ | refine Wk.un (fun _ z => nomatch z) ?_ | refine Wk'.un ?_))
/-! level 3: defs and calls -/
abbrev W3F := List Sl → My → (Ro → List Sl → My → Prop) → XE3 → Prop
def subU (H U : Hp) : Hp := fun a => match U a with
  | some _ => none
  | none => H a
theorem subU_at {H U : Hp} {a : Addr} {o : HO} (h : U a = some o) : subU H U a = none := by
  unfold subU
  rw [h]
theorem subU_off {H U : Hp} {a : Addr} (h : U a = none) : subU H U a = H a := by
  unfold subU
  rw [h]
theorem subU_hang {C H U : Hp} {bx : Option (Nat × Addr)} (h : ∀ a o, U a = some o → H a = some o) : (⟨C, subU H U, bx⟩ : Bs).hang U = ⟨C, H, bx⟩ := by
  unfold Bs.hang
  congr 1
  funext a
  show (match U a with | some o => some o | none => subU H U a) = H a
  cases q : U a with
  | some o => exact (h a o q).symm
  | none => exact subU_off q
def sp3 (K : PySem.W.Frag) (n : Nat) (wf : W3F) : Sp := fun vs H Q E => vs.length = n ∧ ∃ (C U : Hp) (bx : Option (Nat × Addr)) (ps : List Sl) (μ : My) (m : Fm) (Ψ : Ro → List Sl → My → Prop) (Ξ : XE3),
  Sep K ⟨C, H, bx⟩ C H (vs.map some) ps ∧ Exp μ m ∧ Mf K ⟨C, subU H U, bx⟩ C U m ∧ (∀ a o, U a = some o → H a = some o) ∧ wf ps μ Ψ Ξ ∧
  (∀ C' G v r ps' μ', Ok3 K ⟨C, subU H U, bx⟩ C' G (vs.map some) ps' μ' v r → Ψ r ps' μ' → Q v G) ∧
  ∀ C' G cls dd c d ps' μ', Sep3 K ⟨C, subU H U, bx⟩ C' G (vs.map some) ps' μ' → ExAt K C' cls dd c d → Ξ c d ps' μ' → E cls dd G
theorem Sep.args' {B' : Bs} {C H C' G : Hp} {bx : Option (Nat × Addr)} {vs : List V} {ps ρ : List Sl} {σ : L2.St} (hC : B'.C0 = C) (hb : B'.bx = bx) (S0 : Sep K ⟨C, H, bx⟩ C H (vs.map some) ps) (S : Sep K B' C' G σ ρ) : Sep K B' C' G (vs.map some) (mrg ps ρ) := by
  subst hC hb
  have nohot : ∀ (i : Nat) (ds : List Dt), ps[i]? ≠ some (.hot ds) := fun i ds e => by
    obtain ⟨a, us, e2, ha, _⟩ := S0.sl i _ e
    have := S0.loc i a ds e e2
    rw [show (⟨B'.C0, H, B'.bx⟩ : Bs).H0 a = H a from rfl, ha] at this
    cases this
  have box : ∀ (i : Nat) (n : Int), ps[i]? = some (.box n) → ∃ a m, B'.bx = some (i, a) ∧ (vs.map some)[i]? = some (some (V.ref a)) ∧ σ[i]? = some (some (V.ref a)) ∧ ρ[i]? = some (.box m) := fun i n e => by
    obtain ⟨a, e2, ⟨x, y, z, ha, _⟩, _⟩ := S0.sl i _ e
    rcases S0.lob i a n e e2 with q | q
    · rw [show (⟨B'.C0, H, B'.bx⟩ : Bs).H0 a = H a from rfl, ha] at q
      cases q
    · obtain ⟨g1, m, g2⟩ := S.par i a q
      exact ⟨a, m, q, e2, g1, g2⟩
  have case_ : ∀ (i : Nat) (s : Sl), (mrg ps ρ)[i]? = some s → (∃ a m, s = .box m ∧ B'.bx = some (i, a) ∧ (vs.map some)[i]? = some (some (V.ref a)) ∧ σ[i]? = some (some (V.ref a)) ∧ ρ[i]? = some (.box m)) ∨ (ps[i]? = some s ∧ s.mut = false) := fun i s h => by
    rcases mrg_at ps ρ i s h with ⟨n, e, q⟩ | ⟨e, q⟩
    · obtain ⟨a, m, g1, g2, g3, g4⟩ := box i n e
      rcases q with q | ⟨q, _⟩
      · rw [g4] at q
        cases q
        exact .inl ⟨a, m, rfl, g1, g2, g3, g4⟩
      · rw [g4] at q
        cases q
    · cases s with
      | un => exact .inr ⟨e, rfl⟩
      | dat d => exact .inr ⟨e, rfl⟩
      | hot ds => exact absurd e (nohot i ds)
      | box n => exact absurd rfl (q n)
  refine ⟨S.cold, by rw [mrg_len]; exact S0.len, fun i s h => ?_, fun i j a s t n h1 h2 m1 m2 e1 e2 => ?_, S.grow, S.new, S.dom, S.keep, fun i a ds h e => ?_, fun i a n h e => ?_, fun i a h => ?_, S.pz⟩
  · rcases case_ i s h with ⟨a, m, rfl, g1, g2, g3, g4⟩ | ⟨g1, g2⟩
    · obtain ⟨b, e, q⟩ := S.sl i _ g4
      rw [g3] at e
      cases e
      exact ⟨a, g2, q⟩
    · have q := S0.sl i s g1
      cases s with
      | un => trivial
      | dat d =>
        obtain ⟨v, e, r⟩ := q
        exact ⟨v, e, r.same S.grow⟩
      | hot ds => cases g2
      | box n => cases g2
  · rcases case_ i s h1 with ⟨b, m, rfl, g1, _⟩ | ⟨_, g2⟩
    · rcases case_ j t h2 with ⟨c, m', rfl, k1, _⟩ | ⟨_, g2⟩
      · rw [g1] at k1
        cases k1
        exact n rfl
      · rw [g2] at m2
        cases m2
    · rw [g2] at m1
      cases m1
  · rcases case_ i _ h with ⟨b, m, z, g1, _⟩ | ⟨_, g2⟩
    · cases z
    · cases g2
  · rcases case_ i _ h with ⟨b, m, z, g1, g2, _⟩ | ⟨_, g2⟩
    · rw [g2] at e
      cases e
      exact .inr g1
    · cases g2
  · obtain ⟨h1, n, h2⟩ := S0.par i a h
    obtain ⟨g1, m, g2⟩ := S.par i a h
    exact ⟨h1, m, mrg_box ps ρ i n m h2 g2⟩
/-- what is asked at the end: the things hung may be told otherwise -/
def fin3 (ps : List Sl) (Ψ : Ro → List Sl → My → Prop) : Fs3 := ⟨fun ρ μ => ∃ μ2, Ent μ μ2 ∧ Ψ (.dat .non) (mrg ps ρ) μ2, fun r ρ μ => ∃ μ2, Ent μ μ2 ∧ Ψ r (mrg ps ρ) μ2, fun _ _ => False, fun _ _ => False⟩
def finX3 (ps : List Sl) (Ξ : XE3) : XE3 := fun c d ρ μ => ∃ μ2, Ent μ μ2 ∧ Ξ c d (mrg ps ρ) μ2
theorem fin3_ok {C H0 : Hp} {bx : Option (Nat × Addr)} {vs : List V} {ps : List Sl} {Q : VK} {E : XK} {Ψ : Ro → List Sl → My → Prop} {Ξ : XE3} (ar : ∀ {C' G : Hp} {σ : L2.St} {ρ : List Sl} {μ : My}, Sep3 K ⟨C, H0, bx⟩ C' G σ ρ μ → Sep3 K ⟨C, H0, bx⟩ C' G (vs.map some) (mrg ps ρ) μ)
    (k : ∀ C' G v r ps' μ', Ok3 K ⟨C, H0, bx⟩ C' G (vs.map some) ps' μ' v r → Ψ r ps' μ' → Q v G) (kx : ∀ C' G cls dd c d ps' μ', Sep3 K ⟨C, H0, bx⟩ C' G (vs.map some) ps' μ' → ExAt K C' cls dd c d → Ξ c d ps' μ' → E cls dd G) :
    Meets3 K ⟨C, H0, bx⟩ (fin3 ps Ψ) { nx := fun _ H' => Q .non H', rt := Q } ∧ MeetsX3 K ⟨C, H0, bx⟩ (finX3 ps Ξ) (fun cls d _ H => E cls d H) := by
  refine ⟨⟨fun C1 H1 σ1 ρ1 μ1 S2 z => ?_, fun C1 H1 σ1 ρ1 μ1 v r ok z => ?_, fun C1 H1 σ1 ρ1 μ1 S2 z => False.elim z, fun C1 H1 σ1 ρ1 μ1 S2 z => False.elim z⟩, fun C1 H1 σ1 ρ1 μ1 cls dd c d S2 ex z => ?_⟩
  · obtain ⟨μ2, en, z⟩ := z
    exact k _ _ _ (.dat .non) _ _ ⟨ar (S2.ent en), .non⟩ z
  · obtain ⟨μ2, en, z⟩ := z
    refine k C1 H1 v r (mrg ps ρ1) μ2 ?_ z
    cases r with
    | dat d => exact ⟨ar (ok.1.ent en), ok.2⟩
    | new ds =>
      obtain ⟨x, rfl, S2⟩ := ok
      exact ⟨x, rfl, ar (S2.ent en.cons)⟩
  · obtain ⟨μ2, en, z⟩ := z
    exact kx _ _ _ _ _ _ _ _ (ar (S2.ent en)) ex z
theorem Sep3.args {C H C' G H0 : Hp} {bx : Option (Nat × Addr)} {vs : List V} {ps ρ : List Sl} {σ : L2.St} {μ : My} (S0 : Sep K ⟨C, H, bx⟩ C H (vs.map some) ps) (S : Sep3 K ⟨C, H0, bx⟩ C' G σ ρ μ) : Sep3 K ⟨C, H0, bx⟩ C' G (vs.map some) (mrg ps ρ) μ := by
  obtain ⟨m, e, U, M, S⟩ := S
  exact ⟨m, e, U, M, S0.args' rfl rfl S⟩
theorem body3 {E : XK} {t : TS} {w : WS3} [s : S3 K (fun cls d _ H => E cls d H) t w] {N : List Str} {vs : List V} {H : Hp} {Q : VK} {n : Nat} {wf : W3F} (h : sp3 K n wf vs H Q E) (hw : ∀ ps μ Ψ Ξ, wf ps μ Ψ Ξ → ps.length = n → w (ps ++ List.replicate (N.length - n) .un) μ (fin3 ps Ψ) (finX3 ps Ξ)) :
    t { nx := fun _ H' => Q .non H', rt := Q } (start N vs) H := by
  obtain ⟨hl, C, U, bx, ps, μ, m, Ψ, Ξ, S, e, M, hU, hf, k, kx⟩ := h
  have lp : ps.length = n := by have := S.len; rw [List.length_map] at this; omega
  have S1 : Sep3 K ⟨C, subU H U, bx⟩ C H (start N vs) (ps ++ List.replicate (N.length - vs.length) .un) μ := ⟨m, e, U, M, by rw [subU_hang hU]; exact start_sep (N := N) S⟩
  have h1 := hw ps μ Ψ Ξ hf lp
  rw [← hl] at h1
  obtain ⟨m3, x3⟩ := fin3_ok (ps := ps) (fun z => Sep3.args S z) k kx
  exact s.run _ C H _ _ _ _ _ _ S1 h1 m3 x3
/-! behind a call that was handed some of what is hung -/
section
variable {B : Bs} {C H G C' H0 : Hp} {σ : L2.St} {ρ : List Sl}
theorem Sep.after' (S : Sep K B C H σ ρ) {τ : L2.St} {π : List Sl} (S' : Sep K ⟨C, H0, none⟩ C' G τ π) (hy : ∀ a o, H a = some o → H0 a = some o ∨ (H0 a = none ∧ B.H0 a = none ∧ NoSlot σ ρ a)) (hz : ∀ a o, H0 a = some o → H a = some o) : Sep K B C' G σ ρ := by
  have kp : ∀ a o, H0 a = some o → G a = some o := fun a o h => S'.keep a o h fun i z => nomatch z
  have cn : ∀ a o, H0 a = some o → C a = none → C' a = none := fun a o h c => by
    cases q : C' a with
    | none => rfl
    | some u =>
      have : H0 a = none := S'.new a u q c
      rw [h] at this
      cases this
  have slot : ∀ {i : Nat} {t : Sl} {a : Addr} {o : HO}, ρ[i]? = some t → t.mut = true → σ[i]? = some (some (V.ref a)) → H a = some o → H0 a = some o := fun {i t a o} h m e ha => by
    rcases hy a o ha with z | ⟨_, _, z⟩
    · exact z
    · exact absurd e (z i t h m)
  have old : ∀ {a : Addr} {o : HO}, B.H0 a ≠ none → H a = some o → H0 a = some o := fun {a o} h ha => by
    rcases hy a o ha with z | ⟨_, z, _⟩
    · exact z
    · exact absurd z h
  refine ⟨S'.cold, S.len, fun i s h => ?_, S.ne, S.grow.trans S'.grow, fun a o e n => ?_, fun a h => ?_, fun a o h n => ?_, S.loc, S.lob, S.par, S.pz⟩
  · have q := S.sl i s h
    cases s with
    | un => trivial
    | dat d =>
      obtain ⟨v, e, r⟩ := q
      exact ⟨v, e, r.same S'.grow⟩
    | hot ds =>
      obtain ⟨a, vs, e, ha, r, ca⟩ := q
      have h0 := slot h rfl e ha
      exact ⟨a, vs, e, kp _ _ h0, r.same S'.grow, cn _ _ h0 ca⟩
    | box n =>
      obtain ⟨a, e, ⟨x, y, z, ha, hh⟩, ca⟩ := q
      have h0 := slot h rfl e ha
      exact ⟨a, e, ⟨x, y, z, kp _ _ h0, hh⟩, cn _ _ h0 ca⟩
  · cases q : C a with
    | some u => exact S.new a u q n
    | none =>
      have h0 : H0 a = none := S'.new a o e q
      cases q2 : H a with
      | none => exact S.free0 q2
      | some u =>
        rcases hy a u q2 with z | ⟨_, z, _⟩
        · rw [h0] at z; cases z
        · exact z
  · have := S.dom a h
    cases q : H a with
    | none => exact absurd q this
    | some u => exact S'.dom a (by show H0 a ≠ none; rw [old h q]; exact fun z => nomatch z)
  · exact kp a o (old (by rw [h]; exact fun z => nomatch z) (S.keep a o h n))
theorem Sep.afterB' (S : Sep K B C H σ ρ) {p : Addr} {i : Nat} {m n : Int} {τ : L2.St} {π : List Sl} (hi : ρ[i]? = some (.box m)) (ei : σ[i]? = some (some (V.ref p))) (S' : Sep K ⟨C, H0, some (0, p)⟩ C' G τ π) (hn : π[0]? = some (.box n)) (hy : ∀ a o, H a = some o → H0 a = some o ∨ (H0 a = none ∧ B.H0 a = none ∧ NoSlot σ ρ a)) (hz : ∀ a o, H0 a = some o → H a = some o) : Sep K B C' G σ (ρ.set i (.box n)) := by
  have kp : ∀ a o, H0 a = some o → a ≠ p → G a = some o := fun a o h z => S'.keep a o h fun i q => by cases q; exact z rfl
  have cn : ∀ a o, H0 a = some o → C a = none → C' a = none := fun a o h c => by
    cases q : C' a with
    | none => rfl
    | some u =>
      have : H0 a = none := S'.new a u q c
      rw [h] at this
      cases this
  have slot : ∀ {i : Nat} {t : Sl} {a : Addr} {o : HO}, ρ[i]? = some t → t.mut = true → σ[i]? = some (some (V.ref a)) → H a = some o → H0 a = some o := fun {i t a o} h m e ha => by
    rcases hy a o ha with z | ⟨_, _, z⟩
    · exact z
    · exact absurd e (z i t h m)
  have old : ∀ {a : Addr} {o : HO}, B.H0 a ≠ none → H a = some o → H0 a = some o := fun {a o} h ha => by
    rcases hy a o ha with z | ⟨_, z, _⟩
    · exact z
    · exact absurd z h
  obtain ⟨e0, m', e1⟩ := S'.par 0 p rfl
  obtain ⟨p', e2, bG, cp⟩ := S'.sl 0 _ hn
  rw [e0] at e2
  cases e2
  have back : ∀ {j : Nat} {t : Sl}, (ρ.set i (.box n))[j]? = some t → t.mut = true → ∃ t', ρ[j]? = some t' ∧ t'.mut = true := fun {j t} z y => by
    rcases get_set z with ⟨rfl, rfl, l⟩ | ⟨_, z⟩
    · exact ⟨_, hi, rfl⟩
    · exact ⟨t, z, y⟩
  refine ⟨S'.cold, by rw [List.length_set]; exact S.len, fun j s h => ?_, fun j k a t u q h1 h2 m1 m2 e1 e2 => ?_, S.grow.trans S'.grow, fun a o e n => ?_, fun a h => ?_, fun a o h n => ?_, fun j a ds h e => ?_, fun j a n h e => ?_, fun j a h => ?_, S.pz⟩
  · rcases get_set h with ⟨rfl, rfl, l⟩ | ⟨nj, h⟩
    · exact ⟨p, ei, bG, cp⟩
    · have q := S.sl j s h
      cases s with
      | un => trivial
      | dat d =>
        obtain ⟨v, e, r⟩ := q
        exact ⟨v, e, r.same S'.grow⟩
      | hot ds =>
        obtain ⟨a, vs, e, ha, r, ca⟩ := q
        have h0 := slot h rfl e ha
        exact ⟨a, vs, e, kp _ _ h0 (fun z => S.ne i j p _ _ nj hi h rfl rfl ei (z ▸ e)), r.same S'.grow, cn _ _ h0 ca⟩
      | box n =>
        obtain ⟨a, e, ⟨x, y, z, ha, hh⟩, ca⟩ := q
        have h0 := slot h rfl e ha
        have na : a ≠ p := fun z => S.ne i j p _ _ nj hi h rfl rfl ei (z ▸ e)
        exact ⟨a, e, ⟨x, y, z, kp _ _ h0 na, hh⟩, cn _ _ h0 ca⟩
  · obtain ⟨t', h1, m1⟩ := back h1 m1
    obtain ⟨u', h2, m2⟩ := back h2 m2
    exact S.ne j k a t' u' q h1 h2 m1 m2 e1 e2
  · cases q : C a with
    | some u => exact S.new a u q n
    | none =>
      have h0 : H0 a = none := S'.new a o e q
      cases q2 : H a with
      | none => exact S.free0 q2
      | some u =>
        rcases hy a u q2 with z | ⟨_, z, _⟩
        · rw [h0] at z; cases z
        · exact z
  · have := S.dom a h
    cases q : H a with
    | none => exact absurd q this
    | some u => exact S'.dom a (by show H0 a ≠ none; rw [old h q]; exact fun z => nomatch z)
  · refine kp a o (old (by rw [h]; exact fun z => nomatch z) (S.keep a o h n)) fun z => ?_
    subst z
    rcases S.lob i a m hi ei with q | q
    · rw [h] at q
      cases q
    · exact n i q
  · rcases get_set h with ⟨rfl, z, l⟩ | ⟨nj, h⟩
    · cases z
    · exact S.loc j a ds h e
  · rcases get_set h with ⟨rfl, z, l⟩ | ⟨nj, h⟩
    · exact S.lob i a m hi e
    · exact S.lob j a n h e
  · obtain ⟨h1, n', h2⟩ := S.par j a h
    by_cases z : i = j
    · subst z
      refine ⟨h1, n, set_at ?_⟩
      cases Nat.lt_or_ge i ρ.length with
      | inl h => exact h
      | inr g => rw [List.getElem?_eq_none g] at hi; cases hi
    · exact ⟨h1, n', by rw [set_off z]; exact h2⟩
/-- the parts put together again -/
theorem SepF.rejoin {U1 U2 U' : Hp} {bx : Option (Nat × Addr)} {m1 m2 m' : Fm} {τ : L2.St} {π ρ' : List Sl} (M1 : Mf K B C U1 m1) (M2 : Mf K B C U2 m2) (S : Sep K (B.hang U2) C H σ ρ) (hh : ∀ a o, U1 a = some o → H a = some o ∧ U2 a = none ∧ NoSlot σ ρ a) (M' : Mf K ⟨C, subU H U1, bx⟩ C' U' m') (S' : Sep K ((⟨C, subU H U1, bx⟩ : Bs).hang U') C' G τ π) (Sa : Sep K (B.hang U2) C' G σ ρ') (ns' : ∀ a, NoSlot σ ρ a → NoSlot σ ρ' a) (s : Same C C') : SepF K B C' G σ ρ' (m' ++ m2) := by
  have fr0 : ∀ a o, U' a = some o → (U1 a = none ∧ H a = none) ∨ ∃ u, U1 a = some u := fun a o h => by
    have := (M'.fr a o h).2.1
    cases q : U1 a with
    | some u => exact .inr ⟨u, rfl⟩
    | none =>
      have this : subU H U1 a = none := this
      rw [subU_off q] at this
      exact .inl ⟨rfl, this⟩
  refine SepF.join ⟨M'.nd, M'.at_, M'.all, fun a o h => ⟨(M'.fr a o h).1, ?_, ?_⟩⟩ (M2.on S.grow s Sa) Sa fun a o h => ⟨M'.bound S' h, ?_, ns' a ?_⟩
  · rcases fr0 a o h with ⟨q1, q2⟩ | ⟨u, q⟩
    · exact (hang_no (S.free0 q2)).2
    · exact (M1.fr a u q).2.1
  · rcases fr0 a o h with ⟨q1, q2⟩ | ⟨u, q⟩
    · exact fun i e => by
        obtain ⟨e1, n, e2⟩ := S.par i a e
        exact (S.mutH e2 rfl e1).2 q2
    · exact (M1.fr a u q).2.2
  · rcases fr0 a o h with ⟨q1, q2⟩ | ⟨u, q⟩
    · cases q3 : U2 a with
      | none => rfl
      | some x =>
        have := M2.bound S q3
        rw [q2] at this
        cases this
    · exact (hh a u q).2.1
  · rcases fr0 a o h with ⟨q1, q2⟩ | ⟨u, q⟩
    · exact fun j t h m e2 => (S.mutH h m e2).2 q2
    · exact (hh a u q).2.2
end

end
section
variable {P : Program} {w : World} {K : PySem.W.Frag} {mg : Str → Option Value} {base : Heap}
local macro_rules | `(tactic| get_elem_tactic_trivial) => `(tactic| (repeat first | exact Wk.nil | exact Wk'.nil | refine Wk.same ?_ | refine Wk'.same ?_ | refine Wk.un (fun _ z => nomatch z) ?_ | refine Wk'.un ?_))
/-! level 3: calls, their arguments by place and by name, what is left out -/
def gB (is : List Nat) (dv : List V) (vs zs : List V) : List V := gP is vs (zs ++ dv)
theorem pass0S {X : Cx} (W : WX) (σ : L2.St) : PassesAt CX0 X σ (L2.WE W σ) := fun _ _ _ _ _ _ h => h.elim
/-- f(e, ..), o.m(e, ..), C(e, ..) -/
def tCall3 (n m : Nat) (sp : Sp) (gV : List V → List V → List V) (E : L2.St → XK) (t tk : TA) : TE := tCallNS n m sp gV E t tk
def tMake3 (C : Addr) (n m : Nat) (sp : Sp) (gV : List V → List V → List V) (E : L2.St → XK) (t tk : TA) : TE := fun σ H Q => t σ H fun vs H1 => tk σ H1 fun zs H2 => vs.length = n ∧ zs.length = m ∧ ∀ x dx, H2 x = none → H2 dx = none → dx ≠ x →
  sp (gV (.ref x :: vs) zs) (upd (upd H2 dx (.own x)) x (.ins C dx [])) (fun v H3 => v = .non ∧ Q (.ref x) H3) (E σ)
section
variable {X : Cx} {CX : CXT} {k n : Nat} {f C : Addr} {fd : FuncData} {ps ks : List Str} {sp : Sp} {E : L2.St → XK} {x mm : Str} {p pos apos : Pos} {e o : Expr} {es : List Expr} {kws : List Keyword} {ta : TE} {t tk : TA} {g : List Value → List Value → List Value} {gV : List V → List V → List V} {pl : Sem Bool}
theorem pe_call3 (F : FnOk X.prog X.w X.K X.mg X.base CX k f fd ps sp) (hr : Room k X.A) (hg : Gl X x) (hm : X.mg x = some (.ref f)) (hk : PySem.W.keepIn X.K (.ref f) = true) (hb : KBn X.K fd ps n ks g gV) (hx : ∀ σ, PassesAt CX X σ (E σ))
    (ha : PA X (e :: es) t) (hkw : PK X kws tk) (hall : (backToKw pos (keywordEach kws X.env)).all (·.1.isSome) = true := by rfl) (hks : (backToKw pos (keywordEach kws X.env)).filterMap (·.1) = ks := by rfl)
    (hdb : (x == ("__debug__" : Str)) = false := by decide) (he : starEach (e :: es) X.env = (false, eval e X.env) :: starEach es X.env := by rfl)
    (hpl : ((backTo pos (starEach (e :: es) X.env)).any (·.1) || (backToKw pos (keywordEach kws X.env)).any (·.1.isNone)) = false := by rfl) :
    PE X (.Call (.Name x p) (e :: es) kws pos) (tCall3 n ks.length sp gV E t tk) := pe_callNS F hr hg hm hk hb hx ha hkw hall hks hdb he hpl
theorem run_make3 {pins : List (Addr × Obj)} {σ : L2.St} {H : Hp} {s : Shared} {Q : VK} {us ws : List Value} {vs zs : List V} (M : Mk X.K C f) (F : FnOk X.prog X.w X.K X.mg X.base CX k f fd ps sp) (hr : Room (k + 1) X.A) (hb : KBn X.K fd ps (n + 1) ks g gV) (hx : PassesAt CX X σ (E σ))
    (I : Inv X pins σ H s) (r : Vals vs us) (rz : Vals zs ws) (l1 : vs.length = n) (l2 : zs.length = ks.length)
    (h : ∀ x dx, H x = none → H dx = none → dx ≠ x → sp (gV (.ref x :: vs) zs) (upd (upd H dx (.own x)) x (.ins C dx [])) (fun v H2 => v = .non ∧ Q (.ref x) H2) (E σ)) :
    wpAny (model X.prog X.w) X.A (call (.ref C) us (ks.zip ws)) (EP X pins σ Q) X.xe s := by
  have hq := h (s.heap.objs.size + 1) s.heap.objs.size (I.hok.fresh (Nat.le_succ _)) (I.hok.fresh (Nat.le_refl _)) (Nat.ne_of_lt (Nat.lt_succ_self _))
  have I2 := Inv.made (C := C) I
  have r1 : Vals (V.ref (s.heap.objs.size + 1) :: vs) (Value.ref (s.heap.objs.size + 1) :: us) := .cons rfl r
  have r2 := hb.rel r1 rz
  have n1 : (Value.ref (s.heap.objs.size + 1) :: us).length = n + 1 := by
    rw [List.length_cons, ← r.length, l1]
  refine wpAny_call (make_map (f := f) I.kIn M.makes M.init (beq_iff_eq.mp M.fn) (codeAny_mono (F.run _ X.stack _ _ ⟨Value.ref (s.heap.objs.size + 1) :: us, ks.zip ws⟩ (g (Value.ref (s.heap.objs.size + 1) :: us) ws) _ _ (E σ) (hr.make C us (ks.zip ws))
    (I2.env0.make C us (ks.zip ws)) (hb.to _ (Value.ref (s.heap.objs.size + 1) :: us) ws I2.kIn n1 (rz.length.symm.trans l2)) r2 hq) fun r s' hq' => ?_))
  cases r with
  | error e => exact hx pins _ _ e s' I2 hq'
  | ok fl =>
    cases fl with
    | ret u =>
      obtain ⟨v, H', I3, rv, ev, q3⟩ := I2.after hq'
      subst ev
      exact ⟨rv, ⟨V.ref (s.heap.objs.size + 1), H', I3, rfl, q3⟩⟩
    | next => exact False.elim hq'
    | brk => exact False.elim hq'
    | cont => exact False.elim hq'
theorem pe_make30 (M : Mk X.K C f) (F : FnOk X.prog X.w X.K X.mg X.base CX k f fd ps sp) (hr : Room (k + 1) X.A) (hg : Gl X x) (hm : X.mg x = some (.ref C)) (hb : KBn X.K fd ps 1 ks g gV) (hx : ∀ σ, PassesAt CX X σ (E σ)) (hkw : PK X kws tk)
    (hall : (backToKw pos (keywordEach kws X.env)).all (·.1.isSome) = true := by rfl) (hks : (backToKw pos (keywordEach kws X.env)).filterMap (·.1) = ks := by rfl) (hdb : (x == ("__debug__" : Str)) = false := by decide)
    (hpl : ((backTo pos (starEach [] X.env)).any (·.1) || (backToKw pos (keywordEach kws X.env)).any (·.1.isNone)) = false := by rfl) :
    PE X (.Call (.Name x p) [] kws pos) (tMake3 C 0 ks.length sp gV E tNil tk) := by
  refine ⟨fun pins s σ H Q I h => ?_⟩
  refine wpAny_Call_Name_kw (ld_glob I hg hm ?_ hdb)
  refine PySem.W.callWith_KW0 (h₀ := X.base) I.ok.mod.kin M.kp hall ?_ hpl
  refine thn (hkw.run pos pins s σ H _ I h) fun ws s2 ⟨zs, H2, I2, rz, l1, l2, q2⟩ => ⟨I2.kIn, ?_⟩
  rw [hks]
  exact run_make3 (us := []) (vs := []) M F hr hb (hx σ) I2 .nil rz rfl l2 q2
theorem pe_make3 (M : Mk X.K C f) (F : FnOk X.prog X.w X.K X.mg X.base CX k f fd ps sp) (hr : Room (k + 1) X.A) (hg : Gl X x) (hm : X.mg x = some (.ref C)) (hb : KBn X.K fd ps (n + 1) ks g gV) (hx : ∀ σ, PassesAt CX X σ (E σ)) (ha : PA X (e :: es) t) (hkw : PK X kws tk)
    (hall : (backToKw pos (keywordEach kws X.env)).all (·.1.isSome) = true := by rfl) (hks : (backToKw pos (keywordEach kws X.env)).filterMap (·.1) = ks := by rfl) (hdb : (x == ("__debug__" : Str)) = false := by decide)
    (he : starEach (e :: es) X.env = (false, eval e X.env) :: starEach es X.env := by rfl) (hpl : ((backTo pos (starEach (e :: es) X.env)).any (·.1) || (backToKw pos (keywordEach kws X.env)).any (·.1.isNone)) = false := by rfl) :
    PE X (.Call (.Name x p) (e :: es) kws pos) (tMake3 C n ks.length sp gV E t tk) := by
  refine ⟨fun pins s σ H Q I h => ?_⟩
  refine wpAny_Call_Name_kw (ld_glob I hg hm ?_ hdb)
  refine PySem.W.callWith_KW (h₀ := X.base) I.ok.mod.kin M.kp hall (thn (ha.run pos pins s σ H _ I h) fun us s1 ⟨vs, H1, I1, r, q⟩ => ?_) hpl he
  refine thn (hkw.run pos pins s1 σ H1 _ I1 q) fun ws s2 ⟨zs, H2, I2, rz, l1, l2, q2⟩ => ⟨I2.kIn, ?_⟩
  rw [hks]
  exact run_make3 M F hr hb (hx σ) I2 r rz l1 l2 q2
end

end
section
variable {P : Program} {w : World} {K : PySem.W.Frag} {mg : Str → Option Value} {base : Heap}
local macro_rules | `(tactic| get_elem_tactic_trivial) => `(tactic| (repeat first | exact Wk.nil | exact Wk'.nil | refine Wk.same ?_ | refine Wk'.same ?_ | refine Wk.un (fun _ z => nomatch z) ?_ | refine Wk'.un ?_))
/-! level 3: what a call asks, and tells -/
theorem ArL.at {C : Hp} {σ : L2.St} : ∀ {vs : List V} {as : List Ar} {i : Nat} {a : Ar}, ArL K C σ vs as → as[i]? = some a → ∃ v, vs[i]? = some v ∧ ArOk K C σ v a
  | _, _, i, a, .nil, h => by simp at h
  | _, _, 0, a, .cons x t, h => by
    have e := Option.some.inj h
    subst e
    exact ⟨_, rfl, x⟩
  | _, _, i + 1, a, .cons x t, h => ArL.at (i := i) t h
theorem ArL.gP (is : List Nat) {C : Hp} {σ : L2.St} {vs zs : List V} {as bs : List Ar} (h1 : ArL K C σ vs as) (h2 : ArL K C σ zs bs) : ArL K C σ (Sl.gP is vs zs) (Sl.gP is as bs) := by
  have h := h1.app h2
  have hl := h.len
  unfold Sl.gP
  induction is with
  | nil => exact .nil
  | cons i is ih =>
    rw [List.filterMap_cons, List.filterMap_cons]
    cases q : (as ++ bs)[i]? with
    | none =>
      have : (vs ++ zs)[i]? = none := by
        rw [List.getElem?_eq_none_iff] at q ⊢
        omega
      rw [this]
      exact ih
    | some a =>
      obtain ⟨v, e, r⟩ := h.at q
      rw [e]
      exact .cons r ih
def two3 (i : Nat) (ρ : List Sl) (μr : My) (Ψ : Ro → List Sl → My → Prop) (r : Ro) (ps : List Sl) (μ' : My) : Prop := match ps with
  | .box n :: _ => Ψ r (ρ.set i (.box n)) (μ' ++ μr)
  | _ => False
def twoX3 (i : Nat) (ρ : List Sl) (μr : My) (Ξ : XE3) (c : Str) (d : Dt) (ps : List Sl) (μ' : My) : Prop := match ps with
  | .box n :: _ => Ξ c d (ρ.set i (.box n)) (μ' ++ μr)
  | _ => False
def call3 (wf : W3F) (as : List Ar) (ρ : List Sl) (μ1 μr : My) (Ψ : Ro → List Sl → My → Prop) (Ξ : XE3) : Prop := match as with
  | .b i :: as => match ρ[i]?, dats as with
    | some (.box n), some ds => wf (.box n :: ds.map .dat) μ1 (two3 i ρ μr Ψ) (twoX3 i ρ μr Ξ)
    | _, _ => False
  | as => match dats as with
    | some ds => wf (ds.map .dat) μ1 (fun r _ μ' => Ψ r ρ (μ' ++ μr)) fun c d _ μ' => Ξ c d ρ (μ' ++ μr)
    | none => False
section
variable {B : Bs} {C H : Hp} {σ : L2.St} {ρ : List Sl} {μ μ1 μr : My} {n : Nat} {wf : W3F} {Q : VK} {E : XK} {Ψ : Ro → List Sl → My → Prop} {Ξ : XE3}
theorem Sep3.handD {vs : List V} {ds : List Dt} (S : Sep3 K B C H σ ρ (μ1 ++ μr)) (r : RpL K C vs ds) (ln : ds.length = n) (h : wf (ds.map .dat) μ1 (fun r _ μ' => Ψ r ρ (μ' ++ μr)) fun c d _ μ' => Ξ c d ρ (μ' ++ μr))
    (k : ∀ C' G v r ρ' μ', Ok3 K B C' G σ ρ' μ' v r → Same C C' → Ψ r ρ' μ' → Q v G) (kx : ∀ C' G cls d2 c d ρ' μ', Sep3 K B C' G σ ρ' μ' → ExAt K C' cls d2 c d → Ξ c d ρ' μ' → E cls d2 G) : sp3 K n wf vs H Q E := by
  obtain ⟨m, e, SF⟩ := S
  obtain ⟨m1, mr, rfl, e1, er⟩ := e.unapp
  obtain ⟨U1, U2, M1, M2, S2, hh⟩ := SF.split
  have hy : ∀ a o, H a = some o → subU H U1 a = some o ∨ (subU H U1 a = none ∧ (B.hang U2).H0 a = none ∧ NoSlot σ ρ a) := fun a o ha => by
    cases q : U1 a with
    | none => exact .inl (by rw [subU_off q]; exact ha)
    | some u =>
      obtain ⟨_, u2, ns⟩ := hh a u q
      exact .inr ⟨subU_at q, by rw [hang_off u2]; exact (M1.fr a u q).2.1, ns⟩
  have hz : ∀ a o, subU H U1 a = some o → H a = some o := fun a o h => by
    cases q : U1 a with
    | none => rwa [subU_off q] at h
    | some u => rw [subU_at q] at h; cases h
  have back : ∀ {C' G : Hp} {τ : L2.St} {π : List Sl} {μ' : My}, Sep3 K ⟨C, subU H U1, none⟩ C' G τ π μ' → Sep3 K B C' G σ ρ (μ' ++ μr) ∧ Same C C' := fun {C' G τ π μ'} z => by
    obtain ⟨m', e', U', M', S'⟩ := z
    have Sd := S'.unhang M'
    have Sa := S2.after' Sd hy hz
    exact ⟨⟨_, e'.app er, SepF.rejoin M1 M2 S2 hh M' S' Sa (fun _ z => z) Sd.grow⟩, Sd.grow⟩
  refine ⟨by rw [r.len]; exact ln, C, U1, none, ds.map .dat, μ1, m1, _, _, sep_dats S2 r, e1, ⟨M1.nd, M1.at_, M1.all, fun a o h => ⟨(M1.fr a o h).1, subU_at h, fun i z => nomatch z⟩⟩, fun a o h => (hh a o h).1, h, fun C' G v r ps' μ' ok z => ?_, fun C' G cls dd c d ps' μ' S' ex z => kx _ _ _ _ _ _ _ _ (back S').1 ex z⟩
  cases r with
  | dat d => exact k _ _ _ (.dat d) _ _ ⟨(back ok.1).1, ok.2⟩ (back ok.1).2 z
  | new ds =>
    obtain ⟨x, rfl, S'⟩ := ok
    exact k _ _ _ (.new ds) _ _ ⟨x, rfl, (back S').1⟩ (back S').2 z
theorem Sep3.handB {vs : List V} {ds : List Dt} {p : Addr} {i : Nat} {m0 : Int} (S : Sep3 K B C H σ ρ (μ1 ++ μr)) (hi : ρ[i]? = some (.box m0)) (ei : σ[i]? = some (some (V.ref p))) (r : RpL K C vs ds) (ln : ds.length + 1 = n) (h : wf (.box m0 :: ds.map .dat) μ1 (two3 i ρ μr Ψ) (twoX3 i ρ μr Ξ))
    (k : ∀ C' G v r ρ' μ', Ok3 K B C' G σ ρ' μ' v r → Same C C' → Ψ r ρ' μ' → Q v G) (kx : ∀ C' G cls d2 c d ρ' μ', Sep3 K B C' G σ ρ' μ' → ExAt K C' cls d2 c d → Ξ c d ρ' μ' → E cls d2 G) : sp3 K n wf (V.ref p :: vs) H Q E := by
  obtain ⟨m, e, SF⟩ := S
  obtain ⟨m1, mr, rfl, e1, er⟩ := e.unapp
  obtain ⟨U1, U2, M1, M2, S2, hh⟩ := SF.split
  have hy : ∀ a o, H a = some o → subU H U1 a = some o ∨ (subU H U1 a = none ∧ (B.hang U2).H0 a = none ∧ NoSlot σ ρ a) := fun a o ha => by
    cases q : U1 a with
    | none => exact .inl (by rw [subU_off q]; exact ha)
    | some u =>
      obtain ⟨_, u2, ns⟩ := hh a u q
      exact .inr ⟨subU_at q, by rw [hang_off u2]; exact (M1.fr a u q).2.1, ns⟩
  have hz : ∀ a o, subU H U1 a = some o → H a = some o := fun a o h => by
    cases q : U1 a with
    | none => rwa [subU_off q] at h
    | some u => rw [subU_at q] at h; cases h
  have back : ∀ {C' G : Hp} {τ : L2.St} {π : List Sl} {μ' : My} {n' : Int}, Sep3 K ⟨C, subU H U1, some (0, p)⟩ C' G τ π μ' → π[0]? = some (.box n') → Sep3 K B C' G σ (ρ.set i (.box n')) (μ' ++ μr) ∧ Same C C' := fun {C' G τ π μ' n'} z hn => by
    obtain ⟨m', e', U', M', S'⟩ := z
    have Sd := S'.unhang M'
    have Sa := S2.afterB' hi ei Sd hn hy hz
    refine ⟨⟨_, e'.app er, SepF.rejoin M1 M2 S2 hh M' S' Sa (fun a ns j t hj mt => ?_) Sd.grow⟩, Sd.grow⟩
    rcases get_set hj with ⟨rfl, rfl, _⟩ | ⟨nj, hj⟩
    · exact ns i _ hi rfl
    · exact ns j t hj mt
  have npu : ∀ a o, U1 a = some o → ∀ j : Nat, some (0, p) ≠ some (j, a) := fun a o h j z => by
    cases z
    exact (hh _ _ h).2.2 i _ hi rfl ei
  refine ⟨by rw [List.length_cons, r.len]; exact ln, C, U1, some (0, p), .box m0 :: ds.map .dat, μ1, m1, _, _, sep_box S2 hi ei r, e1, ⟨M1.nd, M1.at_, M1.all, fun a o h => ⟨(M1.fr a o h).1, subU_at h, npu a o h⟩⟩, fun a o h => (hh a o h).1, h, fun C' G v r ps' μ' ok z => ?_, fun C' G cls dd c d ps' μ' S' ex z => ?_⟩
  · unfold two3 at z
    split at z
    · next n' t =>
      cases r with
      | dat d => exact k _ _ _ (.dat d) _ _ ⟨(back ok.1 rfl).1, ok.2⟩ (back ok.1 rfl).2 z
      | new ds =>
        obtain ⟨x, rfl, S'⟩ := ok
        exact k _ _ _ (.new ds) _ _ ⟨x, rfl, (back S' rfl).1⟩ (back S' rfl).2 z
    · exact z.elim
  · unfold twoX3 at z
    split at z
    · next n' t => exact kx _ _ _ _ _ _ _ _ (back S' rfl).1 ex z
    · exact z.elim
theorem Sep3.calls {vs : List V} {as : List Ar} (S : Sep3 K B C H σ ρ μ) (en : Ent μ (μ1 ++ μr)) (ok : ArL K C σ vs as) (hn : as.length = n) (h : call3 wf as ρ μ1 μr Ψ Ξ)
    (k : ∀ C' G v r ρ' μ', Ok3 K B C' G σ ρ' μ' v r → Same C C' → Ψ r ρ' μ' → Q v G) (kx : ∀ C' G cls d2 c d ρ' μ', Sep3 K B C' G σ ρ' μ' → ExAt K C' cls d2 c d → Ξ c d ρ' μ' → E cls d2 G) : sp3 K n wf vs H Q E := by
  have S1 := S.ent en
  unfold call3 at h
  split at h
  · next i as' =>
    split at h
    · next m0 ds h1 h2 =>
      cases ok with
      | cons x t =>
        have x : σ[i]? = some (some _) := x
        obtain ⟨p, e, _⟩ := S1.sep.sl i _ h1
        rw [x] at e
        cases e
        exact Sep3.handB S1 h1 x (t.dats h2) (by rw [← hn, List.length_cons, ← t.len, ← (t.dats h2).len]) h k kx
    · exact h.elim
  · next _ =>
    split at h
    · next ds h2 => exact Sep3.handD S1 (ok.dats h2) (by rw [← hn, ← ok.len, ← (ok.dats h2).len]) h k kx
    · exact h.elim
end
class Dw (K : PySem.W.Frag) (vs : List V) (ds : outParam (List Dt)) : Prop where
  run : ∀ (C : Hp), RpL K C vs ds
instance (priority := 40) dw_dv {vs : List V} {ds : List Dt} [a : Dv vs ds] : Dw K vs ds := ⟨a.run K⟩
def wCall3 (n a m : Nat) (wf : W3F) (is : List Nat) (dd : List Dt) (wa wk : WA3) : WE3 := fun ρ μ Ψ Ξ => wa ρ μ (fun as ρ1 μ1 => wk ρ1 μ1 (fun bs ρ2 μ2 => (as.length = a ∧ bs.length = m ∧ (gP is as (bs ++ dd.map .d)).length = n) ∧ ∃ ν νr, Ent μ2 (ν ++ νr) ∧ call3 wf (gP is as (bs ++ dd.map .d)) ρ2 ν νr Ψ Ξ) Ξ) Ξ
instance (priority := 45) e3_call {W : WX} {n a m : Nat} {wf : W3F} {is : List Nat} {dv : List V} {dd : List Dt} {ta tk : TA} {wa wk : WA3} [v : Dw K dv dd] [x : A3 K W ta wa] [y : A3 K W tk wk] : E3 K W (tCall3 a m (sp3 K n wf) (gB is dv) (L2.WE W) ta tk) (wCall3 n a m wf is dd wa wk) where
  run B C H σ ρ μ Q Ψ Ξ S h k mx := x.run B C H σ ρ μ _ _ _ S h (fun C1 H1 vs as ρ1 μ1 S1 s1 ok1 h1 => y.run B C1 H1 σ ρ1 μ1 _ _ _ S1 h1 (fun C2 H2 zs bs ρ2 μ2 S2 s2 ok2 h2 => by
    obtain ⟨⟨l1, l2, l3⟩, ν, νr, en, h2⟩ := h2
    refine ⟨by rw [ok1.len]; exact l1, by rw [ok2.len]; exact l2, ?_⟩
    exact Sep3.calls S2 en (ArL.gP is (ok1.same s2) (ok2.app (.ofRp (v.run C2)))) l3 h2 (fun C' G v r ρ' μ' ok s z => k C' G v r ρ' μ' ok ((s1.trans s2).trans s) z) fun C' G cls d2 c d ρ' μ' S' ex z => mx _ _ _ _ _ _ _ _ _ S' ex z) mx) mx
/-- a new instance is hung -/
theorem Sep3.newIns {B : Bs} {C H : Hp} {σ : L2.St} {ρ : List Sl} {μ : My} {x dx : Addr} {c : Str} (S : Sep3 K B C H σ ρ μ) (hx : H x = none) (hdx : H dx = none) (ne : dx ≠ x) : Sep3 K B C (upd (upd H dx (.own x)) x (.ins (He.ga K c) dx [])) σ ρ ((x, .fl (.ins c [] [])) :: μ) := by
  obtain ⟨m, e, U, M, S⟩ := S
  have hx2 : upd H dx (.own x) x = none := by rw [upd_ne (Ne.symm ne)]; exact hx
  have Sa := S.allocN (o := .own x) hdx
  have Sb := Sa.allocN (o := .ins (He.ga K c) dx []) hx2
  have nx := S.nohot hx
  have nd := S.nohot hdx
  obtain ⟨ux, bx⟩ := hang_no (S.free0 hx)
  obtain ⟨ud, bd⟩ := hang_no (S.free0 hdx)
  refine ⟨_, ⟨[(x, .ins c [] [])], m, rfl, rfl, e⟩, SepF.join (U1 := fun b => if b = x then some (.ins (He.ga K c) dx []) else if b = dx then some (.own x) else none) ⟨List.nodup_cons.mpr ⟨by simp, .nil⟩, fun b g h => ?_, fun b u h => ?_, fun b u h => ?_⟩ (M.on S.grow (Same.refl _) Sb) Sb fun b u h => ?_⟩
  · obtain ⟨rfl, rfl⟩ := Prod.mk.inj (List.mem_singleton.mp h)
    exact ⟨dx, [], if_pos rfl, (if_neg ne).trans (if_pos rfl), rfl, .nil, fun f h => nomatch h⟩
  · split at h
    · next z => exact .inl ⟨_, by rw [z]; exact List.mem_cons_self ..⟩
    · split at h
      · next z => exact .inr ⟨x, _, (Option.some.inj h).symm, List.mem_cons_self ..⟩
      · cases h
  · split at h
    · next z =>
      rw [z]
      exact ⟨S.cold.free hx, bx, fun i e => S.nobx nx i e⟩
    · split at h
      · next z =>
        rw [z]
        exact ⟨S.cold.free hdx, bd, fun i e => S.nobx nd i e⟩
      · cases h
  · split at h
    · next z =>
      rw [z]
      cases h
      exact ⟨upd_same, ux, nx⟩
    · next nz =>
      split at h
      · next z =>
        rw [z]
        cases h
        exact ⟨by rw [upd_ne ne, upd_same], ud, nd⟩
      · cases h
def non3 (x : Addr) (Ψ : Ro → List Sl → My → Prop) (r : Ro) (ρ : List Sl) (μ : My) : Prop := match r with
  | .dat .non => Ψ (.dat (.adr x)) ρ μ
  | _ => False
def wMake3 (K : PySem.W.Frag) (Cl : Addr) (n a m : Nat) (wf : W3F) (is : List Nat) (dd : List Dt) (wa wk : WA3) : WE3 := fun ρ μ Ψ Ξ => wa ρ μ (fun as ρ1 μ1 => wk ρ1 μ1 (fun bs ρ2 μ2 => (as.length = a ∧ bs.length = m) ∧ ∃ c, He.ga K c = Cl ∧ ∀ x, (gP is (.d (.adr x) :: as) (bs ++ dd.map .d)).length = n ∧ ∃ ν νr, Ent μ2 (ν ++ νr) ∧ call3 wf (gP is (.d (.adr x) :: as) (bs ++ dd.map .d)) ρ2 ((x, .fl (.ins c [] [])) :: ν) νr (non3 x Ψ) Ξ) Ξ) Ξ
instance (priority := 45) e3_make {W : WX} {Cl : Addr} {n a m : Nat} {wf : W3F} {is : List Nat} {dv : List V} {dd : List Dt} {ta tk : TA} {wa wk : WA3} [v : Dw K dv dd] [x : A3 K W ta wa] [y : A3 K W tk wk] : E3 K W (tMake3 Cl a m (sp3 K n wf) (gB is dv) (L2.WE W) ta tk) (wMake3 K Cl n a m wf is dd wa wk) where
  run B C H σ ρ μ Q Ψ Ξ S h k mx := x.run B C H σ ρ μ _ _ _ S h (fun C1 H1 vs as ρ1 μ1 S1 s1 ok1 h1 => y.run B C1 H1 σ ρ1 μ1 _ _ _ S1 h1 (fun C2 H2 zs bs ρ2 μ2 S2 s2 ok2 h2 => by
    obtain ⟨⟨l1, l2⟩, c, ec, h2⟩ := h2
    refine ⟨by rw [ok1.len]; exact l1, by rw [ok2.len]; exact l2, fun p dx hp hdx ne => ?_⟩
    obtain ⟨l3, ν, νr, en, h2⟩ := h2 p
    have S3 := S2.newIns (c := c) hp hdx ne
    rw [ec] at S3
    refine Sep3.calls S3 (μ1 := (p, .fl (.ins c [] [])) :: ν) (μr := νr) en.cons (ArL.gP is (.cons (show ArOk K C2 σ (V.ref p) (.d (.adr p)) from Rp.adr p) (ok1.same s2)) (ok2.app (.ofRp (v.run C2)))) l3 h2 (fun C' G v r ρ' μ' ok s z => ?_) fun C' G cls d2 c d ρ' μ' S' ex z => mx _ _ _ _ _ _ _ _ _ S' ex z
    unfold non3 at z
    split at z
    · obtain ⟨S', rp⟩ := ok
      cases rp
      exact ⟨rfl, k _ _ _ (.dat (.adr p)) _ _ ⟨S', .adr p⟩ ((s1.trans s2).trans s) z⟩
    · exact z.elim) mx) mx
/-! what level 1 promises -/
def up3 (wf : WF) : W3F := fun ps μ Ψ _ => wf ps fun r ps' => Ψ r ps' μ
theorem sp3_D {n : Nat} {wf : WF} {vs : List V} {H : Hp} {Q : VK} {E : XK} (h : sp3 K n (up3 wf) vs H Q E) : spD K n wf vs H Q E := by
  obtain ⟨hl, C, U, bx, ps, μ, m, Ψ, Ξ, S, e, M, hU, hf, k, kx⟩ := h
  have eB := subU_hang (C := C) (bx := bx) hU
  refine ⟨hl, C, bx, ps, _, S, hf, fun C' G v r ps' S' ok z => k C' G v r ps' μ ?_ z⟩
  have S'' : Sep K ((⟨C, subU H U, bx⟩ : Bs).hang U) C' G (vs.map some) ps' := by rw [eB]; exact S'
  have S0 : Sep K ((⟨C, subU H U, bx⟩ : Bs).hang U) C H (vs.map some) ps := by rw [eB]; exact S
  have M' := M.on S0.grow S'.grow S''
  cases r with
  | dat d => exact ⟨⟨m, e, U, M', S''⟩, ok⟩
  | new ds =>
    obtain ⟨x, rfl, f⟩ := ok
    refine ⟨x, rfl, _, ⟨[(x, .lst ds)], m, rfl, rfl, e⟩, SepF.fresh S'' M' ?_⟩
    rw [eB]
    exact f
theorem FnOk.up3 {k : Nat} {CX : CXT} {f : Addr} {fd : FuncData} {ps : List Str} {n : Nat} {wf : WF} (F : FnOk P w K mg base CX k f fd ps (spD K n wf)) : FnOk P w K mg base CX k f fd ps (sp3 K n (Sl.up3 wf)) := F.imp fun _ _ _ _ h => sp3_D h

end
section
variable {P : Program} {w : World} {K : PySem.W.Frag} {mg : Str → Option Value} {base : Heap}
local macro_rules | `(tactic| get_elem_tactic_trivial) => `(tactic| (repeat first | exact Wk.nil | exact Wk'.nil | refine Wk.same ?_ | refine Wk'.same ?_ | refine Wk.un (fun _ z => nomatch z) ?_ | refine Wk'.un ?_))
/-! level 3: expressions -/
/-- a list that is hung, seen as it stands -/
def vwK (μ : My) (d : Dt) (k : Dt → Prop) : Prop := match d with
  | .adr a => ∃ (i : Nat) (ds : List Dt), μ[i]? = some (a, Ob.fl (.lst ds)) ∧ k (.lst ds)
  | d => k d
theorem vwK_run {B : Bs} {C H : Hp} {σ : L2.St} {ρ : List Sl} {μ : My} {v : V} {d : Dt} {k : Dt → Prop} (S : Sep3 K B C H σ ρ μ) (r : Rp K C v d) (h : vwK μ d k) : ∃ e, Rt K C H v e ∧ k e := by
  cases d <;> try exact ⟨_, .inl r, h⟩
  rename_i a
  cases r
  obtain ⟨i, ds, hi, h⟩ := h
  obtain ⟨vs, hx, rx⟩ := S.has hi
  exact ⟨_, .inr ⟨a, vs, ds, rfl, rfl, hx, rx⟩, h⟩
def wOp3 (op : Dt → Dt → (Dt → Prop) → Prop) (wa wb : WE3) : WE3 := fun ρ μ Ψ Ξ => wa ρ μ (fun r1 ρ1 μ1 => wb ρ1 μ1 (fun r2 ρ2 μ2 => vwK μ2 r1.val fun d1 => vwK μ2 r2.val fun d2 => op d1 d2 fun d => Ψ (.dat d) ρ2 μ2) Ξ) Ξ
instance (priority := 40) e3_op {W : WX} {r : R2} {op : Dt → Dt → (Dt → Prop) → Prop} {ta tb : TE} {wa wb : WE3} [o : So K r op] [a : E3 K W ta wa] [b : E3 K W tb wb] : E3 K W (tOp r ta tb) (wOp3 op wa wb) where
  run B C H σ ρ μ Q Ψ Ξ S h k mx := a.run B C H σ ρ μ _ _ _ S h (fun C1 H1 v1 r1 ρ1 μ1 ok1 s1 h1 => by
    obtain ⟨C1', S1, s1', q1⟩ := ok1.cool
    refine b.run B C1' H1 σ ρ1 μ1 _ _ _ S1 h1 (fun C2 H2 v2 r2 ρ2 μ2 ok2 s2 h2 => ?_) mx
    obtain ⟨C2', S2, s2', q2⟩ := ok2.cool
    obtain ⟨d1, t1, h3⟩ := vwK_run S2 (q1.same (s2.trans s2')) h2
    obtain ⟨d2, t2, h4⟩ := vwK_run S2 q2 h3
    obtain ⟨B1, S3, back, _⟩ := S2.lift
    exact o.run B1 C2' H2 σ ρ2 _ _ _ _ _ _ S3 t1 t2 h4 fun C' G v d S' s' r' z => k _ _ _ (.dat d) _ _ ⟨(back S').1, r'⟩ ((s1.trans s1').trans ((s2.trans s2').trans s')) z) mx
/-! tests -/
def blK (r : Ro) (k : Bool → Prop) : Prop := match r with
  | .dat (.bl b) => k b
  | _ => False
def wTest3 (w : WE3) : WT3 := fun ρ μ Ψ Ξ => w ρ μ (fun r ρ1 μ1 => blK r fun b => Ψ b ρ1 μ1) Ξ
theorem test3_run {B : Bs} {C H : Hp} {σ : L2.St} {ρ : List Sl} {μ : My} {v : V} {r : Ro} {k : Bool → Prop} (ok : Ok3 K B C H σ ρ μ v r) (h : blK r k) : ∃ b, v = .bl b ∧ Sep3 K B C H σ ρ μ ∧ k b := by
  cases r with
  | new ds => exact False.elim h
  | dat d =>
    cases d <;> try exact False.elim h
    obtain ⟨S, r⟩ := ok
    cases r
    exact ⟨_, rfl, S, h⟩
instance (priority := 40) c3_b {W : WX} {t : TE} {w : WE3} [a : E3 K W t w] : C3 K W (tB t) (wTest3 w) where
  run B C H σ ρ μ Q Ψ Ξ S h k mx := a.run B C H σ ρ μ _ _ _ S h (fun C1 H1 v r ρ1 μ1 ok s1 z => by
    obtain ⟨b, rfl, S1, z⟩ := test3_run ok z
    exact ⟨b, rfl, k _ _ _ _ _ S1 s1 z⟩) mx
instance (priority := 40) c3_test {W : WX} {t : TE} {w : WE3} [a : E3 K W t w] : C3 K W (tTest t) (wTest3 w) where
  run B C H σ ρ μ Q Ψ Ξ S h k mx := a.run B C H σ ρ μ _ _ _ S h (fun C1 H1 v r ρ1 μ1 ok s1 z => by
    obtain ⟨b, rfl, S1, z⟩ := test3_run ok z
    exact ⟨b, rfl, k _ _ _ _ _ S1 s1 z⟩) mx
def wAnd3 (wa wb : WT3) : WT3 := fun ρ μ Ψ Ξ => wa ρ μ (fun b ρ1 μ1 => if b = true then wb ρ1 μ1 Ψ Ξ else Ψ false ρ1 μ1) Ξ
def wOr3 (wa wb : WT3) : WT3 := fun ρ μ Ψ Ξ => wa ρ μ (fun b ρ1 μ1 => if b = true then Ψ true ρ1 μ1 else wb ρ1 μ1 Ψ Ξ) Ξ
def wNot3 (wa : WT3) : WT3 := fun ρ μ Ψ Ξ => wa ρ μ (fun b ρ1 μ1 => Ψ (!b) ρ1 μ1) Ξ
instance (priority := 40) c3_and {W : WX} {ta tb : TT} {wa wb : WT3} [a : C3 K W ta wa] [b : C3 K W tb wb] : C3 K W (tAnd ta tb) (wAnd3 wa wb) where
  run B C H σ ρ μ Q Ψ Ξ S h k mx := a.run B C H σ ρ μ _ _ _ S h (fun C1 H1 c ρ1 μ1 S1 s1 z => by
    cases c with
    | true => exact b.run B C1 H1 σ ρ1 μ1 _ _ _ S1 z (fun C2 H2 e ρ2 μ2 S2 s2 z => k _ _ _ _ _ S2 (s1.trans s2) z) mx
    | false => exact k _ _ _ _ _ S1 s1 z) mx
instance (priority := 40) c3_or {W : WX} {ta tb : TT} {wa wb : WT3} [a : C3 K W ta wa] [b : C3 K W tb wb] : C3 K W (tOr ta tb) (wOr3 wa wb) where
  run B C H σ ρ μ Q Ψ Ξ S h k mx := a.run B C H σ ρ μ _ _ _ S h (fun C1 H1 c ρ1 μ1 S1 s1 z => by
    cases c with
    | true => exact k _ _ _ _ _ S1 s1 z
    | false => exact b.run B C1 H1 σ ρ1 μ1 _ _ _ S1 z (fun C2 H2 e ρ2 μ2 S2 s2 z => k _ _ _ _ _ S2 (s1.trans s2) z) mx) mx
instance (priority := 40) c3_not {W : WX} {ta : TT} {wa : WT3} [a : C3 K W ta wa] : C3 K W (tNot ta) (wNot3 wa) where
  run B C H σ ρ μ Q Ψ Ξ S h k mx := a.run B C H σ ρ μ _ _ _ S h (fun C1 H1 c ρ1 μ1 S1 s1 z => k _ _ _ _ _ S1 s1 z) mx
def wIfE3 (wc : WT3) (wa wb : WE3) : WE3 := fun ρ μ Ψ Ξ => wc ρ μ (fun b ρ1 μ1 => if b = true then wa ρ1 μ1 Ψ Ξ else wb ρ1 μ1 Ψ Ξ) Ξ
instance (priority := 40) e3_if {W : WX} {tc : TT} {ta tb : TE} {wc : WT3} {wa wb : WE3} [c : C3 K W tc wc] [a : E3 K W ta wa] [b : E3 K W tb wb] : E3 K W (tIf tc ta tb) (wIfE3 wc wa wb) where
  run B C H σ ρ μ Q Ψ Ξ S h k mx := c.run B C H σ ρ μ _ _ _ S h (fun C1 H1 e ρ1 μ1 S1 s1 z => by
    cases e with
    | true => exact a.run B C1 H1 σ ρ1 μ1 _ _ _ S1 z (fun C2 H2 v r ρ2 μ2 ok s2 z => k _ _ _ r _ _ ok (s1.trans s2) z) mx
    | false => exact b.run B C1 H1 σ ρ1 μ1 _ _ _ S1 z (fun C2 H2 v r ρ2 μ2 ok s2 z => k _ _ _ r _ _ ok (s1.trans s2) z) mx) mx
/-! displays -/
def wTup3 (wa : WA3) : WE3 := fun ρ μ Ψ Ξ => wa ρ μ (fun as ρ1 μ1 => match dats as with
  | some ds => ds.length ≤ sizeLine ∧ Ψ (.dat (.tup ds)) ρ1 μ1
  | none => False) Ξ
instance (priority := 40) e3_tup {W : WX} {ta : TA} {wa : WA3} [a : A3 K W ta wa] : E3 K W (tTup ta) (wTup3 wa) where
  run B C H σ ρ μ Q Ψ Ξ S h k mx := a.run B C H σ ρ μ _ _ _ S h (fun C1 H1 vs as ρ1 μ1 S1 s1 ok z => by
    cases q : dats as with
    | none => simp only [q] at z
    | some ds =>
      simp only [q] at z
      have r := ok.dats q
      refine ⟨by rw [r.len]; exact z.1, fun p hp => ?_⟩
      obtain ⟨S2, s2⟩ := S1.alloc (o := .tup vs) hp
      exact k _ _ _ (.dat (.tup ds)) _ _ ⟨S2, .tup (SqT.of upd_same) (r.same s2)⟩ (s1.trans s2) z.2) mx
def wLst3 (wa : WA3) : WE3 := fun ρ μ Ψ Ξ => wa ρ μ (fun as ρ1 μ1 => match dats as with
  | some ds => ds.length ≤ sizeLine ∧ Ψ (.new ds) ρ1 μ1
  | none => False) Ξ
instance (priority := 40) e3_lst {W : WX} {ta : TA} {wa : WA3} [a : A3 K W ta wa] : E3 K W (tLst ta) (wLst3 wa) where
  run B C H σ ρ μ Q Ψ Ξ S h k mx := a.run B C H σ ρ μ _ _ _ S h (fun C1 H1 vs as ρ1 μ1 S1 s1 ok z => by
    cases q : dats as with
    | none => simp only [q] at z
    | some ds =>
      simp only [q] at z
      have r := ok.dats q
      exact ⟨by rw [r.len]; exact z.1, fun p hp => k _ _ _ (.new ds) _ _ ⟨p, rfl, S1.new hp r⟩ s1 z.2⟩) mx
/-! a new list that is hung -/
/-! builtins -/
def wCB13 (f : Dt → (Dt → Prop) → Prop) (wa : WE3) : WE3 := fun ρ μ Ψ Ξ => wa ρ μ (fun r ρ1 μ1 => vwK μ1 r.val fun d => f d fun e => Ψ (.dat e) ρ1 μ1) Ξ
instance (priority := 45) e3_cb1 {W : WX} {r : List V → Hp → VK → Prop} {f : Dt → (Dt → Prop) → Prop} {ta : TE} {wa : WE3} [b : Sb1 K r f] [a : E3 K W ta wa] : E3 K W (tCB r (tCons ta tNil)) (wCB13 f wa) where
  run B C H σ ρ μ Q Ψ Ξ S h k mx := a.run B C H σ ρ μ _ _ _ S h (fun C1 H1 v1 r1 ρ1 μ1 ok1 s1 h1 => by
    obtain ⟨C2, S2, s2, q⟩ := ok1.cool
    obtain ⟨e, t, h2⟩ := vwK_run S2 q h1
    obtain ⟨B1, S3, back, _⟩ := S2.lift
    exact b.run B1 C2 H1 σ ρ1 _ _ _ _ S3 t h2 fun C' G v d S' s' r' z => k _ _ _ (.dat d) _ _ ⟨(back S').1, r'⟩ ((s1.trans s2).trans s') z) mx

end
section
variable {P : Program} {w : World} {K : PySem.W.Frag} {mg : Str → Option Value} {base : Heap}
local macro_rules | `(tactic| get_elem_tactic_trivial) => `(tactic| (repeat first | exact Wk.nil | exact Wk'.nil | refine Wk.same ?_ | refine Wk'.same ?_ | refine Wk.un (fun _ z => nomatch z) ?_ | refine Wk'.un ?_))
/-! level 3: fields -/
theorem zip_rp {C : Hp} {f : Str} : ∀ {ns : List Str} {vs : List V} {ds : List Dt} {d : Dt}, RpL K C vs ds → (ns.zip ds).lookup f = some d → ∃ v, (ns.zip vs).lookup f = some v ∧ Rp K C v d ∧ f ∈ ns
  | [], _, _, _, _, h => by simp at h
  | n :: ns, _, _, _, .nil, h => by simp at h
  | n :: ns, v :: vs, d :: ds, e, .cons r t, h => by
    rw [List.zip_cons_cons, List.lookup_cons] at h
    by_cases q : (f == n) = true
    · rw [q] at h
      cases h
      exact ⟨v, by rw [List.zip_cons_cons, List.lookup_cons, q], r, by rw [beq_iff_eq.mp q]; exact List.mem_cons_self ..⟩
    · rw [Bool.not_eq_true] at q
      rw [q] at h
      obtain ⟨u, e, r', m⟩ := zip_rp t h
      exact ⟨u, by rw [List.zip_cons_cons, List.lookup_cons, q]; exact e, r', List.mem_cons_of_mem _ m⟩
def wFld3 (K : PySem.W.Frag) (w : WE3) (f : Str) : WE3 := fun ρ μ Ψ Ξ => w ρ μ (fun r ρ1 μ1 => match r with
  | .dat (.adr a) => ∃ (i : Nat) (c : Str) (ns : List Str) (ds : List Dt), μ1[i]? = some (a, Ob.fl (.ins c ns ds)) ∧ ∃ d, (ns.zip ds).lookup f = some d ∧ Ψ (.dat d) ρ1 μ1
  | .dat (.obj c ns ds) => FldOk K c f ∧ ∃ d, (ns.zip ds).lookup f = some d ∧ Ψ (.dat d) ρ1 μ1
  | _ => False) Ξ
def tFld3 (K : PySem.W.Frag) (ta : TE) (f : Str) : TE := tFld K ta f
instance (priority := 40) e3_fld {W : WX} {ta : TE} {f : Str} {wa : WE3} [a : E3 K W ta wa] : E3 K W (tFld3 K ta f) (wFld3 K wa f) where
  run B C H σ ρ μ Q Ψ Ξ S h k mx := a.run B C H σ ρ μ _ _ _ S h (fun C1 H1 v1 r1 ρ1 μ1 ok1 s1 h1 => by
    cases r1 with
    | new ds => exact False.elim h1
    | dat x =>
      obtain ⟨S1, rp⟩ := ok1
      cases x <;> try exact False.elim h1
      · rename_i c ns ds
        obtain ⟨fo, d, hl, h1⟩ := h1
        cases rp with
        | @obj _ x dx _ vs _ hx hdx hn rl =>
          obtain ⟨v, hv, rv, _⟩ := zip_rp rl hl
          exact ⟨x, _, dx, _, v, rfl, S1.sep.cold _ _ hx, fo.cls, fo.no, hv, k _ _ _ (.dat d) _ _ ⟨S1, rv⟩ s1 h1⟩
      · rename_i x
        cases rp
        obtain ⟨i, c, ns, ds, hi, d, hl, h1⟩ := h1
        obtain ⟨dx, vs, hx, hdx, hn, rl, ff⟩ := S1.has hi
        obtain ⟨v, hv, rv, m⟩ := zip_rp rl hl
        exact ⟨x, _, dx, _, v, rfl, hx, (ff f m).cls, (ff f m).no, hv, k _ _ _ (.dat d) _ _ ⟨S1, rv⟩ s1 h1⟩) mx
/-- a field is put -/
def putN (f : Str) (d : Dt) : List Str → List Dt → List Str × List Dt
  | n :: ns, x :: ds => if n = f then (n :: ns, d :: ds) else (n :: (putN f d ns ds).1, x :: (putN f d ns ds).2)
  | _, _ => ([f], [d])
theorem putN_ok {C : Hp} {f : Str} {v : V} {d : Dt} (r : Rp K C v d) : ∀ {ns : List Str} {vs : List V} {ds : List Dt}, RpL K C vs ds → ns.length = vs.length → ∃ vs', putF f v (ns.zip vs) = (putN f d ns ds).1.zip vs' ∧ (putN f d ns ds).1.length = vs'.length ∧ RpL K C vs' (putN f d ns ds).2 ∧ ∀ g, g ∈ (putN f d ns ds).1 → g ∈ ns ∨ g = f
  | [], _, _, .nil, _ => ⟨[v], rfl, rfl, .cons r .nil, fun g h => .inr (List.mem_singleton.mp h)⟩
  | [], _, _, .cons _ _, h => by simp at h
  | n :: ns, _, _, .nil, h => by simp at h
  | n :: ns, u :: vs, e :: ds, .cons a t, h => by
    by_cases q : n = f
    · refine ⟨v :: vs, ?_, ?_, ?_, ?_⟩
      · unfold putN putF
        rw [List.zip_cons_cons]
        simp only [if_pos q]
        rfl
      · unfold putN
        rw [if_pos q]
        exact h
      · unfold putN
        rw [if_pos q]
        exact .cons r t
      · unfold putN
        rw [if_pos q]
        exact fun g m => .inl m
    · obtain ⟨vs', e1, e2, e3, e4⟩ := putN_ok r (f := f) t (ns := ns) (by simpa using h)
      refine ⟨u :: vs', ?_, ?_, ?_, ?_⟩
      · unfold putN
        rw [if_neg q, List.zip_cons_cons, List.zip_cons_cons]
        show (if n = f then _ else (n, u) :: putF f v (ns.zip vs)) = _
        rw [if_neg q, e1]
      · unfold putN
        rw [if_neg q]
        exact congrArg Nat.succ e2
      · unfold putN
        rw [if_neg q]
        exact .cons a e3
      · unfold putN
        rw [if_neg q]
        exact fun g m => (List.mem_cons.mp m).elim (fun z => .inl (z ▸ List.mem_cons_self ..)) fun z => (e4 g z).imp (List.mem_cons_of_mem _) id
def wSetFld (K : PySem.W.Frag) (f : Str) (wv wo : WE3) : WS3 := fun ρ μ Φ Ξ => wv ρ μ (fun rv ρ1 μ1 => wo ρ1 μ1 (fun ro ρ2 μ2 => match ro with
  | .dat (.adr a) => ∃ (i : Nat) (c : Str) (ns : List Str) (ds : List Dt), μ2[i]? = some (a, Ob.fl (.ins c ns ds)) ∧ ((ns.contains f = true ∨ FldOk K c f) ∧ ns.length < 1000) ∧ ∃ ns' ds', putN f rv.val ns ds = (ns', ds') ∧ Φ.nx ρ2 (μ2.set i (a, Ob.fl (.ins c ns' ds')))
  | _ => False) Ξ) Ξ
theorem Sep3.setFld {B : Bs} {C H : Hp} {σ : L2.St} {ρ : List Sl} {μ : My} {a : Addr} {i : Nat} {c f : Str} {ns ns' : List Str} {ds ds' : List Dt} {v : V} {d : Dt} {dx : Addr} {vs : List V} (S : Sep3 K B C H σ ρ μ) (hi : μ[i]? = some (a, Ob.fl (.ins c ns ds))) (r : Rp K C v d) (hx : H a = some (.ins (He.ga K c) dx (ns.zip vs))) (hl : ns.length = vs.length) (rl : RpL K C vs ds) (hf : ∀ g, g ∈ ns ∨ g = f → FldOk K c g) (e : putN f d ns ds = (ns', ds')) : Sep3 K B C (upd H a (.ins (He.ga K c) dx (putF f v (ns.zip vs)))) σ ρ (μ.set i (a, Ob.fl (.ins c ns' ds'))) := by
  obtain ⟨vs', e1, e2, e3, e4⟩ := putN_ok (f := f) r rl hl
  rw [e] at e1 e2 e3 e4
  rw [e1]
  refine S.set hi fun U1 ok sub => ?_
  obtain ⟨dx', vs1, h1, h2, _, _, _⟩ := ok
  have h3 := sub _ _ h1
  rw [hx] at h3
  have h4 := Option.some.inj h3
  injection h4 with _ h5 _
  subst h5
  have nd : dx ≠ a := fun z => by
    rw [z, h1] at h2
    exact nomatch h2
  exact ⟨dx, vs', upd_same, by rw [upd_ne nd]; exact h2, e2, e3, fun g m => hf g (e4 g m)⟩
instance (priority := 40) s3_fld {W : WX} {ta tv : TE} {f : Str} {wa wv : WE3} [v : E3 K W tv wv] [a : E3 K W ta wa] : S3 K W (sFld K ta tv f) (wSetFld K f wv wa) where
  run B C H σ ρ μ D Φ Ξ S h m mx := v.run B C H σ ρ μ _ _ _ S h (fun C1 H1 v1 r1 ρ1 μ1 ok1 s1 h1 => by
    obtain ⟨C1', S1, s1', q1⟩ := ok1.cool
    refine a.run B C1' H1 σ ρ1 μ1 _ _ _ S1 h1 (fun C2 H2 v2 r2 ρ2 μ2 ok2 s2 h2 => ?_) mx
    cases r2 with
    | new ds => exact False.elim h2
    | dat x =>
      obtain ⟨S2, rp⟩ := ok2
      cases x <;> try exact False.elim h2
      rename_i x
      cases rp
      obtain ⟨i, c, ns, ds, hi, ⟨ff, lt⟩, ns', ds', e, z⟩ := h2
      obtain ⟨dx, vs, hx, hdx, hn, rl, fo⟩ := S2.has hi
      have all : ∀ g, g ∈ ns ∨ g = f → FldOk K c g := fun g hg => by
        rcases hg with hg | rfl
        · exact fo g hg
        · exact ff.elim (fun z => fo g (List.contains_iff_mem.mp z)) id
      refine ⟨x, _, dx, _, rfl, hx, (all f (.inr rfl)).cls, (all f (.inr rfl)).no, ?_, m.nx _ _ _ _ _ (S2.setFld hi (q1.same s2) hx hn rl all e) z⟩
      rw [List.length_zip]
      omega) mx
/-! targets -/
/-! lists that are hung, changed -/
/-! read at level 3 -/

end
section
variable {P : Program} {w : World} {K : PySem.W.Frag} {mg : Str → Option Value} {base : Heap}
local macro_rules | `(tactic| get_elem_tactic_trivial) => `(tactic| (repeat first | exact Wk.nil | exact Wk'.nil | refine Wk.same ?_ | refine Wk'.same ?_ | refine Wk.un (fun _ z => nomatch z) ?_ | refine Wk'.un ?_))
/-! level 3: a thing held aside -/
/-! what a for walks -/
abbrev WI3 := List Sl → My → (List Dt → List Sl → My → Prop) → XE3 → Prop
class I3 (K : PySem.W.Frag) (W : WX) (t : TI) (w : outParam WI3) : Prop where
  run : ∀ (B : Bs) (C H : Hp) (σ : L2.St) (ρ : List Sl) (μ : My) (R : It → Hp → Prop) (Ψ : List Dt → List Sl → My → Prop) (Ξ : XE3), Sep3 K B C H σ ρ μ → w ρ μ Ψ Ξ → (∀ C' G J items ρ' μ', Sep3 K B C' G σ ρ' μ' → Same C C' → ItD K J C' items → Ψ items ρ' μ' → R J G) → MeetsX3 K B Ξ W → t σ H R
def li3 (w : WI) : WI3 := fun ρ μ Ψ _ => w ρ fun items ρ1 => Ψ items ρ1 μ
instance (priority := 50) i3_lf {W : WX} {t : TI} {w : WI} [a : Si K t w] : I3 K W t (li3 w) where
  run B C H σ ρ μ R Ψ Ξ S h k mx := by
    obtain ⟨B1, S1, back, _⟩ := S.lift
    exact a.run B1 C H σ ρ _ _ S1 h fun C1 G J items ρ1 S2 s2 hJ z => k _ _ _ _ _ _ (back S2).1 (back S2).2 hJ z
/-! loops -/
theorem Ok3.keep {B B' : Bs} {C H : Hp} {σ : L2.St} {ρ : List Sl} {μ : My} {v : V} {r : Ro} (h : Ok3 K B' C H σ ρ μ v r) (f : ∀ {μ' : My}, Sep3 K B' C H σ ρ μ' → Sep3 K B C H σ ρ μ') : Ok3 K B C H σ ρ μ v r := by
  cases r with
  | dat d => exact ⟨f h.1, h.2⟩
  | new ds =>
    obtain ⟨a, e, S⟩ := h
    exact ⟨a, e, f S⟩
def wFor3 (wi : WI3) (wg : WG) (wb : WS3) : WS3 := fun ρ μ Φ Ξ => wi ρ μ (fun items ρ1 μ1 => ∃ I : Nat → List Sl → My → Prop, To3 (I 0) ρ1 μ1 ∧
  (∀ k ρ μ d, items[k]? = some d → I k ρ μ → wg d ρ fun ρ2 => wb ρ2 μ { Φ with nx := To3 (I (k + 1)), ct := To3 (I (k + 1)), bk := Φ.nx } Ξ) ∧ ∀ ρ μ, I items.length ρ μ → Φ.nx ρ μ) Ξ
instance (priority := 40) s3_for {W : WX} {ti : TI} {g : TG} {tb : TS} {wi : WI3} {wg : WG} {wb : WS3} [i : I3 K W ti wi] [a : Sg K g wg] [b : S3 K W tb wb] : S3 K W (tFor ti g tb) (wFor3 wi wg wb) where
  run B C H σ ρ μ D Φ Ξ S h m mx := i.run B C H σ ρ μ _ _ _ S h (fun C1 H1 J items ρ1 μ1 S1 s1 hJ h1 => by
    obtain ⟨I, t0, step, fin⟩ := h1
    obtain ⟨ρ0, μ0, S0, i0⟩ := S1.to t0
    refine ⟨fun k n σ2 H2 => n = items.length - k ∧ k ≤ items.length ∧ ∃ C2 ρ2 μ2, Sep3 K B C2 H2 σ2 ρ2 μ2 ∧ Same C1 C2 ∧ I k ρ2 μ2, ⟨_, rfl, Nat.zero_le _, C1, ρ0, μ0, S0, Same.refl _, i0⟩, ?_⟩
    rintro k n σ2 H2 ⟨rfl, hk, C2, ρ2, μ2, S2, s2, hI⟩
    obtain ⟨B1, T2, back, _⟩ := S2.lift
    obtain ⟨go, stop, yld⟩ := hJ B1 C2 H2 σ2 ρ2 T2 s2
    by_cases hlt : k < items.length
    · refine .inr ⟨go k hlt, fun σ3 H3 => ∃ C3 ρ3 μ3, Sep3 K B C3 H3 σ3 ρ3 μ3 ∧ Same C1 C3 ∧ I (k + 1) ρ3 μ3, fun σ3 H3 ⟨C3, ρ3, μ3, S3, s3, h3⟩ => ⟨items.length - (k + 1), by omega, rfl, hlt, C3, ρ3, μ3, S3, s3, h3⟩, fun x H' y => ?_⟩
      obtain ⟨C3, T3, s3, r3⟩ := yld k x H' items[k] (List.getElem?_eq_getElem hlt) y
      obtain ⟨S3, s3'⟩ := back T3
      obtain ⟨S3', keep⟩ := S3.rebase
      obtain ⟨B2, T4, back2, _⟩ := S3'.lift
      refine a.run B2 C3 H' σ2 ρ2 _ _ _ _ T4 r3 (step k ρ2 μ2 _ (List.getElem?_eq_getElem hlt) hI) fun σ4 ρ4 T5 h4 => ?_
      refine b.run ⟨C3, B.H0, B.bx⟩ C3 H' σ4 ρ4 μ2 _ _ _ (back2 T5).1 h4 ⟨fun C5 H5 σ5 ρ5 μ5 z h5 => ?_, fun C5 H5 σ5 ρ5 μ5 v r ok h5 => m.rt _ _ _ _ _ v r (ok.keep fun z => (keep z).1) h5, fun C5 H5 σ5 ρ5 μ5 z h5 => m.nx _ _ _ _ _ (keep z).1 h5, fun C5 H5 σ5 ρ5 μ5 z h5 => ?_⟩ fun C5 H5 σ5 ρ5 μ5 cls dd c d z ex q => mx _ _ _ _ _ _ _ _ _ (keep z).1 ex q
      · obtain ⟨ρ6, μ6, z6, h6⟩ := (keep z).1.to h5
        exact ⟨C5, ρ6, μ6, z6, s2.trans (s3.trans (keep z).2), h6⟩
      · obtain ⟨ρ6, μ6, z6, h6⟩ := (keep z).1.to h5
        exact ⟨C5, ρ6, μ6, z6, s2.trans (s3.trans (keep z).2), h6⟩
    · have e : k = items.length := by omega
      subst e
      exact .inl ⟨stop, m.nx _ _ _ _ _ S2 (fin _ _ hI)⟩) mx
/-! the ways of an if joined -/
/-! raise C(e) -/
/-! try .. except .. as .. -/
def wTry3 (K : PySem.W.Frag) (cv : Value) (wb : WS3) (wsu : Str → Dt → WS) : WS3 := fun ρ μ Φ _ => wb ρ μ Φ fun c d ρ1 μ1 => PySem.W.exmOne K (.ref (He.ga K c)) cv = some true ∧ wsu c d ρ1 ⟨fun ρ' => Φ.nx ρ' μ1, fun r ρ' => Φ.rt r ρ' μ1, fun ρ' => Φ.bk ρ' μ1, fun ρ' => Φ.ct ρ' μ1⟩
instance (priority := 40) s3_try {W : WX} {cv : Value} {i : Nat} {tb : WX → TS} {ts : Addr → Value → Option Addr → TS} {Wo : WX} {wb : WS3} {wsu : Str → Dt → WS} [a : ∀ W, S3 K W (tb W) wb] [su : Su K i ts wsu] : S3 K W (tTry K cv i tb ts Wo) (wTry3 K cv wb wsu) where
  run B C H σ ρ μ D Φ Ξ S h m mx := (a _).run B C H σ ρ μ D Φ _ S h m fun C' G σ' ρ' μ' cls dd c d S' ex z =>
    ⟨true, by rw [ex.1]; exact z.1, fun _ b hb => by
      obtain ⟨B1, S1, back, fr⟩ := S'.lift
      refine su.run B1 C' G σ' ρ' D _ b cls dd c d S1 hb ex z.2 ⟨fun C1 G σ1 ρ1 S2 z => m.nx _ _ _ _ _ (back S2).1 z, fun C1 G σ1 ρ1 v r S2 ok z => m.rt C1 G σ1 ρ1 μ' v r ?_ z, fun C1 G σ1 ρ1 S2 z => m.bk _ _ _ _ _ (back S2).1 z, fun C1 G σ1 ρ1 S2 z => m.ct _ _ _ _ _ (back S2).1 z⟩
      cases r with
      | dat d => exact ⟨(back S2).1, ok⟩
      | new ds =>
        obtain ⟨x, rfl, f⟩ := ok
        exact ⟨x, rfl, fr S2 f⟩, fun q => nomatch q⟩
/-! [e for x in it if t] -/
def noX3 : XE3 := fun _ _ _ _ => False
/-! some hung thing grows cold -/
def tCool3 (t : TE) : TE := t
theorem peCool3 {X : Cx} {e : Expr} {t : TE} (h : PE X e t) : PE X e (tCool3 t) := h
def wCool3 (w : WE3) : WE3 := fun ρ μ Ψ Ξ => w ρ μ (fun r ρ1 μ1 => match r with
  | .dat (.adr a) => ∃ (f : Fl) (μ2 : My), Ent μ1 ((a, Ob.fl f) :: μ2) ∧ Ψ (.dat f.cold) ρ1 μ2
  | _ => False) Ξ
instance (priority := 70) e3_cool {W : WX} {t : TE} {w : WE3} [a : E3 K W t w] : E3 K W (tCool3 t) (wCool3 w) where
  run B C H σ ρ μ Q Ψ Ξ S h k mx := a.run B C H σ ρ μ _ _ _ S h (fun C1 H1 v r ρ1 μ1 ok s1 z => by
    cases r with
    | new ds => exact False.elim z
    | dat d =>
      cases d <;> try exact False.elim z
      obtain ⟨S1, rp⟩ := ok
      cases rp
      obtain ⟨f, μ2, en, z⟩ := z
      obtain ⟨C2, S2, s2, r2⟩ := (S1.ent en).cool
      exact k _ _ _ (.dat f.cold) _ _ ⟨S2, r2⟩ (s1.trans s2) z) mx
/-! ghosts: packs opened and closed ahead of a statement -/

end
section
variable {P : Program} {w : World} {K : PySem.W.Frag} {mg : Str → Option Value} {base : Heap}
local macro_rules | `(tactic| get_elem_tactic_trivial) => `(tactic| (repeat first | exact Wk.nil | exact Wk'.nil | refine Wk.same ?_ | refine Wk'.same ?_ | refine Wk.un (fun _ z => nomatch z) ?_ | refine Wk'.un ?_))
/-! level 3: dicts -/
/-! {..}, {k: v, ..} -/

end
section
variable {P : Program} {w : World} {K : PySem.W.Frag} {mg : Str → Option Value} {base : Heap}
local macro_rules | `(tactic| get_elem_tactic_trivial) => `(tactic| (repeat first | exact Wk.nil | exact Wk'.nil | refine Wk.same ?_ | refine Wk'.same ?_ | refine Wk.un (fun _ z => nomatch z) ?_ | refine Wk'.un ?_))
/-! level 3: packs -/
theorem Ent.nil {μ : My} : Ent μ [] := Ent.drop (r := μ) (.refl _)
/-! a pack opened ahead of a statement -/
/-! what is seen as it stands -/
/-! for x in a list that is hung: it is held meanwhile -/
/-! dicts as values -/
/-! d.update(e) -/

end
section
variable {P : Program} {w : World} {K : PySem.W.Frag} {mg : Str → Option Value} {base : Heap}
local macro_rules | `(tactic| get_elem_tactic_trivial) => `(tactic| (repeat first | exact Wk.nil | exact Wk'.nil | refine Wk.same ?_ | refine Wk'.same ?_ | refine Wk.un (fun _ z => nomatch z) ?_ | refine Wk'.un ?_))
/-! list(enumerate(x)) -/
namespace En
section
variable {prog : Program} {w : World} {A : Around} {E : Value → Shared → Prop} {s : Shared}
end
end En
namespace En
section
variable {prog : Program} {w : World} {A : Around} {s : Shared} {R : Result → Shared → Prop}
end
end En
/-! its data -/

end
section
variable {P : Program} {w : World} {K : PySem.W.Frag} {mg : Str → Option Value} {base : Heap}
local macro_rules | `(tactic| get_elem_tactic_trivial) => `(tactic| (repeat first | exact Wk.nil | exact Wk'.nil | refine Wk.same ?_ | refine Wk'.same ?_ | refine Wk.un (fun _ z => nomatch z) ?_ | refine Wk'.un ?_))
/-! a hung thing grows cold, and a slot that names it is told as it stands -/
/-! how often a truth is in a list -/
/-! list(range(n)) at level 3 -/

end
section
variable {P : Program} {w : World} {K : PySem.W.Frag} {mg : Str → Option Value} {base : Heap}
local macro_rules | `(tactic| get_elem_tactic_trivial) => `(tactic| (repeat first | exact Wk.nil | exact Wk'.nil | refine Wk.same ?_ | refine Wk'.same ?_ | refine Wk.un (fun _ z => nomatch z) ?_ | refine Wk'.un ?_))

/-! list(d.items()) of a dict that is hung, dict(xs) of pairs -/
namespace Dc
/-! dict(xs) -/
end Dc
/-! a keyword's default that is an empty tuple -/
def asPE {X : Cx} {e : Expr} (t : TE) (h : PE X e t) : PE X e t := h
def asPS {X : Cx} {e : Stmt} (t : TS) (h : PS X e t) : PS X e t := h

/-! x == y of two things of one class with an own == -/
section
variable {prog : Program} {A : Around} {E : Value → Shared → Prop} {s : Shared} {x y C f : Addr} {ox : Obj} {od : Option Obj}
end
/-! try: body, except x as n: suite, where the error is tracked in the suite too -/
section
variable {X : Cx} {x n : Str} {c : Value} {i : Nat} {body rest : List Stmt} {b1 : Stmt} {np at1 at2 : Pos} {tb : WX → TS} {ts : TS} {Wo : WX}
end

/-! isinstance of any thing and a class of one's own -/
class IsA (K : PySem.W.Frag) (c : Str) : Prop where
  cl : Cls K (He.ga K c)
  fs : IsF K (He.ga K c)
  no : isoD K c = true
theorem IsA.of {K : PySem.W.Frag} {c : Str} (i : IsA K c) {s : String} (h : s ∈ IK) : PySem.W.kitOne K (.type s) (.ref (He.ga K c)) = some false := by
  have z := i.no
  unfold isoD at z
  exact eq_of_beq (List.all_eq_true.mp z s h)
def isOb (c : Str) : Dt → Bool
  | .obj c' _ _ => decide (c' = c)
  | _ => false
def obK (c : Str) (d : Dt) (k : Prop) : Prop := match d with
  | .obj c' _ _ => c' = c ∧ k
  | .err _ _ => False
  | .adr _ => False
  | .dic _ _ => False
  | _ => k
def wIsA (c : Str) (wa : WE) : WE := fun ρ Ψ => wa ρ fun r ρ1 => match r.val ρ1 with
  | some d => obK c d (Ψ (.dat (.bl (isOb c d))) ρ1)
  | none => False
theorem isA_run {B : Bs} {C H : Hp} {σ : L2.St} {ρ : List Sl} {c : Str} {v : V} {d : Dt} {k : Prop} (io : IsA K c) (S : Sep K B C H σ ρ) (r : Rt K C H v d) (h : obK c d k) : (∃ t : Value, TyX K H v t ∧ PySem.W.kitOne K t (.ref (He.ga K c)) = some (isOb c d)) ∧ k := by
  cases d with
  | obj c' ns ds =>
    obtain ⟨rfl, h⟩ := h
    rcases r with r | ⟨_, _, _, _, e, _⟩
    · cases r with
      | obj a1 a2 a3 a4 =>
        refine ⟨⟨_, .base (.ins (S.cold _ _ a1) io.cl io.fs.ha io.fs.hn io.fs.ht io.fs.hm), ?_⟩, h⟩
        rw [show isOb c' (.obj c' ns ds) = true from decide_eq_true rfl]
        exact kit_same
    · cases e
  | err _ _ => exact h.elim
  | adr _ => exact h.elim
  | dic _ _ => exact h.elim
  | _ =>
    refine ⟨⟨_, kind_ty S r rfl, ?_⟩, h⟩
    exact io.of (by decide)
instance (priority := 1100) sd_isA {c : Str} {ta : TE} {wa : WE} [io : IsA K c] [a : Sd K ta wa] : Sd K (tCB (rIsi K) (tCons ta (tCons (tC (.ref (He.ga K c))) tNil))) (wIsA c wa) where
  run B C H σ ρ Q Ψ S h k := a.run B C H σ ρ _ _ S h fun C1 H1 v1 r1 ρ1 S1 s1 ok1 h1 => by
    cases q : r1.val ρ1 with
    | none => simp only [q] at h1
    | some d =>
      simp only [q] at h1
      obtain ⟨⟨t, ty, kt⟩, z⟩ := isA_run io S1 (S1.valOf ok1 (Same.refl _) q) h1
      exact ⟨v1, _, t, _, isOb c d, rfl, .own _, ty, kt, k _ _ _ (.dat _) _ S1 s1 (.bl _) z⟩



end
section
variable {P : Program} {w : World} {K : PySem.W.Frag} {mg : Str → Option Value} {base : Heap}
local macro_rules | `(tactic| get_elem_tactic_trivial) => `(tactic| (repeat first | exact Wk.nil | exact Wk'.nil | refine Wk.same ?_ | refine Wk'.same ?_ | refine Wk.un (fun _ z => nomatch z) ?_ | refine Wk'.un ?_))
theorem scIsNumber : FnScope ["thing"] ["thing"] (defScope sIsNumber) := ⟨rfl, rfl, rfl, by decide +kernel, rfl, by decide +kernel, by decide +kernel⟩
theorem scCommonDivisor : FnScope ["number", "other"] ["number", "other"] (defScope sCommonDivisor) := ⟨rfl, rfl, rfl, by decide +kernel, rfl, by decide +kernel, by decide +kernel⟩
theorem scIsWidth : FnScope ["thing"] ["thing"] (defScope sIsWidth) := ⟨rfl, rfl, rfl, by decide +kernel, rfl, by decide +kernel, by decide +kernel⟩
theorem scIsFactor : FnScope ["thing", "width"] ["thing", "width"] (defScope sIsFactor) := ⟨rfl, rfl, rfl, by decide +kernel, rfl, by decide +kernel, by decide +kernel⟩
theorem scLBox : FnScope ["_law_script", "_law_k", "_law_cell"] ["_law_script", "_law_k"] (defScope sLBox) := ⟨rfl, rfl, rfl, by decide +kernel, rfl, by decide +kernel, by decide +kernel⟩
theorem scLTake : FnScope ["_law_box_here", "_law_many", "_law_found", "_law_once"] ["_law_box_here", "_law_many"] (defScope sLTake) := ⟨rfl, rfl, rfl, by decide +kernel, rfl, by decide +kernel, by decide +kernel⟩
theorem scLCommon : FnScope ["_law_one", "_law_other", "_law_k"] ["_law_one", "_law_other"] (defScope sLCommon) := ⟨rfl, rfl, rfl, by decide +kernel, rfl, by decide +kernel, by decide +kernel⟩
theorem scLIsBetween : FnScope ["_law_thing", "_law_least", "_law_most"] ["_law_thing", "_law_least", "_law_most"] (defScope sLIsBetween) := ⟨rfl, rfl, rfl, by decide +kernel, rfl, by decide +kernel, by decide +kernel⟩
theorem scLOdd : FnScope ["_law_box_here", "_law_some"] ["_law_box_here"] (defScope sLOdd) := ⟨rfl, rfl, rfl, by decide +kernel, rfl, by decide +kernel, by decide +kernel⟩
theorem scLDue : FnScope ["_law_width", "_law_by"] ["_law_width", "_law_by"] (defScope sLDue) := ⟨rfl, rfl, rfl, by decide +kernel, rfl, by decide +kernel, by decide +kernel⟩
theorem scLTold : FnScope ["_law_width", "_law_by", "_law_way", "_law_made", "_law_caught", "error", "_law_fine"] ["_law_width", "_law_by", "_law_way"] (defScope sLTold) := ⟨rfl, rfl, rfl, by decide +kernel, rfl, by decide +kernel, by decide +kernel⟩
theorem scLText : FnScope ["_law_width", "_law_by", "_law_parts"] ["_law_width", "_law_by"] (defScope sLText) := ⟨rfl, rfl, rfl, by decide +kernel, rfl, by decide +kernel, by decide +kernel⟩
theorem scLDrawn : FnScope ["_law_box_here", "_law_width", "_law_by", "_law_odd_here"] ["_law_box_here"] (defScope sLDrawn) := ⟨rfl, rfl, rfl, by decide +kernel, rfl, by decide +kernel, by decide +kernel⟩
theorem scLOneRight : FnScope ["_law_made", "_law_width", "_law_by"] ["_law_made", "_law_width", "_law_by"] (defScope sLOneRight) := ⟨rfl, rfl, rfl, by decide +kernel, rfl, by decide +kernel, by decide +kernel⟩
theorem scLaw : FnScope ["_law_script", "_law_some", "_law_k", "_law_box_here", "_law_turn", "_law_width", "_law_by", "_law_way", "_law_due_here", "_law_made", "_law_one", "_law_told_here", "_law_other", "_law_others"] ["_law_script"] (defScope sLaw) := ⟨rfl, rfl, rfl, by decide +kernel, rfl, by decide +kernel, by decide +kernel⟩
theorem scMixingInit : FnScope ["self", "width", "factor"] ["self", "width", "factor"] (defScope sMixingInit) := ⟨rfl, rfl, rfl, by decide +kernel, rfl, by decide +kernel, by decide +kernel⟩
theorem scMixingBegin : FnScope ["self", "reset"] ["self", "reset"] (defScope sMixingBegin) := ⟨rfl, rfl, rfl, by decide +kernel, rfl, by decide +kernel, by decide +kernel⟩
theorem scMixingEq : FnScope ["self", "other"] ["self", "other"] (defScope sMixingEq) := ⟨rfl, rfl, rfl, by decide +kernel, rfl, by decide +kernel, by decide +kernel⟩
theorem scMixingRepr : FnScope ["self", "told"] ["self"] (defScope sMixingRepr) := ⟨rfl, rfl, rfl, by decide +kernel, rfl, by decide +kernel, by decide +kernel⟩
theorem scMixingStr : FnScope ["self"] ["self"] (defScope sMixingStr) := ⟨rfl, rfl, rfl, by decide +kernel, rfl, by decide +kernel, by decide +kernel⟩
theorem scStartErrorInit : FnScope ["self", "what"] ["self", "what"] (defScope sStartErrorInit) := ⟨rfl, rfl, rfl, by decide +kernel, rfl, by decide +kernel, by decide +kernel⟩
/-- the names that are the builtins' own -/
structure Bl (mg : Str → Option Value) : Prop where
  b_ValueError : mg "ValueError" = none
  b_repr : mg "repr" = none
  b_len : mg "len" = none
  b_abs : mg "abs" = none
  b_int : mg "int" = none
  b_isinstance : mg "isinstance" = none
  b_list : mg "list" = none
  b_tuple : mg "tuple" = none
  b_str : mg "str" = none
  b_bool : mg "bool" = none
  b_all : mg "all" = none
  b_zip : mg "zip" = none
  b_range : mg "range" = none
  b_max : mg "max" = none
  b_min : mg "min" = none
  b_enumerate : mg "enumerate" = none
  b_divmod : mg "divmod" = none
  b_sorted : mg "sorted" = none
  b_set : mg "set" = none
  b_any : mg "any" = none
/-- what the top has written -/
structure Tx (K : PySem.W.Frag) (mg : Str → Option Value) where
  B : Bl mg
  c_FACTOR : ∃ t, mg "FACTOR" = some (.int 7919 t)
  c_LEAST_WIDTH : ∃ t, mg "LEAST_WIDTH" = some (.int 3 t)
  c_GREATEST : ∃ t, mg "GREATEST" = some (.int 1000000 t)
  fdWall : FuncData
  FWall : FunD K "_wall" "_wall" (defArgs sWall) (defBody sWall) (defScope sWall) [] [] (He.ga K "_wall") fdWall
  gWall : mg "_wall" = some (.ref (He.ga K "_wall"))
  fdIsNumber : FuncData
  FIsNumber : FunD K "is_number" "is_number" (defArgs sIsNumber) (defBody sIsNumber) (defScope sIsNumber) [] [] (He.ga K "is_number") fdIsNumber
  gIsNumber : mg "is_number" = some (.ref (He.ga K "is_number"))
  fdCommonDivisor : FuncData
  FCommonDivisor : FunD K "common_divisor" "common_divisor" (defArgs sCommonDivisor) (defBody sCommonDivisor) (defScope sCommonDivisor) [] [] (He.ga K "common_divisor") fdCommonDivisor
  gCommonDivisor : mg "common_divisor" = some (.ref (He.ga K "common_divisor"))
  fdIsWidth : FuncData
  FIsWidth : FunD K "is_width" "is_width" (defArgs sIsWidth) (defBody sIsWidth) (defScope sIsWidth) [] [] (He.ga K "is_width") fdIsWidth
  gIsWidth : mg "is_width" = some (.ref (He.ga K "is_width"))
  fdIsFactor : FuncData
  FIsFactor : FunD K "is_factor" "is_factor" (defArgs sIsFactor) (defBody sIsFactor) (defScope sIsFactor) [] [] (He.ga K "is_factor") fdIsFactor
  gIsFactor : mg "is_factor" = some (.ref (He.ga K "is_factor"))
  fdLBox : FuncData
  FLBox : FunD K "_law_box" "_law_box" (defArgs sLBox) (defBody sLBox) (defScope sLBox) [] [] (He.ga K "_law_box") fdLBox
  gLBox : mg "_law_box" = some (.ref (He.ga K "_law_box"))
  fdLTake : FuncData
  FLTake : FunD K "_law_take" "_law_take" (defArgs sLTake) (defBody sLTake) (defScope sLTake) [] [] (He.ga K "_law_take") fdLTake
  gLTake : mg "_law_take" = some (.ref (He.ga K "_law_take"))
  fdLCommon : FuncData
  FLCommon : FunD K "_law_common" "_law_common" (defArgs sLCommon) (defBody sLCommon) (defScope sLCommon) [] [] (He.ga K "_law_common") fdLCommon
  gLCommon : mg "_law_common" = some (.ref (He.ga K "_law_common"))
  fdLIsBetween : FuncData
  FLIsBetween : FunD K "_law_is_between" "_law_is_between" (defArgs sLIsBetween) (defBody sLIsBetween) (defScope sLIsBetween) [] [] (He.ga K "_law_is_between") fdLIsBetween
  gLIsBetween : mg "_law_is_between" = some (.ref (He.ga K "_law_is_between"))
  fdLOdd : FuncData
  FLOdd : FunD K "_law_odd" "_law_odd" (defArgs sLOdd) (defBody sLOdd) (defScope sLOdd) [] [] (He.ga K "_law_odd") fdLOdd
  gLOdd : mg "_law_odd" = some (.ref (He.ga K "_law_odd"))
  fdLDue : FuncData
  FLDue : FunD K "_law_due" "_law_due" (defArgs sLDue) (defBody sLDue) (defScope sLDue) [] [] (He.ga K "_law_due") fdLDue
  gLDue : mg "_law_due" = some (.ref (He.ga K "_law_due"))
  fdLTold : FuncData
  FLTold : FunD K "_law_told" "_law_told" (defArgs sLTold) (defBody sLTold) (defScope sLTold) [] [] (He.ga K "_law_told") fdLTold
  gLTold : mg "_law_told" = some (.ref (He.ga K "_law_told"))
  fdLText : FuncData
  FLText : FunD K "_law_text" "_law_text" (defArgs sLText) (defBody sLText) (defScope sLText) [] [] (He.ga K "_law_text") fdLText
  gLText : mg "_law_text" = some (.ref (He.ga K "_law_text"))
  fdLDrawn : FuncData
  FLDrawn : FunD K "_law_drawn" "_law_drawn" (defArgs sLDrawn) (defBody sLDrawn) (defScope sLDrawn) [] [] (He.ga K "_law_drawn") fdLDrawn
  gLDrawn : mg "_law_drawn" = some (.ref (He.ga K "_law_drawn"))
  fdLOneRight : FuncData
  FLOneRight : FunD K "_law_one_right" "_law_one_right" (defArgs sLOneRight) (defBody sLOneRight) (defScope sLOneRight) [] [] (He.ga K "_law_one_right") fdLOneRight
  gLOneRight : mg "_law_one_right" = some (.ref (He.ga K "_law_one_right"))
  fdLaw : FuncData
  FLaw : FunD K "law" "law" (defArgs sLaw) (defBody sLaw) (defScope sLaw) [] [] (He.ga K "law") fdLaw
  gLaw : mg "law" = some (.ref (He.ga K "law"))
  fdMixingInit : FuncData
  FMixingInit : FunD K "__init__" "Mixing.__init__" (defArgs sMixingInit) (defBody sMixingInit) (defScope sMixingInit) [.non] [("factor", .int 7919)] (He.ma K (He.ga K "Mixing") "__init__") fdMixingInit
  mkMixing : Mk K (He.ga K "Mixing") (He.ma K (He.ga K "Mixing") "__init__")
  fdMixingBegin : FuncData
  FMixingBegin : FunD K "begin" "Mixing.begin" (defArgs sMixingBegin) (defBody sMixingBegin) (defScope sMixingBegin) [] [("reset", .bl false)] (He.ma K (He.ga K "Mixing") "begin") fdMixingBegin
  mMixingBegin : Meth K (He.ga K "Mixing") "begin" (He.ma K (He.ga K "Mixing") "begin")
  fdMixingEq : FuncData
  FMixingEq : FunD K "__eq__" "Mixing.__eq__" (defArgs sMixingEq) (defBody sMixingEq) (defScope sMixingEq) [] [] (He.ma K (He.ga K "Mixing") "__eq__") fdMixingEq
  mMixingEq : Meth K (He.ga K "Mixing") "__eq__" (He.ma K (He.ga K "Mixing") "__eq__")
  fdMixingRepr : FuncData
  FMixingRepr : FunD K "__repr__" "Mixing.__repr__" (defArgs sMixingRepr) (defBody sMixingRepr) (defScope sMixingRepr) [] [] (He.ma K (He.ga K "Mixing") "__repr__") fdMixingRepr
  mMixingRepr : Meth K (He.ga K "Mixing") "__repr__" (He.ma K (He.ga K "Mixing") "__repr__")
  fdMixingStr : FuncData
  FMixingStr : FunD K "__str__" "Mixing.__str__" (defArgs sMixingStr) (defBody sMixingStr) (defScope sMixingStr) [] [] (He.ma K (He.ga K "Mixing") "__str__") fdMixingStr
  mMixingStr : Meth K (He.ga K "Mixing") "__str__" (He.ma K (He.ga K "Mixing") "__str__")
  fdStartErrorInit : FuncData
  FStartErrorInit : FunD K "__init__" "StartError.__init__" (defArgs sStartErrorInit) (defBody sStartErrorInit) (defScope sStartErrorInit) [] [] (He.ma K (He.ga K "StartError") "__init__") fdStartErrorInit
  clMixing : Cls K (He.ga K "Mixing")
  gMixing : mg "Mixing" = some (.ref (He.ga K "Mixing"))
  nMixing_width : NoAttr K (He.ga K "Mixing") "width"
  nMixing_factor : NoAttr K (He.ga K "Mixing") "factor"
  is_Mixing : IsF K (He.ga K "Mixing")
  io_Mixing : isoD K "Mixing" = true
  gStartError : mg "StartError" = some (.ref (He.ga K "StartError"))
  gNoRow : mg "NoRow" = some (.ref (He.ga K "NoRow"))
  gBadMixing : mg "BadMixing" = some (.ref (He.ga K "BadMixing"))
  gNoBoard : mg "NoBoard" = some (.ref (He.ga K "NoBoard"))
  er : errOk K "StartError" ERRS = true
theorem Tx.bIsNumber {K : PySem.W.Frag} {mg : Str → Option Value} (T : Tx K mg) : Binds K T.fdIsNumber ["thing"] [] := T.FIsNumber.bindsN fun _ _ _ _ _ _ us hl => match us, hl with | [_], _ => rfl
theorem Tx.bCommonDivisor {K : PySem.W.Frag} {mg : Str → Option Value} (T : Tx K mg) : Binds K T.fdCommonDivisor ["number", "other"] [] := T.FCommonDivisor.bindsN fun _ _ _ _ _ _ us hl => match us, hl with | [_, _], _ => rfl
theorem Tx.bIsWidth {K : PySem.W.Frag} {mg : Str → Option Value} (T : Tx K mg) : Binds K T.fdIsWidth ["thing"] [] := T.FIsWidth.bindsN fun _ _ _ _ _ _ us hl => match us, hl with | [_], _ => rfl
theorem Tx.bIsFactor {K : PySem.W.Frag} {mg : Str → Option Value} (T : Tx K mg) : Binds K T.fdIsFactor ["thing", "width"] [] := T.FIsFactor.bindsN fun _ _ _ _ _ _ us hl => match us, hl with | [_, _], _ => rfl
theorem Tx.bLBox {K : PySem.W.Frag} {mg : Str → Option Value} (T : Tx K mg) : Binds K T.fdLBox ["_law_script", "_law_k"] [] := T.FLBox.bindsN fun _ _ _ _ _ _ us hl => match us, hl with | [_, _], _ => rfl
theorem Tx.bLTake {K : PySem.W.Frag} {mg : Str → Option Value} (T : Tx K mg) : Binds K T.fdLTake ["_law_box_here", "_law_many"] [] := T.FLTake.bindsN fun _ _ _ _ _ _ us hl => match us, hl with | [_, _], _ => rfl
theorem Tx.bLCommon {K : PySem.W.Frag} {mg : Str → Option Value} (T : Tx K mg) : Binds K T.fdLCommon ["_law_one", "_law_other"] [] := T.FLCommon.bindsN fun _ _ _ _ _ _ us hl => match us, hl with | [_, _], _ => rfl
theorem Tx.bLIsBetween {K : PySem.W.Frag} {mg : Str → Option Value} (T : Tx K mg) : Binds K T.fdLIsBetween ["_law_thing", "_law_least", "_law_most"] [] := T.FLIsBetween.bindsN fun _ _ _ _ _ _ us hl => match us, hl with | [_, _, _], _ => rfl
theorem Tx.bLOdd {K : PySem.W.Frag} {mg : Str → Option Value} (T : Tx K mg) : Binds K T.fdLOdd ["_law_box_here"] [] := T.FLOdd.bindsN fun _ _ _ _ _ _ us hl => match us, hl with | [_], _ => rfl
theorem Tx.bLDue {K : PySem.W.Frag} {mg : Str → Option Value} (T : Tx K mg) : Binds K T.fdLDue ["_law_width", "_law_by"] [] := T.FLDue.bindsN fun _ _ _ _ _ _ us hl => match us, hl with | [_, _], _ => rfl
theorem Tx.bLTold {K : PySem.W.Frag} {mg : Str → Option Value} (T : Tx K mg) : Binds K T.fdLTold ["_law_width", "_law_by", "_law_way"] [] := T.FLTold.bindsN fun _ _ _ _ _ _ us hl => match us, hl with | [_, _, _], _ => rfl
theorem Tx.bLText {K : PySem.W.Frag} {mg : Str → Option Value} (T : Tx K mg) : Binds K T.fdLText ["_law_width", "_law_by"] [] := T.FLText.bindsN fun _ _ _ _ _ _ us hl => match us, hl with | [_, _], _ => rfl
theorem Tx.bLDrawn {K : PySem.W.Frag} {mg : Str → Option Value} (T : Tx K mg) : Binds K T.fdLDrawn ["_law_box_here"] [] := T.FLDrawn.bindsN fun _ _ _ _ _ _ us hl => match us, hl with | [_], _ => rfl
theorem Tx.bLOneRight {K : PySem.W.Frag} {mg : Str → Option Value} (T : Tx K mg) : Binds K T.fdLOneRight ["_law_made", "_law_width", "_law_by"] [] := T.FLOneRight.bindsN fun _ _ _ _ _ _ us hl => match us, hl with | [_, _, _], _ => rfl
theorem Tx.bMixingEq {K : PySem.W.Frag} {mg : Str → Option Value} (T : Tx K mg) : Binds K T.fdMixingEq ["self", "other"] [] := T.FMixingEq.bindsN fun _ _ _ _ _ _ us hl => match us, hl with | [_, _], _ => rfl
theorem Tx.bMixingRepr {K : PySem.W.Frag} {mg : Str → Option Value} (T : Tx K mg) : Binds K T.fdMixingRepr ["self"] [] := T.FMixingRepr.bindsN fun _ _ _ _ _ _ us hl => match us, hl with | [_], _ => rfl
theorem Tx.bMixingStr {K : PySem.W.Frag} {mg : Str → Option Value} (T : Tx K mg) : Binds K T.fdMixingStr ["self"] [] := T.FMixingStr.bindsN fun _ _ _ _ _ _ us hl => match us, hl with | [_], _ => rfl
theorem Tx.bStartErrorInit {K : PySem.W.Frag} {mg : Str → Option Value} (T : Tx K mg) : Binds K T.fdStartErrorInit ["self", "what"] [] := T.FStartErrorInit.bindsN fun _ _ _ _ _ _ us hl => match us, hl with | [_, _], _ => rfl



end
section
variable {P : Program} {w : World} {K : PySem.W.Frag} {mg : Str → Option Value} {base : Heap}
local macro_rules | `(tactic| get_elem_tactic_trivial) => `(tactic| (repeat first | exact Wk.nil | exact Wk'.nil | refine Wk.same ?_ | refine Wk'.same ?_ | refine Wk.un (fun _ z => nomatch z) ?_ | refine Wk'.un ?_))
theorem hob_eq (s : PySem.W.SharedT) : hob s = hk.obs s.abs := obsE_eq (HandSHeadRun.getT_eq s)
theorem tx_of {K : PySem.W.Frag} {h : Heap} {mg : Str → Option Value} (X : K.In h) (G : h.Ns mainGlobals mg) (c : He.SaysD hfa hfn K) (cx : hex K = true) : ∃ T : Tx K mg, True := by
  obtain ⟨f0, F0⟩ := c.def_ 0 (d := ddWall) rfl
  obtain ⟨f1, F1⟩ := c.def_ 1 (d := ddIsNumber) rfl
  obtain ⟨f2, F2⟩ := c.def_ 2 (d := ddCommonDivisor) rfl
  obtain ⟨f3, F3⟩ := c.def_ 3 (d := ddIsWidth) rfl
  obtain ⟨f4, F4⟩ := c.def_ 4 (d := ddIsFactor) rfl
  obtain ⟨f5, F5⟩ := c.def_ 5 (d := ddLBox) rfl
  obtain ⟨f6, F6⟩ := c.def_ 6 (d := ddLTake) rfl
  obtain ⟨f7, F7⟩ := c.def_ 7 (d := ddLCommon) rfl
  obtain ⟨f8, F8⟩ := c.def_ 8 (d := ddLIsBetween) rfl
  obtain ⟨f9, F9⟩ := c.def_ 9 (d := ddLOdd) rfl
  obtain ⟨f10, F10⟩ := c.def_ 10 (d := ddLDue) rfl
  obtain ⟨f11, F11⟩ := c.def_ 11 (d := ddLTold) rfl
  obtain ⟨f12, F12⟩ := c.def_ 12 (d := ddLText) rfl
  obtain ⟨f13, F13⟩ := c.def_ 13 (d := ddLDrawn) rfl
  obtain ⟨f14, F14⟩ := c.def_ 14 (d := ddLOneRight) rfl
  obtain ⟨f15, F15⟩ := c.def_ 15 (d := ddLaw) rfl
  obtain ⟨f16, F16⟩ := c.def_ 16 (d := ddMixingInit) rfl
  obtain ⟨f17, F17⟩ := c.def_ 17 (d := ddMixingBegin) rfl
  obtain ⟨f18, F18⟩ := c.def_ 18 (d := ddMixingEq) rfl
  obtain ⟨f19, F19⟩ := c.def_ 19 (d := ddMixingRepr) rfl
  obtain ⟨f20, F20⟩ := c.def_ 20 (d := ddMixingStr) rfl
  obtain ⟨f21, F21⟩ := c.def_ 21 (d := ddStartErrorInit) rfl
  obtain ⟨cy, zi0⟩ := He.ba cx
  obtain ⟨e0, q0⟩ := He.ba cy
  exact ⟨⟨⟨He.free_ok X G (c.fact 0 (f := .free "ValueError") rfl), He.free_ok X G (c.fact 1 (f := .free "repr") rfl), He.free_ok X G (c.fact 2 (f := .free "len") rfl), He.free_ok X G (c.fact 3 (f := .free "abs") rfl), He.free_ok X G (c.fact 4 (f := .free "int") rfl), He.free_ok X G (c.fact 5 (f := .free "isinstance") rfl), He.free_ok X G (c.fact 6 (f := .free "list") rfl), He.free_ok X G (c.fact 7 (f := .free "tuple") rfl), He.free_ok X G (c.fact 8 (f := .free "str") rfl), He.free_ok X G (c.fact 9 (f := .free "bool") rfl), He.free_ok X G (c.fact 10 (f := .free "all") rfl), He.free_ok X G (c.fact 11 (f := .free "zip") rfl), He.free_ok X G (c.fact 12 (f := .free "range") rfl), He.free_ok X G (c.fact 13 (f := .free "max") rfl), He.free_ok X G (c.fact 14 (f := .free "min") rfl), He.free_ok X G (c.fact 15 (f := .free "enumerate") rfl), He.free_ok X G (c.fact 16 (f := .free "divmod") rfl), He.free_ok X G (c.fact 17 (f := .free "sorted") rfl), He.free_ok X G (c.fact 18 (f := .free "set") rfl), He.free_ok X G (c.fact 19 (f := .free "any") rfl)⟩,
    He.int_ok X G (c.fact 36 (f := .int "FACTOR" 7919) rfl),
    He.int_ok X G (c.fact 37 (f := .int "LEAST_WIDTH" 3) rfl),
    He.int_ok X G (c.fact 38 (f := .int "GREATEST" 1000000) rfl),
    f0,
    F0,
    He.glo_ok X G (c.fact 20 (f := .glo "_wall") rfl),
    f1,
    F1,
    He.glo_ok X G (c.fact 21 (f := .glo "is_number") rfl),
    f2,
    F2,
    He.glo_ok X G (c.fact 22 (f := .glo "common_divisor") rfl),
    f3,
    F3,
    He.glo_ok X G (c.fact 23 (f := .glo "is_width") rfl),
    f4,
    F4,
    He.glo_ok X G (c.fact 24 (f := .glo "is_factor") rfl),
    f5,
    F5,
    He.glo_ok X G (c.fact 25 (f := .glo "_law_box") rfl),
    f6,
    F6,
    He.glo_ok X G (c.fact 26 (f := .glo "_law_take") rfl),
    f7,
    F7,
    He.glo_ok X G (c.fact 27 (f := .glo "_law_common") rfl),
    f8,
    F8,
    He.glo_ok X G (c.fact 28 (f := .glo "_law_is_between") rfl),
    f9,
    F9,
    He.glo_ok X G (c.fact 29 (f := .glo "_law_odd") rfl),
    f10,
    F10,
    He.glo_ok X G (c.fact 30 (f := .glo "_law_due") rfl),
    f11,
    F11,
    He.glo_ok X G (c.fact 31 (f := .glo "_law_told") rfl),
    f12,
    F12,
    He.glo_ok X G (c.fact 32 (f := .glo "_law_text") rfl),
    f13,
    F13,
    He.glo_ok X G (c.fact 33 (f := .glo "_law_drawn") rfl),
    f14,
    F14,
    He.glo_ok X G (c.fact 34 (f := .glo "_law_one_right") rfl),
    f15,
    F15,
    He.glo_ok X G (c.fact 35 (f := .glo "law") rfl),
    f16,
    F16,
    He.mkr_ok (c.fact 41 (f := .mkr "Mixing") rfl),
    f17,
    F17,
    He.meth_ok (c.fact 44 (f := .meth "Mixing" "begin") rfl),
    f18,
    F18,
    He.meth_ok (c.fact 45 (f := .meth "Mixing" "__eq__") rfl),
    f19,
    F19,
    He.meth_ok (c.fact 46 (f := .meth "Mixing" "__repr__") rfl),
    f20,
    F20,
    He.meth_ok (c.fact 47 (f := .meth "Mixing" "__str__") rfl),
    f21,
    F21,
    He.cls_ok (c.fact 39 (f := .cls "Mixing") rfl),
    He.glo_ok X G (c.fact 40 (f := .glo "Mixing") rfl),
    He.noat_ok (c.fact 42 (f := .noat "Mixing" "width") rfl),
    He.noat_ok (c.fact 43 (f := .noat "Mixing" "factor") rfl),
    neD_is q0,
    zi0,
    He.glo_ok X G (c.fact 48 (f := .glo "StartError") rfl),
    He.glo_ok X G (c.fact 49 (f := .glo "NoRow") rfl),
    He.glo_ok X G (c.fact 50 (f := .glo "BadMixing") rfl),
    He.glo_ok X G (c.fact 51 (f := .glo "NoBoard") rfl),
    e0⟩, trivial⟩

end
section
variable {P : Program} {w : World} {K : PySem.W.Frag} {mg : Str → Option Value} {base : Heap}
local macro_rules | `(tactic| get_elem_tactic_trivial) => `(tactic| (repeat first | exact Wk.nil | exact Wk'.nil | refine Wk.same ?_ | refine Wk'.same ?_ | refine Wk.un (fun _ z => nomatch z) ?_ | refine Wk'.un ?_))

end
section
variable {P : Program} {w : World} {K : PySem.W.Frag} {mg : Str → Option Value} {base : Heap}
local macro_rules | `(tactic| get_elem_tactic_trivial) => `(tactic| (repeat first | exact Wk.nil | exact Wk'.nil | refine Wk.same ?_ | refine Wk'.same ?_ | refine Wk.un (fun _ z => nomatch z) ?_ | refine Wk'.un ?_))
theorem okLBox (T : Tx K mg) : FnOk P w K mg base CX0 1 (He.ga K "_law_box") T.fdLBox ["_law_script", "_law_k"] (spLBox K) := by
  have B := T.B
  refine T.FLBox.ok scLBox (fun vs H Q E h => ?_) (fun cdv A outer s H vs Q E hr h => ?_)
  · obtain ⟨a, ns, k, rfl, _⟩ := h
    rfl
  · obtain ⟨a, ns, k, rfl, hS, hk, q⟩ := h
    refine ⟨_, PSs.nox (pss_cons (ps_set (i := 2) scLBox.nd rfl (.inl rfl) pe_int)
        (pss_cons (ps_if (pt_cmpR op_lt (pv 1) (pe_callB call_len_seq (by rfl) B.b_len PySem.boot_len (pa_cons (pv 0) pa_nil)) (nomark _)) (pss_one (ps_set (i := 2) scLBox.nd rfl (.inl rfl) (pe_ix ix_list (pv 0) (pv 1) (fun _ _ => rfl)))) pss_nil)
        (pss_one (ps_ret (pe_lst (pa_cons (pe_op op_mul (pe_callB call_abs (by rfl) B.b_abs boot_abs (pa_cons (pv 2) pa_nil)) (pe_callTy call_int1 (by rfl) B.b_int PyProof.Rows.boot_int (pa_cons (pe_cmpR op_ge (pe_callB call_abs (by rfl) B.b_abs boot_abs (pa_cons (pv 2) pa_nil)) (pe_op op_pow pe_int pe_int) (nomark _)) pa_nil))) (pa_cons (pe_op op_add (pe_op op_add (pe_op op_mod (pv 2) pe_int) (pe_op op_mul pe_int (pv 1))) pe_int) (pa_cons pe_int pa_nil)))))))), ?_⟩
    have fin : ∀ c : Int, tRet (tLst (tCons (tOp (rI CMul fun i j => .int (i * j)) (tCB (fun xs H Q => ∃ i, xs = [.int i] ∧ Q (.int (if i < 0 then -i else i)) H) (tCons (tVar 2) tNil))
        (tCB (fun xs H Q => (∃ i, xs = [.int i] ∧ Q (.int i) H) ∨ ∃ k, xs = [.bl k] ∧ Q (.int (if k then 1 else 0)) H) (tCons (tOp (rI0 fun i j => .bl (decide (j ≤ i))) (tCB (fun xs H Q => ∃ i, xs = [.int i] ∧ Q (.int (if i < 0 then -i else i)) H) (tCons (tVar 2) tNil)) (tOp (rI CPow fun i j => .int (i ^ j.toNat)) (tC (.int 10)) (tC (.int 18)))) tNil)))
        (tCons (tOp (rI0 fun i j => .int (i + j)) (tOp (rI0 fun i j => .int (i + j)) (tOp (rI (fun _ j => 0 < j) fun i j => .int (i % j)) (tVar 2) (tC (.int 2147483629))) (tOp (rI CMul fun i j => .int (i * j)) (tC (.int 7919)) (tVar 1))) (tC (.int 11))) (tCons (tC (.int 0)) tNil))))
        { nx := fun _ H' => Q .non H', rt := Q } [some (.ref a), some (.int k), some (.int c)] H := by
      intro c
      have hb : ∀ b : Bool, (0 : Int) ≤ (if c < 0 then -c else c) * (if b = true then 1 else 0) := by
        intro b
        cases b <;> simp <;> split <;> omega
      have h1 := Int.emod_nonneg c (b := 2147483629) (by decide)
      have h2 := Int.emod_lt_of_pos c (b := 2147483629) (by decide)
      refine ⟨_, rfl, c, rfl, _, rfl, c, rfl, _, _, rfl, rfl, ⟨by decide, by decide, by decide⟩, _, _, rfl, rfl, .inr ⟨_, rfl, _, _, rfl, rfl, .inr ⟨?_, ?_⟩, ?_⟩⟩
      · exact bit_lo _
      · exact bit_hi _
      · refine ⟨_, rfl, _, _, rfl, rfl, (show (0 : Int) < 2147483629 by decide), _, rfl, _, _, rfl, rfl, .inl ⟨by decide, by decide⟩, _, _, rfl, rfl, _, _, rfl, rfl, by show 3 ≤ sizeLine; decide, fun p hp => ?_⟩
        exact q p _ _ hp (hb _) (by omega) (by omega)
    refine ⟨_, rfl, _, rfl, a, _, rfl, .inl hS, _, _, rfl, rfl, _, rfl, ite2 (fun e => ?_) (fun e => ?_)⟩
    · have hlt : k < ns.length := by
        have := of_decide_eq_true e
        rw [List.length_map] at this
        omega
      refine ⟨_, rfl, _, rfl, a, _, _, _, rfl, rfl, hS, at_of (j := k) (v := .int ns[k]) rfl (by rw [List.getElem?_map, List.getElem?_eq_getElem hlt]; rfl), ?_⟩
      exact fin _
    · exact fin _
theorem okLTake (T : Tx K mg) : FnOk P w K mg base CX0 1 (He.ga K "_law_take") T.fdLTake ["_law_box_here", "_law_many"] spLTake := by
  have B := T.B
  refine T.FLTake.ok scLTake (fun vs H Q E h => ?_) (fun cdv A outer s H vs Q E hr h => ?_)
  · obtain ⟨p, m, n, rfl, _⟩ := h
    rfl
  · obtain ⟨p, m, n, rfl, hB, hn, hm, hm2, q⟩ := h
    refine ⟨_, PSs.nox (pss_cons (ps_if (pt_cmpR op_gt (pe_ix ix_list (pv 0) pe_int (fun _ _ => rfl)) pe_int (nomark _)) (pss_cons (ps_set (i := 2) scLTake.nd rfl (.inl rfl) (pe_op op_mod (pe_ix ix_list (pv 0) pe_int (fun _ _ => rfl)) (pv 1)))
        (pss_cons (ps_asg (pe_op op_fdivW (pe_ix ix_list (pv 0) pe_int (fun _ _ => rfl)) (pv 1)) (pg_sub (pv 0) pe_int set_list))
        (pss_one (ps_ret (pv 2))))) pss_nil)
        (pss_cons (ps_asg (pe_op op_add (pe_ix ix_list (pv 0) pe_int (fun _ _ => rfl)) pe_int) (pg_sub (pv 0) pe_int set_list))
        (pss_cons (ps_set (i := 3) scLTake.nd rfl (.inl rfl) (pe_op op_mod (pe_op op_pow (pe_op op_add (pe_ix ix_list (pv 0) pe_int (fun _ _ => rfl)) (pe_op op_mul pe_int (pe_ix ix_list (pv 0) pe_int (fun _ _ => rfl)))) pe_int) pe_int))
        (pss_one (ps_ret (pe_op op_mod (pe_op op_fdiv (pe_op op_mod (pe_op op_add (pe_op op_mul (pv 3) (pe_op op_add (pe_op op_mod (pv 3) pe_int) pe_int)) (pe_op op_mul (pe_ix ix_list (pv 0) pe_int (fun _ _ => rfl)) pe_int)) pe_int) pe_int) (pv 1))))))), ?_⟩
    obtain ⟨x, y, z, hp, hx, hy, hy2, hz, hzn⟩ := hB
    have hm3 : m.natAbs < 340282366920938463463374607431768211456 := by omega
    refine ⟨_, rfl, p, _, 0, .int x, rfl, rfl, SqL.of hp, atI_nat (j := 0) rfl, _, _, rfl, rfl, _, rfl, ite2 (fun e => ?_) (fun e => ?_)⟩
    · refine ⟨_, rfl, p, _, 0, .int x, rfl, rfl, SqL.of hp, atI_nat (j := 0) rfl, _, rfl, _, _, rfl, rfl, hm, ?_⟩
      refine ⟨_, rfl, p, _, 0, .int x, rfl, rfl, SqL.of hp, atI_nat (j := 0) rfl, _, rfl, _, _, rfl, rfl, wide_div (b := 128) hm hm3 (by decide) (by decide), ?_⟩
      refine ⟨_, rfl, p, _, 0, 0, rfl, rfl, hp, rfl, _, rfl, ?_⟩
      exact q _ _ But.upd ⟨_, y, z, upd_same, Int.ediv_nonneg hx (Int.le_of_lt hm), hy, hy2, hz, by omega⟩ (Int.emod_nonneg _ (by omega)) (Int.emod_lt_of_pos _ hm)
    · refine ⟨_, rfl, p, _, 2, .int z, rfl, rfl, SqL.of hp, atI_nat (j := 2) rfl, _, _, rfl, rfl, _, rfl, p, _, 2, 2, rfl, rfl, hp, rfl, ?_⟩
      have hp2 : upd H p (.lst [.int x, .int y, .int (z + 1)]) p = some (.lst [.int x, .int y, .int (z + 1)]) := upd_same
      refine ⟨_, rfl, p, _, 1, .int y, rfl, rfl, SqL.of hp2, atI_nat (j := 1) rfl, _, rfl, p, _, 2, .int (z + 1), rfl, rfl, SqL.of hp2, atI_nat (j := 2) rfl, _, _, rfl, rfl, .inl ⟨by decide, by decide⟩, _, _, rfl, rfl, _, _, rfl, rfl, ⟨by decide, by decide, ?_⟩, _, _, rfl, rfl, (show (0 : Int) < 2147483647 by decide), ?_⟩
      · have : (y + 39373 * (z + 1)).natAbs < 18446744073709551616 := by omega
        exact this
      · refine ⟨_, rfl, _, rfl, _, _, rfl, rfl, (show (0 : Int) < 40009 by decide), _, _, rfl, rfl, _, _, rfl, rfl, .inr ⟨?_, ?_⟩, _, rfl, p, _, 2, .int (z + 1), rfl, rfl, SqL.of hp2, atI_nat (j := 2) rfl, _, _, rfl, rfl, .inr ⟨by decide, by decide⟩, _, _, rfl, rfl, _, _, rfl, rfl, (show (0 : Int) < 2147483629 by decide), _, _, rfl, rfl, ⟨by decide, by decide⟩, _, rfl, _, _, rfl, rfl, hm, ?_⟩
        · have h1 := Int.emod_nonneg ((y + 39373 * (z + 1)) ^ 5 % 2147483647) (b := 40009) (by decide)
          have : -18446744073709551616 < ((y + 39373 * (z + 1)) ^ 5 % 2147483647) % 40009 + 7 := by omega
          exact this
        · have h1 := Int.emod_lt_of_pos ((y + 39373 * (z + 1)) ^ 5 % 2147483647) (b := 40009) (by decide)
          have : ((y + 39373 * (z + 1)) ^ 5 % 2147483647) % 40009 + 7 < 18446744073709551616 := by omega
          exact this
        · exact q _ _ But.upd ⟨x, y, z + 1, hp2, hx, hy, hy2, by omega, by omega⟩ (Int.emod_nonneg _ (by omega)) (Int.emod_lt_of_pos _ hm)
theorem okTakeD (T : Tx K mg) : FnOk P w K mg base CX0 1 (He.ga K "_law_take") T.fdLTake ["_law_box_here", "_law_many"] (spD K 2 wTake) := (okLTake T).imp fun vs H Q E h => take_imp h

end
section
variable {P : Program} {w : World} {K : PySem.W.Frag} {mg : Str → Option Value} {base : Heap}
local macro_rules | `(tactic| get_elem_tactic_trivial) => `(tactic| (repeat first | exact Wk.nil | exact Wk'.nil | refine Wk.same ?_ | refine Wk'.same ?_ | refine Wk.un (fun _ z => nomatch z) ?_ | refine Wk'.un ?_))
theorem okStartErrorInit (T : Tx K mg) : FnOk P w K mg base CX0 1 (He.ma K (He.ga K "StartError") "__init__") T.fdStartErrorInit ["self", "what"] (spInitE K) := by
  have B := T.B
  refine T.FStartErrorInit.ok scStartErrorInit (fun vs H Q E h => ?_) (fun cdv A outer s H vs Q E hr h => ?_)
  · obtain ⟨a, C, fI, v, rfl, _⟩ := h
    rfl
  · obtain ⟨a, C, fI, v, rfl, ha, T1, q⟩ := h
    refine ⟨_, PSs.nox (pss_one (ps_ost (pv 0) (pv 1))), ?_⟩
    refine ⟨_, rfl, _, rfl, a, C, rfl, T1.ox, T1.wh, .inl ⟨ha, fun dx hd ne => ?_⟩⟩
    exact q dx hd ne
theorem exRoot (T : Tx K mg) {c : Str} (hc : c ∈ ERRS) : PySem.W.exmOne K (.ref (He.ga K c)) (.ref (He.ga K "StartError")) = some true := by
  rw [err_ex T.er hc (by decide +kernel), decide_eq_true (rfl : ("StartError" : Str) = "StartError"), Bool.or_true]
theorem evNo (T : Tx K mg) {c : Str} (hc : c ∈ ERRS) (es : List Str) (he : ∀ e ∈ es, e ∈ ERRS) (hl : es.length ≤ 100) (hn : (es.any fun e => decide (e = c) || decide (e = ("StartError" : Str))) = false) : IsEvs K c (es.map fun e => .ref (He.ga K e)) false := by
  have h := isEs T.er hc es he (Nat.le_trans hl (by decide))
  rw [hn] at h
  exact h
theorem evOne (T : Tx K mg) {c e : Str} (hc : c ∈ ERRS) (he : e ∈ ERRS) {b : Bool} (h : (decide (e = c) || decide (e = ("StartError" : Str))) = b) : IsEv K c (.ref (He.ga K e)) b := by
  rw [← h]
  exact isE T.er hc he
theorem evV (T : Tx K mg) {c : Str} (hc : c ∈ ERRS) : IsEv K c (.ty "ValueError") true := isV T.er hc
theorem evW (T : Tx K mg) {c : Str} (hc : c ∈ ERRS) : ∃ fI, ECl K (He.ga K c) fI := ⟨_, err_cl T.er hc⟩

end
section
variable {P : Program} {w : World} {K : PySem.W.Frag} {mg : Str → Option Value} {base : Heap}
local macro_rules | `(tactic| get_elem_tactic_trivial) => `(tactic| (repeat first | exact Wk.nil | exact Wk'.nil | refine Wk.same ?_ | refine Wk'.same ?_ | refine Wk.un (fun _ z => nomatch z) ?_ | refine Wk'.un ?_))
/-! a mixing made: the old layer's promises, told over data -/
def Cop (a b : Int) : Prop := ∀ c : Int, 0 < c → c ∣ a → c ∣ b → c = 1
structure OkMix (w : Option Int) (f : Int) : Prop where
  f1 : 1 ≤ f
  f2 : f ≤ 1000000
  w_ : ∀ n, w = some n → 3 ≤ n ∧ n ≤ 1000000 ∧ Cop f n
def wDt : Option Int → Dt
  | none => .non
  | some n => .int n
abbrev mixD (w : Option Int) (f : Int) : Dt := .obj "Mixing" ["width", "factor"] [wDt w, .int f]
namespace OlN
end OlN

end
section
variable {P : Program} {w : World} {K : PySem.W.Frag} {mg : Str → Option Value} {base : Heap}
local macro_rules | `(tactic| get_elem_tactic_trivial) => `(tactic| (repeat first | exact Wk.nil | exact Wk'.nil | refine Wk.same ?_ | refine Wk'.same ?_ | refine Wk.un (fun _ z => nomatch z) ?_ | refine Wk'.un ?_))
/-! str(x) and repr(x) of a thing with an own __str__, an own __repr__ -/
section
variable {prog : Program} {w : World} {A : Around} {E : Value → Shared → Prop} {s : Shared} {x C f : Addr} {ox : Obj} {od : Option Obj} {K : PySem.W.Frag}
theorem kro_call {Q : Value → Shared → Prop} (hu : A.units + 1 < cLine) (X : K.In s.heap) (I : PySem.W.InstAt s.heap x ox C od) (hs : PySem.W.findIn K (.ref C) "__repr__" = some (some (.ref f))) (hf : PySem.W.isFn K (.ref f) = true)
    (h : wpAny (model prog w) A.in1 (call (.ref f) [.ref x]) (PySem.W.StrBack Q) E s) : wpAny (model prog w) A (call (.builtin "repr") [.ref x]) Q E s := by
  refine Calls.call_function_entry F.kind_repr F.plain_repr F.entry_repr (F.args_repr1 _) ?_
  unfold Builtin.«repr»
  refine wpAny_bind (m := oneArg "repr" _) (wpAny_pure ?_)
  refine wpAny_bind (m := cRoomFor _ _) (wpAny_cRoomFor (by show A.units + 1 < cLine; exact hu) ?_)
  have one : wpAny (model prog w) A.in1 (specialOf (.ref x) (Str.ofString "__repr__")) (fun r s' => r = some (.ref f) ∧ s' = s) E s := by
    unfold specialOf
    exact wpAny_bind (I.type.here ((PySem.W.looks_findIn X hs).here ⟨rfl, rfl⟩))
  refine wpAny_bind (wpAny_mono one (fun r s' z => ?_) fun _ _ e => e)
  obtain ⟨rfl, rfl⟩ := z
  show wpAny (model prog w) A.in1 (callSpecialIfBound? (.ref x) (Str.ofString "__repr__") >>= _) _ E s'
  refine wpAny_bind (PySem.W.ifBound_K X I hs hf (wpAny_mono h (fun v s1 hv => ?_) fun _ _ e => e))
  cases v <;> first | exact hv.elim | skip
  rename_i y u
  refine wpAny_bind (wpAny_isInstance (T := "str") (b := true) rfl isSubtype_str_str ?_)
  exact wpAny_pure ⟨_, rfl, hv⟩
end
def rStrOwn (C : Addr) (sp : Sp) : List V → Hp → VK → Prop := fun xs H Q => ∃ a dx fs, xs = [V.ref a] ∧ H a = some (.ins C dx fs) ∧ sp [.ref a] H (fun v G => ∃ t, v = .str t ∧ Q (.str t) G) E0
theorem cStrOwn {X : Cx} {C f : Addr} {fd : FuncData} {ps : List Str} {n : Nat} {sp : Sp} (M : Meth X.K C "__str__" f)
    (F : FnOk X.prog X.w X.K X.mg X.base CX0 n f fd ps sp) (hb : Binds X.K fd ps []) (hr : Room (n + 2) X.A) : CallR X (.type "str") (rStrOwn C sp) := by
  intro pins s σ H xs us Q I r h
  obtain ⟨a, dx, fs, rfl, ha, hsp⟩ := h
  obtain ⟨u, rfl, ru⟩ := r.one
  cases (show u = Value.ref a from ru)
  obtain ⟨mA, J, _⟩ := ins_get I.hok ha
  obtain ⟨od, J, _⟩ := J.look
  have hr2 : Room n X.A.in1.in1 := (show Room (n + 1) X.A.in1 from Room.in1 hr).in1
  refine PySem.W.kso_call (by have := hr2.units; omega) I.kIn J M.at_ M.fn ?_
  have hl := F.len _ _ _ _ hsp
  have r1 : Vals [V.ref a] [Value.ref a] := .cons rfl .nil
  refine wpAny_call (codeAny_mono (F.run X.A.in1.in1 X.stack s H ⟨[.ref a], []⟩ [.ref a] [.ref a] _ E0 hr2 I.env0.in1.in1 (by
    have := hb s [.ref a] I.kIn (by simpa using hl)
    simpa using this) r1 hsp) fun r s' hq => ?_)
  cases r with
  | error e => exact False.elim hq
  | ok fl =>
    cases fl with
    | ret w =>
      obtain ⟨z, H', I', rz, t, ez, q⟩ := I.after hq
      subst ez
      obtain ⟨u, e⟩ := (show ∃ u, w = Value.str t u from rz)
      cases e
      exact ⟨.str t, H', I', ⟨u, rfl⟩, q⟩
    | next => exact False.elim hq
    | brk => exact False.elim hq
    | cont => exact False.elim hq
def rReprOwn (C : Addr) (sp : Sp) : List V → Hp → VK → Prop := fun xs H Q => ∃ a dx fs, xs = [V.ref a] ∧ H a = some (.ins C dx fs) ∧ sp [.ref a] H (fun v G => ∃ t, v = .str t ∧ Q (.str t) G) E0
theorem cReprOwn {X : Cx} {C f : Addr} {fd : FuncData} {ps : List Str} {n : Nat} {sp : Sp} (M : Meth X.K C "__repr__" f)
    (F : FnOk X.prog X.w X.K X.mg X.base CX0 n f fd ps sp) (hb : Binds X.K fd ps []) (hr : Room (n + 1) X.A) : CallR X (.builtin "repr") (rReprOwn C sp) := by
  intro pins s σ H xs us Q I r h
  obtain ⟨a, dx, fs, rfl, ha, hsp⟩ := h
  obtain ⟨u, rfl, ru⟩ := r.one
  cases (show u = Value.ref a from ru)
  obtain ⟨mA, J, _⟩ := ins_get I.hok ha
  obtain ⟨od, J, _⟩ := J.look
  have hr2 : Room n X.A.in1 := Room.in1 hr
  refine kro_call (by have : X.A.in1.units < cLine := by have := hr2.units; omega
                      exact this) I.kIn J M.at_ M.fn ?_
  have hl := F.len _ _ _ _ hsp
  have r1 : Vals [V.ref a] [Value.ref a] := .cons rfl .nil
  refine wpAny_call (codeAny_mono (F.run X.A.in1 X.stack s H ⟨[.ref a], []⟩ [.ref a] [.ref a] _ E0 hr2 I.env0.in1 (by
    have := hb s [.ref a] I.kIn (by simpa using hl)
    simpa using this) r1 hsp) fun r s' hq => ?_)
  cases r with
  | error e => exact False.elim hq
  | ok fl =>
    cases fl with
    | ret w =>
      obtain ⟨z, H', I', rz, t, ez, q⟩ := I.after hq
      subst ez
      obtain ⟨u, e⟩ := (show ∃ u, w = Value.str t u from rz)
      cases e
      exact ⟨.str t, H', I', ⟨u, rfl⟩, q⟩
    | next => exact False.elim hq
    | brk => exact False.elim hq
    | cont => exact False.elim hq
def fShowOwn (c : Str) (wf : WF) : Dt → (Dt → Prop) → Prop := fun d Φ => (∃ ns ds, d = .obj c ns ds) ∧ wf [.dat d] fun r _ => ∃ t, r = .dat (.str t) ∧ Φ (.str t)
theorem show_run {C H : Hp} {σ : L2.St} {B : Bs} {ρ : List Sl} {c : Str} {wf : WF} {v : V} {d : Dt} {Q : VK} {Φ : Dt → Prop} (S : Sep K B C H σ ρ) (hv : Rt K C H v d) (h : fShowOwn c wf d Φ) (k : ∀ C' G v d, Sep K B C' G σ ρ → Same C C' → Rp K C' v d → Φ d → Q v G) :
    ∃ a dx fs, [v] = [V.ref a] ∧ H a = some (.ins (He.ga K c) dx fs) ∧ spD K 1 wf [.ref a] H (fun v G => ∃ t, v = .str t ∧ Q (.str t) G) E0 := by
  obtain ⟨⟨ns, ds, rfl⟩, h⟩ := h
  have rx : Rp K C v (.obj c ns ds) := by
    rcases hv with hx | ⟨_, _, _, _, e, _⟩
    · exact hx
    · cases e
  cases id rx with
  | obj a1 a2 a3 a4 =>
    refine ⟨_, _, _, rfl, S.cold _ _ a1, rfl, C, none, _, _, sep_dats S (.cons rx .nil), h, fun C' G v r ps' S' ok z => ?_⟩
    obtain ⟨t, rfl, z⟩ := z
    cases ok
    exact ⟨t, rfl, k C' G _ (.str t) (S.after S') S'.grow (.str _) z⟩
instance sb_strOwn {c : Str} {wf : WF} : Sb1 K (rStrOwn (He.ga K c) (spD K 1 wf)) (fShowOwn c wf) where
  run B C H σ ρ v d Q Φ S hv h k := show_run S hv h k
instance sb_reprOwn {c : Str} {wf : WF} : Sb1 K (rReprOwn (He.ga K c) (spD K 1 wf)) (fShowOwn c wf) where
  run B C H σ ρ v d Q Φ S hv h k := show_run S hv h k
/-! x == y by an own ==, y anything -/
def rEqAny (K : PySem.W.Frag) (C : Addr) (sp : Sp) : R2 := fun x y H Q => ∃ a dx fs t, x = .ref a ∧ H a = some (.ins C dx fs) ∧ TyX K H y t ∧ PySem.W.notFirst K C t = true ∧ sp [x, y] H (fun v G => ∃ b, v = .bl b ∧ Q (.bl b) G) E0
theorem opEqAny {X : Cx} {K : PySem.W.Frag} (hK : X.K = K) {C f : Addr} {fd : FuncData} {ps : List Str} {n : Nat} {sp : Sp} (M : Meth K C "__eq__" f)
    (F : FnOk X.prog X.w K X.mg X.base CX0 n f fd ps sp) (hb : Binds K fd ps []) (hr : Room n X.A) : OpR X (compareOp .Eq) (rEqAny K C sp) := by
  subst hK
  intro pins s σ H x y v u Q I rx ry hq
  obtain ⟨a, dx, fs, t, rfl, ha, ty, hn, hsp⟩ := hq
  show wpAny (model X.prog X.w) X.A (richCompare .Eq v u) (EP X pins σ Q) X.xe s
  cases rx
  obtain ⟨P, kx, hP, _⟩ := kit_of I ry ty
  obtain ⟨mA, J, _⟩ := ins_get I.hok ha
  obtain ⟨od, J, _⟩ := J.look
  obtain ⟨m, hF⟩ := I.fr
  refine PySem.W.cmp_K (op := .Eq) (tb := t) hr.units0 hF I.ok.mod.kin J (kx.ty _ _ I.kIn hP) hn M.at_ M.fn ?_
  have hl := F.len _ _ _ _ hsp
  have r2 : Vals [V.ref a, y] [Value.ref a, u] := .cons rfl (.cons ry .nil)
  refine wpAny_call (codeAny_mono (F.run X.A X.stack s H ⟨[.ref a, u], []⟩ [.ref a, u] [.ref a, y] _ E0 hr I.env0 (by
    have := hb s [.ref a, u] I.kIn (by simpa using hl)
    simpa using this) r2 hsp) fun r s' hq => ?_)
  cases r with
  | error e => exact False.elim hq
  | ok fl =>
    cases fl with
    | ret w =>
      obtain ⟨z, H', I', rz, t, ez, q⟩ := I.after hq
      subst ez
      cases rz
      exact ⟨.bl t, H', I', rfl, q⟩
    | next => exact False.elim hq
    | brk => exact False.elim hq
    | cont => exact False.elim hq
theorem notFirst_of {C : Addr} {t : Value} {b : Bool} (e : PySem.W.kitOne K t (.ref C) = some b) (h : b = true → t = .ref C) : PySem.W.notFirst K C t = true := by
  unfold PySem.W.notFirst
  unfold PySem.W.kitOne at e
  split at e
  · next q => rw [q]; rfl
  · next q =>
    cases b with
    | true => exact absurd (by rw [h rfl]; exact beq_self_eq_true _) q
    | false =>
      unfold PySem.W.kitCls at e
      dsimp only at e
      split at e
      · rw [e, Bool.or_eq_true]
        exact .inr rfl
      · cases e
def oEqAny (c : Str) (wf : WF) : Dt → Dt → (Dt → Prop) → Prop := fun dx dy Φ => (∃ ns ds, dx = .obj c ns ds) ∧ obK c dy (wf [.dat dx, .dat dy] fun r _ => ∃ t, r = .dat (.bl t) ∧ Φ (.bl t))
instance so_eqAny {c : Str} {wf : WF} [io : IsA K c] : So K (rEqAny K (He.ga K c) (spD K 2 wf)) (oEqAny c wf) where
  run B C H σ ρ x y dx dy Q Φ S hx hy h k := by
    obtain ⟨⟨ns, ds, rfl⟩, h⟩ := h
    have rx : Rp K C x (.obj c ns ds) := by
      rcases hx with hx | ⟨_, _, _, _, e, _⟩
      · exact hx
      · cases e
    have ryH : Rp K H y dy := by
      rcases hy with hy | ⟨a, vs, ds, rfl, rfl, ha, r⟩
      · exact hy.same S.cold
      · exact .lst ha (r.same S.cold)
    have ty : (∃ t : Value, TyX K H y t ∧ PySem.W.notFirst K (He.ga K c) t = true) ∧ wf [.dat (.obj c ns ds), .dat dy] fun r _ => ∃ t, r = .dat (.bl t) ∧ Φ (.bl t) := by
      cases dy with
      | obj c' ns' ds' =>
        obtain ⟨rfl, h⟩ := h
        rcases hy with r | ⟨_, _, _, _, e, _⟩
        · cases r with
          | obj b1 b2 b3 b4 => exact ⟨⟨_, .base (.ins (S.cold _ _ b1) io.cl io.fs.ha io.fs.hn io.fs.ht io.fs.hm), notFirst_of kit_same (fun _ => rfl)⟩, h⟩
        · cases e
      | err _ _ => exact h.elim
      | adr _ => exact h.elim
      | dic _ _ => exact h.elim
      | _ => exact ⟨⟨_, kind_ty S hy rfl, notFirst_of (io.of (by decide)) (fun z => nomatch z)⟩, h⟩
    obtain ⟨⟨t, ty, hn⟩, h⟩ := ty
    cases id rx with
    | obj a1 a2 a3 a4 =>
      refine ⟨_, _, _, t, rfl, S.cold _ _ a1, ty, hn, rfl, H, none, _, _, sep_dats S.cooled (.cons (rx.same S.cold) (.cons ryH .nil)), h, fun C' G v r ps' S' ok z => ?_⟩
      obtain ⟨t, rfl, z⟩ := z
      cases ok
      exact ⟨t, rfl, k C G _ (.bl t) (S.same (S'.grow.trans S'.cold)) (Same.refl _) (.bl _) z⟩

end
section
variable {P : Program} {w : World} {K : PySem.W.Frag} {mg : Str → Option Value} {base : Heap}
local macro_rules | `(tactic| get_elem_tactic_trivial) => `(tactic| (repeat first | exact Wk.nil | exact Wk'.nil | refine Wk.same ?_ | refine Wk'.same ?_ | refine Wk.un (fun _ z => nomatch z) ?_ | refine Wk'.un ?_))
/-! a raising def where it does not raise -/
def wfN3 (wf : W3F) : W3F := fun ps μ Ψ _ => wf ps μ Ψ noX3
theorem sp3_calm {n : Nat} {wf : W3F} {vs : List V} {H : Hp} {Q : VK} {E E2 : XK} (h : sp3 K n (wfN3 wf) vs H Q E) : sp3 K n wf vs H Q E2 := by
  obtain ⟨hl, C, U, bx, ps, μ, m, Ψ, Ξ, S, e, M, hU, hf, k, kx⟩ := h
  exact ⟨hl, C, U, bx, ps, μ, m, Ψ, noX3, S, e, M, hU, hf, k, fun C' G cls dd c d ps' μ' _ _ z => False.elim z⟩
theorem FnOk.calm3 {k : Nat} {f : Addr} {fd : FuncData} {ps : List Str} {n : Nat} {wf : W3F} (F : FnOk P w K mg base (L2N.CX P w) k f fd ps (sp3 K n wf)) : FnOk P w K mg base CX0 k f fd ps (sp3 K n (wfN3 wf)) := by
  refine ⟨fun vs H Q E h => F.len vs H Q (fun _ _ _ => False) (sp3_calm (E := E) h), fun A outer s H args us vs Q E hr h0 b r h => codeAny_mono (F.run A outer s H args us vs Q (fun _ _ _ => False) hr h0 b r (sp3_calm (E := E) h)) fun r s' q => ?_⟩
  cases r with
  | ok fl => cases fl <;> exact q
  | error e =>
    obtain ⟨a, B, H', cls, d, e1, fl, rest⟩ := q
    exact rest.2.2.2.2.2.elim
/-! a value of either kind is taken as read -/

end
section
variable {P : Program} {w : World} {K : PySem.W.Frag} {mg : Str → Option Value} {base : Heap}
local macro_rules | `(tactic| get_elem_tactic_trivial) => `(tactic| (repeat first | exact Wk.nil | exact Wk'.nil | refine Wk.same ?_ | refine Wk'.same ?_ | refine Wk.un (fun _ z => nomatch z) ?_ | refine Wk'.un ?_))
/-! plain texts -/
theorem app_len (x y : Str) : (x ++ y).length = x.length + y.length := by
  show (x.cps ++ y.cps).size = x.cps.size + y.cps.size
  simp
theorem len_int {i : Int} {k : Nat} (hk : 0 < k) (h : i.natAbs < 10 ^ k) : (Str.ofString (toString i)).length ≤ k + 1 := by
  rw [PySem.ofString_length]
  exact int_text_length_le10 hk h


end
section
variable {P : Program} {w : World} {K : PySem.W.Frag} {mg : Str → Option Value} {base : Heap}
local macro_rules | `(tactic| get_elem_tactic_trivial) => `(tactic| (repeat first | exact Wk.nil | exact Wk'.nil | refine Wk.same ?_ | refine Wk'.same ?_ | refine Wk.un (fun _ z => nomatch z) ?_ | refine Wk'.un ?_))
/-! widths and factors, anything -/
def widD : Dt → Bool
  | .non => true
  | .int i => decide (3 ≤ i) && decide (i ≤ 1000000)
  | _ => false
def wB (f : Dt → Bool) : WF := fun ps Ψ => ∃ d : Dt, ps = [.dat d] ∧ Nice 60 8000 d ∧ Ψ (.dat (.bl (f d))) ps
def isNumD : Dt → Bool
  | .int _ => true
  | _ => false
def facD (d w : Dt) : Bool := match d with
  | .int f => decide (1 ≤ f) && decide (f ≤ 1000000) && match w with
    | .int n => decide (Int.gcd f n = 1)
    | _ => true
  | _ => false
theorem gcd_mod (x y : Int) : Int.gcd y (x % y) = Int.gcd x y := by
  rw [Int.gcd_comm x y]
  refine Nat.dvd_antisymm ?_ ?_
  · refine Int.dvd_coe_gcd (Int.gcd_dvd_left ..) ?_ |> Int.ofNat_dvd.mp
    have h : ((Int.gcd y (x % y) : Nat) : Int) ∣ y * (x / y) + x % y := Int.dvd_add (Int.dvd_trans (Int.gcd_dvd_left ..) (Int.dvd_mul_right _ _)) (Int.gcd_dvd_right ..)
    rw [Int.mul_ediv_add_emod x y] at h
    exact h
  · refine Int.dvd_coe_gcd (Int.gcd_dvd_left ..) ?_ |> Int.ofNat_dvd.mp
    have e := Int.mul_ediv_add_emod x y
    have e2 : x % y = x - y * (x / y) := by omega
    rw [e2]
    exact Int.dvd_sub (Int.gcd_dvd_right ..) (Int.dvd_trans (Int.gcd_dvd_left ..) (Int.dvd_mul_right _ _))
namespace Mx
theorem okIsNumber (T : Tx K mg) : FnOk P w K mg base CX0 1 (He.ga K "is_number") T.fdIsNumber ["thing"] (spD K 1 (wB isNumD)) := by
  have B := T.B
  refine T.FIsNumber.ok scIsNumber (fun vs H Q E h => h.1) (fun cdv A outer s H vs Q E hr h => ?_)
  refine ⟨_, PSs.nox (pss_one (ps_ret (pe_and (pe_callB (show CallR _ _ (rIsi K) from call_isi) (by rfl) B.b_isinstance boot_isinstance (pa_cons (pv 0) (pa_cons (pe_bltn (v := .ty "int") (by rfl) B.b_int PyProof.Rows.boot_int rfl) pa_nil))) (pe_one (pe_not (pe_callB (show CallR _ _ (rIsi K) from call_isi) (by rfl) B.b_isinstance boot_isinstance (pa_cons (pv 0) (pa_cons (pe_bltn (v := .ty "bool") (by rfl) B.b_bool PyProof.Rows.boot_bool rfl) pa_nil)))))))), ?_⟩
  refine bodyD h (fun ps Ψ hw hl => ?_)
  obtain ⟨d, rfl, hn, q⟩ := hw
  cases d with
  | obj c ns ds => exact nomatch hn.pu
  | err c d => exact nomatch hn.pu
  | adr a_ => exact nomatch hn.pu
  | dic _ _ => exact nomatch hn.pu
  | _ => exact q
theorem okIsWidth (T : Tx K mg) : FnOk P w K mg base CX0 2 (He.ga K "is_width") T.fdIsWidth ["thing"] (spD K 1 (wB widD)) := by
  have B := T.B
  have GIsNumber : FnOk P w K mg base CX0 1 (He.ga K "is_number") T.fdIsNumber ["thing"] (spD K 1 (wB isNumD)) := okIsNumber T
  have bIsNumber := T.bIsNumber
  refine T.FIsWidth.ok scIsWidth (fun vs H Q E h => h.1) (fun cdv A outer s H vs Q E hr h => ?_)
  refine ⟨_, PSs.nox (pss_one (ps_ret (pe_or (pe_cmpR (show OpR _ _ rIsNone from op_isN) (pv 0) pe_non (nomark _)) (pe_one (pe_and (pe_call GIsNumber (hr.mono (by decide)) (by rfl) T.gIsNumber T.FIsNumber.kp bIsNumber .nil pass0 (pa_cons (pv 0) pa_nil)) (pe_one (pe_chain op_le op_le (pe_glob (v := .int 3) (by rfl) T.c_LEAST_WIDTH.choose_spec ⟨_, rfl⟩) (pv 0) (pe_glob (v := .int 1000000) (by rfl) T.c_GREATEST.choose_spec ⟨_, rfl⟩)))))))), ?_⟩
  refine bodyD h (fun ps Ψ hw hl => ?_)
  obtain ⟨d, rfl, hn, q⟩ := hw
  cases d with
  | int i =>
    have q2 : Ψ (.dat (.bl (decide (3 ≤ i) && decide (i ≤ 1000000)))) [.dat (.int i)] := q
    refine ⟨rfl, rfl, _, rfl, hn, ?_⟩
    by_cases h0 : 3 ≤ i
    · rw [decide_eq_true h0] at q2
      exact ifT (decide_eq_true h0) q2
    · rw [decide_eq_false h0] at q2
      exact ifF (decide_eq_false h0) q2
  | non => exact ⟨rfl, q⟩
  | bl b => exact ⟨rfl, rfl, _, rfl, hn, q⟩
  | str b => exact ⟨rfl, rfl, _, rfl, hn, q⟩
  | lst b => exact ⟨rfl, rfl, _, rfl, hn, q⟩
  | tup b => exact ⟨rfl, rfl, _, rfl, hn, q⟩
  | scr b => exact ⟨rfl, rfl, _, rfl, hn, q⟩
  | obj c ns ds => exact nomatch hn.pu
  | err c d => exact nomatch hn.pu
  | adr a_ => exact nomatch hn.pu
  | dic _ _ => exact nomatch hn.pu
def wDiv : WF := fun ps Ψ => ∃ a b : Int, ps = [.dat (.int a), .dat (.int b)] ∧ 0 < a ∧ a ≤ 1000000 ∧ 0 ≤ b ∧ b ≤ 1000000 ∧ Ψ (.dat (.int (Int.gcd a b : Nat))) ps
theorem okCommonDivisor (T : Tx K mg) : FnOk P w K mg base CX0 1 (He.ga K "common_divisor") T.fdCommonDivisor ["number", "other"] (spD K 2 wDiv) := by
  have B := T.B
  refine T.FCommonDivisor.ok scCommonDivisor (fun vs H Q E h => h.1) (fun cdv A outer s H vs Q E hr h => ?_)
  refine ⟨_, PSs.nox (pss_cons (ps_while PassesOwn.never (pt_cmpR (opNeA (K := K) rfl hr.units) (pv 1) pe_int (nomark _))
        (pss_one (ps_par (i := 0) (j := 1) (by rfl) scCommonDivisor.nd rfl rfl (by decide) rfl rfl (pa_cons (pv 1) (pa_cons (pe_op op_mod (pv 0) (pv 1)) pa_nil)) (by rfl))))
        (pss_one (ps_ret (pv 0)))), ?_⟩
  refine bodyD h (fun ps Ψ hw hl => ?_)
  obtain ⟨a, b, rfl, a0, a1, b0, b1, q⟩ := hw
  refine ⟨fun n ρ => ∃ x y : Int, ρ = [.dat (.int x), .dat (.int y)] ∧ 0 < x ∧ x ≤ 1000000 ∧ 0 ≤ y ∧ y ≤ 1000000 ∧ Int.gcd x y = Int.gcd a b ∧ n = y.toNat, ⟨_, To.of ⟨a, b, rfl, a0, a1, b0, b1, rfl, rfl⟩ (by get_elem_tactic_trivial)⟩, ?_⟩
  rintro n ρ ⟨x, y, rfl, x0, x1, y0, y1, hg, rfl⟩
  by_cases e : y = 0
  · subst e
    have ex : x = ((Int.gcd a b : Nat) : Int) := by
      rw [← hg, Int.gcd_zero_right]
      omega
    rw [← ex] at q
    exact q
  · refine ifT ?_ ?_
    · show (if true = true then !decide (y = 0) else decide (y = 0)) = true
      rw [decide_eq_false e]
      rfl
    · have h1 := Int.emod_nonneg x (b := y) (by omega)
      have h2 := Int.emod_lt_of_pos x (show 0 < y by omega)
      refine ⟨by show 0 < y; omega, (x % y).toNat, by show (x % y).toNat < y.toNat; omega, To.of ⟨y, x % y, rfl, by omega, y1, h1, by omega, ?_, rfl⟩ (by get_elem_tactic_trivial)⟩
      rw [← hg]
      exact gcd_mod x y
def wFac : WF := fun ps Ψ => ∃ d w : Dt, ps = [.dat d, .dat w] ∧ Nice 60 8000 d ∧ widD w = true ∧ Ψ (.dat (.bl (facD d w))) ps
theorem okIsFactor (T : Tx K mg) : FnOk P w K mg base CX0 2 (He.ga K "is_factor") T.fdIsFactor ["thing", "width"] (spD K 2 wFac) := by
  have B := T.B
  have GIsNumber : FnOk P w K mg base CX0 1 (He.ga K "is_number") T.fdIsNumber ["thing"] (spD K 1 (wB isNumD)) := okIsNumber T
  have bIsNumber := T.bIsNumber
  have GCommonDivisor : FnOk P w K mg base CX0 1 (He.ga K "common_divisor") T.fdCommonDivisor ["number", "other"] (spD K 2 wDiv) := okCommonDivisor T
  have bCommonDivisor := T.bCommonDivisor
  refine T.FIsFactor.ok scIsFactor (fun vs H Q E h => h.1) (fun cdv A outer s H vs Q E hr h => ?_)
  refine ⟨_, PSs.nox (pss_cons (ps_if (PW.pt (pw_or (pt_not (pt_val (pe_call GIsNumber (hr.mono (by decide)) (by rfl) T.gIsNumber T.FIsNumber.kp bIsNumber .nil pass0 (pa_cons (pv 0) pa_nil)))) (pw_or1 (pt_not (pt_chain op_le op_le pe_int (pv 0) (pe_glob (v := .int 1000000) (by rfl) T.c_GREATEST.choose_spec ⟨_, rfl⟩)))))) (pss_one (ps_ret pe_bl)) pss_nil)
        (pss_one (ps_ret (pe_or (pe_cmpR (show OpR _ _ rIsNone from op_isN) (pv 1) pe_non (nomark _)) (pe_one (pe_cmpR (opEqA (K := K) rfl hr.units) (pe_call GCommonDivisor (hr.mono (by decide)) (by rfl) T.gCommonDivisor T.FCommonDivisor.kp bCommonDivisor .nil pass0 (pa_cons (pv 0) (pa_cons (pv 1) pa_nil))) pe_int (nomark _))))))), ?_⟩
  refine bodyD h (fun ps Ψ hw hl => ?_)
  obtain ⟨d, w, rfl, hn, hw, q⟩ := hw
  cases d with
  | int f =>
    refine ⟨rfl, _, rfl, hn, ?_⟩
    by_cases h : 1 ≤ f ∧ f ≤ 1000000
    · refine ifT (decide_eq_true h.1) (ifF ?_ ?_)
      · show (!decide (f ≤ 1000000)) = false
        rw [decide_eq_true h.2]
        rfl
      cases w with
      | non =>
        have e : facD (.int f) .non = true := by
          show (decide (1 ≤ f) && decide (f ≤ 1000000) && true) = true
          rw [decide_eq_true h.1, decide_eq_true h.2]
          rfl
        rw [e] at q
        exact ⟨rfl, q⟩
      | int n =>
        have hw : (decide (3 ≤ n) && decide (n ≤ 1000000)) = true := hw
        rw [Bool.and_eq_true, decide_eq_true_eq, decide_eq_true_eq] at hw
        have e : facD (.int f) (.int n) = decide (((Int.gcd f n : Nat) : Int) = 1) := by
          show (decide (1 ≤ f) && decide (f ≤ 1000000) && decide (Int.gcd f n = 1)) = _
          rw [decide_eq_true h.1, decide_eq_true h.2]
          exact decide_eq_decide.mpr (by omega)
        rw [e] at q
        exact ⟨rfl, rfl, f, n, rfl, by omega, h.2, by omega, hw.2, q⟩
      | _ => exact Bool.noConfusion (show false = true from hw)
    · have e : facD (.int f) w = false := by
        have z : (decide (1 ≤ f) && decide (f ≤ 1000000)) = false := by
          cases e : (decide (1 ≤ f) && decide (f ≤ 1000000)) with
          | false => rfl
          | true =>
            rw [Bool.and_eq_true, decide_eq_true_eq, decide_eq_true_eq] at e
            exact absurd e h
        show (decide (1 ≤ f) && decide (f ≤ 1000000) && _) = false
        rw [z]
        rfl
      rw [e] at q
      by_cases h1 : 1 ≤ f
      · refine ifT (decide_eq_true h1) (ifT ?_ q)
        show (!decide (f ≤ 1000000)) = true
        rw [decide_eq_false (fun z => h ⟨h1, z⟩)]
        rfl
      · exact ifF (decide_eq_false h1) q
  | obj c ns ds => exact nomatch hn.pu
  | err c d => exact nomatch hn.pu
  | adr a_ => exact nomatch hn.pu
  | dic _ _ => exact nomatch hn.pu
  | _ => exact ⟨rfl, _, rfl, hn, q⟩
end Mx
end
section
variable {P : Program} {w : World} {K : PySem.W.Frag} {mg : Str → Option Value} {base : Heap}
local macro_rules | `(tactic| get_elem_tactic_trivial) => `(tactic| (repeat first | exact Wk.nil | exact Wk'.nil | refine Wk.same ?_ | refine Wk'.same ?_ | refine Wk.un (fun _ z => nomatch z) ?_ | refine Wk'.un ?_))
/-! a mixing made of anything, refused or not -/
theorem fldW (T : Tx K mg) : FldOk K "Mixing" "width" := ⟨T.clMixing, T.nMixing_width⟩
theorem fldF (T : Tx K mg) : FldOk K "Mixing" "factor" := ⟨T.clMixing, T.nMixing_factor⟩
def otK : Dt → Bool
  | .obj _ _ _ => false
  | .err _ _ => false
  | .adr _ => false
  | .dic _ _ => false
  | .scr _ => false
  | _ => true
def wMixI3 : W3F := fun ps μ Ψ Ξ => ∃ (a : Addr) (dw df : Dt), ps = [.dat (.adr a), .dat dw, .dat df] ∧ μ = [(a, .fl (.ins "Mixing" [] []))] ∧ Nice 60 8000 dw ∧ Nice 60 8000 df ∧ ((widD dw = false ∧ Ξ "BadMixing" (.str "width") ps μ) ∨ (widD dw = true ∧ facD df dw = false ∧ Ξ "BadMixing" (.str "factor") ps μ) ∨ (widD dw = true ∧ facD df dw = true ∧ Ψ (.dat .non) ps [(a, .fl (.ins "Mixing" ["width", "factor"] [dw, df]))]))
namespace Mx
theorem _root_.Sl.kbAllN {K : PySem.W.Frag} {x qual : Str} {params : Arguments} {body : List Stmt} {scope : Scope} {kws : List (Str × V)} {f : Addr} {fd : FuncData} {ps : List Str} (F : FunD K x qual params body scope [] kws f fd) (n : Nat) (ks : List Str) (is : List Nat)
    (h : ∀ (kV doc pm : Value) (an : Option Addr) (cdv ct : Value) (us ws : List Value), us.length = n → ws.length = ks.length → bindArgs (PySem.W.fnOf x qual params body scope .none kV doc pm an cdv ct) ⟨us, ks.zip ws⟩ = pure (ps.zip (gP is us ws))) :
    ∃ g : List Value → List Value → List Value, KBn K fd ps n ks g (gB is []) := by
  obtain ⟨oc, od, dV, kV, doc, pm, an, cdv, ct, osl, rfl, lk, hcd, hD, hK⟩ := F.ex
  rcases hD with ⟨_, rfl⟩ | ⟨e, _⟩
  · exact ⟨gP is, ⟨fun s us ws _ l1 l2 => .of_eq (h kV doc pm an cdv ct us ws l1 l2), fun r1 r2 => by
      unfold gB
      rw [List.append_nil]
      exact gP_vals is r1 r2⟩⟩
  · exact absurd rfl e

theorem _root_.Sl.Tx.kbIsFactor_2 {K : PySem.W.Frag} {mg : Str → Option Value} (T : Tx K mg) : ∃ g : List Value → List Value → List Value, KBn K T.fdIsFactor ["thing", "width"] 2 [] g (gB [0, 1] []) := kbAllN T.FIsFactor 2 [] [0, 1] fun kV doc pm an cdv ct us ws h1 h2 => match us, ws, h1, h2 with
  | [u0, u1], [], _, _ => rfl
theorem _root_.Sl.Tx.kbIsWidth_1 {K : PySem.W.Frag} {mg : Str → Option Value} (T : Tx K mg) : ∃ g : List Value → List Value → List Value, KBn K T.fdIsWidth ["thing"] 1 [] g (gB [0] []) := kbAllN T.FIsWidth 1 [] [0] fun kV doc pm an cdv ct us ws h1 h2 => match us, ws, h1, h2 with
  | [u0], [], _, _ => rfl
theorem okMixingInit (T : Tx K mg) : FnOk P w K mg base (L2N.CX P w) 3 (He.ma K (He.ga K "Mixing") "__init__") T.fdMixingInit ["self", "width", "factor"] (sp3 K 3 wMixI3) := by
  have B := T.B
  have GIsWidth : FnOk P w K mg base CX0 2 (He.ga K "is_width") T.fdIsWidth ["thing"] _ := FnOk.up3 (Mx.okIsWidth T)
  have bIsWidth := T.bIsWidth
  have GStartErrorInit : FnOk P w K mg base CX0 1 (He.ma K (He.ga K "StartError") "__init__") T.fdStartErrorInit ["self", "what"] (spInitE K) := okStartErrorInit T
  have bStartErrorInit := T.bStartErrorInit
  have GIsFactor : FnOk P w K mg base CX0 2 (He.ga K "is_factor") T.fdIsFactor ["thing", "width"] _ := FnOk.up3 (Mx.okIsFactor T)
  have bIsFactor := T.bIsFactor
  obtain ⟨_, kbIsFactor_2⟩ := T.kbIsFactor_2
  obtain ⟨_, kbIsWidth_1⟩ := T.kbIsWidth_1
  refine T.FMixingInit.ok scMixingInit (fun vs H Q E h => h.1) (fun cdv A outer s H vs Q E hr h => ?_)
  refine ⟨_, (pss_cons (ps_if (pt_not (pt_val (asPE (tCall3 1 0 _ _ _ _ _) (pe_call3 (ks := []) GIsWidth (hr.mono (by decide)) (by rfl) T.gIsWidth T.FIsWidth.kp kbIsWidth_1 (pass0S (fun cls d _ H => E cls d H)) (pa_cons (pv 1) pa_nil) pk_nil)))) (pss_one (ps_raiseD rfl (L2N.takes_of rfl rfl rfl rfl) (pmk_errD (err_cl T.er (c := "BadMixing") (by decide +kernel)) GStartErrorInit (hr.mono (by decide)) bStartErrorInit (by rfl) T.gBadMixing (by exact (pa_cons pe_str pa_nil))))) pss_nil)
        (pss_cons (ps_if (pt_not (pt_val (asPE (tCall3 2 0 _ _ _ _ _) (pe_call3 (ks := []) GIsFactor (hr.mono (by decide)) (by rfl) T.gIsFactor T.FIsFactor.kp kbIsFactor_2 (pass0S (fun cls d _ H => E cls d H)) (pa_cons (pv 2) (pa_cons (pv 1) pa_nil)) pk_nil)))) (pss_one (ps_raiseD rfl (L2N.takes_of rfl rfl rfl rfl) (pmk_errD (err_cl T.er (c := "BadMixing") (by decide +kernel)) GStartErrorInit (hr.mono (by decide)) bStartErrorInit (by rfl) T.gBadMixing (by exact (pa_cons pe_str pa_nil))))) pss_nil)
        (pss_cons (asPS (sFld K _ _ "width") (ps_fld (pv 0) (pv 1) rfl))
        (pss_one (asPS (sFld K _ _ "factor") (ps_fld (pv 0) (pv 2) rfl)))))), ?_⟩
  refine body3 h (fun ps μ Ψ Ξ hw hl => ?_)
  obtain ⟨a, dw, df, rfl, rfl, nw, nf, q⟩ := hw
  refine ⟨⟨rfl, rfl, rfl⟩, [], _, .refl _, dw, rfl, nw, ?_⟩
  rcases q with ⟨e, q⟩ | ⟨e1, e, q⟩ | ⟨e1, e, q⟩
  · exact ifT (by rw [e]; rfl) ⟨"BadMixing", rfl, _, .refl _, q⟩
  · refine ifF (by rw [e1]; rfl) ⟨⟨rfl, rfl, rfl⟩, [], _, .refl _, df, dw, rfl, nf, e1, ?_⟩
    exact ifT (by rw [e]; rfl) ⟨"BadMixing", rfl, _, .refl _, q⟩
  · refine ifF (by rw [e1]; rfl) ⟨⟨rfl, rfl, rfl⟩, [], _, .refl _, df, dw, rfl, nf, e1, ?_⟩
    refine ifF (by rw [e]; rfl) ?_
    refine ⟨0, "Mixing", ([] : List Str), [], rfl, ⟨.inr (fldW T), by decide⟩, _, _, rfl, ?_⟩
    exact ⟨0, "Mixing", (["width"] : List Str), [dw], rfl, ⟨.inr (fldF T), by decide⟩, _, _, rfl, _, .refl _, q⟩
end Mx
end
section
variable {P : Program} {w : World} {K : PySem.W.Frag} {mg : Str → Option Value} {base : Heap}
local macro_rules | `(tactic| get_elem_tactic_trivial) => `(tactic| (repeat first | exact Wk.nil | exact Wk'.nil | refine Wk.same ?_ | refine Wk'.same ?_ | refine Wk.un (fun _ z => nomatch z) ?_ | refine Wk'.un ?_))
/-! mixings alike, and shown -/
def wMixEq : WF := fun ps Ψ => ∃ (w : Option Int) (f : Int) (d : Dt), ps = [.dat (mixD w f), .dat d] ∧ ((∃ (w2 : Option Int) (f2 : Int), d = mixD w2 f2 ∧ Ψ (.dat (.bl (decide (w = w2) && decide (f = f2)))) ps) ∨ (otK d = true ∧ Ψ (.dat (.bl false)) ps))
theorem okMixingEq (T : Tx K mg) : FnOk P w K mg base CX0 1 (He.ma K (He.ga K "Mixing") "__eq__") T.fdMixingEq ["self", "other"] (spD K 2 wMixEq) := by
  have B := T.B
  haveI : IsA K "Mixing" := ⟨T.clMixing, T.is_Mixing, T.io_Mixing⟩
  refine T.FMixingEq.ok scMixingEq (fun vs H Q E h => h.1) (fun cdv A outer s H vs Q E hr h => ?_)
  refine ⟨_, PSs.nox (pss_one (ps_ret (pe_and (pe_callB (show CallR _ _ (rIsi K) from call_isi) (by rfl) B.b_isinstance boot_isinstance (pa_cons (pv 1) (pa_cons (pe_glob (v := .ref (He.ga K "Mixing")) (by rfl) T.gMixing rfl) pa_nil))) (pe_and (pe_cmpR (opEqA (K := K) rfl hr.units) (show PE _ _ (tFld K _ "width") from pe_fld (pv 0) rfl) (show PE _ _ (tFld K _ "width") from pe_fld (pv 1) rfl) (nomark _)) (pe_one (pe_cmpR (opEqA (K := K) rfl hr.units) (show PE _ _ (tFld K _ "factor") from pe_fld (pv 0) rfl) (show PE _ _ (tFld K _ "factor") from pe_fld (pv 1) rfl) (nomark _))))))), ?_⟩
  refine bodyD h (fun ps Ψ hw hl => ?_)
  obtain ⟨w, f, d, rfl, q⟩ := hw
  rcases q with ⟨w2, f2, rfl, q⟩ | ⟨o, q⟩
  · refine ⟨rfl, 0, _, by decide +kernel, rfl, fldW T, 0, _, by decide +kernel, rfl, fldW T, ?_⟩
    cases w with
    | none =>
      cases w2 with
      | none =>
        rw [decide_eq_true rfl, Bool.true_and] at q
        refine ⟨⟨rfl, rfl, rfl, rfl⟩, 1, _, by decide +kernel, rfl, fldF T, 1, _, by decide +kernel, rfl, fldF T, ?_⟩
        exact q
      | some b =>
        rw [decide_eq_false (fun z => nomatch z), Bool.false_and] at q
        exact ⟨⟨rfl, rfl, rfl, rfl⟩, q⟩
    | some a =>
      cases w2 with
      | none =>
        rw [decide_eq_false (fun z => nomatch z), Bool.false_and] at q
        exact ⟨⟨rfl, rfl, rfl, rfl⟩, q⟩
      | some b =>
        by_cases e : a = b
        · rw [decide_eq_true (congrArg some e), Bool.true_and] at q
          refine ifT (eqSame e) ⟨1, _, by decide +kernel, rfl, fldF T, 1, _, by decide +kernel, rfl, fldF T, ?_⟩
          exact q
        · rw [decide_eq_false (fun z => e (Option.some.inj z)), Bool.false_and] at q
          exact ifF (eqDiff e) q
  · cases d <;> first | exact q | exact Bool.noConfusion (show false = true from o)
theorem sum_leP {m : Nat} : ∀ {parts : List Str}, (∀ p ∈ parts, p.length ≤ m) → (parts.map (·.length)).sum ≤ parts.length * m
  | [], _ => Nat.zero_le _
  | p :: r, h => by
    have h1 := h p (List.mem_cons_self ..)
    have h2 := sum_leP (m := m) (parts := r) fun q hq => h q (List.mem_cons_of_mem _ hq)
    rw [List.map_cons, List.sum_cons, List.length_cons, Nat.succ_mul]
    omega
theorem join_lenP {P : List Str} (h : ∀ p ∈ P, p.length ≤ 16) (l : P.length ≤ 2) : (P.map (·.length)).sum + P.length * (Str.ofString ", ").length ≤ 36 ∧ (Txt.join (Str.ofString ", ") P).length ≤ 36 := by
  have h1 := sum_leP h
  have e : (Str.ofString ", ").length = 2 := by decide +kernel
  have h2 := StrLaws.join_length_le (Str.ofString ", ") P
  rw [TL.join_eq]
  rw [e] at h2 ⊢
  omega
def wTx : Option Int → List Str
  | none => []
  | some n => [Str.ofString (toString n)]
def fTx (f : Int) : List Str := if f = 7919 then [] else [(Str.empty ++ Str.ofString "factor=") ++ Str.ofString (toString f)]
def mixTx (w : Option Int) (f : Int) : Str := ((Str.empty ++ Str.ofString "Mixing(") ++ Txt.join (Str.ofString ", ") (wTx w ++ fTx f)) ++ Str.ofString ")"
def wMixRepr : WF := fun ps Ψ => ∃ (w : Option Int) (f : Int), ps = [.dat (mixD w f)] ∧ OkMix w f ∧ Ψ (.dat (.str (mixTx w f))) ps
theorem okMixingRepr (T : Tx K mg) : FnOk P w K mg base CX0 1 (He.ma K (He.ga K "Mixing") "__repr__") T.fdMixingRepr ["self"] (spD K 1 wMixRepr) := by
  have B := T.B
  refine T.FMixingRepr.ok scMixingRepr (fun vs H Q E h => h.1) (fun cdv A outer s H vs Q E hr h => ?_)
  refine ⟨_, PSs.nox (pss_cons (ps_set (i := 1) scMixingRepr.nd rfl (.inl rfl) (pe_lst pa_nil))
        (pss_cons (ps_if (pt_cmpR (show OpR _ _ rNotNone from op_notN) (show PE _ _ (tFld K _ "width") from pe_fld (pv 0) rfl) pe_non (nomark _)) (pss_one (ps_expr (show PE _ _ (tBM K "list" rAppend _ _) from (pe_bm PySem.F.plainAttrs_list PySem.F.slot_list_append PySem.F.type_list_append mt_append (pv 1) (pa_cons (pe_callTy (show CallR _ _ cStrI from call_str_int) (by rfl) B.b_str PyProof.Rows.boot_str (pa_cons (show PE _ _ (tFld K _ "width") from pe_fld (pv 0) rfl) pa_nil)) pa_nil))))) pss_nil)
        (pss_cons (ps_if (pt_cmpR (opNeA (K := K) rfl hr.units) (show PE _ _ (tFld K _ "factor") from pe_fld (pv 0) rfl) (pe_glob (v := .int 7919) (by rfl) T.c_FACTOR.choose_spec ⟨_, rfl⟩) (nomark _)) (pss_one (ps_expr (show PE _ _ (tBM K "list" rAppend _ _) from (pe_bm PySem.F.plainAttrs_list PySem.F.slot_list_append PySem.F.type_list_append mt_append (pv 1) (pa_cons (show PE _ _ (tJoinF _) from peJoinF (.cons pe_str (.cons (show PE _ _ (tFmt _) from pe_fmt (show PE _ _ (tFld K _ "factor") from pe_fld (pv 0) rfl)) .nil))) pa_nil))))) pss_nil)
        (pss_one (ps_ret (show PE _ _ (tJoinF _) from peJoinF (.cons pe_str (.cons (show PE _ _ (tFmt _) from pe_fmt (show PE _ _ (tM1 (cJoin K) _ _) from pe_join pe_str (pv 1))) (.cons pe_str .nil))))))))), ?_⟩
  refine bodyD h (fun ps Ψ hw hl => ?_)
  obtain ⟨w, f, rfl, ok, q⟩ := hw
  refine ⟨by show 0 ≤ sizeLine; decide, 0, _, by decide +kernel, rfl, fldW T, ?_⟩
  have sz : sizeLine = 16777216 := by decide
  have lg : ∀ i : Int, i.natAbs < 2 ^ 40 → i.natAbs.log2 < 1920 := fun i h => by
    by_cases e : i.natAbs = 0
    · rw [e]; decide
    · have : i.natAbs.log2 < 40 := (Nat.log2_lt e).mpr h
      omega
  have lf : f.natAbs.log2 < 1920 := lg f (by have := ok.f1; have := ok.f2; omega)
  have tf : (Str.ofString (toString f)).length ≤ 8 := len_int (k := 7) (by decide) (by have := ok.f1; have := ok.f2; omega)
  have k7 : (Str.empty ++ Str.ofString "Mixing(").length = 7 := by decide +kernel
  have k1 : (Str.ofString ")").length = 1 := by decide +kernel
  have kf : (Str.empty ++ Str.ofString "factor=").length = 7 := by decide +kernel
  have lF : ((Str.empty ++ Str.ofString "factor=") ++ Str.ofString (toString f)).length ≤ 15 := by rw [app_len, kf]; omega
  have fin : ∀ P : List Str, (∀ p ∈ P, p.length ≤ 16) → P.length ≤ 2 → (P.map (·.length)).sum + P.length * (Str.ofString ", ").length ≤ 16777216 ∧ (Txt.join (Str.ofString ", ") P).length ≤ sizeLine ∧ ((Str.empty ++ Str.ofString "Mixing(") ++ Txt.join (Str.ofString ", ") P).length ≤ sizeLine ∧ (((Str.empty ++ Str.ofString "Mixing(") ++ Txt.join (Str.ofString ", ") P) ++ Str.ofString ")").length ≤ sizeLine := fun P h l => by
    obtain ⟨j1, j2⟩ := join_lenP h l
    have a1 : ((Str.empty ++ Str.ofString "Mixing(") ++ Txt.join (Str.ofString ", ") P).length = 7 + (Txt.join (Str.ofString ", ") P).length := by rw [app_len (Str.empty ++ Str.ofString "Mixing("), k7]
    have a2 := app_len ((Str.empty ++ Str.ofString "Mixing(") ++ Txt.join (Str.ofString ", ") P) (Str.ofString ")")
    rw [k1] at a2
    rw [sz]
    omega
  have k7s : (Str.empty ++ Str.ofString "Mixing(").length ≤ sizeLine := by rw [k7, sz]; decide
  cases w with
  | none =>
    refine ⟨rfl, 1, _, by decide +kernel, rfl, fldF T, ?_⟩
    by_cases e : f = 7919
    · refine ifF (by rw [if_pos rfl, decide_eq_true e]; rfl) ?_
      obtain ⟨j1, j2, j3, j4⟩ := fin [] (fun p z => nomatch z) (by decide)
      have q : Ψ (.dat (.str (((Str.empty ++ Str.ofString "Mixing(") ++ Txt.join (Str.ofString ", ") []) ++ Str.ofString ")"))) [.dat (mixD none f)] := by
        unfold mixTx fTx at q
        rw [if_pos e] at q
        exact q
      exact ⟨k7s, [], rfl, j1, j2, j3, j4, q⟩
    · refine ifT (by rw [if_pos rfl, decide_eq_false e]; rfl) ?_
      obtain ⟨j1, j2, j3, j4⟩ := fin [(Str.empty ++ Str.ofString "factor=") ++ Str.ofString (toString f)] (fun p z => by rw [List.mem_singleton.mp z]; omega) (by show 1 ≤ 2; decide)
      have q : Ψ (.dat (.str (((Str.empty ++ Str.ofString "Mixing(") ++ Txt.join (Str.ofString ", ") [(Str.empty ++ Str.ofString "factor=") ++ Str.ofString (toString f)]) ++ Str.ofString ")"))) [.dat (mixD none f)] := by
        unfold mixTx fTx at q
        rw [if_neg e] at q
        exact q
      exact ⟨by rw [kf, sz]; decide, 1, _, by decide +kernel, rfl, fldF T, lf, by omega, by show 0 < sizeLine; decide, k7s, _, rfl, j1, j2, j3, j4, q⟩
  | some n =>
    obtain ⟨n3, n6, -⟩ := ok.w_ n rfl
    have ln : n.natAbs.log2 < 1920 := lg n (by omega)
    have tn : (Str.ofString (toString n)).length ≤ 8 := len_int (k := 7) (by decide) (by omega)
    refine ⟨rfl, 0, _, by decide +kernel, rfl, fldW T, ln, by show 0 < sizeLine; decide, 1, _, by decide +kernel, rfl, fldF T, ?_⟩
    by_cases e : f = 7919
    · refine ifF (by rw [if_pos rfl, decide_eq_true e]; rfl) ?_
      obtain ⟨j1, j2, j3, j4⟩ := fin [Str.ofString (toString n)] (fun p z => by rw [List.mem_singleton.mp z]; omega) (by show 1 ≤ 2; decide)
      have q : Ψ (.dat (.str (((Str.empty ++ Str.ofString "Mixing(") ++ Txt.join (Str.ofString ", ") [Str.ofString (toString n)]) ++ Str.ofString ")"))) [.dat (mixD (some n) f)] := by
        unfold mixTx fTx at q
        rw [if_pos e] at q
        exact q
      exact ⟨k7s, _, rfl, j1, j2, j3, j4, q⟩
    · refine ifT (by rw [if_pos rfl, decide_eq_false e]; rfl) ?_
      obtain ⟨j1, j2, j3, j4⟩ := fin [Str.ofString (toString n), (Str.empty ++ Str.ofString "factor=") ++ Str.ofString (toString f)] (fun p z => by
        simp only [List.mem_cons, List.mem_nil_iff, or_false] at z
        rcases z with rfl | rfl <;> omega) (by show 2 ≤ 2; decide)
      have q : Ψ (.dat (.str (((Str.empty ++ Str.ofString "Mixing(") ++ Txt.join (Str.ofString ", ") [Str.ofString (toString n), (Str.empty ++ Str.ofString "factor=") ++ Str.ofString (toString f)]) ++ Str.ofString ")"))) [.dat (mixD (some n) f)] := by
        unfold mixTx fTx at q
        rw [if_neg e] at q
        exact q
      exact ⟨by rw [kf, sz]; decide, 1, _, by decide +kernel, rfl, fldF T, lf, by omega, by show 1 < sizeLine; decide, k7s, _, rfl, j1, j2, j3, j4, q⟩
end
section
variable {P : Program} {w : World} {K : PySem.W.Frag} {mg : Str → Option Value} {base : Heap}
local macro_rules | `(tactic| get_elem_tactic_trivial) => `(tactic| (repeat first | exact Wk.nil | exact Wk'.nil | refine Wk.same ?_ | refine Wk'.same ?_ | refine Wk.un (fun _ z => nomatch z) ?_ | refine Wk'.un ?_))
/-! str(x) of a mixing -/
theorem okMixingStr (T : Tx K mg) : FnOk P w K mg base CX0 3 (He.ma K (He.ga K "Mixing") "__str__") T.fdMixingStr ["self"] (spD K 1 wMixRepr) := by
  have B := T.B
  have GMixingRepr : FnOk P w K mg base CX0 1 (He.ma K (He.ga K "Mixing") "__repr__") T.fdMixingRepr ["self"] (spD K 1 wMixRepr) := okMixingRepr T
  have bMixingRepr := T.bMixingRepr
  refine T.FMixingStr.ok scMixingStr (fun vs H Q E h => h.1) (fun cdv A outer s H vs Q E hr h => ?_)
  refine ⟨_, PSs.nox (pss_one (ps_ret (pe_callB (cReprOwn T.mMixingRepr GMixingRepr bMixingRepr (hr.mono (by decide))) (by rfl) B.b_repr (by decide +kernel) (pa_cons (pv 0) pa_nil)))), ?_⟩
  refine bodyD h (fun ps Ψ hw hl => ?_)
  obtain ⟨w, f, rfl, ok, q⟩ := hw
  exact ⟨⟨_, _, rfl⟩, w, f, rfl, ok, _, rfl, q⟩
end
section
variable {P : Program} {w : World} {K : PySem.W.Frag} {mg : Str → Option Value} {base : Heap}
local macro_rules | `(tactic| get_elem_tactic_trivial) => `(tactic| (repeat first | exact Wk.nil | exact Wk'.nil | refine Wk.same ?_ | refine Wk'.same ?_ | refine Wk.un (fun _ z => nomatch z) ?_ | refine Wk'.un ?_))
/-! the law's own divisor -/
def wCom08 : WF := fun ps Ψ => ∃ a b : Nat, ps = [.dat (.int (a : Nat)), .dat (.int (b : Nat))] ∧ 0 < a ∧ a ≤ 1000000 ∧ b ≤ 1000000 ∧ Ψ (.dat (.bl (decide (1 < Nat.gcd a b)))) ps
theorem halve {x y j : Nat} (hy : 0 < y) (h : y ≤ x) (hp : x * y * 2 ^ j ≤ 1000000000000) : y * (x % y) * 2 ^ (j + 1) ≤ 1000000000000 := by
  have h1 := Nat.mod_lt x hy
  have h2 : 2 * (x % y) ≤ x := by
    have e := Nat.div_add_mod x y
    have h3 : 1 ≤ x / y := (Nat.one_le_div_iff hy).mpr h
    have h4 : y * 1 ≤ y * (x / y) := Nat.mul_le_mul_left y h3
    omega
  have h3 : y * (2 * (x % y)) ≤ y * x := Nat.mul_le_mul_left y h2
  calc y * (x % y) * 2 ^ (j + 1) = y * (2 * (x % y)) * 2 ^ j := by rw [Nat.pow_succ]; simp only [Nat.mul_comm, Nat.mul_left_comm, Nat.mul_assoc]
    _ ≤ y * x * 2 ^ j := Nat.mul_le_mul_right _ h3
    _ = x * y * 2 ^ j := by rw [Nat.mul_comm y x]
    _ ≤ _ := hp
theorem okLCommon (T : Tx K mg) : FnOk P w K mg base CX0 1 (He.ga K "_law_common") T.fdLCommon ["_law_one", "_law_other"] (spD K 2 wCom08) := by
  have B := T.B
  refine T.FLCommon.ok scLCommon (fun vs H Q E h => h.1) (fun cdv A outer s H vs Q E hr h => ?_)
  refine ⟨_, PSs.nox (pss_cons (ps_for PassesOwn.never rfl (pi_range1 (by rfl) B.b_range (pa_cons pe_int pa_nil)) (pg_name (i := 2) scLCommon.nd rfl (Or.inl rfl))
        (pss_one (ps_if (pt_cmpR op_gt (pv 1) pe_int (nomark _)) (pss_one (ps_par (i := 0) (j := 1) (by rfl) scLCommon.nd rfl rfl (by decide) rfl rfl (pa_cons (pv 1) (pa_cons (pe_op op_mod (pv 0) (pv 1)) pa_nil)) (by rfl))) pss_nil)))
        (pss_one (ps_ret (pe_cmpR op_gt (pv 0) pe_int (nomark _))))), ?_⟩
  refine bodyD h (fun ps Ψ hw hl => ?_)
  obtain ⟨a, b, rfl, a0, a1, b1, q⟩ := hw
  refine ⟨by decide, by decide, fun j ρ => ∃ x y : Nat, ρ = [.dat (.int (x : Nat)), .dat (.int (y : Nat)), .un] ∧ 0 < x ∧ x ≤ 1000000 ∧ y ≤ 1000000 ∧ Nat.gcd x y = Nat.gcd a b ∧ (∀ i, j = i + 1 → y ≤ x ∧ x * y * 2 ^ i ≤ 1000000000000), To.of ⟨a, b, rfl, a0, a1, b1, rfl, fun i z => nomatch z⟩ (by get_elem_tactic_trivial), ?_, ?_⟩
  · rintro j ρ d hd ⟨x, y, rfl, x0, x1, y1, hg, hp⟩
    by_cases hy : 0 < y
    · refine ifT (decide_eq_true (by omega)) ⟨by show (0 : Int) < (y : Nat); omega, ?_⟩
      refine To.of ⟨y, x % y, rfl, hy, y1, ?_, ?_, fun i z => ?_⟩ (by get_elem_tactic_trivial)
      · have := Nat.mod_lt x hy; omega
      · rw [← hg, Nat.gcd_comm x y]
        exact (Nat.gcd_rec y x).symm ▸ (Nat.gcd_comm _ _)
      · cases z
        have hm := Nat.mod_lt x hy
        refine ⟨by omega, ?_⟩
        cases j with
        | zero =>
          have : y * (x % y) ≤ 1000000 * 1000000 := Nat.mul_le_mul y1 (by omega)
          show y * (x % y) * 1 ≤ _
          omega
        | succ i =>
          obtain ⟨h1, h2⟩ := hp i rfl
          exact halve hy h1 h2
    · refine ifF (decide_eq_false (by omega)) ?_
      refine To.of ⟨x, y, rfl, x0, x1, y1, hg, fun i z => ?_⟩ (by get_elem_tactic_trivial)
      have e : y = 0 := by omega
      subst e
      exact ⟨Nat.zero_le _, by show x * 0 * _ ≤ _; rw [Nat.mul_zero, Nat.zero_mul]; exact Nat.zero_le _⟩
  · rintro ρ ⟨x, y, rfl, x0, x1, y1, hg, hp⟩
    obtain ⟨h1, h2⟩ := hp 63 (by rw [rng_len]; rfl)
    have e : y = 0 := by
      by_cases hy : y = 0
      · exact hy
      · have h3 : 1 ≤ x * y := Nat.mul_pos x0 (by omega)
        have h4 : 1 * 2 ^ 63 ≤ x * y * 2 ^ 63 := Nat.mul_le_mul_right _ h3
        have h5 : (2 : Nat) ^ 63 = 9223372036854775808 := by decide
        omega
    subst e
    rw [Nat.gcd_zero_right] at hg
    rw [← hg] at q
    have e2 : decide ((1 : Int) < (x : Nat)) = decide (1 < x) := decide_eq_decide.mpr (by omega)
    rw [← e2] at q
    exact q
end
section
variable {P : Program} {w : World} {K : PySem.W.Frag} {mg : Str → Option Value} {base : Heap}
local macro_rules | `(tactic| get_elem_tactic_trivial) => `(tactic| (repeat first | exact Wk.nil | exact Wk'.nil | refine Wk.same ?_ | refine Wk'.same ?_ | refine Wk.un (fun _ z => nomatch z) ?_ | refine Wk'.un ?_))
/-! what is due of a width and a factor -/
def numW (lo hi : Int) : Dt → Bool
  | .int i => decide (lo ≤ i) && decide (i ≤ hi)
  | _ => false
def wBet08 : WF := fun ps Ψ => ∃ (d : Dt) (lo hi : Int), ps = [.dat d, .dat (.int lo), .dat (.int hi)] ∧ otK d = true ∧ Ψ (.dat (.bl (numW lo hi d))) ps
theorem okLIsBetween (T : Tx K mg) : FnOk P w K mg base CX0 1 (He.ga K "_law_is_between") T.fdLIsBetween ["_law_thing", "_law_least", "_law_most"] (spD K 3 wBet08) := by
  have B := T.B
  refine T.FLIsBetween.ok scLIsBetween (fun vs H Q E h => h.1) (fun cdv A outer s H vs Q E hr h => ?_)
  refine ⟨_, PSs.nox (pss_one (ps_ret (pe_and (pe_callB (show CallR _ _ (rIsi K) from call_isi) (by rfl) B.b_isinstance boot_isinstance (pa_cons (pv 0) (pa_cons (pe_bltn (v := .ty "int") (by rfl) B.b_int PyProof.Rows.boot_int rfl) pa_nil))) (pe_and (pe_not (pe_callB (show CallR _ _ (rIsi K) from call_isi) (by rfl) B.b_isinstance boot_isinstance (pa_cons (pv 0) (pa_cons (pe_bltn (v := .ty "bool") (by rfl) B.b_bool PyProof.Rows.boot_bool rfl) pa_nil)))) (pe_one (pe_chain op_le op_le (pv 1) (pv 0) (pv 2))))))), ?_⟩
  refine bodyD h (fun ps Ψ hw hl => ?_)
  obtain ⟨d, lo, hi, rfl, o, q⟩ := hw
  cases d with
  | int i =>
    have q2 : Ψ (.dat (.bl (decide (lo ≤ i) && decide (i ≤ hi)))) [.dat (.int i), .dat (.int lo), .dat (.int hi)] := q
    by_cases h0 : lo ≤ i
    · rw [decide_eq_true h0] at q2
      exact ifT (decide_eq_true h0) q2
    · rw [decide_eq_false h0] at q2
      exact ifF (decide_eq_false h0) q2
  | obj c ns ds => exact Bool.noConfusion (show false = true from o)
  | err c d => exact Bool.noConfusion (show false = true from o)
  | adr a_ => exact Bool.noConfusion (show false = true from o)
  | dic _ _ => exact Bool.noConfusion (show false = true from o)
  | scr _ => exact Bool.noConfusion (show false = true from o)
  | _ => exact q
def dueM (dw df : Dt) : Dt := if widD dw = false then .str "width" else if facD df dw = false then .str "factor" else .non
theorem fac_num {df dw : Dt} (h : numW 1 1000000 df = false) : facD df dw = false := by
  cases df with
  | int f =>
    show (decide (1 ≤ f) && decide (f ≤ 1000000) && _) = false
    rw [show (decide (1 ≤ f) && decide (f ≤ 1000000)) = false from h]
    rfl
  | _ => rfl
theorem fac_non {df : Dt} (h : numW 1 1000000 df = true) : facD df .non = true := by
  cases df with
  | int f =>
    show (decide (1 ≤ f) && decide (f ≤ 1000000) && true) = true
    rw [show (decide (1 ≤ f) && decide (f ≤ 1000000)) = true from h]
    rfl
  | _ => exact Bool.noConfusion (show false = true from h)
theorem fac_int {a b : Nat} (h : numW 1 1000000 (.int (b : Nat)) = true) : facD (.int (b : Nat)) (.int (a : Nat)) = !decide (1 < Nat.gcd a b) := by
  show (decide ((1 : Int) ≤ (b : Nat)) && decide (((b : Nat) : Int) ≤ 1000000) && decide (Int.gcd (b : Nat) (a : Nat) = 1)) = _
  have h : (decide ((1 : Int) ≤ (b : Nat)) && decide (((b : Nat) : Int) ≤ 1000000)) = true := h
  rw [h, Bool.true_and, Int.gcd_natCast_natCast, Nat.gcd_comm b a]
  have h1 : 1 ≤ b := by
    rw [Bool.and_eq_true, decide_eq_true_eq] at h
    omega
  have hp := Nat.gcd_pos_of_pos_right a (by omega : 0 < b)
  by_cases e : Nat.gcd a b = 1
  · rw [decide_eq_true e, decide_eq_false (by omega)]
    rfl
  · rw [decide_eq_false e, decide_eq_true (by omega)]
    rfl
def wDue08 : WF := fun ps Ψ => ∃ dw df : Dt, ps = [.dat dw, .dat df] ∧ otK dw = true ∧ otK df = true ∧ Ψ (.dat (dueM dw df)) ps
theorem okLDue (T : Tx K mg) : FnOk P w K mg base CX0 2 (He.ga K "_law_due") T.fdLDue ["_law_width", "_law_by"] (spD K 2 wDue08) := by
  have B := T.B
  have GLIsBetween : FnOk P w K mg base CX0 1 (He.ga K "_law_is_between") T.fdLIsBetween ["_law_thing", "_law_least", "_law_most"] (spD K 3 wBet08) := okLIsBetween T
  have bLIsBetween := T.bLIsBetween
  have GLCommon : FnOk P w K mg base CX0 1 (He.ga K "_law_common") T.fdLCommon ["_law_one", "_law_other"] (spD K 2 wCom08) := okLCommon T
  have bLCommon := T.bLCommon
  refine T.FLDue.ok scLDue (fun vs H Q E h => h.1) (fun cdv A outer s H vs Q E hr h => ?_)
  refine ⟨_, PSs.nox (pss_cons (ps_if (PW.pt (pw_and (pt_cmpR (show OpR _ _ rNotNone from op_notN) (pv 0) pe_non (nomark _)) (pw_and1 (pt_not (pt_val (pe_call GLIsBetween (hr.mono (by decide)) (by rfl) T.gLIsBetween T.FLIsBetween.kp bLIsBetween .nil pass0 (pa_cons (pv 0) (pa_cons pe_int (pa_cons (pe_op op_pow pe_int pe_int) pa_nil))))))))) (pss_one (ps_ret pe_str)) pss_nil)
        (pss_cons (ps_if (PW.pt (pw_or (pt_not (pt_val (pe_call GLIsBetween (hr.mono (by decide)) (by rfl) T.gLIsBetween T.FLIsBetween.kp bLIsBetween .nil pass0 (pa_cons (pv 1) (pa_cons pe_int (pa_cons (pe_op op_pow pe_int pe_int) pa_nil)))))) (pw_or1 (PW.pt (pw_and (pt_cmpR (show OpR _ _ rNotNone from op_notN) (pv 0) pe_non (nomark _)) (pw_and1 (pt_val (pe_call GLCommon (hr.mono (by decide)) (by rfl) T.gLCommon T.FLCommon.kp bLCommon .nil pass0 (pa_cons (pv 0) (pa_cons (pv 1) pa_nil)))))))))) (pss_one (ps_ret pe_str)) pss_nil)
        (pss_one (ps_ret pe_non)))), ?_⟩
  refine bodyD h (fun ps Ψ hw hl => ?_)
  obtain ⟨dw, df, rfl, ow, of, q⟩ := hw
  have num : ∀ {lo hi i : Int}, numW lo hi (.int i) = true → lo ≤ i ∧ i ≤ hi := fun {lo hi i} h => by
    have h : (decide (lo ≤ i) && decide (i ≤ hi)) = true := h
    rw [Bool.and_eq_true, decide_eq_true_eq, decide_eq_true_eq] at h
    exact h
  have bad : widD dw = false → Ψ (.dat (.str "width")) [.dat dw, .dat df] := fun h => by
    unfold dueM at q
    rw [if_pos h] at q
    exact q
  have fac : widD dw = true → facD df dw = false → Ψ (.dat (.str "factor")) [.dat dw, .dat df] := fun h1 h2 => by
    unfold dueM at q
    rw [if_neg (by rw [h1]; exact Bool.noConfusion), if_pos h2] at q
    exact q
  have good : widD dw = true → facD df dw = true → Ψ (.dat .non) [.dat dw, .dat df] := fun h1 h2 => by
    unfold dueM at q
    rw [if_neg (by rw [h1]; exact Bool.noConfusion), if_neg (by rw [h2]; exact Bool.noConfusion)] at q
    exact q
  cases dw with
  | non =>
    refine ⟨rfl, ⟨by decide, by decide, by decide⟩, rfl, df, 1, 1000000, rfl, of, ?_⟩
    cases hF : numW 1 1000000 df with
    | false => exact fac rfl (fac_num hF)
    | true => exact ⟨rfl, good rfl (fac_non hF)⟩
  | int n =>
    refine ⟨rfl, ⟨by decide, by decide, by decide⟩, rfl, .int n, 3, 1000000, rfl, rfl, ?_⟩
    cases hW : numW 3 1000000 (.int n) with
    | false => exact bad hW
    | true =>
      refine ⟨⟨by decide, by decide, by decide⟩, rfl, df, 1, 1000000, rfl, of, ?_⟩
      cases hF : numW 1 1000000 df with
      | false => exact fac hW (fac_num hF)
      | true =>
        obtain ⟨f, rfl⟩ : ∃ f, df = .int f := by
          cases df <;> first | exact ⟨_, rfl⟩ | exact Bool.noConfusion (show false = true from hF)
        obtain ⟨n3, n6⟩ := num hW
        obtain ⟨f1, f6⟩ := num hF
        obtain ⟨a, rfl⟩ : ∃ a : Nat, n = (a : Nat) := ⟨n.toNat, by omega⟩
        obtain ⟨b, rfl⟩ : ∃ b : Nat, f = (b : Nat) := ⟨f.toNat, by omega⟩
        have e := fac_int (a := a) (b := b) hF
        refine ⟨rfl, rfl, a, b, rfl, by omega, by omega, by omega, ?_⟩
        cases hg : decide (1 < Nat.gcd a b) with
        | false => exact good hW (by rw [e, hg]; rfl)
        | true => exact fac hW (by rw [e, hg]; rfl)
  | bl b => exact ⟨rfl, ⟨by decide, by decide, by decide⟩, rfl, _, 3, 1000000, rfl, rfl, bad rfl⟩
  | str b => exact ⟨rfl, ⟨by decide, by decide, by decide⟩, rfl, _, 3, 1000000, rfl, rfl, bad rfl⟩
  | lst b => exact ⟨rfl, ⟨by decide, by decide, by decide⟩, rfl, _, 3, 1000000, rfl, rfl, bad rfl⟩
  | tup b => exact ⟨rfl, ⟨by decide, by decide, by decide⟩, rfl, _, 3, 1000000, rfl, rfl, bad rfl⟩
  | obj c ns ds => exact Bool.noConfusion (show false = true from ow)
  | err c d => exact Bool.noConfusion (show false = true from ow)
  | adr a_ => exact Bool.noConfusion (show false = true from ow)
  | dic _ _ => exact Bool.noConfusion (show false = true from ow)
  | scr _ => exact Bool.noConfusion (show false = true from ow)
def oddL : List Dt := [.non, .bl true, .bl false, .int 0, .int 1, .int 2, .int (-1), .int 1000001, .int 100000000000000000000, .str "", .str "3", .str "ann", .tup [], .lst [], .tup [.int 3], .lst [.int 7919], .tup [.int 3, .int 7]]
def wOdd08 : WF := fun ps Ψ => ∃ n : Int, ps = [.box n] ∧ n < 700000000 ∧ ∀ d ∈ oddL, Ψ (.dat d) [.box (n + 1)]
theorem okLOdd (T : Tx K mg) : FnOk P w K mg base CX0 2 (He.ga K "_law_odd") T.fdLOdd ["_law_box_here"] (spD K 1 wOdd08) := by
  have B := T.B
  have GLTake : FnOk P w K mg base CX0 1 (He.ga K "_law_take") T.fdLTake ["_law_box_here", "_law_many"] (spD K 2 wTake) := okTakeD T
  have bLTake := T.bLTake
  refine T.FLOdd.ok scLOdd (fun vs H Q E h => h.1) (fun cdv A outer s H vs Q E hr h => ?_)
  refine ⟨_, PSs.nox (pss_cons (ps_set (i := 1) scLOdd.nd rfl (.inl rfl) (pe_lst (pa_cons pe_non (pa_cons pe_bl (pa_cons pe_bl (pa_cons pe_int (pa_cons pe_int (pa_cons pe_int (pa_cons (pe_un un_neg pe_int) (pa_cons (pe_op op_add (pe_op op_pow pe_int pe_int) pe_int) (pa_cons (pe_op op_pow pe_int pe_int) (pa_cons pe_str (pa_cons pe_str (pa_cons pe_str (pa_cons (pe_tup pa_nil) (pa_cons (pe_lst pa_nil) (pa_cons (pe_tup (pa_cons pe_int pa_nil)) (pa_cons (pe_lst (pa_cons pe_int pa_nil)) (pa_cons (pe_tup (pa_cons pe_int (pa_cons pe_int pa_nil))) pa_nil)))))))))))))))))))
        (pss_one (ps_ret (pe_ix (show IxR _ (rIx K) from ix_seq) (pv 1) (pe_call GLTake (hr.mono (by decide)) (by rfl) T.gLTake T.FLTake.kp bLTake .nil pass0 (pa_cons (pv 0) (pa_cons pe_int pa_nil))) (fun _ _ => rfl))))), ?_⟩
  refine bodyD h (fun ps Ψ hw hl => ?_)
  obtain ⟨n, rfl, hn, q⟩ := hw
  refine ⟨⟨by decide, by decide, by decide⟩, ⟨by decide, by decide, by decide⟩, by show 0 ≤ sizeLine; decide, by show 0 ≤ sizeLine; decide, by show 1 ≤ sizeLine; decide, by show 1 ≤ sizeLine; decide, by show 2 ≤ sizeLine; decide, by show 17 ≤ sizeLine; decide, ?_⟩
  refine ⟨rfl, ⟨by omega, by decide, by decide⟩, fun r r0 r1 => ?_⟩
  obtain ⟨v, ev, mv⟩ := atD (xs := oddL) r0 r1
  exact ⟨v, ev, q v mv⟩

end
section
variable {P : Program} {w : World} {K : PySem.W.Frag} {mg : Str → Option Value} {base : Heap}
local macro_rules | `(tactic| get_elem_tactic_trivial) => `(tactic| (repeat first | exact Wk.nil | exact Wk'.nil | refine Wk.same ?_ | refine Wk'.same ?_ | refine Wk.un (fun _ z => nomatch z) ?_ | refine Wk'.un ?_))
/-! level 3: calls of defs that show things -/
section
variable {X : Cx} {k n : Nat} {f C : Addr} {fd : FuncData} {ps ks : List Str} {sp : Sp} {E : L2.St → XK} {x mm : Str} {p pos apos : Pos} {e o : Expr} {es : List Expr} {kws : List Keyword} {ta : TE} {t tk : TA} {g : List Value → List Value → List Value} {gV : List V → List V → List V}
theorem run_fnG3 {pins : List (Addr × Obj)} {σ : L2.St} {H : Hp} {s : Shared} {Q : VK} {us ws : List Value} {vs zs : List V} (gd : X.A.guards = some []) (F : FnOkG X.prog X.w X.K X.mg X.base k f fd ps sp) (hr : Room k X.A) (hb : KBn X.K fd ps n ks g gV) (hx : PassesAt CX0 X σ (E σ))
    (I : Inv X pins σ H s) (r : Vals vs us) (rz : Vals zs ws) (l1 : vs.length = n) (l2 : zs.length = ks.length) (h : sp (gV vs zs) H Q (E σ)) : wpAny (model X.prog X.w) X.A (call (.ref f) us (ks.zip ws)) (EP X pins σ Q) X.xe s := by
  have r2 := hb.rel r rz
  refine wpAny_call (codeAny_mono (F.run X.A X.stack s H ⟨us, ks.zip ws⟩ (g us ws) (gV vs zs) Q (E σ) gd hr I.env0 (hb.to s us ws I.kIn (r.length.symm.trans l1) (rz.length.symm.trans l2)) r2 h) fun r s' hq => ?_)
  cases r with
  | error e => exact hx pins H s e s' I hq
  | ok fl =>
    cases fl with
    | ret u => exact I.after hq
    | next => exact False.elim hq
    | brk => exact False.elim hq
    | cont => exact False.elim hq
theorem pe_call3G (gd : X.A.guards = some []) (F : FnOkG X.prog X.w X.K X.mg X.base k f fd ps sp) (hr : Room k X.A) (hg : Gl X x) (hm : X.mg x = some (.ref f)) (hk : PySem.W.keepIn X.K (.ref f) = true) (hb : KBn X.K fd ps n ks g gV) (hx : ∀ σ, PassesAt CX0 X σ (E σ))
    (ha : PA X (e :: es) t) (hkw : PK X kws tk) (hall : (backToKw pos (keywordEach kws X.env)).all (·.1.isSome) = true := by rfl) (hks : (backToKw pos (keywordEach kws X.env)).filterMap (·.1) = ks := by rfl)
    (hdb : (x == ("__debug__" : Str)) = false := by decide) (he : starEach (e :: es) X.env = (false, eval e X.env) :: starEach es X.env := by rfl)
    (hpl : ((backTo pos (starEach (e :: es) X.env)).any (·.1) || (backToKw pos (keywordEach kws X.env)).any (·.1.isNone)) = false := by rfl) :
    PE X (.Call (.Name x p) (e :: es) kws pos) (tCall3 n ks.length sp gV E t tk) := by
  refine ⟨fun pins s σ H Q I h => ?_⟩
  refine wpAny_Call_Name_kw (ld_glob I hg hm ?_ hdb)
  refine PySem.W.callWith_KW (h₀ := X.base) I.ok.mod.kin hk hall (thn (ha.run pos pins s σ H _ I h) fun us s1 ⟨vs, H1, I1, r, q⟩ => ?_) hpl he
  refine thn (hkw.run pos pins s1 σ H1 _ I1 q) fun ws s2 ⟨zs, H2, I2, rz, l1, l2, q2⟩ => ⟨I2.kIn, ?_⟩
  rw [hks]
  exact run_fnG3 gd F hr hb (hx σ) I2 r rz l1 l2 q2
end

end
section
variable {P : Program} {w : World} {K : PySem.W.Frag} {mg : Str → Option Value} {base : Heap}
local macro_rules | `(tactic| get_elem_tactic_trivial) => `(tactic| (repeat first | exact Wk.nil | exact Wk'.nil | refine Wk.same ?_ | refine Wk'.same ?_ | refine Wk.un (fun _ z => nomatch z) ?_ | refine Wk'.un ?_))
/-! a mixing's names, given or not -/
theorem kb_conv {K : PySem.W.Frag} {fd : FuncData} {ps : List Str} {n : Nat} {ks : List Str} {g0 : List Value → List Value → List Value} {gV0 : List V → List V → List V} {dv : List V} {ds : List Value} (z : KBn K fd ps n ks g0 gV0) (hv : Vals dv ds) (is : List Nat) (h : ∀ us ws : List Value, us.length = n → ws.length = ks.length → g0 us ws = gP is us (ws ++ ds)) : ∃ g, KBn K fd ps n ks g (gB is dv) :=
  ⟨fun us ws => gP is us (ws ++ ds), ⟨fun s us ws hk h1 h2 => by rw [← h us ws h1 h2]; exact z.to s us ws hk h1 h2, fun a b => gP_vals is a (b.append hv)⟩⟩
theorem Tx.kbMixingInit_1 {K : PySem.W.Frag} {mg : Str → Option Value} (T : Tx K mg) : ∃ g : List Value → List Value → List Value, KBn K T.fdMixingInit ["self", "width", "factor"] 1 [] g (gB [0, 1, 2] [.non, .int 7919]) := by
  obtain ⟨its, mv, z⟩ := T.FMixingInit.kbinds (ps := ["self", "width", "factor"]) 1 [] [("factor", .int 7919)] (fun us its mv ws => us ++ (its ++ mv)) (by decide) (by decide) (by simp) (fun a b c d => a.append (b.append c)) fun TT D doc pm an cdv ct us its mv ws h1 h2 h3 h4 => match us, its, mv, ws, h1, h2, h3, h4 with
    | [u], [i], [k], [], _, _, _, _ => ⟨_, rfl, _, _, _, _, _, _, rfl, rfl, rfl⟩
  have hv : Vals [V.non, V.int 7919] (its ++ mv) := z.rel (vs := []) (us := []) (zs := []) (ws := []) .nil .nil
  refine kb_conv z hv [0, 1, 2] fun us ws h1 h2 => ?_
  generalize its ++ mv = ds at hv
  match us, ws, ds, h1, h2, hv with
  | [u], [], _, _, _, .cons _ (.cons _ .nil) => rfl
theorem Tx.kbMixingInit_2 {K : PySem.W.Frag} {mg : Str → Option Value} (T : Tx K mg) : ∃ g : List Value → List Value → List Value, KBn K T.fdMixingInit ["self", "width", "factor"] 2 [] g (gB [0, 1, 2] [.int 7919]) := by
  obtain ⟨its, mv, z⟩ := T.FMixingInit.kbinds (ps := ["self", "width", "factor"]) 2 [] [("factor", .int 7919)] (fun us its mv ws => us ++ mv) (by decide) (by decide) (by simp) (fun a b c d => a.append c) fun TT D doc pm an cdv ct us its mv ws h1 h2 h3 h4 => match us, its, mv, ws, h1, h2, h3, h4 with
    | [u, v], [i], [k], [], _, _, _, _ => ⟨_, rfl, _, _, _, _, _, _, rfl, rfl, rfl⟩
  have hv : Vals [V.int 7919] mv := z.rel (vs := []) (us := []) (zs := []) (ws := []) .nil .nil
  refine kb_conv z hv [0, 1, 2] fun us ws h1 h2 => ?_
  match us, ws, mv, h1, h2, hv with
  | [u, v], [], _, _, _, .cons _ .nil => rfl
theorem Tx.kbMixingInit_2_factor {K : PySem.W.Frag} {mg : Str → Option Value} (T : Tx K mg) : ∃ g : List Value → List Value → List Value, KBn K T.fdMixingInit ["self", "width", "factor"] 2 ["factor"] g (gB [0, 1, 2] []) := by
  obtain ⟨its, mv, z⟩ := T.FMixingInit.kbinds (ps := ["self", "width", "factor"]) 2 ["factor"] [] (fun us its mv ws => us ++ ws) (by decide) (by decide) (by simp) (fun a b c d => a.append d) fun TT D doc pm an cdv ct us its mv ws h1 h2 h3 h4 => match us, its, mv, ws, h1, h2, h3, h4 with
    | [u, v], [i], [], [k], _, _, _, _ => ⟨_, rfl, rfl⟩
  refine kb_conv z (dv := []) (ds := []) .nil [0, 1, 2] fun us ws h1 h2 => ?_
  match us, ws, h1, h2 with
  | [u, v], [w], _, _ => rfl
/-! what making a mixing tells -/
def mixA (dw df : Dt) : Dt := .obj "Mixing" ["width", "factor"] [dw, df]
def wTold08 : W3F := fun ps μ Ψ _ => ∃ (dw df : Dt) (b : Bool), ps = [.dat dw, .dat df, .dat (.int (if b = true then 1 else 0))] ∧ μ = [] ∧ otK dw = true ∧ otK df = true ∧ Nice 60 8000 dw ∧ Nice 60 8000 df ∧ (b = true → df = .int 7919) ∧ ((dueM dw df = .non → Ψ (.dat (mixA dw df)) ps []) ∧ (∀ s, dueM dw df = .str s → Ψ (.dat (.str s)) ps []))
theorem okLTold (T : Tx K mg) : FnOk P w K mg base CX0 5 (He.ga K "_law_told") T.fdLTold ["_law_width", "_law_by", "_law_way"] (sp3 K 3 wTold08) := by
  have B := T.B
  have GMixingInit : FnOk P w K mg base (L2.CX P w) 3 (He.ma K (He.ga K "Mixing") "__init__") T.fdMixingInit ["self", "width", "factor"] (sp3 K 3 wMixI3) := FnOk.nl (Mx.okMixingInit T)
  haveI : IsA K "Mixing" := ⟨T.clMixing, T.is_Mixing, T.io_Mixing⟩
  obtain ⟨_, kbMixingInit_1⟩ := T.kbMixingInit_1
  obtain ⟨_, kbMixingInit_2⟩ := T.kbMixingInit_2
  obtain ⟨_, kbMixingInit_2_factor⟩ := T.kbMixingInit_2_factor
  refine T.FLTold.ok scLTold (fun vs H Q E h => h.1) (fun cdv A outer s H vs Q E hr h => ?_)
  refine ⟨_, PSs.nox (pss_cons (ps_asg (pe_tup (pa_cons pe_non (pa_cons pe_non pa_nil))) (show PG _ _ (gTup K 2 _) from pg_tup rfl (pgs_cons (pg_name (i := 3) scLTold.nd rfl (Or.inl rfl)) (pgs_cons (pg_name (i := 4) scLTold.nd rfl (Or.inl rfl)) pgs_nil))))
        (pss_cons (show PS _ _ (tTry K _ 5 _ _ (fun _ _ _ _ => False)) from ps_try_keep (i := 5) (Wo := fun _ _ _ _ => False) rfl rfl rfl scLTold.nd rfl rfl ⟨rfl, by decide, Or.inl T.gStartError⟩ takes0
        (fun W pn xe tk po => (pss_one (ps_if (pt_cmpR (opEqA (K := K) rfl hr.units) (pv 2) pe_int (nomark _)) (pss_one (ps_set (i := 3) scLTold.nd rfl (.inl rfl) (peCool3 (asPE (tMake3 _ 1 1 _ _ _ _ _) (pe_make3 (ks := ["factor"]) T.mkMixing GMixingInit (hr.mono (by decide)) (by rfl) T.gMixing kbMixingInit_2_factor (fun σ => passAt tk σ) (pa_cons (pv 0) pa_nil) (pk_cons (pv 1) pk_nil)))))) (pss_one (ps_set (i := 3) scLTold.nd rfl (.inl rfl) (pe_ifExp (pt_cmpR (show OpR _ _ rNotNone from op_notN) (pv 0) pe_non (nomark _)) (peCool3 (asPE (tMake3 _ 1 0 _ _ _ _ _) (pe_make3 (ks := []) T.mkMixing GMixingInit (hr.mono (by decide)) (by rfl) T.gMixing kbMixingInit_2 (fun σ => passAt tk σ) (pa_cons (pv 0) pa_nil) pk_nil))) (peCool3 (asPE (tMake3 _ 0 0 _ _ _ _ _) (pe_make30 (ks := []) T.mkMixing GMixingInit (hr.mono (by decide)) (by rfl) T.gMixing kbMixingInit_1 (fun σ => passAt tk σ) pk_nil)))))))))
        (fun a oe cls d pn hz hf => (pss_one (ps_set (i := 4) scLTold.nd rfl (.inl rfl) (pv 5)))))
        (pss_cons (ps_if (pt_cmpR (show OpR _ _ rIsNone from op_isN) (pv 4) pe_non (nomark _)) (pss_one (ps_ret (pe_ifExp (pt_val (pe_callB (show CallR _ _ (rIsi K) from call_isi) (by rfl) B.b_isinstance boot_isinstance (pa_cons (pv 3) (pa_cons (pe_glob (v := .ref (He.ga K "Mixing")) (by rfl) T.gMixing rfl) pa_nil)))) (pv 3) pe_str))) pss_nil)
        (pss_cons (ps_set (i := 6) scLTold.nd rfl (.inl rfl) (pe_and (pe_callB (show CallR _ _ (rIsC K) from call_isC) (by rfl) B.b_isinstance boot_isinstance (pa_cons (pv 4) (pa_cons (pe_glob (v := .ref (He.ga K "BadMixing")) (by rfl) T.gBadMixing rfl) pa_nil))) (pe_one (pe_callB (show CallR _ _ (rIsC K) from call_isC) (by rfl) B.b_isinstance boot_isinstance (pa_cons (pv 4) (pa_cons (pe_bltn (v := .ty "ValueError") (by rfl) B.b_ValueError (by decide +kernel) rfl) pa_nil))))))
        (pss_one (ps_ret (pe_ifExp (PW.pt (pw_and (pt_val (pv 6)) (pw_and1 (pt_not (pt_val (pe_callB (show CallR _ _ (rIsCT K) from call_isCT) (by rfl) B.b_isinstance boot_isinstance (pa_cons (pv 4) (pa_cons (pe_tup (pa_cons (pe_glob (v := .ref (He.ga K "NoBoard")) (by rfl) T.gNoBoard rfl) (pa_cons (pe_glob (v := .ref (He.ga K "NoRow")) (by rfl) T.gNoRow rfl) pa_nil))) pa_nil)))))))) (show PE _ _ (tWhatC K _) from pe_whatC (pv 4)) pe_str))))))), ?_⟩
  refine body3 h (fun ps μ Ψ Ξ hw hl => ?_)
  obtain ⟨dw, df, b, rfl, rfl, ow, of, nw, nf, hb, q⟩ := hw
  have hc : ("BadMixing" : Str) ∈ ERRS := by decide +kernel
  have e1 : IsEv K "BadMixing" (.ref (He.ga K "BadMixing")) true := evOne T hc hc (by decide +kernel)
  have e2 : IsEv K "BadMixing" (.ty "ValueError") true := evV T hc
  have e3 := evNo T hc ["NoBoard", "NoRow"] (by decide +kernel) (by decide) (by decide +kernel)
  obtain ⟨q1, q2⟩ := q
  have out : (widD dw = false ∧ Ψ (.dat (.str "width")) [.dat dw, .dat df, .dat (.int (if b = true then 1 else 0))] []) ∨ (widD dw = true ∧ facD df dw = false ∧ Ψ (.dat (.str "factor")) [.dat dw, .dat df, .dat (.int (if b = true then 1 else 0))] []) ∨ (widD dw = true ∧ facD df dw = true ∧ Ψ (.dat (mixA dw df)) [.dat dw, .dat df, .dat (.int (if b = true then 1 else 0))] []) := by
    unfold dueM at q1 q2
    cases h1 : widD dw with
    | false => exact .inl ⟨rfl, q2 _ (if_pos h1)⟩
    | true =>
      have n1 : ¬ widD dw = false := by rw [h1]; exact Bool.noConfusion
      cases h2 : facD df dw with
      | false => exact .inr (.inl ⟨rfl, rfl, q2 _ (by rw [if_neg n1, if_pos h2])⟩)
      | true =>
        have n2 : ¬ facD df dw = false := by rw [h2]; exact Bool.noConfusion
        exact .inr (.inr ⟨rfl, rfl, q1 (by rw [if_neg n1, if_neg n2])⟩)
  clear q1 q2
  refine ⟨by show 2 ≤ sizeLine; decide, rfl, ?_⟩
  cases b with
  | false =>
    refine ⟨⟨rfl, rfl⟩, "Mixing", rfl, fun a => ⟨rfl, [], [], .refl _, a, dw, df, rfl, rfl, nw, nf, ?_⟩⟩
    rcases out with ⟨h1, q⟩ | ⟨h1, h2, q⟩ | ⟨h1, h2, q⟩
    · exact .inl ⟨h1, exRoot T hc, ⟨by decide, by show 5 < 7; decide⟩, rfl, true, e1, true, e2, false, e3, evW T hc, _, .nil, q⟩
    · exact .inr (.inl ⟨h1, h2, exRoot T hc, ⟨by decide, by show 5 < 7; decide⟩, rfl, true, e1, true, e2, false, e3, evW T hc, _, .nil, q⟩)
    · refine .inr (.inr ⟨h1, h2, .ins "Mixing" ["width", "factor"] [dw, df], [], .refl _, rfl, rfl, ?_⟩)
      exact ⟨_, .nil, q⟩
  | true =>
    obtain rfl : df = .int 7919 := hb rfl
    cases dw with
    | non =>
      refine ⟨rfl, ?_⟩
      refine ⟨⟨rfl, rfl⟩, "Mixing", rfl, fun a => ⟨rfl, [], [], .refl _, a, .non, .int 7919, rfl, rfl, nice_non.mono (by decide) (by decide), nf, ?_⟩⟩
      rcases out with ⟨h1, q⟩ | ⟨h1, h2, q⟩ | ⟨h1, h2, q⟩
      · exact .inl ⟨h1, exRoot T hc, ⟨by decide, by show 5 < 7; decide⟩, rfl, true, e1, true, e2, false, e3, evW T hc, _, .nil, q⟩
      · exact .inr (.inl ⟨h1, h2, exRoot T hc, ⟨by decide, by show 5 < 7; decide⟩, rfl, true, e1, true, e2, false, e3, evW T hc, _, .nil, q⟩)
      · refine .inr (.inr ⟨h1, h2, .ins "Mixing" ["width", "factor"] [.non, .int 7919], [], .refl _, rfl, rfl, ?_⟩)
        exact ⟨_, .nil, q⟩
    | int i =>
      refine ⟨rfl, ?_⟩
      refine ⟨⟨rfl, rfl⟩, "Mixing", rfl, fun a => ⟨rfl, [], [], .refl _, a, (.int i), .int 7919, rfl, rfl, nw, nf, ?_⟩⟩
      rcases out with ⟨h1, q⟩ | ⟨h1, h2, q⟩ | ⟨h1, h2, q⟩
      · exact .inl ⟨h1, exRoot T hc, ⟨by decide, by show 5 < 7; decide⟩, rfl, true, e1, true, e2, false, e3, evW T hc, _, .nil, q⟩
      · exact .inr (.inl ⟨h1, h2, exRoot T hc, ⟨by decide, by show 5 < 7; decide⟩, rfl, true, e1, true, e2, false, e3, evW T hc, _, .nil, q⟩)
      · refine .inr (.inr ⟨h1, h2, .ins "Mixing" ["width", "factor"] [(.int i), .int 7919], [], .refl _, rfl, rfl, ?_⟩)
        exact ⟨_, .nil, q⟩
    | bl i =>
      refine ⟨rfl, ?_⟩
      refine ⟨⟨rfl, rfl⟩, "Mixing", rfl, fun a => ⟨rfl, [], [], .refl _, a, (.bl i), .int 7919, rfl, rfl, nw, nf, ?_⟩⟩
      rcases out with ⟨h1, q⟩ | ⟨h1, h2, q⟩ | ⟨h1, h2, q⟩
      · exact .inl ⟨h1, exRoot T hc, ⟨by decide, by show 5 < 7; decide⟩, rfl, true, e1, true, e2, false, e3, evW T hc, _, .nil, q⟩
      · exact .inr (.inl ⟨h1, h2, exRoot T hc, ⟨by decide, by show 5 < 7; decide⟩, rfl, true, e1, true, e2, false, e3, evW T hc, _, .nil, q⟩)
      · refine .inr (.inr ⟨h1, h2, .ins "Mixing" ["width", "factor"] [(.bl i), .int 7919], [], .refl _, rfl, rfl, ?_⟩)
        exact ⟨_, .nil, q⟩
    | str i =>
      refine ⟨rfl, ?_⟩
      refine ⟨⟨rfl, rfl⟩, "Mixing", rfl, fun a => ⟨rfl, [], [], .refl _, a, (.str i), .int 7919, rfl, rfl, nw, nf, ?_⟩⟩
      rcases out with ⟨h1, q⟩ | ⟨h1, h2, q⟩ | ⟨h1, h2, q⟩
      · exact .inl ⟨h1, exRoot T hc, ⟨by decide, by show 5 < 7; decide⟩, rfl, true, e1, true, e2, false, e3, evW T hc, _, .nil, q⟩
      · exact .inr (.inl ⟨h1, h2, exRoot T hc, ⟨by decide, by show 5 < 7; decide⟩, rfl, true, e1, true, e2, false, e3, evW T hc, _, .nil, q⟩)
      · refine .inr (.inr ⟨h1, h2, .ins "Mixing" ["width", "factor"] [(.str i), .int 7919], [], .refl _, rfl, rfl, ?_⟩)
        exact ⟨_, .nil, q⟩
    | lst i =>
      refine ⟨rfl, ?_⟩
      refine ⟨⟨rfl, rfl⟩, "Mixing", rfl, fun a => ⟨rfl, [], [], .refl _, a, (.lst i), .int 7919, rfl, rfl, nw, nf, ?_⟩⟩
      rcases out with ⟨h1, q⟩ | ⟨h1, h2, q⟩ | ⟨h1, h2, q⟩
      · exact .inl ⟨h1, exRoot T hc, ⟨by decide, by show 5 < 7; decide⟩, rfl, true, e1, true, e2, false, e3, evW T hc, _, .nil, q⟩
      · exact .inr (.inl ⟨h1, h2, exRoot T hc, ⟨by decide, by show 5 < 7; decide⟩, rfl, true, e1, true, e2, false, e3, evW T hc, _, .nil, q⟩)
      · refine .inr (.inr ⟨h1, h2, .ins "Mixing" ["width", "factor"] [(.lst i), .int 7919], [], .refl _, rfl, rfl, ?_⟩)
        exact ⟨_, .nil, q⟩
    | tup i =>
      refine ⟨rfl, ?_⟩
      refine ⟨⟨rfl, rfl⟩, "Mixing", rfl, fun a => ⟨rfl, [], [], .refl _, a, (.tup i), .int 7919, rfl, rfl, nw, nf, ?_⟩⟩
      rcases out with ⟨h1, q⟩ | ⟨h1, h2, q⟩ | ⟨h1, h2, q⟩
      · exact .inl ⟨h1, exRoot T hc, ⟨by decide, by show 5 < 7; decide⟩, rfl, true, e1, true, e2, false, e3, evW T hc, _, .nil, q⟩
      · exact .inr (.inl ⟨h1, h2, exRoot T hc, ⟨by decide, by show 5 < 7; decide⟩, rfl, true, e1, true, e2, false, e3, evW T hc, _, .nil, q⟩)
      · refine .inr (.inr ⟨h1, h2, .ins "Mixing" ["width", "factor"] [(.tup i), .int 7919], [], .refl _, rfl, rfl, ?_⟩)
        exact ⟨_, .nil, q⟩
    | obj c ns ds => exact Bool.noConfusion (show false = true from ow)
    | err c d => exact Bool.noConfusion (show false = true from ow)
    | adr a_ => exact Bool.noConfusion (show false = true from ow)
    | dic _ _ => exact Bool.noConfusion (show false = true from ow)
    | scr _ => exact Bool.noConfusion (show false = true from ow)
end
section
variable {P : Program} {w : World} {K : PySem.W.Frag} {mg : Str → Option Value} {base : Heap}
local macro_rules | `(tactic| get_elem_tactic_trivial) => `(tactic| (repeat first | exact Wk.nil | exact Wk'.nil | refine Wk.same ?_ | refine Wk'.same ?_ | refine Wk.un (fun _ z => nomatch z) ?_ | refine Wk'.un ?_))
/-! the text due, the numbers drawn -/
def wText08 : WF := fun ps Ψ => ∃ (w : Option Int) (f : Int), ps = [.dat (wDt w), .dat (.int f)] ∧ OkMix w f ∧ Ψ (.dat (.str (mixTx w f))) ps
theorem okLText (T : Tx K mg) : FnOk P w K mg base CX0 1 (He.ga K "_law_text") T.fdLText ["_law_width", "_law_by"] (spD K 2 wText08) := by
  have B := T.B
  refine T.FLText.ok scLText (fun vs H Q E h => h.1) (fun cdv A outer s H vs Q E hr h => ?_)
  refine ⟨_, PSs.nox (pss_cons (ps_set (i := 2) scLText.nd rfl (.inl rfl) (pe_op op_cat (pe_ifExp (pt_cmpR (show OpR _ _ rIsNone from op_isN) (pv 0) pe_non (nomark _)) (pe_lst pa_nil) (pe_lst (pa_cons (pe_callTy (show CallR _ _ cStrI from call_str_int) (by rfl) B.b_str PyProof.Rows.boot_str (pa_cons (pv 0) pa_nil)) pa_nil))) (pe_ifExp (pt_cmpR (opEqA (K := K) rfl hr.units) (pv 1) (pe_glob (v := .int 7919) (by rfl) T.c_FACTOR.choose_spec ⟨_, rfl⟩) (nomark _)) (pe_lst pa_nil) (pe_lst (pa_cons (pe_op (show OpR _ _ rAddS from op_add_str) pe_str (pe_callTy (show CallR _ _ cStrI from call_str_int) (by rfl) B.b_str PyProof.Rows.boot_str (pa_cons (pv 1) pa_nil))) pa_nil)))))
        (pss_one (ps_ret (pe_op (show OpR _ _ rAddS from op_add_str) (pe_op (show OpR _ _ rAddS from op_add_str) pe_str (show PE _ _ (tM1 (cJoin K) _ _) from pe_join pe_str (pv 2))) pe_str)))), ?_⟩
  refine bodyD h (fun ps Ψ hw hl => ?_)
  obtain ⟨w, f, rfl, ok, q⟩ := hw
  have sz : sizeLine = 16777216 := by decide
  have lg : ∀ i : Int, i.natAbs < 2 ^ 40 → i.natAbs.log2 < 1920 := fun i h => by
    by_cases e : i.natAbs = 0
    · rw [e]; decide
    · have : i.natAbs.log2 < 40 := (Nat.log2_lt e).mpr h
      omega
  have lf : f.natAbs.log2 < 1920 := lg f (by have := ok.f1; have := ok.f2; omega)
  have tf : (Str.ofString (toString f)).length ≤ 8 := len_int (k := 7) (by decide) (by have := ok.f1; have := ok.f2; omega)
  have k7 : Str.empty ++ Str.ofString "Mixing(" = Str.ofString "Mixing(" := by decide +kernel
  have k7l : (Str.ofString "Mixing(").length = 7 := by decide +kernel
  have k1 : (Str.ofString ")").length = 1 := by decide +kernel
  have kf : Str.empty ++ Str.ofString "factor=" = Str.ofString "factor=" := by decide +kernel
  have kfl : (Str.ofString "factor=").length = 7 := by decide +kernel
  have lF : (Str.ofString "factor=" ++ Str.ofString (toString f)).length ≤ 15 := by rw [app_len, kfl]; omega
  have fin : ∀ P : List Str, (∀ p ∈ P, p.length ≤ 16) → P.length ≤ 2 → (P.map (·.length)).sum + P.length * (Str.ofString ", ").length ≤ 16777216 ∧ ((Str.ofString "Mixing(").length + (Txt.join (Str.ofString ", ") P).length ≤ sizeLine) ∧ (Str.ofString "Mixing(" ++ Txt.join (Str.ofString ", ") P).length + (Str.ofString ")").length ≤ sizeLine := fun P h l => by
    obtain ⟨j1, j2⟩ := join_lenP h l
    rw [app_len, k7l, k1, sz]
    omega
  unfold mixTx fTx at q
  rw [k7, kf] at q
  cases w with
  | none =>
    refine ⟨rfl, by show 0 ≤ sizeLine; decide, ?_⟩
    by_cases e : f = 7919
    · obtain ⟨j1, j2, j3⟩ := fin [] (fun p z => nomatch z) (by decide)
      rw [if_pos e] at q
      exact ifT (eqSame e) ⟨by show 0 ≤ sizeLine; decide, by show 0 + 0 ≤ sizeLine; decide, [], rfl, j1, j2, j3, q⟩
    · obtain ⟨j1, j2, j3⟩ := fin [(Str.ofString "factor=" ++ Str.ofString (toString f))] (fun p z => by rw [List.mem_singleton.mp z]; omega) (by show 1 ≤ 2; decide)
      rw [if_neg e] at q
      exact ifF (eqDiff e) ⟨lf, by rw [kfl, sz]; omega, by show 1 ≤ sizeLine; decide, by show 0 + 1 ≤ sizeLine; decide, _, rfl, j1, j2, j3, q⟩
  | some n =>
    obtain ⟨n3, n6, -⟩ := ok.w_ n rfl
    have ln : n.natAbs.log2 < 1920 := lg n (by omega)
    have tn : (Str.ofString (toString n)).length ≤ 8 := len_int (k := 7) (by decide) (by omega)
    refine ⟨rfl, ln, by show 1 ≤ sizeLine; decide, ?_⟩
    by_cases e : f = 7919
    · obtain ⟨j1, j2, j3⟩ := fin [Str.ofString (toString n)] (fun p z => by rw [List.mem_singleton.mp z]; omega) (by show 1 ≤ 2; decide)
      rw [if_pos e] at q
      exact ifT (eqSame e) ⟨by show 0 ≤ sizeLine; decide, by show 1 + 0 ≤ sizeLine; decide, [Str.ofString (toString n)], rfl, j1, j2, j3, q⟩
    · obtain ⟨j1, j2, j3⟩ := fin [Str.ofString (toString n), (Str.ofString "factor=" ++ Str.ofString (toString f))] (fun p z => by
        simp only [List.mem_cons, List.mem_nil_iff, or_false] at z
        rcases z with rfl | rfl <;> omega) (by show 2 ≤ 2; decide)
      rw [if_neg e] at q
      exact ifF (eqDiff e) ⟨lf, by rw [kfl, sz]; omega, by show 1 ≤ sizeLine; decide, by show 1 + 1 ≤ sizeLine; decide, _, rfl, j1, j2, j3, q⟩
theorem nice_small {i : Int} (h0 : -10000000000 < i) (h1 : i < 10000000000) : Nice 0 0 (.int i) := nice_int (by
  have h2 : i.natAbs < 2 ^ 40 := by omega
  exact Nat.lt_of_lt_of_le h2 (Nat.pow_le_pow_right (by decide) (by decide)))
theorem nice_word {x : Str} (h : PyData.strOk x = true) (h2 : x.cps.size ≤ 5) : Nice 0 5 (.str x) := nice_str h h2
theorem odd_nice : ∀ d ∈ oddL, otK d = true ∧ Nice 60 8000 d := fun d hd => by
  have w : ∀ {x : Str}, PyData.strOk x = true → x.cps.size ≤ 5 → Nice 60 8000 (.str x) := fun h1 h2 => (nice_word h1 h2).mono (by decide) (by decide)
  have n : ∀ {i : Int}, i.natAbs < 2 ^ 1900 → Nice 0 0 (.int i) := fun h => nice_int h
  simp only [oddL, List.mem_cons, List.mem_nil_iff, or_false] at hd
  rcases hd with rfl | rfl | rfl | rfl | rfl | rfl | rfl | rfl | rfl | rfl | rfl | rfl | rfl | rfl | rfl | rfl | rfl
  · exact ⟨rfl, nice_non.mono (by decide) (by decide)⟩
  · exact ⟨rfl, (nice_bl _).mono (by decide) (by decide)⟩
  · exact ⟨rfl, (nice_bl _).mono (by decide) (by decide)⟩
  · exact ⟨rfl, (n (by decide +kernel)).mono (by decide) (by decide)⟩
  · exact ⟨rfl, (n (by decide +kernel)).mono (by decide) (by decide)⟩
  · exact ⟨rfl, (n (by decide +kernel)).mono (by decide) (by decide)⟩
  · exact ⟨rfl, (n (by decide +kernel)).mono (by decide) (by decide)⟩
  · exact ⟨rfl, (n (by decide +kernel)).mono (by decide) (by decide)⟩
  · exact ⟨rfl, (n (by decide +kernel)).mono (by decide) (by decide)⟩
  · exact ⟨rfl, w (by decide +kernel) (by decide +kernel)⟩
  · exact ⟨rfl, w (by decide +kernel) (by decide +kernel)⟩
  · exact ⟨rfl, w (by decide +kernel) (by decide +kernel)⟩
  · exact ⟨rfl, (nice_tup (n := 0) (b := 0) (ds := []) fun d h => nomatch h).mono (by decide) (by decide)⟩
  · exact ⟨rfl, (nice_lst (n := 0) (b := 0) (ds := []) fun d h => nomatch h).mono (by decide) (by decide)⟩
  · exact ⟨rfl, (nice_tup (n := 0) (b := 0) (ds := [.int 3]) fun d h => by rw [List.mem_singleton.mp h]; exact n (by decide +kernel)).mono (by decide) (by decide)⟩
  · exact ⟨rfl, (nice_lst (n := 0) (b := 0) (ds := [.int 7919]) fun d h => by rw [List.mem_singleton.mp h]; exact n (by decide +kernel)).mono (by decide) (by decide)⟩
  · exact ⟨rfl, (nice_tup (n := 0) (b := 0) (ds := [.int 3, .int 7]) fun d h => by
      simp only [List.mem_cons, List.mem_nil_iff, or_false] at h
      rcases h with rfl | rfl <;> exact n (by decide +kernel)).mono (by decide) (by decide)⟩
def wDrawn08 : WF := fun ps Ψ => ∃ n : Int, ps = [.box n] ∧ n < 600000000 ∧ ∀ (dw df : Dt) (m : Int), otK dw = true → otK df = true → Nice 60 8000 dw → Nice 60 8000 df → m ≤ n + 20 → Ψ (.dat (.tup [dw, df])) [.box m]
theorem okLDrawn (T : Tx K mg) : FnOk P w K mg base CX0 3 (He.ga K "_law_drawn") T.fdLDrawn ["_law_box_here"] (spD K 1 wDrawn08) := by
  have B := T.B
  have GLTake : FnOk P w K mg base CX0 1 (He.ga K "_law_take") T.fdLTake ["_law_box_here", "_law_many"] (spD K 2 wTake) := okTakeD T
  have bLTake := T.bLTake
  have GLOdd : FnOk P w K mg base CX0 2 (He.ga K "_law_odd") T.fdLOdd ["_law_box_here"] (spD K 1 wOdd08) := okLOdd T
  have bLOdd := T.bLOdd
  refine T.FLDrawn.ok scLDrawn (fun vs H Q E h => h.1) (fun cdv A outer s H vs Q E hr h => ?_)
  refine ⟨_, PSs.nox (pss_cons (ps_set (i := 1) scLDrawn.nd rfl (.inl rfl) (pe_lst (pa_cons pe_non (pa_cons pe_int (pa_cons (pe_op op_pow pe_int pe_int) (pa_cons pe_int (pa_cons (pe_op op_add (pe_op op_pow pe_int pe_int) pe_int) (pa_cons pe_int (pa_cons (pe_op op_add pe_int (pe_call GLTake (hr.mono (by decide)) (by rfl) T.gLTake T.FLTake.kp bLTake .nil pass0 (pa_cons (pv 0) (pa_cons pe_int pa_nil)))) (pa_cons (pe_call GLTake (hr.mono (by decide)) (by rfl) T.gLTake T.FLTake.kp bLTake .nil pass0 (pa_cons (pv 0) (pa_cons (pe_op op_pow pe_int pe_int) pa_nil))) pa_nil))))))))))
        (pss_cons (ps_set (i := 1) scLDrawn.nd rfl (.inl rfl) (pe_ix (show IxR _ (rIx K) from ix_seq) (pv 1) (pe_call GLTake (hr.mono (by decide)) (by rfl) T.gLTake T.FLTake.kp bLTake .nil pass0 (pa_cons (pv 0) (pa_cons pe_int pa_nil))) (fun _ _ => rfl)))
        (pss_cons (ps_set (i := 2) scLDrawn.nd rfl (.inl rfl) (pe_ix (show IxR _ (rIx K) from ix_seq) (pe_lst (pa_cons pe_int (pa_cons (pe_op op_pow pe_int pe_int) (pa_cons pe_int (pa_cons (pe_op op_add (pe_op op_pow pe_int pe_int) pe_int) (pa_cons pe_int (pa_cons (pe_op op_add pe_int (pe_call GLTake (hr.mono (by decide)) (by rfl) T.gLTake T.FLTake.kp bLTake .nil pass0 (pa_cons (pv 0) (pa_cons pe_int pa_nil)))) (pa_cons (pe_call GLTake (hr.mono (by decide)) (by rfl) T.gLTake T.FLTake.kp bLTake .nil pass0 (pa_cons (pv 0) (pa_cons (pe_op op_pow pe_int pe_int) pa_nil))) pa_nil)))))))) (pe_call GLTake (hr.mono (by decide)) (by rfl) T.gLTake T.FLTake.kp bLTake .nil pass0 (pa_cons (pv 0) (pa_cons pe_int pa_nil))) (fun _ _ => rfl)))
        (pss_cons (ps_set (i := 3) scLDrawn.nd rfl (.inl rfl) (pe_call GLTake (hr.mono (by decide)) (by rfl) T.gLTake T.FLTake.kp bLTake .nil pass0 (pa_cons (pv 0) (pa_cons pe_int pa_nil))))
        (pss_one (ps_ret (pe_tup (pa_cons (pe_ifExp (pt_cmpR (opEqA (K := K) rfl hr.units) (pv 3) pe_int (nomark _)) (pe_call GLOdd (hr.mono (by decide)) (by rfl) T.gLOdd T.FLOdd.kp bLOdd .nil pass0 (pa_cons (pv 0) pa_nil)) (pv 1)) (pa_cons (pe_ifExp (pt_cmpR (opEqA (K := K) rfl hr.units) (pv 3) pe_int (nomark _)) (pe_call GLOdd (hr.mono (by decide)) (by rfl) T.gLOdd T.FLOdd.kp bLOdd .nil pass0 (pa_cons (pv 0) pa_nil)) (pv 2)) pa_nil))))))))), ?_⟩
  refine bodyD h (fun ps Ψ hw hl => ?_)
  obtain ⟨n, rfl, hn, q⟩ := hw
  refine ⟨⟨by decide, by decide, by decide⟩, ⟨by decide, by decide, by decide⟩, rfl, ⟨by omega, by decide, by decide⟩, fun a a0 a1 => ?_⟩
  have a1 : a < 40 := a1
  refine ⟨⟨by decide, by decide, by decide⟩, rfl, ⟨by omega, by decide, by decide⟩, fun b b0 b1 => ⟨by show 8 ≤ sizeLine; decide, ?_⟩⟩
  have b1 : b < 1000000 := b1
  refine ⟨rfl, ⟨by omega, by decide, by decide⟩, fun i i0 i1 => ?_⟩
  obtain ⟨dw, ew, mw⟩ := atD (xs := [Dt.non, .int 3, .int 1000000, .int 2, .int 1000001, .int 7919, .int (3 + a), .int b]) i0 i1
  refine ⟨dw, ew, ?_⟩
  have gw : otK dw = true ∧ Nice 60 8000 dw := by
    simp only [List.mem_cons, List.mem_nil_iff, or_false] at mw
    rcases mw with rfl | rfl | rfl | rfl | rfl | rfl | rfl | rfl
    · exact ⟨rfl, nice_non.mono (by decide) (by decide)⟩
    all_goals exact ⟨rfl, (nice_small (by omega) (by omega)).mono (by decide) (by decide)⟩
  clear ew mw i0 i1
  refine ⟨⟨by decide, by decide, by decide⟩, ⟨by decide, by decide, by decide⟩, rfl, ⟨by omega, by decide, by decide⟩, fun a a0 a1 => ?_⟩
  have a1 : a < 40 := a1
  refine ⟨⟨by decide, by decide, by decide⟩, rfl, ⟨by omega, by decide, by decide⟩, fun b b0 b1 => ⟨by show 7 ≤ sizeLine; decide, ?_⟩⟩
  have b1 : b < 1000000 := b1
  refine ⟨rfl, ⟨by omega, by decide, by decide⟩, fun i i0 i1 => ?_⟩
  obtain ⟨df, ef, mf⟩ := atD (xs := [Dt.int 1, .int 1000000, .int 0, .int 1000001, .int 7919, .int (1 + a), .int b]) i0 i1
  refine ⟨df, ef, ?_⟩
  have gf : otK df = true ∧ Nice 60 8000 df := by
    simp only [List.mem_cons, List.mem_nil_iff, or_false] at mf
    rcases mf with rfl | rfl | rfl | rfl | rfl | rfl | rfl
    all_goals exact ⟨rfl, (nice_small (by omega) (by omega)).mono (by decide) (by decide)⟩
  clear ef mf i0 i1
  refine ⟨rfl, ⟨by omega, by decide, by decide⟩, fun o o0 o1 => ?_⟩
  by_cases e0 : o = 0
  · refine ifT (eqSame e0) ⟨rfl, _, rfl, by omega, fun d hd => ?_⟩
    obtain ⟨g1, g2⟩ := odd_nice d hd
    refine ifF (eqDiff (by rw [e0]; decide)) ⟨by show 2 ≤ sizeLine; decide, ?_⟩
    exact q d df _ g1 gf.1 g2 gf.2 (by omega)
  · refine ifF (eqDiff e0) ?_
    by_cases e1 : o = 1
    · refine ifT (eqSame e1) ⟨rfl, _, rfl, by omega, fun d hd => ?_⟩
      obtain ⟨g1, g2⟩ := odd_nice d hd
      exact ⟨by show 2 ≤ sizeLine; decide, q dw d _ gw.1 g1 gw.2 g2 (by omega)⟩
    · exact ifF (eqDiff e1) ⟨by show 2 ≤ sizeLine; decide, q dw df _ gw.1 gf.1 gw.2 gf.2 (by omega)⟩
end
section
variable {P : Program} {w : World} {K : PySem.W.Frag} {mg : Str → Option Value} {base : Heap}
local macro_rules | `(tactic| get_elem_tactic_trivial) => `(tactic| (repeat first | exact Wk.nil | exact Wk'.nil | refine Wk.same ?_ | refine Wk'.same ?_ | refine Wk.un (fun _ z => nomatch z) ?_ | refine Wk'.un ?_))
/-! one mixing looked at -/
def wBegin08 : WF := fun ps Ψ => ∃ (w : Option Int) (f : Int) (b : Bool), ps = [.dat (mixD w f), .dat (.bl b)] ∧ Ψ (.dat (.int (if b = true then 2 else 1))) ps
theorem okMixingBegin (T : Tx K mg) : FnOk P w K mg base CX0 1 (He.ma K (He.ga K "Mixing") "begin") T.fdMixingBegin ["self", "reset"] (spD K 2 wBegin08) := by
  have B := T.B
  refine T.FMixingBegin.ok scMixingBegin (fun vs H Q E h => h.1) (fun cdv A outer s H vs Q E hr h => ?_)
  refine ⟨_, PSs.nox (pss_one (ps_ret (pe_ifExp (pt_val (pv 1)) pe_int pe_int))), ?_⟩
  refine bodyD h (fun ps Ψ hw hl => ?_)
  obtain ⟨w, f, b, rfl, q⟩ := hw
  cases b
  · exact q
  · exact q
theorem kMixingBeginR (T : Tx K mg) : ∃ mv : List Value, KBn K T.fdMixingBegin ["self", "reset"] 1 ["reset"] (fun us ws => us ++ ws) (fun vs zs => vs ++ zs) :=
  T.FMixingBegin.kbinds0 1 ["reset"] [] (fun us mv ws => us ++ ws) (by decide) (by simp) (fun a b c => a.append c) fun D doc pm an cdv ct us mv ws h1 h2 h3 => match us, mv, ws, h1, h2, h3 with
    | [u], [], [w], _, _, _ => rfl
theorem bMixingBegin1 (T : Tx K mg) : ∃ ds, Vals [.bl false] ds ∧ Binds K T.fdMixingBegin ["self", "reset"] ds := T.FMixingBegin.binds0 1 (by decide) rfl fun D doc pm an cdv ct us ks h1 h2 => match us, ks, h1, h2 with
  | [u0], [k0], _, _ => ⟨_, _, _, _, _, _, rfl, rfl, rfl⟩
theorem mix_good {w : Option Int} {f : Int} (ok : OkMix w f) : widD (wDt w) = true ∧ facD (.int f) (wDt w) = true := by
  have f1 := ok.f1
  have f2 := ok.f2
  cases w with
  | none =>
    refine ⟨rfl, ?_⟩
    show (decide (1 ≤ f) && decide (f ≤ 1000000) && true) = true
    rw [decide_eq_true f1, decide_eq_true f2]
    rfl
  | some n =>
    obtain ⟨n3, n6, c⟩ := ok.w_ n rfl
    have hp : 0 < Int.gcd f n := Nat.pos_of_ne_zero fun z => by
      have := (Int.gcd_eq_zero_iff.mp z).1
      omega
    have hg : Int.gcd f n = 1 := by
      have := c (Int.gcd f n : Nat) (by omega) (Int.gcd_dvd_left ..) (Int.gcd_dvd_right ..)
      omega
    constructor
    · show (decide (3 ≤ n) && decide (n ≤ 1000000)) = true
      rw [decide_eq_true n3, decide_eq_true n6]
      rfl
    · show (decide (1 ≤ f) && decide (f ≤ 1000000) && decide (Int.gcd f n = 1)) = true
      rw [decide_eq_true f1, decide_eq_true f2, decide_eq_true hg]
      rfl
def wOneR08 : W3F := fun ps μ Ψ _ => ∃ (w : Option Int) (f : Int), ps = [.dat (mixD w f), .dat (wDt w), .dat (.int f)] ∧ μ = [] ∧ OkMix w f ∧ Ψ (.dat (.bl true)) ps []
theorem okLOneRight (T : Tx K mg) : FnOkG P w K mg base 7 (He.ga K "_law_one_right") T.fdLOneRight ["_law_made", "_law_width", "_law_by"] (sp3 K 3 wOneR08) := by
  have B := T.B
  have GMixingBegin : FnOk P w K mg base CX0 1 (He.ma K (He.ga K "Mixing") "begin") T.fdMixingBegin ["self", "reset"] (spD K 2 wBegin08) := okMixingBegin T
  have GLText : FnOk P w K mg base CX0 1 (He.ga K "_law_text") T.fdLText ["_law_width", "_law_by"] (spD K 2 wText08) := okLText T
  have bLText := T.bLText
  have GMixingInit : FnOk P w K mg base CX0 3 (He.ma K (He.ga K "Mixing") "__init__") T.fdMixingInit ["self", "width", "factor"] (sp3 K 3 (wfN3 wMixI3)) := FnOk.calm3 (Mx.okMixingInit T)
  obtain ⟨_, kMixingBegin_reset⟩ := kMixingBeginR T
  obtain ⟨_, rMixingBegin_1, bMixingBegin_1⟩ := bMixingBegin1 T
  haveI : IsA K "Mixing" := ⟨T.clMixing, T.is_Mixing, T.io_Mixing⟩
  have GMixingEq : FnOk P w K mg base CX0 1 (He.ma K (He.ga K "Mixing") "__eq__") T.fdMixingEq ["self", "other"] (spD K 2 wMixEq) := okMixingEq T
  have bMixingEq := T.bMixingEq
  have GMixingRepr : FnOk P w K mg base CX0 1 (He.ma K (He.ga K "Mixing") "__repr__") T.fdMixingRepr ["self"] (spD K 1 wMixRepr) := okMixingRepr T
  have bMixingRepr := T.bMixingRepr
  have GMixingStr : FnOk P w K mg base CX0 3 (He.ma K (He.ga K "Mixing") "__str__") T.fdMixingStr ["self"] (spD K 1 wMixRepr) := okMixingStr T
  have bMixingStr := T.bMixingStr
  obtain ⟨_, kbMixingInit_2_factor⟩ := T.kbMixingInit_2_factor
  refine okG_of T.FLOneRight scLOneRight (fun vs H Q E h => h.1) (fun cdv A outer s H vs Q E hg hr h => ?_)
  have hg : A.guards = some [] := hg
  refine ⟨_, PSs.nox (pss_cons (ps_if (PW.pt (pw_or (pt_not (pt_val (pe_callB (show CallR _ _ (rIsi K) from call_isi) (by rfl) B.b_isinstance boot_isinstance (pa_cons (pv 0) (pa_cons (pe_glob (v := .ref (He.ga K "Mixing")) (by rfl) T.gMixing rfl) pa_nil))))) (pw_or1 (pt_cmpR (opNeA (K := K) rfl hr.units) (pe_callB (show CallR _ _ (cRepr K) from call_reprD hg hr.units) (by rfl) B.b_repr (by decide +kernel) (pa_cons (pe_lst (pa_cons (asPE (tFld3 K _ "width") (pe_fld (pv 0) rfl)) (pa_cons (asPE (tFld3 K _ "factor") (pe_fld (pv 0) rfl)) pa_nil))) pa_nil)) (pe_callB (show CallR _ _ (cRepr K) from call_reprD hg hr.units) (by rfl) B.b_repr (by decide +kernel) (pa_cons (pe_lst (pa_cons (pv 1) (pa_cons (pv 2) pa_nil))) pa_nil)) (nomark _))))) (pss_one (ps_ret pe_bl)) pss_nil)
        (pss_cons (ps_if (pt_cmpR (opNeA (K := K) rfl hr.units) (pe_lst (pa_cons (pe_meth0 (pv 0) T.clMixing T.mMixingBegin GMixingBegin (hr.mono (by decide)) bMixingBegin_1 rMixingBegin_1 pass0) (pa_cons (pe_methKw (pv 0) T.clMixing T.mMixingBegin GMixingBegin (hr.mono (by decide)) kMixingBegin_reset pass0 (pk_cons pe_bl pk_nil)) (pa_cons (pe_methKw (pv 0) T.clMixing T.mMixingBegin GMixingBegin (hr.mono (by decide)) kMixingBegin_reset pass0 (pk_cons pe_bl pk_nil)) pa_nil)))) (pe_lst (pa_cons pe_int (pa_cons pe_int (pa_cons pe_int pa_nil)))) (nomark _)) (pss_one (ps_ret pe_bl)) pss_nil)
        (pss_cons (ps_if (PW.pt (pw_or (pt_cmpR (opEqAny (K := K) rfl T.mMixingEq GMixingEq bMixingEq (hr.mono (by decide))) (pv 0) (pe_tup (pa_cons (pv 1) (pa_cons (pv 2) pa_nil))) (nomark _)) (pw_or (pt_cmpR (opEqAny (K := K) rfl T.mMixingEq GMixingEq bMixingEq (hr.mono (by decide))) (pv 0) (pe_callTy (cStrOwn T.mMixingStr GMixingStr bMixingStr (hr.mono (by decide))) (by rfl) B.b_str PyProof.Rows.boot_str (pa_cons (pv 0) pa_nil)) (nomark _)) (pw_or1 (pt_not (pt_cmpR (opEqAny (K := K) rfl T.mMixingEq GMixingEq bMixingEq (hr.mono (by decide))) (pv 0) (peCool3 (asPE (tMake3 _ 1 1 _ _ _ _ _) (pe_make3 (ks := ["factor"]) T.mkMixing GMixingInit (hr.mono (by decide)) (by rfl) T.gMixing kbMixingInit_2_factor (pass0S (fun cls d _ H => E cls d H)) (pa_cons (pv 1) pa_nil) (pk_cons (pv 2) pk_nil)))) (nomark _))))))) (pss_one (ps_ret pe_bl)) pss_nil)
        (pss_one (ps_ret (pe_and (pe_cmpR (opEqA (K := K) rfl hr.units) (pe_callTy (cStrOwn T.mMixingStr GMixingStr bMixingStr (hr.mono (by decide))) (by rfl) B.b_str PyProof.Rows.boot_str (pa_cons (pv 0) pa_nil)) (pe_call GLText (hr.mono (by decide)) (by rfl) T.gLText T.FLText.kp bLText .nil pass0 (pa_cons (pv 1) (pa_cons (pv 2) pa_nil))) (nomark _)) (pe_one (pe_cmpR (opEqA (K := K) rfl hr.units) (pe_callB (cReprOwn T.mMixingRepr GMixingRepr bMixingRepr (hr.mono (by decide))) (by rfl) B.b_repr (by decide +kernel) (pa_cons (pv 0) pa_nil)) (pe_call GLText (hr.mono (by decide)) (by rfl) T.gLText T.FLText.kp bLText .nil pass0 (pa_cons (pv 1) (pa_cons (pv 2) pa_nil))) (nomark _))))))))), ?_⟩
  refine body3 h (fun ps μ Ψ Ξ hw hl => ?_)
  obtain ⟨w, f, rfl, rfl, ok, q⟩ := hw
  have nf : Nice 0 0 (.int f) := nice_small (by have := ok.f1; omega) (by have := ok.f2; omega)
  have nw : Nice 0 0 (wDt w) := by
    cases w with
    | none => exact nice_non
    | some n =>
      obtain ⟨n3, n6, -⟩ := ok.w_ n rfl
      exact nice_small (by omega) (by omega)
  have nl : Nice 60 8000 (.lst [wDt w, .int f]) := (nice_lst (n := 0) (b := 0) (ds := [wDt w, .int f]) fun d h => by
    simp only [List.mem_cons, List.mem_nil_iff, or_false] at h
    rcases h with rfl | rfl
    · exact nw
    · exact nf).mono (by decide) (by show 2 ≤ 8000; decide)
  refine ⟨rfl, fldW T, _, rfl, fldF T, _, rfl, by show 2 ≤ sizeLine; decide, nl, by show 2 ≤ sizeLine; decide, nl, ifF (by rw [if_pos rfl]; show (!decide (shw (.lst [wDt w, .int f]) = shw (.lst [wDt w, .int f]))) = false; rw [decide_eq_true rfl]; rfl) ?_⟩
  refine ⟨⟨rfl, by decide +kernel⟩, rfl, w, f, false, rfl, ?_⟩
  refine ⟨⟨rfl, by decide +kernel⟩, ⟨rfl, rfl, rfl⟩, w, f, true, rfl, ?_⟩
  refine ⟨⟨rfl, by decide +kernel⟩, ⟨rfl, rfl, rfl⟩, w, f, false, rfl, by show 3 ≤ sizeLine; decide, by show 3 ≤ sizeLine; decide, ?_⟩
  refine ⟨⟨rfl, rfl, rfl, rfl⟩, ?_⟩
  refine ⟨by show 2 ≤ sizeLine; decide, ⟨_, _, rfl⟩, w, f, _, rfl, .inr ⟨rfl, false, rfl, ?_⟩⟩
  refine ⟨⟨_, _, rfl⟩, w, f, rfl, ok, _, rfl, ⟨_, _, rfl⟩, w, f, _, rfl, .inr ⟨rfl, false, rfl, ?_⟩⟩
  obtain ⟨g1, g2⟩ := mix_good ok
  refine ⟨⟨rfl, rfl⟩, "Mixing", rfl, fun a => ⟨rfl, [], [], .refl _, a, wDt w, .int f, rfl, rfl, nw.mono (by decide) (by decide), nf.mono (by decide) (by decide), .inr (.inr ⟨g1, g2, .ins "Mixing" ["width", "factor"] [wDt w, .int f], [], .refl _, ?_⟩)⟩⟩
  refine ⟨⟨_, _, rfl⟩, rfl, w, f, _, rfl, .inl ⟨w, f, rfl, _, rfl, ifF (by rw [decide_eq_true rfl, decide_eq_true rfl]; rfl) ?_⟩⟩
  refine ⟨⟨_, _, rfl⟩, w, f, rfl, ok, _, rfl, rfl, w, f, rfl, ok, ifT (eqSame rfl) ?_⟩
  refine ⟨⟨_, _, rfl⟩, w, f, rfl, ok, _, rfl, rfl, w, f, rfl, ok, ?_⟩
  have e := eqSame (rfl : mixTx w f = mixTx w f)
  rw [← e] at q
  exact ⟨_, .refl _, q⟩
theorem eD_pr (w w2 : Option Int) (f f2 : Int) : eD (.tup [wDt w, .int f]) (.tup [wDt w2, .int f2]) = (decide (w = w2) && decide (f = f2)) := by
  unfold eD
  cases w <;> cases w2 <;> simp [Dt.py, pys, wDt, PyData.eqv, PyData.eqvAll] <;> rfl
theorem pr_nice {w : Option Int} {f : Int} (ok : OkMix w f) : Nice 60 8000 (.tup [wDt w, .int f]) := by
  have nf : Nice 0 0 (.int f) := nice_small (by have := ok.f1; omega) (by have := ok.f2; omega)
  have nw : Nice 0 0 (wDt w) := by
    cases w with
    | none => exact nice_non
    | some n =>
      obtain ⟨n3, n6, -⟩ := ok.w_ n rfl
      exact nice_small (by omega) (by omega)
  exact (nice_tup (n := 0) (b := 0) (ds := [wDt w, .int f]) fun d h => by
    simp only [List.mem_cons, List.mem_nil_iff, or_false] at h
    rcases h with rfl | rfl
    · exact nw
    · exact nf).mono (by decide) (by show 2 ≤ 8000; decide)
def prD (p : Option Int × Int) : Dt := .tup [mixD p.1 p.2, .tup [wDt p.1, .int p.2]]
theorem due_non {dw df : Dt} (h : dueM dw df = .non) : ∃ (w : Option Int) (f : Int), dw = wDt w ∧ df = .int f ∧ OkMix w f := by
  unfold dueM at h
  cases h1 : widD dw with
  | false => rw [if_pos h1] at h; cases h
  | true =>
    rw [if_neg (by rw [h1]; exact Bool.noConfusion)] at h
    cases h2 : facD df dw with
    | false => rw [if_pos h2] at h; cases h
    | true =>
      cases df with
      | int f =>
        cases dw with
        | non =>
          have e : (decide (1 ≤ f) && decide (f ≤ 1000000) && true) = true := h2
          rw [Bool.and_eq_true, Bool.and_eq_true, decide_eq_true_eq, decide_eq_true_eq] at e
          exact ⟨none, f, rfl, rfl, e.1.1, e.1.2, fun n z => nomatch z⟩
        | int n =>
          have e : (decide (1 ≤ f) && decide (f ≤ 1000000) && decide (Int.gcd f n = 1)) = true := h2
          rw [Bool.and_eq_true, Bool.and_eq_true, decide_eq_true_eq, decide_eq_true_eq, decide_eq_true_eq] at e
          have hw : (decide (3 ≤ n) && decide (n ≤ 1000000)) = true := h1
          rw [Bool.and_eq_true, decide_eq_true_eq, decide_eq_true_eq] at hw
          refine ⟨some n, f, rfl, rfl, e.1.1, e.1.2, fun m z => ?_⟩
          cases z
          refine ⟨hw.1, hw.2, fun c c0 d1 d2 => ?_⟩
          have d := Int.dvd_coe_gcd d1 d2
          rw [e.2] at d
          exact Int.eq_one_of_dvd_one (by omega) d
        | _ => exact Bool.noConfusion (show false = true from h1)
      | _ => exact Bool.noConfusion (show false = true from h2)
end
section
variable {P : Program} {w : World} {K : PySem.W.Frag} {mg : Str → Option Value} {base : Heap}
local macro_rules | `(tactic| get_elem_tactic_trivial) => `(tactic| (repeat first | exact Wk.nil | exact Wk'.nil | refine Wk.same ?_ | refine Wk'.same ?_ | refine Wk.un (fun _ z => nomatch z) ?_ | refine Wk'.un ?_))
/-! the law -/
def wLaw3 : W3F := fun ps μ Ψ _ => ∃ ns : List Int, ps = [.dat (.scr ns)] ∧ μ = [] ∧ ns.length ≤ 63 ∧ Ψ (.dat (.bl true)) ps []
theorem law_sp3 {vs : List V} {H : Hp} {Q : VK} {E : XK} (h : spLawD K vs H Q E) : sp3 K 1 wLaw3 vs H Q E := by
  obtain ⟨l, C, bx, ps, Ψ0, S, hw, k⟩ := h
  match ps, S, hw with
  | [.dat (.scr ns)], S, hw =>
    refine ⟨l, C, fun _ => none, bx, _, [], [], fun r ps' _ => r = .dat (.bl true) ∧ ps' = [.dat (.scr ns)], fun _ _ _ _ => False, S, rfl, ⟨.nil, fun a f h => (nomatch h), fun a o h => (nomatch h), fun a o h => (nomatch h)⟩, fun a o h => (nomatch h), ⟨ns, rfl, rfl, hw.1, rfl, rfl⟩, fun C' G v r ps' μ' ok e => ?_, fun _ _ _ _ _ _ _ _ _ _ z => z.elim⟩
    obtain ⟨rfl, rfl⟩ := e
    obtain ⟨⟨m, e, U, M, S'⟩, rp⟩ := ok
    have eB : subU H (fun _ => none) = H := funext fun a => subU_off rfl
    have S2 := S'.unhang M
    rw [eB] at S2
    exact k C' G v (.dat (.bl true)) _ S2 rp hw.2

theorem Tx.kbLOneRight_3 {K : PySem.W.Frag} {mg : Str → Option Value} (T : Tx K mg) : ∃ g : List Value → List Value → List Value, KBn K T.fdLOneRight ["_law_made", "_law_width", "_law_by"] 3 [] g (gB [0, 1, 2] []) := kbAllN T.FLOneRight 3 [] [0, 1, 2] fun kV doc pm an cdv ct us ws h1 h2 => match us, ws, h1, h2 with
  | [u0, u1, u2], [], _, _ => rfl
theorem Tx.kbLTold_3 {K : PySem.W.Frag} {mg : Str → Option Value} (T : Tx K mg) : ∃ g : List Value → List Value → List Value, KBn K T.fdLTold ["_law_width", "_law_by", "_law_way"] 3 [] g (gB [0, 1, 2] []) := kbAllN T.FLTold 3 [] [0, 1, 2] fun kV doc pm an cdv ct us ws h1 h2 => match us, ws, h1, h2 with
  | [u0, u1, u2], [], _, _ => rfl
theorem okLaw (T : Tx K mg) : FnOkG P w K mg base 11 (He.ga K "law") T.fdLaw ["_law_script"] (spLawD K) := by
  have B := T.B
  have GLBox : FnOk P w K mg base CX0 1 (He.ga K "_law_box") T.fdLBox ["_law_script", "_law_k"] (spLBox K) := okLBox T
  have bLBox := T.bLBox
  have GMixingInit : FnOk P w K mg base CX0 3 (He.ma K (He.ga K "Mixing") "__init__") T.fdMixingInit ["self", "width", "factor"] (sp3 K 3 (wfN3 wMixI3)) := FnOk.calm3 (Mx.okMixingInit T)
  have GLDrawn : FnOk P w K mg base CX0 3 (He.ga K "_law_drawn") T.fdLDrawn ["_law_box_here"] (spD K 1 wDrawn08) := okLDrawn T
  have bLDrawn := T.bLDrawn
  have GLTake : FnOk P w K mg base CX0 1 (He.ga K "_law_take") T.fdLTake ["_law_box_here", "_law_many"] (spD K 2 wTake) := okTakeD T
  have bLTake := T.bLTake
  have GLDue : FnOk P w K mg base CX0 2 (He.ga K "_law_due") T.fdLDue ["_law_width", "_law_by"] (spD K 2 wDue08) := okLDue T
  have bLDue := T.bLDue
  have GLTold : FnOk P w K mg base CX0 5 (He.ga K "_law_told") T.fdLTold ["_law_width", "_law_by", "_law_way"] (sp3 K 3 wTold08) := okLTold T
  have bLTold := T.bLTold
  have GLOneRight : FnOkG P w K mg base 7 (He.ga K "_law_one_right") T.fdLOneRight ["_law_made", "_law_width", "_law_by"] (sp3 K 3 wOneR08) := okLOneRight T
  have bLOneRight := T.bLOneRight
  haveI : IsA K "Mixing" := ⟨T.clMixing, T.is_Mixing, T.io_Mixing⟩
  have GMixingEq : FnOk P w K mg base CX0 1 (He.ma K (He.ga K "Mixing") "__eq__") T.fdMixingEq ["self", "other"] (spD K 2 wMixEq) := okMixingEq T
  have bMixingEq := T.bMixingEq
  obtain ⟨_, kbLOneRight_3⟩ := T.kbLOneRight_3
  obtain ⟨_, kbLTold_3⟩ := T.kbLTold_3
  obtain ⟨_, kbMixingInit_1⟩ := T.kbMixingInit_1
  refine okG_of T.FLaw scLaw (fun vs H Q E h => h.1) (fun cdv A outer s H vs Q E hg hr h => ?_)
  have hg : A.guards = some [] := hg
  refine ⟨_, PSs.nox (pss_cons (ps_set (i := 1) scLaw.nd rfl (.inl rfl) (pe_lst (pa_cons (pe_tup (pa_cons (peCool3 (asPE (tMake3 _ 0 0 _ _ _ _ _) (pe_make30 (ks := []) T.mkMixing GMixingInit (hr.mono (by decide)) (by rfl) T.gMixing kbMixingInit_1 (pass0S (fun cls d _ H => E cls d H)) pk_nil))) (pa_cons (pe_tup (pa_cons pe_non (pa_cons (pe_glob (v := .int 7919) (by rfl) T.c_FACTOR.choose_spec ⟨_, rfl⟩) pa_nil))) pa_nil))) pa_nil)))
        (pss_cons (ps_for PassesOwn.never rfl (pi_range1 (by rfl) B.b_range (pa_cons (pe_callB (show CallR _ _ cMax2 from call_max2 rfl) (by rfl) B.b_max boot_max (pa_cons pe_int (pa_cons (pe_callB (show CallR _ _ cMin2 from call_min2 rfl) (by rfl) B.b_min boot_min (pa_cons pe_int (pa_cons (pe_callB (show CallR _ _ (rLen K) from call_len) (by rfl) B.b_len PySem.boot_len (pa_cons (pv 0) pa_nil)) pa_nil))) pa_nil))) pa_nil)) (pg_name (i := 2) scLaw.nd rfl (Or.inl rfl))
        (pss_cons (ps_set (i := 3) scLaw.nd rfl (.inl rfl) (pe_call GLBox (hr.mono (by decide)) (by rfl) T.gLBox T.FLBox.kp bLBox .nil pass0 (pa_cons (pv 0) (pa_cons (pv 2) pa_nil))))
        (pss_one (ps_for PassesOwn.never rfl (pi_range1 (by rfl) B.b_range (pa_cons pe_int pa_nil)) (pg_name (i := 4) scLaw.nd rfl (Or.inl rfl))
        (pss_cons (ps_asg (pe_call GLDrawn (hr.mono (by decide)) (by rfl) T.gLDrawn T.FLDrawn.kp bLDrawn .nil pass0 (pa_cons (pv 3) pa_nil)) (show PG _ _ (gTup K 2 _) from pg_tup rfl (pgs_cons (pg_name (i := 5) scLaw.nd rfl (Or.inl rfl)) (pgs_cons (pg_name (i := 6) scLaw.nd rfl (Or.inl rfl)) pgs_nil))))
        (pss_cons (ps_set (i := 7) scLaw.nd rfl (.inl rfl) (pe_op op_fdiv (pe_call GLTake (hr.mono (by decide)) (by rfl) T.gLTake T.FLTake.kp bLTake .nil pass0 (pa_cons (pv 3) (pa_cons pe_int pa_nil))) pe_int))
        (pss_cons (ps_set (i := 6) scLaw.nd rfl (.inl rfl) (pe_ifExp (pt_cmpR (opEqA (K := K) rfl hr.units) (pv 7) pe_int (nomark _)) (pe_glob (v := .int 7919) (by rfl) T.c_FACTOR.choose_spec ⟨_, rfl⟩) (pv 6)))
        (pss_cons (ps_par (i := 8) (j := 9) (by rfl) scLaw.nd rfl rfl (by decide) rfl rfl (pa_cons (pe_call GLDue (hr.mono (by decide)) (by rfl) T.gLDue T.FLDue.kp bLDue .nil pass0 (pa_cons (pv 5) (pa_cons (pv 6) pa_nil))) (pa_cons (asPE (tCall3 3 0 _ _ _ _ _) (pe_call3 (ks := []) GLTold (hr.mono (by decide)) (by rfl) T.gLTold T.FLTold.kp kbLTold_3 (pass0S (fun cls d _ H => E cls d H)) (pa_cons (pv 5) (pa_cons (pv 6) (pa_cons (pv 7) pa_nil))) pk_nil)) pa_nil)) (by rfl))
        (pss_cons (ps_if (PW.pt (pw_or (PW.pt (pw_and (pt_cmpR (show OpR _ _ rNotNone from op_notN) (pv 8) pe_non (nomark _)) (pw_and1 (pt_cmpR (opNeA (K := K) rfl hr.units) (pv 9) (pv 8) (nomark _))))) (pw_or1 (PW.pt (pw_and (pt_cmpR (show OpR _ _ rIsNone from op_isN) (pv 8) pe_non (nomark _)) (pw_and1 (pt_not (pt_val (asPE (tCall3 3 0 _ _ _ _ _) (pe_call3G hg (ks := []) GLOneRight (hr.mono (by decide)) (by rfl) T.gLOneRight T.FLOneRight.kp kbLOneRight_3 (pass0S (fun cls d _ H => E cls d H)) (pa_cons (pv 9) (pa_cons (pv 5) (pa_cons (pv 6) pa_nil))) pk_nil)))))))))) (pss_one (ps_ret pe_bl)) pss_nil)
        (pss_one (ps_if (pt_cmpR (show OpR _ _ rIsNone from op_isN) (pv 8) pe_non (nomark _)) (pss_one (ps_expr (show PE _ _ (tBM K "list" rAppend _ _) from (pe_bm PySem.F.plainAttrs_list PySem.F.slot_list_append PySem.F.type_list_append mt_append (pv 1) (pa_cons (pe_tup (pa_cons (pv 9) (pa_cons (pe_tup (pa_cons (pv 5) (pa_cons (pv 6) pa_nil))) pa_nil))) pa_nil))))) pss_nil)))))))))))
        (pss_cons (ps_for PassesOwn.never rfl (piAny (K := K) rfl (pe_slice (show SlR _ (rSlL K) from sl_list) (pv 1) po_none (po_some pe_int))) (show PG _ _ (gTup K 2 _) from pg_tup rfl (pgs_cons (pg_name (i := 10) scLaw.nd rfl (Or.inl rfl)) (pgs_cons (pg_name (i := 11) scLaw.nd rfl (Or.inl rfl)) pgs_nil)))
        (pss_one (ps_for PassesOwn.never rfl (piAny (K := K) rfl (pe_slice (show SlR _ (rSlL K) from sl_list) (pv 1) (po_some (pe_un un_neg pe_int)) po_none)) (show PG _ _ (gTup K 2 _) from pg_tup rfl (pgs_cons (pg_name (i := 12) scLaw.nd rfl (Or.inl rfl)) (pgs_cons (pg_name (i := 13) scLaw.nd rfl (Or.inl rfl)) pgs_nil)))
        (pss_one (ps_if (PW.pt (pw_or (pt_cmpR (opNeA (K := K) rfl hr.units) (pe_cmpR (opEqAny (K := K) rfl T.mMixingEq GMixingEq bMixingEq (hr.mono (by decide))) (pv 10) (pv 12) (nomark _)) (pe_cmpR (opEqA (K := K) rfl hr.units) (pv 11) (pv 13) (nomark _)) (nomark _)) (pw_or1 (pt_cmpR (opNeA (K := K) rfl hr.units) (pe_cmpR (opNeOwn T.is_Mixing.ne T.is_Mixing.ob T.mMixingEq GMixingEq bMixingEq (hr.mono (by decide))) (pv 10) (pv 12) (nomark _)) (pe_cmpR (opNeA (K := K) rfl hr.units) (pv 11) (pv 13) (nomark _)) (nomark _))))) (pss_one (ps_ret pe_bl)) pss_nil)))))
        (pss_one (ps_ret (pe_cmpR (opEqA (K := K) rfl hr.units) (pe_glob (v := .int 7919) (by rfl) T.c_FACTOR.choose_spec ⟨_, rfl⟩) pe_int (nomark _))))))), ?_⟩
  refine body3 (law_sp3 h) (fun ps μ Ψ Ξ hw hl => ?_)
  obtain ⟨ns, rfl, rfl, lns, q⟩ := hw
  have sz : sizeLine = 16777216 := by decide
  refine ⟨⟨rfl, rfl⟩, "Mixing", rfl, fun a => ⟨rfl, [], [], .refl _, a, .non, .int 7919, rfl, rfl, nice_non.mono (by decide) (by decide), (nice_small (by decide) (by decide)).mono (by decide) (by decide), .inr (.inr ⟨rfl, by decide +kernel, .ins "Mixing" ["width", "factor"] [.non, .int 7919], [], .refl _, ?_⟩)⟩⟩
  refine ⟨by show 2 ≤ sizeLine; decide, by show 2 ≤ sizeLine; decide, by show 1 ≤ sizeLine; decide, ?_⟩
  show Fs3.nx _ [.dat (.scr ns), .hot [prD (none, 7919)], .un, .un, .un, .un, .un, .un, .un, .un, .un, .un, .un, .un] []
  obtain ⟨N, eN, hN⟩ : ∃ N : Nat, (if (1 : Int) < (if ((ns.length : Nat) : Int) < 6 then ((ns.length : Nat) : Int) else 6) then (if ((ns.length : Nat) : Int) < 6 then ((ns.length : Nat) : Int) else 6) else 1) = (N : Int) ∧ N ≤ 6 := by
    refine ⟨(if (1 : Int) < (if ((ns.length : Nat) : Int) < 6 then ((ns.length : Nat) : Int) else 6) then (if ((ns.length : Nat) : Int) < 6 then ((ns.length : Nat) : Int) else 6) else 1).toNat, ?_, ?_⟩
    · split <;> (split <;> omega)
    · split <;> (split <;> omega)
  refine ⟨?_, ?_, fun j ρ μ => ∃ P : List (Option Int × Int), (∀ p ∈ P, OkMix p.1 p.2) ∧ P.length ≤ 1 + 12 * j ∧ ρ = [.dat (.scr ns), .hot (P.map prD), .un, .un, .un, .un, .un, .un, .un, .un, .un, .un, .un, .un] ∧ μ = [], To3.of ⟨[(none, 7919)], fun p hp => ?_, Nat.le_refl _, rfl, rfl⟩ (by get_elem_tactic_trivial), ?_, ?_⟩
  · show -4611686018427387904 ≤ (if (1 : Int) < (if ((ns.length : Nat) : Int) < 6 then ((ns.length : Nat) : Int) else 6) then (if ((ns.length : Nat) : Int) < 6 then ((ns.length : Nat) : Int) else 6) else 1)
    omega
  · show (if (1 : Int) < (if ((ns.length : Nat) : Int) < 6 then ((ns.length : Nat) : Int) else 6) then (if ((ns.length : Nat) : Int) < 6 then ((ns.length : Nat) : Int) else 6) else 1) < 4611686018427387904
    omega
  · rw [List.mem_singleton.mp hp]
    exact ⟨by decide, by decide, fun n z => nomatch z⟩
  · rintro j ρ μ d hd ⟨P, hP, lP, rfl, rfl⟩
    obtain ⟨hj, rfl⟩ := rng_at hd
    have hj : (j : Int) < N := by
      have := hj
      omega
    refine ⟨⟨by omega, by omega⟩, ?_⟩
    refine ⟨by decide, by decide, fun i ρ μ => ∃ (P : List (Option Int × Int)) (m : Int), (∀ p ∈ P, OkMix p.1 p.2) ∧ P.length ≤ 1 + 12 * j + i ∧ m ≤ 40 * i ∧ ρ = [.dat (.scr ns), .hot (P.map prD), .un, .box m, .un, .un, .un, .un, .un, .un, .un, .un, .un, .un] ∧ μ = [], To3.of ⟨P, 0, hP, lP, by omega, rfl, rfl⟩ (by get_elem_tactic_trivial), ?_, ?_⟩
    · rintro i ρ μ d hd ⟨P, m, hP, lP, hm, rfl, rfl⟩
      obtain ⟨hi, rfl⟩ := rng_at hd
      have hi : i < 12 := by omega
      have lM : (P.map prD).length ≤ 100 := by rw [List.length_map]; omega
      refine ⟨rfl, m, rfl, by omega, fun dw df m2 ow of nw nf hm2 => ⟨rfl, rfl, ⟨by omega, by decide, by decide⟩, fun r r0 r1 => ⟨⟨by decide, by decide⟩, ?_⟩⟩⟩
      have r1 : r < 4 := r1
      have rr : r = 0 ∨ r = 1 ∨ r = 2 ∨ r = 3 := by omega
      rcases rr with rfl | rfl | rfl | rfl
      · refine ⟨rfl, dw, df, rfl, ow, of, ⟨rfl, rfl, rfl⟩, [], [], .refl _, dw, df, false, rfl, rfl, ow, of, nw, nf, (fun z => nomatch z), fun hd => ?_, fun s hs => ?_⟩
        · obtain ⟨w, f, rfl, ef, ok⟩ := due_non hd
          cases ef
          show Fs3.nx _ [.dat (.scr ns), .hot (P.map prD), .un, .box (m2 + 1), .dat (.int (0 + (i : Int))), .dat (wDt w), .dat (.int f), .dat (.int (0 / 3)), .dat (dueM (wDt w) (.int f)), .dat (mixA (wDt w) (.int f)), .un, .un, .un, .un] []
          rw [hd]
          refine ⟨rfl, rfl, ⟨rfl, rfl, rfl⟩, [], [], .refl _, w, _, rfl, rfl, ok, rfl, by show 2 ≤ sizeLine; decide, by show 2 ≤ sizeLine; decide, by omega, ?_⟩
          refine To3.of ⟨P ++ [(w, f)], m2 + 1, fun p hp => ?_, by rw [List.length_append]; show P.length + 1 ≤ _; omega, by omega, by rw [List.map_append]; first | done | rfl, rfl⟩ (by get_elem_tactic_trivial)
          rcases List.mem_append.mp hp with z | z
          · exact hP p z
          · rw [List.mem_singleton.mp z]
            exact ok
        · show Fs3.nx _ [.dat (.scr ns), .hot (P.map prD), .un, .box (m2 + 1), .dat (.int (0 + (i : Int))), .dat dw, .dat df, .dat (.int (0 / 3)), .dat (dueM dw df), .dat (.str s), .un, .un, .un, .un] []
          rw [hs]
          refine ⟨rfl, ifF (by rw [if_pos rfl, decide_eq_true rfl]; rfl) ⟨rfl, rfl, ?_⟩⟩
          exact To3.of ⟨P, m2 + 1, hP, by omega, by omega, rfl, rfl⟩ (by get_elem_tactic_trivial)
      · refine ⟨rfl, dw, df, rfl, ow, of, ⟨rfl, rfl, rfl⟩, [], [], .refl _, dw, df, false, rfl, rfl, ow, of, nw, nf, (fun z => nomatch z), fun hd => ?_, fun s hs => ?_⟩
        · obtain ⟨w, f, rfl, ef, ok⟩ := due_non hd
          cases ef
          show Fs3.nx _ [.dat (.scr ns), .hot (P.map prD), .un, .box (m2 + 1), .dat (.int (0 + (i : Int))), .dat (wDt w), .dat (.int f), .dat (.int (1 / 3)), .dat (dueM (wDt w) (.int f)), .dat (mixA (wDt w) (.int f)), .un, .un, .un, .un] []
          rw [hd]
          refine ⟨rfl, rfl, ⟨rfl, rfl, rfl⟩, [], [], .refl _, w, _, rfl, rfl, ok, rfl, by show 2 ≤ sizeLine; decide, by show 2 ≤ sizeLine; decide, by omega, ?_⟩
          refine To3.of ⟨P ++ [(w, f)], m2 + 1, fun p hp => ?_, by rw [List.length_append]; show P.length + 1 ≤ _; omega, by omega, by rw [List.map_append]; first | done | rfl, rfl⟩ (by get_elem_tactic_trivial)
          rcases List.mem_append.mp hp with z | z
          · exact hP p z
          · rw [List.mem_singleton.mp z]
            exact ok
        · show Fs3.nx _ [.dat (.scr ns), .hot (P.map prD), .un, .box (m2 + 1), .dat (.int (0 + (i : Int))), .dat dw, .dat df, .dat (.int (1 / 3)), .dat (dueM dw df), .dat (.str s), .un, .un, .un, .un] []
          rw [hs]
          refine ⟨rfl, ifF (by rw [if_pos rfl, decide_eq_true rfl]; rfl) ⟨rfl, rfl, ?_⟩⟩
          exact To3.of ⟨P, m2 + 1, hP, by omega, by omega, rfl, rfl⟩ (by get_elem_tactic_trivial)
      · refine ⟨rfl, dw, df, rfl, ow, of, ⟨rfl, rfl, rfl⟩, [], [], .refl _, dw, df, false, rfl, rfl, ow, of, nw, nf, (fun z => nomatch z), fun hd => ?_, fun s hs => ?_⟩
        · obtain ⟨w, f, rfl, ef, ok⟩ := due_non hd
          cases ef
          show Fs3.nx _ [.dat (.scr ns), .hot (P.map prD), .un, .box (m2 + 1), .dat (.int (0 + (i : Int))), .dat (wDt w), .dat (.int f), .dat (.int (2 / 3)), .dat (dueM (wDt w) (.int f)), .dat (mixA (wDt w) (.int f)), .un, .un, .un, .un] []
          rw [hd]
          refine ⟨rfl, rfl, ⟨rfl, rfl, rfl⟩, [], [], .refl _, w, _, rfl, rfl, ok, rfl, by show 2 ≤ sizeLine; decide, by show 2 ≤ sizeLine; decide, by omega, ?_⟩
          refine To3.of ⟨P ++ [(w, f)], m2 + 1, fun p hp => ?_, by rw [List.length_append]; show P.length + 1 ≤ _; omega, by omega, by rw [List.map_append]; first | done | rfl, rfl⟩ (by get_elem_tactic_trivial)
          rcases List.mem_append.mp hp with z | z
          · exact hP p z
          · rw [List.mem_singleton.mp z]
            exact ok
        · show Fs3.nx _ [.dat (.scr ns), .hot (P.map prD), .un, .box (m2 + 1), .dat (.int (0 + (i : Int))), .dat dw, .dat df, .dat (.int (2 / 3)), .dat (dueM dw df), .dat (.str s), .un, .un, .un, .un] []
          rw [hs]
          refine ⟨rfl, ifF (by rw [if_pos rfl, decide_eq_true rfl]; rfl) ⟨rfl, rfl, ?_⟩⟩
          exact To3.of ⟨P, m2 + 1, hP, by omega, by omega, rfl, rfl⟩ (by get_elem_tactic_trivial)
      · refine ⟨rfl, dw, (.int 7919), rfl, ow, rfl, ⟨rfl, rfl, rfl⟩, [], [], .refl _, dw, (.int 7919), true, rfl, rfl, ow, rfl, nw, ((nice_small (by decide) (by decide)).mono (by decide) (by decide)), (fun _ => rfl), fun hd => ?_, fun s hs => ?_⟩
        · obtain ⟨w, f, rfl, ef, ok⟩ := due_non hd
          cases ef
          show Fs3.nx _ [.dat (.scr ns), .hot (P.map prD), .un, .box (m2 + 1), .dat (.int (0 + (i : Int))), .dat (wDt w), .dat (.int 7919), .dat (.int (3 / 3)), .dat (dueM (wDt w) (.int 7919)), .dat (mixA (wDt w) (.int 7919)), .un, .un, .un, .un] []
          rw [hd]
          refine ⟨rfl, rfl, ⟨rfl, rfl, rfl⟩, [], [], .refl _, w, _, rfl, rfl, ok, rfl, by show 2 ≤ sizeLine; decide, by show 2 ≤ sizeLine; decide, by omega, ?_⟩
          refine To3.of ⟨P ++ [(w, 7919)], m2 + 1, fun p hp => ?_, by rw [List.length_append]; show P.length + 1 ≤ _; omega, by omega, by rw [List.map_append]; first | done | rfl, rfl⟩ (by get_elem_tactic_trivial)
          rcases List.mem_append.mp hp with z | z
          · exact hP p z
          · rw [List.mem_singleton.mp z]
            exact ok
        · show Fs3.nx _ [.dat (.scr ns), .hot (P.map prD), .un, .box (m2 + 1), .dat (.int (0 + (i : Int))), .dat dw, .dat (.int 7919), .dat (.int (3 / 3)), .dat (dueM dw (.int 7919)), .dat (.str s), .un, .un, .un, .un] []
          rw [hs]
          refine ⟨rfl, ifF (by rw [if_pos rfl, decide_eq_true rfl]; rfl) ⟨rfl, rfl, ?_⟩⟩
          exact To3.of ⟨P, m2 + 1, hP, by omega, by omega, rfl, rfl⟩ (by get_elem_tactic_trivial)
    · rintro ρ μ ⟨P, m, hP, lP, hm, rfl, rfl⟩
      rw [rng_len] at lP
      exact To3.of ⟨P, hP, by omega, rfl, rfl⟩ (by get_elem_tactic_trivial)
  rintro ρ μ ⟨P, hP, lP, rfl, rfl⟩
  have mem : ∀ {lo hi : Option Int} {i : Nat} {d : Dt}, (cutD (P.map prD) lo hi)[i]? = some d → ∃ p ∈ P, d = prD p := fun {lo hi i d} h => by
    have h := List.mem_of_getElem? h
    unfold cutD at h
    obtain ⟨p, hp, e⟩ := List.mem_map.mp (List.mem_of_mem_drop (List.mem_of_mem_take h))
    exact ⟨p, hp, e.symm⟩
  refine ⟨fun i ρ => ρ = [.dat (.scr ns), .hot (P.map prD), .un, .un, .un, .un, .un, .un, .un, .un, .un, .un, .un, .un], To.of rfl (by get_elem_tactic_trivial), ?_, ?_⟩
  · rintro i ρ d hd rfl
    obtain ⟨⟨w, f⟩, hp, rfl⟩ := mem hd
    refine ⟨rfl, fun j ρ => ρ = [.dat (.scr ns), .hot (P.map prD), .un, .un, .un, .un, .un, .un, .un, .un, .dat (mixD w f), .dat (.tup [wDt w, .int f]), .un, .un], To.of rfl (by get_elem_tactic_trivial), ?_, ?_⟩
    · rintro j ρ d hd rfl
      obtain ⟨⟨w2, f2⟩, hp2, rfl⟩ := mem hd
      refine ⟨rfl, ?_⟩
      refine ⟨⟨_, _, rfl⟩, rfl, w, f, _, rfl, .inl ⟨w2, f2, rfl, _, rfl, ?_⟩⟩
      have n1 := pr_nice (hP _ hp)
      have n2 := pr_nice (hP _ hp2)
      refine ⟨⟨n1.pu, n2.pu, n1.shaped (by decide), n2.shaped (by decide)⟩, ifF (by rw [if_pos rfl, if_neg Bool.false_ne_true, eD_pr, decide_eq_true rfl]; rfl) ?_⟩
      refine ⟨⟨_, _, rfl⟩, ⟨_, _, rfl⟩, w, f, _, rfl, .inl ⟨w2, f2, rfl, _, rfl, ?_⟩⟩
      refine ⟨⟨n1.pu, n2.pu, n1.shaped (by decide), n2.shaped (by decide)⟩, ifF (by rw [if_pos rfl, if_pos rfl, eD_pr, decide_eq_true rfl]; rfl) ?_⟩
      exact To.of rfl (by get_elem_tactic_trivial)
    · rintro ρ rfl
      exact To.of rfl (by get_elem_tactic_trivial)
  · rintro ρ rfl
    exact ⟨_, .refl _, q⟩
end
section
variable {P : Program} {w : World} {K : PySem.W.Frag} {mg : Str → Option Value} {base : Heap}
local macro_rules | `(tactic| get_elem_tactic_trivial) => `(tactic| (repeat first | exact Wk.nil | exact Wk'.nil | refine Wk.same ?_ | refine Wk'.same ?_ | refine Wk.un (fun _ z => nomatch z) ?_ | refine Wk'.un ?_))


end
end Sl
open PySem PySem.W PySem.Calls PyProof.Rows
set_option maxRecDepth 100000 in
set_option maxHeartbeats 0 in
theorem PySem.Challenge.cw_startlog_k08_mixings_made_and_refused_holds : PySem.Challenge.rw_startlog_k08_mixings_made_and_refused.Holds := by
  w_on; o_law
  refine HandSHeadRun.head_any (r := OpenLaw.row PySem.Challenge.rw_startlog_k08_mixings_made_and_refused) (q := view (OpenLaw.row PySem.Challenge.rw_startlog_k08_mixings_made_and_refused).prog [27]) (H := Sl.hk) (ob := Sl.hob) (M := 8000) (loose := Sl.hloose) (d := HandSHeadRun.topDef (OpenLaw.row PySem.Challenge.rw_startlog_k08_mixings_made_and_refused).prog 27) (kwd := []) Sl.hob_eq
    (by kernel_rfl) (fun s => by kernel_rfl) Sl.hrun (by kernel_rfl) (by kernel_rfl) (by kernel_rfl) (by rfl) (by first | assumption | decide +kernel) (by decide +kernel) ⟨rfl, rfl, rfl, rfl, rfl, by decide +kernel⟩ ?hw ?hc
  case hw => w_witness2
  case hc =>
    refine Sl.walk_G (l := PySem.Challenge.rw_startlog_k08_mixings_made_and_refused) (n := 63) (k := 11) (x := "_law_script") rfl (by decide) (by kernel_rfl) ⟨rfl, by decide, by decide⟩ ?F
    intro w mg fa h Y G hmg0
    obtain ⟨K, KX, c, cx⟩ := Y
    have hmg : mg ("law" : PySem.Str) = some (.ref fa) := by
      have e : (HandSHeadRun.topDef (OpenLaw.row PySem.Challenge.rw_startlog_k08_mixings_made_and_refused).prog 27).name = ("law" : PySem.Str) := by kernel_rfl
      rw [← e]
      exact hmg0
    obtain ⟨T, _⟩ := Sl.tx_of KX G c cx
    have e := hmg.symm.trans T.gLaw
    cases e
    exact ⟨K, T.fdLaw, Sl.spLawD K, KX, fun s v => L2.FunD.bindsA (ps := ["_law_script"]) T.FLaw (fun _ _ _ _ _ _ us hl => match us, hl with | [_], _ => rfl) s [v] rfl, fun H a ns hl hS => Sl.law_imp hl hS, fun base _ _ => Sl.okLaw T⟩
