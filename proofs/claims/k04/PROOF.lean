import PyProof.Rows.All
import Wide.All
import OpenK.AllK
import Wide.FinOn
import KE.KStateDown
import Lean
import HandS.ForMost
import HandS.More
import HandS.WordsExc
import HandS.IsInst
import HandS.Defaults
import HandS.MakeKwOnly
import HandS.Walk
import HandS.Zip
import HandS.Head0
import HandS.Head1
import HandS.Head2
import HandS.HeadEnd
import HandS.HeadHook1
import HandS.HeadHook2
import PySem.Challenge.RW_startlog_k04_measures_and_bodies
set_option Elab.async false
set_option linter.all false
set_option maxRecDepth 100000
set_option maxHeartbeats 4000000
namespace Sl
open PySem PySem.Spec PyProof.Rows L2
section
variable {P : Program} {w : World} {K : PySem.W.Frag} {mg : Str → Option Value} {base : Heap}

end
section
variable {P : Program} {w : World} {K : PySem.W.Frag} {mg : Str → Option Value} {base : Heap}
/-! heaps -/
theorem same_new {H : Hp} {p : Addr} {o : HO} (h : H p = none) : Same H (upd H p o) := fun b x e => by
  rw [upd_ne (ne_of_none e h)]
  exact e
/-- all that was tracked is as it was, but for p -/
def But (p : Addr) (H G : Hp) : Prop := ∀ b o, H b = some o → b ≠ p → G b = some o
theorem But.refl (p : Addr) (H : Hp) : But p H H := fun _ _ h _ => h
theorem But.trans {p : Addr} {H G J : Hp} (a : But p H G) (b : But p G J) : But p H J := fun c o h n => b c o (a c o h n) n
theorem But.of {p : Addr} {H G : Hp} (a : Same H G) : But p H G := fun c o h _ => a c o h
theorem But.upd {p : Addr} {H : Hp} {o : HO} : But p H (upd H p o) := fun b x e n => by
  rw [upd_ne n]
  exact e
/-- a box of draws at p, at most n of them by the second way -/
def Box (H : Hp) (p : Addr) (n : Int) : Prop := ∃ x y z : Int, H p = some (.lst [.int x, .int y, .int z]) ∧ 0 ≤ x ∧ 0 ≤ y ∧ y < 1099511627776 ∧ 0 ≤ z ∧ z ≤ n
theorem Box.mono {H : Hp} {p : Addr} {n m : Int} (b : Box H p n) (h : n ≤ m) : Box H p m := by
  obtain ⟨x, y, z, e, h1, h2, h3, h4, h5⟩ := b
  exact ⟨x, y, z, e, h1, h2, h3, h4, Int.le_trans h5 h⟩
theorem Box.same {H G : Hp} {p : Addr} {n : Int} (b : Box H p n) (s : Same H G) : Box G p n := by
  obtain ⟨x, y, z, e, h⟩ := b
  exact ⟨x, y, z, s _ _ e, h⟩
theorem Box.ne {H : Hp} {p q : Addr} {n : Int} (b : Box H p n) (h : H q = none) : q ≠ p := by
  obtain ⟨x, y, z, e, _⟩ := b
  exact fun k => by rw [k, e] at h; cases h
/-- what is free behind was free ahead -/
theorem But.free {p q : Addr} {H G : Hp} {n : Int} (a : But p H G) (b : Box G p n) (h : G q = none) : H q = none := by
  cases e : H q with
  | none => rfl
  | some o =>
    have := a q o e (b.ne h)
    rw [this] at h
    cases h
theorem seqL_but {K : PySem.W.Frag} {H G : Hp} {p a : Addr} {xs : List V} (s : But p H G) (h : SqL K H a xs) (n : a ≠ p) : SqL K G a xs := by
  rcases h with (h | ⟨o, h⟩) | h
  · exact .inl (.inl (s _ _ h n))
  · exact .inl (.inr ⟨o, s _ _ h n⟩)
  · exact .inr h
theorem seqT_same {K : PySem.W.Frag} {H G : Hp} {a : Addr} {xs : List V} (s : Same H G) (h : SqT K H a xs) : SqT K G a xs := by
  rcases h with (h | ⟨o, h⟩) | h
  · exact .inl (.inl (s _ _ h))
  · exact .inl (.inr ⟨o, s _ _ h⟩)
  · exact .inr h
theorem bit_lo (b : Bool) : -(2 ^ 64 : Int) < (if b = true then 1 else 0 : Int) := by cases b <;> decide
theorem bit_hi (b : Bool) : (if b = true then 1 else 0 : Int) < 2 ^ 64 := by cases b <;> decide
/-! kinds -/
theorem ty_list {K : PySem.W.Frag} {H : Hp} {a : Addr} {xs : List V} (h : SqL K H a xs) : TyX K H (.ref a) (.type "list") := by
  rcases h with (h | ⟨o, h⟩) | ⟨o, its, n, h1, h2, _⟩
  · exact .base (.lst h)
  · exact .base (.frz h)
  · exact .kList h1 h2
theorem ty_tup {K : PySem.W.Frag} {H : Hp} {a : Addr} {xs : List V} (h : SqT K H a xs) : TyX K H (.ref a) (.type "tuple") := by
  rcases h with (h | ⟨o, h⟩) | ⟨o, its, n, h1, h2, _⟩
  · exact .base (.tup h)
  · exact .fTuple h
  · exact .kTuple h1 h2
mutual
theorem dp_same {K : PySem.W.Frag} {H G : Hp} (s : Same H G) : ∀ (d : PyData) (v : V), Dp K H v d → Dp K G v d
  | .none, _, h => by cases h; exact .non
  | .bool b, _, h => by cases h; exact .bl b
  | .int i, _, h => by cases h; exact .int i
  | .str x, _, h => by cases h; exact .str x
  | .list ds, _, h => by
    cases h with
    | lst a b => exact .lst (s.seq a) (dps_same s ds _ b)
  | .tuple ds, _, h => by
    cases h with
    | tup a b => exact .tup (seqT_same s a) (dps_same s ds _ b)
  | .dict _, _, h => by cases h
theorem dps_same {K : PySem.W.Frag} {H G : Hp} (s : Same H G) : ∀ (ds : List PyData) (vs : List V), DpAll K H vs ds → DpAll K G vs ds
  | [], _, h => by cases h; exact .nil
  | d :: ds, _, h => by
    cases h with
    | cons a b => exact .cons (dp_same s d _ a) (dps_same s ds _ b)
end
theorem dpa_len {K : PySem.W.Frag} {H : Hp} : ∀ {vs : List V} {ds : List PyData}, DpAll K H vs ds → vs.length = ds.length
  | _, _, .nil => rfl
  | _, _, .cons _ t => congrArg Nat.succ (dpa_len t)
theorem dpa_at {K : PySem.W.Frag} {H : Hp} : ∀ {vs : List V} {ds : List PyData} {i : Nat} {v : V}, DpAll K H vs ds → vs[i]? = some v → ∃ d, ds[i]? = some d ∧ Dp K H v d
  | _, _, i, v, .nil, h => by simp at h
  | _, _, 0, v, .cons a t, h => by
    have e := Option.some.inj h
    subst e
    exact ⟨_, rfl, a⟩
  | _, _, i + 1, v, .cons a t, h => dpa_at (i := i) t h
/-- how deep a datum is -/
def dep : PyData → Nat
  | .list ds => deps ds + 1
  | .tuple ds => deps ds + 1
  | _ => 0
where deps : List PyData → Nat
  | [] => 0
  | d :: ds => max (dep d) (deps ds)
theorem deps_at : ∀ {ds : List PyData} {i : Nat} {d : PyData}, ds[i]? = some d → dep d ≤ dep.deps ds
  | [], i, d, h => by simp at h
  | c :: ds, 0, d, h => by
    have e := Option.some.inj h
    subst e
    exact Nat.le_max_left _ _
  | c :: ds, i + 1, d, h => Nat.le_trans (deps_at (i := i) (ds := ds) h) (Nat.le_max_right _ _)
/-- how wide it is, at most -/
def wid : PyData → Nat
  | .list ds => max ds.length (wids ds)
  | .tuple ds => max ds.length (wids ds)
  | _ => 0
where wids : List PyData → Nat
  | [] => 0
  | d :: ds => max (wid d) (wids ds)
theorem wids_at : ∀ {ds : List PyData} {i : Nat} {d : PyData}, ds[i]? = some d → wid d ≤ wid.wids ds
  | [], i, d, h => by simp at h
  | c :: ds, 0, d, h => by
    have e := Option.some.inj h
    subst e
    exact Nat.le_max_left _ _
  | c :: ds, i + 1, d, h => Nat.le_trans (wids_at (i := i) (ds := ds) h) (Nat.le_max_right _ _)
theorem small6 {n : Nat} (h : n < 1000000) : n < sizeLine := Nat.lt_of_lt_of_le h (by decide)
/-! a call by keywords alone -/
section
variable {X : Cx} {CX : CXT} {k : Nat} {f : Addr} {fd : FuncData} {ps ks : List Str} {sp : Sp} {E : XK} {x : Str} {p pos : Pos} {kws : List Keyword} {tk : TA} {g : List Value → List Value → List Value} {gV : List V → List V → List V}
theorem pe_kwCall (F : FnOk X.prog X.w X.K X.mg X.base CX k f fd ps sp) (hr : Room k X.A) (hg : Gl X x) (hm : X.mg x = some (.ref f)) (kp : PySem.W.keepIn X.K (.ref f) = true) (hb : KBn X.K fd ps 0 ks g gV) (hx : Passes CX X E) (hkw : PK X kws tk)
    (h1 : (backToKw pos (keywordEach kws X.env)).all (·.1.isSome) = true := by rfl) (h2 : (backToKw pos (keywordEach kws X.env)).filterMap (·.1) = ks := by rfl) (h3 : (x == ("__debug__" : Str)) = false := by decide)
    (h4 : ((backTo pos (starEach [] X.env)).any (·.1) || (backToKw pos (keywordEach kws X.env)).any (·.1.isNone)) = false := by rfl) :
    PE X (.Call (.Name x p) [] kws pos) (tCallN 0 ks.length sp gV E tNil tk) := by
  refine ⟨fun pins s σ H Q I h => ?_⟩
  refine wpAny_Call_Name_kw (ld_glob I hg hm ?_ h3)
  refine PySem.W.callWith_KW0 (h₀ := X.base) I.ok.mod.kin kp h1 ?_ h4
  refine thn (hkw.run pos pins s σ H _ I h) fun ws s2 ⟨zs, H2, I2, rz, l1, l2, q2⟩ => ⟨I2.kIn, ?_⟩
  rw [h2]
  exact run_fnN (us := []) (vs := []) F hr hb hx I2 .nil rz rfl l2 q2
end
/-! a call of a def without defaults by keywords -/
theorem kw_plain {K : PySem.W.Frag} {x qual : Str} {params : Arguments} {body : List Stmt} {scope : Scope} {kws : List (Str × V)} {f : Addr} {fd : FuncData} {ps : List Str} (F : FunD K x qual params body scope [] kws f fd) (n : Nat) (ks : List Str) (g : {α : Type} → List α → List α → List α)
    (hrel : ∀ {vs zs : List V} {us ws : List Value}, Vals vs us → Vals zs ws → Vals (g vs zs) (g us ws))
    (h : ∀ (kV doc pm : Value) (an : Option Addr) (cdv ct : Value) (us ws : List Value), us.length = n → ws.length = ks.length → bindArgs (PySem.W.fnOf x qual params body scope .none kV doc pm an cdv ct) ⟨us, ks.zip ws⟩ = pure (ps.zip (g us ws))) : KBn K fd ps n ks (fun us ws => g us ws) (fun vs zs => g vs zs) := by
  obtain ⟨oc, od, dV, kV, doc, pm, an, cdv, ct, osl, rfl, lk, hcd, hD, hK⟩ := F.ex
  rcases hD with ⟨_, rfl⟩ | ⟨e, _⟩
  · exact ⟨fun s us ws _ l1 l2 => .of_eq (h kV doc pm an cdv ct us ws l1 l2), fun r1 r2 => hrel r1 r2⟩
  · exact absurd rfl e
theorem Vals.rev : ∀ {vs : List V} {us : List Value}, Vals vs us → Vals vs.reverse us.reverse
  | _, _, .nil => .nil
  | _, _, .cons a t => by
    rw [List.reverse_cons, List.reverse_cons]
    exact (Vals.rev t).append (.cons a .nil)
/-- lists of numbers as data -/
theorem dpa_ints {K : PySem.W.Frag} {H : Hp} : ∀ l : List Int, DpAll K H (l.map V.int) (l.map PyData.int)
  | [] => .nil
  | i :: l => .cons (.int i) (dpa_ints l)
theorem dep_ints : ∀ l : List Int, dep.deps (l.map PyData.int) = 0
  | [] => rfl
  | i :: l => by
    show max 0 (dep.deps (l.map PyData.int)) = 0
    rw [dep_ints l]
    rfl
theorem wid_ints : ∀ l : List Int, wid.wids (l.map PyData.int) = 0
  | [] => rfl
  | i :: l => by
    show max 0 (wid.wids (l.map PyData.int)) = 0
    rw [wid_ints l]
    rfl
theorem dep_il (l : List Int) : dep (.list (l.map PyData.int)) < 2 := by
  show dep.deps (l.map PyData.int) + 1 < 2
  rw [dep_ints]
  decide
theorem wid_il (l : List Int) (h : l.length ≤ 1000) : wid (.list (l.map PyData.int)) ≤ 1000000 := by
  show max (l.map PyData.int).length (wid.wids (l.map PyData.int)) ≤ 1000000
  rw [wid_ints, List.length_map]
  omega
/-- the two ways of a conditional expression joined: what either gives, P says -/
theorem ifx {c : Prop} [Decidable c] {ta tb : TE} {σ : L2.St} {H : Hp} {C : VK} (P : V → Hp → Prop) (h1 : c → ∀ C : VK, (∀ v G, P v G → C v G) → ta σ H C) (h2 : ¬ c → ∀ C : VK, (∀ v G, P v G → C v G) → tb σ H C) (k : ∀ v G, P v G → C v G) : if c then ta σ H C else tb σ H C := by
  by_cases h : c
  · rw [if_pos h]
    exact h1 h C k
  · rw [if_neg h]
    exact h2 h C k
theorem ift {c : Prop} [Decidable c] {ta : TT} {σ : L2.St} {H : Hp} {C : Bool → Hp → Prop} (P : Bool → Hp → Prop) (h1 : c → ∀ C : Bool → Hp → Prop, (∀ v G, P v G → C v G) → ta σ H C) (h2 : ¬ c → P false H) (k : ∀ v G, P v G → C v G) : if c then ta σ H C else C false H := by
  by_cases h : c
  · rw [if_pos h]
    exact h1 h C k
  · rw [if_neg h]
    exact k _ _ (h2 h)
theorem atI_some {xs : List V} {r : Int} (h0 : 0 ≤ r) (h1 : r < xs.length) : ∃ v, atI xs r = some v ∧ v ∈ xs := by
  obtain ⟨j, rfl⟩ : ∃ j : Nat, r = (j : Int) := ⟨r.toNat, by omega⟩
  have hj : j < xs.length := by omega
  exact ⟨xs[j], atI_nat (List.getElem?_eq_getElem hj), List.getElem_mem hj⟩
theorem same_but {H G G1 G2 : Hp} {p : Addr} {o : HO} (s : Same H G) (hp : G p = none) (b : But p (upd G p o) G2) : Same H G2 := fun c x e => by
  have hc : c ≠ p := fun z => by
    have := s.free hp
    rw [← z, e] at this
    cases this
  exact b c x (by rw [upd_ne hc]; exact s c x e) hc
/-! the drawer of numbers -/
def spLBox (K : PySem.W.Frag) : Sp := fun vs H Q _ => ∃ (a : Addr) (ns : List Int) (k : Nat), vs = [.ref a, .int k] ∧ SqL K H a (ns.map V.int) ∧ k ≤ 1000 ∧
  ∀ (p : Addr) (x y : Int), H p = none → 0 ≤ x → 0 ≤ y → y < 1099511627776 → Q (.ref p) (upd H p (.lst [.int x, .int y, .int 0]))
def spLTake : Sp := fun vs H Q _ => ∃ (p : Addr) (m n : Int), vs = [.ref p, .int m] ∧ Box H p n ∧ n < 1099511627776 ∧ 0 < m ∧ m < 1073741824 ∧
  ∀ (r : Int) (G : Hp), But p H G → Box G p (n + 1) → 0 ≤ r → r < m → Q (.int r) G
theorem walk_zipT {K : PySem.W.Frag} {a b : Addr} {xs ys : List V} (hn : xs.length = ys.length) : Walk (RZ.ItzT K a b) xs.length (fun H => SqT K H a xs ∧ SqT K H b ys) (YPair (fun i => xs[i]?) (fun i => ys[i]?)) := by
  refine ⟨fun i _ hi q => ?_, fun _ q => ⟨xs, ys, q.1, q.2, by omega⟩, fun i H v H' _ q y => ?_⟩
  · have h2 : i < ys.length := by omega
    exact ⟨xs, ys, xs[i], ys[i], q.1, q.2, by simp [hi], by simp [h2]⟩
  · obtain ⟨T, x, z, h1, h2, h3, h4, h5⟩ := y
    exact ⟨T, x, z, h1, h2, h3, h4 xs q.1, h5 ys q.2⟩
theorem all_rep (n : Nat) : (List.replicate n true).all id = true := by
  induction n with
  | zero => rfl
  | succ n ih => rw [List.replicate_succ, List.all_cons, ih]; rfl
theorem kit_none (K : PySem.W.Frag) (t : String) (h1 : kitB t "list" = some false) (h2 : kitB t "tuple" = some false) : PySem.W.kitAny K (.type t) [.type "list", .type "tuple"] = some false :=
  kitAny_cons (kit_ty h1) (fun _ => kitAny_cons (kit_ty h2) (fun _ => rfl) (fun z => Bool.noConfusion z)) (fun z => Bool.noConfusion z)
theorem kit_list (K : PySem.W.Frag) : PySem.W.kitAny K (.type "list") [.type "list", .type "tuple"] = some true :=
  kitAny_cons (kit_ty (r := true) (by decide +kernel)) (fun z => Bool.noConfusion z) (fun _ => rfl)
theorem kit_tup (K : PySem.W.Frag) : PySem.W.kitAny K (.type "tuple") [.type "list", .type "tuple"] = some true :=
  kitAny_cons (kit_ty (r := false) (by decide +kernel)) (fun _ => kitAny_cons (kit_ty (r := true) (by decide +kernel)) (fun z => Bool.noConfusion z) (fun _ => rfl)) (fun z => Bool.noConfusion z)
theorem cls2 : Paired ClsV [.ty "list", .ty "tuple"] [.type "list", .type "tuple"] := .cons (.ty _) (.cons (.ty _) .nil)
/-! two things alike, kind by kind -/
def spLSame (K : PySem.W.Frag) (n : Nat) : Sp := fun vs H Q _ => ∃ (x y : V) (d : PyData), vs = [x, y] ∧ Dp K H x d ∧ Dp K H y d ∧ dep d < n ∧ wid d ≤ 1000000 ∧ ∀ G, Same H G → Q (.bl true) G

def spLaw (K : PySem.W.Frag) : Sp := fun vs H Q _ => ∃ (a : Addr) (ns : List Int), vs = [.ref a] ∧ SqL K H a (ns.map V.int) ∧ ns.length ≤ 63 ∧ ∀ G, Q (.bl true) G
end
section
variable {P : Program} {w : World} {K : PySem.W.Frag} {mg : Str → Option Value} {base : Heap}
def top (i : Nat) : Stmt := PySem.Challenge.pw_startlog_k04_measures_and_bodies.main.body.getD i (.Pass ⟨0, 0, 0, 0⟩)
abbrev sInverse : Stmt := top 1
abbrev sMeasure : Stmt := top 6
abbrev sBodies : Stmt := top 7
abbrev sLBox : Stmt := top 9
abbrev sLTake : Stmt := top 10
abbrev sLSame : Stmt := top 11
abbrev sLMeasure : Stmt := top 12
abbrev sLNote : Stmt := top 13
abbrev sLIsNumber : Stmt := top 14
abbrev sLBodiesRight : Stmt := top 15
abbrev sLaw : Stmt := top 16
theorem scInverse : FnScope ["number", "span", "high", "low", "before", "found", "times"] ["number", "span"] (defScope sInverse) := ⟨rfl, rfl, rfl, by decide +kernel, rfl, by decide +kernel, by decide +kernel⟩
theorem scMeasure : FnScope ["body"] ["body"] (defScope sMeasure) := ⟨rfl, rfl, rfl, by decide +kernel, rfl, by decide +kernel, by decide +kernel⟩
theorem scBodies : FnScope ["note", "least", "first"] ["note", "least"] (defScope sBodies) := ⟨rfl, rfl, rfl, by decide +kernel, rfl, by decide +kernel, by decide +kernel⟩
theorem scLBox : FnScope ["_law_script", "_law_k", "_law_cell"] ["_law_script", "_law_k"] (defScope sLBox) := ⟨rfl, rfl, rfl, by decide +kernel, rfl, by decide +kernel, by decide +kernel⟩
theorem scLTake : FnScope ["_law_box_here", "_law_size", "_law_found", "_law_once"] ["_law_box_here", "_law_size"] (defScope sLTake) := ⟨rfl, rfl, rfl, by decide +kernel, rfl, by decide +kernel, by decide +kernel⟩
theorem scLSame : FnScope ["_law_found", "_law_due", "_law_one", "_law_two"] ["_law_found", "_law_due"] (defScope sLSame) := ⟨rfl, rfl, rfl, by decide +kernel, rfl, by decide +kernel, by decide +kernel⟩
theorem scLMeasure : FnScope ["_law_load"] ["_law_load"] (defScope sLMeasure) := ⟨rfl, rfl, rfl, by decide +kernel, rfl, by decide +kernel, by decide +kernel⟩
theorem scLNote : FnScope ["_law_box_here"] ["_law_box_here"] (defScope sLNote) := ⟨rfl, rfl, rfl, by decide +kernel, rfl, by decide +kernel, by decide +kernel⟩
theorem scLIsNumber : FnScope ["_law_one", "_law_low", "_law_top"] ["_law_one", "_law_low", "_law_top"] (defScope sLIsNumber) := ⟨rfl, rfl, rfl, by decide +kernel, rfl, by decide +kernel, by decide +kernel⟩
theorem scLBodiesRight : FnScope ["_law_mark", "_law_low", "_law_found"] ["_law_mark", "_law_low"] (defScope sLBodiesRight) := ⟨rfl, rfl, rfl, by decide +kernel, rfl, by decide +kernel, by decide +kernel⟩
theorem scLaw : FnScope ["_law_script", "_law_k", "_law_box_here", "_law_ahead", "_law_turn", "_law_load", "_law_due", "_law_low"] ["_law_script"] (defScope sLaw) := ⟨rfl, rfl, rfl, by decide +kernel, rfl, by decide +kernel, by decide +kernel⟩
/-- the names that are the builtins' own -/
structure Bl (mg : Str → Option Value) : Prop where
  b_len : mg "len" = none
  b_abs : mg "abs" = none
  b_int : mg "int" = none
  b_isinstance : mg "isinstance" = none
  b_list : mg "list" = none
  b_tuple : mg "tuple" = none
  b_str : mg "str" = none
  b_bool : mg "bool" = none
  b_all : mg "all" = none
  b_zip : mg "zip" = none
  b_range : mg "range" = none
  b_max : mg "max" = none
  b_min : mg "min" = none
  b_enumerate : mg "enumerate" = none
  b_divmod : mg "divmod" = none
/-- what the top has written -/
structure Tx (K : PySem.W.Frag) (mg : Str → Option Value) where
  B : Bl mg
  c_NOTES : ∃ t, mg "NOTES" = some (.int 9973 t)
  c_TIMES : ∃ t, mg "TIMES" = some (.int 48271 t)
  c_MORE : ∃ t, mg "MORE" = some (.int 11 t)
  fdInverse : FuncData
  FInverse : FunD K "inverse" "inverse" (defArgs sInverse) (defBody sInverse) (defScope sInverse) [] [] (He.ga K "inverse") fdInverse
  gInverse : mg "inverse" = some (.ref (He.ga K "inverse"))
  fdMeasure : FuncData
  FMeasure : FunD K "measure" "measure" (defArgs sMeasure) (defBody sMeasure) (defScope sMeasure) [] [] (He.ga K "measure") fdMeasure
  gMeasure : mg "measure" = some (.ref (He.ga K "measure"))
  fdBodies : FuncData
  FBodies : FunD K "bodies" "bodies" (defArgs sBodies) (defBody sBodies) (defScope sBodies) [] [("least", .int 0)] (He.ga K "bodies") fdBodies
  gBodies : mg "bodies" = some (.ref (He.ga K "bodies"))
  fdLBox : FuncData
  FLBox : FunD K "_law_box" "_law_box" (defArgs sLBox) (defBody sLBox) (defScope sLBox) [] [] (He.ga K "_law_box") fdLBox
  gLBox : mg "_law_box" = some (.ref (He.ga K "_law_box"))
  fdLTake : FuncData
  FLTake : FunD K "_law_take" "_law_take" (defArgs sLTake) (defBody sLTake) (defScope sLTake) [] [] (He.ga K "_law_take") fdLTake
  gLTake : mg "_law_take" = some (.ref (He.ga K "_law_take"))
  fdLSame : FuncData
  FLSame : FunD K "_law_same" "_law_same" (defArgs sLSame) (defBody sLSame) (defScope sLSame) [] [] (He.ga K "_law_same") fdLSame
  gLSame : mg "_law_same" = some (.ref (He.ga K "_law_same"))
  fdLMeasure : FuncData
  FLMeasure : FunD K "_law_measure" "_law_measure" (defArgs sLMeasure) (defBody sLMeasure) (defScope sLMeasure) [] [] (He.ga K "_law_measure") fdLMeasure
  gLMeasure : mg "_law_measure" = some (.ref (He.ga K "_law_measure"))
  fdLNote : FuncData
  FLNote : FunD K "_law_note" "_law_note" (defArgs sLNote) (defBody sLNote) (defScope sLNote) [] [] (He.ga K "_law_note") fdLNote
  gLNote : mg "_law_note" = some (.ref (He.ga K "_law_note"))
  fdLIsNumber : FuncData
  FLIsNumber : FunD K "_law_is_number" "_law_is_number" (defArgs sLIsNumber) (defBody sLIsNumber) (defScope sLIsNumber) [] [] (He.ga K "_law_is_number") fdLIsNumber
  gLIsNumber : mg "_law_is_number" = some (.ref (He.ga K "_law_is_number"))
  fdLBodiesRight : FuncData
  FLBodiesRight : FunD K "_law_bodies_right" "_law_bodies_right" (defArgs sLBodiesRight) (defBody sLBodiesRight) (defScope sLBodiesRight) [] [] (He.ga K "_law_bodies_right") fdLBodiesRight
  gLBodiesRight : mg "_law_bodies_right" = some (.ref (He.ga K "_law_bodies_right"))
  fdLaw : FuncData
  FLaw : FunD K "law" "law" (defArgs sLaw) (defBody sLaw) (defScope sLaw) [] [] (He.ga K "law") fdLaw
  gLaw : mg "law" = some (.ref (He.ga K "law"))
theorem Tx.bInverse {K : PySem.W.Frag} {mg : Str → Option Value} (T : Tx K mg) : Binds K T.fdInverse ["number", "span"] [] := T.FInverse.bindsN fun _ _ _ _ _ _ us hl => match us, hl with | [_, _], _ => rfl
theorem Tx.bMeasure {K : PySem.W.Frag} {mg : Str → Option Value} (T : Tx K mg) : Binds K T.fdMeasure ["body"] [] := T.FMeasure.bindsN fun _ _ _ _ _ _ us hl => match us, hl with | [_], _ => rfl
theorem Tx.bLBox {K : PySem.W.Frag} {mg : Str → Option Value} (T : Tx K mg) : Binds K T.fdLBox ["_law_script", "_law_k"] [] := T.FLBox.bindsN fun _ _ _ _ _ _ us hl => match us, hl with | [_, _], _ => rfl
theorem Tx.bLTake {K : PySem.W.Frag} {mg : Str → Option Value} (T : Tx K mg) : Binds K T.fdLTake ["_law_box_here", "_law_size"] [] := T.FLTake.bindsN fun _ _ _ _ _ _ us hl => match us, hl with | [_, _], _ => rfl
theorem Tx.bLSame {K : PySem.W.Frag} {mg : Str → Option Value} (T : Tx K mg) : Binds K T.fdLSame ["_law_found", "_law_due"] [] := T.FLSame.bindsN fun _ _ _ _ _ _ us hl => match us, hl with | [_, _], _ => rfl
theorem Tx.bLMeasure {K : PySem.W.Frag} {mg : Str → Option Value} (T : Tx K mg) : Binds K T.fdLMeasure ["_law_load"] [] := T.FLMeasure.bindsN fun _ _ _ _ _ _ us hl => match us, hl with | [_], _ => rfl
theorem Tx.bLNote {K : PySem.W.Frag} {mg : Str → Option Value} (T : Tx K mg) : Binds K T.fdLNote ["_law_box_here"] [] := T.FLNote.bindsN fun _ _ _ _ _ _ us hl => match us, hl with | [_], _ => rfl
theorem Tx.bLIsNumber {K : PySem.W.Frag} {mg : Str → Option Value} (T : Tx K mg) : Binds K T.fdLIsNumber ["_law_one", "_law_low", "_law_top"] [] := T.FLIsNumber.bindsN fun _ _ _ _ _ _ us hl => match us, hl with | [_, _, _], _ => rfl
theorem Tx.bLBodiesRight {K : PySem.W.Frag} {mg : Str → Option Value} (T : Tx K mg) : Binds K T.fdLBodiesRight ["_law_mark", "_law_low"] [] := T.FLBodiesRight.bindsN fun _ _ _ _ _ _ us hl => match us, hl with | [_, _], _ => rfl
theorem Tx.bLaw {K : PySem.W.Frag} {mg : Str → Option Value} (T : Tx K mg) : Binds K T.fdLaw ["_law_script"] [] := T.FLaw.bindsN fun _ _ _ _ _ _ us hl => match us, hl with | [_], _ => rfl

end
section
variable {P : Program} {w : World} {K : PySem.W.Frag} {mg : Str → Option Value} {base : Heap}
theorem okLBox (T : Tx K mg) : FnOk P w K mg base CX0 1 (He.ga K "_law_box") T.fdLBox ["_law_script", "_law_k"] (spLBox K) := by
  have B := T.B
  refine T.FLBox.ok scLBox (fun vs H Q E h => ?_) (fun cdv A outer s H vs Q E hr h => ?_)
  · obtain ⟨a, ns, k, rfl, _⟩ := h
    rfl
  · obtain ⟨a, ns, k, rfl, hS, hk, q⟩ := h
    refine ⟨_, PSs.nox (pss_cons (ps_set (i := 2) scLBox.nd rfl (.inl rfl) pe_int)
        (pss_cons (ps_if (pt_cmpR op_lt (pv 1) (pe_callB call_len_seq (by rfl) B.b_len PySem.boot_len (pa_cons (pv 0) pa_nil)) (nomark _)) (pss_one (ps_set (i := 2) scLBox.nd rfl (.inl rfl) (pe_ix ix_list (pv 0) (pv 1) (fun _ _ => rfl)))) pss_nil)
        (pss_one (ps_ret (pe_lst (pa_cons (pe_op op_mul (pe_callB call_abs (by rfl) B.b_abs boot_abs (pa_cons (pv 2) pa_nil)) (pe_callTy call_int1 (by rfl) B.b_int PyProof.Rows.boot_int (pa_cons (pe_cmpR op_ge (pe_callB call_abs (by rfl) B.b_abs boot_abs (pa_cons (pv 2) pa_nil)) (pe_op op_pow pe_int pe_int) (nomark _)) pa_nil))) (pa_cons (pe_op op_add (pe_op op_add (pe_op op_mod (pv 2) pe_int) (pe_op op_mul pe_int (pv 1))) pe_int) (pa_cons pe_int pa_nil)))))))), ?_⟩
    have fin : ∀ c : Int, tRet (tLst (tCons (tOp (rI CMul fun i j => .int (i * j)) (tCB (fun xs H Q => ∃ i, xs = [.int i] ∧ Q (.int (if i < 0 then -i else i)) H) (tCons (tVar 2) tNil))
        (tCB (fun xs H Q => (∃ i, xs = [.int i] ∧ Q (.int i) H) ∨ ∃ k, xs = [.bl k] ∧ Q (.int (if k then 1 else 0)) H) (tCons (tOp (rI0 fun i j => .bl (decide (j ≤ i))) (tCB (fun xs H Q => ∃ i, xs = [.int i] ∧ Q (.int (if i < 0 then -i else i)) H) (tCons (tVar 2) tNil)) (tOp (rI CPow fun i j => .int (i ^ j.toNat)) (tC (.int 10)) (tC (.int 18)))) tNil)))
        (tCons (tOp (rI0 fun i j => .int (i + j)) (tOp (rI0 fun i j => .int (i + j)) (tOp (rI (fun _ j => 0 < j) fun i j => .int (i % j)) (tVar 2) (tC (.int 2147483629))) (tOp (rI CMul fun i j => .int (i * j)) (tC (.int 7919)) (tVar 1))) (tC (.int 11))) (tCons (tC (.int 0)) tNil))))
        { nx := fun _ H' => Q .non H', rt := Q } [some (.ref a), some (.int k), some (.int c)] H := by
      intro c
      have hb : ∀ b : Bool, (0 : Int) ≤ (if c < 0 then -c else c) * (if b = true then 1 else 0) := by
        intro b
        cases b <;> simp <;> split <;> omega
      have h1 := Int.emod_nonneg c (b := 2147483629) (by decide)
      have h2 := Int.emod_lt_of_pos c (b := 2147483629) (by decide)
      refine ⟨_, rfl, c, rfl, _, rfl, c, rfl, _, _, rfl, rfl, ⟨by decide, by decide, by decide⟩, _, _, rfl, rfl, .inr ⟨_, rfl, _, _, rfl, rfl, .inr ⟨?_, ?_⟩, ?_⟩⟩
      · exact bit_lo _
      · exact bit_hi _
      · refine ⟨_, rfl, _, _, rfl, rfl, (show (0 : Int) < 2147483629 by decide), _, rfl, _, _, rfl, rfl, .inl ⟨by decide, by decide⟩, _, _, rfl, rfl, _, _, rfl, rfl, by show 3 ≤ sizeLine; decide, fun p hp => ?_⟩
        exact q p _ _ hp (hb _) (by omega) (by omega)
    refine ⟨_, rfl, _, rfl, a, _, rfl, .inl hS, _, _, rfl, rfl, _, rfl, ite2 (fun e => ?_) (fun e => ?_)⟩
    · have hlt : k < ns.length := by
        have := of_decide_eq_true e
        rw [List.length_map] at this
        omega
      refine ⟨_, rfl, _, rfl, a, _, _, _, rfl, rfl, hS, at_of (j := k) (v := .int ns[k]) rfl (by rw [List.getElem?_map, List.getElem?_eq_getElem hlt]; rfl), ?_⟩
      exact fin _
    · exact fin _
theorem okLTake (T : Tx K mg) : FnOk P w K mg base CX0 1 (He.ga K "_law_take") T.fdLTake ["_law_box_here", "_law_size"] spLTake := by
  have B := T.B
  refine T.FLTake.ok scLTake (fun vs H Q E h => ?_) (fun cdv A outer s H vs Q E hr h => ?_)
  · obtain ⟨p, m, n, rfl, _⟩ := h
    rfl
  · obtain ⟨p, m, n, rfl, hB, hn, hm, hm2, q⟩ := h
    refine ⟨_, PSs.nox (pss_cons (ps_if (pt_cmpR op_gt (pe_ix ix_list (pv 0) pe_int (fun _ _ => rfl)) pe_int (nomark _)) (pss_cons (ps_set (i := 2) scLTake.nd rfl (.inl rfl) (pe_op op_mod (pe_ix ix_list (pv 0) pe_int (fun _ _ => rfl)) (pv 1)))
        (pss_cons (ps_asg (pe_op op_fdiv (pe_ix ix_list (pv 0) pe_int (fun _ _ => rfl)) (pv 1)) (pg_sub (pv 0) pe_int set_list))
        (pss_one (ps_ret (pv 2))))) pss_nil)
        (pss_cons (ps_asg (pe_op op_add (pe_ix ix_list (pv 0) pe_int (fun _ _ => rfl)) pe_int) (pg_sub (pv 0) pe_int set_list))
        (pss_cons (ps_set (i := 3) scLTake.nd rfl (.inl rfl) (pe_op op_mod (pe_op op_pow (pe_op op_add (pe_ix ix_list (pv 0) pe_int (fun _ _ => rfl)) (pe_op op_mul pe_int (pe_ix ix_list (pv 0) pe_int (fun _ _ => rfl)))) pe_int) pe_int))
        (pss_one (ps_ret (pe_op op_mod (pe_op op_fdiv (pe_op op_mod (pe_op op_add (pe_op op_mul (pv 3) (pe_op op_add (pe_op op_mod (pv 3) pe_int) pe_int)) (pe_op op_mul (pe_ix ix_list (pv 0) pe_int (fun _ _ => rfl)) pe_int)) pe_int) pe_int) (pv 1))))))), ?_⟩
    obtain ⟨x, y, z, hp, hx, hy, hy2, hz, hzn⟩ := hB
    refine ⟨_, rfl, p, _, 0, .int x, rfl, rfl, SqL.of hp, atI_nat (j := 0) rfl, _, _, rfl, rfl, _, rfl, ite2 (fun e => ?_) (fun e => ?_)⟩
    · refine ⟨_, rfl, p, _, 0, .int x, rfl, rfl, SqL.of hp, atI_nat (j := 0) rfl, _, rfl, _, _, rfl, rfl, hm, ?_⟩
      refine ⟨_, rfl, p, _, 0, .int x, rfl, rfl, SqL.of hp, atI_nat (j := 0) rfl, _, rfl, _, _, rfl, rfl, ⟨hm, hm2⟩, ?_⟩
      refine ⟨_, rfl, p, _, 0, 0, rfl, rfl, hp, rfl, _, rfl, ?_⟩
      exact q _ _ But.upd ⟨_, y, z, upd_same, Int.ediv_nonneg hx (Int.le_of_lt hm), hy, hy2, hz, by omega⟩ (Int.emod_nonneg _ (by omega)) (Int.emod_lt_of_pos _ hm)
    · refine ⟨_, rfl, p, _, 2, .int z, rfl, rfl, SqL.of hp, atI_nat (j := 2) rfl, _, _, rfl, rfl, _, rfl, p, _, 2, 2, rfl, rfl, hp, rfl, ?_⟩
      have hp2 : upd H p (.lst [.int x, .int y, .int (z + 1)]) p = some (.lst [.int x, .int y, .int (z + 1)]) := upd_same
      refine ⟨_, rfl, p, _, 1, .int y, rfl, rfl, SqL.of hp2, atI_nat (j := 1) rfl, _, rfl, p, _, 2, .int (z + 1), rfl, rfl, SqL.of hp2, atI_nat (j := 2) rfl, _, _, rfl, rfl, .inl ⟨by decide, by decide⟩, _, _, rfl, rfl, _, _, rfl, rfl, ⟨by decide, by decide, ?_⟩, _, _, rfl, rfl, (show (0 : Int) < 2147483647 by decide), ?_⟩
      · have : (y + 39373 * (z + 1)).natAbs < 18446744073709551616 := by omega
        exact this
      · refine ⟨_, rfl, _, rfl, _, _, rfl, rfl, (show (0 : Int) < 40009 by decide), _, _, rfl, rfl, _, _, rfl, rfl, .inr ⟨?_, ?_⟩, _, rfl, p, _, 2, .int (z + 1), rfl, rfl, SqL.of hp2, atI_nat (j := 2) rfl, _, _, rfl, rfl, .inr ⟨by decide, by decide⟩, _, _, rfl, rfl, _, _, rfl, rfl, (show (0 : Int) < 2147483629 by decide), _, _, rfl, rfl, ⟨by decide, by decide⟩, _, rfl, _, _, rfl, rfl, hm, ?_⟩
        · have h1 := Int.emod_nonneg ((y + 39373 * (z + 1)) ^ 5 % 2147483647) (b := 40009) (by decide)
          have : -18446744073709551616 < ((y + 39373 * (z + 1)) ^ 5 % 2147483647) % 40009 + 7 := by omega
          exact this
        · have h1 := Int.emod_lt_of_pos ((y + 39373 * (z + 1)) ^ 5 % 2147483647) (b := 40009) (by decide)
          have : ((y + 39373 * (z + 1)) ^ 5 % 2147483647) % 40009 + 7 < 18446744073709551616 := by omega
          exact this
        · exact q _ _ But.upd ⟨x, y, z + 1, hp2, hx, hy, hy2, by omega, by omega⟩ (Int.emod_nonneg _ (by omega)) (Int.emod_lt_of_pos _ hm)
end
section
variable {P : Program} {w : World} {K : PySem.W.Frag} {mg : Str → Option Value} {base : Heap}
theorem okLSame (T : Tx K mg) : ∀ n : Nat, FnOk P w K mg base CX0 n (He.ga K "_law_same") T.fdLSame ["_law_found", "_law_due"] (spLSame K n)
  | 0 => ⟨fun vs H Q E h => by obtain ⟨x, y, d, _, _, _, h, _, _⟩ := h; exact absurd h (Nat.not_lt_zero _), fun A outer s H args us vs Q E _ _ _ _ h => by obtain ⟨x, y, d, _, _, _, h, _, _⟩ := h; exact absurd h (Nat.not_lt_zero _)⟩
  | n + 1 => by
    have GLSame : FnOk P w K mg base CX0 n (He.ga K "_law_same") T.fdLSame ["_law_found", "_law_due"] (spLSame K n) := okLSame T n
    have B := T.B
    have bLSame := T.bLSame
    refine T.FLSame.ok scLSame (fun vs H Q E h => ?_) (fun cdv A outer s H vs Q E hr h => ?_)
    · obtain ⟨x, y, d, rfl, _⟩ := h
      rfl
    · obtain ⟨x, y, d, rfl, hx, hy, hd, hw, q⟩ := h
      refine ⟨_, PSs.nox (pss_cons (ps_if (pt_val (pe_callB call_isiT (by rfl) B.b_isinstance boot_isinstance (pa_cons (pv 1) (pa_cons (pe_tup (pa_cons (pe_bltn (v := .ty "list") (by rfl) B.b_list PyProof.Rows.boot_list rfl) (pa_cons (pe_bltn (v := .ty "tuple") (by rfl) B.b_tuple PyProof.Rows.boot_tuple rfl) pa_nil))) pa_nil)))) (pss_cons (ps_if (PW.pt (pw_or (pt_cmpR op_ne (pe_callB call_isi (by rfl) B.b_isinstance boot_isinstance (pa_cons (pv 0) (pa_cons (pe_bltn (v := .ty "list") (by rfl) B.b_list PyProof.Rows.boot_list rfl) pa_nil))) (pe_callB call_isi (by rfl) B.b_isinstance boot_isinstance (pa_cons (pv 1) (pa_cons (pe_bltn (v := .ty "list") (by rfl) B.b_list PyProof.Rows.boot_list rfl) pa_nil))) (nomark _)) (pw_or1 (pt_cmpR op_ne (pe_callB call_isi (by rfl) B.b_isinstance boot_isinstance (pa_cons (pv 0) (pa_cons (pe_bltn (v := .ty "tuple") (by rfl) B.b_tuple PyProof.Rows.boot_tuple rfl) pa_nil))) (pe_callB call_isi (by rfl) B.b_isinstance boot_isinstance (pa_cons (pv 1) (pa_cons (pe_bltn (v := .ty "tuple") (by rfl) B.b_tuple PyProof.Rows.boot_tuple rfl) pa_nil))) (nomark _))))) (pss_one (ps_ret pe_bl)) pss_nil)
        (pss_cons (ps_if (pt_cmpR op_ne (pe_callB call_len_seq (by rfl) B.b_len PySem.boot_len (pa_cons (pv 0) pa_nil)) (pe_callB call_len_seq (by rfl) B.b_len PySem.boot_len (pa_cons (pv 1) pa_nil)) (nomark _)) (pss_one (ps_ret pe_bl)) pss_nil)
        (pss_one (ps_ret (pe_callB (cr_all rfl) (by rfl) B.b_all boot_all (pa_cons (pe_lc (own := [("_law_one", 2), ("_law_two", 3)]) (g := gTup K 2 (gCons (gName 2) (gCons (gName 3) gNil))) (tt := tYes) (by rfl) scLSame.nd (RZ.pi_zipA (by rfl) B.b_zip (pa_cons (pv 0) (pa_cons (pv 1) pa_nil))) (blkOk_by (own := [("_law_one", 2), ("_law_two", 3)]) (N := ["_law_found", "_law_due", "_law_one", "_law_two"]) (sc := defScope sLSame) (by decide +kernel)) (fun _ _ _ _ _ => by exact (pg_tup rfl (pgs_cons (pg_name (i := 2) scLSame.nd rfl (Or.inl rfl)) (pgs_cons (pg_name (i := 3) scLSame.nd rfl (Or.inl rfl)) pgs_nil)))) (fun _ _ _ _ _ => pts_nil) (fun _ _ _ _ _ => (pe_call GLSame hr (by rfl) T.gLSame T.FLSame.kp bLSame .nil pass0 (pa_cons (pv 2) (pa_cons (pv 3) pa_nil))))) pa_nil)))))) pss_nil)
        (pss_cons (ps_if (PW.pt (pw_or (pt_cmpR op_isN (pv 1) pe_non (nomark _)) (pw_or1 (pt_val (pe_callB call_isi (by rfl) B.b_isinstance boot_isinstance (pa_cons (pv 1) (pa_cons (pe_bltn (v := .ty "str") (by rfl) B.b_str PyProof.Rows.boot_str rfl) pa_nil))))))) (pss_one (ps_ret (pe_and (pe_cmpR op_eq (pv 0) (pv 1) (nomark _)) (pe_one (pe_cmpR op_eq (pe_callB call_isi (by rfl) B.b_isinstance boot_isinstance (pa_cons (pv 0) (pa_cons (pe_bltn (v := .ty "str") (by rfl) B.b_str PyProof.Rows.boot_str rfl) pa_nil))) (pe_callB call_isi (by rfl) B.b_isinstance boot_isinstance (pa_cons (pv 1) (pa_cons (pe_bltn (v := .ty "str") (by rfl) B.b_str PyProof.Rows.boot_str rfl) pa_nil))) (nomark _)))))) pss_nil)
        (pss_one (ps_ret (pe_and (pe_callB call_isi (by rfl) B.b_isinstance boot_isinstance (pa_cons (pv 0) (pa_cons (pe_bltn (v := .ty "int") (by rfl) B.b_int PyProof.Rows.boot_int rfl) pa_nil))) (pe_and (pe_cmpR op_eq (pe_callB call_isi (by rfl) B.b_isinstance boot_isinstance (pa_cons (pv 0) (pa_cons (pe_bltn (v := .ty "bool") (by rfl) B.b_bool PyProof.Rows.boot_bool rfl) pa_nil))) (pe_callB call_isi (by rfl) B.b_isinstance boot_isinstance (pa_cons (pv 1) (pa_cons (pe_bltn (v := .ty "bool") (by rfl) B.b_bool PyProof.Rows.boot_bool rfl) pa_nil))) (nomark _)) (pe_one (pe_cmpR op_eq (pv 0) (pv 1) (nomark _))))))))), ?_⟩
      refine ⟨_, rfl, (by show 2 ≤ sizeLine; decide), fun tp htp => ?_⟩
      have s1 : Same H (upd H tp (.tup [.ty "list", .ty "tuple"])) := same_new htp
      have hx1 := dp_same s1 d x hx
      have hy1 := dp_same s1 d y hy
      cases d with
      | none =>
        cases hx1; cases hy1
        refine ⟨_, tp, _, _, _, _, rfl, upd_same, cls2, .base .non, kit_none K _ (by decide +kernel) (by decide +kernel), _, rfl, iteF ?_⟩
        refine ⟨_, rfl, rfl, _, rfl, iteT ?_⟩
        refine iteT ?_
        refine ⟨_, rfl, _, rfl, rfl, _, rfl, iteT ?_⟩
        refine ⟨_, rfl, _, _, _, _, _, rfl, .ty _, .base .non, kit_ty (r := false) (by decide +kernel), _, rfl, _, _, _, _, _, rfl, .ty _, .base .non, kit_ty (r := false) (by decide +kernel), rfl, ?_⟩
        exact q _ s1
      | bool z =>
        cases hx1; cases hy1
        refine ⟨_, tp, _, _, _, _, rfl, upd_same, cls2, .base (.bl z), kit_none K _ (by decide +kernel) (by decide +kernel), _, rfl, iteF ?_⟩
        refine ⟨_, rfl, rfl, _, rfl, iteF ?_⟩
        refine ⟨_, rfl, _, _, _, _, _, rfl, .ty _, .base (.bl z), kit_ty (r := false) (by decide +kernel), _, rfl, iteF ?_⟩
        refine ⟨_, rfl, _, _, _, _, _, rfl, .ty _, .base (.bl z), kit_ty (r := true) (by decide +kernel), _, rfl, iteT ?_⟩
        refine ⟨_, rfl, _, _, _, _, _, rfl, .ty _, .base (.bl z), kit_ty (r := true) (by decide +kernel), _, rfl, _, _, _, _, _, rfl, .ty _, .base (.bl z), kit_ty (r := true) (by decide +kernel), rfl, _, rfl, iteT ?_⟩
        refine ⟨_, rfl, _, rfl, rfl, ?_⟩
        rw [decide_eq_true rfl]
        exact q _ s1
      | int z =>
        cases hx1; cases hy1
        refine ⟨_, tp, _, _, _, _, rfl, upd_same, cls2, .base (.int z), kit_none K _ (by decide +kernel) (by decide +kernel), _, rfl, iteF ?_⟩
        refine ⟨_, rfl, rfl, _, rfl, iteF ?_⟩
        refine ⟨_, rfl, _, _, _, _, _, rfl, .ty _, .base (.int z), kit_ty (r := false) (by decide +kernel), _, rfl, iteF ?_⟩
        refine ⟨_, rfl, _, _, _, _, _, rfl, .ty _, .base (.int z), kit_ty (r := true) (by decide +kernel), _, rfl, iteT ?_⟩
        refine ⟨_, rfl, _, _, _, _, _, rfl, .ty _, .base (.int z), kit_ty (r := false) (by decide +kernel), _, rfl, _, _, _, _, _, rfl, .ty _, .base (.int z), kit_ty (r := false) (by decide +kernel), rfl, _, rfl, iteT ?_⟩
        refine ⟨_, rfl, _, rfl, rfl, ?_⟩
        rw [decide_eq_true rfl]
        exact q _ s1
      | str z =>
        cases hx1; cases hy1
        refine ⟨_, tp, _, _, _, _, rfl, upd_same, cls2, .base (.str z), kit_none K _ (by decide +kernel) (by decide +kernel), _, rfl, iteF ?_⟩
        refine ⟨_, rfl, rfl, _, rfl, iteF ?_⟩
        refine ⟨_, rfl, _, _, _, _, _, rfl, .ty _, .base (.str z), kit_ty (r := true) (by decide +kernel), _, rfl, iteT ?_⟩
        refine ⟨_, rfl, _, rfl, rfl, _, rfl, ?_⟩
        rw [decide_eq_true rfl]
        refine iteT ?_
        refine ⟨_, rfl, _, _, _, _, _, rfl, .ty _, .base (.str z), kit_ty (r := true) (by decide +kernel), _, rfl, _, _, _, _, _, rfl, .ty _, .base (.str z), kit_ty (r := true) (by decide +kernel), rfl, ?_⟩
        exact q _ s1
      | list ds =>
        cases hx1 with
        | @lst a xs _ ha da =>
        cases hy1 with
        | @lst c ys _ hc dc =>
        refine ⟨_, tp, _, _, _, _, rfl, upd_same, cls2, ty_list hc, kit_list K, _, rfl, iteT ?_⟩
        refine ⟨_, rfl, _, _, _, _, _, rfl, .ty _, ty_list ha, kit_ty (r := true) (by decide +kernel), _, rfl, _, _, _, _, _, rfl, .ty _, ty_list hc, kit_ty (r := true) (by decide +kernel), rfl, _, rfl, iteF ?_⟩
        refine ⟨_, rfl, _, _, _, _, _, rfl, .ty _, ty_list ha, kit_ty (r := false) (by decide +kernel), _, rfl, _, _, _, _, _, rfl, .ty _, ty_list hc, kit_ty (r := false) (by decide +kernel), rfl, _, rfl, iteF ?_⟩
        have hl : xs.length = ys.length := (dpa_len da).trans (dpa_len dc).symm
        refine ⟨_, rfl, a, xs, rfl, .inl ha, _, rfl, c, ys, rfl, .inl hc, rfl, _, rfl, ?_⟩
        rw [decide_eq_true (by rw [hl])]
        refine iteF ?_
        refine ⟨_, rfl, _, rfl, a, c, xs, ys, rfl, .inl ⟨ha, hc, fun D hD => ?_⟩⟩
        refine lc_it (walk_zip (n := xs.length) (by omega)) (fun i G => Same (upd H tp (.tup [.ty "list", .ty "tuple"])) G ∧ G D = some (.lst (List.replicate i (.bl true)))) ⟨same_new hD, upd_same⟩ (fun i G _ h => ⟨Same.seq h.1 ha, Same.seq h.1 hc⟩) ?_ ?_
        · intro i v G G1 hi hP hy
          obtain ⟨sG, hDG⟩ := hP
          obtain ⟨T, u, v2, rfl, hT, rfl, hu, hv⟩ := hy
          obtain ⟨d1, e1, p1⟩ := dpa_at da hu
          obtain ⟨d2, e2, p2⟩ := dpa_at dc hv
          have ed : d1 = d2 := Option.some.inj (e1.symm.trans e2)
          subst ed
          have sT : Same (upd H tp (.tup [.ty "list", .ty "tuple"])) (upd G T (.tup [u, v2])) := sG.trans (same_new hT)
          have hdep : dep d1 < n := by
            have h1 := deps_at e1
            have h2 : dep.deps ds + 1 < n + 1 := hd
            omega
          have hwid : wid d1 ≤ 1000000 := by
            have h1 := wids_at e1
            have h2 : max ds.length (wid.wids ds) ≤ 1000000 := hw
            omega
          refine ⟨T, [u, v2], rfl, .inl (.inl upd_same), rfl, u, [v2], rfl, v2, [], rfl, rfl, ?_⟩
          refine ⟨rfl, ?_⟩
          unfold tYes
          refine iteT ?_
          refine ⟨_, rfl, _, rfl, u, v2, d1, rfl, dp_same sT _ _ p1, dp_same sT _ _ p2, hdep, hwid, fun G2 s2 => ?_⟩
          have hD2 : G2 D = some (.lst (List.replicate i (.bl true))) := s2 _ _ (same_new hT _ _ hDG)
          refine ⟨_, hD2, ?_, ?_, ?_⟩
          · rw [List.length_replicate]
            exact small6 (by have h1 : max ds.length (wid.wids ds) ≤ 1000000 := hw; have h2 := dpa_len da; omega)
          · intro b o e
            have hb : b ≠ D := ne_of_none e hD
            rw [upd_ne hb]
            exact s2 _ _ (sT _ _ e)
          · rw [upd_same, List.replicate_succ']
        · intro G hP
          obtain ⟨sG, hDG⟩ := hP
          have eb : List.replicate xs.length (V.bl true) = (List.replicate xs.length true).map V.bl := by rw [List.map_replicate]
          rw [eb] at hDG
          refine ⟨D, _, rfl, .inl (.inl hDG), ?_⟩
          rw [all_rep]
          exact q _ (s1.trans sG)
      | tuple ds =>
        cases hx1 with
        | @tup a xs _ ha da =>
        cases hy1 with
        | @tup c ys _ hc dc =>
        refine ⟨_, tp, _, _, _, _, rfl, upd_same, cls2, ty_tup hc, kit_tup K, _, rfl, iteT ?_⟩
        refine ⟨_, rfl, _, _, _, _, _, rfl, .ty _, ty_tup ha, kit_ty (r := false) (by decide +kernel), _, rfl, _, _, _, _, _, rfl, .ty _, ty_tup hc, kit_ty (r := false) (by decide +kernel), rfl, _, rfl, iteF ?_⟩
        refine ⟨_, rfl, _, _, _, _, _, rfl, .ty _, ty_tup ha, kit_ty (r := true) (by decide +kernel), _, rfl, _, _, _, _, _, rfl, .ty _, ty_tup hc, kit_ty (r := true) (by decide +kernel), rfl, _, rfl, iteF ?_⟩
        have hl : xs.length = ys.length := (dpa_len da).trans (dpa_len dc).symm
        refine ⟨_, rfl, a, xs, rfl, .inr ha, _, rfl, c, ys, rfl, .inr hc, rfl, _, rfl, ?_⟩
        rw [decide_eq_true (by rw [hl])]
        refine iteF ?_
        refine ⟨_, rfl, _, rfl, a, c, xs, ys, rfl, .inr ⟨ha, hc, fun D hD => ?_⟩⟩
        refine lc_it (walk_zipT hl) (fun i G => Same (upd H tp (.tup [.ty "list", .ty "tuple"])) G ∧ G D = some (.lst (List.replicate i (.bl true)))) ⟨same_new hD, upd_same⟩ (fun i G _ h => ⟨seqT_same h.1 ha, seqT_same h.1 hc⟩) ?_ ?_
        · intro i v G G1 hi hP hy
          obtain ⟨sG, hDG⟩ := hP
          obtain ⟨T, u, v2, rfl, hT, rfl, hu, hv⟩ := hy
          obtain ⟨d1, e1, p1⟩ := dpa_at da hu
          obtain ⟨d2, e2, p2⟩ := dpa_at dc hv
          have ed : d1 = d2 := Option.some.inj (e1.symm.trans e2)
          subst ed
          have sT : Same (upd H tp (.tup [.ty "list", .ty "tuple"])) (upd G T (.tup [u, v2])) := sG.trans (same_new hT)
          have hdep : dep d1 < n := by
            have h1 := deps_at e1
            have h2 : dep.deps ds + 1 < n + 1 := hd
            omega
          have hwid : wid d1 ≤ 1000000 := by
            have h1 := wids_at e1
            have h2 : max ds.length (wid.wids ds) ≤ 1000000 := hw
            omega
          refine ⟨T, [u, v2], rfl, .inl (.inl upd_same), rfl, u, [v2], rfl, v2, [], rfl, rfl, ?_⟩
          refine ⟨rfl, ?_⟩
          unfold tYes
          refine iteT ?_
          refine ⟨_, rfl, _, rfl, u, v2, d1, rfl, dp_same sT _ _ p1, dp_same sT _ _ p2, hdep, hwid, fun G2 s2 => ?_⟩
          have hD2 : G2 D = some (.lst (List.replicate i (.bl true))) := s2 _ _ (same_new hT _ _ hDG)
          refine ⟨_, hD2, ?_, ?_, ?_⟩
          · rw [List.length_replicate]
            exact small6 (by have h1 : max ds.length (wid.wids ds) ≤ 1000000 := hw; have h2 := dpa_len da; omega)
          · intro b o e
            have hb : b ≠ D := ne_of_none e hD
            rw [upd_ne hb]
            exact s2 _ _ (sT _ _ e)
          · rw [upd_same, List.replicate_succ']
        · intro G hP
          obtain ⟨sG, hDG⟩ := hP
          have eb : List.replicate xs.length (V.bl true) = (List.replicate xs.length true).map V.bl := by rw [List.map_replicate]
          rw [eb] at hDG
          refine ⟨D, _, rfl, .inl (.inl hDG), ?_⟩
          rw [all_rep]
          exact q _ (s1.trans sG)
      | dict ds => cases hx1

end
section
variable {P : Program} {w : World} {K : PySem.W.Frag} {mg : Str → Option Value} {base : Heap}
/-! numbers without a divisor in common -/
def Cop (a b : Int) : Prop := ∀ c : Int, 0 < c → c ∣ a → c ∣ b → c = 1
theorem cop_of {a b u v : Int} (h : u * a + v * b = 1) : Cop a b := fun c hc ha hb => by
  have h1 : c ∣ 1 := by
    rw [← h]
    exact Int.dvd_add (Int.dvd_trans ha (Int.dvd_mul_left _ _)) (Int.dvd_trans hb (Int.dvd_mul_left _ _))
  exact Int.eq_one_of_dvd_one (Int.le_of_lt hc) h1
theorem cop_mod {a m : Int} (h : Cop a m) : Cop m (a % m) := fun c hc h1 h2 => by
  refine h c hc ?_ h1
  have e := Int.mul_ediv_add_emod a m
  rw [← e]
  exact Int.dvd_add (Int.dvd_trans h1 (Int.dvd_mul_right _ _)) h2
theorem cop_pos {a b : Int} (h : Cop a b) (ha : 1 < a) (hb : 0 ≤ b) : 1 ≤ b := by
  by_cases e : b = 0
  · subst e
    have := h a (by omega) (Int.dvd_refl _) (Int.dvd_zero _)
    omega
  · omega
def spInverse : Sp := fun vs H Q _ => ∃ (a m : Int), vs = [.int a, .int m] ∧ 1 < m ∧ m < 1073741824 ∧ Cop a m ∧ ∀ (r : Int) (G : Hp), Same H G → 0 ≤ r → r < m → m ∣ (r * a - 1) → Q (.int r) G
/-- the number that leads back: 48271 times it leaves 1 by 9973 -/
def back : Int := 5462
def meas (b : Int) : Int := (b * 48271 + 11) % 9973
def bod (n l : Int) : Int := l + ((n - 11) * back - l) % 9973
theorem back_ok : (back * 48271) % 9973 = 1 := by decide
theorem back_of {r : Int} (h0 : 0 ≤ r) (h1 : r < 9973) (h : (9973 : Int) ∣ (r * 48271 - 1)) : r = back := by
  unfold back
  omega
theorem bod_lo (n l : Int) : l ≤ bod n l := by
  unfold bod
  omega
theorem bod_hi (n l : Int) : bod n l < l + 9973 := by
  unfold bod
  omega
theorem bod_meas {n l : Int} (h0 : 0 ≤ n) (h1 : n < 9973) : meas (bod n l) = n := by
  unfold meas bod back
  omega
theorem bod_same {n l : Int} : bod n (bod n l) = bod n l := by
  unfold bod back
  omega
theorem bod_next {n l : Int} : bod n (bod n l + 1) = bod n l + 9973 := by
  unfold bod back
  omega
theorem meas_eq {a b : Int} : (meas a = meas b) ↔ ((if a - b < 0 then -(a - b) else a - b) % 9973 = 0) := by
  unfold meas
  split <;> omega
def spMeasure : Sp := fun vs H Q _ => ∃ b : Int, vs = [.int b] ∧ Q (.int (meas b)) H
def spBodies : Sp := fun vs H Q _ => ∃ n l : Int, vs = [.int n, .int l] ∧ ∀ G, Same H G → Q (.int (bod n l)) G
def spLNote : Sp := fun vs H Q _ => ∃ (p : Addr) (n : Int), vs = [.ref p] ∧ Box H p n ∧ n < 1000000 ∧ ∀ (r : Int) (G : Hp), But p H G → Box G p (n + 2) → 0 ≤ r → r < 9973 → Q (.int r) G
def spLIsNumber : Sp := fun vs H Q _ => ∃ a b c : Int, vs = [.int a, .int b, .int c] ∧ Q (.bl (decide (b ≤ a ∧ a < c))) H
def spLBodiesRight : Sp := fun vs H Q _ => ∃ n l : Int, vs = [.int n, .int l] ∧ 0 ≤ n ∧ n < 9973 ∧ ∀ G, Same H G → Q (.bl true) G
theorem okInverse (T : Tx K mg) : FnOk P w K mg base CX0 1 (He.ga K "inverse") T.fdInverse ["number", "span"] spInverse := by
  have B := T.B
  refine T.FInverse.ok scInverse (fun vs H Q E h => ?_) (fun cdv A outer s H vs Q E hr h => ?_)
  · obtain ⟨a, m, rfl, _⟩ := h
    rfl
  · obtain ⟨a, m, rfl, hm, hm2, hc, q⟩ := h
    refine ⟨_, PSs.nox (pss_cons (ps_par (i := 2) (j := 3) (by rfl) scInverse.nd rfl rfl (by decide) rfl rfl (pa_cons (pv 1) (pa_cons (pe_op op_mod (pv 0) (pv 1)) pa_nil)) (by rfl))
        (pss_cons (ps_asg (pe_tup (pa_cons pe_int (pa_cons pe_int pa_nil))) (pg_tup rfl (pgs_cons (pg_name (i := 4) scInverse.nd rfl (Or.inl rfl)) (pgs_cons (pg_name (i := 5) scInverse.nd rfl (Or.inl rfl)) pgs_nil))))
        (pss_cons (ps_while PassesOwn.never (pt_cmpR op_gt (pv 3) pe_int (nomark _))
        (pss_cons (ps_set (i := 6) scInverse.nd rfl (.inl rfl) (pe_op op_fdiv (pv 2) (pv 3)))
        (pss_cons (ps_par (i := 2) (j := 3) (by rfl) scInverse.nd rfl rfl (by decide) rfl rfl (pa_cons (pv 3) (pa_cons (pe_op op_sub (pv 2) (pe_op op_mul (pv 6) (pv 3))) pa_nil)) (by rfl))
        (pss_one (ps_par (i := 4) (j := 5) (by rfl) scInverse.nd rfl rfl (by decide) rfl rfl (pa_cons (pv 5) (pa_cons (pe_op op_sub (pv 4) (pe_op op_mul (pv 6) (pv 5))) pa_nil)) (by rfl))))))
        (pss_one (ps_ret (pe_op op_mod (pv 5) (pv 1))))))), ?_⟩
    refine ⟨_, rfl, _, rfl, _, rfl, _, _, rfl, rfl, (show 0 < m by omega), _, _, rfl, (by show 2 ≤ sizeLine; decide), fun T hT => ⟨T, _, rfl, .inl (.inl upd_same), rfl, _, _, rfl, _, _, rfl, rfl, ?_⟩⟩
    have l1 := Int.emod_nonneg a (b := m) (by omega)
    have l2 := Int.emod_lt_of_pos a (b := m) (by omega)
    have hc0 := cop_mod hc
    refine while_by (fun σ G => Same H G ∧ ∃ (hi lo be fo : Int) (t : Option V), σ = [some (.int a), some (.int m), some (.int hi), some (.int lo), some (.int be), some (.int fo), t] ∧ 1 ≤ lo ∧ lo < hi ∧ hi ≤ m ∧ Cop hi lo ∧ m ∣ (fo * a - lo) ∧ m ∣ (be * a - hi))
      (fun σ _ => match σ with | [_, _, _, some (.int lo), _, _, _] => lo.toNat | _ => 0) ⟨same_new hT, m, a % m, 0, 1, none, rfl, cop_pos hc0 hm l1, l2, Int.le_refl _, hc0, ?_, ?_⟩ ?_ ?_
    · have e := Int.mul_ediv_add_emod a m
      have e2 : 1 * a - a % m = m * (a / m) := by omega
      rw [e2]
      exact Int.dvd_mul_right _ _
    · have e2 : 0 * a - m = m * (-1) := by omega
      rw [e2]
      exact Int.dvd_mul_right _ _
    · rintro σ G ⟨sG, hi, lo, be, fo, t, rfl, h1, h2, h3, h4, h5, h6⟩
      refine ⟨_, rfl, _, _, rfl, rfl, _, rfl, ite2 (fun e => ?_) (fun e => ?_)⟩
      · have elo : 1 < lo := of_decide_eq_true e
        have t1 : 0 ≤ hi / lo := Int.ediv_nonneg (by omega) (by omega)
        have t2 : hi / lo ≤ hi := Int.ediv_le_self _ (by omega)
        have r1 := Int.emod_nonneg hi (b := lo) (by omega)
        have r2 := Int.emod_lt_of_pos hi (b := lo) (by omega)
        have r3 := Int.mul_ediv_add_emod hi lo
        have r4 : hi - hi / lo * lo = hi % lo := by rw [Int.mul_comm]; omega
        have hcn := cop_mod h4
        have hb1 : -18446744073709551616 < hi / lo := by omega
        have hb2 : hi / lo < 18446744073709551616 := by omega
        have hb : -(2 ^ 64 : Int) < hi / lo ∧ hi / lo < 2 ^ 64 := ⟨hb1, hb2⟩
        refine ⟨_, rfl, _, rfl, _, _, rfl, rfl, ⟨by omega, by omega⟩, ?_⟩
        refine ⟨_, rfl, _, rfl, _, rfl, _, rfl, _, _, rfl, rfl, .inl hb, _, _, rfl, rfl, _, _, rfl, ?_⟩
        refine ⟨_, rfl, _, rfl, _, rfl, _, rfl, _, _, rfl, rfl, .inl hb, _, _, rfl, rfl, _, _, rfl, ?_⟩
        refine ⟨⟨sG, lo, hi - hi / lo * lo, fo, be - hi / lo * fo, _, rfl, ?_, ?_, by omega, ?_, ?_, h5⟩, ?_⟩
        · rw [r4]
          exact cop_pos hcn elo r1
        · omega
        · rw [r4]
          exact hcn
        · have e9 : (be - hi / lo * fo) * a - (hi - hi / lo * lo) = (be * a - hi) - (hi / lo) * (fo * a - lo) := by
            rw [Int.sub_mul, Int.mul_sub, Int.mul_assoc]
            omega
          rw [e9]
          exact Int.dvd_sub h6 (Int.dvd_trans h5 (Int.dvd_mul_left _ _))
        · show (hi - hi / lo * lo).toNat < lo.toNat
          omega
      · have elo : lo = 1 := by
          have : ¬ 1 < lo := fun z => e (decide_eq_true z)
          omega
        subst elo
        refine ⟨_, rfl, _, rfl, _, _, rfl, rfl, (show 0 < m by omega), ?_⟩
        refine q _ _ sG (Int.emod_nonneg _ (by omega)) (Int.emod_lt_of_pos _ (by omega)) ?_
        have e := Int.mul_ediv_add_emod fo m
        have e2 : fo % m * a - 1 = (fo * a - 1) - m * (fo / m * a) := by
          have e3 : fo % m = fo - m * (fo / m) := by omega
          rw [e3, Int.sub_mul, Int.mul_assoc]
          omega
        rw [e2]
        exact Int.dvd_sub h5 (Int.dvd_mul_right _ _)
    · intro σ G Q1 Q2 hq h
      obtain ⟨v, e1, i, j, e2, e3, k, e4, z⟩ := h
      exact ⟨v, e1, i, j, e2, e3, k, e4, hq _ _ z⟩
theorem okMeasure (T : Tx K mg) : FnOk P w K mg base CX0 1 (He.ga K "measure") T.fdMeasure ["body"] spMeasure := by
  have B := T.B
  refine T.FMeasure.ok scMeasure (fun vs H Q E h => ?_) (fun cdv A outer s H vs Q E hr h => ?_)
  · obtain ⟨b, rfl, _⟩ := h
    rfl
  · obtain ⟨b, rfl, q⟩ := h
    refine ⟨_, PSs.nox (pss_one (ps_ret (pe_op op_mod (pe_op op_add (pe_op op_mul (pv 0) (pe_glob (v := .int 48271) (by rfl) T.c_TIMES.choose_spec ⟨_, rfl⟩)) (pe_glob (v := .int 11) (by rfl) T.c_MORE.choose_spec ⟨_, rfl⟩)) (pe_glob (v := .int 9973) (by rfl) T.c_NOTES.choose_spec ⟨_, rfl⟩)))), ?_⟩
    exact ⟨_, rfl, _, _, rfl, rfl, .inr ⟨by decide, by decide⟩, _, _, rfl, rfl, _, _, rfl, rfl, (show (0 : Int) < 9973 by decide), q⟩
theorem okLMeasure (T : Tx K mg) : FnOk P w K mg base CX0 1 (He.ga K "_law_measure") T.fdLMeasure ["_law_load"] spMeasure := by
  have B := T.B
  refine T.FLMeasure.ok scLMeasure (fun vs H Q E h => ?_) (fun cdv A outer s H vs Q E hr h => ?_)
  · obtain ⟨b, rfl, _⟩ := h
    rfl
  · obtain ⟨b, rfl, q⟩ := h
    refine ⟨_, PSs.nox (pss_one (ps_ret (pe_op op_mod (pe_op op_add (pe_op op_mul (pv 0) pe_int) pe_int) pe_int))), ?_⟩
    exact ⟨_, rfl, _, _, rfl, rfl, .inr ⟨by decide, by decide⟩, _, _, rfl, rfl, _, _, rfl, rfl, (show (0 : Int) < 9973 by decide), q⟩
theorem okBodies (T : Tx K mg) : FnOk P w K mg base CX0 2 (He.ga K "bodies") T.fdBodies ["note", "least"] spBodies := by
  have B := T.B
  have GInverse : FnOk P w K mg base CX0 1 (He.ga K "inverse") T.fdInverse ["number", "span"] spInverse := okInverse T
  have bInverse := T.bInverse
  refine T.FBodies.ok scBodies (fun vs H Q E h => ?_) (fun cdv A outer s H vs Q E hr h => ?_)
  · obtain ⟨n, l, rfl, _⟩ := h
    rfl
  · obtain ⟨n, l, rfl, q⟩ := h
    refine ⟨_, PSs.nox (pss_cons (ps_set (i := 2) scBodies.nd rfl (.inl rfl) (pe_op op_mul (pe_op op_sub (pv 0) (pe_glob (v := .int 11) (by rfl) T.c_MORE.choose_spec ⟨_, rfl⟩)) (pe_call GInverse (hr.mono (by decide)) (by rfl) T.gInverse T.FInverse.kp bInverse .nil pass0 (pa_cons (pe_glob (v := .int 48271) (by rfl) T.c_TIMES.choose_spec ⟨_, rfl⟩) (pa_cons (pe_glob (v := .int 9973) (by rfl) T.c_NOTES.choose_spec ⟨_, rfl⟩) pa_nil)))))
        (pss_one (ps_ret (pe_op op_add (pv 1) (pe_op op_mod (pe_op op_sub (pv 2) (pv 1)) (pe_glob (v := .int 9973) (by rfl) T.c_NOTES.choose_spec ⟨_, rfl⟩)))))), ?_⟩
    refine ⟨_, rfl, _, _, rfl, rfl, 48271, 9973, rfl, by decide, by decide, cop_of (u := 5462) (v := -26437) (by decide), fun r G sG h0 h1 h2 => ?_⟩
    have e := back_of h0 h1 h2
    subst e
    refine ⟨_, _, rfl, rfl, .inr ⟨by decide, by decide⟩, _, rfl, _, rfl, _, rfl, _, _, rfl, rfl, _, _, rfl, rfl, (show (0 : Int) < 9973 by decide), _, _, rfl, rfl, ?_⟩
    exact q G sG
theorem okLNote (T : Tx K mg) : FnOk P w K mg base CX0 2 (He.ga K "_law_note") T.fdLNote ["_law_box_here"] spLNote := by
  have B := T.B
  have GLTake : FnOk P w K mg base CX0 1 (He.ga K "_law_take") T.fdLTake ["_law_box_here", "_law_size"] spLTake := okLTake T
  have bLTake := T.bLTake
  refine T.FLNote.ok scLNote (fun vs H Q E h => ?_) (fun cdv A outer s H vs Q E hr h => ?_)
  · obtain ⟨p, n, rfl, _⟩ := h
    rfl
  · obtain ⟨p, n, rfl, hB, hn, q⟩ := h
    refine ⟨_, PSs.nox (pss_one (ps_ret (pe_call GLTake (hr.mono (by decide)) (by rfl) T.gLTake T.FLTake.kp bLTake .nil pass0 (pa_cons (pv 0) (pa_cons (pe_ix ix_list (pe_lst (pa_cons pe_int (pa_cons pe_int (pa_cons pe_int pa_nil)))) (pe_call GLTake (hr.mono (by decide)) (by rfl) T.gLTake T.FLTake.kp bLTake .nil pass0 (pa_cons (pv 0) (pa_cons pe_int pa_nil))) (fun _ _ => rfl)) pa_nil))))), ?_⟩
    refine ⟨_, rfl, (by show 3 ≤ sizeLine; decide), fun l hl => ?_⟩
    have s1 : Same H (upd H l (.lst [.int 3, .int 12, .int 9973])) := same_new hl
    have nl := hB.ne hl
    refine ⟨_, rfl, p, 3, n, rfl, hB.same s1, by omega, by decide, by decide, fun r G sG hG r0 r1 => ?_⟩
    have hl2 : G l = some (.lst [.int 3, .int 12, .int 9973]) := sG _ _ upd_same nl
    have key : ∀ m : Int, atI [V.int 3, V.int 12, V.int 9973] r = some (.int m) → 0 < m → m ≤ 9973 → (∃ (p' : Addr) (xs : List V) (i : Int) (v : V), V.ref l = .ref p' ∧ V.int r = .int i ∧ SqL K G p' xs ∧ atI xs i = some v ∧ spLTake [.ref p, v] G Q E0) := fun m e m0 m1 =>
      ⟨l, _, r, .int m, rfl, rfl, SqL.of hl2, e, p, m, n + 1, rfl, hG, by omega, m0, by omega, fun r' G' sG' hG' a b => q r' G' ((But.of s1).trans (sG.trans sG')) (by rw [show n + 2 = n + 1 + 1 by omega]; exact hG') a (by omega)⟩
    have hr3 : r = 0 ∨ r = 1 ∨ r = 2 := by omega
    rcases hr3 with rfl | rfl | rfl
    · exact key 3 rfl (by decide) (by decide)
    · exact key 12 rfl (by decide) (by decide)
    · exact key 9973 rfl (by decide) (by decide)
theorem okLIsNumber (T : Tx K mg) : FnOk P w K mg base CX0 1 (He.ga K "_law_is_number") T.fdLIsNumber ["_law_one", "_law_low", "_law_top"] spLIsNumber := by
  have B := T.B
  refine T.FLIsNumber.ok scLIsNumber (fun vs H Q E h => ?_) (fun cdv A outer s H vs Q E hr h => ?_)
  · obtain ⟨a, b, c, rfl, _⟩ := h
    rfl
  · obtain ⟨a, b, c, rfl, q⟩ := h
    refine ⟨_, PSs.nox (pss_one (ps_ret (pe_and (pe_callB call_isi (by rfl) B.b_isinstance boot_isinstance (pa_cons (pv 0) (pa_cons (pe_bltn (v := .ty "int") (by rfl) B.b_int PyProof.Rows.boot_int rfl) pa_nil))) (pe_and (pe_not (pe_callB call_isi (by rfl) B.b_isinstance boot_isinstance (pa_cons (pv 0) (pa_cons (pe_bltn (v := .ty "bool") (by rfl) B.b_bool PyProof.Rows.boot_bool rfl) pa_nil)))) (pe_one (pe_chain op_le op_lt (pv 1) (pv 0) (pv 2))))))), ?_⟩
    refine ⟨_, rfl, _, _, _, _, _, rfl, .ty _, .base (.int a), kit_ty (r := true) (by decide +kernel), _, rfl, iteT ?_⟩
    refine ⟨_, rfl, _, _, _, _, _, rfl, .ty _, .base (.int a), kit_ty (r := false) (by decide +kernel), _, rfl, _, rfl, iteT ?_⟩
    refine ⟨_, rfl, _, rfl, _, _, rfl, rfl, _, rfl, ite2 (fun e => ?_) (fun e => ?_)⟩
    · have e1 : b ≤ a := of_decide_eq_true e
      refine ⟨_, rfl, _, _, rfl, rfl, ?_⟩
      have ee : decide (a < c) = decide (b ≤ a ∧ a < c) := by
        by_cases z : a < c
        · rw [decide_eq_true z, decide_eq_true ⟨e1, z⟩]
        · rw [decide_eq_false z, decide_eq_false fun y => z y.2]
      rw [← ee] at q
      exact q
    · have e1 : ¬ b ≤ a := fun z => e (decide_eq_true z)
      rw [decide_eq_false fun y => e1 y.1] at q
      exact q
end
section
variable {P : Program} {w : World} {K : PySem.W.Frag} {mg : Str → Option Value} {base : Heap}
/-- the ways in which bodies is called -/
structure BW (K : PySem.W.Frag) (fd : FuncData) : Prop where
  b1 : ∃ ds, Vals [.int 0] ds ∧ Binds K fd ["note", "least"] ds
  b2 : ∃ mv : List Value, KBn K fd ["note", "least"] 1 ["least"] (fun us ws => us ++ ws) (fun vs zs => vs ++ zs)
  b3 : ∃ mv : List Value, KBn K fd ["note", "least"] 0 ["least", "note"] (fun us ws => ws.reverse) (fun vs zs => zs.reverse)
  b4 : ∃ mv : List Value, KBn K fd ["note", "least"] 0 ["note"] (fun us ws => ws ++ mv) (fun vs zs => zs ++ [.int 0])
theorem bw_of (T : Tx K mg) : BW K T.fdBodies where
  b1 := T.FBodies.binds0 1 (by decide) rfl fun D doc pm an cdv ct us ks h1 h2 => match us, ks, h1, h2 with
    | [u], [k], _, _ => ⟨_, _, _, _, _, _, rfl, rfl, rfl⟩
  b2 := T.FBodies.kbinds0 1 ["least"] [] (fun us mv ws => us ++ ws) (by decide) (by simp) (fun a b c => a.append c) fun D doc pm an cdv ct us mv ws h1 h2 h3 => match us, mv, ws, h1, h2, h3 with
    | [u], [], [w], _, _, _ => rfl
  b3 := T.FBodies.kbinds0 0 ["least", "note"] [] (fun us mv ws => ws.reverse) (by decide) (by simp) (fun a b c => Vals.rev c) fun D doc pm an cdv ct us mv ws h1 h2 h3 => match us, mv, ws, h1, h2, h3 with
    | [], [], [w, w2], _, _, _ => rfl
  b4 := T.FBodies.kbinds0 0 ["note"] [("least", .int 0)] (fun us mv ws => ws ++ mv) (by decide) (by simp) (fun a b c => c.append b) fun D doc pm an cdv ct us mv ws h1 h2 h3 => match us, mv, ws, h1, h2, h3 with
    | [], [m], [w], _, _, _ => ⟨_, _, _, _, _, _, rfl, rfl, rfl⟩
theorem okLBodiesRight (T : Tx K mg) : FnOk P w K mg base CX0 3 (He.ga K "_law_bodies_right") T.fdLBodiesRight ["_law_mark", "_law_low"] spLBodiesRight := by
  have B := T.B
  have GLSame : FnOk P w K mg base CX0 2 (He.ga K "_law_same") T.fdLSame ["_law_found", "_law_due"] (spLSame K 2) := okLSame T 2
  have bLSame := T.bLSame
  have GBodies : FnOk P w K mg base CX0 2 (He.ga K "bodies") T.fdBodies ["note", "least"] spBodies := okBodies T
  have GLIsNumber : FnOk P w K mg base CX0 1 (He.ga K "_law_is_number") T.fdLIsNumber ["_law_one", "_law_low", "_law_top"] spLIsNumber := okLIsNumber T
  have bLIsNumber := T.bLIsNumber
  have GLMeasure : FnOk P w K mg base CX0 1 (He.ga K "_law_measure") T.fdLMeasure ["_law_load"] spMeasure := okLMeasure T
  have bLMeasure := T.bLMeasure
  have W := bw_of T
  obtain ⟨d1, rBodies_1, bBodies_1⟩ := W.b1
  obtain ⟨_, kBodies_1_least⟩ := W.b2
  obtain ⟨_, kBodies_least_note⟩ := W.b3
  obtain ⟨mv, kBodies_note⟩ := W.b4
  refine T.FLBodiesRight.ok scLBodiesRight (fun vs H Q E h => ?_) (fun cdv A outer s H vs Q E hr h => ?_)
  · obtain ⟨n, l, rfl, _⟩ := h
    rfl
  · obtain ⟨n, l, rfl, h0, h1, q⟩ := h
    refine ⟨_, PSs.nox (pss_cons (ps_set (i := 2) scLBodiesRight.nd rfl (.inl rfl) (pe_ifExp (pt_cmpR op_eq (pv 1) pe_int (nomark _)) (pe_call GBodies (hr.mono (by decide)) (by rfl) T.gBodies T.FBodies.kp bBodies_1 rBodies_1 pass0 (pa_cons (pv 0) pa_nil)) (pe_callN GBodies (hr.mono (by decide)) (by rfl) T.gBodies T.FBodies.kp kBodies_1_least pass0 (pa_cons (pv 0) pa_nil) (pk_cons (pv 1) pk_nil))))
        (pss_cons (ps_if (PW.pt (pw_or (pt_not (pt_val (pe_call GLSame (hr.mono (by decide)) (by rfl) T.gLSame T.FLSame.kp bLSame .nil pass0 (pa_cons (pe_kwCall GBodies (hr.mono (by decide)) (by rfl) T.gBodies T.FBodies.kp kBodies_least_note pass0 (pk_cons (pv 1) (pk_cons (pv 0) pk_nil))) (pa_cons (pv 2) pa_nil))))) (pw_or1 (PW.pt (pw_and (pt_cmpR op_eq (pv 1) pe_int (nomark _)) (pw_and1 (pt_not (pt_val (pe_call GLSame (hr.mono (by decide)) (by rfl) T.gLSame T.FLSame.kp bLSame .nil pass0 (pa_cons (pe_kwCall GBodies (hr.mono (by decide)) (by rfl) T.gBodies T.FBodies.kp kBodies_note pass0 (pk_cons (pv 0) pk_nil)) (pa_cons (pv 2) pa_nil))))))))))) (pss_one (ps_ret pe_bl)) pss_nil)
        (pss_cons (ps_if (PW.pt (pw_or (pt_not (pt_val (pe_call GLIsNumber (hr.mono (by decide)) (by rfl) T.gLIsNumber T.FLIsNumber.kp bLIsNumber .nil pass0 (pa_cons (pv 2) (pa_cons (pv 1) (pa_cons (pe_op op_add (pv 1) pe_int) pa_nil)))))) (pw_or1 (pt_cmpR op_ne (pe_call GLMeasure (hr.mono (by decide)) (by rfl) T.gLMeasure T.FLMeasure.kp bLMeasure .nil pass0 (pa_cons (pv 2) pa_nil)) (pv 0) (nomark _))))) (pss_one (ps_ret pe_bl)) pss_nil)
        (pss_one (ps_ret (pe_call GLSame (hr.mono (by decide)) (by rfl) T.gLSame T.FLSame.kp bLSame .nil pass0 (pa_cons (pe_lst (pa_cons (pe_callN GBodies (hr.mono (by decide)) (by rfl) T.gBodies T.FBodies.kp kBodies_1_least pass0 (pa_cons (pv 0) pa_nil) (pk_cons (pv 2) pk_nil)) (pa_cons (pe_kwCall GBodies (hr.mono (by decide)) (by rfl) T.gBodies T.FBodies.kp kBodies_least_note pass0 (pk_cons (pe_op op_add (pv 2) pe_int) (pk_cons (pv 0) pk_nil))) pa_nil))) (pa_cons (pe_lst (pa_cons (pv 2) (pa_cons (pe_op op_add (pv 2) pe_int) pa_nil))) pa_nil)))))))), ?_⟩
    refine ⟨_, rfl, rfl, _, rfl, ifx (fun v G => v = .int (bod n l) ∧ Same H G) (fun e C k => ?_) (fun e C k => ?_) ?_⟩
    · have el : l = 0 := V.int.inj (of_decide_eq_true e)
      subst el
      exact ⟨_, rfl, n, 0, rfl, fun G sG => k _ _ ⟨rfl, sG⟩⟩
    · exact ⟨_, rfl, _, rfl, rfl, rfl, n, l, rfl, fun G sG => k _ _ ⟨rfl, sG⟩⟩
    rintro v G ⟨rfl, sG⟩
    -- the looks
    refine ⟨_, rfl, _, rfl, rfl, rfl, n, l, rfl, fun G1 s1 => ⟨_, rfl, _, _, .int _, rfl, .int _, .int _, Nat.zero_lt_succ _, Nat.zero_le _, fun G2 s2 => ⟨_, rfl, iteF ?_⟩⟩⟩
    refine ⟨_, rfl, rfl, _, rfl, ift (fun v G => v = false ∧ Same H G) (fun e C k => ?_) (fun e => ⟨rfl, sG.trans (s1.trans s2)⟩) ?_⟩
    · have el : l = 0 := V.int.inj (of_decide_eq_true e)
      subst el
      exact ⟨_, rfl, rfl, rfl, n, 0, rfl, fun G3 s3 => ⟨_, rfl, _, _, .int _, rfl, .int _, .int _, Nat.zero_lt_succ _, Nat.zero_le _, fun G4 s4 => ⟨_, rfl, k _ _ ⟨rfl, sG.trans (s1.trans (s2.trans (s3.trans s4)))⟩⟩⟩⟩
    rintro b G3 ⟨rfl, s3⟩
    refine iteF ?_
    have hn : decide (l ≤ bod n l ∧ bod n l < l + 9973) = true := decide_eq_true ⟨bod_lo n l, bod_hi n l⟩
    refine ⟨_, rfl, _, rfl, _, rfl, _, _, rfl, rfl, _, _, _, rfl, _, rfl, ?_⟩
    rw [hn]
    refine iteF ?_
    refine ⟨_, rfl, _, rfl, _, rfl, rfl, _, rfl, ?_⟩
    rw [bod_meas h0 h1]
    refine iteNS rfl ?_
    refine ⟨_, rfl, _, rfl, rfl, rfl, n, bod n l, rfl, fun G4 s4 => ?_⟩
    refine ⟨_, rfl, _, _, rfl, rfl, _, rfl, rfl, rfl, n, bod n l + 1, rfl, fun G5 s5 => ⟨by show 2 ≤ sizeLine; decide, fun a ha => ?_⟩⟩
    rw [bod_same, bod_next]
    refine ⟨_, rfl, _, rfl, _, _, rfl, rfl, by show 2 ≤ sizeLine; decide, fun b hb => ?_⟩
    have ha2 := same_new (o := .lst [.int (bod n l), .int (bod n l + 9973)]) ha
    have hb2 := same_new (o := .lst [.int (bod n l), .int (bod n l + 9973)]) hb
    exact ⟨_, _, .list ([bod n l, bod n l + 9973].map PyData.int), rfl, .lst (SqL.of (hb2 _ _ upd_same)) (dpa_ints [bod n l, bod n l + 9973]), .lst (SqL.of upd_same) (dpa_ints [bod n l, bod n l + 9973]), dep_il _, wid_il _ (by show 2 ≤ 1000; decide), fun G6 s6 => q _ (s3.trans (s4.trans (s5.trans (ha2.trans (hb2.trans s6)))))⟩
end
section
variable {P : Program} {w : World} {K : PySem.W.Frag} {mg : Str → Option Value} {base : Heap}
theorem kb_mea (T : Tx K mg) : KBn K T.fdMeasure ["body"] 0 ["body"] (fun us ws => ws) (fun vs zs => zs) :=
  kw_plain T.FMeasure 0 ["body"] (fun us ws => ws) (fun a b => b) fun kV doc pm an cdv ct us ws h1 h2 => match us, ws, h1, h2 with
    | [], [w], _, _ => rfl
theorem okLaw (T : Tx K mg) : FnOk P w K mg base CX0 4 (He.ga K "law") T.fdLaw ["_law_script"] (spLaw K) := by
  have B := T.B
  have GLSame : FnOk P w K mg base CX0 2 (He.ga K "_law_same") T.fdLSame ["_law_found", "_law_due"] (spLSame K 2) := okLSame T 2
  have bLSame := T.bLSame
  have GLBox : FnOk P w K mg base CX0 1 (He.ga K "_law_box") T.fdLBox ["_law_script", "_law_k"] (spLBox K) := okLBox T
  have bLBox := T.bLBox
  have GLTake : FnOk P w K mg base CX0 1 (He.ga K "_law_take") T.fdLTake ["_law_box_here", "_law_size"] spLTake := okLTake T
  have bLTake := T.bLTake
  have GLMeasure : FnOk P w K mg base CX0 1 (He.ga K "_law_measure") T.fdLMeasure ["_law_load"] spMeasure := okLMeasure T
  have bLMeasure := T.bLMeasure
  have GMeasure : FnOk P w K mg base CX0 1 (He.ga K "measure") T.fdMeasure ["body"] spMeasure := okMeasure T
  have bMeasure := T.bMeasure
  have GLBodiesRight : FnOk P w K mg base CX0 3 (He.ga K "_law_bodies_right") T.fdLBodiesRight ["_law_mark", "_law_low"] spLBodiesRight := okLBodiesRight T
  have bLBodiesRight := T.bLBodiesRight
  have GLNote : FnOk P w K mg base CX0 2 (He.ga K "_law_note") T.fdLNote ["_law_box_here"] spLNote := okLNote T
  have bLNote := T.bLNote
  have kMeasure_body := kb_mea T
  refine T.FLaw.ok scLaw (fun vs H Q E h => ?_) (fun cdv A outer s H vs Q E hr h => ?_)
  · obtain ⟨a, ns, rfl, _⟩ := h
    rfl
  · obtain ⟨a, ns, rfl, hS, hlen, q⟩ := h
    refine ⟨_, PSs.nox (pss_cons (ps_if (pt_not (pt_val (pe_call GLSame (hr.mono (by decide)) (by rfl) T.gLSame T.FLSame.kp bLSame .nil pass0 (pa_cons (pe_lst (pa_cons (pe_glob (v := .int 9973) (by rfl) T.c_NOTES.choose_spec ⟨_, rfl⟩) (pa_cons (pe_call GMeasure (hr.mono (by decide)) (by rfl) T.gMeasure T.FMeasure.kp bMeasure .nil pass0 (pa_cons (pe_op op_pow pe_int pe_int) pa_nil)) (pa_cons (pe_kwCall GMeasure (hr.mono (by decide)) (by rfl) T.gMeasure T.FMeasure.kp kMeasure_body pass0 (pk_cons pe_int pk_nil)) pa_nil)))) (pa_cons (pe_lst (pa_cons pe_int (pa_cons (pe_call GLMeasure (hr.mono (by decide)) (by rfl) T.gLMeasure T.FLMeasure.kp bLMeasure .nil pass0 (pa_cons (pe_op op_pow pe_int pe_int) pa_nil)) (pa_cons pe_int pa_nil)))) pa_nil))))) (pss_one (ps_ret pe_bl)) pss_nil)
        (pss_cons (ps_for PassesOwn.never rfl (pi_range1 (by rfl) B.b_range (pa_cons (pe_callB (call_max2 rfl) (by rfl) B.b_max boot_max (pa_cons pe_int (pa_cons (pe_callB (call_min2 rfl) (by rfl) B.b_min boot_min (pa_cons pe_int (pa_cons (pe_callB call_len_seq (by rfl) B.b_len PySem.boot_len (pa_cons (pv 0) pa_nil)) pa_nil))) pa_nil))) pa_nil)) (pg_name (i := 1) scLaw.nd rfl (Or.inl rfl))
        (pss_cons (ps_par (i := 2) (j := 3) (by rfl) scLaw.nd rfl rfl (by decide) rfl rfl (pa_cons (pe_call GLBox (hr.mono (by decide)) (by rfl) T.gLBox T.FLBox.kp bLBox .nil pass0 (pa_cons (pv 0) (pa_cons (pv 1) pa_nil))) (pa_cons pe_int pa_nil)) (by rfl))
        (pss_cons (ps_for PassesOwn.never rfl (pi_range1 (by rfl) B.b_range (pa_cons pe_int pa_nil)) (pg_name (i := 4) scLaw.nd rfl (Or.inl rfl))
        (pss_cons (ps_set (i := 5) scLaw.nd rfl (.inl rfl) (pe_call GLTake (hr.mono (by decide)) (by rfl) T.gLTake T.FLTake.kp bLTake .nil pass0 (pa_cons (pv 2) (pa_cons (pe_ix ix_list (pe_lst (pa_cons pe_int (pa_cons pe_int (pa_cons (pe_op op_add (pe_op op_pow pe_int pe_int) pe_int) (pa_cons (pe_op op_add (pe_op op_pow pe_int pe_int) pe_int) pa_nil))))) (pe_call GLTake (hr.mono (by decide)) (by rfl) T.gLTake T.FLTake.kp bLTake .nil pass0 (pa_cons (pv 2) (pa_cons pe_int pa_nil))) (fun _ _ => rfl)) pa_nil))))
        (pss_cons (ps_set (i := 5) scLaw.nd rfl (.inl rfl) (pe_ifExp (pt_cmpR op_eq (pe_call GLTake (hr.mono (by decide)) (by rfl) T.gLTake T.FLTake.kp bLTake .nil pass0 (pa_cons (pv 2) (pa_cons pe_int pa_nil))) pe_int (nomark _)) (pe_op op_add (pe_op op_mod (pv 3) pe_int) (pe_op op_mul pe_int (pe_call GLTake (hr.mono (by decide)) (by rfl) T.gLTake T.FLTake.kp bLTake .nil pass0 (pa_cons (pv 2) (pa_cons pe_int pa_nil))))) (pv 5)))
        (pss_cons (ps_set (i := 6) scLaw.nd rfl (.inl rfl) (pe_call GLMeasure (hr.mono (by decide)) (by rfl) T.gLMeasure T.FLMeasure.kp bLMeasure .nil pass0 (pa_cons (pv 5) pa_nil)))
        (pss_cons (ps_if (pt_not (pt_val (pe_call GLSame (hr.mono (by decide)) (by rfl) T.gLSame T.FLSame.kp bLSame .nil pass0 (pa_cons (pe_lst (pa_cons (pe_call GMeasure (hr.mono (by decide)) (by rfl) T.gMeasure T.FMeasure.kp bMeasure .nil pass0 (pa_cons (pv 5) pa_nil)) (pa_cons (pe_kwCall GMeasure (hr.mono (by decide)) (by rfl) T.gMeasure T.FMeasure.kp kMeasure_body pass0 (pk_cons (pv 5) pk_nil)) pa_nil))) (pa_cons (pe_lst (pa_cons (pv 6) (pa_cons (pv 6) pa_nil))) pa_nil))))) (pss_one (ps_ret pe_bl)) pss_nil)
        (pss_cons (ps_if (pt_cmpR op_ne (pe_cmpR op_eq (pe_call GMeasure (hr.mono (by decide)) (by rfl) T.gMeasure T.FMeasure.kp bMeasure .nil pass0 (pa_cons (pv 5) pa_nil)) (pe_call GMeasure (hr.mono (by decide)) (by rfl) T.gMeasure T.FMeasure.kp bMeasure .nil pass0 (pa_cons (pv 3) pa_nil)) (nomark _)) (pe_cmpR op_eq (pe_op op_mod (pe_callB call_abs (by rfl) B.b_abs boot_abs (pa_cons (pe_op op_sub (pv 5) (pv 3)) pa_nil)) pe_int) pe_int (nomark _)) (nomark _)) (pss_one (ps_ret pe_bl)) pss_nil)
        (pss_one (ps_set (i := 3) scLaw.nd rfl (.inl rfl) (pv 5)))))))))
        (pss_one (ps_for PassesOwn.never rfl (pi_range1 (by rfl) B.b_range (pa_cons pe_int pa_nil)) (pg_name (i := 4) scLaw.nd rfl (Or.inl rfl))
        (pss_cons (ps_set (i := 7) scLaw.nd rfl (.inl rfl) (pe_ix ix_list (pe_lst (pa_cons pe_int (pa_cons (pe_call GLTake (hr.mono (by decide)) (by rfl) T.gLTake T.FLTake.kp bLTake .nil pass0 (pa_cons (pv 2) (pa_cons pe_int pa_nil))) (pa_cons pe_int (pa_cons (pe_call GLTake (hr.mono (by decide)) (by rfl) T.gLTake T.FLTake.kp bLTake .nil pass0 (pa_cons (pv 2) (pa_cons pe_int pa_nil))) pa_nil))))) (pe_call GLTake (hr.mono (by decide)) (by rfl) T.gLTake T.FLTake.kp bLTake .nil pass0 (pa_cons (pv 2) (pa_cons pe_int pa_nil))) (fun _ _ => rfl)))
        (pss_one (ps_if (pt_not (pt_val (pe_call GLBodiesRight (hr.mono (by decide)) (by rfl) T.gLBodiesRight T.FLBodiesRight.kp bLBodiesRight .nil pass0 (pa_cons (pe_call GLNote (hr.mono (by decide)) (by rfl) T.gLNote T.FLNote.kp bLNote .nil pass0 (pa_cons (pv 2) pa_nil)) (pa_cons (pv 7) pa_nil))))) (pss_one (ps_ret pe_bl)) pss_nil))))))))
        (pss_one (ps_ret pe_bl)))), ?_⟩
    have e6 : meas ((10 : Int) ^ Int.toNat 6) = meas 1000000 := by decide
    have e0 : meas 0 = 11 := by decide
    refine ⟨_, _, rfl, rfl, ⟨by decide, by decide, by decide⟩, _, rfl, rfl, rfl, _, rfl, (by show 3 ≤ sizeLine; decide), fun p1 hp1 => ?_⟩
    refine ⟨_, _, rfl, rfl, ⟨by decide, by decide, by decide⟩, _, rfl, (by show 3 ≤ sizeLine; decide), fun p2 hp2 => ?_⟩
    rw [e0] at hp2 ⊢
    have z1 := same_new (o := .lst [.int 9973, .int (meas ((10 : Int) ^ Int.toNat 6)), .int 11]) hp1
    have z2 := same_new (o := .lst [.int 9973, .int (meas ((10 : Int) ^ Int.toNat 6)), .int 11]) hp2
    refine ⟨_, _, .list ([9973, meas ((10 : Int) ^ Int.toNat 6), 11].map PyData.int), rfl, .lst (SqL.of (z2 _ _ upd_same)) (dpa_ints [9973, meas ((10 : Int) ^ Int.toNat 6), 11]), .lst (SqL.of upd_same) (dpa_ints [9973, meas ((10 : Int) ^ Int.toNat 6), 11]), dep_il _, wid_il _ (by decide), fun G0 s0 => ⟨_, rfl, iteF ?_⟩⟩
    have sG0 : Same H G0 := z1.trans (z2.trans s0)
    refine ⟨_, rfl, a, _, rfl, .inl (sG0.seq hS), _, _, rfl, _, _, rfl, _, rfl, ?_⟩
    have hR : ∃ N : Int, (if (if ((ns.map V.int).length : Int) < 3 then ((ns.map V.int).length : Int) else 3) > 1 then (if ((ns.map V.int).length : Int) < 3 then ((ns.map V.int).length : Int) else 3) else 1) = N ∧ 0 ≤ N ∧ N ≤ 3 := ⟨_, rfl, by split <;> split <;> omega, by split <;> split <;> omega⟩
    obtain ⟨N, eN, hN0, hN3⟩ := hR
    rw [eN]
    refine ⟨(by have : -4611686018427387904 ≤ N := by omega
                exact this), (by have : N < 4611686018427387904 := by omega
                                 exact this), ?_⟩
    refine for_range (lo := 0) (n := N.toNat) (fun i σ G => Same H G ∧ ∃ x1 x2 x3 x4 x5 x6 x7, σ = [some (.ref a), x1, x2, x3, x4, x5, x6, x7]) ⟨sG0, _, _, _, _, _, _, _, rfl⟩ ?_ ?_
    · rintro i σ G hi ⟨sG, x1, x2, x3, x4, x5, x6, x7, rfl⟩
      have e0i : (0 : Int) + (i : Int) = ((i : Nat) : Int) := by omega
      rw [e0i]
      refine ⟨_, rfl, _, rfl, a, ns, i, rfl, sG.seq hS, by omega, fun p x y hp hx hy hy2 => ?_⟩
      refine ⟨_, _, rfl, ?_⟩
      have box0 : Box (upd G p (.lst [.int x, .int y, .int 0])) p 0 := ⟨x, y, 0, upd_same, hx, hy, hy2, Int.le_refl _, Int.le_refl _⟩
      refine ⟨8, rfl, by decide, by decide, for_range (lo := 0) (n := 8) (fun j σ G1 => But p (upd G p (.lst [.int x, .int y, .int 0])) G1 ∧ Box G1 p (10 * j) ∧ ∃ (ah : Int) (y4 y5 y6 y7 : Option V), σ = [some (.ref a), some (.int i), some (.ref p), some (.int ah), y4, y5, y6, y7]) ⟨But.refl _ _, box0.mono (by omega), 0, _, _, _, _, rfl⟩ ?_ ?_⟩
      · rintro j σ G1 hj ⟨bG, hB, ah, y4, y5, y6, y7, rfl⟩
        -- load = take(box, [..][take(box, 4)])
        refine ⟨_, rfl, _, _, rfl, rfl, ⟨by decide, by decide, by decide⟩, _, _, rfl, rfl, _, _, rfl, rfl, ⟨by decide, by decide, by decide⟩, _, _, rfl, rfl, (by show 4 ≤ sizeLine; decide), fun l hl => ?_⟩
        have nl := hB.ne hl
        have sl := same_new (o := .lst [.int 12, .int 9974, .int ((10 : Int) ^ Int.toNat 6 + 1), .int ((10 : Int) ^ Int.toNat 6 + 1)]) hl
        refine ⟨_, rfl, p, 4, 10 * j, rfl, hB.same sl, by omega, by decide, by decide, fun r G2 b2 hB2 r0 r1 => ?_⟩
        have hl2 : G2 l = some (.lst [.int 12, .int 9974, .int ((10 : Int) ^ Int.toNat 6 + 1), .int ((10 : Int) ^ Int.toNat 6 + 1)]) := b2 _ _ upd_same nl
        obtain ⟨v, ev, mv⟩ := atI_some (xs := [V.int 12, .int 9974, .int ((10 : Int) ^ Int.toNat 6 + 1), .int ((10 : Int) ^ Int.toNat 6 + 1)]) r0 r1
        obtain ⟨m, rfl, m0, m1⟩ : ∃ m : Int, v = .int m ∧ 0 < m ∧ m < 1073741824 := by
          simp only [List.mem_cons, List.mem_nil_iff, or_false] at mv
          rcases mv with rfl | rfl | rfl | rfl
          · exact ⟨_, rfl, by decide, by decide⟩
          · exact ⟨_, rfl, by decide, by decide⟩
          · exact ⟨_, rfl, by decide, by decide⟩
          · exact ⟨_, rfl, by decide, by decide⟩
        refine ⟨l, _, r, _, rfl, rfl, SqL.of hl2, ev, p, m, 10 * j + 1, rfl, hB2, by omega, m0, m1, fun ld G3 b3 hB3 ld0 ld1 => ?_⟩
        -- load = .. if take(box, 4) == 0 else load
        refine ⟨_, rfl, p, 4, 10 * j + 1 + 1, rfl, hB3, by omega, by decide, by decide, fun r2 G4 b4 hB4 r20 r21 => ?_⟩
        refine ⟨rfl, _, rfl, ifx (fun v G5 => ∃ z : Int, v = .int z ∧ But p G4 G5 ∧ Box G5 p (10 * j + 4)) (fun e C k => ?_) (fun e C k => ?_) ?_⟩
        · refine ⟨_, rfl, _, _, rfl, rfl, (show (0 : Int) < 9973 by decide), _, rfl, p, 100, 10 * j + 1 + 1 + 1, rfl, hB4, by omega, by decide, by decide, fun r3 G5 b5 hB5 _ _ => ?_⟩
          exact ⟨_, _, rfl, rfl, .inl ⟨by decide, by decide⟩, _, _, rfl, rfl, k _ _ ⟨_, rfl, b5, hB5.mono (by omega)⟩⟩
        · exact ⟨_, rfl, k _ _ ⟨_, rfl, But.refl _ _, hB4.mono (by omega)⟩⟩
        rintro v5 G5 ⟨z, rfl, b5, hB5⟩
        have bb : But p (upd G p (.lst [.int x, .int y, .int 0])) G5 := bG.trans ((But.of sl).trans (b2.trans (b3.trans (b4.trans b5))))
        -- due = measure(load)
        refine ⟨_, rfl, _, rfl, ?_⟩
        refine ⟨_, rfl, _, rfl, _, rfl, rfl, rfl, _, rfl, (by show 2 ≤ sizeLine; decide), fun q1 hq1 => ?_⟩
        refine ⟨_, rfl, _, rfl, (by show 2 ≤ sizeLine; decide), fun q2 hq2 => ?_⟩
        have w1 := same_new (o := .lst [.int (meas z), .int (meas z)]) hq1
        have w2 := same_new (o := .lst [.int (meas z), .int (meas z)]) hq2
        refine ⟨_, _, .list ([meas z, meas z].map PyData.int), rfl, .lst (SqL.of (w2 _ _ upd_same)) (dpa_ints [meas z, meas z]), .lst (SqL.of upd_same) (dpa_ints [meas z, meas z]), dep_il _, wid_il _ (by show 2 ≤ 1000; decide), fun G6 s6 => ⟨_, rfl, iteF ?_⟩⟩
        have w3 : Same G5 G6 := w1.trans (w2.trans s6)
        refine ⟨_, rfl, _, rfl, _, rfl, _, rfl, rfl, _, rfl, _, rfl, _, _, rfl, rfl, _, rfl, _, _, rfl, rfl, (show (0 : Int) < 9973 by decide), rfl, rfl, _, rfl, ?_⟩
        have ee : (V.bl (decide (V.int (meas z) = V.int (meas ah)))) = V.bl (decide (V.int ((if z - ah < 0 then -(z - ah) else z - ah) % 9973) = V.int 0)) := by
          congr 1
          rw [dec_int, dec_int]
          have hm := meas_eq (a := z) (b := ah)
          by_cases hz : meas z = meas ah
          · rw [beq_iff_eq.mpr hz, beq_iff_eq.mpr (hm.mp hz)]
          · rw [beq_eq_false_iff_ne.mpr hz, beq_eq_false_iff_ne.mpr fun y => hz (hm.mpr y)]
        rw [decide_eq_true ee]
        refine iteF ?_
        refine ⟨_, rfl, ?_⟩
        exact ⟨bb.trans (But.of w3), (hB5.same w3).mono (by omega), z, _, _, _, _, rfl⟩
      · rintro σ G1 ⟨bG, hB, ah, y4, y5, y6, y7, rfl⟩
        refine ⟨3, rfl, by decide, by decide, for_range (lo := 0) (n := 3) (fun j σ G1 => But p (upd G p (.lst [.int x, .int y, .int 0])) G1 ∧ Box G1 p (80 + 10 * j) ∧ ∃ (y3 y4 y5 y6 y7 : Option V), σ = [some (.ref a), some (.int i), some (.ref p), y3, y4, y5, y6, y7]) ⟨bG, hB.mono (by omega), _, _, _, _, _, rfl⟩ ?_ ?_⟩
        · rintro j σ G1 hj ⟨bG, hB, y3, y4, y5, y6, y7, rfl⟩
          refine ⟨_, rfl, p, 99, 80 + 10 * j, rfl, hB, by omega, by decide, by decide, fun r1 G2 b2 hB2 _ _ => ?_⟩
          refine ⟨_, rfl, p, 980000, 80 + 10 * j + 1, rfl, hB2, by omega, by decide, by decide, fun r2 G3 b3 hB3 _ _ => ?_⟩
          refine ⟨(by show 4 ≤ sizeLine; decide), fun l hl => ?_⟩
          have nl := hB3.ne hl
          have sl := same_new (o := .lst [.int 0, .int r1, .int 980000, .int r2]) hl
          refine ⟨_, rfl, p, 4, 80 + 10 * j + 1 + 1, rfl, hB3.same sl, by omega, by decide, by decide, fun r G4 b4 hB4 r0 r4 => ?_⟩
          have hl2 : G4 l = some (.lst [.int 0, .int r1, .int 980000, .int r2]) := b4 _ _ upd_same nl
          obtain ⟨v, ev, mv⟩ := atI_some (xs := [V.int 0, .int r1, .int 980000, .int r2]) r0 r4
          obtain ⟨m, rfl⟩ : ∃ m : Int, v = .int m := by
            simp only [List.mem_cons, List.mem_nil_iff, or_false] at mv
            rcases mv with rfl | rfl | rfl | rfl <;> exact ⟨_, rfl⟩
          refine ⟨l, _, r, _, rfl, rfl, SqL.of hl2, ev, ?_⟩
          refine ⟨_, rfl, p, 80 + 10 * j + 1 + 1 + 1, rfl, hB4, by omega, fun nt G5 b5 hB5 n0 n1 => ?_⟩
          refine ⟨_, rfl, nt, m, rfl, n0, n1, fun G6 s6 => ⟨_, rfl, iteF ?_⟩⟩
          exact ⟨bG.trans (b2.trans (b3.trans ((But.of sl).trans (b4.trans (b5.trans (But.of s6)))))), (hB5.same s6).mono (by omega), _, _, _, _, _, rfl⟩
        · rintro σ G1 ⟨bG, _, y3, y4, y5, y6, y7, rfl⟩
          exact ⟨same_but (G1 := G) sG hp bG, _, _, _, _, _, _, _, rfl⟩
    · rintro σ G ⟨sG, _⟩
      exact q G
end
section
variable {P : Program} {w : World} {K : PySem.W.Frag} {mg : Str → Option Value} {base : Heap}
def ddInverse : He.DefD := ⟨("inverse", none), "inverse", "inverse", defArgs sInverse, defBody sInverse, defScope sInverse, [], []⟩
def ddMeasure : He.DefD := ⟨("measure", none), "measure", "measure", defArgs sMeasure, defBody sMeasure, defScope sMeasure, [], []⟩
def ddBodies : He.DefD := ⟨("bodies", none), "bodies", "bodies", defArgs sBodies, defBody sBodies, defScope sBodies, [], [("least", .int 0)]⟩
def ddLBox : He.DefD := ⟨("_law_box", none), "_law_box", "_law_box", defArgs sLBox, defBody sLBox, defScope sLBox, [], []⟩
def ddLTake : He.DefD := ⟨("_law_take", none), "_law_take", "_law_take", defArgs sLTake, defBody sLTake, defScope sLTake, [], []⟩
def ddLSame : He.DefD := ⟨("_law_same", none), "_law_same", "_law_same", defArgs sLSame, defBody sLSame, defScope sLSame, [], []⟩
def ddLMeasure : He.DefD := ⟨("_law_measure", none), "_law_measure", "_law_measure", defArgs sLMeasure, defBody sLMeasure, defScope sLMeasure, [], []⟩
def ddLNote : He.DefD := ⟨("_law_note", none), "_law_note", "_law_note", defArgs sLNote, defBody sLNote, defScope sLNote, [], []⟩
def ddLIsNumber : He.DefD := ⟨("_law_is_number", none), "_law_is_number", "_law_is_number", defArgs sLIsNumber, defBody sLIsNumber, defScope sLIsNumber, [], []⟩
def ddLBodiesRight : He.DefD := ⟨("_law_bodies_right", none), "_law_bodies_right", "_law_bodies_right", defArgs sLBodiesRight, defBody sLBodiesRight, defScope sLBodiesRight, [], []⟩
def ddLaw : He.DefD := ⟨("law", none), "law", "law", defArgs sLaw, defBody sLaw, defScope sLaw, [], []⟩
def hfn : List He.DefD := [ddInverse, ddMeasure, ddBodies, ddLBox, ddLTake, ddLSame, ddLMeasure, ddLNote, ddLIsNumber, ddLBodiesRight, ddLaw]
def hfa : List He.Fa := [.free "len", .free "abs", .free "int", .free "isinstance", .free "list", .free "tuple", .free "str", .free "bool", .free "all", .free "zip", .free "range", .free "max", .free "min", .free "enumerate", .free "divmod", .glo "inverse", .glo "measure", .glo "bodies", .glo "_law_box", .glo "_law_take", .glo "_law_same", .glo "_law_measure", .glo "_law_note", .glo "_law_is_number", .glo "_law_bodies_right", .glo "law", .int "NOTES" 9973, .int "TIMES" 48271, .int "MORE" 11]
abbrev hR : PySem.W.OpenRow := PySem.W.OpenLaw.row PySem.Challenge.rw_startlog_k04_measures_and_bodies
abbrev hk : PySem.W.Hook := He.hookD 5 hfa hfn
def hob (s : PySem.W.SharedT) : He.AlD := He.obsDG 5 hfa hfn (HandSHeadRun.getT s)
theorem hob_eq (s : PySem.W.SharedT) : hob s = hk.obs s.abs := He.obsDG_eq (HandSHeadRun.getT_eq s)
def hloose : List Str := ["NOTES", "TIMES", "MORE", "inverse", "measure", "bodies", "_law_box", "_law_take", "_law_same", "_law_measure", "_law_note", "_law_is_number", "_law_bodies_right"]
theorem hrun (w : World) : HandSHeadRun.RunEq hR (PySem.W.view hR.prog [16]) hk hob 2000 hloose w := by
  intro os
  kernel_rfl
theorem tx_of {K : PySem.W.Frag} {h : Heap} {mg : Str → Option Value} (X : K.In h) (G : h.Ns mainGlobals mg) (c : He.SaysD hfa hfn K) : ∃ T : Tx K mg, True := by
  obtain ⟨f0, F0⟩ := c.def_ 0 (d := ddInverse) rfl
  obtain ⟨f1, F1⟩ := c.def_ 1 (d := ddMeasure) rfl
  obtain ⟨f2, F2⟩ := c.def_ 2 (d := ddBodies) rfl
  obtain ⟨f3, F3⟩ := c.def_ 3 (d := ddLBox) rfl
  obtain ⟨f4, F4⟩ := c.def_ 4 (d := ddLTake) rfl
  obtain ⟨f5, F5⟩ := c.def_ 5 (d := ddLSame) rfl
  obtain ⟨f6, F6⟩ := c.def_ 6 (d := ddLMeasure) rfl
  obtain ⟨f7, F7⟩ := c.def_ 7 (d := ddLNote) rfl
  obtain ⟨f8, F8⟩ := c.def_ 8 (d := ddLIsNumber) rfl
  obtain ⟨f9, F9⟩ := c.def_ 9 (d := ddLBodiesRight) rfl
  obtain ⟨f10, F10⟩ := c.def_ 10 (d := ddLaw) rfl
  exact ⟨⟨⟨He.free_ok X G (c.fact 0 (f := .free "len") rfl), He.free_ok X G (c.fact 1 (f := .free "abs") rfl), He.free_ok X G (c.fact 2 (f := .free "int") rfl), He.free_ok X G (c.fact 3 (f := .free "isinstance") rfl), He.free_ok X G (c.fact 4 (f := .free "list") rfl), He.free_ok X G (c.fact 5 (f := .free "tuple") rfl), He.free_ok X G (c.fact 6 (f := .free "str") rfl), He.free_ok X G (c.fact 7 (f := .free "bool") rfl), He.free_ok X G (c.fact 8 (f := .free "all") rfl), He.free_ok X G (c.fact 9 (f := .free "zip") rfl), He.free_ok X G (c.fact 10 (f := .free "range") rfl), He.free_ok X G (c.fact 11 (f := .free "max") rfl), He.free_ok X G (c.fact 12 (f := .free "min") rfl), He.free_ok X G (c.fact 13 (f := .free "enumerate") rfl), He.free_ok X G (c.fact 14 (f := .free "divmod") rfl)⟩,
    He.int_ok X G (c.fact 26 (f := .int "NOTES" 9973) rfl),
    He.int_ok X G (c.fact 27 (f := .int "TIMES" 48271) rfl),
    He.int_ok X G (c.fact 28 (f := .int "MORE" 11) rfl),
    f0,
    F0,
    He.glo_ok X G (c.fact 15 (f := .glo "inverse") rfl),
    f1,
    F1,
    He.glo_ok X G (c.fact 16 (f := .glo "measure") rfl),
    f2,
    F2,
    He.glo_ok X G (c.fact 17 (f := .glo "bodies") rfl),
    f3,
    F3,
    He.glo_ok X G (c.fact 18 (f := .glo "_law_box") rfl),
    f4,
    F4,
    He.glo_ok X G (c.fact 19 (f := .glo "_law_take") rfl),
    f5,
    F5,
    He.glo_ok X G (c.fact 20 (f := .glo "_law_same") rfl),
    f6,
    F6,
    He.glo_ok X G (c.fact 21 (f := .glo "_law_measure") rfl),
    f7,
    F7,
    He.glo_ok X G (c.fact 22 (f := .glo "_law_note") rfl),
    f8,
    F8,
    He.glo_ok X G (c.fact 23 (f := .glo "_law_is_number") rfl),
    f9,
    F9,
    He.glo_ok X G (c.fact 24 (f := .glo "_law_bodies_right") rfl),
    f10,
    F10,
    He.glo_ok X G (c.fact 25 (f := .glo "law") rfl)⟩, trivial⟩


end
end Sl
open PySem PySem.W PySem.Calls PyProof.Rows
set_option maxRecDepth 100000 in
set_option maxHeartbeats 0 in
theorem PySem.Challenge.cw_startlog_k04_measures_and_bodies_holds : PySem.Challenge.rw_startlog_k04_measures_and_bodies.Holds := by
  w_on; o_law
  refine HandSHeadRun.head_any (r := OpenLaw.row PySem.Challenge.rw_startlog_k04_measures_and_bodies) (q := view (OpenLaw.row PySem.Challenge.rw_startlog_k04_measures_and_bodies).prog [16]) (H := Sl.hk) (ob := Sl.hob) (M := 2000) (loose := Sl.hloose) (d := HandSHeadRun.topDef (OpenLaw.row PySem.Challenge.rw_startlog_k04_measures_and_bodies).prog 16) (kwd := []) Sl.hob_eq
    (by kernel_rfl) (fun s => by kernel_rfl) Sl.hrun (by kernel_rfl) (by kernel_rfl) (by kernel_rfl) (by rfl) (by first | assumption | decide +kernel) (by decide +kernel) ⟨rfl, rfl, rfl, rfl, rfl, by decide +kernel⟩ ?hw ?hc
  case hw => w_witness2
  case hc =>
    refine L2.walk_ofE (l := PySem.Challenge.rw_startlog_k04_measures_and_bodies) (n := 63) (k := 4) (x := "_law_script") (CX := L2.CX0) rfl (by decide) (by kernel_rfl) ⟨rfl, by decide, by decide⟩ ?F (fun _ _ _ _ z => z)
    intro w mg fa h Y G hmg0
    obtain ⟨K, KX, c⟩ := Y
    have hmg : mg ("law" : PySem.Str) = some (.ref fa) := by
      have e : (HandSHeadRun.topDef (OpenLaw.row PySem.Challenge.rw_startlog_k04_measures_and_bodies).prog 16).name = ("law" : PySem.Str) := by kernel_rfl
      rw [← e]
      exact hmg0
    obtain ⟨T, _⟩ := Sl.tx_of KX G c
    have e := hmg.symm.trans T.gLaw
    cases e
    exact ⟨K, T.fdLaw, Sl.spLaw K, KX, fun s v => L2.FunD.bindsA (ps := ["_law_script"]) T.FLaw (fun _ _ _ _ _ _ us hl => match us, hl with | [_], _ => rfl) s [v] rfl, fun H a ns hl _ hS => ⟨a, ns, rfl, hS, hl, fun _ => rfl⟩, fun base _ _ => Sl.okLaw T⟩
