import PyProof.Rows.All
import Wide.All
import OpenK.AllK
import Wide.FinOn
import KE.KStateDown
import Lean
import HandS.ForMost
import HandS.More
import HandS.WordsExc
import HandS.IsInst
import HandS.Defaults
import HandS.MakeKwOnly
import HandS.Walk
import HandS.Zip
import HandS.Replace
import HandS.Style
import HandS.Head0
import HandS.Head1
import HandS.Head2
import HandS.HeadEnd
import HandS.HeadHook1
import HandS.HeadHook2
import PySem.Challenge.RW_startlog_k02_names_by_numbers
set_option Elab.async false
set_option linter.all false
set_option maxRecDepth 100000
set_option maxHeartbeats 4000000
namespace Sl
open PySem PySem.Spec PyProof.Rows L2
section
variable {P : Program} {w : World} {K : PySem.W.Frag} {mg : Str → Option Value} {base : Heap}

end
section
variable {P : Program} {w : World} {K : PySem.W.Frag} {mg : Str → Option Value} {base : Heap}
/-! heaps -/
theorem same_new {H : Hp} {p : Addr} {o : HO} (h : H p = none) : Same H (upd H p o) := fun b x e => by
  rw [upd_ne (ne_of_none e h)]
  exact e
/-- all that was tracked is as it was, but for p -/
def But (p : Addr) (H G : Hp) : Prop := ∀ b o, H b = some o → b ≠ p → G b = some o
theorem But.refl (p : Addr) (H : Hp) : But p H H := fun _ _ h _ => h
theorem But.trans {p : Addr} {H G J : Hp} (a : But p H G) (b : But p G J) : But p H J := fun c o h n => b c o (a c o h n) n
theorem But.of {p : Addr} {H G : Hp} (a : Same H G) : But p H G := fun c o h _ => a c o h
theorem But.upd {p : Addr} {H : Hp} {o : HO} : But p H (upd H p o) := fun b x e n => by
  rw [upd_ne n]
  exact e
/-- a box of draws at p, at most n of them by the second way -/
def Box (H : Hp) (p : Addr) (n : Int) : Prop := ∃ x y z : Int, H p = some (.lst [.int x, .int y, .int z]) ∧ 0 ≤ x ∧ 0 ≤ y ∧ y < 1099511627776 ∧ 0 ≤ z ∧ z ≤ n
theorem Box.mono {H : Hp} {p : Addr} {n m : Int} (b : Box H p n) (h : n ≤ m) : Box H p m := by
  obtain ⟨x, y, z, e, h1, h2, h3, h4, h5⟩ := b
  exact ⟨x, y, z, e, h1, h2, h3, h4, Int.le_trans h5 h⟩
theorem Box.same {H G : Hp} {p : Addr} {n : Int} (b : Box H p n) (s : Same H G) : Box G p n := by
  obtain ⟨x, y, z, e, h⟩ := b
  exact ⟨x, y, z, s _ _ e, h⟩
theorem Box.ne {H : Hp} {p q : Addr} {n : Int} (b : Box H p n) (h : H q = none) : q ≠ p := by
  obtain ⟨x, y, z, e, _⟩ := b
  exact fun k => by rw [k, e] at h; cases h
/-- what is free behind was free ahead -/
theorem But.free {p q : Addr} {H G : Hp} {n : Int} (a : But p H G) (b : Box G p n) (h : G q = none) : H q = none := by
  cases e : H q with
  | none => rfl
  | some o =>
    have := a q o e (b.ne h)
    rw [this] at h
    cases h
theorem seqL_but {K : PySem.W.Frag} {H G : Hp} {p a : Addr} {xs : List V} (s : But p H G) (h : SqL K H a xs) (n : a ≠ p) : SqL K G a xs := by
  rcases h with (h | ⟨o, h⟩) | h
  · exact .inl (.inl (s _ _ h n))
  · exact .inl (.inr ⟨o, s _ _ h n⟩)
  · exact .inr h
theorem seqT_same {K : PySem.W.Frag} {H G : Hp} {a : Addr} {xs : List V} (s : Same H G) (h : SqT K H a xs) : SqT K G a xs := by
  rcases h with (h | ⟨o, h⟩) | h
  · exact .inl (.inl (s _ _ h))
  · exact .inl (.inr ⟨o, s _ _ h⟩)
  · exact .inr h
theorem bit_lo (b : Bool) : -(2 ^ 64 : Int) < (if b = true then 1 else 0 : Int) := by cases b <;> decide
theorem bit_hi (b : Bool) : (if b = true then 1 else 0 : Int) < 2 ^ 64 := by cases b <;> decide
/-! kinds -/
theorem ty_list {K : PySem.W.Frag} {H : Hp} {a : Addr} {xs : List V} (h : SqL K H a xs) : TyX K H (.ref a) (.type "list") := by
  rcases h with (h | ⟨o, h⟩) | ⟨o, its, n, h1, h2, _⟩
  · exact .base (.lst h)
  · exact .base (.frz h)
  · exact .kList h1 h2
theorem ty_tup {K : PySem.W.Frag} {H : Hp} {a : Addr} {xs : List V} (h : SqT K H a xs) : TyX K H (.ref a) (.type "tuple") := by
  rcases h with (h | ⟨o, h⟩) | ⟨o, its, n, h1, h2, _⟩
  · exact .base (.tup h)
  · exact .fTuple h
  · exact .kTuple h1 h2
mutual
theorem dp_same {K : PySem.W.Frag} {H G : Hp} (s : Same H G) : ∀ (d : PyData) (v : V), Dp K H v d → Dp K G v d
  | .none, _, h => by cases h; exact .non
  | .bool b, _, h => by cases h; exact .bl b
  | .int i, _, h => by cases h; exact .int i
  | .str x, _, h => by cases h; exact .str x
  | .list ds, _, h => by
    cases h with
    | lst a b => exact .lst (s.seq a) (dps_same s ds _ b)
  | .tuple ds, _, h => by
    cases h with
    | tup a b => exact .tup (seqT_same s a) (dps_same s ds _ b)
  | .dict _, _, h => by cases h
theorem dps_same {K : PySem.W.Frag} {H G : Hp} (s : Same H G) : ∀ (ds : List PyData) (vs : List V), DpAll K H vs ds → DpAll K G vs ds
  | [], _, h => by cases h; exact .nil
  | d :: ds, _, h => by
    cases h with
    | cons a b => exact .cons (dp_same s d _ a) (dps_same s ds _ b)
end
theorem dpa_len {K : PySem.W.Frag} {H : Hp} : ∀ {vs : List V} {ds : List PyData}, DpAll K H vs ds → vs.length = ds.length
  | _, _, .nil => rfl
  | _, _, .cons _ t => congrArg Nat.succ (dpa_len t)
theorem dpa_at {K : PySem.W.Frag} {H : Hp} : ∀ {vs : List V} {ds : List PyData} {i : Nat} {v : V}, DpAll K H vs ds → vs[i]? = some v → ∃ d, ds[i]? = some d ∧ Dp K H v d
  | _, _, i, v, .nil, h => by simp at h
  | _, _, 0, v, .cons a t, h => by
    have e := Option.some.inj h
    subst e
    exact ⟨_, rfl, a⟩
  | _, _, i + 1, v, .cons a t, h => dpa_at (i := i) t h
/-- how deep a datum is -/
def dep : PyData → Nat
  | .list ds => deps ds + 1
  | .tuple ds => deps ds + 1
  | _ => 0
where deps : List PyData → Nat
  | [] => 0
  | d :: ds => max (dep d) (deps ds)
theorem deps_at : ∀ {ds : List PyData} {i : Nat} {d : PyData}, ds[i]? = some d → dep d ≤ dep.deps ds
  | [], i, d, h => by simp at h
  | c :: ds, 0, d, h => by
    have e := Option.some.inj h
    subst e
    exact Nat.le_max_left _ _
  | c :: ds, i + 1, d, h => Nat.le_trans (deps_at (i := i) (ds := ds) h) (Nat.le_max_right _ _)
/-- how wide it is, at most -/
def wid : PyData → Nat
  | .list ds => max ds.length (wids ds)
  | .tuple ds => max ds.length (wids ds)
  | _ => 0
where wids : List PyData → Nat
  | [] => 0
  | d :: ds => max (wid d) (wids ds)
theorem wids_at : ∀ {ds : List PyData} {i : Nat} {d : PyData}, ds[i]? = some d → wid d ≤ wid.wids ds
  | [], i, d, h => by simp at h
  | c :: ds, 0, d, h => by
    have e := Option.some.inj h
    subst e
    exact Nat.le_max_left _ _
  | c :: ds, i + 1, d, h => Nat.le_trans (wids_at (i := i) (ds := ds) h) (Nat.le_max_right _ _)
theorem small6 {n : Nat} (h : n < 1000000) : n < sizeLine := Nat.lt_of_lt_of_le h (by decide)
/-! a call by keywords alone -/
section
variable {X : Cx} {CX : CXT} {k : Nat} {f : Addr} {fd : FuncData} {ps ks : List Str} {sp : Sp} {E : XK} {x : Str} {p pos : Pos} {kws : List Keyword} {tk : TA} {g : List Value → List Value → List Value} {gV : List V → List V → List V}
theorem pe_kwCall (F : FnOk X.prog X.w X.K X.mg X.base CX k f fd ps sp) (hr : Room k X.A) (hg : Gl X x) (hm : X.mg x = some (.ref f)) (kp : PySem.W.keepIn X.K (.ref f) = true) (hb : KBn X.K fd ps 0 ks g gV) (hx : Passes CX X E) (hkw : PK X kws tk)
    (h1 : (backToKw pos (keywordEach kws X.env)).all (·.1.isSome) = true := by rfl) (h2 : (backToKw pos (keywordEach kws X.env)).filterMap (·.1) = ks := by rfl) (h3 : (x == ("__debug__" : Str)) = false := by decide)
    (h4 : ((backTo pos (starEach [] X.env)).any (·.1) || (backToKw pos (keywordEach kws X.env)).any (·.1.isNone)) = false := by rfl) :
    PE X (.Call (.Name x p) [] kws pos) (tCallN 0 ks.length sp gV E tNil tk) := by
  refine ⟨fun pins s σ H Q I h => ?_⟩
  refine wpAny_Call_Name_kw (ld_glob I hg hm ?_ h3)
  refine PySem.W.callWith_KW0 (h₀ := X.base) I.ok.mod.kin kp h1 ?_ h4
  refine thn (hkw.run pos pins s σ H _ I h) fun ws s2 ⟨zs, H2, I2, rz, l1, l2, q2⟩ => ⟨I2.kIn, ?_⟩
  rw [h2]
  exact run_fnN (us := []) (vs := []) F hr hb hx I2 .nil rz rfl l2 q2
end
/-! a call of a def without defaults by keywords -/
theorem kw_plain {K : PySem.W.Frag} {x qual : Str} {params : Arguments} {body : List Stmt} {scope : Scope} {kws : List (Str × V)} {f : Addr} {fd : FuncData} {ps : List Str} (F : FunD K x qual params body scope [] kws f fd) (n : Nat) (ks : List Str) (g : {α : Type} → List α → List α → List α)
    (hrel : ∀ {vs zs : List V} {us ws : List Value}, Vals vs us → Vals zs ws → Vals (g vs zs) (g us ws))
    (h : ∀ (kV doc pm : Value) (an : Option Addr) (cdv ct : Value) (us ws : List Value), us.length = n → ws.length = ks.length → bindArgs (PySem.W.fnOf x qual params body scope .none kV doc pm an cdv ct) ⟨us, ks.zip ws⟩ = pure (ps.zip (g us ws))) : KBn K fd ps n ks (fun us ws => g us ws) (fun vs zs => g vs zs) := by
  obtain ⟨oc, od, dV, kV, doc, pm, an, cdv, ct, osl, rfl, lk, hcd, hD, hK⟩ := F.ex
  rcases hD with ⟨_, rfl⟩ | ⟨e, _⟩
  · exact ⟨fun s us ws _ l1 l2 => .of_eq (h kV doc pm an cdv ct us ws l1 l2), fun r1 r2 => hrel r1 r2⟩
  · exact absurd rfl e
theorem Vals.rev : ∀ {vs : List V} {us : List Value}, Vals vs us → Vals vs.reverse us.reverse
  | _, _, .nil => .nil
  | _, _, .cons a t => by
    rw [List.reverse_cons, List.reverse_cons]
    exact (Vals.rev t).append (.cons a .nil)
/-- lists of numbers as data -/
theorem dpa_ints {K : PySem.W.Frag} {H : Hp} : ∀ l : List Int, DpAll K H (l.map V.int) (l.map PyData.int)
  | [] => .nil
  | i :: l => .cons (.int i) (dpa_ints l)
theorem dep_ints : ∀ l : List Int, dep.deps (l.map PyData.int) = 0
  | [] => rfl
  | i :: l => by
    show max 0 (dep.deps (l.map PyData.int)) = 0
    rw [dep_ints l]
    rfl
theorem wid_ints : ∀ l : List Int, wid.wids (l.map PyData.int) = 0
  | [] => rfl
  | i :: l => by
    show max 0 (wid.wids (l.map PyData.int)) = 0
    rw [wid_ints l]
    rfl
theorem dep_il (l : List Int) : dep (.list (l.map PyData.int)) < 2 := by
  show dep.deps (l.map PyData.int) + 1 < 2
  rw [dep_ints]
  decide
theorem wid_il (l : List Int) (h : l.length ≤ 1000) : wid (.list (l.map PyData.int)) ≤ 1000000 := by
  show max (l.map PyData.int).length (wid.wids (l.map PyData.int)) ≤ 1000000
  rw [wid_ints, List.length_map]
  omega
/-- the two ways of a conditional expression joined: what either gives, P says -/
theorem ifx {c : Prop} [Decidable c] {ta tb : TE} {σ : L2.St} {H : Hp} {C : VK} (P : V → Hp → Prop) (h1 : c → ∀ C : VK, (∀ v G, P v G → C v G) → ta σ H C) (h2 : ¬ c → ∀ C : VK, (∀ v G, P v G → C v G) → tb σ H C) (k : ∀ v G, P v G → C v G) : if c then ta σ H C else tb σ H C := by
  by_cases h : c
  · rw [if_pos h]
    exact h1 h C k
  · rw [if_neg h]
    exact h2 h C k
theorem ift {c : Prop} [Decidable c] {ta : TT} {σ : L2.St} {H : Hp} {C : Bool → Hp → Prop} (P : Bool → Hp → Prop) (h1 : c → ∀ C : Bool → Hp → Prop, (∀ v G, P v G → C v G) → ta σ H C) (h2 : ¬ c → P false H) (k : ∀ v G, P v G → C v G) : if c then ta σ H C else C false H := by
  by_cases h : c
  · rw [if_pos h]
    exact h1 h C k
  · rw [if_neg h]
    exact k _ _ (h2 h)
theorem atI_some {xs : List V} {r : Int} (h0 : 0 ≤ r) (h1 : r < xs.length) : ∃ v, atI xs r = some v ∧ v ∈ xs := by
  obtain ⟨j, rfl⟩ : ∃ j : Nat, r = (j : Int) := ⟨r.toNat, by omega⟩
  have hj : j < xs.length := by omega
  exact ⟨xs[j], atI_nat (List.getElem?_eq_getElem hj), List.getElem_mem hj⟩
theorem same_but {H G G1 G2 : Hp} {p : Addr} {o : HO} (s : Same H G) (hp : G p = none) (b : But p (upd G p o) G2) : Same H G2 := fun c x e => by
  have hc : c ≠ p := fun z => by
    have := s.free hp
    rw [← z, e] at this
    cases this
  exact b c x (by rw [upd_ne hc]; exact s c x e) hc
/-! the drawer of numbers -/
def spLBox (K : PySem.W.Frag) : Sp := fun vs H Q _ => ∃ (a : Addr) (ns : List Int) (k : Nat), vs = [.ref a, .int k] ∧ SqL K H a (ns.map V.int) ∧ k ≤ 1000 ∧
  ∀ (p : Addr) (x y : Int), H p = none → 0 ≤ x → 0 ≤ y → y < 1099511627776 → Q (.ref p) (upd H p (.lst [.int x, .int y, .int 0]))
def spLTake : Sp := fun vs H Q _ => ∃ (p : Addr) (m n : Int), vs = [.ref p, .int m] ∧ Box H p n ∧ n < 1099511627776 ∧ 0 < m ∧ m < 1073741824 ∧
  ∀ (r : Int) (G : Hp), But p H G → Box G p (n + 1) → 0 ≤ r → r < m → Q (.int r) G
theorem walk_zipT {K : PySem.W.Frag} {a b : Addr} {xs ys : List V} (hn : xs.length = ys.length) : Walk (RZ.ItzT K a b) xs.length (fun H => SqT K H a xs ∧ SqT K H b ys) (YPair (fun i => xs[i]?) (fun i => ys[i]?)) := by
  refine ⟨fun i _ hi q => ?_, fun _ q => ⟨xs, ys, q.1, q.2, by omega⟩, fun i H v H' _ q y => ?_⟩
  · have h2 : i < ys.length := by omega
    exact ⟨xs, ys, xs[i], ys[i], q.1, q.2, by simp [hi], by simp [h2]⟩
  · obtain ⟨T, x, z, h1, h2, h3, h4, h5⟩ := y
    exact ⟨T, x, z, h1, h2, h3, h4 xs q.1, h5 ys q.2⟩
theorem all_rep (n : Nat) : (List.replicate n true).all id = true := by
  induction n with
  | zero => rfl
  | succ n ih => rw [List.replicate_succ, List.all_cons, ih]; rfl
theorem kit_none (K : PySem.W.Frag) (t : String) (h1 : kitB t "list" = some false) (h2 : kitB t "tuple" = some false) : PySem.W.kitAny K (.type t) [.type "list", .type "tuple"] = some false :=
  kitAny_cons (kit_ty h1) (fun _ => kitAny_cons (kit_ty h2) (fun _ => rfl) (fun z => Bool.noConfusion z)) (fun z => Bool.noConfusion z)
theorem kit_list (K : PySem.W.Frag) : PySem.W.kitAny K (.type "list") [.type "list", .type "tuple"] = some true :=
  kitAny_cons (kit_ty (r := true) (by decide +kernel)) (fun z => Bool.noConfusion z) (fun _ => rfl)
theorem kit_tup (K : PySem.W.Frag) : PySem.W.kitAny K (.type "tuple") [.type "list", .type "tuple"] = some true :=
  kitAny_cons (kit_ty (r := false) (by decide +kernel)) (fun _ => kitAny_cons (kit_ty (r := true) (by decide +kernel)) (fun z => Bool.noConfusion z) (fun _ => rfl)) (fun z => Bool.noConfusion z)
theorem cls2 : Paired ClsV [.ty "list", .ty "tuple"] [.type "list", .type "tuple"] := .cons (.ty _) (.cons (.ty _) .nil)
/-! two things alike, kind by kind -/
def spLSame (K : PySem.W.Frag) (n : Nat) : Sp := fun vs H Q _ => ∃ (x y : V) (d : PyData), vs = [x, y] ∧ Dp K H x d ∧ Dp K H y d ∧ dep d < n ∧ wid d ≤ 1000000 ∧ ∀ G, Same H G → Q (.bl true) G

def spLaw (K : PySem.W.Frag) : Sp := fun vs H Q _ => ∃ (a : Addr) (ns : List Int), vs = [.ref a] ∧ SqL K H a (ns.map V.int) ∧ ns.length ≤ 63 ∧ ∀ G, Q (.bl true) G
end
section
variable {P : Program} {w : World} {K : PySem.W.Frag} {mg : Str → Option Value} {base : Heap}
def top (i : Nat) : Stmt := PySem.Challenge.pw_startlog_k02_names_by_numbers.main.body.getD i (.Pass ⟨0, 0, 0, 0⟩)
abbrev sIsName : Stmt := top 7
abbrev sNameNumber : Stmt := top 8
abbrev sNameOf : Stmt := top 9
abbrev sLBox : Stmt := top 11
abbrev sLTake : Stmt := top 12
abbrev sLSame : Stmt := top 13
abbrev sLNameNumber : Stmt := top 14
abbrev sLWholeName : Stmt := top 15
abbrev sLRight : Stmt := top 16
abbrev sLaw : Stmt := top 17
theorem scIsName : FnScope ["thing", "letter"] ["thing"] (defScope sIsName) := ⟨rfl, rfl, rfl, by decide +kernel, rfl, by decide +kernel, by decide +kernel⟩
theorem scNameNumber : FnScope ["name", "number", "letter"] ["name"] (defScope sNameNumber) := ⟨rfl, rfl, rfl, by decide +kernel, rfl, by decide +kernel, by decide +kernel⟩
theorem scNameOf : FnScope ["number", "name", "rest", "figure"] ["number"] (defScope sNameOf) := ⟨rfl, rfl, rfl, by decide +kernel, rfl, by decide +kernel, by decide +kernel⟩
theorem scLBox : FnScope ["_law_script", "_law_k", "_law_cell"] ["_law_script", "_law_k"] (defScope sLBox) := ⟨rfl, rfl, rfl, by decide +kernel, rfl, by decide +kernel, by decide +kernel⟩
theorem scLTake : FnScope ["_law_box_here", "_law_size", "_law_found", "_law_once"] ["_law_box_here", "_law_size"] (defScope sLTake) := ⟨rfl, rfl, rfl, by decide +kernel, rfl, by decide +kernel, by decide +kernel⟩
theorem scLSame : FnScope ["_law_found", "_law_due", "_law_one", "_law_two"] ["_law_found", "_law_due"] (defScope sLSame) := ⟨rfl, rfl, rfl, by decide +kernel, rfl, by decide +kernel, by decide +kernel⟩
theorem scLNameNumber : FnScope ["_law_letters", "_law_found", "_law_sign"] ["_law_letters"] (defScope sLNameNumber) := ⟨rfl, rfl, rfl, by decide +kernel, rfl, by decide +kernel, by decide +kernel⟩
theorem scLWholeName : FnScope ["_law_box_here", "_law_letters", "_law_k"] ["_law_box_here"] (defScope sLWholeName) := ⟨rfl, rfl, rfl, by decide +kernel, rfl, by decide +kernel, by decide +kernel⟩
theorem scLRight : FnScope ["_law_one", "_law_due"] ["_law_one"] (defScope sLRight) := ⟨rfl, rfl, rfl, by decide +kernel, rfl, by decide +kernel, by decide +kernel⟩
theorem scLaw : FnScope ["_law_script", "_law_one", "_law_k", "_law_box_here", "_law_ahead", "_law_turn"] ["_law_script"] (defScope sLaw) := ⟨rfl, rfl, rfl, by decide +kernel, rfl, by decide +kernel, by decide +kernel⟩
/-- the names that are the builtins' own -/
structure Bl (mg : Str → Option Value) : Prop where
  b_len : mg "len" = none
  b_abs : mg "abs" = none
  b_int : mg "int" = none
  b_isinstance : mg "isinstance" = none
  b_list : mg "list" = none
  b_tuple : mg "tuple" = none
  b_str : mg "str" = none
  b_bool : mg "bool" = none
  b_all : mg "all" = none
  b_zip : mg "zip" = none
  b_range : mg "range" = none
  b_max : mg "max" = none
  b_min : mg "min" = none
  b_enumerate : mg "enumerate" = none
  b_divmod : mg "divmod" = none
/-- what the top has written -/
structure Tx (K : PySem.W.Frag) (mg : Str → Option Value) where
  B : Bl mg
  c_LETTERS : ∃ t, mg "LETTERS" = some (.str "abcdefghijklmnopqrstuvwxyz" t)
  c_LONGEST : ∃ t, mg "LONGEST" = some (.int 4 t)
  c_BASE : ∃ t, mg "BASE" = some (.int 27 t)
  fdIsName : FuncData
  FIsName : FunD K "is_name" "is_name" (defArgs sIsName) (defBody sIsName) (defScope sIsName) [] [] (He.ga K "is_name") fdIsName
  gIsName : mg "is_name" = some (.ref (He.ga K "is_name"))
  fdNameNumber : FuncData
  FNameNumber : FunD K "name_number" "name_number" (defArgs sNameNumber) (defBody sNameNumber) (defScope sNameNumber) [] [] (He.ga K "name_number") fdNameNumber
  gNameNumber : mg "name_number" = some (.ref (He.ga K "name_number"))
  fdNameOf : FuncData
  FNameOf : FunD K "name_of" "name_of" (defArgs sNameOf) (defBody sNameOf) (defScope sNameOf) [] [] (He.ga K "name_of") fdNameOf
  gNameOf : mg "name_of" = some (.ref (He.ga K "name_of"))
  fdLBox : FuncData
  FLBox : FunD K "_law_box" "_law_box" (defArgs sLBox) (defBody sLBox) (defScope sLBox) [] [] (He.ga K "_law_box") fdLBox
  gLBox : mg "_law_box" = some (.ref (He.ga K "_law_box"))
  fdLTake : FuncData
  FLTake : FunD K "_law_take" "_law_take" (defArgs sLTake) (defBody sLTake) (defScope sLTake) [] [] (He.ga K "_law_take") fdLTake
  gLTake : mg "_law_take" = some (.ref (He.ga K "_law_take"))
  fdLSame : FuncData
  FLSame : FunD K "_law_same" "_law_same" (defArgs sLSame) (defBody sLSame) (defScope sLSame) [] [] (He.ga K "_law_same") fdLSame
  gLSame : mg "_law_same" = some (.ref (He.ga K "_law_same"))
  fdLNameNumber : FuncData
  FLNameNumber : FunD K "_law_name_number" "_law_name_number" (defArgs sLNameNumber) (defBody sLNameNumber) (defScope sLNameNumber) [] [] (He.ga K "_law_name_number") fdLNameNumber
  gLNameNumber : mg "_law_name_number" = some (.ref (He.ga K "_law_name_number"))
  fdLWholeName : FuncData
  FLWholeName : FunD K "_law_whole_name" "_law_whole_name" (defArgs sLWholeName) (defBody sLWholeName) (defScope sLWholeName) [] [] (He.ga K "_law_whole_name") fdLWholeName
  gLWholeName : mg "_law_whole_name" = some (.ref (He.ga K "_law_whole_name"))
  fdLRight : FuncData
  FLRight : FunD K "_law_right" "_law_right" (defArgs sLRight) (defBody sLRight) (defScope sLRight) [] [] (He.ga K "_law_right") fdLRight
  gLRight : mg "_law_right" = some (.ref (He.ga K "_law_right"))
  fdLaw : FuncData
  FLaw : FunD K "law" "law" (defArgs sLaw) (defBody sLaw) (defScope sLaw) [] [] (He.ga K "law") fdLaw
  gLaw : mg "law" = some (.ref (He.ga K "law"))
theorem Tx.bIsName {K : PySem.W.Frag} {mg : Str → Option Value} (T : Tx K mg) : Binds K T.fdIsName ["thing"] [] := T.FIsName.bindsN fun _ _ _ _ _ _ us hl => match us, hl with | [_], _ => rfl
theorem Tx.bNameNumber {K : PySem.W.Frag} {mg : Str → Option Value} (T : Tx K mg) : Binds K T.fdNameNumber ["name"] [] := T.FNameNumber.bindsN fun _ _ _ _ _ _ us hl => match us, hl with | [_], _ => rfl
theorem Tx.bNameOf {K : PySem.W.Frag} {mg : Str → Option Value} (T : Tx K mg) : Binds K T.fdNameOf ["number"] [] := T.FNameOf.bindsN fun _ _ _ _ _ _ us hl => match us, hl with | [_], _ => rfl
theorem Tx.bLBox {K : PySem.W.Frag} {mg : Str → Option Value} (T : Tx K mg) : Binds K T.fdLBox ["_law_script", "_law_k"] [] := T.FLBox.bindsN fun _ _ _ _ _ _ us hl => match us, hl with | [_, _], _ => rfl
theorem Tx.bLTake {K : PySem.W.Frag} {mg : Str → Option Value} (T : Tx K mg) : Binds K T.fdLTake ["_law_box_here", "_law_size"] [] := T.FLTake.bindsN fun _ _ _ _ _ _ us hl => match us, hl with | [_, _], _ => rfl
theorem Tx.bLSame {K : PySem.W.Frag} {mg : Str → Option Value} (T : Tx K mg) : Binds K T.fdLSame ["_law_found", "_law_due"] [] := T.FLSame.bindsN fun _ _ _ _ _ _ us hl => match us, hl with | [_, _], _ => rfl
theorem Tx.bLNameNumber {K : PySem.W.Frag} {mg : Str → Option Value} (T : Tx K mg) : Binds K T.fdLNameNumber ["_law_letters"] [] := T.FLNameNumber.bindsN fun _ _ _ _ _ _ us hl => match us, hl with | [_], _ => rfl
theorem Tx.bLWholeName {K : PySem.W.Frag} {mg : Str → Option Value} (T : Tx K mg) : Binds K T.fdLWholeName ["_law_box_here"] [] := T.FLWholeName.bindsN fun _ _ _ _ _ _ us hl => match us, hl with | [_], _ => rfl
theorem Tx.bLRight {K : PySem.W.Frag} {mg : Str → Option Value} (T : Tx K mg) : Binds K T.fdLRight ["_law_one"] [] := T.FLRight.bindsN fun _ _ _ _ _ _ us hl => match us, hl with | [_], _ => rfl
theorem Tx.bLaw {K : PySem.W.Frag} {mg : Str → Option Value} (T : Tx K mg) : Binds K T.fdLaw ["_law_script"] [] := T.FLaw.bindsN fun _ _ _ _ _ _ us hl => match us, hl with | [_], _ => rfl

end
section
variable {P : Program} {w : World} {K : PySem.W.Frag} {mg : Str → Option Value} {base : Heap}
theorem okLBox (T : Tx K mg) : FnOk P w K mg base CX0 1 (He.ga K "_law_box") T.fdLBox ["_law_script", "_law_k"] (spLBox K) := by
  have B := T.B
  refine T.FLBox.ok scLBox (fun vs H Q E h => ?_) (fun cdv A outer s H vs Q E hr h => ?_)
  · obtain ⟨a, ns, k, rfl, _⟩ := h
    rfl
  · obtain ⟨a, ns, k, rfl, hS, hk, q⟩ := h
    refine ⟨_, PSs.nox (pss_cons (ps_set (i := 2) scLBox.nd rfl (.inl rfl) pe_int)
        (pss_cons (ps_if (pt_cmpR op_lt (pv 1) (pe_callB call_len_seq (by rfl) B.b_len PySem.boot_len (pa_cons (pv 0) pa_nil)) (nomark _)) (pss_one (ps_set (i := 2) scLBox.nd rfl (.inl rfl) (pe_ix ix_list (pv 0) (pv 1) (fun _ _ => rfl)))) pss_nil)
        (pss_one (ps_ret (pe_lst (pa_cons (pe_op op_mul (pe_callB call_abs (by rfl) B.b_abs boot_abs (pa_cons (pv 2) pa_nil)) (pe_callTy call_int1 (by rfl) B.b_int PyProof.Rows.boot_int (pa_cons (pe_cmpR op_ge (pe_callB call_abs (by rfl) B.b_abs boot_abs (pa_cons (pv 2) pa_nil)) (pe_op op_pow pe_int pe_int) (nomark _)) pa_nil))) (pa_cons (pe_op op_add (pe_op op_add (pe_op op_mod (pv 2) pe_int) (pe_op op_mul pe_int (pv 1))) pe_int) (pa_cons pe_int pa_nil)))))))), ?_⟩
    have fin : ∀ c : Int, tRet (tLst (tCons (tOp (rI CMul fun i j => .int (i * j)) (tCB (fun xs H Q => ∃ i, xs = [.int i] ∧ Q (.int (if i < 0 then -i else i)) H) (tCons (tVar 2) tNil))
        (tCB (fun xs H Q => (∃ i, xs = [.int i] ∧ Q (.int i) H) ∨ ∃ k, xs = [.bl k] ∧ Q (.int (if k then 1 else 0)) H) (tCons (tOp (rI0 fun i j => .bl (decide (j ≤ i))) (tCB (fun xs H Q => ∃ i, xs = [.int i] ∧ Q (.int (if i < 0 then -i else i)) H) (tCons (tVar 2) tNil)) (tOp (rI CPow fun i j => .int (i ^ j.toNat)) (tC (.int 10)) (tC (.int 18)))) tNil)))
        (tCons (tOp (rI0 fun i j => .int (i + j)) (tOp (rI0 fun i j => .int (i + j)) (tOp (rI (fun _ j => 0 < j) fun i j => .int (i % j)) (tVar 2) (tC (.int 2147483629))) (tOp (rI CMul fun i j => .int (i * j)) (tC (.int 7919)) (tVar 1))) (tC (.int 11))) (tCons (tC (.int 0)) tNil))))
        { nx := fun _ H' => Q .non H', rt := Q } [some (.ref a), some (.int k), some (.int c)] H := by
      intro c
      have hb : ∀ b : Bool, (0 : Int) ≤ (if c < 0 then -c else c) * (if b = true then 1 else 0) := by
        intro b
        cases b <;> simp <;> split <;> omega
      have h1 := Int.emod_nonneg c (b := 2147483629) (by decide)
      have h2 := Int.emod_lt_of_pos c (b := 2147483629) (by decide)
      refine ⟨_, rfl, c, rfl, _, rfl, c, rfl, _, _, rfl, rfl, ⟨by decide, by decide, by decide⟩, _, _, rfl, rfl, .inr ⟨_, rfl, _, _, rfl, rfl, .inr ⟨?_, ?_⟩, ?_⟩⟩
      · exact bit_lo _
      · exact bit_hi _
      · refine ⟨_, rfl, _, _, rfl, rfl, (show (0 : Int) < 2147483629 by decide), _, rfl, _, _, rfl, rfl, .inl ⟨by decide, by decide⟩, _, _, rfl, rfl, _, _, rfl, rfl, by show 3 ≤ sizeLine; decide, fun p hp => ?_⟩
        exact q p _ _ hp (hb _) (by omega) (by omega)
    refine ⟨_, rfl, _, rfl, a, _, rfl, .inl hS, _, _, rfl, rfl, _, rfl, ite2 (fun e => ?_) (fun e => ?_)⟩
    · have hlt : k < ns.length := by
        have := of_decide_eq_true e
        rw [List.length_map] at this
        omega
      refine ⟨_, rfl, _, rfl, a, _, _, _, rfl, rfl, hS, at_of (j := k) (v := .int ns[k]) rfl (by rw [List.getElem?_map, List.getElem?_eq_getElem hlt]; rfl), ?_⟩
      exact fin _
    · exact fin _
theorem okLTake (T : Tx K mg) : FnOk P w K mg base CX0 1 (He.ga K "_law_take") T.fdLTake ["_law_box_here", "_law_size"] spLTake := by
  have B := T.B
  refine T.FLTake.ok scLTake (fun vs H Q E h => ?_) (fun cdv A outer s H vs Q E hr h => ?_)
  · obtain ⟨p, m, n, rfl, _⟩ := h
    rfl
  · obtain ⟨p, m, n, rfl, hB, hn, hm, hm2, q⟩ := h
    refine ⟨_, PSs.nox (pss_cons (ps_if (pt_cmpR op_gt (pe_ix ix_list (pv 0) pe_int (fun _ _ => rfl)) pe_int (nomark _)) (pss_cons (ps_set (i := 2) scLTake.nd rfl (.inl rfl) (pe_op op_mod (pe_ix ix_list (pv 0) pe_int (fun _ _ => rfl)) (pv 1)))
        (pss_cons (ps_asg (pe_op op_fdiv (pe_ix ix_list (pv 0) pe_int (fun _ _ => rfl)) (pv 1)) (pg_sub (pv 0) pe_int set_list))
        (pss_one (ps_ret (pv 2))))) pss_nil)
        (pss_cons (ps_asg (pe_op op_add (pe_ix ix_list (pv 0) pe_int (fun _ _ => rfl)) pe_int) (pg_sub (pv 0) pe_int set_list))
        (pss_cons (ps_set (i := 3) scLTake.nd rfl (.inl rfl) (pe_op op_mod (pe_op op_pow (pe_op op_add (pe_ix ix_list (pv 0) pe_int (fun _ _ => rfl)) (pe_op op_mul pe_int (pe_ix ix_list (pv 0) pe_int (fun _ _ => rfl)))) pe_int) pe_int))
        (pss_one (ps_ret (pe_op op_mod (pe_op op_fdiv (pe_op op_mod (pe_op op_add (pe_op op_mul (pv 3) (pe_op op_add (pe_op op_mod (pv 3) pe_int) pe_int)) (pe_op op_mul (pe_ix ix_list (pv 0) pe_int (fun _ _ => rfl)) pe_int)) pe_int) pe_int) (pv 1))))))), ?_⟩
    obtain ⟨x, y, z, hp, hx, hy, hy2, hz, hzn⟩ := hB
    refine ⟨_, rfl, p, _, 0, .int x, rfl, rfl, SqL.of hp, atI_nat (j := 0) rfl, _, _, rfl, rfl, _, rfl, ite2 (fun e => ?_) (fun e => ?_)⟩
    · refine ⟨_, rfl, p, _, 0, .int x, rfl, rfl, SqL.of hp, atI_nat (j := 0) rfl, _, rfl, _, _, rfl, rfl, hm, ?_⟩
      refine ⟨_, rfl, p, _, 0, .int x, rfl, rfl, SqL.of hp, atI_nat (j := 0) rfl, _, rfl, _, _, rfl, rfl, ⟨hm, hm2⟩, ?_⟩
      refine ⟨_, rfl, p, _, 0, 0, rfl, rfl, hp, rfl, _, rfl, ?_⟩
      exact q _ _ But.upd ⟨_, y, z, upd_same, Int.ediv_nonneg hx (Int.le_of_lt hm), hy, hy2, hz, by omega⟩ (Int.emod_nonneg _ (by omega)) (Int.emod_lt_of_pos _ hm)
    · refine ⟨_, rfl, p, _, 2, .int z, rfl, rfl, SqL.of hp, atI_nat (j := 2) rfl, _, _, rfl, rfl, _, rfl, p, _, 2, 2, rfl, rfl, hp, rfl, ?_⟩
      have hp2 : upd H p (.lst [.int x, .int y, .int (z + 1)]) p = some (.lst [.int x, .int y, .int (z + 1)]) := upd_same
      refine ⟨_, rfl, p, _, 1, .int y, rfl, rfl, SqL.of hp2, atI_nat (j := 1) rfl, _, rfl, p, _, 2, .int (z + 1), rfl, rfl, SqL.of hp2, atI_nat (j := 2) rfl, _, _, rfl, rfl, .inl ⟨by decide, by decide⟩, _, _, rfl, rfl, _, _, rfl, rfl, ⟨by decide, by decide, ?_⟩, _, _, rfl, rfl, (show (0 : Int) < 2147483647 by decide), ?_⟩
      · have : (y + 39373 * (z + 1)).natAbs < 18446744073709551616 := by omega
        exact this
      · refine ⟨_, rfl, _, rfl, _, _, rfl, rfl, (show (0 : Int) < 40009 by decide), _, _, rfl, rfl, _, _, rfl, rfl, .inr ⟨?_, ?_⟩, _, rfl, p, _, 2, .int (z + 1), rfl, rfl, SqL.of hp2, atI_nat (j := 2) rfl, _, _, rfl, rfl, .inr ⟨by decide, by decide⟩, _, _, rfl, rfl, _, _, rfl, rfl, (show (0 : Int) < 2147483629 by decide), _, _, rfl, rfl, ⟨by decide, by decide⟩, _, rfl, _, _, rfl, rfl, hm, ?_⟩
        · have h1 := Int.emod_nonneg ((y + 39373 * (z + 1)) ^ 5 % 2147483647) (b := 40009) (by decide)
          have : -18446744073709551616 < ((y + 39373 * (z + 1)) ^ 5 % 2147483647) % 40009 + 7 := by omega
          exact this
        · have h1 := Int.emod_lt_of_pos ((y + 39373 * (z + 1)) ^ 5 % 2147483647) (b := 40009) (by decide)
          have : ((y + 39373 * (z + 1)) ^ 5 % 2147483647) % 40009 + 7 < 18446744073709551616 := by omega
          exact this
        · exact q _ _ But.upd ⟨x, y, z + 1, hp2, hx, hy, hy2, by omega, by omega⟩ (Int.emod_nonneg _ (by omega)) (Int.emod_lt_of_pos _ hm)
end
section
variable {P : Program} {w : World} {K : PySem.W.Frag} {mg : Str → Option Value} {base : Heap}
theorem okLSame (T : Tx K mg) : ∀ n : Nat, FnOk P w K mg base CX0 n (He.ga K "_law_same") T.fdLSame ["_law_found", "_law_due"] (spLSame K n)
  | 0 => ⟨fun vs H Q E h => by obtain ⟨x, y, d, _, _, _, h, _, _⟩ := h; exact absurd h (Nat.not_lt_zero _), fun A outer s H args us vs Q E _ _ _ _ h => by obtain ⟨x, y, d, _, _, _, h, _, _⟩ := h; exact absurd h (Nat.not_lt_zero _)⟩
  | n + 1 => by
    have GLSame : FnOk P w K mg base CX0 n (He.ga K "_law_same") T.fdLSame ["_law_found", "_law_due"] (spLSame K n) := okLSame T n
    have B := T.B
    have bLSame := T.bLSame
    refine T.FLSame.ok scLSame (fun vs H Q E h => ?_) (fun cdv A outer s H vs Q E hr h => ?_)
    · obtain ⟨x, y, d, rfl, _⟩ := h
      rfl
    · obtain ⟨x, y, d, rfl, hx, hy, hd, hw, q⟩ := h
      refine ⟨_, PSs.nox (pss_cons (ps_if (pt_val (pe_callB call_isiT (by rfl) B.b_isinstance boot_isinstance (pa_cons (pv 1) (pa_cons (pe_tup (pa_cons (pe_bltn (v := .ty "list") (by rfl) B.b_list PyProof.Rows.boot_list rfl) (pa_cons (pe_bltn (v := .ty "tuple") (by rfl) B.b_tuple PyProof.Rows.boot_tuple rfl) pa_nil))) pa_nil)))) (pss_cons (ps_if (PW.pt (pw_or (pt_cmpR op_ne (pe_callB call_isi (by rfl) B.b_isinstance boot_isinstance (pa_cons (pv 0) (pa_cons (pe_bltn (v := .ty "list") (by rfl) B.b_list PyProof.Rows.boot_list rfl) pa_nil))) (pe_callB call_isi (by rfl) B.b_isinstance boot_isinstance (pa_cons (pv 1) (pa_cons (pe_bltn (v := .ty "list") (by rfl) B.b_list PyProof.Rows.boot_list rfl) pa_nil))) (nomark _)) (pw_or1 (pt_cmpR op_ne (pe_callB call_isi (by rfl) B.b_isinstance boot_isinstance (pa_cons (pv 0) (pa_cons (pe_bltn (v := .ty "tuple") (by rfl) B.b_tuple PyProof.Rows.boot_tuple rfl) pa_nil))) (pe_callB call_isi (by rfl) B.b_isinstance boot_isinstance (pa_cons (pv 1) (pa_cons (pe_bltn (v := .ty "tuple") (by rfl) B.b_tuple PyProof.Rows.boot_tuple rfl) pa_nil))) (nomark _))))) (pss_one (ps_ret pe_bl)) pss_nil)
        (pss_cons (ps_if (pt_cmpR op_ne (pe_callB call_len_seq (by rfl) B.b_len PySem.boot_len (pa_cons (pv 0) pa_nil)) (pe_callB call_len_seq (by rfl) B.b_len PySem.boot_len (pa_cons (pv 1) pa_nil)) (nomark _)) (pss_one (ps_ret pe_bl)) pss_nil)
        (pss_one (ps_ret (pe_callB (cr_all rfl) (by rfl) B.b_all boot_all (pa_cons (pe_lc (own := [("_law_one", 2), ("_law_two", 3)]) (g := gTup K 2 (gCons (gName 2) (gCons (gName 3) gNil))) (tt := tYes) (by rfl) scLSame.nd (RZ.pi_zipA (by rfl) B.b_zip (pa_cons (pv 0) (pa_cons (pv 1) pa_nil))) (blkOk_by (own := [("_law_one", 2), ("_law_two", 3)]) (N := ["_law_found", "_law_due", "_law_one", "_law_two"]) (sc := defScope sLSame) (by decide +kernel)) (fun _ _ _ _ _ => by exact (pg_tup rfl (pgs_cons (pg_name (i := 2) scLSame.nd rfl (Or.inl rfl)) (pgs_cons (pg_name (i := 3) scLSame.nd rfl (Or.inl rfl)) pgs_nil)))) (fun _ _ _ _ _ => pts_nil) (fun _ _ _ _ _ => (pe_call GLSame hr (by rfl) T.gLSame T.FLSame.kp bLSame .nil pass0 (pa_cons (pv 2) (pa_cons (pv 3) pa_nil))))) pa_nil)))))) pss_nil)
        (pss_cons (ps_if (PW.pt (pw_or (pt_cmpR op_isN (pv 1) pe_non (nomark _)) (pw_or1 (pt_val (pe_callB call_isi (by rfl) B.b_isinstance boot_isinstance (pa_cons (pv 1) (pa_cons (pe_bltn (v := .ty "str") (by rfl) B.b_str PyProof.Rows.boot_str rfl) pa_nil))))))) (pss_one (ps_ret (pe_and (pe_cmpR op_eq (pv 0) (pv 1) (nomark _)) (pe_one (pe_cmpR op_eq (pe_callB call_isi (by rfl) B.b_isinstance boot_isinstance (pa_cons (pv 0) (pa_cons (pe_bltn (v := .ty "str") (by rfl) B.b_str PyProof.Rows.boot_str rfl) pa_nil))) (pe_callB call_isi (by rfl) B.b_isinstance boot_isinstance (pa_cons (pv 1) (pa_cons (pe_bltn (v := .ty "str") (by rfl) B.b_str PyProof.Rows.boot_str rfl) pa_nil))) (nomark _)))))) pss_nil)
        (pss_one (ps_ret (pe_and (pe_callB call_isi (by rfl) B.b_isinstance boot_isinstance (pa_cons (pv 0) (pa_cons (pe_bltn (v := .ty "int") (by rfl) B.b_int PyProof.Rows.boot_int rfl) pa_nil))) (pe_and (pe_cmpR op_eq (pe_callB call_isi (by rfl) B.b_isinstance boot_isinstance (pa_cons (pv 0) (pa_cons (pe_bltn (v := .ty "bool") (by rfl) B.b_bool PyProof.Rows.boot_bool rfl) pa_nil))) (pe_callB call_isi (by rfl) B.b_isinstance boot_isinstance (pa_cons (pv 1) (pa_cons (pe_bltn (v := .ty "bool") (by rfl) B.b_bool PyProof.Rows.boot_bool rfl) pa_nil))) (nomark _)) (pe_one (pe_cmpR op_eq (pv 0) (pv 1) (nomark _))))))))), ?_⟩
      refine ⟨_, rfl, (by show 2 ≤ sizeLine; decide), fun tp htp => ?_⟩
      have s1 : Same H (upd H tp (.tup [.ty "list", .ty "tuple"])) := same_new htp
      have hx1 := dp_same s1 d x hx
      have hy1 := dp_same s1 d y hy
      cases d with
      | none =>
        cases hx1; cases hy1
        refine ⟨_, tp, _, _, _, _, rfl, upd_same, cls2, .base .non, kit_none K _ (by decide +kernel) (by decide +kernel), _, rfl, iteF ?_⟩
        refine ⟨_, rfl, rfl, _, rfl, iteT ?_⟩
        refine iteT ?_
        refine ⟨_, rfl, _, rfl, rfl, _, rfl, iteT ?_⟩
        refine ⟨_, rfl, _, _, _, _, _, rfl, .ty _, .base .non, kit_ty (r := false) (by decide +kernel), _, rfl, _, _, _, _, _, rfl, .ty _, .base .non, kit_ty (r := false) (by decide +kernel), rfl, ?_⟩
        exact q _ s1
      | bool z =>
        cases hx1; cases hy1
        refine ⟨_, tp, _, _, _, _, rfl, upd_same, cls2, .base (.bl z), kit_none K _ (by decide +kernel) (by decide +kernel), _, rfl, iteF ?_⟩
        refine ⟨_, rfl, rfl, _, rfl, iteF ?_⟩
        refine ⟨_, rfl, _, _, _, _, _, rfl, .ty _, .base (.bl z), kit_ty (r := false) (by decide +kernel), _, rfl, iteF ?_⟩
        refine ⟨_, rfl, _, _, _, _, _, rfl, .ty _, .base (.bl z), kit_ty (r := true) (by decide +kernel), _, rfl, iteT ?_⟩
        refine ⟨_, rfl, _, _, _, _, _, rfl, .ty _, .base (.bl z), kit_ty (r := true) (by decide +kernel), _, rfl, _, _, _, _, _, rfl, .ty _, .base (.bl z), kit_ty (r := true) (by decide +kernel), rfl, _, rfl, iteT ?_⟩
        refine ⟨_, rfl, _, rfl, rfl, ?_⟩
        rw [decide_eq_true rfl]
        exact q _ s1
      | int z =>
        cases hx1; cases hy1
        refine ⟨_, tp, _, _, _, _, rfl, upd_same, cls2, .base (.int z), kit_none K _ (by decide +kernel) (by decide +kernel), _, rfl, iteF ?_⟩
        refine ⟨_, rfl, rfl, _, rfl, iteF ?_⟩
        refine ⟨_, rfl, _, _, _, _, _, rfl, .ty _, .base (.int z), kit_ty (r := false) (by decide +kernel), _, rfl, iteF ?_⟩
        refine ⟨_, rfl, _, _, _, _, _, rfl, .ty _, .base (.int z), kit_ty (r := true) (by decide +kernel), _, rfl, iteT ?_⟩
        refine ⟨_, rfl, _, _, _, _, _, rfl, .ty _, .base (.int z), kit_ty (r := false) (by decide +kernel), _, rfl, _, _, _, _, _, rfl, .ty _, .base (.int z), kit_ty (r := false) (by decide +kernel), rfl, _, rfl, iteT ?_⟩
        refine ⟨_, rfl, _, rfl, rfl, ?_⟩
        rw [decide_eq_true rfl]
        exact q _ s1
      | str z =>
        cases hx1; cases hy1
        refine ⟨_, tp, _, _, _, _, rfl, upd_same, cls2, .base (.str z), kit_none K _ (by decide +kernel) (by decide +kernel), _, rfl, iteF ?_⟩
        refine ⟨_, rfl, rfl, _, rfl, iteF ?_⟩
        refine ⟨_, rfl, _, _, _, _, _, rfl, .ty _, .base (.str z), kit_ty (r := true) (by decide +kernel), _, rfl, iteT ?_⟩
        refine ⟨_, rfl, _, rfl, rfl, _, rfl, ?_⟩
        rw [decide_eq_true rfl]
        refine iteT ?_
        refine ⟨_, rfl, _, _, _, _, _, rfl, .ty _, .base (.str z), kit_ty (r := true) (by decide +kernel), _, rfl, _, _, _, _, _, rfl, .ty _, .base (.str z), kit_ty (r := true) (by decide +kernel), rfl, ?_⟩
        exact q _ s1
      | list ds =>
        cases hx1 with
        | @lst a xs _ ha da =>
        cases hy1 with
        | @lst c ys _ hc dc =>
        refine ⟨_, tp, _, _, _, _, rfl, upd_same, cls2, ty_list hc, kit_list K, _, rfl, iteT ?_⟩
        refine ⟨_, rfl, _, _, _, _, _, rfl, .ty _, ty_list ha, kit_ty (r := true) (by decide +kernel), _, rfl, _, _, _, _, _, rfl, .ty _, ty_list hc, kit_ty (r := true) (by decide +kernel), rfl, _, rfl, iteF ?_⟩
        refine ⟨_, rfl, _, _, _, _, _, rfl, .ty _, ty_list ha, kit_ty (r := false) (by decide +kernel), _, rfl, _, _, _, _, _, rfl, .ty _, ty_list hc, kit_ty (r := false) (by decide +kernel), rfl, _, rfl, iteF ?_⟩
        have hl : xs.length = ys.length := (dpa_len da).trans (dpa_len dc).symm
        refine ⟨_, rfl, a, xs, rfl, .inl ha, _, rfl, c, ys, rfl, .inl hc, rfl, _, rfl, ?_⟩
        rw [decide_eq_true (by rw [hl])]
        refine iteF ?_
        refine ⟨_, rfl, _, rfl, a, c, xs, ys, rfl, .inl ⟨ha, hc, fun D hD => ?_⟩⟩
        refine lc_it (walk_zip (n := xs.length) (by omega)) (fun i G => Same (upd H tp (.tup [.ty "list", .ty "tuple"])) G ∧ G D = some (.lst (List.replicate i (.bl true)))) ⟨same_new hD, upd_same⟩ (fun i G _ h => ⟨Same.seq h.1 ha, Same.seq h.1 hc⟩) ?_ ?_
        · intro i v G G1 hi hP hy
          obtain ⟨sG, hDG⟩ := hP
          obtain ⟨T, u, v2, rfl, hT, rfl, hu, hv⟩ := hy
          obtain ⟨d1, e1, p1⟩ := dpa_at da hu
          obtain ⟨d2, e2, p2⟩ := dpa_at dc hv
          have ed : d1 = d2 := Option.some.inj (e1.symm.trans e2)
          subst ed
          have sT : Same (upd H tp (.tup [.ty "list", .ty "tuple"])) (upd G T (.tup [u, v2])) := sG.trans (same_new hT)
          have hdep : dep d1 < n := by
            have h1 := deps_at e1
            have h2 : dep.deps ds + 1 < n + 1 := hd
            omega
          have hwid : wid d1 ≤ 1000000 := by
            have h1 := wids_at e1
            have h2 : max ds.length (wid.wids ds) ≤ 1000000 := hw
            omega
          refine ⟨T, [u, v2], rfl, .inl (.inl upd_same), rfl, u, [v2], rfl, v2, [], rfl, rfl, ?_⟩
          refine ⟨rfl, ?_⟩
          unfold tYes
          refine iteT ?_
          refine ⟨_, rfl, _, rfl, u, v2, d1, rfl, dp_same sT _ _ p1, dp_same sT _ _ p2, hdep, hwid, fun G2 s2 => ?_⟩
          have hD2 : G2 D = some (.lst (List.replicate i (.bl true))) := s2 _ _ (same_new hT _ _ hDG)
          refine ⟨_, hD2, ?_, ?_, ?_⟩
          · rw [List.length_replicate]
            exact small6 (by have h1 : max ds.length (wid.wids ds) ≤ 1000000 := hw; have h2 := dpa_len da; omega)
          · intro b o e
            have hb : b ≠ D := ne_of_none e hD
            rw [upd_ne hb]
            exact s2 _ _ (sT _ _ e)
          · rw [upd_same, List.replicate_succ']
        · intro G hP
          obtain ⟨sG, hDG⟩ := hP
          have eb : List.replicate xs.length (V.bl true) = (List.replicate xs.length true).map V.bl := by rw [List.map_replicate]
          rw [eb] at hDG
          refine ⟨D, _, rfl, .inl (.inl hDG), ?_⟩
          rw [all_rep]
          exact q _ (s1.trans sG)
      | tuple ds =>
        cases hx1 with
        | @tup a xs _ ha da =>
        cases hy1 with
        | @tup c ys _ hc dc =>
        refine ⟨_, tp, _, _, _, _, rfl, upd_same, cls2, ty_tup hc, kit_tup K, _, rfl, iteT ?_⟩
        refine ⟨_, rfl, _, _, _, _, _, rfl, .ty _, ty_tup ha, kit_ty (r := false) (by decide +kernel), _, rfl, _, _, _, _, _, rfl, .ty _, ty_tup hc, kit_ty (r := false) (by decide +kernel), rfl, _, rfl, iteF ?_⟩
        refine ⟨_, rfl, _, _, _, _, _, rfl, .ty _, ty_tup ha, kit_ty (r := true) (by decide +kernel), _, rfl, _, _, _, _, _, rfl, .ty _, ty_tup hc, kit_ty (r := true) (by decide +kernel), rfl, _, rfl, iteF ?_⟩
        have hl : xs.length = ys.length := (dpa_len da).trans (dpa_len dc).symm
        refine ⟨_, rfl, a, xs, rfl, .inr ha, _, rfl, c, ys, rfl, .inr hc, rfl, _, rfl, ?_⟩
        rw [decide_eq_true (by rw [hl])]
        refine iteF ?_
        refine ⟨_, rfl, _, rfl, a, c, xs, ys, rfl, .inr ⟨ha, hc, fun D hD => ?_⟩⟩
        refine lc_it (walk_zipT hl) (fun i G => Same (upd H tp (.tup [.ty "list", .ty "tuple"])) G ∧ G D = some (.lst (List.replicate i (.bl true)))) ⟨same_new hD, upd_same⟩ (fun i G _ h => ⟨seqT_same h.1 ha, seqT_same h.1 hc⟩) ?_ ?_
        · intro i v G G1 hi hP hy
          obtain ⟨sG, hDG⟩ := hP
          obtain ⟨T, u, v2, rfl, hT, rfl, hu, hv⟩ := hy
          obtain ⟨d1, e1, p1⟩ := dpa_at da hu
          obtain ⟨d2, e2, p2⟩ := dpa_at dc hv
          have ed : d1 = d2 := Option.some.inj (e1.symm.trans e2)
          subst ed
          have sT : Same (upd H tp (.tup [.ty "list", .ty "tuple"])) (upd G T (.tup [u, v2])) := sG.trans (same_new hT)
          have hdep : dep d1 < n := by
            have h1 := deps_at e1
            have h2 : dep.deps ds + 1 < n + 1 := hd
            omega
          have hwid : wid d1 ≤ 1000000 := by
            have h1 := wids_at e1
            have h2 : max ds.length (wid.wids ds) ≤ 1000000 := hw
            omega
          refine ⟨T, [u, v2], rfl, .inl (.inl upd_same), rfl, u, [v2], rfl, v2, [], rfl, rfl, ?_⟩
          refine ⟨rfl, ?_⟩
          unfold tYes
          refine iteT ?_
          refine ⟨_, rfl, _, rfl, u, v2, d1, rfl, dp_same sT _ _ p1, dp_same sT _ _ p2, hdep, hwid, fun G2 s2 => ?_⟩
          have hD2 : G2 D = some (.lst (List.replicate i (.bl true))) := s2 _ _ (same_new hT _ _ hDG)
          refine ⟨_, hD2, ?_, ?_, ?_⟩
          · rw [List.length_replicate]
            exact small6 (by have h1 : max ds.length (wid.wids ds) ≤ 1000000 := hw; have h2 := dpa_len da; omega)
          · intro b o e
            have hb : b ≠ D := ne_of_none e hD
            rw [upd_ne hb]
            exact s2 _ _ (sT _ _ e)
          · rw [upd_same, List.replicate_succ']
        · intro G hP
          obtain ⟨sG, hDG⟩ := hP
          have eb : List.replicate xs.length (V.bl true) = (List.replicate xs.length true).map V.bl := by rw [List.map_replicate]
          rw [eb] at hDG
          refine ⟨D, _, rfl, .inl (.inl hDG), ?_⟩
          rw [all_rep]
          exact q _ (s1.trans sG)
      | dict ds => cases hx1

end
section
variable {P : Program} {w : World} {K : PySem.W.Frag} {mg : Str → Option Value} {base : Heap}
/-! letters and names -/
theorem call_listS {X : Cx} (hc : X.calm = true) : CallR X (.type "list") (fun xs H Q => ∃ z : Str, xs = [.str z] ∧ z.length ≤ sizeLine ∧ ∀ l, H l = none → Q (.ref l) (upd H l (.lst (z.cps.toList.map fun c => .str ⟨#[c]⟩)))) := by
  intro pins s σ H xs us Q I r h
  obtain ⟨z, rfl, hz, q⟩ := h
  obtain ⟨u, rfl, rx⟩ := vals1 r
  obtain ⟨t, rfl⟩ := rx
  refine call_list_str (I.ok.hd hc) z t (hn := hz) fun h' tk acc c' kp e it => ?_
  have rv : ∀ (l : List Nat) (vs : List Value), vs.length = l.length → (∀ (j : Nat) (v : Value), vs[j]? = some v → ∃ (c : Nat) (u : Tok), l[j]? = some c ∧ v = Value.str ⟨#[c]⟩ u) → Vals (l.map fun c => V.str ⟨#[c]⟩) vs := by
    intro l
    induction l with
    | nil =>
      intro vs hl _
      cases vs with
      | nil => exact .nil
      | cons => cases hl
    | cons c l ih =>
      intro vs hl hv
      cases vs with
      | nil => cases hl
      | cons v vs =>
        obtain ⟨c1, u1, e1, rfl⟩ := hv 0 v rfl
        have e2 : c = c1 := Option.some.inj e1
        subst e2
        exact .cons ⟨u1, rfl⟩ (ih vs (Nat.succ.inj hl) fun j v h => hv (j + 1) v h)
  have r2 : Vals (z.cps.toList.map fun c => V.str ⟨#[c]⟩) acc.toList := rv _ _ (by have := it.1; simpa using this) fun j v hv => by
    obtain ⟨c, u, hc2, hv2⟩ := it.2 j v (by simpa using hv)
    exact ⟨c, u, by simpa using hc2, hv2⟩
  refine ⟨.ref s.heap.objs.size, _, I.laid (t' := tk) kp (Nat.le_refl _) (show ObjOk X.prog X.w _ h' _ (.lst _) from ⟨?_, acc.toList, c', r2, by simpa using e⟩), rfl, q _ (I.hok.fresh (Nat.le_refl _))⟩
  rw [List.length_map]
  have hz2 : z.cps.size ≤ sizeLine := hz
  simpa using hz2
def LT : Str := "abcdefghijklmnopqrstuvwxyz"
def sg (d : Nat) : Str := ⟨#[97 + d]⟩
def nm (l : List Nat) : Str := ⟨(l.map (97 + ·)).toArray⟩
def num : List Nat → Int := fun l => l.foldl (fun (a : Int) (d : Nat) => a * 27 + (d : Int) + 1) 0
structure Gd (l : List Nat) : Prop where
  lt : ∀ d ∈ l, d < 26
  lo : 1 ≤ l.length
  hi : l.length ≤ 4
theorem occ_at : ∀ d, d < 26 → Builtin.Str.occurrences LT (sg d) 0 LT.length 1 = d :: [] := by decide +kernel
theorem lt_at : ∀ d, d < 26 → LT.cps.toList[d]? = some (97 + d) := by decide +kernel
theorem lt_len : LT.length = 26 := by decide +kernel
theorem lt_in {c : Nat} : c ∈ LT.cps.toList ↔ 97 ≤ c ∧ c < 123 := by
  have e : LT.cps.toList = [97, 98, 99, 100, 101, 102, 103, 104, 105, 106, 107, 108, 109, 110, 111, 112, 113, 114, 115, 116, 117, 118, 119, 120, 121, 122] := by decide +kernel
  rw [e]
  simp only [List.mem_cons, List.not_mem_nil, or_false]
  omega
theorem nm_len (l : List Nat) : (nm l).length = l.length := by
  show (l.map (97 + ·)).toArray.size = l.length
  simp
theorem nm_size (l : List Nat) : (nm l).cps.size = l.length := nm_len l
theorem nm_at {l : List Nat} {i c : Nat} (h : (nm l).cps[i]? = some c) : ∃ d, l[i]? = some d ∧ c = 97 + d := by
  have h1 : (l.map (97 + ·))[i]? = some c := by
    unfold nm at h
    simpa using h
  rw [List.getElem?_map] at h1
  cases e : l[i]? with
  | none => rw [e] at h1; cases h1
  | some d =>
    rw [e] at h1
    exact ⟨d, rfl, (Option.some.inj h1).symm⟩
theorem nm_cons (d : Nat) (l : List Nat) : sg d ++ nm l = nm (d :: l) := by
  show (⟨(sg d).cps ++ (nm l).cps⟩ : Str) = nm (d :: l)
  unfold nm sg
  simp
theorem nm_inj {a b : List Nat} (h : nm a = nm b) : a = b := by
  have h1 : (nm a).cps.toList = (nm b).cps.toList := by rw [h]
  have h2 : a.map (97 + ·) = b.map (97 + ·) := by simpa [nm] using h1
  have inj : ∀ (a b : List Nat), a.map (97 + ·) = b.map (97 + ·) → a = b := by
    intro a
    induction a with
    | nil =>
      intro b h
      cases b with
      | nil => rfl
      | cons => simp at h
    | cons x a ih =>
      intro b h
      cases b with
      | nil => simp at h
      | cons y b =>
        simp only [List.map_cons, List.cons.injEq] at h
        have e : x = y := by omega
        rw [e, ih b h.2]
  exact inj a b h2
theorem num_nil : num [] = 0 := rfl
theorem num_snoc (l : List Nat) (d : Nat) : num (l ++ [d]) = num l * 27 + d + 1 := by
  unfold num
  rw [List.foldl_append]
  rfl
theorem num_take {l : List Nat} {i d : Nat} (h : l[i]? = some d) : num (l.take (i + 1)) = num (l.take i) * 27 + d + 1 := by
  have e : l.take (i + 1) = l.take i ++ [d] := by rw [List.take_add_one, h]; rfl
  rw [e, num_snoc]
theorem snoc_ind {P : List Nat → Prop} (h0 : P []) (hs : ∀ l d, P l → P (l ++ [d])) (l : List Nat) : P l := by
  have h : ∀ n (l : List Nat), l.length = n → P l := by
    intro n
    induction n with
    | zero =>
      intro l e
      have : l = [] := List.eq_nil_of_length_eq_zero e
      rw [this]; exact h0
    | succ n ih =>
      intro l e
      have hne : l ≠ [] := fun z => by rw [z] at e; cases e
      rw [← List.dropLast_concat_getLast hne]
      exact hs _ _ (ih _ (by rw [List.length_dropLast, e]; rfl))
  exact h _ l rfl
theorem num_nonneg (l : List Nat) : 0 ≤ num l := snoc_ind (P := fun l => 0 ≤ num l) (by rw [num_nil]; exact Int.le_refl _) (fun l d ih => by rw [num_snoc]; omega) l
theorem num_hi (l : List Nat) (h : ∀ d ∈ l, d < 26) : num l < 27 ^ l.length :=
  snoc_ind (P := fun l => (∀ d ∈ l, d < 26) → num l < 27 ^ l.length) (fun _ => by rw [num_nil]; decide) (fun l d ih h => by
    rw [num_snoc, List.length_append, List.length_singleton, Int.pow_succ]
    have h1 := ih fun e he => h e (List.mem_append_left _ he)
    have h2 := h d (List.mem_append_right _ (List.mem_singleton.mpr rfl))
    omega) l h
theorem num_lo (l : List Nat) : l ≠ [] → (27 : Int) ^ (l.length - 1) ≤ num l :=
  snoc_ind (P := fun l => l ≠ [] → (27 : Int) ^ (l.length - 1) ≤ num l) (fun h => absurd rfl h) (fun l d ih _ => by
    rw [num_snoc, List.length_append, List.length_singleton, Nat.add_sub_cancel]
    cases l with
    | nil =>
      show (1 : Int) ≤ num [] * 27 + d + 1
      have := num_nonneg []
      omega
    | cons x l =>
      have h1 := ih (List.cons_ne_nil _ _)
      rw [List.length_cons, Nat.add_sub_cancel] at h1
      rw [List.length_cons, Int.pow_succ]
      omega) l
theorem num_pos {l : List Nat} (h : l ≠ []) : 0 < num l := by
  have h1 := num_lo l h
  have h2 : (0 : Int) < 27 ^ (l.length - 1) := Int.pow_pos (by decide)
  omega
theorem num_inj (a : List Nat) : ∀ b, (∀ d ∈ a, d < 26) → (∀ d ∈ b, d < 26) → num a = num b → a = b :=
  snoc_ind (P := fun a => ∀ b, (∀ d ∈ a, d < 26) → (∀ d ∈ b, d < 26) → num a = num b → a = b)
    (fun b _ _ h => by
      cases b with
      | nil => rfl
      | cons x b =>
        have := num_pos (List.cons_ne_nil x b)
        rw [← h, num_nil] at this
        exact absurd this (by decide))
    (fun l d ih b => snoc_ind (P := fun b => (∀ d' ∈ l ++ [d], d' < 26) → (∀ d ∈ b, d < 26) → num (l ++ [d]) = num b → l ++ [d] = b)
      (fun _ _ h => by
        have := num_pos (l := l ++ [d]) (by simp)
        rw [h, num_nil] at this
        exact absurd this (by decide))
      (fun b e _ ha hb h => by
        rw [num_snoc, num_snoc] at h
        have h1 := ha d (List.mem_append_right _ (List.mem_singleton.mpr rfl))
        have h2 := hb e (List.mem_append_right _ (List.mem_singleton.mpr rfl))
        have e1 : d = e := by omega
        have e2 : num l = num b := by omega
        rw [e1, ih b (fun x hx => ha x (List.mem_append_left _ hx)) (fun x hx => hb x (List.mem_append_left _ hx)) e2]) b) a
theorem num_ord {a b : List Nat} (ha : Gd a) (hb : Gd b) (h : a.length ≠ b.length) : (num b < num a) ↔ (b.length < a.length) := by
  have la := num_lo a (fun z => by have := ha.lo; rw [z] at this; cases this)
  have lb := num_lo b (fun z => by have := hb.lo; rw [z] at this; cases this)
  have ua := num_hi a ha.lt
  have ub := num_hi b hb.lt
  have step : ∀ m n : Nat, m < n → n ≤ 4 → (27 : Int) ^ m ≤ 27 ^ (n - 1) := fun m n h1 h2 => (by decide +kernel : ∀ n, n < 5 → ∀ m, m < n → (27 : Int) ^ m ≤ 27 ^ (n - 1)) n (by omega) m h1
  constructor
  · intro h1
    by_cases h2 : b.length < a.length
    · exact h2
    · have := step a.length b.length (by omega) hb.hi
      omega
  · intro h2
    have := step b.length a.length h2 ha.hi
    omega
def isNm (z : Str) : Bool := decide (1 ≤ z.length) && (decide (z.length ≤ 4) && z.cps.toList.all fun c => decide (c ∈ LT.cps.toList))
theorem isNm_nm {l : List Nat} (h : Gd l) : isNm (nm l) = true := by
  unfold isNm
  rw [nm_len, decide_eq_true h.lo, decide_eq_true h.hi]
  have e : (nm l).cps.toList = l.map (97 + ·) := by simp [nm]
  rw [e, List.all_map]
  show l.all _ = true
  rw [List.all_eq_true]
  intro d hd
  have := h.lt d hd
  show decide (97 + d ∈ LT.cps.toList) = true
  exact decide_eq_true (lt_in.mpr ⟨by omega, by omega⟩)
theorem join_sg (l : List Nat) : Txt.join (Str.ofString "") (l.map sg) = nm l := by
  show Builtin.Str.glued _ _ = _
  rw [StrLaws.glued_eq_join]
  have go : ∀ l : List Nat, Str.join (Str.ofString "") (l.map sg) = nm l := by
    intro l
    induction l with
    | nil => rfl
    | cons d l ih =>
      cases l with
      | nil =>
        show sg d = nm [d]
        unfold sg nm
        simp
      | cons e l =>
        show sg d ++ Str.ofString "" ++ Str.join (Str.ofString "") ((e :: l).map sg) = nm (d :: e :: l)
        rw [ih, ← nm_cons d]
        show (⟨((sg d).cps ++ (Str.ofString "").cps) ++ (nm (e :: l)).cps⟩ : Str) = ⟨(sg d).cps ++ (nm (e :: l)).cps⟩
        have z : (Str.ofString "").cps = #[] := by decide +kernel
        rw [z, Array.append_empty]
  exact go l
def spNameNumber : Sp := fun vs H Q _ => ∃ l : List Nat, vs = [.str (nm l)] ∧ (∀ d ∈ l, d < 26) ∧ Q (.int (num l)) H
def spIsName (K : PySem.W.Frag) : Sp := fun vs H Q _ => ∃ x : V, vs = [x] ∧ ((∃ z : Str, x = .str z ∧ z.length ≤ 100000 ∧ ∀ G, Same H G → Q (.bl (isNm z)) G) ∨ (∃ t : String, TyX K H x (.type t) ∧ kitB t "str" = some false ∧ Q (.bl false) H))
def spNameOf : Sp := fun vs H Q _ => ∃ l : List Nat, vs = [.int (num l)] ∧ Gd l ∧ ∀ G, Same H G → Q (.str (nm l)) G
def spLWholeName : Sp := fun vs H Q _ => ∃ (p : Addr) (n : Int), vs = [.ref p] ∧ Box H p n ∧ n < 1000000 ∧ ∀ (l : List Nat) (G : Hp), Gd l → But p H G → Box G p (n + 5) → Q (.str (nm l)) G

end
section
variable {P : Program} {w : World} {K : PySem.W.Frag} {mg : Str → Option Value} {base : Heap}
theorem okNameNumber (T : Tx K mg) : FnOk P w K mg base CX0 1 (He.ga K "name_number") T.fdNameNumber ["name"] spNameNumber := by
  have B := T.B
  refine T.FNameNumber.ok scNameNumber (fun vs H Q E h => ?_) (fun cdv A outer s H vs Q E hr h => ?_)
  · obtain ⟨l, rfl, _⟩ := h
    rfl
  · obtain ⟨l, rfl, hl, q⟩ := h
    refine ⟨_, PSs.nox (pss_cons (ps_set (i := 1) scNameNumber.nd rfl (.inl rfl) pe_int)
        (pss_cons (ps_for PassesOwn.never rfl (pi_str (pv 0)) (pg_name (i := 2) scNameNumber.nd rfl (Or.inl rfl))
        (pss_one (ps_set (i := 1) scNameNumber.nd rfl (.inl rfl) (pe_op op_add (pe_op op_add (pe_op op_mul (pv 1) (pe_glob (v := .int 27) (by rfl) T.c_BASE.choose_spec ⟨_, rfl⟩)) (pe_m1 PySem.F.slot_str_index PySem.F.type_str_index mt_sindex (pe_glob (v := .str "abcdefghijklmnopqrstuvwxyz") (by rfl) T.c_LETTERS.choose_spec ⟨_, rfl⟩) (pv 2))) pe_int))))
        (pss_one (ps_ret (pv 1))))), ?_⟩
    refine ⟨_, rfl, _, rfl, for_it walk_str (fun i σ G => G = H ∧ ∃ x, σ = [some (.str (nm l)), some (.int (num (l.take i))), x]) ⟨rfl, _, rfl⟩ (fun _ _ _ _ _ => trivial) ?_ ?_⟩
    · rintro i v σ G G1 hi ⟨rfl, x, rfl⟩ ⟨rfl, c, hc, rfl⟩
      obtain ⟨d, hd, rfl⟩ := nm_at hc
      have d26 := hl d (List.mem_of_getElem? hd)
      refine ⟨_, rfl, _, _, rfl, rfl, .inr ⟨by decide, by decide⟩, ⟨_, rfl⟩, _, rfl, LT, sg d, d, [], rfl, rfl, occ_at d d26, _, _, rfl, rfl, _, _, rfl, rfl, ?_⟩
      exact ⟨rfl, _, by rw [num_take hd]; rfl⟩
    · rintro σ G ⟨rfl, x, rfl⟩
      refine ⟨_, rfl, ?_⟩
      rw [nm_size, List.take_length]
      exact q
theorem okLNameNumber (T : Tx K mg) : FnOk P w K mg base CX0 1 (He.ga K "_law_name_number") T.fdLNameNumber ["_law_letters"] spNameNumber := by
  have B := T.B
  refine T.FLNameNumber.ok scLNameNumber (fun vs H Q E h => ?_) (fun cdv A outer s H vs Q E hr h => ?_)
  · obtain ⟨l, rfl, _⟩ := h
    rfl
  · obtain ⟨l, rfl, hl, q⟩ := h
    refine ⟨_, PSs.nox (pss_cons (ps_set (i := 1) scLNameNumber.nd rfl (.inl rfl) pe_int)
        (pss_cons (ps_for PassesOwn.never rfl (pi_str (pv 0)) (pg_name (i := 2) scLNameNumber.nd rfl (Or.inl rfl))
        (pss_one (ps_set (i := 1) scLNameNumber.nd rfl (.inl rfl) (pe_op op_add (pe_op op_add (pe_op op_mul (pv 1) pe_int) (pe_m1 PySem.F.slot_str_index PySem.F.type_str_index mt_sindex pe_str (pv 2))) pe_int))))
        (pss_one (ps_ret (pv 1))))), ?_⟩
    refine ⟨_, rfl, _, rfl, for_it walk_str (fun i σ G => G = H ∧ ∃ x, σ = [some (.str (nm l)), some (.int (num (l.take i))), x]) ⟨rfl, _, rfl⟩ (fun _ _ _ _ _ => trivial) ?_ ?_⟩
    · rintro i v σ G G1 hi ⟨rfl, x, rfl⟩ ⟨rfl, c, hc, rfl⟩
      obtain ⟨d, hd, rfl⟩ := nm_at hc
      have d26 := hl d (List.mem_of_getElem? hd)
      refine ⟨_, rfl, _, _, rfl, rfl, .inr ⟨by decide, by decide⟩, ⟨_, rfl⟩, _, rfl, LT, sg d, d, [], rfl, rfl, occ_at d d26, _, _, rfl, rfl, _, _, rfl, rfl, ?_⟩
      exact ⟨rfl, _, by rw [num_take hd]; rfl⟩
    · rintro σ G ⟨rfl, x, rfl⟩
      refine ⟨_, rfl, ?_⟩
      rw [nm_size, List.take_length]
      exact q
theorem okIsName (T : Tx K mg) : FnOk P w K mg base CX0 1 (He.ga K "is_name") T.fdIsName ["thing"] (spIsName K) := by
  have B := T.B
  refine T.FIsName.ok scIsName (fun vs H Q E h => ?_) (fun cdv A outer s H vs Q E hr h => ?_)
  · obtain ⟨x, rfl, _⟩ := h
    rfl
  · obtain ⟨x, rfl, hx⟩ := h
    refine ⟨_, PSs.nox (pss_cons (ps_if (PW.pt (pw_or (pt_not (pt_val (pe_callB call_isi (by rfl) B.b_isinstance boot_isinstance (pa_cons (pv 0) (pa_cons (pe_bltn (v := .ty "str") (by rfl) B.b_str PyProof.Rows.boot_str rfl) pa_nil))))) (pw_or1 (pt_not (pt_chain op_le op_le pe_int (pe_callB call_len_str (by rfl) B.b_len PySem.boot_len (pa_cons (pv 0) pa_nil)) (pe_glob (v := .int 4) (by rfl) T.c_LONGEST.choose_spec ⟨_, rfl⟩)))))) (pss_one (ps_ret pe_bl)) pss_nil)
        (pss_one (ps_ret (pe_callB (cr_all rfl) (by rfl) B.b_all boot_all (pa_cons (pe_lc (own := [("letter", 1)]) (g := gName 1) (tt := tYes) (by rfl) scIsName.nd (pi_str (pv 0)) (blkOk_by (own := [("letter", 1)]) (N := ["thing", "letter"]) (sc := defScope sIsName) (by decide +kernel)) (fun _ _ _ _ _ => by exact (pg_name (i := 1) scIsName.nd rfl (Or.inl rfl))) (fun _ _ _ _ _ => pts_nil) (fun _ _ _ _ _ => (pe_cmpR op_in_sign (pv 1) (pe_glob (v := .str "abcdefghijklmnopqrstuvwxyz") (by rfl) T.c_LETTERS.choose_spec ⟨_, rfl⟩) (by rfl)))) pa_nil))))), ?_⟩
    rcases hx with ⟨z, rfl, hz, q⟩ | ⟨t, ht, hk, q⟩
    · refine ⟨_, rfl, _, _, _, _, _, rfl, .ty _, .base (.str z), kit_ty (r := true) (by decide +kernel), _, rfl, iteF ?_⟩
      have hz2 : z.length ≤ sizeLine := Nat.le_of_lt (small6 (n := z.length) (by omega))
      refine ⟨_, rfl, _, rfl, hz2, _, _, rfl, rfl, _, rfl, ite2 (fun e1 => ?_) (fun e1 => ?_)⟩
      · have l1 : (1 : Int) ≤ z.length := of_decide_eq_true e1
        refine ⟨_, _, rfl, rfl, _, rfl, ?_⟩
        by_cases l2 : (z.length : Int) ≤ 4
        · rw [decide_eq_true l2]
          refine iteF ?_
          refine ⟨_, rfl, _, rfl, fun D hD => lc_it walk_str (fun i G => Same H G ∧ G D = some (.lst ((z.cps.toList.take i).map fun c => V.bl (decide (c ∈ LT.cps.toList))))) ⟨same_new hD, upd_same⟩ (fun _ _ _ _ => trivial) ?_ ?_⟩
          · rintro i v G G1 hi ⟨sG, hG⟩ ⟨rfl, c, hc, rfl⟩
            refine ⟨rfl, ?_⟩
            unfold tYes
            refine iteT ?_
            refine ⟨_, rfl, c, _, rfl, rfl, _, hG, ?_, ?_, ?_⟩
            · rw [List.length_map, List.length_take]
              have : z.cps.toList.length = z.length := by simp [Str.length]
              exact small6 (by omega)
            · intro b o e
              have hb : b ≠ D := ne_of_none e hD
              rw [upd_ne hb]
              exact sG _ _ e
            · have hc2 : z.cps.toList[i]? = some c := by simpa using hc
              rw [upd_same, List.take_add_one, hc2, List.map_append]
              rfl
          · rintro G ⟨sG, hG⟩
            have et : z.cps.toList.take z.cps.size = z.cps.toList := List.take_of_length_le (by simp)
            rw [et] at hG
            have eb : (z.cps.toList.map fun c => V.bl (decide (c ∈ LT.cps.toList))) = (z.cps.toList.map fun c => decide (c ∈ LT.cps.toList)).map V.bl := by
              rw [List.map_map]
              rfl
            rw [eb] at hG
            refine ⟨D, _, rfl, .inl (.inl hG), ?_⟩
            have q2 := q G sG
            have en : isNm z = (z.cps.toList.map fun c => decide (c ∈ LT.cps.toList)).all id := by
              unfold isNm
              rw [decide_eq_true (show 1 ≤ z.length by omega), decide_eq_true (show z.length ≤ 4 by omega), List.all_map]
              rfl
            rw [en] at q2
            exact q2
        · rw [decide_eq_false l2]
          refine iteT ?_
          have en : isNm z = false := by
            unfold isNm
            rw [decide_eq_false (show ¬ z.length ≤ 4 by omega)]
            cases decide (1 ≤ z.length) <;> rfl
          rw [en] at q
          exact q H (Same.refl _)
      · have l1 : ¬ (1 : Int) ≤ z.length := fun z => e1 (decide_eq_true z)
        have en : isNm z = false := by
          unfold isNm
          rw [decide_eq_false (show ¬ 1 ≤ z.length by omega)]
          rfl
        rw [en] at q
        exact ⟨_, rfl, iteT (q H (Same.refl _))⟩
    · refine ⟨_, rfl, _, _, _, _, _, rfl, .ty _, ht, kit_ty (r := false) hk, _, rfl, iteT (iteT ?_)⟩
      exact q

end
section
variable {P : Program} {w : World} {K : PySem.W.Frag} {mg : Str → Option Value} {base : Heap}
theorem num_split {p : List Nat} {d : Nat} (h : d < 26) : num (p ++ [d]) / 27 = num p ∧ num (p ++ [d]) % 27 = d + 1 := by
  rw [num_snoc]
  omega
theorem nm_ne {l : List Nat} (h : l ≠ []) : nm l ≠ Str.ofString "" := fun z => by
  have e : (nm l).length = (Str.ofString "").length := by rw [z]
  rw [nm_len] at e
  have e2 : (Str.ofString "").length = 0 := by decide +kernel
  rw [e2] at e
  exact h (List.eq_nil_of_length_eq_zero e)
theorem okNameOf (T : Tx K mg) : FnOk P w K mg base CX0 1 (He.ga K "name_of") T.fdNameOf ["number"] spNameOf := by
  have B := T.B
  refine T.FNameOf.ok scNameOf (fun vs H Q E h => ?_) (fun cdv A outer s H vs Q E hr h => ?_)
  · obtain ⟨l, rfl, _⟩ := h
    rfl
  · obtain ⟨l, rfl, hg, q⟩ := h
    refine ⟨_, PSs.nox (pss_cons (ps_set (i := 1) scNameOf.nd rfl (.inl rfl) pe_str)
        (pss_cons (ps_set (i := 2) scNameOf.nd rfl (.inl rfl) (pv 0))
        (pss_cons (ps_while PassesOwn.never (PW.pt (pw_and (pt_cmpR op_gt (pv 2) pe_int (nomark _)) (pw_and1 (pt_cmpR op_lt (pe_callB call_len_str (by rfl) B.b_len PySem.boot_len (pa_cons (pv 1) pa_nil)) (pe_glob (v := .int 4) (by rfl) T.c_LONGEST.choose_spec ⟨_, rfl⟩) (nomark _)))))
        (pss_cons (ps_asg (pe_callB call_divmod (by rfl) B.b_divmod (by decide +kernel) (pa_cons (pv 2) (pa_cons (pe_glob (v := .int 27) (by rfl) T.c_BASE.choose_spec ⟨_, rfl⟩) pa_nil))) (pg_tup rfl (pgs_cons (pg_name (i := 2) scNameOf.nd rfl (Or.inl rfl)) (pgs_cons (pg_name (i := 3) scNameOf.nd rfl (Or.inl rfl)) pgs_nil))))
        (pss_cons (ps_if (pt_cmpR op_eq (pv 3) pe_int (nomark _)) (pss_one ps_never) pss_nil)
        (pss_one (ps_set (i := 1) scNameOf.nd rfl (.inl rfl) (pe_op op_add_str (pe_ix ix_str (pe_glob (v := .str "abcdefghijklmnopqrstuvwxyz") (by rfl) T.c_LETTERS.choose_spec ⟨_, rfl⟩) (pe_op op_sub (pv 3) pe_int) (fun _ _ => rfl)) (pv 1)))))))
        (pss_cons (ps_if (PW.pt (pw_or (pt_cmpR op_ne (pv 2) pe_int (nomark _)) (pw_or1 (pt_cmpR op_eq (pv 1) pe_str (nomark _))))) (pss_one ps_never) pss_nil)
        (pss_one (ps_ret (pv 1))))))), ?_⟩
    refine ⟨_, rfl, ?_⟩
    refine while_by (fun σ G => Same H G ∧ ∃ (pre suf : List Nat) (x : Option V), l = pre ++ suf ∧ σ = [some (.int (num l)), some (.str (nm suf)), some (.int (num pre)), x])
      (fun σ _ => match σ with | [_, _, some (.int r), _] => r.toNat | _ => 0) ⟨Same.refl _, l, [], none, by simp, rfl⟩ ?_ ?_
    · rintro σ G ⟨sG, pre, suf, x, el, rfl⟩
      refine ⟨_, rfl, _, _, rfl, rfl, _, rfl, ite2 (fun e => ?_) (fun e => ?_)⟩
      · have hp : 0 < num pre := of_decide_eq_true e
        have hpre : pre ≠ [] := fun z => by rw [z, num_nil] at hp; exact absurd hp (by decide)
        obtain ⟨p, d, rfl⟩ : ∃ p d, pre = p ++ [d] := ⟨_, _, (List.dropLast_concat_getLast hpre).symm⟩
        have hlen : suf.length < 4 := by
          have := hg.hi
          rw [el] at this
          simp at this
          omega
        have d26 : d < 26 := hg.lt d (by rw [el]; simp)
        obtain ⟨e1, e2⟩ := num_split (p := p) d26
        refine ⟨_, rfl, _, rfl, by rw [nm_len]; exact Nat.le_of_lt (small6 (by omega)), _, _, rfl, rfl, _, rfl, ?_⟩
        rw [nm_len, decide_eq_true (show (suf.length : Int) < 4 by omega)]
        refine iteT ?_
        refine ⟨_, rfl, _, _, rfl, ⟨by decide, by decide⟩, fun T hT => ?_⟩
        rw [e1, e2] at *
        refine ⟨T, _, rfl, .inl (.inl upd_same), rfl, _, _, rfl, _, _, rfl, rfl, ?_⟩
        refine ⟨_, rfl, rfl, _, rfl, ?_⟩
        have ne0 : decide (V.int ((d : Int) + 1) = V.int 0) = false := decide_eq_false fun z => by
          have := V.int.inj z
          omega
        rw [ne0]
        refine iteF ?_
        have ea : (d : Int) + 1 - 1 = (d : Int) := by omega
        refine ⟨_, rfl, _, _, rfl, rfl, LT, _, 97 + d, rfl, rfl, by rw [lt_len]; exact Nat.le_of_lt (small6 (by decide)), by rw [ea]; exact atI_nat (lt_at d d26), _, rfl, _, _, rfl, rfl, ?_, ?_⟩
        · rw [nm_len]
          show 1 + suf.length ≤ sizeLine
          exact Nat.le_of_lt (small6 (by omega))
        · refine ⟨⟨sG.trans (same_new hT), p, d :: suf, some (.int ((d : Int) + 1)), by rw [el]; simp, ?_⟩, ?_⟩
          · rw [← nm_cons]
            rfl
          · show (num p).toNat < (num (p ++ [d])).toNat
            have := num_nonneg p
            rw [num_snoc]
            omega
      · have hp : ¬ 0 < num pre := fun z => e (decide_eq_true z)
        have hpre : pre = [] := by
          cases pre with
          | nil => rfl
          | cons a b => exact absurd (num_pos (List.cons_ne_nil a b)) hp
        subst hpre
        refine iteF ?_
        have es : suf = l := by rw [el]; rfl
        subst es
        have hne : suf ≠ [] := fun z => by have := hg.lo; rw [z] at this; cases this
        refine ⟨_, rfl, rfl, _, rfl, iteF ?_⟩
        refine ⟨_, rfl, rfl, _, rfl, ?_⟩
        rw [decide_eq_false (show ¬ V.str (nm suf) = V.str (Str.ofString "") from fun z => nm_ne hne (V.str.inj z))]
        refine iteF ?_
        exact ⟨_, rfl, q G sG⟩
    · intro σ G Q1 Q2 hq h
      obtain ⟨v, e1, i, j, e2, e3, k, e4, z⟩ := h
      refine ⟨v, e1, i, j, e2, e3, k, e4, ?_⟩
      cases k with
      | false => exact iteF (hq _ _ (by simpa using z))
      | true =>
        refine iteT ?_
        have z2 := z
        rw [if_pos rfl] at z2
        obtain ⟨w, f1, zz, f2, f3, i2, j2, f4, f5, k2, f6, y⟩ := z2
        exact ⟨w, f1, zz, f2, f3, i2, j2, f4, f5, k2, f6, hq _ _ y⟩

end
section
variable {P : Program} {w : World} {K : PySem.W.Frag} {mg : Str → Option Value} {base : Heap}
theorem okLWholeName (T : Tx K mg) : FnOk P w K mg base CX0 2 (He.ga K "_law_whole_name") T.fdLWholeName ["_law_box_here"] spLWholeName := by
  have B := T.B
  have GLTake : FnOk P w K mg base CX0 1 (He.ga K "_law_take") T.fdLTake ["_law_box_here", "_law_size"] spLTake := okLTake T
  have bLTake := T.bLTake
  refine T.FLWholeName.ok scLWholeName (fun vs H Q E h => ?_) (fun cdv A outer s H vs Q E hr h => ?_)
  · obtain ⟨p, n, rfl, _⟩ := h
    rfl
  · obtain ⟨p, n, rfl, hB, hn, q⟩ := h
    refine ⟨_, PSs.nox (pss_cons (ps_set (i := 1) scLWholeName.nd rfl (.inr rfl) pe_str)
        (pss_one (ps_ret (pe_join pe_str (pe_lc (own := [("_law_k", 2)]) (g := gName 2) (tt := tYes) (by rfl) scLWholeName.nd (pi_range1 (by rfl) B.b_range (pa_cons (pe_op op_add pe_int (pe_call GLTake (hr.mono (by decide)) (by rfl) T.gLTake T.FLTake.kp bLTake .nil pass0 (pa_cons (pv 0) (pa_cons pe_int pa_nil)))) pa_nil)) (blkOk_by (own := [("_law_k", 2)]) (N := ["_law_box_here", "_law_letters", "_law_k"]) (sc := defScope sLWholeName) (by decide +kernel)) (fun _ _ _ _ _ => by exact (pg_name (i := 2) scLWholeName.nd rfl (Or.inl rfl))) (fun _ _ _ _ _ => pts_nil) (fun _ _ _ _ _ => (pe_ix ix_str (pv 1) (pe_call GLTake (hr.mono (by decide)) (by rfl) T.gLTake T.FLTake.kp bLTake .nil pass0 (pa_cons (pv 0) (pa_cons pe_int pa_nil))) (fun _ _ => rfl)))))))), ?_⟩
    refine ⟨⟨_, rfl⟩, _, rfl, p, 4, n, rfl, hB, by omega, by decide, by decide, fun r G b1 hB1 r0 r1 => ?_⟩
    refine ⟨_, _, rfl, rfl, _, rfl, (by have : -4611686018427387904 ≤ 1 + r := by omega
                                        exact this), (by have : 1 + r < 4611686018427387904 := by omega
                                                         exact this), fun D hD => ?_⟩
    have nD := hB1.ne hD
    refine lc_range (lo := 0) (n := (1 + r).toNat) (fun i G1 => ∃ l : List Nat, l.length = i ∧ (∀ d ∈ l, d < 26) ∧ But p G G1 ∧ Box G1 p (n + 1 + i) ∧ G1 D = some (.lst ((l.map sg).map V.str))) ⟨[], rfl, (fun _ h => nomatch h), But.of (same_new hD), (hB1.same (same_new hD)).mono (by omega), upd_same⟩ ?_ ?_
    · rintro i G1 hi ⟨l, el, hl, bG, hB2, hDG⟩
      refine ⟨rfl, ?_⟩
      unfold tYes
      refine iteT ?_
      refine ⟨_, rfl, _, rfl, p, 26, n + 1 + i, rfl, hB2, by omega, by decide, by decide, fun d G2 b2 hB3 d0 d1 => ?_⟩
      obtain ⟨k, rfl⟩ : ∃ k : Nat, d = (k : Int) := ⟨d.toNat, by omega⟩
      have hD2 := b2 _ _ hDG nD
      refine ⟨LT, _, 97 + k, rfl, rfl, by rw [lt_len]; exact Nat.le_of_lt (small6 (by decide)), atI_nat (lt_at k (by omega)), _, hD2, ?_, ?_⟩
      · rw [List.length_map, List.length_map, el]
        exact small6 (by omega)
      · refine ⟨l ++ [k], by rw [List.length_append, el]; rfl, fun d hd => ?_, fun b o e hb => ?_, ?_, ?_⟩
        · rcases List.mem_append.mp hd with h | h
          · exact hl d h
          · have := List.mem_singleton.mp h
            omega
        · have hbD : b ≠ D := ne_of_none e hD
          rw [upd_ne hbD]
          exact b2 _ _ (bG _ _ e hb) hb
        · obtain ⟨x, y, z, e, h1, h2, h3, h4, h5⟩ := hB3
          exact ⟨x, y, z, by rw [upd_ne nD.symm]; exact e, h1, h2, h3, h4, by omega⟩
        · rw [upd_same, List.map_append, List.map_append]
          rfl
    · rintro G1 ⟨l, el, hl, bG, hB2, hDG⟩
      refine ⟨_, D, l.map sg, rfl, rfl, .inl (SqL.of hDG), ?_, ?_⟩
      · have e1 : (List.map (fun x : Str => x.length) (l.map sg)).sum = l.length := by
          rw [List.map_map]
          have : ∀ l : List Nat, (l.map ((fun x : Str => x.length) ∘ sg)).sum = l.length := by
            intro l
            induction l with
            | nil => rfl
            | cons d l ih =>
              rw [List.map_cons, List.sum_cons, ih, List.length_cons]
              show 1 + l.length = l.length + 1
              omega
          exact this l
        have e2 : (Str.ofString "").length = 0 := by decide +kernel
        show (List.map (fun x : Str => x.length) (l.map sg)).sum + (l.map sg).length * (Str.ofString "").length ≤ 16777216
        rw [e1, e2]
        omega
      · show Q (V.str (Txt.join (Str.ofString "") (l.map sg))) G1
        rw [join_sg]
        exact q l G1 ⟨hl, by omega, by omega⟩ (b1.trans bG) (hB2.mono (by omega))

end
section
variable {P : Program} {w : World} {K : PySem.W.Frag} {mg : Str → Option Value} {base : Heap}
theorem kb_isName (T : Tx K mg) : KBn K T.fdIsName ["thing"] 0 ["thing"] (fun us ws => ws) (fun vs zs => zs) :=
  kw_plain T.FIsName 0 ["thing"] (fun us ws => ws) (fun a b => b) fun kV doc pm an cdv ct us ws h1 h2 => match us, ws, h1, h2 with
    | [], [w], _, _ => rfl
theorem kb_nameNumber (T : Tx K mg) : KBn K T.fdNameNumber ["name"] 0 ["name"] (fun us ws => ws) (fun vs zs => zs) :=
  kw_plain T.FNameNumber 0 ["name"] (fun us ws => ws) (fun a b => b) fun kV doc pm an cdv ct us ws h1 h2 => match us, ws, h1, h2 with
    | [], [w], _, _ => rfl
theorem kb_nameOf (T : Tx K mg) : KBn K T.fdNameOf ["number"] 0 ["number"] (fun us ws => ws) (fun vs zs => zs) :=
  kw_plain T.FNameOf 0 ["number"] (fun us ws => ws) (fun a b => b) fun kV doc pm an cdv ct us ws h1 h2 => match us, ws, h1, h2 with
    | [], [w], _, _ => rfl
def spLRight : Sp := fun vs H Q _ => ∃ l : List Nat, vs = [.str (nm l)] ∧ Gd l ∧ ∀ G, Same H G → Q (.bl true) G
theorem okLRight (T : Tx K mg) : FnOk P w K mg base CX0 3 (He.ga K "_law_right") T.fdLRight ["_law_one"] spLRight := by
  have B := T.B
  have GLNameNumber : FnOk P w K mg base CX0 1 (He.ga K "_law_name_number") T.fdLNameNumber ["_law_letters"] spNameNumber := okLNameNumber T
  have bLNameNumber := T.bLNameNumber
  have GLSame : FnOk P w K mg base CX0 2 (He.ga K "_law_same") T.fdLSame ["_law_found", "_law_due"] (spLSame K 2) := okLSame T 2
  have bLSame := T.bLSame
  have GIsName : FnOk P w K mg base CX0 1 (He.ga K "is_name") T.fdIsName ["thing"] (spIsName K) := okIsName T
  have bIsName := T.bIsName
  have GNameOf : FnOk P w K mg base CX0 1 (He.ga K "name_of") T.fdNameOf ["number"] spNameOf := okNameOf T
  have bNameOf := T.bNameOf
  have GNameNumber : FnOk P w K mg base CX0 1 (He.ga K "name_number") T.fdNameNumber ["name"] spNameNumber := okNameNumber T
  have bNameNumber := T.bNameNumber
  have kIsName_thing := kb_isName T
  have kNameNumber_name := kb_nameNumber T
  have kNameOf_number := kb_nameOf T
  refine T.FLRight.ok scLRight (fun vs H Q E h => ?_) (fun cdv A outer s H vs Q E hr h => ?_)
  · obtain ⟨l, rfl, _⟩ := h
    rfl
  · obtain ⟨l, rfl, hg, q⟩ := h
    refine ⟨_, PSs.nox (pss_cons (ps_set (i := 1) scLRight.nd rfl (.inl rfl) (pe_call GLNameNumber (hr.mono (by decide)) (by rfl) T.gLNameNumber T.FLNameNumber.kp bLNameNumber .nil pass0 (pa_cons (pv 0) pa_nil)))
        (pss_cons (ps_if (PW.pt (pw_or (pt_cmpR op_notBl (pe_call GIsName (hr.mono (by decide)) (by rfl) T.gIsName T.FIsName.kp bIsName .nil pass0 (pa_cons (pv 0) pa_nil)) pe_bl (nomark _)) (pw_or1 (pt_cmpR op_notBl (pe_kwCall GIsName (hr.mono (by decide)) (by rfl) T.gIsName T.FIsName.kp kIsName_thing pass0 (pk_cons (pv 0) pk_nil)) pe_bl (nomark _))))) (pss_one (ps_ret pe_bl)) pss_nil)
        (pss_cons (ps_if (pt_not (pt_val (pe_call GLSame (hr.mono (by decide)) (by rfl) T.gLSame T.FLSame.kp bLSame .nil pass0 (pa_cons (pe_lst (pa_cons (pe_call GNameNumber (hr.mono (by decide)) (by rfl) T.gNameNumber T.FNameNumber.kp bNameNumber .nil pass0 (pa_cons (pv 0) pa_nil)) (pa_cons (pe_kwCall GNameNumber (hr.mono (by decide)) (by rfl) T.gNameNumber T.FNameNumber.kp kNameNumber_name pass0 (pk_cons (pv 0) pk_nil)) pa_nil))) (pa_cons (pe_lst (pa_cons (pv 1) (pa_cons (pv 1) pa_nil))) pa_nil))))) (pss_one (ps_ret pe_bl)) pss_nil)
        (pss_one (ps_ret (pe_call GLSame (hr.mono (by decide)) (by rfl) T.gLSame T.FLSame.kp bLSame .nil pass0 (pa_cons (pe_lst (pa_cons (pe_call GNameOf (hr.mono (by decide)) (by rfl) T.gNameOf T.FNameOf.kp bNameOf .nil pass0 (pa_cons (pv 1) pa_nil)) (pa_cons (pe_kwCall GNameOf (hr.mono (by decide)) (by rfl) T.gNameOf T.FNameOf.kp kNameOf_number pass0 (pk_cons (pe_call GNameNumber (hr.mono (by decide)) (by rfl) T.gNameNumber T.FNameNumber.kp bNameNumber .nil pass0 (pa_cons (pv 0) pa_nil)) pk_nil)) pa_nil))) (pa_cons (pe_lst (pa_cons (pv 0) (pa_cons (pv 0) pa_nil))) pa_nil)))))))), ?_⟩
    have hlen : (nm l).length ≤ 100000 := by rw [nm_len]; have := hg.hi; omega
    refine ⟨_, rfl, l, rfl, hg.lt, ?_⟩
    refine ⟨_, rfl, _, rfl, .inl ⟨_, rfl, hlen, fun G1 s1 => ⟨_, _, rfl, rfl, _, rfl, ?_⟩⟩⟩
    rw [isNm_nm hg]
    refine iteF ?_
    refine ⟨_, rfl, rfl, rfl, _, rfl, .inl ⟨_, rfl, hlen, fun G2 s2 => ⟨_, _, rfl, rfl, _, rfl, ?_⟩⟩⟩
    rw [isNm_nm hg]
    refine iteF ?_
    refine ⟨_, rfl, l, rfl, hg.lt, ?_⟩
    refine ⟨_, rfl, rfl, rfl, l, rfl, hg.lt, ?_⟩
    refine ⟨by show 2 ≤ sizeLine; decide, fun p1 h1 => ?_⟩
    refine ⟨_, rfl, _, rfl, by show 2 ≤ sizeLine; decide, fun p2 h2 => ?_⟩
    have w1 := same_new (o := .lst [.int (num l), .int (num l)]) h1
    have w2 := same_new (o := .lst [.int (num l), .int (num l)]) h2
    refine ⟨_, _, .list ([num l, num l].map PyData.int), rfl, .lst (SqL.of (w2 _ _ upd_same)) (dpa_ints [num l, num l]), .lst (SqL.of upd_same) (dpa_ints [num l, num l]), dep_il _, wid_il _ (by show 2 ≤ 1000; decide), fun G6 s6 => ⟨_, rfl, iteF ?_⟩⟩
    have sA : Same H G6 := s1.trans (s2.trans (w1.trans (w2.trans s6)))
    refine ⟨_, rfl, l, rfl, hg, fun G7 s7 => ?_⟩
    refine ⟨_, rfl, l, rfl, hg.lt, rfl, rfl, l, rfl, hg, fun G8 s8 => ?_⟩
    refine ⟨by show 2 ≤ sizeLine; decide, fun p3 h3 => ?_⟩
    refine ⟨_, rfl, _, rfl, by show 2 ≤ sizeLine; decide, fun p4 h4 => ?_⟩
    have w3 := same_new (o := .lst [.str (nm l), .str (nm l)]) h3
    have w4 := same_new (o := .lst [.str (nm l), .str (nm l)]) h4
    refine ⟨_, _, .list [.str (nm l), .str (nm l)], rfl, .lst (SqL.of (w4 _ _ upd_same)) (.cons (.str _) (.cons (.str _) .nil)), .lst (SqL.of upd_same) (.cons (.str _) (.cons (.str _) .nil)), (by show 1 < 2; decide), (by show 2 ≤ 1000000; decide), fun G9 s9 => ?_⟩
    exact q _ (sA.trans (s7.trans (s8.trans (w3.trans (w4.trans s9)))))
end
section
variable {P : Program} {w : World} {K : PySem.W.Frag} {mg : Str → Option Value} {base : Heap}
def nms : List (List Nat) := (List.range 26).map (fun d => [d]) ++ [[0, 0], [25, 25], [0, 0, 0], [25, 25, 25], [0, 0, 0, 0], [25, 25, 25, 25], [0, 25], [25, 0]]
theorem nms_gd : ∀ l ∈ nms, Gd l := by
  have h : nms.all (fun l => l.all (fun d => decide (d < 26)) && (decide (1 ≤ l.length) && decide (l.length ≤ 4))) = true := by decide +kernel
  intro l hl
  have h1 := List.all_eq_true.mp h l hl
  simp only [Bool.and_eq_true, List.all_eq_true, decide_eq_true_eq] at h1
  exact ⟨h1.1, h1.2.1, h1.2.2⟩
theorem nms_str : LT.cps.toList.map (fun c => (⟨#[c]⟩ : Str)) ++ [Str.ofString "aa", Str.ofString "zz", Str.ofString "aaa", Str.ofString "zzz", Str.ofString "aaaa", Str.ofString "zzzz", Str.ofString "az", Str.ofString "za"] = nms.map nm := by decide +kernel
theorem nms_v : LT.cps.toList.map (fun c => V.str ⟨#[c]⟩) ++ [V.str (Str.ofString "aa"), V.str (Str.ofString "zz"), V.str (Str.ofString "aaa"), V.str (Str.ofString "zzz"), V.str (Str.ofString "aaaa"), V.str (Str.ofString "zzzz"), V.str (Str.ofString "az"), V.str (Str.ofString "za")] = nms.map fun l => V.str (nm l) := by
  have h := congrArg (List.map V.str) nms_str
  rw [List.map_append, List.map_map, List.map_map] at h
  exact h
theorem nm_m : Str.ofString "m" = nm [12] := by decide +kernel
theorem okLaw (T : Tx K mg) : FnOk P w K mg base CX0 4 (He.ga K "law") T.fdLaw ["_law_script"] (spLaw K) := by
  have B := T.B
  have GLRight : FnOk P w K mg base CX0 3 (He.ga K "_law_right") T.fdLRight ["_law_one"] spLRight := okLRight T
  have bLRight := T.bLRight
  have GLBox : FnOk P w K mg base CX0 1 (He.ga K "_law_box") T.fdLBox ["_law_script", "_law_k"] (spLBox K) := okLBox T
  have bLBox := T.bLBox
  have GLWholeName : FnOk P w K mg base CX0 2 (He.ga K "_law_whole_name") T.fdLWholeName ["_law_box_here"] spLWholeName := okLWholeName T
  have bLWholeName := T.bLWholeName
  have GNameNumber : FnOk P w K mg base CX0 1 (He.ga K "name_number") T.fdNameNumber ["name"] spNameNumber := okNameNumber T
  have bNameNumber := T.bNameNumber
  refine T.FLaw.ok scLaw (fun vs H Q E h => ?_) (fun cdv A outer s H vs Q E hr h => ?_)
  · obtain ⟨a, ns, rfl, _⟩ := h
    rfl
  · obtain ⟨a, ns, rfl, hS, hlen, q⟩ := h
    refine ⟨_, PSs.nox (pss_cons (ps_for PassesOwn.never rfl (pi_list (pe_op op_cat (pe_callTy (call_listS rfl) (by rfl) B.b_list PyProof.Rows.boot_list (pa_cons pe_str pa_nil)) (pe_lst (pa_cons pe_str (pa_cons pe_str (pa_cons pe_str (pa_cons pe_str (pa_cons pe_str (pa_cons pe_str (pa_cons pe_str (pa_cons pe_str pa_nil))))))))))) (pg_name (i := 1) scLaw.nd rfl (Or.inl rfl))
        (pss_one (ps_if (pt_not (pt_val (pe_call GLRight (hr.mono (by decide)) (by rfl) T.gLRight T.FLRight.kp bLRight .nil pass0 (pa_cons (pv 1) pa_nil)))) (pss_one (ps_ret pe_bl)) pss_nil)))
        (pss_cons (ps_for PassesOwn.never rfl (pi_range1 (by rfl) B.b_range (pa_cons (pe_callB (call_max2 rfl) (by rfl) B.b_max boot_max (pa_cons pe_int (pa_cons (pe_callB (call_min2 rfl) (by rfl) B.b_min boot_min (pa_cons pe_int (pa_cons (pe_callB call_len_seq (by rfl) B.b_len PySem.boot_len (pa_cons (pv 0) pa_nil)) pa_nil))) pa_nil))) pa_nil)) (pg_name (i := 2) scLaw.nd rfl (Or.inl rfl))
        (pss_cons (ps_par (i := 3) (j := 4) (by rfl) scLaw.nd rfl rfl (by decide) rfl rfl (pa_cons (pe_call GLBox (hr.mono (by decide)) (by rfl) T.gLBox T.FLBox.kp bLBox .nil pass0 (pa_cons (pv 0) (pa_cons (pv 2) pa_nil))) (pa_cons pe_str pa_nil)) (by rfl))
        (pss_one (ps_for PassesOwn.never rfl (pi_range1 (by rfl) B.b_range (pa_cons pe_int pa_nil)) (pg_name (i := 5) scLaw.nd rfl (Or.inl rfl))
        (pss_cons (ps_set (i := 1) scLaw.nd rfl (.inl rfl) (pe_call GLWholeName (hr.mono (by decide)) (by rfl) T.gLWholeName T.FLWholeName.kp bLWholeName .nil pass0 (pa_cons (pv 3) pa_nil)))
        (pss_cons (ps_if (PW.pt (pw_or (pt_not (pt_val (pe_call GLRight (hr.mono (by decide)) (by rfl) T.gLRight T.FLRight.kp bLRight .nil pass0 (pa_cons (pv 1) pa_nil)))) (pw_or1 (pt_cmpR op_ne (pe_cmpR op_eq (pe_call GNameNumber (hr.mono (by decide)) (by rfl) T.gNameNumber T.FNameNumber.kp bNameNumber .nil pass0 (pa_cons (pv 1) pa_nil)) (pe_call GNameNumber (hr.mono (by decide)) (by rfl) T.gNameNumber T.FNameNumber.kp bNameNumber .nil pass0 (pa_cons (pv 4) pa_nil)) (nomark _)) (pe_cmpR op_eq (pv 1) (pv 4) (nomark _)) (nomark _))))) (pss_one (ps_ret pe_bl)) pss_nil)
        (pss_cons (ps_if (PW.pt (pw_and (pt_cmpR op_ne (pe_callB call_len_str (by rfl) B.b_len PySem.boot_len (pa_cons (pv 1) pa_nil)) (pe_callB call_len_str (by rfl) B.b_len PySem.boot_len (pa_cons (pv 4) pa_nil)) (nomark _)) (pw_and1 (pt_cmpR op_ne (pe_cmpR op_gt (pe_call GNameNumber (hr.mono (by decide)) (by rfl) T.gNameNumber T.FNameNumber.kp bNameNumber .nil pass0 (pa_cons (pv 1) pa_nil)) (pe_call GNameNumber (hr.mono (by decide)) (by rfl) T.gNameNumber T.FNameNumber.kp bNameNumber .nil pass0 (pa_cons (pv 4) pa_nil)) (nomark _)) (pe_cmpR op_gt (pe_callB call_len_str (by rfl) B.b_len PySem.boot_len (pa_cons (pv 1) pa_nil)) (pe_callB call_len_str (by rfl) B.b_len PySem.boot_len (pa_cons (pv 4) pa_nil)) (nomark _)) (nomark _))))) (pss_one (ps_ret pe_bl)) pss_nil)
        (pss_one (ps_set (i := 4) scLaw.nd rfl (.inl rfl) (pv 1))))))))))
        (pss_one (ps_ret pe_bl)))), ?_⟩
    have l26 : LT.length ≤ sizeLine := by rw [lt_len]; exact Nat.le_of_lt (small6 (by decide))
    refine ⟨LT, rfl, l26, fun l1 h1 => ?_⟩
    refine ⟨by show 8 ≤ sizeLine; decide, fun l2 h2 => ?_⟩
    have w1 := same_new (o := .lst (LT.cps.toList.map fun c => .str ⟨#[c]⟩)) h1
    refine ⟨l1, l2, _, _, rfl, rfl, same_new h2 _ _ upd_same, upd_same, ?_, fun l3 h3 => ?_⟩
    · have e : (LT.cps.toList.map fun c => V.str ⟨#[c]⟩).length = 26 := by
        rw [List.length_map]
        exact lt_len
      rw [e]
      exact Nat.le_of_lt (small6 (by decide))
    rw [nms_v] at *
    have w2 := same_new (o := .lst [V.str (Str.ofString "aa"), V.str (Str.ofString "zz"), V.str (Str.ofString "aaa"), V.str (Str.ofString "zzz"), V.str (Str.ofString "aaaa"), V.str (Str.ofString "zzzz"), V.str (Str.ofString "az"), V.str (Str.ofString "za")]) h2
    have w3 := same_new (o := .lst (nms.map fun l => V.str (nm l))) h3
    refine ⟨l3, rfl, ⟨_, SqL.of upd_same⟩, for_it (walk_list (xs := nms.map fun l => V.str (nm l))) (fun i σ G => Same H G ∧ SqL K G l3 (nms.map fun l => V.str (nm l)) ∧ ∃ x1 x2 x3 x4 x5, σ = [some (.ref a), x1, x2, x3, x4, x5]) ⟨w1.trans (w2.trans w3), SqL.of upd_same, _, _, _, _, _, rfl⟩ (fun _ _ _ _ h => h.2.1) ?_ ?_⟩
    · rintro i v σ G G1 hi ⟨sG, hL, x1, x2, x3, x4, x5, rfl⟩ ⟨rfl, hv⟩
      rw [List.getElem?_map] at hv
      cases e : nms[i]? with
      | none => rw [e] at hv; cases hv
      | some l =>
        rw [e] at hv
        have ev : V.str (nm l) = v := Option.some.inj hv
        subst ev
        refine ⟨_, rfl, l, rfl, nms_gd l (List.mem_of_getElem? e), fun G2 s2 => ⟨_, rfl, iteF ?_⟩⟩
        exact ⟨sG.trans s2, s2.seq hL, _, _, _, _, _, rfl⟩
    rintro σ G0 ⟨sG0, _, x1, x2, x3, x4, x5, rfl⟩
    refine ⟨_, rfl, a, _, rfl, .inl (sG0.seq hS), _, _, rfl, _, _, rfl, _, rfl, ?_⟩
    have hR : ∃ N : Int, (if (if ((ns.map V.int).length : Int) < 6 then ((ns.map V.int).length : Int) else 6) > 1 then (if ((ns.map V.int).length : Int) < 6 then ((ns.map V.int).length : Int) else 6) else 1) = N ∧ 0 ≤ N ∧ N ≤ 6 := ⟨_, rfl, by split <;> split <;> omega, by split <;> split <;> omega⟩
    obtain ⟨N, eN, hN0, hN3⟩ := hR
    rw [eN]
    refine ⟨(by have : -4611686018427387904 ≤ N := by omega
                exact this), (by have : N < 4611686018427387904 := by omega
                                 exact this), ?_⟩
    refine for_range (lo := 0) (n := N.toNat) (fun i σ G => Same H G ∧ ∃ x1 x2 x3 x4 x5, σ = [some (.ref a), x1, x2, x3, x4, x5]) ⟨sG0, _, _, _, _, _, rfl⟩ ?_ ?_
    · rintro i σ G hi ⟨sG, x1, x2, x3, x4, x5, rfl⟩
      have e0i : (0 : Int) + (i : Int) = ((i : Nat) : Int) := by omega
      rw [e0i]
      refine ⟨_, rfl, _, rfl, a, ns, i, rfl, sG.seq hS, by omega, fun p x y hp hx hy hy2 => ?_⟩
      rw [nm_m]
      refine ⟨_, _, rfl, ?_⟩
      have box0 : Box (upd G p (.lst [.int x, .int y, .int 0])) p 0 := ⟨x, y, 0, upd_same, hx, hy, hy2, Int.le_refl _, Int.le_refl _⟩
      have gm : Gd [12] := ⟨by simp, by decide, by decide⟩
      refine ⟨12, rfl, by decide, by decide, for_range (lo := 0) (n := 12) (fun j σ G1 => But p (upd G p (.lst [.int x, .int y, .int 0])) G1 ∧ Box G1 p (10 * j) ∧ ∃ (ah : List Nat) (y1 y5 : Option V), Gd ah ∧ σ = [some (.ref a), y1, some (.int i), some (.ref p), some (.str (nm ah)), y5]) ⟨But.refl _ _, box0.mono (by omega), [12], _, _, gm, rfl⟩ ?_ ?_⟩
      · rintro j σ G1 hj ⟨bG, hB, ah, y1, y5, ga, rfl⟩
        refine ⟨_, rfl, p, 10 * j, rfl, hB, by omega, fun l G2 gl b2 hB2 => ?_⟩
        have ela : (nm l).length ≤ sizeLine := by rw [nm_len]; exact Nat.le_of_lt (small6 (by have := gl.hi; omega))
        have eah : (nm ah).length ≤ sizeLine := by rw [nm_len]; exact Nat.le_of_lt (small6 (by have := ga.hi; omega))
        refine ⟨_, rfl, l, rfl, gl, fun G3 s3 => ⟨_, rfl, iteF ?_⟩⟩
        refine ⟨_, rfl, l, rfl, gl.lt, _, rfl, ah, rfl, ga.lt, rfl, _, rfl, _, rfl, rfl, rfl, _, rfl, ?_⟩
        have ee : (V.bl (decide (V.int (num l) = V.int (num ah)))) = V.bl (decide (V.str (nm l) = V.str (nm ah))) := by
          congr 1
          by_cases hz : l = ah
          · subst hz
            rw [decide_eq_true rfl, decide_eq_true rfl]
          · rw [decide_eq_false fun y => hz (num_inj l ah gl.lt ga.lt (V.int.inj y)), decide_eq_false fun y => hz (nm_inj (V.str.inj y))]
        rw [decide_eq_true ee]
        refine iteF ?_
        refine ⟨_, rfl, _, rfl, ela, _, rfl, _, rfl, eah, rfl, _, rfl, ift (fun b G4 => b = false ∧ G4 = G3) (fun e C k => ?_) (fun e => ⟨rfl, rfl⟩) ?_⟩
        · have hne : l.length ≠ ah.length := fun z => by
            rw [nm_len, nm_len, z, decide_eq_true rfl] at e
            cases e
          refine ⟨_, rfl, l, rfl, gl.lt, _, rfl, ah, rfl, ga.lt, _, _, rfl, rfl, _, rfl, _, rfl, ela, _, rfl, _, rfl, eah, _, _, rfl, rfl, rfl, _, rfl, ?_⟩
          have eo : V.bl (decide (num ah < num l)) = V.bl (decide (((nm ah).length : Int) < ((nm l).length : Int))) := by
            congr 1
            have := num_ord gl ga hne
            rw [nm_len, nm_len]
            by_cases hz : num ah < num l
            · rw [decide_eq_true hz, decide_eq_true (by have := this.mp hz; omega)]
            · rw [decide_eq_false hz, decide_eq_false fun y => hz (this.mpr (by omega))]
          rw [decide_eq_true eo]
          exact k _ _ ⟨rfl, rfl⟩
        rintro b G4 ⟨rfl, rfl⟩
        refine iteF ?_
        refine ⟨_, rfl, ?_⟩
        exact ⟨bG.trans (b2.trans (But.of s3)), (hB2.same s3).mono (by omega), l, _, _, gl, rfl⟩
      · rintro σ G1 ⟨bG, _, ah, y1, y5, _, rfl⟩
        exact ⟨same_but (G1 := G) sG hp bG, _, _, _, _, _, rfl⟩
    · rintro σ G ⟨sG, _⟩
      exact q G
end
section
variable {P : Program} {w : World} {K : PySem.W.Frag} {mg : Str → Option Value} {base : Heap}
def ddIsName : He.DefD := ⟨("is_name", none), "is_name", "is_name", defArgs sIsName, defBody sIsName, defScope sIsName, [], []⟩
def ddNameNumber : He.DefD := ⟨("name_number", none), "name_number", "name_number", defArgs sNameNumber, defBody sNameNumber, defScope sNameNumber, [], []⟩
def ddNameOf : He.DefD := ⟨("name_of", none), "name_of", "name_of", defArgs sNameOf, defBody sNameOf, defScope sNameOf, [], []⟩
def ddLBox : He.DefD := ⟨("_law_box", none), "_law_box", "_law_box", defArgs sLBox, defBody sLBox, defScope sLBox, [], []⟩
def ddLTake : He.DefD := ⟨("_law_take", none), "_law_take", "_law_take", defArgs sLTake, defBody sLTake, defScope sLTake, [], []⟩
def ddLSame : He.DefD := ⟨("_law_same", none), "_law_same", "_law_same", defArgs sLSame, defBody sLSame, defScope sLSame, [], []⟩
def ddLNameNumber : He.DefD := ⟨("_law_name_number", none), "_law_name_number", "_law_name_number", defArgs sLNameNumber, defBody sLNameNumber, defScope sLNameNumber, [], []⟩
def ddLWholeName : He.DefD := ⟨("_law_whole_name", none), "_law_whole_name", "_law_whole_name", defArgs sLWholeName, defBody sLWholeName, defScope sLWholeName, [], []⟩
def ddLRight : He.DefD := ⟨("_law_right", none), "_law_right", "_law_right", defArgs sLRight, defBody sLRight, defScope sLRight, [], []⟩
def ddLaw : He.DefD := ⟨("law", none), "law", "law", defArgs sLaw, defBody sLaw, defScope sLaw, [], []⟩
def hfn : List He.DefD := [ddIsName, ddNameNumber, ddNameOf, ddLBox, ddLTake, ddLSame, ddLNameNumber, ddLWholeName, ddLRight, ddLaw]
def hfa : List He.Fa := [.free "len", .free "abs", .free "int", .free "isinstance", .free "list", .free "tuple", .free "str", .free "bool", .free "all", .free "zip", .free "range", .free "max", .free "min", .free "enumerate", .free "divmod", .glo "is_name", .glo "name_number", .glo "name_of", .glo "_law_box", .glo "_law_take", .glo "_law_same", .glo "_law_name_number", .glo "_law_whole_name", .glo "_law_right", .glo "law", .str "LETTERS" "abcdefghijklmnopqrstuvwxyz", .int "LONGEST" 4, .int "BASE" 27]
abbrev hR : PySem.W.OpenRow := PySem.W.OpenLaw.row PySem.Challenge.rw_startlog_k02_names_by_numbers
abbrev hk : PySem.W.Hook := He.hookD 5 hfa hfn
def hob (s : PySem.W.SharedT) : He.AlD := He.obsDG 5 hfa hfn (HandSHeadRun.getT s)
theorem hob_eq (s : PySem.W.SharedT) : hob s = hk.obs s.abs := He.obsDG_eq (HandSHeadRun.getT_eq s)
def hloose : List Str := ["LETTERS", "LONGEST", "BASE", "StartError", "NoName", "is_name", "name_number", "name_of", "_law_box", "_law_take", "_law_same", "_law_name_number", "_law_whole_name", "_law_right"]
theorem hrun (w : World) : HandSHeadRun.RunEq hR (PySem.W.view hR.prog [17]) hk hob 4000 hloose w := by
  intro os
  kernel_rfl
theorem tx_of {K : PySem.W.Frag} {h : Heap} {mg : Str → Option Value} (X : K.In h) (G : h.Ns mainGlobals mg) (c : He.SaysD hfa hfn K) : ∃ T : Tx K mg, True := by
  obtain ⟨f0, F0⟩ := c.def_ 0 (d := ddIsName) rfl
  obtain ⟨f1, F1⟩ := c.def_ 1 (d := ddNameNumber) rfl
  obtain ⟨f2, F2⟩ := c.def_ 2 (d := ddNameOf) rfl
  obtain ⟨f3, F3⟩ := c.def_ 3 (d := ddLBox) rfl
  obtain ⟨f4, F4⟩ := c.def_ 4 (d := ddLTake) rfl
  obtain ⟨f5, F5⟩ := c.def_ 5 (d := ddLSame) rfl
  obtain ⟨f6, F6⟩ := c.def_ 6 (d := ddLNameNumber) rfl
  obtain ⟨f7, F7⟩ := c.def_ 7 (d := ddLWholeName) rfl
  obtain ⟨f8, F8⟩ := c.def_ 8 (d := ddLRight) rfl
  obtain ⟨f9, F9⟩ := c.def_ 9 (d := ddLaw) rfl
  exact ⟨⟨⟨He.free_ok X G (c.fact 0 (f := .free "len") rfl), He.free_ok X G (c.fact 1 (f := .free "abs") rfl), He.free_ok X G (c.fact 2 (f := .free "int") rfl), He.free_ok X G (c.fact 3 (f := .free "isinstance") rfl), He.free_ok X G (c.fact 4 (f := .free "list") rfl), He.free_ok X G (c.fact 5 (f := .free "tuple") rfl), He.free_ok X G (c.fact 6 (f := .free "str") rfl), He.free_ok X G (c.fact 7 (f := .free "bool") rfl), He.free_ok X G (c.fact 8 (f := .free "all") rfl), He.free_ok X G (c.fact 9 (f := .free "zip") rfl), He.free_ok X G (c.fact 10 (f := .free "range") rfl), He.free_ok X G (c.fact 11 (f := .free "max") rfl), He.free_ok X G (c.fact 12 (f := .free "min") rfl), He.free_ok X G (c.fact 13 (f := .free "enumerate") rfl), He.free_ok X G (c.fact 14 (f := .free "divmod") rfl)⟩,
    He.str_ok X G (c.fact 25 (f := .str "LETTERS" "abcdefghijklmnopqrstuvwxyz") rfl),
    He.int_ok X G (c.fact 26 (f := .int "LONGEST" 4) rfl),
    He.int_ok X G (c.fact 27 (f := .int "BASE" 27) rfl),
    f0,
    F0,
    He.glo_ok X G (c.fact 15 (f := .glo "is_name") rfl),
    f1,
    F1,
    He.glo_ok X G (c.fact 16 (f := .glo "name_number") rfl),
    f2,
    F2,
    He.glo_ok X G (c.fact 17 (f := .glo "name_of") rfl),
    f3,
    F3,
    He.glo_ok X G (c.fact 18 (f := .glo "_law_box") rfl),
    f4,
    F4,
    He.glo_ok X G (c.fact 19 (f := .glo "_law_take") rfl),
    f5,
    F5,
    He.glo_ok X G (c.fact 20 (f := .glo "_law_same") rfl),
    f6,
    F6,
    He.glo_ok X G (c.fact 21 (f := .glo "_law_name_number") rfl),
    f7,
    F7,
    He.glo_ok X G (c.fact 22 (f := .glo "_law_whole_name") rfl),
    f8,
    F8,
    He.glo_ok X G (c.fact 23 (f := .glo "_law_right") rfl),
    f9,
    F9,
    He.glo_ok X G (c.fact 24 (f := .glo "law") rfl)⟩, trivial⟩


end
end Sl
open PySem PySem.W PySem.Calls PyProof.Rows
set_option maxRecDepth 100000 in
set_option maxHeartbeats 0 in
theorem PySem.Challenge.cw_startlog_k02_names_by_numbers_holds : PySem.Challenge.rw_startlog_k02_names_by_numbers.Holds := by
  w_on; o_law
  refine HandSHeadRun.head_any (r := OpenLaw.row PySem.Challenge.rw_startlog_k02_names_by_numbers) (q := view (OpenLaw.row PySem.Challenge.rw_startlog_k02_names_by_numbers).prog [17]) (H := Sl.hk) (ob := Sl.hob) (M := 4000) (loose := Sl.hloose) (d := HandSHeadRun.topDef (OpenLaw.row PySem.Challenge.rw_startlog_k02_names_by_numbers).prog 17) (kwd := []) Sl.hob_eq
    (by kernel_rfl) (fun s => by kernel_rfl) Sl.hrun (by kernel_rfl) (by kernel_rfl) (by kernel_rfl) (by rfl) (by first | assumption | decide +kernel) (by decide +kernel) ⟨rfl, rfl, rfl, rfl, rfl, by decide +kernel⟩ ?hw ?hc
  case hw => w_witness2
  case hc =>
    refine L2.walk_ofE (l := PySem.Challenge.rw_startlog_k02_names_by_numbers) (n := 63) (k := 4) (x := "_law_script") (CX := L2.CX0) rfl (by decide) (by kernel_rfl) ⟨rfl, by decide, by decide⟩ ?F (fun _ _ _ _ z => z)
    intro w mg fa h Y G hmg0
    obtain ⟨K, KX, c⟩ := Y
    have hmg : mg ("law" : PySem.Str) = some (.ref fa) := by
      have e : (HandSHeadRun.topDef (OpenLaw.row PySem.Challenge.rw_startlog_k02_names_by_numbers).prog 17).name = ("law" : PySem.Str) := by kernel_rfl
      rw [← e]
      exact hmg0
    obtain ⟨T, _⟩ := Sl.tx_of KX G c
    have e := hmg.symm.trans T.gLaw
    cases e
    exact ⟨K, T.fdLaw, Sl.spLaw K, KX, fun s v => L2.FunD.bindsA (ps := ["_law_script"]) T.FLaw (fun _ _ _ _ _ _ us hl => match us, hl with | [_], _ => rfl) s [v] rfl, fun H a ns hl _ hS => ⟨a, ns, rfl, hS, hl, fun _ => rfl⟩, fun base _ _ => Sl.okLaw T⟩
