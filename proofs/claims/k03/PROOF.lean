import PyProof.Rows.All
import Wide.All
import OpenK.AllK
import Wide.FinOn
import KE.KStateDown
import Lean
import HandS.ForMost
import HandS.More
import HandS.WordsExc
import HandS.IsInst
import HandS.Defaults
import HandS.MakeKwOnly
import HandS.Walk
import HandS.Zip
import HandS.Replace
import HandS.Style
import HandS.Flow
import HandS.Strs
import HandS.Wide
import HandS.WideBits
import HandS.Head0
import HandS.Head1
import HandS.Head2
import HandS.HeadEnd
import HandS.HeadHook1
import HandS.HeadHook2
import HandS.Exc
import HandS.ExcInit
import HandS.ExcIs
import HandS.ExcField
import KE.KExcIs
import PySem.Challenge.RW_startlog_k03_no_names
set_option Elab.async false
set_option linter.all false
set_option maxRecDepth 100000
set_option maxHeartbeats 4000000
namespace Sl
open PySem PySem.Spec PyProof.Rows L2
section
variable {P : Program} {w : World} {K : PySem.W.Frag} {mg : Str → Option Value} {base : Heap}

end
section
variable {P : Program} {w : World} {K : PySem.W.Frag} {mg : Str → Option Value} {base : Heap}
/-! what the head is asked for besides -/
def tupD (K : PySem.W.Frag) (x : Str) (vs : List He.Dv) : Bool := He.tupB K x vs && (match K.lookup (He.ga K x) with
  | some ⟨_, none, _, _⟩ => true
  | _ => false)
theorem tupD_seq {K : PySem.W.Frag} {x : Str} {vs : List He.Dv} (h : tupD K x vs = true) (H : Hp) : SqT K H (He.ga K x) (vs.map (He.Dv.v K)) := He.tupB_ok (He.ba h).1 H
theorem tupD_ty {K : PySem.W.Frag} {x : Str} {vs : List He.Dv} (h : tupD K x vs = true) : ∃ o, K.lookup (He.ga K x) = some o ∧ o.cls = .type "tuple" ∧ o.dict = none := by
  obtain ⟨h1, h2⟩ := He.ba h
  unfold He.tupB at h1
  cases q : K.lookup (He.ga K x) with
  | none =>
    rw [q] at h2
    cases h2
  | some o =>
    obtain ⟨oc, od, dt, sl⟩ := o
    rw [q] at h1 h2
    cases od with
    | some d => cases h2
    | none =>
      cases oc with
      | type c =>
        cases dt with
        | seq its n =>
          have h3 := (He.ba (show (decide (c = "tuple") && _) = true from h1)).1
          exact ⟨_, rfl, congrArg Value.type (of_decide_eq_true h3), rfl⟩
        | _ => cases h1
      | _ => cases dt <;> cases h1
def obsE (n : Nat) (fa : List He.Fa) (fn : List He.DefD) (ex : PySem.W.Frag → Bool) (g : Addr → Option Obj) : He.AlD × Bool := (He.obsD fa fn (He.frG g (He.asD g n)), ex (He.frG g (He.asD g n)))
def hookE (n : Nat) (fa : List He.Fa) (fn : List He.DefD) (ex : PySem.W.Frag → Bool) : PySem.W.Hook where
  α := He.AlD × Bool
  obs := fun s => obsE n fa fn ex s.heap.get?
  val := fun _ => (He.valD fn, true)
  says := fun _ h => ∃ K : PySem.W.Frag, K.In h ∧ He.SaysD fa fn K ∧ ex K = true
  of := fun _ _ e => ⟨_, He.frG_in, congrArg Prod.fst e, congrArg Prod.snd e⟩
  keeps := fun _ _ _ ⟨K, hK, c⟩ k => ⟨K, PySem.W.Frag.In.keeps hK k, c⟩
theorem obsE_eq {n : Nat} {fa : List He.Fa} {fn : List He.DefD} {ex : PySem.W.Frag → Bool} {g : Addr → Option Obj} {s : Shared} (h : ∀ a, g a = s.heap.get? a) : obsE n fa fn ex g = (hookE n fa fn ex).obs s := by
  have e : g = s.heap.get? := funext h
  rw [e]
  rfl
/-! heaps -/
theorem same_new {H : Hp} {p : Addr} {o : HO} (h : H p = none) : Same H (upd H p o) := fun b x e => by
  rw [upd_ne (ne_of_none e h)]
  exact e
/-- all that was tracked is as it was, but for p -/
def But (p : Addr) (H G : Hp) : Prop := ∀ b o, H b = some o → b ≠ p → G b = some o
theorem But.refl (p : Addr) (H : Hp) : But p H H := fun _ _ h _ => h
theorem But.trans {p : Addr} {H G J : Hp} (a : But p H G) (b : But p G J) : But p H J := fun c o h n => b c o (a c o h n) n
theorem But.of {p : Addr} {H G : Hp} (a : Same H G) : But p H G := fun c o h _ => a c o h
theorem But.upd {p : Addr} {H : Hp} {o : HO} : But p H (upd H p o) := fun b x e n => by
  rw [upd_ne n]
  exact e
/-- a box of draws at p, at most n of them by the second way -/
def Box (H : Hp) (p : Addr) (n : Int) : Prop := ∃ x y z : Int, H p = some (.lst [.int x, .int y, .int z]) ∧ 0 ≤ x ∧ 0 ≤ y ∧ y < 1099511627776 ∧ 0 ≤ z ∧ z ≤ n
theorem Box.mono {H : Hp} {p : Addr} {n m : Int} (b : Box H p n) (h : n ≤ m) : Box H p m := by
  obtain ⟨x, y, z, e, h1, h2, h3, h4, h5⟩ := b
  exact ⟨x, y, z, e, h1, h2, h3, h4, Int.le_trans h5 h⟩
theorem Box.same {H G : Hp} {p : Addr} {n : Int} (b : Box H p n) (s : Same H G) : Box G p n := by
  obtain ⟨x, y, z, e, h⟩ := b
  exact ⟨x, y, z, s _ _ e, h⟩
theorem Box.ne {H : Hp} {p q : Addr} {n : Int} (b : Box H p n) (h : H q = none) : q ≠ p := by
  obtain ⟨x, y, z, e, _⟩ := b
  exact fun k => by rw [k, e] at h; cases h
/-- what is free behind was free ahead -/
theorem But.free {p q : Addr} {H G : Hp} {n : Int} (a : But p H G) (b : Box G p n) (h : G q = none) : H q = none := by
  cases e : H q with
  | none => rfl
  | some o =>
    have := a q o e (b.ne h)
    rw [this] at h
    cases h
theorem seqL_but {K : PySem.W.Frag} {H G : Hp} {p a : Addr} {xs : List V} (s : But p H G) (h : SqL K H a xs) (n : a ≠ p) : SqL K G a xs := by
  rcases h with (h | ⟨o, h⟩) | h
  · exact .inl (.inl (s _ _ h n))
  · exact .inl (.inr ⟨o, s _ _ h n⟩)
  · exact .inr h
theorem seqT_same {K : PySem.W.Frag} {H G : Hp} {a : Addr} {xs : List V} (s : Same H G) (h : SqT K H a xs) : SqT K G a xs := by
  rcases h with (h | ⟨o, h⟩) | h
  · exact .inl (.inl (s _ _ h))
  · exact .inl (.inr ⟨o, s _ _ h⟩)
  · exact .inr h
theorem bit_lo (b : Bool) : -(2 ^ 64 : Int) < (if b = true then 1 else 0 : Int) := by cases b <;> decide
theorem bit_hi (b : Bool) : (if b = true then 1 else 0 : Int) < 2 ^ 64 := by cases b <;> decide
/-- o.m(k = v, ..) -/
def tMethKw (C : Addr) (m : Str) (n k : Nat) (sp : Sp) (gV : List V → List V → List V) (E : XK) (ta : TE) (t tk : TA) : TE := fun σ H Q => ta σ H fun x H1 => ∃ a dx fs, x = .ref a ∧ H1 a = some (.ins C dx fs) ∧ fs.lookup m = none ∧
  t σ H1 fun vs H2 => tk σ H2 fun zs H3 => vs.length = n ∧ zs.length = k ∧ sp (gV (.ref a :: vs) zs) H3 Q E
theorem pe_methKw {X : Cx} {CX : CXT} {k : Nat} {f C : Addr} {fd : FuncData} {ps ks : List Str} {sp : Sp} {E : XK} {m : Str} {o : Expr} {ta : TE} {apos pos : Pos} {kws : List Keyword} {tk : TA} {g : List Value → List Value → List Value} {gV : List V → List V → List V} {pl : Sem Bool}
    (he : PE X o ta) (c : Cls X.K C) (hm : Meth X.K C m f) (F : FnOk X.prog X.w X.K X.mg X.base CX k f fd ps sp) (hr : Room k X.A) (hb : KBn X.K fd ps 1 ks g gV) (hx : Passes CX X E) (hkw : PK X kws tk)
    (h1 : (backToKw pos (keywordEach kws X.env)).all (·.1.isSome) = true := by rfl) (h2 : (backToKw pos (keywordEach kws X.env)).filterMap (·.1) = ks := by rfl)
    (h4 : ((backTo pos (starEach [] X.env)).any (·.1) || (backToKw pos (keywordEach kws X.env)).any (·.1.isNone)) = false := by rfl)
    (ht : eval (.Call (.Attribute o m apos) [] kws pos) X.env = (do
      let ov ← eval o X.env
      standAt apos.atName
      let (f, first) ← holding [ov] (getMethod ov m pl)
      callWith pos f first (backTo pos (starEach [] X.env)) (backToKw pos (keywordEach kws X.env))) := by rfl) :
    PE X (.Call (.Attribute o m apos) [] kws pos) (tMethKw C m 0 ks.length sp gV E ta tNil tk) := by
  refine ⟨fun pins s σ H Q I h => ?_⟩
  refine PySem.W.methodCall_KW (pl := pl) (thn (he.run pins s σ H _ I h) fun u s1 ⟨x, H1, I1, rx, a, dx, fs, ex, ea, l, q⟩ => ?_) ht
  subst ex
  obtain rfl : u = Value.ref a := rx
  refine getmeth_ok I1 ea c hm l ?_
  refine PySem.W.callWith_KW0 (first := [.ref a]) I1.kIn hm.kp h1 ?_ h4
  refine thn (hkw.run pos pins s1 σ H1 _ I1 q) fun ws s2 ⟨zs, H2, I2, rz, l1, l2, q2⟩ => ⟨I2.kIn, ?_⟩
  rw [h2]
  exact run_fnN (us := [.ref a]) (vs := [.ref a]) F hr hb hx I2 (.cons rfl .nil) rz rfl l2 q2
theorem qt {Q : VK} {H : Hp} {c : Prop} [Decidable c] (hc : c) (q : Q (.bl true) H) : Q (.bl (decide c)) H := by
  rw [decide_eq_true hc]
  exact q
theorem qf {Q : VK} {H : Hp} {c : Prop} [Decidable c] (hc : ¬ c) (q : Q (.bl false) H) : Q (.bl (decide c)) H := by
  rw [decide_eq_false hc]
  exact q
/-! kinds -/
theorem ty_list {K : PySem.W.Frag} {H : Hp} {a : Addr} {xs : List V} (h : SqL K H a xs) : TyX K H (.ref a) (.type "list") := by
  rcases h with (h | ⟨o, h⟩) | ⟨o, its, n, h1, h2, _⟩
  · exact .base (.lst h)
  · exact .base (.frz h)
  · exact .kList h1 h2
theorem ty_tup {K : PySem.W.Frag} {H : Hp} {a : Addr} {xs : List V} (h : SqT K H a xs) : TyX K H (.ref a) (.type "tuple") := by
  rcases h with (h | ⟨o, h⟩) | ⟨o, its, n, h1, h2, _⟩
  · exact .base (.tup h)
  · exact .fTuple h
  · exact .kTuple h1 h2
mutual
theorem dp_same {K : PySem.W.Frag} {H G : Hp} (s : Same H G) : ∀ (d : PyData) (v : V), Dp K H v d → Dp K G v d
  | .none, _, h => by cases h; exact .non
  | .bool b, _, h => by cases h; exact .bl b
  | .int i, _, h => by cases h; exact .int i
  | .str x, _, h => by cases h; exact .str x
  | .list ds, _, h => by
    cases h with
    | lst a b => exact .lst (s.seq a) (dps_same s ds _ b)
  | .tuple ds, _, h => by
    cases h with
    | tup a b => exact .tup (seqT_same s a) (dps_same s ds _ b)
  | .dict _, _, h => by cases h
theorem dps_same {K : PySem.W.Frag} {H G : Hp} (s : Same H G) : ∀ (ds : List PyData) (vs : List V), DpAll K H vs ds → DpAll K G vs ds
  | [], _, h => by cases h; exact .nil
  | d :: ds, _, h => by
    cases h with
    | cons a b => exact .cons (dp_same s d _ a) (dps_same s ds _ b)
end
theorem dpa_len {K : PySem.W.Frag} {H : Hp} : ∀ {vs : List V} {ds : List PyData}, DpAll K H vs ds → vs.length = ds.length
  | _, _, .nil => rfl
  | _, _, .cons _ t => congrArg Nat.succ (dpa_len t)
theorem dpa_at {K : PySem.W.Frag} {H : Hp} : ∀ {vs : List V} {ds : List PyData} {i : Nat} {v : V}, DpAll K H vs ds → vs[i]? = some v → ∃ d, ds[i]? = some d ∧ Dp K H v d
  | _, _, i, v, .nil, h => by simp at h
  | _, _, 0, v, .cons a t, h => by
    have e := Option.some.inj h
    subst e
    exact ⟨_, rfl, a⟩
  | _, _, i + 1, v, .cons a t, h => dpa_at (i := i) t h
/-- how deep a datum is -/
def dep : PyData → Nat
  | .list ds => deps ds + 1
  | .tuple ds => deps ds + 1
  | _ => 0
where deps : List PyData → Nat
  | [] => 0
  | d :: ds => max (dep d) (deps ds)
theorem deps_at : ∀ {ds : List PyData} {i : Nat} {d : PyData}, ds[i]? = some d → dep d ≤ dep.deps ds
  | [], i, d, h => by simp at h
  | c :: ds, 0, d, h => by
    have e := Option.some.inj h
    subst e
    exact Nat.le_max_left _ _
  | c :: ds, i + 1, d, h => Nat.le_trans (deps_at (i := i) (ds := ds) h) (Nat.le_max_right _ _)
/-- how wide it is, at most -/
def wid : PyData → Nat
  | .list ds => max ds.length (wids ds)
  | .tuple ds => max ds.length (wids ds)
  | _ => 0
where wids : List PyData → Nat
  | [] => 0
  | d :: ds => max (wid d) (wids ds)
theorem wids_at : ∀ {ds : List PyData} {i : Nat} {d : PyData}, ds[i]? = some d → wid d ≤ wid.wids ds
  | [], i, d, h => by simp at h
  | c :: ds, 0, d, h => by
    have e := Option.some.inj h
    subst e
    exact Nat.le_max_left _ _
  | c :: ds, i + 1, d, h => Nat.le_trans (wids_at (i := i) (ds := ds) h) (Nat.le_max_right _ _)
theorem small6 {n : Nat} (h : n < 1000000) : n < sizeLine := Nat.lt_of_lt_of_le h (by decide)
/-! a call by keywords alone -/
section
variable {X : Cx} {CX : CXT} {k : Nat} {f : Addr} {fd : FuncData} {ps ks : List Str} {sp : Sp} {E : XK} {x : Str} {p pos : Pos} {kws : List Keyword} {tk : TA} {g : List Value → List Value → List Value} {gV : List V → List V → List V}
theorem pe_kwCall (F : FnOk X.prog X.w X.K X.mg X.base CX k f fd ps sp) (hr : Room k X.A) (hg : Gl X x) (hm : X.mg x = some (.ref f)) (kp : PySem.W.keepIn X.K (.ref f) = true) (hb : KBn X.K fd ps 0 ks g gV) (hx : Passes CX X E) (hkw : PK X kws tk)
    (h1 : (backToKw pos (keywordEach kws X.env)).all (·.1.isSome) = true := by rfl) (h2 : (backToKw pos (keywordEach kws X.env)).filterMap (·.1) = ks := by rfl) (h3 : (x == ("__debug__" : Str)) = false := by decide)
    (h4 : ((backTo pos (starEach [] X.env)).any (·.1) || (backToKw pos (keywordEach kws X.env)).any (·.1.isNone)) = false := by rfl) :
    PE X (.Call (.Name x p) [] kws pos) (tCallN 0 ks.length sp gV E tNil tk) := by
  refine ⟨fun pins s σ H Q I h => ?_⟩
  refine wpAny_Call_Name_kw (ld_glob I hg hm ?_ h3)
  refine PySem.W.callWith_KW0 (h₀ := X.base) I.ok.mod.kin kp h1 ?_ h4
  refine thn (hkw.run pos pins s σ H _ I h) fun ws s2 ⟨zs, H2, I2, rz, l1, l2, q2⟩ => ⟨I2.kIn, ?_⟩
  rw [h2]
  exact run_fnN (us := []) (vs := []) F hr hb hx I2 .nil rz rfl l2 q2
end
/-! a call of a def without defaults by keywords -/
theorem kw_plain {K : PySem.W.Frag} {x qual : Str} {params : Arguments} {body : List Stmt} {scope : Scope} {kws : List (Str × V)} {f : Addr} {fd : FuncData} {ps : List Str} (F : FunD K x qual params body scope [] kws f fd) (n : Nat) (ks : List Str) (g : {α : Type} → List α → List α → List α)
    (hrel : ∀ {vs zs : List V} {us ws : List Value}, Vals vs us → Vals zs ws → Vals (g vs zs) (g us ws))
    (h : ∀ (kV doc pm : Value) (an : Option Addr) (cdv ct : Value) (us ws : List Value), us.length = n → ws.length = ks.length → bindArgs (PySem.W.fnOf x qual params body scope .none kV doc pm an cdv ct) ⟨us, ks.zip ws⟩ = pure (ps.zip (g us ws))) : KBn K fd ps n ks (fun us ws => g us ws) (fun vs zs => g vs zs) := by
  obtain ⟨oc, od, dV, kV, doc, pm, an, cdv, ct, osl, rfl, lk, hcd, hD, hK⟩ := F.ex
  rcases hD with ⟨_, rfl⟩ | ⟨e, _⟩
  · exact ⟨fun s us ws _ l1 l2 => .of_eq (h kV doc pm an cdv ct us ws l1 l2), fun r1 r2 => hrel r1 r2⟩
  · exact absurd rfl e
theorem Vals.rev : ∀ {vs : List V} {us : List Value}, Vals vs us → Vals vs.reverse us.reverse
  | _, _, .nil => .nil
  | _, _, .cons a t => by
    rw [List.reverse_cons, List.reverse_cons]
    exact (Vals.rev t).append (.cons a .nil)
/-- lists of numbers as data -/
theorem dpa_ints {K : PySem.W.Frag} {H : Hp} : ∀ l : List Int, DpAll K H (l.map V.int) (l.map PyData.int)
  | [] => .nil
  | i :: l => .cons (.int i) (dpa_ints l)
theorem dep_ints : ∀ l : List Int, dep.deps (l.map PyData.int) = 0
  | [] => rfl
  | i :: l => by
    show max 0 (dep.deps (l.map PyData.int)) = 0
    rw [dep_ints l]
    rfl
theorem wid_ints : ∀ l : List Int, wid.wids (l.map PyData.int) = 0
  | [] => rfl
  | i :: l => by
    show max 0 (wid.wids (l.map PyData.int)) = 0
    rw [wid_ints l]
    rfl
theorem dep_il (l : List Int) : dep (.list (l.map PyData.int)) < 2 := by
  show dep.deps (l.map PyData.int) + 1 < 2
  rw [dep_ints]
  decide
theorem wid_il (l : List Int) (h : l.length ≤ 1000) : wid (.list (l.map PyData.int)) ≤ 1000000 := by
  show max (l.map PyData.int).length (wid.wids (l.map PyData.int)) ≤ 1000000
  rw [wid_ints, List.length_map]
  omega
/-- the two ways of a conditional expression joined: what either gives, P says -/
theorem ifx {c : Prop} [Decidable c] {ta tb : TE} {σ : L2.St} {H : Hp} {C : VK} (P : V → Hp → Prop) (h1 : c → ∀ C : VK, (∀ v G, P v G → C v G) → ta σ H C) (h2 : ¬ c → ∀ C : VK, (∀ v G, P v G → C v G) → tb σ H C) (k : ∀ v G, P v G → C v G) : if c then ta σ H C else tb σ H C := by
  by_cases h : c
  · rw [if_pos h]
    exact h1 h C k
  · rw [if_neg h]
    exact h2 h C k
theorem ifs {c : Prop} [Decidable c] {t u : TS} {D : Ends} {σ : L2.St} {H : Hp} (P : L2.St → Hp → Prop) (h1 : c → ∀ D : Ends, (∀ σ G, P σ G → D.nx σ G) → t D σ H) (h2 : ¬ c → ∀ D : Ends, (∀ σ G, P σ G → D.nx σ G) → u D σ H) (k : ∀ σ G, P σ G → D.nx σ G) : if c then t D σ H else u D σ H := by
  by_cases h : c
  · rw [if_pos h]
    exact h1 h D k
  · rw [if_neg h]
    exact h2 h D k
theorem ior {c : Prop} [Decidable c] {tb : TT} {σ : L2.St} {H : Hp} {C : Bool → Hp → Prop} (P : Bool → Hp → Prop) (h1 : c → P true H) (h2 : ¬ c → ∀ C : Bool → Hp → Prop, (∀ v G, P v G → C v G) → tb σ H C) (k : ∀ v G, P v G → C v G) : if c then C true H else tb σ H C := by
  by_cases h : c
  · rw [if_pos h]
    exact k _ _ (h1 h)
  · rw [if_neg h]
    exact h2 h C k
theorem ift {c : Prop} [Decidable c] {ta : TT} {σ : L2.St} {H : Hp} {C : Bool → Hp → Prop} (P : Bool → Hp → Prop) (h1 : c → ∀ C : Bool → Hp → Prop, (∀ v G, P v G → C v G) → ta σ H C) (h2 : ¬ c → P false H) (k : ∀ v G, P v G → C v G) : if c then ta σ H C else C false H := by
  by_cases h : c
  · rw [if_pos h]
    exact h1 h C k
  · rw [if_neg h]
    exact k _ _ (h2 h)
theorem atI_some {xs : List V} {r : Int} (h0 : 0 ≤ r) (h1 : r < xs.length) : ∃ v, atI xs r = some v ∧ v ∈ xs := by
  obtain ⟨j, rfl⟩ : ∃ j : Nat, r = (j : Int) := ⟨r.toNat, by omega⟩
  have hj : j < xs.length := by omega
  exact ⟨xs[j], atI_nat (List.getElem?_eq_getElem hj), List.getElem_mem hj⟩
theorem same_but {H G G1 G2 : Hp} {p : Addr} {o : HO} (s : Same H G) (hp : G p = none) (b : But p (upd G p o) G2) : Same H G2 := fun c x e => by
  have hc : c ≠ p := fun z => by
    have := s.free hp
    rw [← z, e] at this
    cases this
  exact b c x (by rw [upd_ne hc]; exact s c x e) hc
/-! the drawer of numbers -/
def spLBox (K : PySem.W.Frag) : Sp := fun vs H Q _ => ∃ (a : Addr) (ns : List Int) (k : Nat), vs = [.ref a, .int k] ∧ SqL K H a (ns.map V.int) ∧ k ≤ 1000 ∧
  ∀ (p : Addr) (x y : Int), H p = none → 0 ≤ x → 0 ≤ y → y < 1099511627776 → Q (.ref p) (upd H p (.lst [.int x, .int y, .int 0]))
def spLTake : Sp := fun vs H Q _ => ∃ (p : Addr) (m n : Int), vs = [.ref p, .int m] ∧ Box H p n ∧ n < 1099511627776 ∧ 0 < m ∧ m < 340282366920938463463374607431768211456 ∧
  ∀ (r : Int) (G : Hp), But p H G → Box G p (n + 1) → 0 ≤ r → r < m → Q (.int r) G
theorem walk_zipT {K : PySem.W.Frag} {a b : Addr} {xs ys : List V} (hn : xs.length = ys.length) : Walk (RZ.ItzT K a b) xs.length (fun H => SqT K H a xs ∧ SqT K H b ys) (YPair (fun i => xs[i]?) (fun i => ys[i]?)) := by
  refine ⟨fun i _ hi q => ?_, fun _ q => ⟨xs, ys, q.1, q.2, by omega⟩, fun i H v H' _ q y => ?_⟩
  · have h2 : i < ys.length := by omega
    exact ⟨xs, ys, xs[i], ys[i], q.1, q.2, by simp [hi], by simp [h2]⟩
  · obtain ⟨T, x, z, h1, h2, h3, h4, h5⟩ := y
    exact ⟨T, x, z, h1, h2, h3, h4 xs q.1, h5 ys q.2⟩
theorem all_rep (n : Nat) : (List.replicate n true).all id = true := by
  induction n with
  | zero => rfl
  | succ n ih => rw [List.replicate_succ, List.all_cons, ih]; rfl
theorem kit_none (K : PySem.W.Frag) (t : String) (h1 : kitB t "list" = some false) (h2 : kitB t "tuple" = some false) : PySem.W.kitAny K (.type t) [.type "list", .type "tuple"] = some false :=
  kitAny_cons (kit_ty h1) (fun _ => kitAny_cons (kit_ty h2) (fun _ => rfl) (fun z => Bool.noConfusion z)) (fun z => Bool.noConfusion z)
theorem kit_list (K : PySem.W.Frag) : PySem.W.kitAny K (.type "list") [.type "list", .type "tuple"] = some true :=
  kitAny_cons (kit_ty (r := true) (by decide +kernel)) (fun z => Bool.noConfusion z) (fun _ => rfl)
theorem kit_tup (K : PySem.W.Frag) : PySem.W.kitAny K (.type "tuple") [.type "list", .type "tuple"] = some true :=
  kitAny_cons (kit_ty (r := false) (by decide +kernel)) (fun _ => kitAny_cons (kit_ty (r := true) (by decide +kernel)) (fun z => Bool.noConfusion z) (fun _ => rfl)) (fun z => Bool.noConfusion z)
theorem cls2 : Paired ClsV [.ty "list", .ty "tuple"] [.type "list", .type "tuple"] := .cons (.ty _) (.cons (.ty _) .nil)
/-! two things alike, kind by kind -/
def spLSame (K : PySem.W.Frag) (n : Nat) : Sp := fun vs H Q _ => ∃ (x y : V) (d : PyData), vs = [x, y] ∧ Dp K H x d ∧ Dp K H y d ∧ dep d < n ∧ wid d ≤ 1000000 ∧ ∀ G, Same H G → Q (.bl true) G

def spLaw (K : PySem.W.Frag) : Sp := fun vs H Q _ => ∃ (a : Addr) (ns : List Int), vs = [.ref a] ∧ SqL K H a (ns.map V.int) ∧ ns.length ≤ 63 ∧ ∀ G, Q (.bl true) G

end
section
variable {P : Program} {w : World} {K : PySem.W.Frag} {mg : Str → Option Value} {base : Heap}
/-! errors of the program's own as values -/
def oexB (K : PySem.W.Frag) (C : Addr) : Bool := match K.lookup C with
  | some ⟨.type "type", _, .cls cd, sl⟩ => (match cd.mro, sl.toList with
    | .ref D :: bm, [_, _, _, _, some (.builtin n), _] => (D == C) && ((n == "ValueError.__new__") && ((!cd.hasDel) && (cd.hasDict && PySem.HandSPX.refsVE bm)))
    | _, _ => false)
  | _ => false
theorem oexB_ok {K : PySem.W.Frag} {C : Addr} (h : oexB K C = true) : ∃ nm q N bs bm sn sub ab col dd k0 k1 k2 k3 k5, K.lookup C = some (excClassObj nm q C N bs bm true sn sub ab col dd k0 k1 k2 k3 k5 "ValueError.__new__") ∧ PySem.HandSPX.refsVE bm = true := by
  unfold oexB at h
  split at h
  · next dd cd sl lk =>
    split at h
    · next D bm k0 k1 k2 k3 n k5 hm hs =>
      obtain ⟨h1, h⟩ := He.ba h
      obtain ⟨h2, h⟩ := He.ba h
      obtain ⟨h3, h⟩ := He.ba h
      obtain ⟨h4, h5⟩ := He.ba h
      have e1 : D = C := beq_iff_eq.mp h1
      have e2 : n = "ValueError.__new__" := beq_iff_eq.mp h2
      obtain ⟨nm, bs, mro, ns, qn, hd, sn, sub, ab, col, del⟩ := cd
      dsimp only at hm h3 h4
      have e3 : del = false := by cases del <;> simp_all
      obtain ⟨l⟩ := sl
      have e4 : l = [k0, k1, k2, k3, some (.builtin n), k5] := hs
      subst e1 e2 e3 e4 hm h4
      exact ⟨nm, qn, ns, bs, bm, sn, sub, ab, col, dd, k0, k1, k2, k3, k5, lk, h5⟩
    · cases h
  · cases h
/-- what the written part says of an error's class -/
structure ECl (K : PySem.W.Frag) (C fI : Addr) : Prop where
  ox : OexC K C
  ga : PySem.W.findIn K (.ref C) "__getattribute__" = some (some (.builtin "BaseException.__getattribute__"))
  gg : PySem.W.findIn K (.ref C) "__getattr__" = some none
  hd : PySem.W.hasDictIn K C = true
  cl : PySem.W.findIn K (.ref C) "__class__" = some (some (.builtin "object.__class__"))
  sp : PySem.W.specialIn K (.builtin "object.__class__") "__get__" = some (some (.builtin "getset_descriptor.__get__"))
  tk : PySem.W.takesIn K (.builtin "object.__class__") = some true
  mo : PySem.W.mroIn K C (.type "object") = some true
  wh : PySem.W.findIn K (.ref C) "what" = some none
  ini : PySem.W.findIn K (.ref C) "__init__" = some (some (.ref fI))
  fty : PySem.W.typeIn K (.ref fI) = some (.type "function")
def eclB (K : PySem.W.Frag) (C fI : Addr) : Bool := oexB K C && (He.eqO (PySem.W.findIn K (.ref C) "__setattr__") (some (some (.builtin "object.__setattr__"))) && (decide (PySem.W.subIn K (.ref C) (.type "BaseException") = some true) && (decide (PySem.W.typeIn K (.ref C) = some (.type "type")) && (PySem.W.keepIn K (.ref C) &&
  (He.eqO (PySem.W.findIn K (.ref C) "__getattribute__") (some (some (.builtin "BaseException.__getattribute__"))) && (He.eqO (PySem.W.findIn K (.ref C) "__getattr__") (some none) && (PySem.W.hasDictIn K C && (He.eqO (PySem.W.findIn K (.ref C) "__class__") (some (some (.builtin "object.__class__"))) &&
  (He.eqO (PySem.W.specialIn K (.builtin "object.__class__") "__get__") (some (some (.builtin "getset_descriptor.__get__"))) && (decide (PySem.W.takesIn K (.builtin "object.__class__") = some true) && (decide (PySem.W.mroIn K C (.type "object") = some true) && (He.eqO (PySem.W.findIn K (.ref C) "what") (some none) &&
  (He.eqO (PySem.W.findIn K (.ref C) "__init__") (some (some (.ref fI))) && decide (PySem.W.typeIn K (.ref fI) = some (.type "function")))))))))))))))
theorem eclB_ok {K : PySem.W.Frag} {C fI : Addr} (h : eclB K C fI = true) : ECl K C fI := by
  obtain ⟨h1, h⟩ := He.ba h
  obtain ⟨h2, h⟩ := He.ba h
  obtain ⟨h3, h⟩ := He.ba h
  obtain ⟨h4, h⟩ := He.ba h
  obtain ⟨h5, h⟩ := He.ba h
  obtain ⟨h6, h⟩ := He.ba h
  obtain ⟨h7, h⟩ := He.ba h
  obtain ⟨h8, h⟩ := He.ba h
  obtain ⟨h9, h⟩ := He.ba h
  obtain ⟨h10, h⟩ := He.ba h
  obtain ⟨h11, h⟩ := He.ba h
  obtain ⟨h12, h⟩ := He.ba h
  obtain ⟨h13, h⟩ := He.ba h
  obtain ⟨h14, h15⟩ := He.ba h
  exact ⟨⟨oexB_ok h1, He.eqO_ok h2, of_decide_eq_true h3, of_decide_eq_true h4, h5⟩, He.eqO_ok h6, He.eqO_ok h7, h8, He.eqO_ok h9, He.eqO_ok h10, of_decide_eq_true h11, of_decide_eq_true h12, He.eqO_ok h13, He.eqO_ok h14, of_decide_eq_true h15⟩
/-- an error of the class at C stands at a; it bears v -/
def ErrAt (H : Hp) (a C : Addr) (v : V) : Prop := ∃ d, H a = some (exo a C (some d)) ∧ H d = some (exd d [(("what" : Str), v)])
theorem ErrAt.same {H G : Hp} {a C : Addr} {v : V} (e : ErrAt H a C v) (s : Same H G) : ErrAt G a C v := by
  obtain ⟨d, h1, h2⟩ := e
  exact ⟨d, s _ _ h1, s _ _ h2⟩
theorem inst_of {X : Cx} {pins : List (Addr × Obj)} {σ : L2.St} {H : Hp} {s : Shared} {a C : Addr} {v : V} (I : Inv X pins σ H s) (e : ErrAt H a C v) :
    ∃ oe od u, PySem.W.InstAt s.heap a oe C (some od) ∧ PySem.W.lookIn "what" od = some (some u) ∧ RelV v u := by
  obtain ⟨d, h1, h2⟩ := e
  obtain ⟨t1, q1⟩ := exo_at I.hok h1
  obtain ⟨mA, hn, hr⟩ := exd_at I.hok h2
  obtain ⟨od, ho, hl⟩ := lookIn_ns hn
  have l : List.lookup ("what" : Str) [(("what" : Str), v)] = some v := by simp [List.lookup]
  obtain ⟨u, hu, ru⟩ := RelO.some_of (v := v) (o := mA "what") (by rw [← l]; exact hr "what")
  exact ⟨_, od, u, ⟨q1, rfl, rfl, ho⟩, by rw [hl, hu], ru⟩
/-- isinstance(e, c) -/
def rIsX (K : PySem.W.Frag) : List V → Hp → VK → Prop := fun xs H Q => ∃ (a D fI : Addr) (w c : V) (u : Value) (b : Bool), xs = [.ref a, c] ∧ ClsV c u ∧ ErrAt H a D w ∧ ECl K D fI ∧ PySem.W.kitOne K (.ref D) u = some b ∧ Q (.bl b) H
theorem call_isX {X : Cx} : CallR X (.builtin "isinstance") (rIsX X.K) := by
  intro pins s σ H xs us Q I r h
  obtain ⟨a, D, fI, w, c, u, b, rfl, hc, he, T, hk, q⟩ := h
  obtain ⟨u1, u2, rfl, r1, r2⟩ := vals2 r
  obtain rfl : u1 = Value.ref a := r1
  have e2 := hc.eq r2
  subst e2
  obtain ⟨oe, od, z, J, _, _⟩ := inst_of I he
  have hcl : (PySem.W.clsIn X.K D).isSome = true := by
    have := T.hd
    unfold PySem.W.hasDictIn at this
    cases e : PySem.W.clsIn X.K D with
    | none => rw [e] at this; cases this
    | some _ => rfl
  exact PySem.W.kia_one (PySem.W.kitx_exc (od := some od) hcl T.ga T.gg T.ox.exC T.cl T.sp T.tk T.mo) I.kIn J hk (fun z => nomatch z) fun tk => ⟨.bl b, H, I.tok tk, rfl, q⟩
/-- e.what -/
def tWhat (K : PySem.W.Frag) (te : TE) : TE := fun σ H Q => te σ H fun x H1 => ∃ (a D fI : Addr) (v : V), x = .ref a ∧ ErrAt H1 a D v ∧ ECl K D fI ∧ Q v H1
theorem pe_what {X : Cx} {e : Expr} {te : TE} {pos : Pos} (he : PE X e te) (hb : attributeBase e "what" X.env (eval e X.env) = eval e X.env := by rfl) : PE X (.Attribute e "what" pos) (tWhat X.K te) := by
  refine ⟨fun pins s σ H Q I h => ?_⟩
  refine attr_of hb (thn (he.run pins s σ H _ I h) fun u s1 hh => ?_)
  obtain ⟨x, H1, I1, rx, a, D, fI, v, ex, er, T, q⟩ := hh
  subst ex
  obtain rfl : u = Value.ref a := rx
  obtain ⟨oe, od, z, J, hl, rz⟩ := inst_of I1 er
  exact HandSPX.exc_get I1.kIn J T.ga T.gg T.ox.exC (PySem.W.findObj_own T.hd T.wh rfl hl) (handed_of rz) ⟨v, H1, I1.tok _, rz, q⟩
/-- the program's errors: each over root alone, over ValueError; what it asks of each is so -/
def errOk (K : PySem.W.Frag) (root : Str) (cs : List Str) : Bool := cs.all fun c => eclB K (He.ga K c) (He.ma K (He.ga K root) "__init__") && (decide (PySem.W.kitOne K (.ref (He.ga K c)) (.type "ValueError") = some true) &&
  cs.all fun e => decide (PySem.W.kitOne K (.ref (He.ga K c)) (.ref (He.ga K e)) = some (decide (e = c) || decide (e = root))) && decide (PySem.W.subIn K (.ref (He.ga K c)) (.ref (He.ga K e)) = some (decide (e = c) || decide (e = root))))
theorem err_cl {K : PySem.W.Frag} {root : Str} {cs : List Str} (h : errOk K root cs = true) {c : Str} (hc : c ∈ cs) : ECl K (He.ga K c) (He.ma K (He.ga K root) "__init__") :=
  eclB_ok (He.ba (List.all_eq_true.mp h c hc)).1
theorem err_ve {K : PySem.W.Frag} {root : Str} {cs : List Str} (h : errOk K root cs = true) {c : Str} (hc : c ∈ cs) : PySem.W.kitOne K (.ref (He.ga K c)) (.type "ValueError") = some true :=
  of_decide_eq_true (He.ba (He.ba (List.all_eq_true.mp h c hc)).2).1
theorem err_is {K : PySem.W.Frag} {root : Str} {cs : List Str} (h : errOk K root cs = true) {c e : Str} (hc : c ∈ cs) (he : e ∈ cs) : PySem.W.kitOne K (.ref (He.ga K c)) (.ref (He.ga K e)) = some (decide (e = c) || decide (e = root)) :=
  of_decide_eq_true (He.ba (List.all_eq_true.mp (He.ba (He.ba (List.all_eq_true.mp h c hc)).2).2 e he)).1
/-- an error of class c, in the clause of class e -/
theorem err_ex {K : PySem.W.Frag} {root : Str} {cs : List Str} (h : errOk K root cs = true) {c e : Str} (hc : c ∈ cs) (he : e ∈ cs) : PySem.W.exmOne K (.ref (He.ga K c)) (.ref (He.ga K e)) = some (decide (e = c) || decide (e = root)) :=
  PySem.W.exm_ref (err_cl h he).ox.exC (err_cl h he).hd (err_cl h he).ox.tyC (of_decide_eq_true (He.ba (List.all_eq_true.mp (He.ba (He.ba (List.all_eq_true.mp h c hc)).2).2 e he)).2)
end
section
variable {P : Program} {w : World} {K : PySem.W.Frag} {mg : Str → Option Value} {base : Heap}
open PySem.W PySem.Calls PySem.HandSPX
section
variable {M : Model} {A : Around} {E : Value → Shared → Prop} {h : Heap} {g : Array GenState} {d : Drawn} {t : Nat} {os : OsState}
variable {nm q : Str} {C N : Addr} {bs bm : List Value} {hdct : Bool} {sn : List Str} {sub : List Value} {ab : Bool} {col : Option Bool} {dd : Option Addr} {k0 k1 k2 k3 k5 : Option Value}
theorem ck_new {x : Str} {v : Value} {Q : Unit → Shared → Prop} (hb : HandSPX.refsVE bm = true)
    (hC : h.get? C = some (excClassObj nm q C N bs bm hdct sn sub ab col dd k0 k1 k2 k3 k5 "ValueError.__new__")) (hq : Q () ⟨h, g, d, t, os⟩) :
    wpAny M A (checkBuiltinCall "ValueError.__new__" ⟨[.ref C], [(x, v)]⟩) Q E ⟨h, g, d, t, os⟩ := by
  have F := F.excBase_ValueError
  have c1 : (Value.ref C :: bm).contains (.type "ValueError") = true := by
    rw [List.contains_cons, HandSPX.refsVE_contains _ _ hb]
    simp
  simp only [checkBuiltinCall, F.newKind, F.newSplit, F.newRow]
  repeat (first | refine wpAny_loadPart_at hC ?_ | (refine wpAny_isSubtype_exc hC ?_; rw [c1]) | refine wpAny_staticBase_exc hC ?_ | refine wpAny_madeBy_exc hC ?_ | simp only [bne_self_eq_false, Bool.false_eq_true, if_false] | wp_step)
  exact hq
end
section
variable {prog : Program} {w : World} {A : Around} {E : Value → Shared → Prop} {R : Result → Shared → Prop} {h : Heap} {g : Array GenState} {d : Drawn} {t : Nat} {os : OsState}
variable {nm q : Str} {C N : Addr} {bs bm : List Value} {hdct : Bool} {sn : List Str} {sub : List Value} {ab : Bool} {col : Option Bool} {dd : Option Addr} {k0 k1 k2 k3 k5 : Option Value}
theorem kw_new {x : Str} {v : Value} (hb : HandSPX.refsVE bm = true) (hC : h.get? C = some (excClassObj nm q C N bs bm hdct sn sub ab col dd k0 k1 k2 k3 k5 "ValueError.__new__"))
    (hq : R (.ok (.ret (.ref (h.objs.size + 1)))) ⟨(h.push (W.kdv_tup [])).push (HandSPX.excO C h.objs.size), g, d, t, os⟩) :
    codeAny (model prog w) A (.builtin "ValueError.__new__" ⟨[.ref C], [(x, v)]⟩) R ⟨h, g, d, t, os⟩ := by
  have F := F.excBase_ValueError
  have cT : ∀ X : String, (Value.ref C :: bm).contains (.type X) = HandSPX.veTail.contains (.type X) := fun X => by
    rw [List.contains_cons, HandSPX.refsVE_contains _ _ hb]
    simp
  have c1 : (Value.ref C :: bm).contains (.type "ValueError") = true := (cT _).trans (by decide +kernel)
  have c2 : (Value.ref C :: bm).contains (.type "AttributeError") = false := (cT _).trans (by decide +kernel)
  have c3 : (Value.ref C :: bm).contains (.type "NameError") = false := (cT _).trans (by decide +kernel)
  have e1 := F.ends
  refine codeAny_builtinAt F.entry ?_
  unfold Builtin.«BaseException.__new__»
  refine PySem.wpAt_bind ?_
  show PySem.wpAt _ _ _ (stack >>= _) _ _ _
  refine PySem.wpAt_bind (PySem.wpAt_stack fun p below => PySem.wpAt_of_wpAny ?_)
  wp_walk
  refine PySem.wpAt_of_wpAny ?_
  rw [F.owner]
  repeat (first | with_reducible refine wpAny_madeHere_exc F.canon hC ?_ | with_reducible refine wpAny_loadPart_at hC ?_ | (with_reducible refine wpAny_isSubtype_exc hC ?_; first | rw [c1] | rw [c2] | rw [c3]) | wp_step)
  show R _ _
  rw [Heap.size_push]
  exact hq
theorem kw_type {x : Str} {v : Value} {fI : Addr} {Q : PySem.Fin → Shared → Prop} (hb : HandSPX.refsVE bm = true) (hC : h.get? C = some (excClassObj nm q C N bs bm hdct sn sub ab col dd k0 k1 k2 k3 k5 "ValueError.__new__"))
    (hi : W.Looks (model prog w) h (typeLookup (.ref C) "__init__") (some (.ref fI))) (hs : ∀ self, W.Looks (model prog w) h (bindSpecial (.ref fI) self) (.ref fI, [self]))
    (hq : codeAny (model prog w) A (.call (.ref fI) ⟨[.ref (h.objs.size + 1)], [(x, v)]⟩)
      (fun r s' => match r with | .ok (.ret u) => u = .none ∧ Q (.done (.ret (.ref (h.objs.size + 1)))) s' | .ok _ => False | .error e => E e s') ⟨(h.push (W.kdv_tup [])).push (HandSPX.excO C h.objs.size), g, d, t, os⟩) :
    wpAny (model prog w) A (Builtin.«type.__call__» ⟨[.ref C], [(x, v)]⟩) Q E ⟨h, g, d, t, os⟩ := by
  have F := F.excBase_ValueError
  have grow : ∀ b o, h.get? b = some o → ((h.push (W.kdv_tup [])).push (HandSPX.excO C h.objs.size)).get? b = some o := fun b o e => Heap.get?_push_of_some _ (Heap.get?_push_of_some _ e)
  have new : ((h.push (W.kdv_tup [])).push (HandSPX.excO C h.objs.size)).get? (h.objs.size + 1) = some (HandSPX.excO C h.objs.size) := by heap_get
  have cC : (Value.ref C :: bm).contains (.ref C) = true := by simp
  repeat (first | with_reducible refine wpAny_loadPart_at hC ?_ | with_reducible refine wpAny_madeBy_exc hC ?_ | wp_step)
  refine codeAny_call_builtin_code (Code.quiet_builtin _ F.quiet) (ck_new hb hC (kw_new hb hC ?_))
  show wpAny _ _ _ _ _ _
  unfold isInstance
  repeat (first | with_reducible refine wpAny_loadPart_at new ?_ | (with_reducible refine wpAny_isSubtype_exc (grow _ _ hC) ?_; rw [cC]) | wp_step)
  show wpAny _ _ (typeLookup (.ref C) _) _ _ _
  refine (hi.keeps grow).at (wpAny_holding (wpAny_bind (((hs _).keeps grow).at (wpAny_bind (wpAny_call (codeAny_mono hq fun r s' z => ?_))))))
  cases r with
  | error e => exact z
  | ok fl =>
    cases fl with
    | ret u =>
      obtain ⟨rfl, z⟩ := z
      first
        | exact wpAny_pure (wpAny_pure z)
        | exact wpAny_pure z
    | next => exact z.elim
    | brk => exact z.elim
    | cont => exact z.elim
theorem kw_call {x : Str} {v : Value} {fI : Addr} (hb : HandSPX.refsVE bm = true) (hC : h.get? C = some (excClassObj nm q C N bs bm hdct sn sub ab col dd k0 k1 k2 k3 k5 "ValueError.__new__"))
    (hi : W.Looks (model prog w) h (typeLookup (.ref C) "__init__") (some (.ref fI))) (hs : ∀ self, W.Looks (model prog w) h (bindSpecial (.ref fI) self) (.ref fI, [self]))
    (hq : codeAny (model prog w) (A.under (.builtin "type.__call__" ⟨[.ref C], [(x, v)]⟩)) (.call (.ref fI) ⟨[.ref (h.objs.size + 1)], [(x, v)]⟩) (W.InitBack (h.objs.size + 1) R) ⟨(h.push (W.kdv_tup [])).push (HandSPX.excO C h.objs.size), g, d, t, os⟩) :
    codeAny (model prog w) A (.call (.ref C) ⟨[], [(x, v)]⟩) R ⟨h, g, d, t, os⟩ := by
  have l1 := PySem.tc_lookup
  have l2 := PySem.tc_bind (.ref C)
  have ty : (⟨h, g, d, t, os⟩ : Shared).TypeIs (.ref C) "type" := ⟨_, hC, rfl⟩
  refine codeAny_of_tree ?_
  show wpAny _ _ (callAny (.ref C) _) _ _ _
  repeat (any_goals (first | assumption | with_reducible refine wpAny_loadPart_at hC ?_ | wp_step))
  refine ⟨rfl, codeAny_call_builtin_at (Code.quiet_builtin _ (by decide +kernel)) PySem.entry_typeCall (wpAny_check_type_call_sub hC (kw_type hb hC hi hs (codeAny_mono hq fun r s' z => ?_)))⟩
  rcases r with e | (u | _ | _ | _) <;> exact z
end
/-! C(e) and C(what=e) as values -/
def tMkE (C : Addr) (ta : TA) : TE := fun σ H Q => ta σ H fun vs H1 => ∃ v, vs = [v] ∧ ∀ (a : Addr) (G : Hp), H1 a = none → Same H1 G → ErrAt G a C v → Q (.ref a) G
def spInitE (K : PySem.W.Frag) : Sp := fun vs H Q _ => ∃ (a C fI : Addr) (v : V), vs = [.ref a, v] ∧ H a = some (exo a C none) ∧ ECl K C fI ∧ ∀ d, H d = none → d ≠ a → Q .non (upd (upd H d (exd d [(("what" : Str), v)])) a (exo a C (some d)))
theorem err_made {H1 : Hp} {a C d : Addr} {v : V} (ha : H1 a = none) (hd : (upd H1 a (exo a C none)) d = none) (ne : d ≠ a) :
    Same H1 (upd (upd (upd H1 a (exo a C none)) d (exd d [(("what" : Str), v)])) a (exo a C (some d))) ∧ ErrAt (upd (upd (upd H1 a (exo a C none)) d (exd d [(("what" : Str), v)])) a (exo a C (some d))) a C v := by
  refine ⟨fun b o e => ?_, d, upd_same, ?_⟩
  · have h1 : b ≠ a := ne_of_none e ha
    rw [upd_ne h1]
    have h2 : b ≠ d := fun z => by
      rw [← z, upd_ne h1, e] at hd
      cases hd
    rw [upd_ne h2, upd_ne h1]
    exact e
  · rw [upd_ne ne, upd_same]
section
variable {X : Cx} {x : Str} {C fI : Addr} {k : Nat} {fd : FuncData} {p pos : Pos}
theorem pe_mkE {e : Expr} {ta : TA} (T : ECl X.K C fI) (F1 : FnOk X.prog X.w X.K X.mg X.base CX0 k fI fd ["self", "what"] (spInitE X.K)) (hr : Room (k + 1) X.A) (hb : Binds X.K fd ["self", "what"] []) (hg : Gl X x) (hm : X.mg x = some (.ref C)) (ha : PA X [e] ta)
    (h1 : (x == ("__debug__" : Str)) = false := by decide) (h2 : starEach [e] X.env = (false, eval e X.env) :: starEach [] X.env := by rfl) (h3 : (backTo pos (starEach [] X.env)).any (·.1) = false := by rfl) :
    PE X (.Call (.Name x p) [e] [] pos) (tMkE C ta) := by
  refine ⟨fun pins s σ H Q I h => ?_⟩
  obtain ⟨nm, q, N, bs, bm, sn, sub, ab, col, dd, k0, k1, k2, k3, k5, hC, hbm⟩ := T.ox.cls
  refine wpAny_Call_Name_kw (ld_glob I hg hm ?_ h1)
  refine PySem.W.callWith_K (h₀ := X.base) I.ok.mod.kin T.ox.kC (thn (ha.run pos pins s σ H _ I h) fun us s1 ⟨vs, H1, I1, r1, v, ev, q1⟩ => ⟨I1.kIn, ?_⟩) h2 h3
  subst ev
  obtain ⟨u, rfl, ru⟩ := vals1 r1
  show wpAny _ _ (call (.ref C) [u]) _ _ _
  obtain ⟨hp, g, dr, tk, os⟩ := s1
  have hn : H1 (hp.objs.size + 1) = none := I1.hok.fresh (Nat.le_succ _)
  have grow : ∀ b o, hp.get? b = some o → ((hp.push (PySem.W.kdv_tup [u])).push (HandSPX.excO C hp.objs.size)).get? b = some o := fun b o e => Heap.get?_push_of_some _ (Heap.get?_push_of_some _ e)
  have new : ((hp.push (PySem.W.kdv_tup [u])).push (HandSPX.excO C hp.objs.size)).get? (hp.objs.size + 1) = some (HandSPX.excO C hp.objs.size) := by heap_get
  have I2 : Inv X pins σ (upd H1 (hp.objs.size + 1) (exo (hp.objs.size + 1) C none)) ⟨(hp.push (PySem.W.kdv_tup [u])).push (HandSPX.excO C hp.objs.size), g, dr, tk, os⟩ := I1.laid (t' := tk) grow (Nat.le_succ _) (exo_ok new)
  have r2 : Vals [V.ref (hp.objs.size + 1), v] [Value.ref (hp.objs.size + 1), u] := .cons rfl (.cons ru .nil)
  refine wpAny_call (HandSPX.call_own F.excBase_ValueError (fun Y => HandSPX.refsVE_contains Y bm hbm) (I1.kIn _ _ hC) (PySem.W.looks_findIn I1.kIn T.ini) (fun self => PySem.W.bind_fn I1.kIn self T.fty) (by rw [sizeLine_eq]; show 1 ≤ 16777216; decide)
    (codeAny_mono (F1.run _ X.stack _ _ ⟨[Value.ref (hp.objs.size + 1), u], []⟩ [Value.ref (hp.objs.size + 1), u] _ (fun w' G => w' = .non ∧ Q (.ref (hp.objs.size + 1)) G) (fun _ _ _ => False) (hr.make C [u] []) (I2.env0.make C [u] []) (hb _ _ I2.kIn rfl) r2 ⟨_, C, fI, v, rfl, upd_same, T, fun d hd ne => ⟨rfl, ?_⟩⟩) fun r s' hq' => ?_))
  · obtain ⟨a1, a2⟩ := err_made hn hd ne
    exact q1 _ _ hn a1 a2
  · cases r with
    | error er => exact hq'.elim
    | ok fl =>
      cases fl with
      | ret w' =>
        obtain ⟨v2, H2, J, rv, ev, q2⟩ := I2.after hq'
        subst ev
        exact ⟨rv, ⟨V.ref (hp.objs.size + 1), H2, J, rfl, q2⟩⟩
      | next => exact hq'.elim
      | brk => exact hq'.elim
      | cont => exact hq'.elim
theorem pe_mkEK {kws : List Keyword} {tk : TA} (T : ECl X.K C fI) (F1 : FnOk X.prog X.w X.K X.mg X.base CX0 k fI fd ["self", "what"] (spInitE X.K)) (hr : Room (k + 1) X.A) (hb : KBn X.K fd ["self", "what"] 1 ["what"] (fun us ws => us ++ ws) (fun vs zs => vs ++ zs)) (hg : Gl X x) (hm : X.mg x = some (.ref C)) (hk : PK X kws tk)
    (h1 : (backToKw pos (keywordEach kws X.env)).all (·.1.isSome) = true := by rfl) (h2 : (backToKw pos (keywordEach kws X.env)).filterMap (·.1) = (["what"] : List Str) := by rfl) (h3 : (x == ("__debug__" : Str)) = false := by decide)
    (h4 : ((backTo pos (starEach [] X.env)).any (·.1) || (backToKw pos (keywordEach kws X.env)).any (·.1.isNone)) = false := by rfl) :
    PE X (.Call (.Name x p) [] kws pos) (tMkE C tk) := by
  refine ⟨fun pins s σ H Q I h => ?_⟩
  obtain ⟨nm, q, N, bs, bm, sn, sub, ab, col, dd, k0, k1, k2, k3, k5, hC, hbm⟩ := T.ox.cls
  refine wpAny_Call_Name_kw (ld_glob I hg hm ?_ h3)
  refine PySem.W.callWith_KW0 (h₀ := X.base) I.ok.mod.kin T.ox.kC h1 ?_ h4
  refine thn (hk.run pos pins s σ H _ I h) fun us s1 ⟨vs, H1, I1, r1, v, ev, q1⟩ => ⟨I1.kIn, ?_⟩
  subst ev
  rw [h2]
  obtain ⟨u, rfl, ru⟩ := vals1 r1
  show wpAny _ _ (call (.ref C) [] [("what", u)]) _ _ _
  obtain ⟨hp, g, dr, tk, os⟩ := s1
  have hn : H1 (hp.objs.size + 1) = none := I1.hok.fresh (Nat.le_succ _)
  have grow : ∀ b o, hp.get? b = some o → ((hp.push (PySem.W.kdv_tup [])).push (HandSPX.excO C hp.objs.size)).get? b = some o := fun b o e => Heap.get?_push_of_some _ (Heap.get?_push_of_some _ e)
  have new : ((hp.push (PySem.W.kdv_tup [])).push (HandSPX.excO C hp.objs.size)).get? (hp.objs.size + 1) = some (HandSPX.excO C hp.objs.size) := by heap_get
  have I2 : Inv X pins σ (upd H1 (hp.objs.size + 1) (exo (hp.objs.size + 1) C none)) ⟨(hp.push (PySem.W.kdv_tup [])).push (HandSPX.excO C hp.objs.size), g, dr, tk, os⟩ := I1.laid (t' := tk) grow (Nat.le_succ _) (exo_ok new)
  have r2 : Vals [V.ref (hp.objs.size + 1), v] [Value.ref (hp.objs.size + 1), u] := .cons rfl (.cons ru .nil)
  refine wpAny_call (kw_call hbm (I1.kIn _ _ hC) (PySem.W.looks_findIn I1.kIn T.ini) (fun self => PySem.W.bind_fn I1.kIn self T.fty)
    (codeAny_mono (F1.run _ X.stack _ _ ⟨[Value.ref (hp.objs.size + 1)], [(("what" : Str), u)]⟩ [Value.ref (hp.objs.size + 1), u] _ (fun w' G => w' = .non ∧ Q (.ref (hp.objs.size + 1)) G) (fun _ _ _ => False) (hr.make C [] [("what", u)]) (I2.env0.make C [] [("what", u)]) (hb.to _ [Value.ref (hp.objs.size + 1)] [u] I2.kIn rfl rfl) r2 ⟨_, C, fI, v, rfl, upd_same, T, fun d hd ne => ⟨rfl, ?_⟩⟩) fun r s' hq' => ?_))
  · obtain ⟨a1, a2⟩ := err_made hn hd ne
    exact q1 _ _ hn a1 a2
  · cases r with
    | error er => exact hq'.elim
    | ok fl =>
      cases fl with
      | ret w' =>
        obtain ⟨v2, H2, J, rv, ev, q2⟩ := I2.after hq'
        subst ev
        exact ⟨rv, ⟨V.ref (hp.objs.size + 1), H2, J, rfl, q2⟩⟩
      | next => exact hq'.elim
      | brk => exact hq'.elim
      | cont => exact hq'.elim
end

end
section
variable {P : Program} {w : World} {K : PySem.W.Frag} {mg : Str → Option Value} {base : Heap}
def top (i : Nat) : Stmt := PySem.Challenge.pw_startlog_k03_no_names.main.body.getD i (.Pass ⟨0, 0, 0, 0⟩)
abbrev sIsName : Stmt := top 10
abbrev sNameNumber : Stmt := top 11
abbrev sNameOf : Stmt := top 12
abbrev sLBox : Stmt := top 14
abbrev sLTake : Stmt := top 15
abbrev sLPick : Stmt := top 16
abbrev sLSame : Stmt := top 17
abbrev sLNameNumber : Stmt := top 18
abbrev sLWholeName : Stmt := top 19
abbrev sLIsName : Stmt := top 20
abbrev sLSpelled : Stmt := top 21
abbrev sLTold : Stmt := top 22
abbrev sLNumber : Stmt := top 23
abbrev sLSpoilt : Stmt := top 24
abbrev sLaw : Stmt := top 25
abbrev sStartErrorInit : Stmt := inClass (top 1) 0
theorem scIsName : FnScope ["thing", "letter"] ["thing"] (defScope sIsName) := ⟨rfl, rfl, rfl, by decide +kernel, rfl, by decide +kernel, by decide +kernel⟩
theorem scNameNumber : FnScope ["name", "number", "letter"] ["name"] (defScope sNameNumber) := ⟨rfl, rfl, rfl, by decide +kernel, rfl, by decide +kernel, by decide +kernel⟩
theorem scNameOf : FnScope ["number", "name", "rest", "figure"] ["number"] (defScope sNameOf) := ⟨rfl, rfl, rfl, by decide +kernel, rfl, by decide +kernel, by decide +kernel⟩
theorem scLBox : FnScope ["_law_script", "_law_k", "_law_cell"] ["_law_script", "_law_k"] (defScope sLBox) := ⟨rfl, rfl, rfl, by decide +kernel, rfl, by decide +kernel, by decide +kernel⟩
theorem scLTake : FnScope ["_law_box_here", "_law_size", "_law_found", "_law_once"] ["_law_box_here", "_law_size"] (defScope sLTake) := ⟨rfl, rfl, rfl, by decide +kernel, rfl, by decide +kernel, by decide +kernel⟩
theorem scLPick : FnScope ["_law_box_here", "_law_things"] ["_law_box_here", "_law_things"] (defScope sLPick) := ⟨rfl, rfl, rfl, by decide +kernel, rfl, by decide +kernel, by decide +kernel⟩
theorem scLSame : FnScope ["_law_found", "_law_due", "_law_one", "_law_two"] ["_law_found", "_law_due"] (defScope sLSame) := ⟨rfl, rfl, rfl, by decide +kernel, rfl, by decide +kernel, by decide +kernel⟩
theorem scLNameNumber : FnScope ["_law_name", "_law_found", "_law_sign"] ["_law_name"] (defScope sLNameNumber) := ⟨rfl, rfl, rfl, by decide +kernel, rfl, by decide +kernel, by decide +kernel⟩
theorem scLWholeName : FnScope ["_law_box_here", "_law_letters", "_law_k"] ["_law_box_here"] (defScope sLWholeName) := ⟨rfl, rfl, rfl, by decide +kernel, rfl, by decide +kernel, by decide +kernel⟩
theorem scLIsName : FnScope ["_law_one", "_law_sign"] ["_law_one"] (defScope sLIsName) := ⟨rfl, rfl, rfl, by decide +kernel, rfl, by decide +kernel, by decide +kernel⟩
theorem scLSpelled : FnScope ["_law_figure", "_law_letters", "_law_rest", "_law_turn"] ["_law_figure"] (defScope sLSpelled) := ⟨rfl, rfl, rfl, by decide +kernel, rfl, by decide +kernel, by decide +kernel⟩
theorem scLTold : FnScope ["_law_number_here", "_law_found", "_law_caught", "error"] ["_law_number_here"] (defScope sLTold) := ⟨rfl, rfl, rfl, by decide +kernel, rfl, by decide +kernel, by decide +kernel⟩
theorem scLNumber : FnScope ["_law_box_here", "_law_near", "_law_figures", "_law_turn", "_law_other", "_law_figure", "_law_beyond", "_law_some_numbers"] ["_law_box_here"] (defScope sLNumber) := ⟨rfl, rfl, rfl, by decide +kernel, rfl, by decide +kernel, by decide +kernel⟩
theorem scLSpoilt : FnScope ["_law_box_here", "_law_one", "_law_every", "_law_at", "_law_way", "_law_sign"] ["_law_box_here", "_law_one"] (defScope sLSpoilt) := ⟨rfl, rfl, rfl, by decide +kernel, rfl, by decide +kernel, by decide +kernel⟩
theorem scLaw : FnScope ["_law_script", "_law_thing", "_law_k", "_law_box_here", "_law_turn", "_law_number_here", "_law_text", "_law_due"] ["_law_script"] (defScope sLaw) := ⟨rfl, rfl, rfl, by decide +kernel, rfl, by decide +kernel, by decide +kernel⟩
theorem scStartErrorInit : FnScope ["self", "what"] ["self", "what"] (defScope sStartErrorInit) := ⟨rfl, rfl, rfl, by decide +kernel, rfl, by decide +kernel, by decide +kernel⟩
/-- the names that are the builtins' own -/
structure Bl (mg : Str → Option Value) : Prop where
  b_ValueError : mg "ValueError" = none
  b_repr : mg "repr" = none
  b_len : mg "len" = none
  b_abs : mg "abs" = none
  b_int : mg "int" = none
  b_isinstance : mg "isinstance" = none
  b_list : mg "list" = none
  b_tuple : mg "tuple" = none
  b_str : mg "str" = none
  b_bool : mg "bool" = none
  b_all : mg "all" = none
  b_zip : mg "zip" = none
  b_range : mg "range" = none
  b_max : mg "max" = none
  b_min : mg "min" = none
  b_enumerate : mg "enumerate" = none
  b_divmod : mg "divmod" = none
def ERRS : List Str := ["StartError", "NoName", "NoRow", "NoBoard", "BadText"]
/-- what the top has written -/
structure Tx (K : PySem.W.Frag) (mg : Str → Option Value) where
  B : Bl mg
  c_LETTERS : ∃ t, mg "LETTERS" = some (.str "abcdefghijklmnopqrstuvwxyz" t)
  c_LONGEST : ∃ t, mg "LONGEST" = some (.int 4 t)
  c_BASE : ∃ t, mg "BASE" = some (.int 27 t)
  fdIsName : FuncData
  FIsName : FunD K "is_name" "is_name" (defArgs sIsName) (defBody sIsName) (defScope sIsName) [] [] (He.ga K "is_name") fdIsName
  gIsName : mg "is_name" = some (.ref (He.ga K "is_name"))
  fdNameNumber : FuncData
  FNameNumber : FunD K "name_number" "name_number" (defArgs sNameNumber) (defBody sNameNumber) (defScope sNameNumber) [] [] (He.ga K "name_number") fdNameNumber
  gNameNumber : mg "name_number" = some (.ref (He.ga K "name_number"))
  fdNameOf : FuncData
  FNameOf : FunD K "name_of" "name_of" (defArgs sNameOf) (defBody sNameOf) (defScope sNameOf) [] [] (He.ga K "name_of") fdNameOf
  gNameOf : mg "name_of" = some (.ref (He.ga K "name_of"))
  fdLBox : FuncData
  FLBox : FunD K "_law_box" "_law_box" (defArgs sLBox) (defBody sLBox) (defScope sLBox) [] [] (He.ga K "_law_box") fdLBox
  gLBox : mg "_law_box" = some (.ref (He.ga K "_law_box"))
  fdLTake : FuncData
  FLTake : FunD K "_law_take" "_law_take" (defArgs sLTake) (defBody sLTake) (defScope sLTake) [] [] (He.ga K "_law_take") fdLTake
  gLTake : mg "_law_take" = some (.ref (He.ga K "_law_take"))
  fdLPick : FuncData
  FLPick : FunD K "_law_pick" "_law_pick" (defArgs sLPick) (defBody sLPick) (defScope sLPick) [] [] (He.ga K "_law_pick") fdLPick
  gLPick : mg "_law_pick" = some (.ref (He.ga K "_law_pick"))
  fdLSame : FuncData
  FLSame : FunD K "_law_same" "_law_same" (defArgs sLSame) (defBody sLSame) (defScope sLSame) [] [] (He.ga K "_law_same") fdLSame
  gLSame : mg "_law_same" = some (.ref (He.ga K "_law_same"))
  fdLNameNumber : FuncData
  FLNameNumber : FunD K "_law_name_number" "_law_name_number" (defArgs sLNameNumber) (defBody sLNameNumber) (defScope sLNameNumber) [] [] (He.ga K "_law_name_number") fdLNameNumber
  gLNameNumber : mg "_law_name_number" = some (.ref (He.ga K "_law_name_number"))
  fdLWholeName : FuncData
  FLWholeName : FunD K "_law_whole_name" "_law_whole_name" (defArgs sLWholeName) (defBody sLWholeName) (defScope sLWholeName) [] [] (He.ga K "_law_whole_name") fdLWholeName
  gLWholeName : mg "_law_whole_name" = some (.ref (He.ga K "_law_whole_name"))
  fdLIsName : FuncData
  FLIsName : FunD K "_law_is_name" "_law_is_name" (defArgs sLIsName) (defBody sLIsName) (defScope sLIsName) [] [] (He.ga K "_law_is_name") fdLIsName
  gLIsName : mg "_law_is_name" = some (.ref (He.ga K "_law_is_name"))
  fdLSpelled : FuncData
  FLSpelled : FunD K "_law_spelled" "_law_spelled" (defArgs sLSpelled) (defBody sLSpelled) (defScope sLSpelled) [] [] (He.ga K "_law_spelled") fdLSpelled
  gLSpelled : mg "_law_spelled" = some (.ref (He.ga K "_law_spelled"))
  fdLTold : FuncData
  FLTold : FunD K "_law_told" "_law_told" (defArgs sLTold) (defBody sLTold) (defScope sLTold) [] [] (He.ga K "_law_told") fdLTold
  gLTold : mg "_law_told" = some (.ref (He.ga K "_law_told"))
  fdLNumber : FuncData
  FLNumber : FunD K "_law_number" "_law_number" (defArgs sLNumber) (defBody sLNumber) (defScope sLNumber) [] [] (He.ga K "_law_number") fdLNumber
  gLNumber : mg "_law_number" = some (.ref (He.ga K "_law_number"))
  fdLSpoilt : FuncData
  FLSpoilt : FunD K "_law_spoilt" "_law_spoilt" (defArgs sLSpoilt) (defBody sLSpoilt) (defScope sLSpoilt) [] [] (He.ga K "_law_spoilt") fdLSpoilt
  gLSpoilt : mg "_law_spoilt" = some (.ref (He.ga K "_law_spoilt"))
  fdLaw : FuncData
  FLaw : FunD K "law" "law" (defArgs sLaw) (defBody sLaw) (defScope sLaw) [] [] (He.ga K "law") fdLaw
  gLaw : mg "law" = some (.ref (He.ga K "law"))
  fdStartErrorInit : FuncData
  FStartErrorInit : FunD K "__init__" "StartError.__init__" (defArgs sStartErrorInit) (defBody sStartErrorInit) (defScope sStartErrorInit) [] [] (He.ma K (He.ga K "StartError") "__init__") fdStartErrorInit
  gStartError : mg "StartError" = some (.ref (He.ga K "StartError"))
  gNoName : mg "NoName" = some (.ref (He.ga K "NoName"))
  gNoRow : mg "NoRow" = some (.ref (He.ga K "NoRow"))
  gNoBoard : mg "NoBoard" = some (.ref (He.ga K "NoBoard"))
  gBadText : mg "BadText" = some (.ref (He.ga K "BadText"))
  er : errOk K "StartError" ERRS = true
theorem Tx.bIsName {K : PySem.W.Frag} {mg : Str → Option Value} (T : Tx K mg) : Binds K T.fdIsName ["thing"] [] := T.FIsName.bindsN fun _ _ _ _ _ _ us hl => match us, hl with | [_], _ => rfl
theorem Tx.bNameNumber {K : PySem.W.Frag} {mg : Str → Option Value} (T : Tx K mg) : Binds K T.fdNameNumber ["name"] [] := T.FNameNumber.bindsN fun _ _ _ _ _ _ us hl => match us, hl with | [_], _ => rfl
theorem Tx.bNameOf {K : PySem.W.Frag} {mg : Str → Option Value} (T : Tx K mg) : Binds K T.fdNameOf ["number"] [] := T.FNameOf.bindsN fun _ _ _ _ _ _ us hl => match us, hl with | [_], _ => rfl
theorem Tx.bLBox {K : PySem.W.Frag} {mg : Str → Option Value} (T : Tx K mg) : Binds K T.fdLBox ["_law_script", "_law_k"] [] := T.FLBox.bindsN fun _ _ _ _ _ _ us hl => match us, hl with | [_, _], _ => rfl
theorem Tx.bLTake {K : PySem.W.Frag} {mg : Str → Option Value} (T : Tx K mg) : Binds K T.fdLTake ["_law_box_here", "_law_size"] [] := T.FLTake.bindsN fun _ _ _ _ _ _ us hl => match us, hl with | [_, _], _ => rfl
theorem Tx.bLPick {K : PySem.W.Frag} {mg : Str → Option Value} (T : Tx K mg) : Binds K T.fdLPick ["_law_box_here", "_law_things"] [] := T.FLPick.bindsN fun _ _ _ _ _ _ us hl => match us, hl with | [_, _], _ => rfl
theorem Tx.bLSame {K : PySem.W.Frag} {mg : Str → Option Value} (T : Tx K mg) : Binds K T.fdLSame ["_law_found", "_law_due"] [] := T.FLSame.bindsN fun _ _ _ _ _ _ us hl => match us, hl with | [_, _], _ => rfl
theorem Tx.bLNameNumber {K : PySem.W.Frag} {mg : Str → Option Value} (T : Tx K mg) : Binds K T.fdLNameNumber ["_law_name"] [] := T.FLNameNumber.bindsN fun _ _ _ _ _ _ us hl => match us, hl with | [_], _ => rfl
theorem Tx.bLWholeName {K : PySem.W.Frag} {mg : Str → Option Value} (T : Tx K mg) : Binds K T.fdLWholeName ["_law_box_here"] [] := T.FLWholeName.bindsN fun _ _ _ _ _ _ us hl => match us, hl with | [_], _ => rfl
theorem Tx.bLIsName {K : PySem.W.Frag} {mg : Str → Option Value} (T : Tx K mg) : Binds K T.fdLIsName ["_law_one"] [] := T.FLIsName.bindsN fun _ _ _ _ _ _ us hl => match us, hl with | [_], _ => rfl
theorem Tx.bLSpelled {K : PySem.W.Frag} {mg : Str → Option Value} (T : Tx K mg) : Binds K T.fdLSpelled ["_law_figure"] [] := T.FLSpelled.bindsN fun _ _ _ _ _ _ us hl => match us, hl with | [_], _ => rfl
theorem Tx.bLTold {K : PySem.W.Frag} {mg : Str → Option Value} (T : Tx K mg) : Binds K T.fdLTold ["_law_number_here"] [] := T.FLTold.bindsN fun _ _ _ _ _ _ us hl => match us, hl with | [_], _ => rfl
theorem Tx.bLNumber {K : PySem.W.Frag} {mg : Str → Option Value} (T : Tx K mg) : Binds K T.fdLNumber ["_law_box_here"] [] := T.FLNumber.bindsN fun _ _ _ _ _ _ us hl => match us, hl with | [_], _ => rfl
theorem Tx.bLSpoilt {K : PySem.W.Frag} {mg : Str → Option Value} (T : Tx K mg) : Binds K T.fdLSpoilt ["_law_box_here", "_law_one"] [] := T.FLSpoilt.bindsN fun _ _ _ _ _ _ us hl => match us, hl with | [_, _], _ => rfl
theorem Tx.bLaw {K : PySem.W.Frag} {mg : Str → Option Value} (T : Tx K mg) : Binds K T.fdLaw ["_law_script"] [] := T.FLaw.bindsN fun _ _ _ _ _ _ us hl => match us, hl with | [_], _ => rfl
theorem Tx.bStartErrorInit {K : PySem.W.Frag} {mg : Str → Option Value} (T : Tx K mg) : Binds K T.fdStartErrorInit ["self", "what"] [] := T.FStartErrorInit.bindsN fun _ _ _ _ _ _ us hl => match us, hl with | [_, _], _ => rfl

end
section
variable {P : Program} {w : World} {K : PySem.W.Frag} {mg : Str → Option Value} {base : Heap}
theorem okLBox (T : Tx K mg) : FnOk P w K mg base CX0 1 (He.ga K "_law_box") T.fdLBox ["_law_script", "_law_k"] (spLBox K) := by
  have B := T.B
  refine T.FLBox.ok scLBox (fun vs H Q E h => ?_) (fun cdv A outer s H vs Q E hr h => ?_)
  · obtain ⟨a, ns, k, rfl, _⟩ := h
    rfl
  · obtain ⟨a, ns, k, rfl, hS, hk, q⟩ := h
    refine ⟨_, PSs.nox (pss_cons (ps_set (i := 2) scLBox.nd rfl (.inl rfl) pe_int)
        (pss_cons (ps_if (pt_cmpR op_lt (pv 1) (pe_callB call_len_seq (by rfl) B.b_len PySem.boot_len (pa_cons (pv 0) pa_nil)) (nomark _)) (pss_one (ps_set (i := 2) scLBox.nd rfl (.inl rfl) (pe_ix ix_list (pv 0) (pv 1) (fun _ _ => rfl)))) pss_nil)
        (pss_one (ps_ret (pe_lst (pa_cons (pe_op op_mul (pe_callB call_abs (by rfl) B.b_abs boot_abs (pa_cons (pv 2) pa_nil)) (pe_callTy call_int1 (by rfl) B.b_int PyProof.Rows.boot_int (pa_cons (pe_cmpR op_ge (pe_callB call_abs (by rfl) B.b_abs boot_abs (pa_cons (pv 2) pa_nil)) (pe_op op_pow pe_int pe_int) (nomark _)) pa_nil))) (pa_cons (pe_op op_add (pe_op op_add (pe_op op_mod (pv 2) pe_int) (pe_op op_mul pe_int (pv 1))) pe_int) (pa_cons pe_int pa_nil)))))))), ?_⟩
    have fin : ∀ c : Int, tRet (tLst (tCons (tOp (rI CMul fun i j => .int (i * j)) (tCB (fun xs H Q => ∃ i, xs = [.int i] ∧ Q (.int (if i < 0 then -i else i)) H) (tCons (tVar 2) tNil))
        (tCB (fun xs H Q => (∃ i, xs = [.int i] ∧ Q (.int i) H) ∨ ∃ k, xs = [.bl k] ∧ Q (.int (if k then 1 else 0)) H) (tCons (tOp (rI0 fun i j => .bl (decide (j ≤ i))) (tCB (fun xs H Q => ∃ i, xs = [.int i] ∧ Q (.int (if i < 0 then -i else i)) H) (tCons (tVar 2) tNil)) (tOp (rI CPow fun i j => .int (i ^ j.toNat)) (tC (.int 10)) (tC (.int 18)))) tNil)))
        (tCons (tOp (rI0 fun i j => .int (i + j)) (tOp (rI0 fun i j => .int (i + j)) (tOp (rI (fun _ j => 0 < j) fun i j => .int (i % j)) (tVar 2) (tC (.int 2147483629))) (tOp (rI CMul fun i j => .int (i * j)) (tC (.int 7919)) (tVar 1))) (tC (.int 11))) (tCons (tC (.int 0)) tNil))))
        { nx := fun _ H' => Q .non H', rt := Q } [some (.ref a), some (.int k), some (.int c)] H := by
      intro c
      have hb : ∀ b : Bool, (0 : Int) ≤ (if c < 0 then -c else c) * (if b = true then 1 else 0) := by
        intro b
        cases b <;> simp <;> split <;> omega
      have h1 := Int.emod_nonneg c (b := 2147483629) (by decide)
      have h2 := Int.emod_lt_of_pos c (b := 2147483629) (by decide)
      refine ⟨_, rfl, c, rfl, _, rfl, c, rfl, _, _, rfl, rfl, ⟨by decide, by decide, by decide⟩, _, _, rfl, rfl, .inr ⟨_, rfl, _, _, rfl, rfl, .inr ⟨?_, ?_⟩, ?_⟩⟩
      · exact bit_lo _
      · exact bit_hi _
      · refine ⟨_, rfl, _, _, rfl, rfl, (show (0 : Int) < 2147483629 by decide), _, rfl, _, _, rfl, rfl, .inl ⟨by decide, by decide⟩, _, _, rfl, rfl, _, _, rfl, rfl, by show 3 ≤ sizeLine; decide, fun p hp => ?_⟩
        exact q p _ _ hp (hb _) (by omega) (by omega)
    refine ⟨_, rfl, _, rfl, a, _, rfl, .inl hS, _, _, rfl, rfl, _, rfl, ite2 (fun e => ?_) (fun e => ?_)⟩
    · have hlt : k < ns.length := by
        have := of_decide_eq_true e
        rw [List.length_map] at this
        omega
      refine ⟨_, rfl, _, rfl, a, _, _, _, rfl, rfl, hS, at_of (j := k) (v := .int ns[k]) rfl (by rw [List.getElem?_map, List.getElem?_eq_getElem hlt]; rfl), ?_⟩
      exact fin _
    · exact fin _
theorem okLTake (T : Tx K mg) : FnOk P w K mg base CX0 1 (He.ga K "_law_take") T.fdLTake ["_law_box_here", "_law_size"] spLTake := by
  have B := T.B
  refine T.FLTake.ok scLTake (fun vs H Q E h => ?_) (fun cdv A outer s H vs Q E hr h => ?_)
  · obtain ⟨p, m, n, rfl, _⟩ := h
    rfl
  · obtain ⟨p, m, n, rfl, hB, hn, hm, hm2, q⟩ := h
    refine ⟨_, PSs.nox (pss_cons (ps_if (pt_cmpR op_gt (pe_ix ix_list (pv 0) pe_int (fun _ _ => rfl)) pe_int (nomark _)) (pss_cons (ps_set (i := 2) scLTake.nd rfl (.inl rfl) (pe_op op_mod (pe_ix ix_list (pv 0) pe_int (fun _ _ => rfl)) (pv 1)))
        (pss_cons (ps_asg (pe_op op_fdivW (pe_ix ix_list (pv 0) pe_int (fun _ _ => rfl)) (pv 1)) (pg_sub (pv 0) pe_int set_list))
        (pss_one (ps_ret (pv 2))))) pss_nil)
        (pss_cons (ps_asg (pe_op op_add (pe_ix ix_list (pv 0) pe_int (fun _ _ => rfl)) pe_int) (pg_sub (pv 0) pe_int set_list))
        (pss_cons (ps_set (i := 3) scLTake.nd rfl (.inl rfl) (pe_op op_mod (pe_op op_pow (pe_op op_add (pe_ix ix_list (pv 0) pe_int (fun _ _ => rfl)) (pe_op op_mul pe_int (pe_ix ix_list (pv 0) pe_int (fun _ _ => rfl)))) pe_int) pe_int))
        (pss_one (ps_ret (pe_op op_mod (pe_op op_fdiv (pe_op op_mod (pe_op op_add (pe_op op_mul (pv 3) (pe_op op_add (pe_op op_mod (pv 3) pe_int) pe_int)) (pe_op op_mul (pe_ix ix_list (pv 0) pe_int (fun _ _ => rfl)) pe_int)) pe_int) pe_int) (pv 1))))))), ?_⟩
    obtain ⟨x, y, z, hp, hx, hy, hy2, hz, hzn⟩ := hB
    have hm3 : m.natAbs < 340282366920938463463374607431768211456 := by omega
    refine ⟨_, rfl, p, _, 0, .int x, rfl, rfl, SqL.of hp, atI_nat (j := 0) rfl, _, _, rfl, rfl, _, rfl, ite2 (fun e => ?_) (fun e => ?_)⟩
    · refine ⟨_, rfl, p, _, 0, .int x, rfl, rfl, SqL.of hp, atI_nat (j := 0) rfl, _, rfl, _, _, rfl, rfl, hm, ?_⟩
      refine ⟨_, rfl, p, _, 0, .int x, rfl, rfl, SqL.of hp, atI_nat (j := 0) rfl, _, rfl, _, _, rfl, rfl, wide_div (b := 128) hm hm3 (by decide) (by decide), ?_⟩
      refine ⟨_, rfl, p, _, 0, 0, rfl, rfl, hp, rfl, _, rfl, ?_⟩
      exact q _ _ But.upd ⟨_, y, z, upd_same, Int.ediv_nonneg hx (Int.le_of_lt hm), hy, hy2, hz, by omega⟩ (Int.emod_nonneg _ (by omega)) (Int.emod_lt_of_pos _ hm)
    · refine ⟨_, rfl, p, _, 2, .int z, rfl, rfl, SqL.of hp, atI_nat (j := 2) rfl, _, _, rfl, rfl, _, rfl, p, _, 2, 2, rfl, rfl, hp, rfl, ?_⟩
      have hp2 : upd H p (.lst [.int x, .int y, .int (z + 1)]) p = some (.lst [.int x, .int y, .int (z + 1)]) := upd_same
      refine ⟨_, rfl, p, _, 1, .int y, rfl, rfl, SqL.of hp2, atI_nat (j := 1) rfl, _, rfl, p, _, 2, .int (z + 1), rfl, rfl, SqL.of hp2, atI_nat (j := 2) rfl, _, _, rfl, rfl, .inl ⟨by decide, by decide⟩, _, _, rfl, rfl, _, _, rfl, rfl, ⟨by decide, by decide, ?_⟩, _, _, rfl, rfl, (show (0 : Int) < 2147483647 by decide), ?_⟩
      · have : (y + 39373 * (z + 1)).natAbs < 18446744073709551616 := by omega
        exact this
      · refine ⟨_, rfl, _, rfl, _, _, rfl, rfl, (show (0 : Int) < 40009 by decide), _, _, rfl, rfl, _, _, rfl, rfl, .inr ⟨?_, ?_⟩, _, rfl, p, _, 2, .int (z + 1), rfl, rfl, SqL.of hp2, atI_nat (j := 2) rfl, _, _, rfl, rfl, .inr ⟨by decide, by decide⟩, _, _, rfl, rfl, _, _, rfl, rfl, (show (0 : Int) < 2147483629 by decide), _, _, rfl, rfl, ⟨by decide, by decide⟩, _, rfl, _, _, rfl, rfl, hm, ?_⟩
        · have h1 := Int.emod_nonneg ((y + 39373 * (z + 1)) ^ 5 % 2147483647) (b := 40009) (by decide)
          have : -18446744073709551616 < ((y + 39373 * (z + 1)) ^ 5 % 2147483647) % 40009 + 7 := by omega
          exact this
        · have h1 := Int.emod_lt_of_pos ((y + 39373 * (z + 1)) ^ 5 % 2147483647) (b := 40009) (by decide)
          have : ((y + 39373 * (z + 1)) ^ 5 % 2147483647) % 40009 + 7 < 18446744073709551616 := by omega
          exact this
        · exact q _ _ But.upd ⟨x, y, z + 1, hp2, hx, hy, hy2, by omega, by omega⟩ (Int.emod_nonneg _ (by omega)) (Int.emod_lt_of_pos _ hm)
end
section
variable {P : Program} {w : World} {K : PySem.W.Frag} {mg : Str → Option Value} {base : Heap}
theorem okLSame (T : Tx K mg) : ∀ n : Nat, FnOk P w K mg base CX0 n (He.ga K "_law_same") T.fdLSame ["_law_found", "_law_due"] (spLSame K n)
  | 0 => ⟨fun vs H Q E h => by obtain ⟨x, y, d, _, _, _, h, _, _⟩ := h; exact absurd h (Nat.not_lt_zero _), fun A outer s H args us vs Q E _ _ _ _ h => by obtain ⟨x, y, d, _, _, _, h, _, _⟩ := h; exact absurd h (Nat.not_lt_zero _)⟩
  | n + 1 => by
    have GLSame : FnOk P w K mg base CX0 n (He.ga K "_law_same") T.fdLSame ["_law_found", "_law_due"] (spLSame K n) := okLSame T n
    have B := T.B
    have bLSame := T.bLSame
    refine T.FLSame.ok scLSame (fun vs H Q E h => ?_) (fun cdv A outer s H vs Q E hr h => ?_)
    · obtain ⟨x, y, d, rfl, _⟩ := h
      rfl
    · obtain ⟨x, y, d, rfl, hx, hy, hd, hw, q⟩ := h
      refine ⟨_, PSs.nox (pss_cons (ps_if (pt_val (pe_callB call_isiT (by rfl) B.b_isinstance boot_isinstance (pa_cons (pv 1) (pa_cons (pe_tup (pa_cons (pe_bltn (v := .ty "list") (by rfl) B.b_list PyProof.Rows.boot_list rfl) (pa_cons (pe_bltn (v := .ty "tuple") (by rfl) B.b_tuple PyProof.Rows.boot_tuple rfl) pa_nil))) pa_nil)))) (pss_cons (ps_if (PW.pt (pw_or (pt_cmpR op_ne (pe_callB call_isi (by rfl) B.b_isinstance boot_isinstance (pa_cons (pv 0) (pa_cons (pe_bltn (v := .ty "list") (by rfl) B.b_list PyProof.Rows.boot_list rfl) pa_nil))) (pe_callB call_isi (by rfl) B.b_isinstance boot_isinstance (pa_cons (pv 1) (pa_cons (pe_bltn (v := .ty "list") (by rfl) B.b_list PyProof.Rows.boot_list rfl) pa_nil))) (nomark _)) (pw_or1 (pt_cmpR op_ne (pe_callB call_isi (by rfl) B.b_isinstance boot_isinstance (pa_cons (pv 0) (pa_cons (pe_bltn (v := .ty "tuple") (by rfl) B.b_tuple PyProof.Rows.boot_tuple rfl) pa_nil))) (pe_callB call_isi (by rfl) B.b_isinstance boot_isinstance (pa_cons (pv 1) (pa_cons (pe_bltn (v := .ty "tuple") (by rfl) B.b_tuple PyProof.Rows.boot_tuple rfl) pa_nil))) (nomark _))))) (pss_one (ps_ret pe_bl)) pss_nil)
        (pss_cons (ps_if (pt_cmpR op_ne (pe_callB call_len_seq (by rfl) B.b_len PySem.boot_len (pa_cons (pv 0) pa_nil)) (pe_callB call_len_seq (by rfl) B.b_len PySem.boot_len (pa_cons (pv 1) pa_nil)) (nomark _)) (pss_one (ps_ret pe_bl)) pss_nil)
        (pss_one (ps_ret (pe_callB (cr_all rfl) (by rfl) B.b_all boot_all (pa_cons (pe_lc (own := [("_law_one", 2), ("_law_two", 3)]) (g := gTup K 2 (gCons (gName 2) (gCons (gName 3) gNil))) (tt := tYes) (by rfl) scLSame.nd (RZ.pi_zipA (by rfl) B.b_zip (pa_cons (pv 0) (pa_cons (pv 1) pa_nil))) (blkOk_by (own := [("_law_one", 2), ("_law_two", 3)]) (N := ["_law_found", "_law_due", "_law_one", "_law_two"]) (sc := defScope sLSame) (by decide +kernel)) (fun _ _ _ _ _ => by exact (pg_tup rfl (pgs_cons (pg_name (i := 2) scLSame.nd rfl (Or.inl rfl)) (pgs_cons (pg_name (i := 3) scLSame.nd rfl (Or.inl rfl)) pgs_nil)))) (fun _ _ _ _ _ => pts_nil) (fun _ _ _ _ _ => (pe_call GLSame hr (by rfl) T.gLSame T.FLSame.kp bLSame .nil pass0 (pa_cons (pv 2) (pa_cons (pv 3) pa_nil))))) pa_nil)))))) pss_nil)
        (pss_cons (ps_if (PW.pt (pw_or (pt_cmpR op_isN (pv 1) pe_non (nomark _)) (pw_or1 (pt_val (pe_callB call_isi (by rfl) B.b_isinstance boot_isinstance (pa_cons (pv 1) (pa_cons (pe_bltn (v := .ty "str") (by rfl) B.b_str PyProof.Rows.boot_str rfl) pa_nil))))))) (pss_one (ps_ret (pe_and (pe_cmpR op_eq (pv 0) (pv 1) (nomark _)) (pe_one (pe_cmpR op_eq (pe_callB call_isi (by rfl) B.b_isinstance boot_isinstance (pa_cons (pv 0) (pa_cons (pe_bltn (v := .ty "str") (by rfl) B.b_str PyProof.Rows.boot_str rfl) pa_nil))) (pe_callB call_isi (by rfl) B.b_isinstance boot_isinstance (pa_cons (pv 1) (pa_cons (pe_bltn (v := .ty "str") (by rfl) B.b_str PyProof.Rows.boot_str rfl) pa_nil))) (nomark _)))))) pss_nil)
        (pss_one (ps_ret (pe_and (pe_callB call_isi (by rfl) B.b_isinstance boot_isinstance (pa_cons (pv 0) (pa_cons (pe_bltn (v := .ty "int") (by rfl) B.b_int PyProof.Rows.boot_int rfl) pa_nil))) (pe_and (pe_cmpR op_eq (pe_callB call_isi (by rfl) B.b_isinstance boot_isinstance (pa_cons (pv 0) (pa_cons (pe_bltn (v := .ty "bool") (by rfl) B.b_bool PyProof.Rows.boot_bool rfl) pa_nil))) (pe_callB call_isi (by rfl) B.b_isinstance boot_isinstance (pa_cons (pv 1) (pa_cons (pe_bltn (v := .ty "bool") (by rfl) B.b_bool PyProof.Rows.boot_bool rfl) pa_nil))) (nomark _)) (pe_one (pe_cmpR op_eq (pv 0) (pv 1) (nomark _))))))))), ?_⟩
      refine ⟨_, rfl, (by show 2 ≤ sizeLine; decide), fun tp htp => ?_⟩
      have s1 : Same H (upd H tp (.tup [.ty "list", .ty "tuple"])) := same_new htp
      have hx1 := dp_same s1 d x hx
      have hy1 := dp_same s1 d y hy
      cases d with
      | none =>
        cases hx1; cases hy1
        refine ⟨_, tp, _, _, _, _, rfl, upd_same, cls2, .base .non, kit_none K _ (by decide +kernel) (by decide +kernel), _, rfl, iteF ?_⟩
        refine ⟨_, rfl, rfl, _, rfl, iteT ?_⟩
        refine iteT ?_
        refine ⟨_, rfl, _, rfl, rfl, _, rfl, iteT ?_⟩
        refine ⟨_, rfl, _, _, _, _, _, rfl, .ty _, .base .non, kit_ty (r := false) (by decide +kernel), _, rfl, _, _, _, _, _, rfl, .ty _, .base .non, kit_ty (r := false) (by decide +kernel), rfl, ?_⟩
        exact q _ s1
      | bool z =>
        cases hx1; cases hy1
        refine ⟨_, tp, _, _, _, _, rfl, upd_same, cls2, .base (.bl z), kit_none K _ (by decide +kernel) (by decide +kernel), _, rfl, iteF ?_⟩
        refine ⟨_, rfl, rfl, _, rfl, iteF ?_⟩
        refine ⟨_, rfl, _, _, _, _, _, rfl, .ty _, .base (.bl z), kit_ty (r := false) (by decide +kernel), _, rfl, iteF ?_⟩
        refine ⟨_, rfl, _, _, _, _, _, rfl, .ty _, .base (.bl z), kit_ty (r := true) (by decide +kernel), _, rfl, iteT ?_⟩
        refine ⟨_, rfl, _, _, _, _, _, rfl, .ty _, .base (.bl z), kit_ty (r := true) (by decide +kernel), _, rfl, _, _, _, _, _, rfl, .ty _, .base (.bl z), kit_ty (r := true) (by decide +kernel), rfl, _, rfl, iteT ?_⟩
        refine ⟨_, rfl, _, rfl, rfl, ?_⟩
        rw [decide_eq_true rfl]
        exact q _ s1
      | int z =>
        cases hx1; cases hy1
        refine ⟨_, tp, _, _, _, _, rfl, upd_same, cls2, .base (.int z), kit_none K _ (by decide +kernel) (by decide +kernel), _, rfl, iteF ?_⟩
        refine ⟨_, rfl, rfl, _, rfl, iteF ?_⟩
        refine ⟨_, rfl, _, _, _, _, _, rfl, .ty _, .base (.int z), kit_ty (r := false) (by decide +kernel), _, rfl, iteF ?_⟩
        refine ⟨_, rfl, _, _, _, _, _, rfl, .ty _, .base (.int z), kit_ty (r := true) (by decide +kernel), _, rfl, iteT ?_⟩
        refine ⟨_, rfl, _, _, _, _, _, rfl, .ty _, .base (.int z), kit_ty (r := false) (by decide +kernel), _, rfl, _, _, _, _, _, rfl, .ty _, .base (.int z), kit_ty (r := false) (by decide +kernel), rfl, _, rfl, iteT ?_⟩
        refine ⟨_, rfl, _, rfl, rfl, ?_⟩
        rw [decide_eq_true rfl]
        exact q _ s1
      | str z =>
        cases hx1; cases hy1
        refine ⟨_, tp, _, _, _, _, rfl, upd_same, cls2, .base (.str z), kit_none K _ (by decide +kernel) (by decide +kernel), _, rfl, iteF ?_⟩
        refine ⟨_, rfl, rfl, _, rfl, iteF ?_⟩
        refine ⟨_, rfl, _, _, _, _, _, rfl, .ty _, .base (.str z), kit_ty (r := true) (by decide +kernel), _, rfl, iteT ?_⟩
        refine ⟨_, rfl, _, rfl, rfl, _, rfl, ?_⟩
        rw [decide_eq_true rfl]
        refine iteT ?_
        refine ⟨_, rfl, _, _, _, _, _, rfl, .ty _, .base (.str z), kit_ty (r := true) (by decide +kernel), _, rfl, _, _, _, _, _, rfl, .ty _, .base (.str z), kit_ty (r := true) (by decide +kernel), rfl, ?_⟩
        exact q _ s1
      | list ds =>
        cases hx1 with
        | @lst a xs _ ha da =>
        cases hy1 with
        | @lst c ys _ hc dc =>
        refine ⟨_, tp, _, _, _, _, rfl, upd_same, cls2, ty_list hc, kit_list K, _, rfl, iteT ?_⟩
        refine ⟨_, rfl, _, _, _, _, _, rfl, .ty _, ty_list ha, kit_ty (r := true) (by decide +kernel), _, rfl, _, _, _, _, _, rfl, .ty _, ty_list hc, kit_ty (r := true) (by decide +kernel), rfl, _, rfl, iteF ?_⟩
        refine ⟨_, rfl, _, _, _, _, _, rfl, .ty _, ty_list ha, kit_ty (r := false) (by decide +kernel), _, rfl, _, _, _, _, _, rfl, .ty _, ty_list hc, kit_ty (r := false) (by decide +kernel), rfl, _, rfl, iteF ?_⟩
        have hl : xs.length = ys.length := (dpa_len da).trans (dpa_len dc).symm
        refine ⟨_, rfl, a, xs, rfl, .inl ha, _, rfl, c, ys, rfl, .inl hc, rfl, _, rfl, ?_⟩
        rw [decide_eq_true (by rw [hl])]
        refine iteF ?_
        refine ⟨_, rfl, _, rfl, a, c, xs, ys, rfl, .inl ⟨ha, hc, fun D hD => ?_⟩⟩
        refine lc_it (walk_zip (n := xs.length) (by omega)) (fun i G => Same (upd H tp (.tup [.ty "list", .ty "tuple"])) G ∧ G D = some (.lst (List.replicate i (.bl true)))) ⟨same_new hD, upd_same⟩ (fun i G _ h => ⟨Same.seq h.1 ha, Same.seq h.1 hc⟩) ?_ ?_
        · intro i v G G1 hi hP hy
          obtain ⟨sG, hDG⟩ := hP
          obtain ⟨T, u, v2, rfl, hT, rfl, hu, hv⟩ := hy
          obtain ⟨d1, e1, p1⟩ := dpa_at da hu
          obtain ⟨d2, e2, p2⟩ := dpa_at dc hv
          have ed : d1 = d2 := Option.some.inj (e1.symm.trans e2)
          subst ed
          have sT : Same (upd H tp (.tup [.ty "list", .ty "tuple"])) (upd G T (.tup [u, v2])) := sG.trans (same_new hT)
          have hdep : dep d1 < n := by
            have h1 := deps_at e1
            have h2 : dep.deps ds + 1 < n + 1 := hd
            omega
          have hwid : wid d1 ≤ 1000000 := by
            have h1 := wids_at e1
            have h2 : max ds.length (wid.wids ds) ≤ 1000000 := hw
            omega
          refine ⟨T, [u, v2], rfl, .inl (.inl upd_same), rfl, u, [v2], rfl, v2, [], rfl, rfl, ?_⟩
          refine ⟨rfl, ?_⟩
          unfold tYes
          refine iteT ?_
          refine ⟨_, rfl, _, rfl, u, v2, d1, rfl, dp_same sT _ _ p1, dp_same sT _ _ p2, hdep, hwid, fun G2 s2 => ?_⟩
          have hD2 : G2 D = some (.lst (List.replicate i (.bl true))) := s2 _ _ (same_new hT _ _ hDG)
          refine ⟨_, hD2, ?_, ?_, ?_⟩
          · rw [List.length_replicate]
            exact small6 (by have h1 : max ds.length (wid.wids ds) ≤ 1000000 := hw; have h2 := dpa_len da; omega)
          · intro b o e
            have hb : b ≠ D := ne_of_none e hD
            rw [upd_ne hb]
            exact s2 _ _ (sT _ _ e)
          · rw [upd_same, List.replicate_succ']
        · intro G hP
          obtain ⟨sG, hDG⟩ := hP
          have eb : List.replicate xs.length (V.bl true) = (List.replicate xs.length true).map V.bl := by rw [List.map_replicate]
          rw [eb] at hDG
          refine ⟨D, _, rfl, .inl (.inl hDG), ?_⟩
          rw [all_rep]
          exact q _ (s1.trans sG)
      | tuple ds =>
        cases hx1 with
        | @tup a xs _ ha da =>
        cases hy1 with
        | @tup c ys _ hc dc =>
        refine ⟨_, tp, _, _, _, _, rfl, upd_same, cls2, ty_tup hc, kit_tup K, _, rfl, iteT ?_⟩
        refine ⟨_, rfl, _, _, _, _, _, rfl, .ty _, ty_tup ha, kit_ty (r := false) (by decide +kernel), _, rfl, _, _, _, _, _, rfl, .ty _, ty_tup hc, kit_ty (r := false) (by decide +kernel), rfl, _, rfl, iteF ?_⟩
        refine ⟨_, rfl, _, _, _, _, _, rfl, .ty _, ty_tup ha, kit_ty (r := true) (by decide +kernel), _, rfl, _, _, _, _, _, rfl, .ty _, ty_tup hc, kit_ty (r := true) (by decide +kernel), rfl, _, rfl, iteF ?_⟩
        have hl : xs.length = ys.length := (dpa_len da).trans (dpa_len dc).symm
        refine ⟨_, rfl, a, xs, rfl, .inr ha, _, rfl, c, ys, rfl, .inr hc, rfl, _, rfl, ?_⟩
        rw [decide_eq_true (by rw [hl])]
        refine iteF ?_
        refine ⟨_, rfl, _, rfl, a, c, xs, ys, rfl, .inr ⟨ha, hc, fun D hD => ?_⟩⟩
        refine lc_it (walk_zipT hl) (fun i G => Same (upd H tp (.tup [.ty "list", .ty "tuple"])) G ∧ G D = some (.lst (List.replicate i (.bl true)))) ⟨same_new hD, upd_same⟩ (fun i G _ h => ⟨seqT_same h.1 ha, seqT_same h.1 hc⟩) ?_ ?_
        · intro i v G G1 hi hP hy
          obtain ⟨sG, hDG⟩ := hP
          obtain ⟨T, u, v2, rfl, hT, rfl, hu, hv⟩ := hy
          obtain ⟨d1, e1, p1⟩ := dpa_at da hu
          obtain ⟨d2, e2, p2⟩ := dpa_at dc hv
          have ed : d1 = d2 := Option.some.inj (e1.symm.trans e2)
          subst ed
          have sT : Same (upd H tp (.tup [.ty "list", .ty "tuple"])) (upd G T (.tup [u, v2])) := sG.trans (same_new hT)
          have hdep : dep d1 < n := by
            have h1 := deps_at e1
            have h2 : dep.deps ds + 1 < n + 1 := hd
            omega
          have hwid : wid d1 ≤ 1000000 := by
            have h1 := wids_at e1
            have h2 : max ds.length (wid.wids ds) ≤ 1000000 := hw
            omega
          refine ⟨T, [u, v2], rfl, .inl (.inl upd_same), rfl, u, [v2], rfl, v2, [], rfl, rfl, ?_⟩
          refine ⟨rfl, ?_⟩
          unfold tYes
          refine iteT ?_
          refine ⟨_, rfl, _, rfl, u, v2, d1, rfl, dp_same sT _ _ p1, dp_same sT _ _ p2, hdep, hwid, fun G2 s2 => ?_⟩
          have hD2 : G2 D = some (.lst (List.replicate i (.bl true))) := s2 _ _ (same_new hT _ _ hDG)
          refine ⟨_, hD2, ?_, ?_, ?_⟩
          · rw [List.length_replicate]
            exact small6 (by have h1 : max ds.length (wid.wids ds) ≤ 1000000 := hw; have h2 := dpa_len da; omega)
          · intro b o e
            have hb : b ≠ D := ne_of_none e hD
            rw [upd_ne hb]
            exact s2 _ _ (sT _ _ e)
          · rw [upd_same, List.replicate_succ']
        · intro G hP
          obtain ⟨sG, hDG⟩ := hP
          have eb : List.replicate xs.length (V.bl true) = (List.replicate xs.length true).map V.bl := by rw [List.map_replicate]
          rw [eb] at hDG
          refine ⟨D, _, rfl, .inl (.inl hDG), ?_⟩
          rw [all_rep]
          exact q _ (s1.trans sG)
      | dict ds => cases hx1

end
section
variable {P : Program} {w : World} {K : PySem.W.Frag} {mg : Str → Option Value} {base : Heap}
/-! an error that is caught and kept behind its suite -/
/-- at a: an error of class cls, its dict d -/
def exv (a : Addr) (cls : Value) (d : Option Addr) : HO := .ext fun h => ∃ (oe : Obj) (vs : Array Value), h.get? a = some oe ∧ Zc cls d oe ∧ oe.data = .fields vs
theorem exv_ok {P : Program} {w : World} {H : Hp} {h : Heap} {a : Addr} {cls : Value} {d : Option Addr} {oe : Obj} {vs : Array Value} (e : h.get? a = some oe) (z : Zc cls d oe) (q : oe.data = .fields vs) : ObjOk P w H h a (exv a cls d) :=
  ⟨⟨oe, vs, e, z, q⟩, ⟨oe, e⟩, fun _ _ ⟨o, v, q, r⟩ k => ⟨o, v, k o q, r⟩⟩
theorem exv_at {P : Program} {w : World} {H : Hp} {h : Heap} {a : Addr} {cls : Value} {d : Option Addr} (hok : HOk P w H h) (he : H a = some (exv a cls d)) : ∃ (oe : Obj) (vs : Array Value), h.get? a = some oe ∧ Zc cls d oe ∧ oe.data = .fields vs := by
  have x : ObjOk P w H h a (.ext fun h => ∃ (oe : Obj) (vs : Array Value), h.get? a = some oe ∧ Zc cls d oe ∧ oe.data = .fields vs) := hok a _ he
  exact x.1
/-- an object that stands untracked, and that stood nowhere at the entry, is tracked from here on -/
theorem inv_track {X : Cx} {pins : List (Addr × Obj)} {σ : L2.St} {H : Hp} {s : Shared} {a : Addr} {o : HO} (I : Inv X pins σ H s) (na : H a = none) (new : ObjOk X.prog X.w (upd H a o) s.heap a o) (n0 : X.s_0.heap.get? a = none) (np : ∀ p ∈ X.pn ++ pins, p.1 ≠ a) (nL : a ≠ X.env.locals)
    (nC : ∀ x c, X.env.cells.lookup x = some c → c ≠ a) : Inv X pins σ (upd H a o) s := by
  have ne0 : ∀ b u, X.s_0.heap.get? b = some u → b ≠ a := fun b u e z => by
    rw [z, n0] at e
    cases e
  refine ⟨I.ok, I.os, I.bare, ⟨I.base.keep, I.base.slot, fun b u e n hx => ?_, I.base.there, fun b xs e => ?_, fun b u v e => ?_, fun b ps e => ?_⟩, I.loc, I.cell, ?_, fun x c e => ?_, fun p hp => ?_, fun b u e => ?_, I.len⟩
  · rw [upd_ne (ne0 b u e)]
    exact I.base.free b u e n hx
  · have q := I.base.tups b xs e
    rw [upd_ne (ne_of_none q na)]
    exact q
  · have q := I.base.frzs b u v e
    rw [upd_ne (ne_of_none q na)]
    exact q
  · obtain ⟨m, q⟩ := I.base.tbls b ps e
    exact ⟨m, by rw [upd_ne (ne_of_none q na)]; exact q⟩
  · rw [upd_ne (Ne.symm nL)]
    exact I.free
  · rw [upd_ne (nC x c e)]
    exact I.freeC x c e
  · obtain ⟨e, n, ne, nf, d⟩ := I.pin p hp
    exact ⟨e, by rw [upd_ne (np p hp)]; exact n, ne, nf, d⟩
  · by_cases hb : b = a
    · subst hb
      rw [upd_same] at e
      cases e
      exact new
    · rw [upd_ne hb] at e
      exact (I.hok b u e).stay (fun _ _ _ q => q) (fun c q => by rw [upd_ne (ne_of_none q na)]; exact q) fun c xs q => by rw [upd_ne (ne_of_none q na)]; exact q
/-- a stands nowhere at the entry, is no pin and no cell -/
structure NewAt (X : Cx) (pq : List (Addr × Obj)) (a : Addr) : Prop where
  n0 : X.s_0.heap.get? a = none
  np : ∀ p ∈ X.pn ++ pq, p.1 ≠ a
  nc : ∀ y k, X.env.cells.lookup y = some k → k ≠ a
  nl : a ≠ X.env.locals
  nf : a ∉ X.fs
theorem newAt_of {X : Cx} {pq : List (Addr × Obj)} {r : L2.St} {G : Hp} {t : Shared} {B h : Heap} {a : Addr} {Z : Obj → Prop} (hx : X.ex = []) (hs : X.stack = X.env :: X.outer) (hf : X.env.frame = some X.env.locals) (J : Inv X pq r G t)
    (gr : ∀ b o, t.heap.get? b = some o → b ∉ frs X.stack → B.get? b = some o) (fl : HandSPX.FlyingZ B (X.env :: X.outer) a Z h) : NewAt X pq a := by
  obtain ⟨oe, vs, he, _, hd⟩ := fl.there
  have out : a ∉ frs (X.env :: X.outer) := fun hm => by
    obtain ⟨_, o', e', z⟩ := fl.2.2.1.mem hm
    rw [he] at e'
    cases e'
    exact z _ hd
  have nI : t.heap.get? a = none := by
    cases e : t.heap.get? a with
    | none => rfl
    | some o =>
      have z := gr a o e (by rw [hs]; exact out)
      rw [fl.2.1] at z
      cases z
  refine ⟨?_, fun p hp z => ?_, fun y k e z => ?_, fun z => out ?_, fun hm => out ?_⟩
  · cases e : X.s_0.heap.get? a with
    | none => rfl
    | some o =>
      obtain ⟨o', z⟩ := J.base.there a o e (by rw [hx]; exact fun z => nomatch z)
      rw [nI] at z
      cases z
  · have e := (J.pin p hp).1
    rw [z, nI] at e
    cases e
  · obtain ⟨v, o, ho, _⟩ := J.cell y k e
    rw [z, nI] at ho
    cases ho
  · exact List.mem_filterMap.mpr ⟨X.env, List.mem_cons_self, by rw [hf, z]⟩
  · obtain ⟨e, he, q⟩ := List.mem_filterMap.mp hm
    exact List.mem_filterMap.mpr ⟨e, List.mem_cons_of_mem _ he, q⟩
end
section
variable {P : Program} {w : World} {K : PySem.W.Frag} {mg : Str → Option Value} {base : Heap}
section
variable {X : Cx} {x n : Str} {c : Value} {i : Nat} {body rest : List Stmt} {b1 : Stmt} {np at1 at2 : Pos} {tb : WX → TS} {ts : Addr → Value → Option Addr → TS} {Wo : WX}
/-- what the suite is asked for, where the error at a is tracked behind it -/
def keepD (D : Ends) (i : Nat) (a : Addr) (cls : Value) (d : Option Addr) : Ends := { nx := fun r G => D.nx (r.set i none) (upd G a (exv a cls d)), rt := fun v G => D.rt v (upd G a (exv a cls d)), bk := fun r G => D.bk (r.set i none) (upd G a (exv a cls d)), ct := fun r G => D.ct (r.set i none) (upd G a (exv a cls d)) }
/-- what 'except x as n' asks of the body's error -/
def wKeep (K : PySem.W.Frag) (c : Value) (i : Nat) (ts : Addr → Value → Option Addr → TS) (Wo : WX) (D : Ends) : WX := fun cls d r G =>
  ∃ b, PySem.W.exmOne K cls c = some b ∧ (b = true → ∀ a, G a = none → ts a cls d (keepD D i a cls d) (r.set i (some (.ref a))) G) ∧ (b = false → Wo cls d r G)
/-- the suite's end: the name goes, the error stays, tracked -/
theorem keep_end {pq : List (Addr × Obj)} {t : Shared} {D : Ends} {a : Addr} {oe : Obj} {vs : Array Value} {cls : Value} {d : Option Addr} {f : Flow} (ok : X.Ok) (nw : NewAt X pq a) (hz : Zc cls d oe) (hd : oe.data = .fields vs) (hN : X.N.Nodup) (hi : X.N[i]? = some n) (hl : X.env.kindOf n = some .local)
    (S : SP (X.suite a ((a, oe) :: (X.pn ++ pq))) [] (keepD D i a cls d) f t) :
    wpAny (model X.prog X.w) X.A (do bindName X.env n .none; unbindBehindTheSuite X.env n at2) (fun _ t2 => SP X pq D f t2) X.xe t := by
  have go : ∀ {r : L2.St} {G : Hp}, Inv (X.suite a ((a, oe) :: (X.pn ++ pq))) [] r G t → Inv X pq r (upd G a (exv a cls d)) t := fun {r G} S => by
    obtain ⟨e, z, _⟩ := S.pin (a, oe) (List.mem_append_left _ List.mem_cons_self)
    exact inv_track (S.unsuite ok) z (exv_ok e hz hd) nw.n0 nw.np nw.nl nw.nc
  cases f with
  | ret u =>
    obtain ⟨v, r, G, S, rv, q⟩ := S
    exact gone_ok (go S) hN hi hl fun t2 J => ⟨_, _, _, J, rv, q⟩
  | next =>
    obtain ⟨r, G, S, q⟩ := S
    exact gone_ok (go S) hN hi hl fun t2 J => ⟨_, _, J, q⟩
  | brk =>
    obtain ⟨r, G, S, q⟩ := S
    exact gone_ok (go S) hN hi hl fun t2 J => ⟨_, _, J, q⟩
  | cont =>
    obtain ⟨r, G, S, q⟩ := S
    exact gone_ok (go S) hN hi hl fun t2 J => ⟨_, _, J, q⟩
/-- the one clause, looked at by an error in the air -/
theorem keep_clause {pq : List (Addr × Obj)} {D : Ends} {a : Addr} {B : Heap} {tI t : Shared} {r : L2.St} {G : Hp} {cls : Value} {d : Option Addr} (hx : X.ex = []) (hs : X.stack = X.env :: X.outer) (hf : X.env.frame = some X.env.locals) (hN : X.N.Nodup) (hi : X.N[i]? = some n) (hl : X.env.kindOf n = some .local)
    (hc : Names X x c) (tk : Takes X Wo) (hsu : ∀ (a : Addr) (oe : Obj) (cls : Value) (d : Option Addr) (pn : List (Addr × Obj)), Zc cls d oe → (∃ vs, oe.data = .fields vs) → PSs (X.suite a ((a, oe) :: pn)) (b1 :: rest) (ts a cls d))
    (J : Inv X pq r G tI) (gr : ∀ b o, tI.heap.get? b = some o → b ∉ frs X.stack → B.get? b = some o) (up : tI.heap.UpToSlots t.heap) (fl : HandSPX.FlyingZ B (X.env :: X.outer) a (Zc cls d) t.heap) (na : G a = none) (os : t.os = tI.os) (ag : AllBare t.gens) (wk : wKeep X.K c i ts Wo D cls d r G) :
    wpAny (model X.prog X.w) X.A (handleBy (.ref a) X.env [.ExceptHandler (some (.Name x np)) (some n) (b1 :: rest) at2]) (SP X pq D) X.xe t := by
  obtain ⟨b, is, yes, no⟩ := wk
  have nw := newAt_of hx hs hf J gr fl
  have I1 : Inv X pq r G t := J.landed gr fl.1 up os ag
  obtain ⟨o1, v1, h1, z1, d1⟩ := fl.there
  have S1 := I1.suite h1 d1 na nw.nl nw.nf
  refine wpAny_handleBy_cons (codeAny_handlers_test ?_) (fun q => nomatch q)
  have lt : PySem.W.Looks (model X.prog X.w) t.heap (typeOf (.ref a)) cls := fun _ _ _ _ k q => wpAny_typeOf_ref (k _ _ h1) (by rw [z1.1]; exact q)
  have lm := PySem.W.exm_one (M := model X.prog X.w) I1.kIn lt is
  have named : ∀ {Q : Value → Shared → Prop} {F : Value → Shared → Prop}, Q c t → wpAny (model X.prog X.w) (X.A.mark (some (.ref a))) (eval (.Name x np) X.env) Q F t := fun {Q F} q => by
    obtain ⟨g, db, m | ⟨m, bv, nn⟩⟩ := hc
    · exact ld_glob (X := X.suite a ((a, o1) :: (X.pn ++ pq))) S1 g m q db
    · exact ld_blt (X := X.suite a ((a, o1) :: (X.pn ++ pq))) S1 g m bv q nn db
  refine named (lm.here ?_)
  cases b with
  | true =>
    refine codeAny_handlers_suite_as (HandSPX.lands_againZ fl fun h2 fl2 up2 => ?_)
    have I2 : Inv X pq r G { t with heap := h2 } := J.landed gr fl2.1 (up.trans up2) os ag
    obtain ⟨o2, v2, e2, z2, d2⟩ := fl2.there
    refine store_ok (X := X.suite a ((a, o2) :: (X.pn ++ pq))) (v := .ref a) (I2.suite e2 d2 na nw.nl nw.nf) hN hi (.inl hl) rfl (fun t3 S3 => ?_) (.inr hl)
    exact wpAny_mono ((hsu a o2 cls d (X.pn ++ pq) z2 ⟨_, d2⟩).run [] t3 _ G _ S3 (yes rfl a na)) (fun f t4 sp => keep_end J.ok nw z2 d2 hN hi hl sp) fun _ _ z => z.elim
  | false =>
    show wpAny _ X.A (handleBy (.ref a) X.env []) _ _ _
    refine wpAny_handleBy_nil ?_
    obtain ⟨oe, vs, T, oT, tt, he, hz, hd, hT, _⟩ := fl.2.2.2
    unfold PySem.passOn
    refine wpAny_bind (wpAny_field he hd hT ?_)
    rw [if_neg (show ¬ ((Value.ref T == Value.none) = true) from by simp)]
    have fin : wpAny (model X.prog X.w) X.A (setFlight (.ref a) X.env.frame) (fun _ t4 => wpAny (model X.prog X.w) X.A (throw (.ref a) : Sem Flow) (SP X pq D) X.xe t4) X.xe t := by
      rw [hf]
      exact HandSPX.setFlight_upZ fl fun h4 hh up4 => wpAny_throw (tk _ _ ⟨a, B, tI, pq, r, G, cls, d, rfl, J, gr, up.trans up4, .inr (.inr (by rw [hs]; exact hh)), na, os, ag, no rfl⟩)
    first
      | exact wpAny_bind (wpAny_pure (wpAny_bind fin))
      | exact wpAny_bind fin
/-- try: body / except x as n: suite, where the suite may keep the error: it is tracked behind it -/
theorem ps_try_keep (hx : X.ex = []) (hs : X.stack = X.env :: X.outer) (hf : X.env.frame = some X.env.locals) (hN : X.N.Nodup) (hi : X.N[i]? = some n) (hl : X.env.kindOf n = some .local) (hc : Names X x c) (tk : Takes X Wo)
    (hb : ∀ (W : WX) (pn : List (Addr × Obj)) (xe : Value → Shared → Prop), Takes (X.tr pn xe) W → PassesOwn (model X.prog X.w) X.A X.env xe → PSs (X.tr pn xe) body (tb W))
    (hsu : ∀ (a : Addr) (oe : Obj) (cls : Value) (d : Option Addr) (pn : List (Addr × Obj)), Zc cls d oe → (∃ vs, oe.data = .fields vs) → PSs (X.suite a ((a, oe) :: pn)) (b1 :: rest) (ts a cls d)) :
    PS X (.Try body [.ExceptHandler (some (.Name x np)) (some n) (b1 :: rest) at2] [] [] at1) (fun D r G => tb (wKeep X.K c i ts Wo D) D r G) := by
  refine ⟨fun pq s r G D I h => wpAny_Try_except ?_⟩
  have fr : X.A.frames = some (X.env :: X.outer) := by rw [I.ok.frames, hs]
  refine wpAny_mono ((hb (wKeep X.K c i ts Wo D) (X.pn ++ pq) (fun e t1 => wpAny (model X.prog X.w) X.A (noteFrame e X.env) (fun _ t2 => wpAny (model X.prog X.w) X.A (setFlight e none) (fun _ t3 =>
    wpAny (model X.prog X.w) X.A (handleBy e X.env [.ExceptHandler (some (.Name x np)) (some n) (b1 :: rest) at2]) (SP X pq D) X.xe t3) X.xe t2) X.xe t1) (fun u t z => ?_) PassesOwn.looking).run [] s r G D (I.toTry _) h) (fun f t z => ?_) (fun _ _ z => z)
  · obtain ⟨a, B, tI, _, r', G', cls, d, rfl, J, gr, up, sky, na, os, ag, wk⟩ := z
    refine Sky.land Zc.steady fr hf (by rw [← hs]; exact sky) fun h3 fl up3 => ?_
    exact keep_clause (t := { t with heap := h3 }) hx hs hf hN hi hl hc tk hsu (J.ofTry I.ok) gr (up.trans up3) fl na os ag wk
  · cases f with
    | ret u =>
      obtain ⟨v, r', G', J, rv, q⟩ := z
      exact ⟨v, r', G', J.ofTry I.ok, rv, q⟩
    | next =>
      obtain ⟨r', G', J, q⟩ := z
      exact wpAny_execs_nil ⟨r', G', J.ofTry I.ok, q⟩
    | brk =>
      obtain ⟨r', G', J, q⟩ := z
      exact ⟨r', G', J.ofTry I.ok, q⟩
    | cont =>
      obtain ⟨r', G', J, q⟩ := z
      exact ⟨r', G', J.ofTry I.ok, q⟩
end
end
section
variable {P : Program} {w : World} {K : PySem.W.Frag} {mg : Str → Option Value} {base : Heap}
/-- a caught error of the class at C at a; it bears v -/
def Caught (H : Hp) (a C : Addr) (v : V) : Prop := ∃ d fs, H a = some (exv a (.ref C) (some d)) ∧ H d = some (.xd fs) ∧ fs.lookup ("what" : Str) = some v
theorem Caught.same {H G : Hp} {a C : Addr} {v : V} (e : Caught H a C v) (s : Same H G) : Caught G a C v := by
  obtain ⟨d, fs, h1, h2, h3⟩ := e
  exact ⟨d, fs, s _ _ h1, s _ _ h2, h3⟩
theorem inst_caught {X : Cx} {pins : List (Addr × Obj)} {σ : L2.St} {H : Hp} {s : Shared} {a C : Addr} {v : V} (I : Inv X pins σ H s) (e : Caught H a C v) :
    ∃ oe od u, PySem.W.InstAt s.heap a oe C (some od) ∧ PySem.W.lookIn "what" od = some (some u) ∧ RelV v u := by
  obtain ⟨d, fs, h1, h2, h3⟩ := e
  obtain ⟨oe, vs, q1, z, q2⟩ := exv_at I.hok h1
  obtain ⟨mA, hn, hr⟩ : ObjOk X.prog X.w H s.heap d (.xd fs) := I.hok d _ h2
  obtain ⟨od, ho, hl⟩ := lookIn_ns hn
  obtain ⟨u, hu, ru⟩ := RelO.some_of (v := v) (o := mA "what") (by rw [← h3]; exact hr "what")
  exact ⟨oe, od, u, ⟨q1, z.1, by unfold PySem.W.notCls; rw [q2] <;> rfl, by rw [z.2]; exact ho⟩, by rw [hl, hu], ru⟩
/-- isinstance(e, c) of a caught one -/
def rIsC (K : PySem.W.Frag) : List V → Hp → VK → Prop := fun xs H Q => ∃ (a D fI : Addr) (w c : V) (u : Value) (b : Bool), xs = [.ref a, c] ∧ ClsV c u ∧ Caught H a D w ∧ ECl K D fI ∧ PySem.W.kitOne K (.ref D) u = some b ∧ Q (.bl b) H
theorem call_isC {X : Cx} : CallR X (.builtin "isinstance") (rIsC X.K) := by
  intro pins s σ H xs us Q I r h
  obtain ⟨a, D, fI, w, c, u, b, rfl, hc, he, T, hk, q⟩ := h
  obtain ⟨u1, u2, rfl, r1, r2⟩ := vals2 r
  obtain rfl : u1 = Value.ref a := r1
  have e2 := hc.eq r2
  subst e2
  obtain ⟨oe, od, z, J, _, _⟩ := inst_caught I he
  have hcl : (PySem.W.clsIn X.K D).isSome = true := by
    have := T.hd
    unfold PySem.W.hasDictIn at this
    cases e : PySem.W.clsIn X.K D with
    | none => rw [e] at this; cases this
    | some _ => rfl
  exact PySem.W.kia_one (PySem.W.kitx_exc (od := some od) hcl T.ga T.gg T.ox.exC T.cl T.sp T.tk T.mo) I.kIn J hk (fun z => nomatch z) fun tk => ⟨.bl b, H, I.tok tk, rfl, q⟩
/-- isinstance(e, (c1, c2, ..)) of a caught one -/
def rIsCT (K : PySem.W.Frag) : List V → Hp → VK → Prop := fun xs H Q => ∃ (a D fI tp : Addr) (w : V) (cs : List V) (us : List Value) (b : Bool), xs = [.ref a, .ref tp] ∧ H tp = some (.tup cs) ∧ Paired ClsV cs us ∧ Caught H a D w ∧ ECl K D fI ∧ PySem.W.kitAny K (.ref D) us = some b ∧ Q (.bl b) H
theorem call_isCT {X : Cx} : CallR X (.builtin "isinstance") (rIsCT X.K) := by
  intro pins s σ H xs us Q I r h
  obtain ⟨a, D, fI, tp, w, cs, ws, b, rfl, hT, k, he, T, hk, q⟩ := h
  obtain ⟨u1, u2, rfl, r1, r2⟩ := vals2 r
  obtain rfl : u1 = Value.ref a := r1
  obtain rfl : u2 = Value.ref tp := r2
  obtain ⟨oe, od, z, J, _, _⟩ := inst_caught I he
  have hcl : (PySem.W.clsIn X.K D).isSome = true := by
    have := T.hd
    unfold PySem.W.hasDictIn at this
    cases e : PySem.W.clsIn X.K D with
    | none => rw [e] at this; cases this
    | some _ => rfl
  obtain ⟨_, its, rv, o, h1, h2, n, h3⟩ : ObjOk X.prog X.w H s.heap tp (.tup cs) := I.hok tp _ hT
  obtain rfl := ClsV.all k rv
  obtain ⟨oc, od2, dt, sl⟩ := o
  dsimp only at h2 h3
  subst h2 h3
  exact PySem.W.kia_tup (PySem.W.kitx_exc (od := some od) hcl T.ga T.gg T.ox.exC T.cl T.sp T.tk T.mo) I.kIn J h1 hk (fun z => nomatch z) fun tk => ⟨.bl b, H, I.tok tk, rfl, q⟩
/-- e.what of a caught one -/
def tWhatC (K : PySem.W.Frag) (te : TE) : TE := fun σ H Q => te σ H fun x H1 => ∃ (a D fI : Addr) (v : V), x = .ref a ∧ Caught H1 a D v ∧ ECl K D fI ∧ Q v H1
theorem pe_whatC {X : Cx} {e : Expr} {te : TE} {pos : Pos} (he : PE X e te) (hb : attributeBase e "what" X.env (eval e X.env) = eval e X.env := by rfl) : PE X (.Attribute e "what" pos) (tWhatC X.K te) := by
  refine ⟨fun pins s σ H Q I h => ?_⟩
  refine attr_of hb (thn (he.run pins s σ H _ I h) fun u s1 hh => ?_)
  obtain ⟨x, H1, I1, rx, a, D, fI, v, ex, er, T, q⟩ := hh
  subst ex
  obtain rfl : u = Value.ref a := rx
  obtain ⟨oe, od, z, J, hl, rz⟩ := inst_caught I1 er
  exact HandSPX.exc_get I1.kIn J T.ga T.gg T.ox.exC (PySem.W.findObj_own T.hd T.wh rfl hl) (handed_of rz) ⟨v, H1, I1.tok _, rz, q⟩

end
section
variable {P : Program} {w : World} {K : PySem.W.Frag} {mg : Str → Option Value} {base : Heap}
/-! letters and names -/
theorem call_listS {X : Cx} (hc : X.calm = true) : CallR X (.type "list") (fun xs H Q => ∃ z : Str, xs = [.str z] ∧ z.length ≤ sizeLine ∧ ∀ l, H l = none → Q (.ref l) (upd H l (.lst (z.cps.toList.map fun c => .str ⟨#[c]⟩)))) := by
  intro pins s σ H xs us Q I r h
  obtain ⟨z, rfl, hz, q⟩ := h
  obtain ⟨u, rfl, rx⟩ := vals1 r
  obtain ⟨t, rfl⟩ := rx
  refine call_list_str (I.ok.hd hc) z t (hn := hz) fun h' tk acc c' kp e it => ?_
  have rv : ∀ (l : List Nat) (vs : List Value), vs.length = l.length → (∀ (j : Nat) (v : Value), vs[j]? = some v → ∃ (c : Nat) (u : Tok), l[j]? = some c ∧ v = Value.str ⟨#[c]⟩ u) → Vals (l.map fun c => V.str ⟨#[c]⟩) vs := by
    intro l
    induction l with
    | nil =>
      intro vs hl _
      cases vs with
      | nil => exact .nil
      | cons => cases hl
    | cons c l ih =>
      intro vs hl hv
      cases vs with
      | nil => cases hl
      | cons v vs =>
        obtain ⟨c1, u1, e1, rfl⟩ := hv 0 v rfl
        have e2 : c = c1 := Option.some.inj e1
        subst e2
        exact .cons ⟨u1, rfl⟩ (ih vs (Nat.succ.inj hl) fun j v h => hv (j + 1) v h)
  have r2 : Vals (z.cps.toList.map fun c => V.str ⟨#[c]⟩) acc.toList := rv _ _ (by have := it.1; simpa using this) fun j v hv => by
    obtain ⟨c, u, hc2, hv2⟩ := it.2 j v (by simpa using hv)
    exact ⟨c, u, by simpa using hc2, hv2⟩
  refine ⟨.ref s.heap.objs.size, _, I.laid (t' := tk) kp (Nat.le_refl _) (show ObjOk X.prog X.w _ h' _ (.lst _) from ⟨?_, acc.toList, c', r2, by simpa using e⟩), rfl, q _ (I.hok.fresh (Nat.le_refl _))⟩
  rw [List.length_map]
  have hz2 : z.cps.size ≤ sizeLine := hz
  simpa using hz2
def LT : Str := "abcdefghijklmnopqrstuvwxyz"
def sg (d : Nat) : Str := ⟨#[97 + d]⟩
def nm (l : List Nat) : Str := ⟨(l.map (97 + ·)).toArray⟩
def num : List Nat → Int := fun l => l.foldl (fun (a : Int) (d : Nat) => a * 27 + (d : Int) + 1) 0
structure Gd (l : List Nat) : Prop where
  lt : ∀ d ∈ l, d < 26
  lo : 1 ≤ l.length
  hi : l.length ≤ 4
theorem occ_at : ∀ d, d < 26 → Builtin.Str.occurrences LT (sg d) 0 LT.length 1 = d :: [] := by decide +kernel
theorem lt_at : ∀ d, d < 26 → LT.cps.toList[d]? = some (97 + d) := by decide +kernel
theorem lt_len : LT.length = 26 := by decide +kernel
theorem lt_in {c : Nat} : c ∈ LT.cps.toList ↔ 97 ≤ c ∧ c < 123 := by
  have e : LT.cps.toList = [97, 98, 99, 100, 101, 102, 103, 104, 105, 106, 107, 108, 109, 110, 111, 112, 113, 114, 115, 116, 117, 118, 119, 120, 121, 122] := by decide +kernel
  rw [e]
  simp only [List.mem_cons, List.not_mem_nil, or_false]
  omega
theorem nm_len (l : List Nat) : (nm l).length = l.length := by
  show (l.map (97 + ·)).toArray.size = l.length
  simp
theorem nm_size (l : List Nat) : (nm l).cps.size = l.length := nm_len l
theorem nm_at {l : List Nat} {i c : Nat} (h : (nm l).cps[i]? = some c) : ∃ d, l[i]? = some d ∧ c = 97 + d := by
  have h1 : (l.map (97 + ·))[i]? = some c := by
    unfold nm at h
    simpa using h
  rw [List.getElem?_map] at h1
  cases e : l[i]? with
  | none => rw [e] at h1; cases h1
  | some d =>
    rw [e] at h1
    exact ⟨d, rfl, (Option.some.inj h1).symm⟩
theorem nm_cons (d : Nat) (l : List Nat) : sg d ++ nm l = nm (d :: l) := by
  show (⟨(sg d).cps ++ (nm l).cps⟩ : Str) = nm (d :: l)
  unfold nm sg
  simp
theorem nm_inj {a b : List Nat} (h : nm a = nm b) : a = b := by
  have h1 : (nm a).cps.toList = (nm b).cps.toList := by rw [h]
  have h2 : a.map (97 + ·) = b.map (97 + ·) := by simpa [nm] using h1
  have inj : ∀ (a b : List Nat), a.map (97 + ·) = b.map (97 + ·) → a = b := by
    intro a
    induction a with
    | nil =>
      intro b h
      cases b with
      | nil => rfl
      | cons => simp at h
    | cons x a ih =>
      intro b h
      cases b with
      | nil => simp at h
      | cons y b =>
        simp only [List.map_cons, List.cons.injEq] at h
        have e : x = y := by omega
        rw [e, ih b h.2]
  exact inj a b h2
theorem num_nil : num [] = 0 := rfl
theorem num_snoc (l : List Nat) (d : Nat) : num (l ++ [d]) = num l * 27 + d + 1 := by
  unfold num
  rw [List.foldl_append]
  rfl
theorem num_take {l : List Nat} {i d : Nat} (h : l[i]? = some d) : num (l.take (i + 1)) = num (l.take i) * 27 + d + 1 := by
  have e : l.take (i + 1) = l.take i ++ [d] := by rw [List.take_add_one, h]; rfl
  rw [e, num_snoc]
theorem snoc_ind {P : List Nat → Prop} (h0 : P []) (hs : ∀ l d, P l → P (l ++ [d])) (l : List Nat) : P l := by
  have h : ∀ n (l : List Nat), l.length = n → P l := by
    intro n
    induction n with
    | zero =>
      intro l e
      have : l = [] := List.eq_nil_of_length_eq_zero e
      rw [this]; exact h0
    | succ n ih =>
      intro l e
      have hne : l ≠ [] := fun z => by rw [z] at e; cases e
      rw [← List.dropLast_concat_getLast hne]
      exact hs _ _ (ih _ (by rw [List.length_dropLast, e]; rfl))
  exact h _ l rfl
theorem num_nonneg (l : List Nat) : 0 ≤ num l := snoc_ind (P := fun l => 0 ≤ num l) (by rw [num_nil]; exact Int.le_refl _) (fun l d ih => by rw [num_snoc]; omega) l
theorem num_hi (l : List Nat) (h : ∀ d ∈ l, d < 26) : num l < 27 ^ l.length :=
  snoc_ind (P := fun l => (∀ d ∈ l, d < 26) → num l < 27 ^ l.length) (fun _ => by rw [num_nil]; decide) (fun l d ih h => by
    rw [num_snoc, List.length_append, List.length_singleton, Int.pow_succ]
    have h1 := ih fun e he => h e (List.mem_append_left _ he)
    have h2 := h d (List.mem_append_right _ (List.mem_singleton.mpr rfl))
    omega) l h
theorem num_lo (l : List Nat) : l ≠ [] → (27 : Int) ^ (l.length - 1) ≤ num l :=
  snoc_ind (P := fun l => l ≠ [] → (27 : Int) ^ (l.length - 1) ≤ num l) (fun h => absurd rfl h) (fun l d ih _ => by
    rw [num_snoc, List.length_append, List.length_singleton, Nat.add_sub_cancel]
    cases l with
    | nil =>
      show (1 : Int) ≤ num [] * 27 + d + 1
      have := num_nonneg []
      omega
    | cons x l =>
      have h1 := ih (List.cons_ne_nil _ _)
      rw [List.length_cons, Nat.add_sub_cancel] at h1
      rw [List.length_cons, Int.pow_succ]
      omega) l
theorem num_pos {l : List Nat} (h : l ≠ []) : 0 < num l := by
  have h1 := num_lo l h
  have h2 : (0 : Int) < 27 ^ (l.length - 1) := Int.pow_pos (by decide)
  omega
theorem num_inj (a : List Nat) : ∀ b, (∀ d ∈ a, d < 26) → (∀ d ∈ b, d < 26) → num a = num b → a = b :=
  snoc_ind (P := fun a => ∀ b, (∀ d ∈ a, d < 26) → (∀ d ∈ b, d < 26) → num a = num b → a = b)
    (fun b _ _ h => by
      cases b with
      | nil => rfl
      | cons x b =>
        have := num_pos (List.cons_ne_nil x b)
        rw [← h, num_nil] at this
        exact absurd this (by decide))
    (fun l d ih b => snoc_ind (P := fun b => (∀ d' ∈ l ++ [d], d' < 26) → (∀ d ∈ b, d < 26) → num (l ++ [d]) = num b → l ++ [d] = b)
      (fun _ _ h => by
        have := num_pos (l := l ++ [d]) (by simp)
        rw [h, num_nil] at this
        exact absurd this (by decide))
      (fun b e _ ha hb h => by
        rw [num_snoc, num_snoc] at h
        have h1 := ha d (List.mem_append_right _ (List.mem_singleton.mpr rfl))
        have h2 := hb e (List.mem_append_right _ (List.mem_singleton.mpr rfl))
        have e1 : d = e := by omega
        have e2 : num l = num b := by omega
        rw [e1, ih b (fun x hx => ha x (List.mem_append_left _ hx)) (fun x hx => hb x (List.mem_append_left _ hx)) e2]) b) a
theorem num_ord {a b : List Nat} (ha : Gd a) (hb : Gd b) (h : a.length ≠ b.length) : (num b < num a) ↔ (b.length < a.length) := by
  have la := num_lo a (fun z => by have := ha.lo; rw [z] at this; cases this)
  have lb := num_lo b (fun z => by have := hb.lo; rw [z] at this; cases this)
  have ua := num_hi a ha.lt
  have ub := num_hi b hb.lt
  have step : ∀ m n : Nat, m < n → n ≤ 4 → (27 : Int) ^ m ≤ 27 ^ (n - 1) := fun m n h1 h2 => (by decide +kernel : ∀ n, n < 5 → ∀ m, m < n → (27 : Int) ^ m ≤ 27 ^ (n - 1)) n (by omega) m h1
  constructor
  · intro h1
    by_cases h2 : b.length < a.length
    · exact h2
    · have := step a.length b.length (by omega) hb.hi
      omega
  · intro h2
    have := step b.length a.length h2 ha.hi
    omega
def isNm (z : Str) : Bool := decide (1 ≤ z.length) && (decide (z.length ≤ 4) && z.cps.toList.all fun c => decide (c ∈ LT.cps.toList))
theorem isNm_nm {l : List Nat} (h : Gd l) : isNm (nm l) = true := by
  unfold isNm
  rw [nm_len, decide_eq_true h.lo, decide_eq_true h.hi]
  have e : (nm l).cps.toList = l.map (97 + ·) := by simp [nm]
  rw [e, List.all_map]
  show l.all _ = true
  rw [List.all_eq_true]
  intro d hd
  have := h.lt d hd
  show decide (97 + d ∈ LT.cps.toList) = true
  exact decide_eq_true (lt_in.mpr ⟨by omega, by omega⟩)
theorem join_sg (l : List Nat) : Txt.join (Str.ofString "") (l.map sg) = nm l := by
  show Builtin.Str.glued _ _ = _
  rw [StrLaws.glued_eq_join]
  have go : ∀ l : List Nat, Str.join (Str.ofString "") (l.map sg) = nm l := by
    intro l
    induction l with
    | nil => rfl
    | cons d l ih =>
      cases l with
      | nil =>
        show sg d = nm [d]
        unfold sg nm
        simp
      | cons e l =>
        show sg d ++ Str.ofString "" ++ Str.join (Str.ofString "") ((e :: l).map sg) = nm (d :: e :: l)
        rw [ih, ← nm_cons d]
        show (⟨((sg d).cps ++ (Str.ofString "").cps) ++ (nm (e :: l)).cps⟩ : Str) = ⟨(sg d).cps ++ (nm (e :: l)).cps⟩
        have z : (Str.ofString "").cps = #[] := by decide +kernel
        rw [z, Array.append_empty]
  exact go l
def spNameNumber : Sp := fun vs H Q _ => ∃ l : List Nat, vs = [.str (nm l)] ∧ (∀ d ∈ l, d < 26) ∧ Q (.int (num l)) H
def spIsName (K : PySem.W.Frag) : Sp := fun vs H Q _ => ∃ x : V, vs = [x] ∧ ((∃ z : Str, x = .str z ∧ z.length ≤ 100000 ∧ ∀ G, Same H G → Q (.bl (isNm z)) G) ∨ (∃ t : String, TyX K H x (.type t) ∧ kitB t "str" = some false ∧ Q (.bl false) H))
def spNameOf : Sp := fun vs H Q _ => ∃ l : List Nat, vs = [.int (num l)] ∧ Gd l ∧ ∀ G, Same H G → Q (.str (nm l)) G
def spLWholeName : Sp := fun vs H Q _ => ∃ (p : Addr) (n : Int), vs = [.ref p] ∧ Box H p n ∧ n < 1000000 ∧ ∀ (l : List Nat) (G : Hp), Gd l → But p H G → Box G p (n + 5) → Q (.str (nm l)) G

end
section
variable {P : Program} {w : World} {K : PySem.W.Frag} {mg : Str → Option Value} {base : Heap}
theorem okNameNumber (T : Tx K mg) : FnOk P w K mg base CX0 1 (He.ga K "name_number") T.fdNameNumber ["name"] spNameNumber := by
  have B := T.B
  refine T.FNameNumber.ok scNameNumber (fun vs H Q E h => ?_) (fun cdv A outer s H vs Q E hr h => ?_)
  · obtain ⟨l, rfl, _⟩ := h
    rfl
  · obtain ⟨l, rfl, hl, q⟩ := h
    refine ⟨_, PSs.nox (pss_cons (ps_set (i := 1) scNameNumber.nd rfl (.inl rfl) pe_int)
        (pss_cons (ps_for PassesOwn.never rfl (pi_str (pv 0)) (pg_name (i := 2) scNameNumber.nd rfl (Or.inl rfl))
        (pss_one (ps_set (i := 1) scNameNumber.nd rfl (.inl rfl) (pe_op op_add (pe_op op_add (pe_op op_mul (pv 1) (pe_glob (v := .int 27) (by rfl) T.c_BASE.choose_spec ⟨_, rfl⟩)) (pe_m1 PySem.F.slot_str_index PySem.F.type_str_index mt_sindex (pe_glob (v := .str "abcdefghijklmnopqrstuvwxyz") (by rfl) T.c_LETTERS.choose_spec ⟨_, rfl⟩) (pv 2))) pe_int))))
        (pss_one (ps_ret (pv 1))))), ?_⟩
    refine ⟨_, rfl, _, rfl, for_it walk_str (fun i σ G => G = H ∧ ∃ x, σ = [some (.str (nm l)), some (.int (num (l.take i))), x]) ⟨rfl, _, rfl⟩ (fun _ _ _ _ _ => trivial) ?_ ?_⟩
    · rintro i v σ G G1 hi ⟨rfl, x, rfl⟩ ⟨rfl, c, hc, rfl⟩
      obtain ⟨d, hd, rfl⟩ := nm_at hc
      have d26 := hl d (List.mem_of_getElem? hd)
      refine ⟨_, rfl, _, _, rfl, rfl, .inr ⟨by decide, by decide⟩, ⟨_, rfl⟩, _, rfl, LT, sg d, d, [], rfl, rfl, occ_at d d26, _, _, rfl, rfl, _, _, rfl, rfl, ?_⟩
      exact ⟨rfl, _, by rw [num_take hd]; rfl⟩
    · rintro σ G ⟨rfl, x, rfl⟩
      refine ⟨_, rfl, ?_⟩
      rw [nm_size, List.take_length]
      exact q
theorem okLNameNumber (T : Tx K mg) : FnOk P w K mg base CX0 1 (He.ga K "_law_name_number") T.fdLNameNumber ["_law_name"] spNameNumber := by
  have B := T.B
  refine T.FLNameNumber.ok scLNameNumber (fun vs H Q E h => ?_) (fun cdv A outer s H vs Q E hr h => ?_)
  · obtain ⟨l, rfl, _⟩ := h
    rfl
  · obtain ⟨l, rfl, hl, q⟩ := h
    refine ⟨_, PSs.nox (pss_cons (ps_set (i := 1) scLNameNumber.nd rfl (.inl rfl) pe_int)
        (pss_cons (ps_for PassesOwn.never rfl (pi_str (pv 0)) (pg_name (i := 2) scLNameNumber.nd rfl (Or.inl rfl))
        (pss_one (ps_set (i := 1) scLNameNumber.nd rfl (.inl rfl) (pe_op op_add (pe_op op_add (pe_op op_mul (pv 1) pe_int) (pe_m1 PySem.F.slot_str_index PySem.F.type_str_index mt_sindex pe_str (pv 2))) pe_int))))
        (pss_one (ps_ret (pv 1))))), ?_⟩
    refine ⟨_, rfl, _, rfl, for_it walk_str (fun i σ G => G = H ∧ ∃ x, σ = [some (.str (nm l)), some (.int (num (l.take i))), x]) ⟨rfl, _, rfl⟩ (fun _ _ _ _ _ => trivial) ?_ ?_⟩
    · rintro i v σ G G1 hi ⟨rfl, x, rfl⟩ ⟨rfl, c, hc, rfl⟩
      obtain ⟨d, hd, rfl⟩ := nm_at hc
      have d26 := hl d (List.mem_of_getElem? hd)
      refine ⟨_, rfl, _, _, rfl, rfl, .inr ⟨by decide, by decide⟩, ⟨_, rfl⟩, _, rfl, LT, sg d, d, [], rfl, rfl, occ_at d d26, _, _, rfl, rfl, _, _, rfl, rfl, ?_⟩
      exact ⟨rfl, _, by rw [num_take hd]; rfl⟩
    · rintro σ G ⟨rfl, x, rfl⟩
      refine ⟨_, rfl, ?_⟩
      rw [nm_size, List.take_length]
      exact q
theorem okIsName (T : Tx K mg) : FnOk P w K mg base CX0 1 (He.ga K "is_name") T.fdIsName ["thing"] (spIsName K) := by
  have B := T.B
  refine T.FIsName.ok scIsName (fun vs H Q E h => ?_) (fun cdv A outer s H vs Q E hr h => ?_)
  · obtain ⟨x, rfl, _⟩ := h
    rfl
  · obtain ⟨x, rfl, hx⟩ := h
    refine ⟨_, PSs.nox (pss_cons (ps_if (PW.pt (pw_or (pt_not (pt_val (pe_callB call_isi (by rfl) B.b_isinstance boot_isinstance (pa_cons (pv 0) (pa_cons (pe_bltn (v := .ty "str") (by rfl) B.b_str PyProof.Rows.boot_str rfl) pa_nil))))) (pw_or1 (pt_not (pt_chain op_le op_le pe_int (pe_callB call_len_str (by rfl) B.b_len PySem.boot_len (pa_cons (pv 0) pa_nil)) (pe_glob (v := .int 4) (by rfl) T.c_LONGEST.choose_spec ⟨_, rfl⟩)))))) (pss_one (ps_ret pe_bl)) pss_nil)
        (pss_one (ps_ret (pe_callB (cr_all rfl) (by rfl) B.b_all boot_all (pa_cons (pe_lc (own := [("letter", 1)]) (g := gName 1) (tt := tYes) (by rfl) scIsName.nd (pi_str (pv 0)) (blkOk_by (own := [("letter", 1)]) (N := ["thing", "letter"]) (sc := defScope sIsName) (by decide +kernel)) (fun _ _ _ _ _ => by exact (pg_name (i := 1) scIsName.nd rfl (Or.inl rfl))) (fun _ _ _ _ _ => pts_nil) (fun _ _ _ _ _ => (pe_cmpR op_in_sign (pv 1) (pe_glob (v := .str "abcdefghijklmnopqrstuvwxyz") (by rfl) T.c_LETTERS.choose_spec ⟨_, rfl⟩) (by rfl)))) pa_nil))))), ?_⟩
    rcases hx with ⟨z, rfl, hz, q⟩ | ⟨t, ht, hk, q⟩
    · refine ⟨_, rfl, _, _, _, _, _, rfl, .ty _, .base (.str z), kit_ty (r := true) (by decide +kernel), _, rfl, iteF ?_⟩
      have hz2 : z.length ≤ sizeLine := Nat.le_of_lt (small6 (n := z.length) (by omega))
      refine ⟨_, rfl, _, rfl, hz2, _, _, rfl, rfl, _, rfl, ite2 (fun e1 => ?_) (fun e1 => ?_)⟩
      · have l1 : (1 : Int) ≤ z.length := of_decide_eq_true e1
        refine ⟨_, _, rfl, rfl, _, rfl, ?_⟩
        by_cases l2 : (z.length : Int) ≤ 4
        · rw [decide_eq_true l2]
          refine iteF ?_
          refine ⟨_, rfl, _, rfl, fun D hD => lc_it walk_str (fun i G => Same H G ∧ G D = some (.lst ((z.cps.toList.take i).map fun c => V.bl (decide (c ∈ LT.cps.toList))))) ⟨same_new hD, upd_same⟩ (fun _ _ _ _ => trivial) ?_ ?_⟩
          · rintro i v G G1 hi ⟨sG, hG⟩ ⟨rfl, c, hc, rfl⟩
            refine ⟨rfl, ?_⟩
            unfold tYes
            refine iteT ?_
            refine ⟨_, rfl, c, _, rfl, rfl, _, hG, ?_, ?_, ?_⟩
            · rw [List.length_map, List.length_take]
              have : z.cps.toList.length = z.length := by simp [Str.length]
              exact small6 (by omega)
            · intro b o e
              have hb : b ≠ D := ne_of_none e hD
              rw [upd_ne hb]
              exact sG _ _ e
            · have hc2 : z.cps.toList[i]? = some c := by simpa using hc
              rw [upd_same, List.take_add_one, hc2, List.map_append]
              rfl
          · rintro G ⟨sG, hG⟩
            have et : z.cps.toList.take z.cps.size = z.cps.toList := List.take_of_length_le (by simp)
            rw [et] at hG
            have eb : (z.cps.toList.map fun c => V.bl (decide (c ∈ LT.cps.toList))) = (z.cps.toList.map fun c => decide (c ∈ LT.cps.toList)).map V.bl := by
              rw [List.map_map]
              rfl
            rw [eb] at hG
            refine ⟨D, _, rfl, .inl (.inl hG), ?_⟩
            have q2 := q G sG
            have en : isNm z = (z.cps.toList.map fun c => decide (c ∈ LT.cps.toList)).all id := by
              unfold isNm
              rw [decide_eq_true (show 1 ≤ z.length by omega), decide_eq_true (show z.length ≤ 4 by omega), List.all_map]
              rfl
            rw [en] at q2
            exact q2
        · rw [decide_eq_false l2]
          refine iteT ?_
          have en : isNm z = false := by
            unfold isNm
            rw [decide_eq_false (show ¬ z.length ≤ 4 by omega)]
            cases decide (1 ≤ z.length) <;> rfl
          rw [en] at q
          exact q H (Same.refl _)
      · have l1 : ¬ (1 : Int) ≤ z.length := fun z => e1 (decide_eq_true z)
        have en : isNm z = false := by
          unfold isNm
          rw [decide_eq_false (show ¬ 1 ≤ z.length by omega)]
          rfl
        rw [en] at q
        exact ⟨_, rfl, iteT (q H (Same.refl _))⟩
    · refine ⟨_, rfl, _, _, _, _, _, rfl, .ty _, ht, kit_ty (r := false) hk, _, rfl, iteT (iteT ?_)⟩
      exact q

end
section
variable {P : Program} {w : World} {K : PySem.W.Frag} {mg : Str → Option Value} {base : Heap}
theorem kb_init (T : Tx K mg) : KBn K T.fdStartErrorInit ["self", "what"] 1 ["what"] (fun us ws => us ++ ws) (fun vs zs => vs ++ zs) :=
  kw_plain T.FStartErrorInit 1 ["what"] (fun us ws => us ++ ws) (fun a b => a.append b) fun kV doc pm an cdv ct us ws h1 h2 => match us, ws, h1, h2 with
    | [u], [w], _, _ => rfl
theorem okStartErrorInit (T : Tx K mg) : FnOk P w K mg base CX0 1 (He.ma K (He.ga K "StartError") "__init__") T.fdStartErrorInit ["self", "what"] (spInitE K) := by
  have B := T.B
  refine T.FStartErrorInit.ok scStartErrorInit (fun vs H Q E h => ?_) (fun cdv A outer s H vs Q E hr h => ?_)
  · obtain ⟨a, C, fI, v, rfl, _⟩ := h
    rfl
  · obtain ⟨a, C, fI, v, rfl, ha, T1, q⟩ := h
    refine ⟨_, PSs.nox (pss_one (ps_ost (pv 0) (pv 1))), ?_⟩
    refine ⟨_, rfl, _, rfl, a, C, rfl, T1.ox, T1.wh, .inl ⟨ha, fun dx hd ne => ?_⟩⟩
    exact q dx hd ne
end
section
variable {P : Program} {w : World} {K : PySem.W.Frag} {mg : Str → Option Value} {base : Heap}
/-! numbers and the names they have, refusals too -/
theorem nm_ne {l : List Nat} (h : l ≠ []) : nm l ≠ Str.ofString "" := fun z => by
  have e : (nm l).length = (Str.ofString "").length := by rw [z]
  rw [nm_len] at e
  have e2 : (Str.ofString "").length = 0 := by decide +kernel
  rw [e2] at e
  exact h (List.eq_nil_of_length_eq_zero e)
def Dg (l : List Nat) : Prop := ∀ d ∈ l, d < 26
/-- of all names' letters, just those that end by suf and begin by r's letters have the number n -/
def IV (n : Int) (suf : List Nat) (r : Int) : Prop := ∀ l, Dg l → (n = num l ↔ ∃ p, l = p ++ suf ∧ num p = r)
theorem iv_zero (n : Int) : IV n [] n := fun l _ => ⟨fun h => ⟨l, by simp, h.symm⟩, fun ⟨p, e, h⟩ => by rw [e, List.append_nil]; exact h.symm⟩
theorem num_last {p : List Nat} {r : Int} (hp : Dg p) (hr : 0 < r) (h : num p = r) : ∃ (q : List Nat) (d : Nat), p = q ++ [d] ∧ d < 26 ∧ r % 27 = (d : Int) + 1 ∧ r / 27 = num q := by
  have hne : p ≠ [] := fun z => by
    rw [z, num_nil] at h
    omega
  have e := (List.dropLast_concat_getLast hne).symm
  have d26 : p.getLast hne < 26 := hp _ (List.getLast_mem hne)
  refine ⟨p.dropLast, p.getLast hne, e, d26, ?_⟩
  have h2 : num (p.dropLast ++ [p.getLast hne]) = r := by rw [← e]; exact h
  rw [num_snoc] at h2
  omega
theorem dg_left {p s : List Nat} (h : Dg (p ++ s)) : Dg p := fun d hd => h d (List.mem_append_left _ hd)
theorem iv_step {n r : Int} {suf : List Nat} {d : Nat} (h : IV n suf r) (hr : 0 < r) (hd : r % 27 = (d : Int) + 1) : IV n (d :: suf) (r / 27) := fun l hl => by
  refine ⟨fun e => ?_, fun ⟨p, e, hp⟩ => (h l hl).mpr ⟨p ++ [d], by rw [e]; simp, ?_⟩⟩
  · obtain ⟨p, ep, hp⟩ := (h l hl).mp e
    obtain ⟨q, c, eq, c26, e1, e2⟩ := num_last (dg_left (ep ▸ hl)) hr hp
    have ec : c = d := by omega
    subst ec
    exact ⟨q, by rw [ep, eq]; simp, e2.symm⟩
  · rw [num_snoc, hp]
    omega
theorem iv_dead {n r : Int} {suf : List Nat} (h : IV n suf r) (hr : 0 < r) (h0 : r % 27 = 0) : ∀ l, Dg l → n ≠ num l := fun l hl e => by
  obtain ⟨p, ep, hp⟩ := (h l hl).mp e
  obtain ⟨q, c, eq, c26, e1, e2⟩ := num_last (dg_left (ep ▸ hl)) hr hp
  omega
theorem iv_long {n r : Int} {suf : List Nat} (h : IV n suf r) (hr : 0 < r) : ∀ l, Dg l → n = num l → suf.length < l.length := fun l hl e => by
  obtain ⟨p, ep, hp⟩ := (h l hl).mp e
  obtain ⟨q, c, eq, c26, e1, e2⟩ := num_last (dg_left (ep ▸ hl)) hr hp
  rw [ep, eq]
  simp
  omega
theorem iv_end {n : Int} {suf : List Nat} (h : IV n suf 0) (hs : Dg suf) : n = num suf := (h suf hs).mpr ⟨[], rfl, num_nil⟩
theorem iv_one {n : Int} {suf : List Nat} (h : IV n suf 0) (hs : Dg suf) : ∀ l, Gd l → n = num l → l = suf := fun l hl e => num_inj l suf hl.lt hs (e.symm.trans (iv_end h hs))
/-- name_of, its refusals too -/
def spNameOfX (K : PySem.W.Frag) : Sp := fun vs H Q E => ∃ n : Int, vs = [.int n] ∧ 0 ≤ n ∧ (∀ l, Gd l → n = num l → ∀ G, Same H G → Q (.str (nm l)) G) ∧
  ((∀ l, Gd l → n ≠ num l) → ∀ G d, Same H G → G d = some (.xd [(("what" : Str), .int n)]) → E (.ref (He.ga K "NoName")) (some d) G)
theorem rd_raise {K : PySem.W.Frag} {C fI : Addr} {v : V} {H1 : Hp} {Q : XK} (T : ECl K C fI) (q : ∀ G d, Same H1 G → G d = some (.xd [(("what" : Str), v)]) → Q (.ref C) (some d) G) :
    [v].length ≤ 1000 ∧ ∀ a, H1 a = none → spInitE K (.ref a :: ([v] ++ [])) (upd H1 a (exo a C none))
      (fun w H2 => w = .non ∧ ∃ (d : Addr) (fs : List (Str × V)), H2 a = some (exo a C (some d)) ∧ H2 d = some (exd d fs) ∧ H1 d = none ∧ Q (.ref C) (some d) (upd (del H2 a) d (.xd fs))) (fun _ _ _ => False) := by
  refine ⟨by show 1 ≤ 1000; decide, fun a ha => ⟨a, C, fI, v, rfl, upd_same, T, fun dx hd ne => ⟨rfl, dx, [(("what" : Str), v)], upd_same, ?_, ?_, ?_⟩⟩⟩
  · rw [upd_ne ne, upd_same]
  · rw [upd_ne ne] at hd
    exact hd
  · rw [upd_ne ne] at hd
    refine q _ dx (fun b o e => ?_) upd_same
    rw [upd_ne (ne_of_none e hd), del_ne (ne_of_none e ha), upd_ne (ne_of_none e ha), upd_ne (ne_of_none e hd), upd_ne (ne_of_none e ha)]
    exact e
end
section
variable {P : Program} {w : World} {K : PySem.W.Frag} {mg : Str → Option Value} {base : Heap}
theorem okNameOf (T : Tx K mg) : FnOk P w K mg base (L2.CX P w) 3 (He.ga K "name_of") T.fdNameOf ["number"] (spNameOfX K) := by
  have B := T.B
  have GStartErrorInit : FnOk P w K mg base CX0 1 (He.ma K (He.ga K "StartError") "__init__") T.fdStartErrorInit ["self", "what"] (spInitE K) := okStartErrorInit T
  have bStartErrorInit := T.bStartErrorInit
  refine T.FNameOf.ok scNameOf (fun vs H Q E h => ?_) (fun cdv A outer s H vs Q E hr h => ?_)
  · obtain ⟨n, rfl, _⟩ := h
    rfl
  · obtain ⟨n, rfl, h0, kQ, kE⟩ := h
    refine ⟨_, (pss_cons (ps_set (i := 1) scNameOf.nd rfl (.inl rfl) pe_str)
        (pss_cons (ps_set (i := 2) scNameOf.nd rfl (.inl rfl) (pv 0))
        (pss_cons (ps_while (passes_of rfl) (PW.pt (pw_and (pt_cmpR op_gt (pv 2) pe_int (nomark _)) (pw_and1 (pt_cmpR op_lt (pe_callB call_len_str (by rfl) B.b_len PySem.boot_len (pa_cons (pv 1) pa_nil)) (pe_glob (v := .int 4) (by rfl) T.c_LONGEST.choose_spec ⟨_, rfl⟩) (nomark _)))))
        (pss_cons (ps_asg (pe_callB call_divmod (by rfl) B.b_divmod (by decide +kernel) (pa_cons (pv 2) (pa_cons (pe_glob (v := .int 27) (by rfl) T.c_BASE.choose_spec ⟨_, rfl⟩) pa_nil))) (pg_tup rfl (pgs_cons (pg_name (i := 2) scNameOf.nd rfl (Or.inl rfl)) (pgs_cons (pg_name (i := 3) scNameOf.nd rfl (Or.inl rfl)) pgs_nil))))
        (pss_cons (ps_if (pt_cmpR op_eq (pv 3) pe_int (nomark _)) (pss_one (ps_raise rfl (takes_of rfl rfl rfl rfl) (pmk_oex (CX := CX0) (err_cl T.er (c := "NoName") (by decide +kernel)).ox (err_cl T.er (c := "NoName") (by decide +kernel)).ini (err_cl T.er (c := "NoName") (by decide +kernel)).fty GStartErrorInit (hr.mono (by decide)) bStartErrorInit .nil pass0 (by rfl) T.gNoName (by exact (pa_cons (pv 0) pa_nil))))) pss_nil)
        (pss_one (ps_set (i := 1) scNameOf.nd rfl (.inl rfl) (pe_op op_add_str (pe_ix ix_str (pe_glob (v := .str "abcdefghijklmnopqrstuvwxyz") (by rfl) T.c_LETTERS.choose_spec ⟨_, rfl⟩) (pe_op op_sub (pv 3) pe_int) (fun _ _ => rfl)) (pv 1)))))))
        (pss_cons (ps_if (PW.pt (pw_or (pt_cmpR op_ne (pv 2) pe_int (nomark _)) (pw_or1 (pt_cmpR op_eq (pv 1) pe_str (nomark _))))) (pss_one (ps_raise rfl (takes_of rfl rfl rfl rfl) (pmk_oex (CX := CX0) (err_cl T.er (c := "NoName") (by decide +kernel)).ox (err_cl T.er (c := "NoName") (by decide +kernel)).ini (err_cl T.er (c := "NoName") (by decide +kernel)).fty GStartErrorInit (hr.mono (by decide)) bStartErrorInit .nil pass0 (by rfl) T.gNoName (by exact (pa_cons (pv 0) pa_nil))))) pss_nil)
        (pss_one (ps_ret (pv 1))))))), ?_⟩
    have gone : (∀ l, Dg l → l.length ≤ 4 → 1 ≤ l.length → n ≠ num l) → ∀ l, Gd l → n ≠ num l := fun h l hl => h l hl.lt hl.hi hl.lo
    refine ⟨_, rfl, ?_⟩
    refine while_by (fun σ G => Same H G ∧ ∃ (suf : List Nat) (r : Int) (x : Option V), 0 ≤ r ∧ IV n suf r ∧ Dg suf ∧ suf.length ≤ 4 ∧ (suf = [] → r = n) ∧ σ = [some (.int n), some (.str (nm suf)), some (.int r), x])
      (fun σ _ => match σ with | [_, _, some (.int r), _] => r.toNat | _ => 0) ⟨Same.refl _, [], n, none, h0, iv_zero n, (fun _ h => nomatch h), by decide, fun _ => rfl, rfl⟩ ?_ ?_
    · rintro σ G ⟨sG, suf, r, x, r0, iv, dg, ls, es, rfl⟩
      refine ⟨_, rfl, _, _, rfl, rfl, _, rfl, ite2 (fun e => ?_) (fun e => ?_)⟩
      · have hp : 0 < r := of_decide_eq_true e
        refine ⟨_, rfl, _, rfl, by rw [nm_len]; exact Nat.le_of_lt (small6 (by omega)), _, _, rfl, rfl, _, rfl, ?_⟩
        rw [nm_len]
        refine ite2 (fun e2 => ?_) (fun e2 => ?_)
        · have hlen : suf.length < 4 := by have := of_decide_eq_true e2; omega
          refine ⟨_, rfl, _, _, rfl, ⟨by decide, by decide⟩, fun t_ hT => ?_⟩
          refine ⟨t_, _, rfl, .inl (.inl upd_same), rfl, _, _, rfl, _, _, rfl, rfl, ?_⟩
          refine ⟨_, rfl, rfl, _, rfl, ite2 (fun e3 => ?_) (fun e3 => ?_)⟩
          · have z0 : r % 27 = 0 := V.int.inj (of_decide_eq_true e3)
            refine ⟨_, rfl, rd_raise (err_cl T.er (c := "NoName") (by decide +kernel)) fun G2 d s2 hd => kE (fun l hl => iv_dead iv hp z0 l hl.lt) G2 d (sG.trans ((same_new hT).trans s2)) hd⟩
          · have nz : r % 27 ≠ 0 := fun z => e3 (decide_eq_true (congrArg V.int z))
            obtain ⟨d, hd⟩ : ∃ d : Nat, r % 27 = (d : Int) + 1 := ⟨(r % 27 - 1).toNat, by omega⟩
            have d26 : d < 26 := by omega
            have ea : r % 27 - 1 = (d : Int) := by omega
            refine ⟨_, rfl, _, _, rfl, rfl, LT, _, 97 + d, rfl, rfl, by rw [lt_len]; exact Nat.le_of_lt (small6 (by decide)), by rw [ea]; exact atI_nat (lt_at d d26), _, rfl, _, _, rfl, rfl, ?_, ?_⟩
            · rw [nm_len]
              show 1 + suf.length ≤ sizeLine
              exact Nat.le_of_lt (small6 (by omega))
            · refine ⟨⟨sG.trans (same_new hT), d :: suf, r / 27, some (.int (r % 27)), by omega, iv_step iv hp hd, ?_, by rw [List.length_cons]; omega, (fun z => nomatch z), ?_⟩, ?_⟩
              · intro c hc
                rcases List.mem_cons.mp hc with z | z
                · rw [z]; exact d26
                · exact dg c z
              · rw [← nm_cons]
                rfl
              · show (r / 27).toNat < r.toNat
                omega
        · have l4 : suf.length = 4 := by
            have : ¬ ((suf.length : Int) < 4) := fun z => e2 (decide_eq_true z)
            omega
          refine ⟨_, rfl, rfl, _, rfl, ?_⟩
          rw [decide_eq_false (show ¬ V.int r = V.int 0 from fun z => by have := V.int.inj z; omega)]
          refine iteT ?_
          refine ⟨_, rfl, rd_raise (err_cl T.er (c := "NoName") (by decide +kernel)) fun G2 d s2 hd => kE (fun l hl z => ?_) G2 d (sG.trans s2) hd⟩
          have := iv_long iv hp l hl.lt z
          have := hl.hi
          omega
      · have hp : ¬ 0 < r := fun z => e (decide_eq_true z)
        have hr : r = 0 := by omega
        subst hr
        refine iteF ?_
        refine ⟨_, rfl, rfl, _, rfl, iteF ?_⟩
        refine ⟨_, rfl, rfl, _, rfl, ?_⟩
        cases suf with
        | nil =>
          have n0 := es rfl
          subst n0
          refine iteT ?_
          refine ⟨_, rfl, rd_raise (err_cl T.er (c := "NoName") (by decide +kernel)) fun G2 d s2 hd => kE (fun l hl z => ?_) G2 d (sG.trans s2) hd⟩
          have hne : l ≠ [] := fun z => by have := hl.lo; rw [z] at this; cases this
          have := num_pos hne
          omega
        | cons c suf =>
          rw [decide_eq_false (show ¬ V.str (nm (c :: suf)) = V.str (Str.ofString "") from fun z => nm_ne (List.cons_ne_nil _ _) (V.str.inj z))]
          refine iteF ?_
          exact ⟨_, rfl, kQ _ ⟨dg, by rw [List.length_cons]; omega, ls⟩ (iv_end iv dg) G sG⟩
    · intro σ G Q1 Q2 hq h
      obtain ⟨v, e1, i, j, e2, e3, k, e4, z⟩ := h
      refine ⟨v, e1, i, j, e2, e3, k, e4, ?_⟩
      cases k with
      | false => exact iteF (hq _ _ (by simpa using z))
      | true =>
        refine iteT ?_
        have z2 := z
        rw [if_pos rfl] at z2
        obtain ⟨w, f1, zz, f2, f3, i2, j2, f4, f5, k2, f6, y⟩ := z2
        exact ⟨w, f1, zz, f2, f3, i2, j2, f4, f5, k2, f6, hq _ _ y⟩

end
section
variable {P : Program} {w : World} {K : PySem.W.Frag} {mg : Str → Option Value} {base : Heap}
def spLTold (K : PySem.W.Frag) : Sp := fun vs H Q _ => ∃ n : Int, vs = [.int n] ∧ 0 ≤ n ∧ (∀ l, Gd l → n = num l → ∀ G, Same H G → Q (.str (nm l)) G) ∧ ((∀ l, Gd l → n ≠ num l) → ∀ G, Same H G → Q .non G)
theorem okLTold (T : Tx K mg) : FnOk P w K mg base CX0 4 (He.ga K "_law_told") T.fdLTold ["_law_number_here"] (spLTold K) := by
  have B := T.B
  have GNameOf : FnOk P w K mg base (L2.CX P w) 3 (He.ga K "name_of") T.fdNameOf ["number"] (spNameOfX K) := okNameOf T
  have bNameOf := T.bNameOf
  have GLSame : FnOk P w K mg base CX0 2 (He.ga K "_law_same") T.fdLSame ["_law_found", "_law_due"] (spLSame K 2) := okLSame T 2
  have bLSame := T.bLSame
  refine T.FLTold.ok scLTold (fun vs H Q E h => ?_) (fun cdv A outer s H vs Q E hr h => ?_)
  · obtain ⟨n, rfl, _⟩ := h
    rfl
  · obtain ⟨n, rfl, h0, kQ, kN⟩ := h
    refine ⟨_, PSs.nox (pss_cons (ps_asg (pe_tup (pa_cons pe_non (pa_cons pe_non pa_nil))) (pg_tup rfl (pgs_cons (pg_name (i := 1) scLTold.nd rfl (Or.inl rfl)) (pgs_cons (pg_name (i := 2) scLTold.nd rfl (Or.inl rfl)) pgs_nil))))
        (pss_cons (ps_try_keep (i := 3) (Wo := fun _ _ _ _ => False) rfl rfl rfl scLTold.nd rfl rfl ⟨rfl, by decide, Or.inl T.gStartError⟩ takes0
        (fun W pn xe tk po => (pss_one (ps_set (i := 1) scLTold.nd rfl (.inl rfl) (pe_callS GNameOf (hr.mono (by decide)) (by rfl) T.gNameOf T.FNameOf.kp bNameOf (fun σ => passAt tk σ) (by exact (pa_cons (pv 0) pa_nil))))))
        (fun a oe cls d pn hz hf => (pss_one (ps_set (i := 2) scLTold.nd rfl (.inl rfl) (pv 3)))))
        (pss_cons (ps_if (pt_cmpR op_isN (pv 2) pe_non (nomark _)) (pss_one (ps_ret (pv 1))) pss_nil)
        (pss_cons (ps_if (PW.pt (pw_or (pt_val (pe_callB call_isCT (by rfl) B.b_isinstance boot_isinstance (pa_cons (pv 2) (pa_cons (pe_tup (pa_cons (pe_glob (v := .ref (He.ga K "BadText")) (by rfl) T.gBadText rfl) (pa_cons (pe_glob (v := .ref (He.ga K "NoBoard")) (by rfl) T.gNoBoard rfl) (pa_cons (pe_glob (v := .ref (He.ga K "NoRow")) (by rfl) T.gNoRow rfl) pa_nil)))) pa_nil)))) (pw_or1 (pt_not (pt_val (pe_callB call_isC (by rfl) B.b_isinstance boot_isinstance (pa_cons (pv 2) (pa_cons (pe_bltn (v := .ty "ValueError") (by rfl) B.b_ValueError (by decide +kernel) rfl) pa_nil)))))))) (pss_one (ps_ret pe_str)) pss_nil)
        (pss_one (ps_ret (pe_ifExp (PW.pt (pw_and (pt_val (pe_callB call_isC (by rfl) B.b_isinstance boot_isinstance (pa_cons (pv 2) (pa_cons (pe_glob (v := .ref (He.ga K "NoName")) (by rfl) T.gNoName rfl) pa_nil)))) (pw_and1 (pt_val (pe_call GLSame (hr.mono (by decide)) (by rfl) T.gLSame T.FLSame.kp bLSame .nil pass0 (pa_cons (pe_whatC (pv 2)) (pa_cons (pv 0) pa_nil))))))) pe_non pe_str))))))), ?_⟩
    refine ⟨by show 2 ≤ sizeLine; decide, fun t ht => ⟨t, [.non, .non], rfl, .inl (.inl upd_same), rfl, _, _, rfl, _, _, rfl, rfl, ?_⟩⟩
    have st := same_new (o := .tup [V.non, V.non]) ht
    refine ⟨_, rfl, n, rfl, h0, fun l gl e G sG => ?_, fun hno G d sG hd => ?_⟩
    · exact ⟨_, rfl, rfl, _, rfl, iteT ⟨_, rfl, kQ l gl e G (st.trans sG)⟩⟩
    · have nn : ("NoName" : Str) ∈ ERRS := by decide +kernel
      refine ⟨true, err_ex T.er nn (by decide +kernel), fun _ a ha => ?_, fun z => nomatch z⟩
      refine ⟨_, rfl, ?_⟩
      have ca : Caught (upd G a (exv a (.ref (He.ga K "NoName")) (some d))) a (He.ga K "NoName") (.int n) := ⟨d, _, upd_same, by rw [upd_ne (ne_of_none hd ha)]; exact hd, by simp [List.lookup]⟩
      have sa := same_new (o := exv a (.ref (He.ga K "NoName")) (some d)) ha
      have cl := err_cl T.er nn
      refine ⟨_, rfl, rfl, _, rfl, iteF ?_⟩
      refine ⟨_, rfl, by show 3 ≤ sizeLine; decide, fun tp htp => ?_⟩
      have s2 := same_new (o := .tup [V.ref (He.ga K "BadText"), V.ref (He.ga K "NoBoard"), V.ref (He.ga K "NoRow")]) htp
      refine ⟨a, _, _, tp, _, _, _, false, rfl, upd_same, .cons (.own _) (.cons (.own _) (.cons (.own _) .nil)), ca.same s2, cl, ?_, _, rfl, iteF ?_⟩
      · refine kitAny_cons (err_is T.er nn (by decide +kernel)) (fun _ => kitAny_cons (err_is T.er nn (by decide +kernel)) (fun _ => kitAny_cons (err_is T.er nn (by decide +kernel)) (fun _ => rfl) ?_) ?_) ?_ <;> exact fun z => absurd z (by decide +kernel)
      refine ⟨_, rfl, a, _, _, _, _, _, true, rfl, .ty _, ca.same s2, cl, err_ve T.er nn, _, rfl, iteF ?_⟩
      refine ⟨_, rfl, a, _, _, _, _, _, true, rfl, .own _, ca.same s2, cl, err_is T.er nn (by decide +kernel), _, rfl, iteT ?_⟩
      refine ⟨_, rfl, a, _, _, _, rfl, ca.same s2, cl, _, rfl, ?_⟩
      refine ⟨_, _, .int n, rfl, .int _, .int _, (by show 0 < 2; decide), (by show 0 ≤ 1000000; decide), fun G6 s6 => ⟨_, rfl, iteT ?_⟩⟩
      exact kN hno _ (st.trans (sG.trans (sa.trans (s2.trans s6))))
end
section
variable {P : Program} {w : World} {K : PySem.W.Frag} {mg : Str → Option Value} {base : Heap}
def LQ : Str := "?abcdefghijklmnopqrstuvwxyz"
theorem lq_at : ∀ d, d < 26 → LQ.cps.toList[d + 1]? = some (97 + d) := by decide +kernel
theorem lq_len : LQ.length = 27 := by decide +kernel
/-- the name of a number is told, or none -/
def spTell : Sp := fun vs H Q _ => ∃ n : Int, vs = [.int n] ∧ 0 ≤ n ∧ (∀ l, Gd l → n = num l → ∀ G, Same H G → Q (.str (nm l)) G) ∧ ((∀ l, Gd l → n ≠ num l) → ∀ G, Same H G → Q .non G)
theorem okLSpelled (T : Tx K mg) : FnOk P w K mg base CX0 1 (He.ga K "_law_spelled") T.fdLSpelled ["_law_figure"] spTell := by
  have B := T.B
  refine T.FLSpelled.ok scLSpelled (fun vs H Q E h => ?_) (fun cdv A outer s H vs Q E hr h => ?_)
  · obtain ⟨n, rfl, _⟩ := h
    rfl
  · obtain ⟨n, rfl, h0, kQ, kN⟩ := h
    refine ⟨_, PSs.nox (pss_cons (ps_par (i := 1) (j := 2) (by rfl) scLSpelled.nd rfl rfl (by decide) rfl rfl (pa_cons pe_str (pa_cons (pv 0) pa_nil)) (by rfl))
        (pss_cons (ps_for PassesOwn.never rfl (pi_range1 (by rfl) B.b_range (pa_cons pe_int pa_nil)) (pg_name (i := 3) scLSpelled.nd rfl (Or.inl rfl))
        (pss_one (ps_if (PW.pt (pw_and (pt_cmpR op_gt (pv 2) pe_int (nomark _)) (pw_and1 (pt_cmpR op_gt (pe_op op_mod (pv 2) pe_int) pe_int (nomark _))))) (pss_cons (ps_set (i := 1) scLSpelled.nd rfl (.inl rfl) (pe_op op_add_str (pe_ix ix_str pe_str (pe_op op_mod (pv 2) pe_int) (fun _ _ => rfl)) (pv 1)))
        (pss_one (ps_set (i := 2) scLSpelled.nd rfl (.inl rfl) (pe_op op_fdiv (pv 2) pe_int)))) pss_nil)))
        (pss_one (ps_ret (pe_ifExp (PW.pt (pw_and (pt_cmpR op_eq (pv 2) pe_int (nomark _)) (pw_and1 (pt_chain op_lt op_lt pe_int (pe_callB call_len_str (by rfl) B.b_len PySem.boot_len (pa_cons (pv 1) pa_nil)) pe_int)))) (pv 1) pe_non))))), ?_⟩
    refine ⟨_, rfl, _, _, rfl, ?_⟩
    refine ⟨40, rfl, by decide, by decide, for_range (lo := 0) (n := 40) (fun i σ G => G = H ∧ ∃ (suf : List Nat) (r : Int) (x : Option V), 0 ≤ r ∧ IV n suf r ∧ Dg suf ∧ suf.length ≤ i ∧ (suf.length = i ∨ r = 0 ∨ r % 27 = 0) ∧ σ = [some (.int n), some (.str (nm suf)), some (.int r), x])
      ⟨rfl, [], n, none, h0, iv_zero n, (fun _ h => nomatch h), by decide, .inl rfl, rfl⟩ ?_ ?_⟩
    · rintro i σ G hi ⟨rfl, suf, r, x, r0, iv, dg, ls, st, rfl⟩
      refine ⟨_, rfl, _, _, rfl, rfl, _, rfl, ite2 (fun e => ?_) (fun e => ?_)⟩
      · have hp : 0 < r := of_decide_eq_true e
        refine ⟨_, rfl, _, _, rfl, rfl, (show (0 : Int) < 27 by decide), _, _, rfl, rfl, _, rfl, ite2 (fun e2 => ?_) (fun e2 => ?_)⟩
        · have hm : 0 < r % 27 := of_decide_eq_true e2
          obtain ⟨d, hd⟩ : ∃ d : Nat, r % 27 = (d : Int) + 1 := ⟨(r % 27 - 1).toNat, by omega⟩
          have d26 : d < 26 := by omega
          have ea : r % 27 = ((d + 1 : Nat) : Int) := by omega
          refine ⟨_, rfl, _, _, rfl, rfl, (show (0 : Int) < 27 by decide), LQ, _, 97 + d, rfl, rfl, by rw [lq_len]; exact Nat.le_of_lt (small6 (by decide)), by rw [ea]; exact atI_nat (lq_at d d26), _, rfl, _, _, rfl, rfl, ?_, ?_⟩
          · rw [nm_len]
            show 1 + suf.length ≤ sizeLine
            exact Nat.le_of_lt (small6 (by omega))
          · refine ⟨_, rfl, _, _, rfl, rfl, ⟨by decide, by decide⟩, ?_⟩
            refine ⟨rfl, d :: suf, r / 27, some (.int (0 + (i : Int))), by omega, iv_step iv hp hd, ?_, by rw [List.length_cons]; omega, ?_, ?_⟩
            · intro c hc
              rcases List.mem_cons.mp hc with z | z
              · rw [z]; exact d26
              · exact dg c z
            · rcases st with z | z | z
              · exact .inl (by rw [List.length_cons, z])
              · omega
              · omega
            · rw [← nm_cons]
              rfl
        · have : ¬ 0 < r % 27 := fun z => e2 (decide_eq_true z)
          exact ⟨rfl, suf, r, _, r0, iv, dg, by omega, .inr (.inr (by omega)), rfl⟩
      · have : ¬ 0 < r := fun z => e (decide_eq_true z)
        exact ⟨rfl, suf, r, _, r0, iv, dg, by omega, .inr (.inl (by omega)), rfl⟩
    · rintro σ G ⟨rfl, suf, r, x, r0, iv, dg, ls, st, rfl⟩
      have lz : (nm suf).length ≤ sizeLine := by rw [nm_len]; exact Nat.le_of_lt (small6 (by omega))
      refine ⟨_, rfl, rfl, _, rfl, ite2 (fun e => ?_) (fun e => ?_)⟩
      · have hr : r = 0 := V.int.inj (of_decide_eq_true e)
        subst hr
        refine ⟨_, rfl, _, rfl, lz, _, _, rfl, rfl, _, rfl, ite2 (fun e1 => ?_) (fun e1 => ?_)⟩
        · have l0 : 0 < suf.length := by
            have := of_decide_eq_true e1
            rw [nm_len] at this
            omega
          refine ⟨_, _, rfl, rfl, _, rfl, ?_⟩
          rw [nm_len]
          refine ite2 (fun e2 => ?_) (fun e2 => ?_)
          · have l5 : (suf.length : Int) < 5 := of_decide_eq_true e2
            exact ⟨_, rfl, kQ suf ⟨dg, by omega, by omega⟩ (iv_end iv dg) _ (Same.refl _)⟩
          · have l5 : ¬ (suf.length : Int) < 5 := fun z => e2 (decide_eq_true z)
            refine kN (fun l hl z => ?_) _ (Same.refl _)
            have := iv_one iv dg l hl z
            have := hl.hi
            subst l
            omega
        · have l0 : suf = [] := by
            cases suf with
            | nil => rfl
            | cons c s =>
              refine absurd (decide_eq_true ?_) e1
              rw [nm_len, List.length_cons]
              omega
          subst l0
          refine ⟨_, rfl, iteF ?_⟩
          refine kN (fun l hl z => ?_) _ (Same.refl _)
          have := iv_one iv dg l hl z
          have := hl.lo
          subst l
          cases this
      · have hr : r ≠ 0 := fun z => e (decide_eq_true (congrArg V.int z))
        refine kN (fun l hl z => ?_) _ (Same.refl _)
        rcases st with z1 | z1 | z1
        · have := iv_long iv (by omega) l hl.lt z
          have := hl.hi
          omega
        · exact hr z1
        · exact iv_dead iv (by omega) z1 l hl.lt z
end
section
variable {P : Program} {w : World} {K : PySem.W.Frag} {mg : Str → Option Value} {base : Heap}
theorem okLIsName (T : Tx K mg) : FnOk P w K mg base CX0 1 (He.ga K "_law_is_name") T.fdLIsName ["_law_one"] (spIsName K) := by
  have B := T.B
  refine T.FLIsName.ok scLIsName (fun vs H Q E h => ?_) (fun cdv A outer s H vs Q E hr h => ?_)
  · obtain ⟨x, rfl, _⟩ := h
    rfl
  · obtain ⟨x, rfl, hx⟩ := h
    refine ⟨_, PSs.nox (pss_cons (ps_if (PW.pt (pw_or (pt_not (pt_val (pe_callB call_isi (by rfl) B.b_isinstance boot_isinstance (pa_cons (pv 0) (pa_cons (pe_bltn (v := .ty "str") (by rfl) B.b_str PyProof.Rows.boot_str rfl) pa_nil))))) (pw_or (pt_cmpR op_eq (pe_callB call_len_str (by rfl) B.b_len PySem.boot_len (pa_cons (pv 0) pa_nil)) pe_int (nomark _)) (pw_or1 (pt_cmpR op_gt (pe_callB call_len_str (by rfl) B.b_len PySem.boot_len (pa_cons (pv 0) pa_nil)) pe_int (nomark _)))))) (pss_one (ps_ret pe_bl)) pss_nil)
        (pss_one (ps_ret (pe_callB (cr_all rfl) (by rfl) B.b_all boot_all (pa_cons (pe_lc (own := [("_law_sign", 1)]) (g := gName 1) (tt := tYes) (by rfl) scLIsName.nd (pi_str (pv 0)) (blkOk_by (own := [("_law_sign", 1)]) (N := ["_law_one", "_law_sign"]) (sc := defScope sLIsName) (by decide +kernel)) (fun _ _ _ _ _ => by exact (pg_name (i := 1) scLIsName.nd rfl (Or.inl rfl))) (fun _ _ _ _ _ => pts_nil) (fun _ _ _ _ _ => (pe_cmpR op_in_sign (pv 1) pe_str (by rfl)))) pa_nil))))), ?_⟩
    rcases hx with ⟨z, rfl, hz, q⟩ | ⟨t, ht, hk, q⟩
    · refine ⟨_, rfl, _, _, _, _, _, rfl, .ty _, .base (.str z), kit_ty (r := true) (by decide +kernel), _, rfl, iteF ?_⟩
      have hz2 : z.length ≤ sizeLine := Nat.le_of_lt (small6 (n := z.length) (by omega))
      refine ⟨_, rfl, _, rfl, hz2, rfl, _, rfl, ite2 (fun e1 => ?_) (fun e1 => ?_)⟩
      · have l1 : (z.length : Int) = 0 := V.int.inj (of_decide_eq_true e1)
        have en : isNm z = false := by
          unfold isNm
          rw [decide_eq_false (show ¬ 1 ≤ z.length by omega)]
          rfl
        rw [en] at q
        exact q H (Same.refl _)
      · have l0 : ¬ (z.length : Int) = 0 := fun z => e1 (decide_eq_true (congrArg V.int z))
        have l1 : (1 : Int) ≤ z.length := by omega
        refine ⟨_, rfl, _, rfl, hz2, _, _, rfl, rfl, _, rfl, ite2 (fun e2 => ?_) (fun e2 => ?_)⟩
        · have l2 : (4 : Int) < z.length := of_decide_eq_true e2
          have en : isNm z = false := by
            unfold isNm
            rw [decide_eq_false (show ¬ z.length ≤ 4 by omega)]
            cases decide (1 ≤ z.length) <;> rfl
          rw [en] at q
          exact q H (Same.refl _)
        · have l2 : (z.length : Int) ≤ 4 := by
            have : ¬ (4 : Int) < z.length := fun z => e2 (decide_eq_true z)
            omega
          refine ⟨_, rfl, _, rfl, fun D hD => lc_it walk_str (fun i G => Same H G ∧ G D = some (.lst ((z.cps.toList.take i).map fun c => V.bl (decide (c ∈ LT.cps.toList))))) ⟨same_new hD, upd_same⟩ (fun _ _ _ _ => trivial) ?_ ?_⟩
          · rintro i v G G1 hi ⟨sG, hG⟩ ⟨rfl, c, hc, rfl⟩
            refine ⟨rfl, ?_⟩
            unfold tYes
            refine iteT ?_
            refine ⟨_, rfl, c, _, rfl, rfl, _, hG, ?_, ?_, ?_⟩
            · rw [List.length_map, List.length_take]
              have : z.cps.toList.length = z.length := by simp [Str.length]
              exact small6 (by omega)
            · intro b o e
              have hb : b ≠ D := ne_of_none e hD
              rw [upd_ne hb]
              exact sG _ _ e
            · have hc2 : z.cps.toList[i]? = some c := by simpa using hc
              rw [upd_same, List.take_add_one, hc2, List.map_append]
              rfl
          · rintro G ⟨sG, hG⟩
            have et : z.cps.toList.take z.cps.size = z.cps.toList := List.take_of_length_le (by simp)
            rw [et] at hG
            have eb : (z.cps.toList.map fun c => V.bl (decide (c ∈ LT.cps.toList))) = (z.cps.toList.map fun c => decide (c ∈ LT.cps.toList)).map V.bl := by
              rw [List.map_map]
              rfl
            rw [eb] at hG
            refine ⟨D, _, rfl, .inl (.inl hG), ?_⟩
            have q2 := q G sG
            have en : isNm z = (z.cps.toList.map fun c => decide (c ∈ LT.cps.toList)).all id := by
              unfold isNm
              rw [decide_eq_true (show 1 ≤ z.length by omega), decide_eq_true (show z.length ≤ 4 by omega), List.all_map]
              rfl
            rw [en] at q2
            exact q2
    · refine ⟨_, rfl, _, _, _, _, _, rfl, .ty _, ht, kit_ty (r := false) hk, _, rfl, iteT ?_⟩
      exact q

end
section
variable {P : Program} {w : World} {K : PySem.W.Frag} {mg : Str → Option Value} {base : Heap}
theorem okLWholeName (T : Tx K mg) : FnOk P w K mg base CX0 2 (He.ga K "_law_whole_name") T.fdLWholeName ["_law_box_here"] spLWholeName := by
  have B := T.B
  have GLTake : FnOk P w K mg base CX0 1 (He.ga K "_law_take") T.fdLTake ["_law_box_here", "_law_size"] spLTake := okLTake T
  have bLTake := T.bLTake
  refine T.FLWholeName.ok scLWholeName (fun vs H Q E h => ?_) (fun cdv A outer s H vs Q E hr h => ?_)
  · obtain ⟨p, n, rfl, _⟩ := h
    rfl
  · obtain ⟨p, n, rfl, hB, hn, q⟩ := h
    refine ⟨_, PSs.nox (pss_cons (ps_set (i := 1) scLWholeName.nd rfl (.inr rfl) pe_str)
        (pss_one (ps_ret (pe_join pe_str (pe_lc (own := [("_law_k", 2)]) (g := gName 2) (tt := tYes) (by rfl) scLWholeName.nd (pi_range1 (by rfl) B.b_range (pa_cons (pe_op op_add pe_int (pe_call GLTake (hr.mono (by decide)) (by rfl) T.gLTake T.FLTake.kp bLTake .nil pass0 (pa_cons (pv 0) (pa_cons pe_int pa_nil)))) pa_nil)) (blkOk_by (own := [("_law_k", 2)]) (N := ["_law_box_here", "_law_letters", "_law_k"]) (sc := defScope sLWholeName) (by decide +kernel)) (fun _ _ _ _ _ => by exact (pg_name (i := 2) scLWholeName.nd rfl (Or.inl rfl))) (fun _ _ _ _ _ => pts_nil) (fun _ _ _ _ _ => (pe_ix ix_str (pv 1) (pe_call GLTake (hr.mono (by decide)) (by rfl) T.gLTake T.FLTake.kp bLTake .nil pass0 (pa_cons (pv 0) (pa_cons pe_int pa_nil))) (fun _ _ => rfl)))))))), ?_⟩
    refine ⟨⟨_, rfl⟩, _, rfl, p, 4, n, rfl, hB, by omega, by decide, by decide, fun r G b1 hB1 r0 r1 => ?_⟩
    refine ⟨_, _, rfl, rfl, _, rfl, (by have : -4611686018427387904 ≤ 1 + r := by omega
                                        exact this), (by have : 1 + r < 4611686018427387904 := by omega
                                                         exact this), fun D hD => ?_⟩
    have nD := hB1.ne hD
    refine lc_range (lo := 0) (n := (1 + r).toNat) (fun i G1 => ∃ l : List Nat, l.length = i ∧ (∀ d ∈ l, d < 26) ∧ But p G G1 ∧ Box G1 p (n + 1 + i) ∧ G1 D = some (.lst ((l.map sg).map V.str))) ⟨[], rfl, (fun _ h => nomatch h), But.of (same_new hD), (hB1.same (same_new hD)).mono (by omega), upd_same⟩ ?_ ?_
    · rintro i G1 hi ⟨l, el, hl, bG, hB2, hDG⟩
      refine ⟨rfl, ?_⟩
      unfold tYes
      refine iteT ?_
      refine ⟨_, rfl, _, rfl, p, 26, n + 1 + i, rfl, hB2, by omega, by decide, by decide, fun d G2 b2 hB3 d0 d1 => ?_⟩
      obtain ⟨k, rfl⟩ : ∃ k : Nat, d = (k : Int) := ⟨d.toNat, by omega⟩
      have hD2 := b2 _ _ hDG nD
      refine ⟨LT, _, 97 + k, rfl, rfl, by rw [lt_len]; exact Nat.le_of_lt (small6 (by decide)), atI_nat (lt_at k (by omega)), _, hD2, ?_, ?_⟩
      · rw [List.length_map, List.length_map, el]
        exact small6 (by omega)
      · refine ⟨l ++ [k], by rw [List.length_append, el]; rfl, fun d hd => ?_, fun b o e hb => ?_, ?_, ?_⟩
        · rcases List.mem_append.mp hd with h | h
          · exact hl d h
          · have := List.mem_singleton.mp h
            omega
        · have hbD : b ≠ D := ne_of_none e hD
          rw [upd_ne hbD]
          exact b2 _ _ (bG _ _ e hb) hb
        · obtain ⟨x, y, z, e, h1, h2, h3, h4, h5⟩ := hB3
          exact ⟨x, y, z, by rw [upd_ne nD.symm]; exact e, h1, h2, h3, h4, by omega⟩
        · rw [upd_same, List.map_append, List.map_append]
          rfl
    · rintro G1 ⟨l, el, hl, bG, hB2, hDG⟩
      refine ⟨_, D, l.map sg, rfl, rfl, .inl (SqL.of hDG), ?_, ?_⟩
      · have e1 : (List.map (fun x : Str => x.length) (l.map sg)).sum = l.length := by
          rw [List.map_map]
          have : ∀ l : List Nat, (l.map ((fun x : Str => x.length) ∘ sg)).sum = l.length := by
            intro l
            induction l with
            | nil => rfl
            | cons d l ih =>
              rw [List.map_cons, List.sum_cons, ih, List.length_cons]
              show 1 + l.length = l.length + 1
              omega
          exact this l
        have e2 : (Str.ofString "").length = 0 := by decide +kernel
        show (List.map (fun x : Str => x.length) (l.map sg)).sum + (l.map sg).length * (Str.ofString "").length ≤ 16777216
        rw [e1, e2]
        omega
      · show Q (V.str (Txt.join (Str.ofString "") (l.map sg))) G1
        rw [join_sg]
        exact q l G1 ⟨hl, by omega, by omega⟩ (b1.trans bG) (hB2.mono (by omega))

end
section
variable {P : Program} {w : World} {K : PySem.W.Frag} {mg : Str → Option Value} {base : Heap}
def spLPick : Sp := fun vs H Q _ => ∃ (p l : Addr) (xs : List V) (n : Int), vs = [.ref p, .ref l] ∧ Box H p n ∧ n < 1000000 ∧ l ≠ p ∧ H l = some (.lst xs) ∧ 0 < xs.length ∧ xs.length < 1000 ∧ ∀ v G, v ∈ xs → But p H G → Box G p (n + 1) → Q v G
theorem ixN_nat {n j : Nat} (h : j < n) : ixN n (j : Int) = some j := by
  unfold ixN
  rw [if_pos (by omega), if_pos (by omega)]
  simp
theorem okLPick (T : Tx K mg) : FnOk P w K mg base CX0 2 (He.ga K "_law_pick") T.fdLPick ["_law_box_here", "_law_things"] spLPick := by
  have B := T.B
  have GLTake : FnOk P w K mg base CX0 1 (He.ga K "_law_take") T.fdLTake ["_law_box_here", "_law_size"] spLTake := okLTake T
  have bLTake := T.bLTake
  refine T.FLPick.ok scLPick (fun vs H Q E h => ?_) (fun cdv A outer s H vs Q E hr h => ?_)
  · obtain ⟨p, l, xs, n, rfl, _⟩ := h
    rfl
  · obtain ⟨p, l, xs, n, rfl, hB, hn, nl, hl, hx, hx2, q⟩ := h
    refine ⟨_, PSs.nox (pss_one (ps_ret (pe_ix ix_list (pv 1) (pe_call GLTake (hr.mono (by decide)) (by rfl) T.gLTake T.FLTake.kp bLTake .nil pass0 (pa_cons (pv 0) (pa_cons (pe_callB call_len_seq (by rfl) B.b_len PySem.boot_len (pa_cons (pv 1) pa_nil)) pa_nil))) (fun _ _ => rfl)))), ?_⟩
    refine ⟨_, rfl, _, rfl, _, rfl, l, xs, rfl, .inl (SqL.of hl), p, xs.length, n, rfl, hB, by omega, by omega, by omega, fun r G b1 hB1 r0 r1 => ?_⟩
    obtain ⟨v, ev, mv⟩ := atI_some (xs := xs) r0 r1
    exact ⟨l, _, r, v, rfl, rfl, SqL.of (b1 _ _ hl nl), ev, q v G mv b1 hB1⟩
end
section
variable {P : Program} {w : World} {K : PySem.W.Frag} {mg : Str → Option Value} {base : Heap}
def NNs (xs : List V) : Prop := ∀ v ∈ xs, ∃ x : Int, 0 ≤ x ∧ v = .int x
def spLNumber : Sp := fun vs H Q _ => ∃ (p : Addr) (n : Int), vs = [.ref p] ∧ Box H p n ∧ n < 100000 ∧ ∀ (x : Int) (G : Hp), 0 ≤ x → But p H G → Box G p (n + 20) → Q (.int x) G
theorem okLNumber (T : Tx K mg) : FnOk P w K mg base CX0 3 (He.ga K "_law_number") T.fdLNumber ["_law_box_here"] spLNumber := by
  have B := T.B
  have GLNameNumber : FnOk P w K mg base CX0 1 (He.ga K "_law_name_number") T.fdLNameNumber ["_law_name"] spNameNumber := okLNameNumber T
  have bLNameNumber := T.bLNameNumber
  have GLPick : FnOk P w K mg base CX0 2 (He.ga K "_law_pick") T.fdLPick ["_law_box_here", "_law_things"] spLPick := okLPick T
  have bLPick := T.bLPick
  have GLWholeName : FnOk P w K mg base CX0 2 (He.ga K "_law_whole_name") T.fdLWholeName ["_law_box_here"] spLWholeName := okLWholeName T
  have bLWholeName := T.bLWholeName
  have GLTake : FnOk P w K mg base CX0 1 (He.ga K "_law_take") T.fdLTake ["_law_box_here", "_law_size"] spLTake := okLTake T
  have bLTake := T.bLTake
  refine T.FLNumber.ok scLNumber (fun vs H Q E h => ?_) (fun cdv A outer s H vs Q E hr h => ?_)
  · obtain ⟨p, n, rfl, _⟩ := h
    rfl
  · obtain ⟨p, n, rfl, hB, hn, q⟩ := h
    refine ⟨_, PSs.nox (pss_cons (ps_set (i := 1) scLNumber.nd rfl (.inl rfl) (pe_call GLNameNumber (hr.mono (by decide)) (by rfl) T.gLNameNumber T.FLNameNumber.kp bLNameNumber .nil pass0 (pa_cons (pe_call GLWholeName (hr.mono (by decide)) (by rfl) T.gLWholeName T.FLWholeName.kp bLWholeName .nil pass0 (pa_cons (pv 0) pa_nil)) pa_nil)))
        (pss_cons (ps_setLc (i := 2) (own := [("_law_turn", 3)]) (g := gName 3) (tt := tYes) (by rfl) scLNumber.nd rfl rfl (sw_true rfl rfl rfl (by decide +kernel)) (pi_range1 (by rfl) B.b_range (pa_cons (pe_op op_add pe_int (pe_call GLTake (hr.mono (by decide)) (by rfl) T.gLTake T.FLTake.kp bLTake .nil pass0 (pa_cons (pv 0) (pa_cons pe_int pa_nil)))) pa_nil)) (blkOk_by (own := [("_law_turn", 3)]) (N := ["_law_box_here", "_law_near", "_law_figures", "_law_turn", "_law_other", "_law_figure", "_law_beyond", "_law_some_numbers"]) (sc := defScope sLNumber) (by decide +kernel)) (fun _ _ _ _ _ => by exact (pg_name (i := 3) scLNumber.nd rfl (Or.inl rfl))) (fun _ _ _ _ _ => pts_nil) (fun _ _ _ _ _ => (pe_op op_add pe_int (pe_call GLTake (hr.mono (by decide)) (by rfl) T.gLTake T.FLTake.kp bLTake .nil pass0 (pa_cons (pv 0) (pa_cons pe_int pa_nil))))))
        (pss_cons (ps_asg pe_int (pg_sub (pv 2) (pe_call GLTake (hr.mono (by decide)) (by rfl) T.gLTake T.FLTake.kp bLTake .nil pass0 (pa_cons (pv 0) (pa_cons (pe_callB call_len_seq (by rfl) B.b_len PySem.boot_len (pa_cons (pv 2) pa_nil)) pa_nil))) set_list))
        (pss_cons (ps_set (i := 4) scLNumber.nd rfl (.inl rfl) pe_int)
        (pss_cons (ps_for PassesOwn.never rfl (pi_list (pv 2)) (pg_name (i := 5) scLNumber.nd rfl (Or.inl rfl))
        (pss_one (ps_set (i := 4) scLNumber.nd rfl (.inl rfl) (pe_op op_add (pe_op op_mul (pv 4) pe_int) (pv 5)))))
        (pss_cons (ps_set (i := 6) scLNumber.nd rfl (.inl rfl) (pe_op op_add pe_int (pe_call GLTake (hr.mono (by decide)) (by rfl) T.gLTake T.FLTake.kp bLTake .nil pass0 (pa_cons (pv 0) (pa_cons pe_int pa_nil)))))
        (pss_cons (ps_set (i := 7) scLNumber.nd rfl (.inl rfl) (pe_lst (pa_cons (pv 4) (pa_cons (pv 4) (pa_cons (pe_op op_add (pv 1) (pe_call GLTake (hr.mono (by decide)) (by rfl) T.gLTake T.FLTake.kp bLTake .nil pass0 (pa_cons (pv 0) (pa_cons pe_int pa_nil)))) (pa_cons (pe_op op_mul (pv 1) pe_int) (pa_cons (pv 6) (pa_cons (pe_call GLTake (hr.mono (by decide)) (by rfl) T.gLTake T.FLTake.kp bLTake .nil pass0 (pa_cons (pv 0) (pa_cons (pe_op op_pow pe_int pe_int) pa_nil))) (pa_cons pe_int pa_nil)))))))))
        (pss_one (ps_ret (pe_call GLPick (hr.mono (by decide)) (by rfl) T.gLPick T.FLPick.kp bLPick .nil pass0 (pa_cons (pv 0) (pa_cons (pe_op op_cat (pv 7) (pe_lst (pa_cons (pv 1) (pa_cons (pe_ix ix_list (pe_lst (pa_cons pe_int (pa_cons pe_int (pa_cons pe_int (pa_cons pe_int pa_nil))))) (pe_call GLTake (hr.mono (by decide)) (by rfl) T.gLTake T.FLTake.kp bLTake .nil pass0 (pa_cons (pv 0) (pa_cons pe_int pa_nil))) (fun _ _ => rfl)) (pa_cons (pe_op op_add (pe_op op_pow pe_int pe_int) (pv 1)) pa_nil))))) pa_nil)))))))))))), ?_⟩
    refine ⟨_, rfl, p, n, rfl, hB, by omega, fun l G gl b1 hB1 => ?_⟩
    refine ⟨l, rfl, gl.lt, ?_⟩
    have n0 := num_nonneg l
    refine ⟨_, rfl, p, 4, n + 5, rfl, hB1, by omega, by decide, by decide, fun r G2 b2 hB2 r0 r1 => ?_⟩
    refine ⟨_, _, rfl, rfl, _, rfl, (by have : -4611686018427387904 ≤ 2 + r := by omega
                                        exact this), (by have : 2 + r < 4611686018427387904 := by omega
                                                         exact this), fun D hD => ?_⟩
    have nD := hB2.ne hD
    refine lc_range (lo := 0) (n := (2 + r).toNat) (fun i G1 => ∃ xs : List V, xs.length = i ∧ NNs xs ∧ But p G2 G1 ∧ Box G1 p (n + 6 + i) ∧ G1 D = some (.lst xs)) ⟨[], rfl, (fun _ h => nomatch h), But.of (same_new hD), (hB2.same (same_new hD)).mono (by omega), upd_same⟩ ?_ ?_
    · rintro i G1 hi ⟨xs, el, hx, bG, hB3, hDG⟩
      refine ⟨rfl, ?_⟩
      unfold tYes
      refine iteT ?_
      refine ⟨_, rfl, p, 26, n + 6 + i, rfl, hB3, by omega, by decide, by decide, fun d G3 b3 hB4 d0 d1 => ?_⟩
      refine ⟨_, _, rfl, rfl, _, b3 _ _ hDG nD, ?_, ?_⟩
      · rw [el]
        exact small6 (by omega)
      · refine ⟨xs ++ [.int (1 + d)], by rw [List.length_append, el]; rfl, fun v hv => ?_, fun b o e hb => ?_, ?_, ?_⟩
        · rcases List.mem_append.mp hv with h | h
          · exact hx v h
          · exact ⟨1 + d, by omega, List.mem_singleton.mp h⟩
        · rw [upd_ne (ne_of_none e hD)]
          exact b3 _ _ (bG _ _ e hb) hb
        · obtain ⟨x, y, z, e, h1, h2, h3, h4, h5⟩ := hB4
          exact ⟨x, y, z, by rw [upd_ne nD.symm]; exact e, h1, h2, h3, h4, by omega⟩
        · rw [upd_same]
    · rintro G3 ⟨xs, el, hx, bG, hB3, hDG⟩
      have lx : (xs.length : Int) = 2 + r := by omega
      refine ⟨_, rfl, _, rfl, _, rfl, D, xs, rfl, .inl (SqL.of hDG), p, xs.length, n + 12, rfl, hB3.mono (by omega), by omega, by omega, by omega, fun k G4 b4 hB4 k0 k1 => ?_⟩
      obtain ⟨j, rfl⟩ : ∃ j : Nat, k = (j : Int) := ⟨k.toNat, by omega⟩
      have hD4 := b4 _ _ hDG nD
      refine ⟨D, xs, j, j, rfl, rfl, hD4, ixN_nat (by omega), ?_⟩
      have hx5 : NNs (xs.set j (.int 0)) := fun v hv => by
        rcases List.mem_or_eq_of_mem_set hv with h | h
        · exact hx v h
        · exact ⟨0, Int.le_refl _, h⟩
      have hB5 : Box (upd G4 D (.lst (xs.set j (.int 0)))) p (n + 13) := by
        obtain ⟨x, y, z, e, h1, h2, h3, h4, h5⟩ := hB4
        exact ⟨x, y, z, by rw [upd_ne nD.symm]; exact e, h1, h2, h3, h4, by omega⟩
      have b5 : But p G2 (upd G4 D (.lst (xs.set j (.int 0)))) := fun b o e hb => by
        rw [upd_ne (ne_of_none e hD)]
        exact b4 _ _ (bG _ _ e hb) hb
      refine ⟨_, rfl, D, rfl, ⟨_, SqL.of upd_same⟩, for_it (walk_list (xs := xs.set j (.int 0))) (fun i σ G => G = upd G4 D (.lst (xs.set j (.int 0))) ∧ ∃ (o : Int) (x : Option V), 0 ≤ o ∧ σ = [some (.ref p), some (.int (num l)), some (.ref D), none, some (.int o), x, none, none]) ⟨rfl, 0, none, Int.le_refl _, rfl⟩ (fun _ _ _ _ h => by rw [h.1]; exact SqL.of upd_same) ?_ ?_⟩
      · rintro i v σ G G1 hi ⟨rfl, o, x, o0, rfl⟩ ⟨rfl, hv⟩
        obtain ⟨y, y0, rfl⟩ := hx5 v (List.mem_of_getElem? hv)
        refine ⟨_, rfl, _, _, rfl, rfl, .inr ⟨by decide, by decide⟩, _, rfl, _, _, rfl, rfl, ?_⟩
        exact ⟨rfl, o * 27 + y, some (.int y), by omega, rfl⟩
      rintro σ G ⟨rfl, o, x, o0, rfl⟩
      refine ⟨_, rfl, p, 4, n + 13, rfl, hB5, by omega, by decide, by decide, fun r6 G6 b6 hB6 r60 r61 => ⟨_, _, rfl, rfl, ?_⟩⟩
      refine ⟨_, rfl, _, rfl, _, rfl, _, rfl, p, 3, n + 14, rfl, hB6.mono (by omega), by omega, by decide, by decide, fun r7 G7 b7 hB7 r70 r71 => ⟨_, _, rfl, rfl, ?_⟩⟩
      refine ⟨_, rfl, _, _, rfl, rfl, .inr ⟨by decide, by decide⟩, _, rfl, _, rfl, _, _, rfl, rfl, ⟨by decide, by decide, by decide⟩, p, _, n + 15, rfl, hB7.mono (by omega), by omega, by decide, by decide, fun r8 G8 b8 hB8 r80 r81 => ?_⟩
      refine ⟨by show 7 ≤ sizeLine; decide, fun L hL => ?_⟩
      have hB9 := hB8.same (same_new (o := .lst [V.int o, .int o, .int (num l + r7), .int (num l * 27), .int (531440 + r6), .int r8, .int 0]) hL)
      have nL := hB8.ne hL
      refine ⟨_, rfl, _, rfl, _, rfl, by show 4 ≤ sizeLine; decide, fun M hM => ?_⟩
      have hB10 := hB9.same (same_new (o := .lst [V.int 27, .int 729, .int 19683, .int 531441]) hM)
      have nM := hB9.ne hM
      refine ⟨_, rfl, p, 4, n + 16, rfl, hB10.mono (by omega), by omega, by decide, by decide, fun r9 G9 b9 hB11 r90 r91 => ?_⟩
      obtain ⟨v, ev, mv⟩ := atI_some (xs := [V.int 27, .int 729, .int 19683, .int 531441]) (r := r9) r90 (by show r9 < 4; exact r91)
      obtain ⟨y, y0, rfl⟩ : ∃ y : Int, 0 ≤ y ∧ v = .int y := by
        simp only [List.mem_cons, List.not_mem_nil, or_false] at mv
        rcases mv with rfl | rfl | rfl | rfl
        · exact ⟨27, by decide, rfl⟩
        · exact ⟨729, by decide, rfl⟩
        · exact ⟨19683, by decide, rfl⟩
        · exact ⟨531441, by decide, rfl⟩
      refine ⟨M, _, r9, _, rfl, rfl, SqL.of (b9 _ _ upd_same nM), ev, ?_⟩
      refine ⟨_, _, rfl, rfl, ⟨by decide, by decide, by decide⟩, _, rfl, _, _, rfl, rfl, by show 3 ≤ sizeLine; decide, fun M2 hM2 => ?_⟩
      have e10 : (10 : Int) ^ (30 : Int).toNat = 1000000000000000000000000000000 := by decide +kernel
      rw [e10]
      have hB12 := hB11.same (same_new (o := .lst [V.int (num l), .int y, .int (1000000000000000000000000000000 + num l)]) hM2)
      have hL9 : G9 L = some (.lst [V.int o, .int o, .int (num l + r7), .int (num l * 27), .int (531440 + r6), .int r8, .int 0]) := b9 _ _ (same_new hM _ _ upd_same) nL
      refine ⟨L, M2, _, _, rfl, rfl, same_new hM2 _ _ hL9, upd_same, by show 10 ≤ sizeLine; decide, fun L3 hL3 => ?_⟩
      refine ⟨p, L3, _, n + 17, rfl, (hB12.same (same_new hL3)).mono (by omega), by omega, hB12.ne hL3, upd_same, by show 0 < 10; decide, by show 10 < 1000; decide, fun v G10 mv bv hBv => ?_⟩
      obtain ⟨z, z0, rfl⟩ : ∃ z : Int, 0 ≤ z ∧ v = .int z := by
        simp only [List.cons_append, List.nil_append, List.mem_cons, List.not_mem_nil, or_false] at mv
        rcases mv with rfl | rfl | rfl | rfl | rfl | rfl | rfl | rfl | rfl | rfl
        · exact ⟨o, o0, rfl⟩
        · exact ⟨o, o0, rfl⟩
        · exact ⟨num l + r7, by omega, rfl⟩
        · exact ⟨num l * 27, by omega, rfl⟩
        · exact ⟨531440 + r6, by omega, rfl⟩
        · exact ⟨r8, r80, rfl⟩
        · exact ⟨0, by decide, rfl⟩
        · exact ⟨num l, n0, rfl⟩
        · exact ⟨y, y0, rfl⟩
        · exact ⟨_, by omega, rfl⟩
      exact q z G10 z0 (b1.trans (b2.trans (b5.trans (b6.trans (b7.trans (b8.trans ((But.of (same_new hL)).trans ((But.of (same_new hM)).trans (b9.trans ((But.of (same_new hM2)).trans ((But.of (same_new hL3)).trans bv))))))))))) (hBv.mono (by omega))
end
section
variable {P : Program} {w : World} {K : PySem.W.Frag} {mg : Str → Option Value} {base : Heap}
def EV : Str := " !\"#$&'()*+,-./0123456789:;<=>?@ABCDEFGHIJKLMNOPQRSTUVWXYZ[\\]^_`abcdefghijklmnopqrstuvwxyz{|}~\n"
theorem ev_len : EV.length = 95 := by decide +kernel
def spLSpoilt : Sp := fun vs H Q _ => ∃ (p : Addr) (n : Int) (l : List Nat), vs = [.ref p, .str (nm l)] ∧ Gd l ∧ Box H p n ∧ n < 100000 ∧ ∀ (z : Str) (G : Hp), z.length ≤ 100000 → But p H G → Box G p (n + 3) → Q (.str z) G
theorem okLSpoilt (T : Tx K mg) : FnOk P w K mg base CX0 2 (He.ga K "_law_spoilt") T.fdLSpoilt ["_law_box_here", "_law_one"] spLSpoilt := by
  have B := T.B
  have GLTake : FnOk P w K mg base CX0 1 (He.ga K "_law_take") T.fdLTake ["_law_box_here", "_law_size"] spLTake := okLTake T
  have bLTake := T.bLTake
  refine T.FLSpoilt.ok scLSpoilt (fun vs H Q E h => ?_) (fun cdv A outer s H vs Q E hr h => ?_)
  · obtain ⟨p, n, l, rfl, _⟩ := h
    rfl
  · obtain ⟨p, n, l, rfl, gl, hB, hn, q⟩ := h
    refine ⟨_, PSs.nox (pss_cons (ps_set (i := 2) scLSpoilt.nd rfl (.inl rfl) pe_str)
        (pss_cons (ps_par3 (i := 3) (j := 4) (l := 5) (by rfl) scLSpoilt.nd rfl rfl rfl (by decide) (by decide) (by decide) rfl rfl rfl (pa_cons (pe_call GLTake (hr.mono (by decide)) (by rfl) T.gLTake T.FLTake.kp bLTake .nil pass0 (pa_cons (pv 0) (pa_cons (pe_op op_add (pe_callB call_len_str (by rfl) B.b_len PySem.boot_len (pa_cons (pv 1) pa_nil)) pe_int) pa_nil))) (pa_cons (pe_call GLTake (hr.mono (by decide)) (by rfl) T.gLTake T.FLTake.kp bLTake .nil pass0 (pa_cons (pv 0) (pa_cons pe_int pa_nil))) (pa_cons (pe_ix ix_str (pv 2) (pe_call GLTake (hr.mono (by decide)) (by rfl) T.gLTake T.FLTake.kp bLTake .nil pass0 (pa_cons (pv 0) (pa_cons (pe_callB call_len_str (by rfl) B.b_len PySem.boot_len (pa_cons (pv 2) pa_nil)) pa_nil))) (fun _ _ => rfl)) pa_nil))) (by rfl))
        (pss_one (ps_ret (pe_ix ix_list (pe_lst (pa_cons (pe_op op_add_str (pe_op op_add_str (pe_slice sl_str (pv 1) po_none (po_some (pv 3))) (pv 5)) (pe_slice sl_str (pv 1) (po_some (pv 3)) po_none)) (pa_cons (pe_op op_add_str (pe_op op_add_str (pe_slice sl_str (pv 1) po_none (po_some (pv 3))) (pv 5)) (pe_slice sl_str (pv 1) (po_some (pe_op op_add (pv 3) pe_int)) po_none)) (pa_cons (pe_op op_add_str (pe_slice sl_str (pv 1) po_none (po_some (pv 3))) (pe_slice sl_str (pv 1) (po_some (pe_op op_add (pv 3) pe_int)) po_none)) pa_nil)))) (pv 4) (fun _ _ => rfl)))))), ?_⟩
    have lz : (nm l).length ≤ sizeLine := by rw [nm_len]; exact Nat.le_of_lt (small6 (by have := gl.hi; omega))
    have l4 : l.length ≤ 4 := gl.hi
    have ez : EV.length ≤ sizeLine := by rw [ev_len]; exact Nat.le_of_lt (small6 (by decide))
    have cl : ∀ lo hi, (cutS (nm l) lo hi).length ≤ 4 := fun lo hi => Nat.le_trans (cutS_length _ _ _) (by rw [nm_len]; exact l4)
    have nl : (nm l).length = l.length := nm_len l
    refine ⟨_, rfl, _, rfl, _, rfl, lz, _, _, rfl, rfl, p, _, n, rfl, hB, by omega, ?_, ?_, fun r G b1 hB1 r0 r1 => ?_⟩
    · show (0 : Int) < ((nm l).length : Int) + 1
      omega
    · show ((nm l).length : Int) + 1 < 340282366920938463463374607431768211456
      rw [nl]
      omega
    refine ⟨_, rfl, p, 3, n + 1, rfl, hB1, by omega, by decide, by decide, fun wy G2 b2 hB2 w0 w1 => ?_⟩
    refine ⟨_, rfl, _, rfl, _, rfl, EV, rfl, ez, p, _, n + 2, rfl, hB2.mono (by omega), by omega, ?_, ?_, fun e G3 b3 hB3 e0 e1 => ?_⟩
    · rw [ev_len]
      decide
    · rw [ev_len]
      decide
    rw [ev_len] at e1
    obtain ⟨c, hc⟩ : ∃ c, atI EV.cps.toList e = some c := by
      obtain ⟨j, rfl⟩ : ∃ j : Nat, e = (j : Int) := ⟨e.toNat, by omega⟩
      have hj : j < EV.cps.toList.length := by
        have h : EV.cps.toList.length = 95 := ev_len
        omega
      exact ⟨_, atI_nat (List.getElem?_eq_getElem hj)⟩
    refine ⟨EV, e, c, rfl, rfl, ez, hc, _, _, _, rfl, ?_⟩
    have a1 : ∀ (x y : Str), x.length ≤ 5 → y.length ≤ 5 → x.length + y.length ≤ sizeLine := fun x y hx hy => Nat.le_of_lt (small6 (by omega))
    have ap : ∀ (x y : Str), (x ++ y).length = x.length + y.length := fun x y => by
      show (x.cps ++ y.cps).size = x.cps.size + y.cps.size
      simp
    have s1 : (⟨#[c]⟩ : Str).length = 1 := rfl
    refine ⟨_, rfl, _, rfl, _, rfl, _, rfl, lz, _, rfl, _, _, rfl, rfl, ?_, ?_⟩
    · exact a1 _ _ (by have := cl none (some r); omega) (by rw [s1]; omega)
    refine ⟨_, rfl, _, rfl, _, rfl, _, rfl, lz, _, _, rfl, rfl, ?_, ?_⟩
    · exact a1 _ _ (by rw [ap, s1]; have := cl none (some r); omega) (by have := cl (some r) none; omega)
    refine ⟨_, rfl, _, rfl, _, rfl, _, rfl, lz, _, rfl, _, _, rfl, rfl, ?_, ?_⟩
    · exact a1 _ _ (by have := cl none (some r); omega) (by rw [s1]; omega)
    refine ⟨_, rfl, _, rfl, _, _, rfl, rfl, _, rfl, _, rfl, lz, _, _, rfl, rfl, ?_, ?_⟩
    · exact a1 _ _ (by rw [ap, s1]; have := cl none (some r); omega) (by have := cl (some (r + 1)) none; omega)
    refine ⟨_, rfl, _, rfl, _, rfl, _, rfl, lz, _, rfl, _, rfl, _, _, rfl, rfl, _, rfl, _, rfl, lz, _, _, rfl, rfl, ?_, ?_⟩
    · exact a1 _ _ (by have := cl none (some r); omega) (by have := cl (some (r + 1)) none; omega)
    refine ⟨by show 3 ≤ sizeLine; decide, fun L hL => ?_⟩
    obtain ⟨v, ev, mv⟩ := atI_some (xs := [V.str (cutS (nm l) none (some r) ++ ⟨#[c]⟩ ++ cutS (nm l) (some r) none), .str (cutS (nm l) none (some r) ++ ⟨#[c]⟩ ++ cutS (nm l) (some (r + 1)) none), .str (cutS (nm l) none (some r) ++ cutS (nm l) (some (r + 1)) none)]) (r := wy) w0 (by show wy < 3; exact w1)
    refine ⟨_, rfl, L, _, wy, v, rfl, rfl, SqL.of upd_same, ev, ?_⟩
    have bb := b1.trans (b2.trans (b3.trans (But.of (same_new (o := .lst [V.str (cutS (nm l) none (some r) ++ ⟨#[c]⟩ ++ cutS (nm l) (some r) none), .str (cutS (nm l) none (some r) ++ ⟨#[c]⟩ ++ cutS (nm l) (some (r + 1)) none), .str (cutS (nm l) none (some r) ++ cutS (nm l) (some (r + 1)) none)]) hL))))
    have hb := (hB3.same (same_new (o := .lst [V.str (cutS (nm l) none (some r) ++ ⟨#[c]⟩ ++ cutS (nm l) (some r) none), .str (cutS (nm l) none (some r) ++ ⟨#[c]⟩ ++ cutS (nm l) (some (r + 1)) none), .str (cutS (nm l) none (some r) ++ cutS (nm l) (some (r + 1)) none)]) hL)).mono (show n + 2 + 1 ≤ n + 3 by omega)
    have k1 := cl none (some r)
    have k2 := cl (some r) none
    have k3 := cl (some (r + 1)) none
    simp only [List.mem_cons, List.not_mem_nil, or_false] at mv
    rcases mv with rfl | rfl | rfl
    · exact q _ _ (by rw [ap, ap, s1]; omega) bb hb
    · exact q _ _ (by rw [ap, ap, s1]; omega) bb hb
    · exact q _ _ (by rw [ap]; omega) bb hb
end
section
variable {P : Program} {w : World} {K : PySem.W.Frag} {mg : Str → Option Value} {base : Heap}
/-- a thing that the law asks about -/
def OkT (G : Hp) (v : V) : Prop := (∃ z : Str, v = .str z ∧ z.length ≤ 100000) ∨ v = .non ∨ (∃ i : Int, v = .int i) ∨ (∃ b : Bool, v = .bl b) ∨ (∃ (a : Addr) (xs : List V), v = .ref a ∧ G a = some (.lst xs)) ∨ ∃ (a : Addr) (xs : List V), v = .ref a ∧ G a = some (.tup xs)
theorem OkT.same {G J : Hp} {v : V} (h : OkT G v) (s : Same G J) : OkT J v := by
  rcases h with h | h | h | h | ⟨a, xs, e, h⟩ | ⟨a, xs, e, h⟩
  · exact .inl h
  · exact .inr (.inl h)
  · exact .inr (.inr (.inl h))
  · exact .inr (.inr (.inr (.inl h)))
  · exact .inr (.inr (.inr (.inr (.inl ⟨a, xs, e, s _ _ h⟩))))
  · exact .inr (.inr (.inr (.inr (.inr ⟨a, xs, e, s _ _ h⟩))))
theorem OkT.ty {K : PySem.W.Frag} {G : Hp} {v : V} (h : OkT G v) : (∃ z : Str, v = .str z ∧ z.length ≤ 100000) ∨ ∃ t : String, kitB t "str" = some false ∧ ∀ J, Same G J → TyX K J v (.type t) := by
  rcases h with h | rfl | ⟨i, rfl⟩ | ⟨b, rfl⟩ | ⟨a, xs, rfl, h⟩ | ⟨a, xs, rfl, h⟩
  · exact .inl h
  · exact .inr ⟨"NoneType", by decide +kernel, fun _ _ => .base .non⟩
  · exact .inr ⟨"int", by decide +kernel, fun _ _ => .base (.int i)⟩
  · exact .inr ⟨"bool", by decide +kernel, fun _ _ => .base (.bl b)⟩
  · exact .inr ⟨"list", by decide +kernel, fun J s => .base (.lst (s _ _ h))⟩
  · exact .inr ⟨"tuple", by decide +kernel, fun J s => .base (.tup (s _ _ h))⟩
theorem okLaw (T : Tx K mg) : FnOk P w K mg base CX0 5 (He.ga K "law") T.fdLaw ["_law_script"] (spLaw K) := by
  have B := T.B
  have GLBox : FnOk P w K mg base CX0 1 (He.ga K "_law_box") T.fdLBox ["_law_script", "_law_k"] (spLBox K) := okLBox T
  have bLBox := T.bLBox
  have GLSame : FnOk P w K mg base CX0 2 (He.ga K "_law_same") T.fdLSame ["_law_found", "_law_due"] (spLSame K 2) := okLSame T 2
  have bLSame := T.bLSame
  have GLSpelled : FnOk P w K mg base CX0 1 (He.ga K "_law_spelled") T.fdLSpelled ["_law_figure"] spTell := okLSpelled T
  have bLSpelled := T.bLSpelled
  have GIsName : FnOk P w K mg base CX0 1 (He.ga K "is_name") T.fdIsName ["thing"] (spIsName K) := okIsName T
  have bIsName := T.bIsName
  have GLIsName : FnOk P w K mg base CX0 1 (He.ga K "_law_is_name") T.fdLIsName ["_law_one"] (spIsName K) := okLIsName T
  have bLIsName := T.bLIsName
  have GLNumber : FnOk P w K mg base CX0 3 (He.ga K "_law_number") T.fdLNumber ["_law_box_here"] spLNumber := okLNumber T
  have bLNumber := T.bLNumber
  have GLSpoilt : FnOk P w K mg base CX0 2 (He.ga K "_law_spoilt") T.fdLSpoilt ["_law_box_here", "_law_one"] spLSpoilt := okLSpoilt T
  have bLSpoilt := T.bLSpoilt
  have GLWholeName : FnOk P w K mg base CX0 2 (He.ga K "_law_whole_name") T.fdLWholeName ["_law_box_here"] spLWholeName := okLWholeName T
  have bLWholeName := T.bLWholeName
  have GNameNumber : FnOk P w K mg base CX0 1 (He.ga K "name_number") T.fdNameNumber ["name"] spNameNumber := okNameNumber T
  have bNameNumber := T.bNameNumber
  have GLTold : FnOk P w K mg base CX0 4 (He.ga K "_law_told") T.fdLTold ["_law_number_here"] (spLTold K) := okLTold T
  have bLTold := T.bLTold
  refine T.FLaw.ok scLaw (fun vs H Q E h => ?_) (fun cdv A outer s H vs Q E hr h => ?_)
  · obtain ⟨a, ns, rfl, _⟩ := h
    rfl
  · obtain ⟨a, ns, rfl, hS, hlen, q⟩ := h
    refine ⟨_, PSs.nox (pss_cons (ps_for PassesOwn.never rfl (pi_tup (pe_tup (pa_cons pe_non (pa_cons pe_int (pa_cons pe_int (pa_cons pe_bl (pa_cons pe_bl (pa_cons pe_str (pa_cons (pe_lst pa_nil) (pa_cons (pe_tup pa_nil) (pa_cons (pe_lst (pa_cons pe_str pa_nil)) (pa_cons (pe_tup (pa_cons pe_str pa_nil)) (pa_cons pe_str (pa_cons pe_str (pa_cons (pe_op op_pow pe_int pe_int) (pa_cons (pe_lst (pa_cons (pe_lst (pa_cons pe_str pa_nil)) pa_nil)) pa_nil)))))))))))))))) (pg_name (i := 1) scLaw.nd rfl (Or.inl rfl))
        (pss_one (ps_if (pt_not (pt_val (pe_call GLSame (hr.mono (by decide)) (by rfl) T.gLSame T.FLSame.kp bLSame .nil pass0 (pa_cons (pe_call GIsName (hr.mono (by decide)) (by rfl) T.gIsName T.FIsName.kp bIsName .nil pass0 (pa_cons (pv 1) pa_nil)) (pa_cons (pe_call GLIsName (hr.mono (by decide)) (by rfl) T.gLIsName T.FLIsName.kp bLIsName .nil pass0 (pa_cons (pv 1) pa_nil)) pa_nil))))) (pss_one (ps_ret pe_bl)) pss_nil)))
        (pss_cons (ps_for PassesOwn.never rfl (pi_range1 (by rfl) B.b_range (pa_cons (pe_callB (call_max2 rfl) (by rfl) B.b_max boot_max (pa_cons pe_int (pa_cons (pe_callB (call_min2 rfl) (by rfl) B.b_min boot_min (pa_cons pe_int (pa_cons (pe_callB call_len_seq (by rfl) B.b_len PySem.boot_len (pa_cons (pv 0) pa_nil)) pa_nil))) pa_nil))) pa_nil)) (pg_name (i := 2) scLaw.nd rfl (Or.inl rfl))
        (pss_cons (ps_set (i := 3) scLaw.nd rfl (.inl rfl) (pe_call GLBox (hr.mono (by decide)) (by rfl) T.gLBox T.FLBox.kp bLBox .nil pass0 (pa_cons (pv 0) (pa_cons (pv 2) pa_nil))))
        (pss_one (ps_for PassesOwn.never rfl (pi_range1 (by rfl) B.b_range (pa_cons pe_int pa_nil)) (pg_name (i := 4) scLaw.nd rfl (Or.inl rfl))
        (pss_cons (ps_par (i := 5) (j := 6) (by rfl) scLaw.nd rfl rfl (by decide) rfl rfl (pa_cons (pe_call GLNumber (hr.mono (by decide)) (by rfl) T.gLNumber T.FLNumber.kp bLNumber .nil pass0 (pa_cons (pv 3) pa_nil)) (pa_cons (pe_call GLSpoilt (hr.mono (by decide)) (by rfl) T.gLSpoilt T.FLSpoilt.kp bLSpoilt .nil pass0 (pa_cons (pv 3) (pa_cons (pe_call GLWholeName (hr.mono (by decide)) (by rfl) T.gLWholeName T.FLWholeName.kp bLWholeName .nil pass0 (pa_cons (pv 3) pa_nil)) pa_nil))) pa_nil)) (by rfl))
        (pss_cons (ps_set (i := 7) scLaw.nd rfl (.inl rfl) (pe_call GLSpelled (hr.mono (by decide)) (by rfl) T.gLSpelled T.FLSpelled.kp bLSpelled .nil pass0 (pa_cons (pv 5) pa_nil)))
        (pss_cons (ps_if (pt_not (pt_val (pe_call GLSame (hr.mono (by decide)) (by rfl) T.gLSame T.FLSame.kp bLSame .nil pass0 (pa_cons (pe_lst (pa_cons (pe_call GLTold (hr.mono (by decide)) (by rfl) T.gLTold T.FLTold.kp bLTold .nil pass0 (pa_cons (pv 5) pa_nil)) (pa_cons (pe_call GLTold (hr.mono (by decide)) (by rfl) T.gLTold T.FLTold.kp bLTold .nil pass0 (pa_cons (pv 5) pa_nil)) pa_nil))) (pa_cons (pe_lst (pa_cons (pv 7) (pa_cons (pv 7) pa_nil))) pa_nil))))) (pss_one (ps_ret pe_bl)) pss_nil)
        (pss_cons (ps_if (PW.pt (pw_and (pt_cmpR op_notN (pv 7) pe_non (nomark _)) (pw_and1 (pt_cmpR op_ne (pe_call GNameNumber (hr.mono (by decide)) (by rfl) T.gNameNumber T.FNameNumber.kp bNameNumber .nil pass0 (pa_cons (pv 7) pa_nil)) (pv 5) (nomark _))))) (pss_one (ps_ret pe_bl)) pss_nil)
        (pss_one (ps_if (pt_not (pt_val (pe_call GLSame (hr.mono (by decide)) (by rfl) T.gLSame T.FLSame.kp bLSame .nil pass0 (pa_cons (pe_lst (pa_cons (pe_call GIsName (hr.mono (by decide)) (by rfl) T.gIsName T.FIsName.kp bIsName .nil pass0 (pa_cons (pv 6) pa_nil)) (pa_cons (pe_call GIsName (hr.mono (by decide)) (by rfl) T.gIsName T.FIsName.kp bIsName .nil pass0 (pa_cons (pe_lst (pa_cons (pv 6) pa_nil)) pa_nil)) pa_nil))) (pa_cons (pe_lst (pa_cons (pe_call GLIsName (hr.mono (by decide)) (by rfl) T.gLIsName T.FLIsName.kp bLIsName .nil pass0 (pa_cons (pv 6) pa_nil)) (pa_cons pe_bl pa_nil))) pa_nil))))) (pss_one (ps_ret pe_bl)) pss_nil))))))))))
        (pss_one (ps_ret pe_bl)))), ?_⟩
    have z0 : (0 : Nat) ≤ sizeLine := by decide
    have z1 : (1 : Nat) ≤ sizeLine := by decide
    refine ⟨z0, fun a1 h1 => ⟨z0, fun a2 h2 => ⟨z1, fun a3 h3 => ⟨z1, fun a4 h4 => ⟨_, _, rfl, rfl, ⟨by decide, by decide, by decide⟩, z1, fun a5 h5 => ⟨z1, fun a6 h6 => ⟨by show 14 ≤ sizeLine; decide, fun t ht => ?_⟩⟩⟩⟩⟩⟩⟩
    have w1 := same_new (o := .lst []) h1
    have w2 := same_new (o := .tup []) h2
    have w3 := same_new (o := .lst [V.str (Str.ofString "a")]) h3
    have w4 := same_new (o := .tup [V.str (Str.ofString "a")]) h4
    have w5 := same_new (o := .lst [V.str (Str.ofString "a")]) h5
    have w6 := same_new (o := .lst [V.ref a5]) h6
    have w7 := same_new (o := .tup [V.non, .int 0, .int 7, .bl true, .bl false, .str (Str.ofString ""), .ref a1, .ref a2, .ref a3, .ref a4, .str (Str.ofString "abcd"), .str (Str.ofString "abcde"), .int ((10 : Int) ^ (30 : Int).toNat), .ref a6]) ht
    have okA : ∀ J : Hp, J a1 = some (.lst []) → J a2 = some (.tup []) → J a3 = some (.lst [V.str (Str.ofString "a")]) → J a4 = some (.tup [V.str (Str.ofString "a")]) → J a6 = some (.lst [V.ref a5]) → ∀ v ∈ [V.non, .int 0, .int 7, .bl true, .bl false, .str (Str.ofString ""), .ref a1, .ref a2, .ref a3, .ref a4, .str (Str.ofString "abcd"), .str (Str.ofString "abcde"), .int ((10 : Int) ^ (30 : Int).toNat), .ref a6], OkT J v := by
      intro J j1 j2 j3 j4 j6 v hv
      simp only [List.mem_cons, List.not_mem_nil, or_false] at hv
      rcases hv with rfl | rfl | rfl | rfl | rfl | rfl | rfl | rfl | rfl | rfl | rfl | rfl | rfl | rfl
      · exact .inr (.inl rfl)
      · exact .inr (.inr (.inl ⟨_, rfl⟩))
      · exact .inr (.inr (.inl ⟨_, rfl⟩))
      · exact .inr (.inr (.inr (.inl ⟨_, rfl⟩)))
      · exact .inr (.inr (.inr (.inl ⟨_, rfl⟩)))
      · exact .inl ⟨_, rfl, by decide +kernel⟩
      · exact .inr (.inr (.inr (.inr (.inl ⟨a1, [], rfl, j1⟩))))
      · exact .inr (.inr (.inr (.inr (.inr ⟨a2, [], rfl, j2⟩))))
      · exact .inr (.inr (.inr (.inr (.inl ⟨a3, _, rfl, j3⟩))))
      · exact .inr (.inr (.inr (.inr (.inr ⟨a4, _, rfl, j4⟩))))
      · exact .inl ⟨_, rfl, by decide +kernel⟩
      · exact .inl ⟨_, rfl, by decide +kernel⟩
      · exact .inr (.inr (.inl ⟨_, rfl⟩))
      · exact .inr (.inr (.inr (.inr (.inl ⟨a6, _, rfl, j6⟩))))
    have wA := w1.trans (w2.trans (w3.trans (w4.trans (w5.trans (w6.trans w7)))))
    refine ⟨t, rfl, ⟨_, .inl (.inl upd_same)⟩, for_it (walk_tup (xs := [V.non, .int 0, .int 7, .bl true, .bl false, .str (Str.ofString ""), .ref a1, .ref a2, .ref a3, .ref a4, .str (Str.ofString "abcd"), .str (Str.ofString "abcde"), .int ((10 : Int) ^ (30 : Int).toNat), .ref a6]))
      (fun i σ G => Same H G ∧ SqT K G t [V.non, .int 0, .int 7, .bl true, .bl false, .str (Str.ofString ""), .ref a1, .ref a2, .ref a3, .ref a4, .str (Str.ofString "abcd"), .str (Str.ofString "abcde"), .int ((10 : Int) ^ (30 : Int).toNat), .ref a6] ∧
        (∀ v ∈ [V.non, .int 0, .int 7, .bl true, .bl false, .str (Str.ofString ""), .ref a1, .ref a2, .ref a3, .ref a4, .str (Str.ofString "abcd"), .str (Str.ofString "abcde"), .int ((10 : Int) ^ (30 : Int).toNat), .ref a6], OkT G v) ∧ ∃ x, σ = [some (.ref a), x, none, none, none, none, none, none])
      ⟨wA, .inl (.inl upd_same), okA _ (w7 _ _ (w6 _ _ (w5 _ _ (w4 _ _ (w3 _ _ (w2 _ _ upd_same)))))) (w7 _ _ (w6 _ _ (w5 _ _ (w4 _ _ (w3 _ _ upd_same))))) (w7 _ _ (w6 _ _ (w5 _ _ (w4 _ _ upd_same)))) (w7 _ _ (w6 _ _ (w5 _ _ upd_same))) (w7 _ _ upd_same), _, rfl⟩ (fun _ _ _ _ h => h.2.1) ?_ ?_⟩
    · rintro i v σ G G1 hi ⟨sG, hT, hA, x, rfl⟩ ⟨rfl, hv⟩
      rcases (hA v (List.mem_of_getElem? hv)).ty (K := K) with ⟨z, rfl, hz⟩ | ⟨ty, hk, hty⟩
      · refine ⟨_, rfl, _, rfl, .inl ⟨z, rfl, hz, fun G2 s2 => ?_⟩⟩
        refine ⟨_, rfl, _, rfl, .inl ⟨z, rfl, hz, fun G3 s3 => ?_⟩⟩
        refine ⟨_, _, .bool (isNm z), rfl, .bl _, .bl _, (by show 0 < 2; decide), (by show 0 ≤ 1000000; decide), fun G4 s4 => ⟨_, rfl, iteF ?_⟩⟩
        have sA := s2.trans (s3.trans s4)
        exact ⟨sG.trans sA, seqT_same sA hT, fun v hv => (hA v hv).same sA, _, rfl⟩
      · refine ⟨_, rfl, _, rfl, .inr ⟨ty, hty _ (Same.refl _), hk, ?_⟩⟩
        refine ⟨_, rfl, _, rfl, .inr ⟨ty, hty _ (Same.refl _), hk, ?_⟩⟩
        refine ⟨_, _, .bool false, rfl, .bl _, .bl _, (by show 0 < 2; decide), (by show 0 ≤ 1000000; decide), fun G4 s4 => ⟨_, rfl, iteF ?_⟩⟩
        exact ⟨sG.trans s4, seqT_same s4 hT, fun v hv => (hA v hv).same s4, _, rfl⟩
    rintro σ G0 ⟨sG0, _, _, x1, rfl⟩
    refine ⟨_, rfl, a, _, rfl, .inl (sG0.seq hS), _, _, rfl, _, _, rfl, _, rfl, ?_⟩
    have hR : ∃ N : Int, (if (if ((ns.map V.int).length : Int) < 6 then ((ns.map V.int).length : Int) else 6) > 1 then (if ((ns.map V.int).length : Int) < 6 then ((ns.map V.int).length : Int) else 6) else 1) = N ∧ 0 ≤ N ∧ N ≤ 6 := ⟨_, rfl, by split <;> split <;> omega, by split <;> split <;> omega⟩
    obtain ⟨N, eN, hN0, hN3⟩ := hR
    rw [eN]
    refine ⟨(by have : -4611686018427387904 ≤ N := by omega
                exact this), (by have : N < 4611686018427387904 := by omega
                                 exact this), ?_⟩
    refine for_range (lo := 0) (n := N.toNat) (fun i σ G => Same H G ∧ ∃ x1 x2 x3 x4 x5 x6 x7, σ = [some (.ref a), x1, x2, x3, x4, x5, x6, x7]) ⟨sG0, _, _, _, _, _, _, _, rfl⟩ ?_ ?_
    · rintro i σ G hi ⟨sG, x1, x2, x3, x4, x5, x6, x7, rfl⟩
      have e0i : (0 : Int) + (i : Int) = ((i : Nat) : Int) := by omega
      rw [e0i]
      refine ⟨_, rfl, _, rfl, a, ns, i, rfl, sG.seq hS, by omega, fun p x y hp hx hy hy2 => ?_⟩
      have box0 : Box (upd G p (.lst [.int x, .int y, .int 0])) p 0 := ⟨x, y, 0, upd_same, hx, hy, hy2, Int.le_refl _, Int.le_refl _⟩
      refine ⟨14, rfl, by decide, by decide, for_range (lo := 0) (n := 14) (fun j σ G1 => But p (upd G p (.lst [.int x, .int y, .int 0])) G1 ∧ Box G1 p (30 * j) ∧ ∃ y4 y5 y6 y7 : Option V, σ = [some (.ref a), x1, some (.int i), some (.ref p), y4, y5, y6, y7]) ⟨But.refl _ _, box0.mono (by omega), _, _, _, _, rfl⟩ ?_ ?_⟩
      · rintro j σ G1 hj ⟨bG, hB, y4, y5, y6, y7, rfl⟩
        refine ⟨_, rfl, p, 30 * j, rfl, hB, by omega, fun x G2 x0 b2 hB2 => ?_⟩
        refine ⟨_, rfl, _, rfl, p, 30 * j + 20, rfl, hB2, by omega, fun l G3 gl b3 hB3 => ?_⟩
        refine ⟨p, 30 * j + 25, l, rfl, gl, hB3.mono (by omega), by omega, fun z G4 hz b4 hB4 => ?_⟩
        refine ⟨_, _, rfl, ?_⟩
        refine ⟨_, rfl, x, rfl, x0, fun l2 gl2 e2 G5 s5 => ?_, fun hno G5 s5 => ?_⟩
        · refine ⟨_, rfl, x, rfl, x0, fun l3 gl3 e3 G6 s6 => ?_, fun hno => absurd e2 (hno l2 gl2)⟩
          have el3 : l3 = l2 := num_inj l3 l2 gl3.lt gl2.lt (e3.symm.trans e2)
          subst el3
          refine ⟨_, rfl, x, rfl, x0, fun l4 gl4 e4 G7 s7 => ?_, fun hno => absurd e2 (hno _ gl2)⟩
          have el4 : l4 = l3 := num_inj l4 l3 gl4.lt gl2.lt (e4.symm.trans e2)
          subst el4
          refine ⟨by show 2 ≤ sizeLine; decide, fun L1 hL1 => ?_⟩
          refine ⟨_, rfl, _, rfl, by show 2 ≤ sizeLine; decide, fun L2 hL2 => ?_⟩
          have v1 := same_new (o := .lst [V.str (nm l4), .str (nm l4)]) hL1
          have v2 := same_new (o := .lst [V.str (nm l4), .str (nm l4)]) hL2
          refine ⟨_, _, .list [.str (nm l4), .str (nm l4)], rfl, .lst (SqL.of (v2 _ _ upd_same)) (.cons (.str _) (.cons (.str _) .nil)), .lst (SqL.of upd_same) (.cons (.str _) (.cons (.str _) .nil)), (by show 1 < 2; decide), (by show 2 ≤ 1000000; decide), fun Gs ss => ⟨_, rfl, iteF ?_⟩⟩
          have sD := s5.trans (s6.trans (s7.trans (v1.trans (v2.trans ss))))
          refine ⟨_, rfl, rfl, _, rfl, iteT ?_⟩
          refine ⟨_, rfl, l4, rfl, gl2.lt, _, rfl, rfl, _, rfl, ?_⟩
          rw [decide_eq_true (show V.int (num l4) = V.int x from congrArg V.int e2.symm)]
          refine iteF ?_
          refine ⟨_, rfl, _, rfl, .inl ⟨z, rfl, hz, fun G8 s8 => ?_⟩⟩
          refine ⟨_, rfl, by show 1 ≤ sizeLine; decide, fun L3 hL3 => ?_⟩
          refine ⟨_, rfl, .inr ⟨"list", ty_list (SqL.of upd_same), by decide +kernel, ?_⟩⟩
          refine ⟨by show 2 ≤ sizeLine; decide, fun L4 hL4 => ?_⟩
          refine ⟨_, rfl, _, rfl, .inl ⟨z, rfl, hz, fun G9 s9 => ?_⟩⟩
          refine ⟨by show 2 ≤ sizeLine; decide, fun L5 hL5 => ?_⟩
          have v3 := same_new (o := .lst [V.str z]) hL3
          have v4 := same_new (o := .lst [V.bl (isNm z), .bl false]) hL4
          have v5 := same_new (o := .lst [V.bl (isNm z), .bl false]) hL5
          refine ⟨_, _, .list [.bool (isNm z), .bool false], rfl, .lst (SqL.of (v5 _ _ (s9 _ _ upd_same))) (.cons (.bl _) (.cons (.bl _) .nil)), .lst (SqL.of upd_same) (.cons (.bl _) (.cons (.bl _) .nil)), (by show 1 < 2; decide), (by show 2 ≤ 1000000; decide), fun G10 s10 => ⟨_, rfl, iteF ?_⟩⟩
          have sE := sD.trans (s8.trans (v3.trans (v4.trans (s9.trans (v5.trans s10)))))
          exact ⟨bG.trans (b2.trans (b3.trans (b4.trans (But.of sE)))), (hB4.same sE).mono (by omega), _, _, _, _, rfl⟩
        · refine ⟨_, rfl, x, rfl, x0, fun l3 gl3 e3 => absurd e3 (hno l3 gl3), fun _ G6 s6 => ?_⟩
          refine ⟨_, rfl, x, rfl, x0, fun l3 gl3 e3 => absurd e3 (hno l3 gl3), fun _ G7 s7 => ?_⟩
          refine ⟨by show 2 ≤ sizeLine; decide, fun L1 hL1 => ?_⟩
          refine ⟨_, rfl, _, rfl, by show 2 ≤ sizeLine; decide, fun L2 hL2 => ?_⟩
          have v1 := same_new (o := .lst [V.non, .non]) hL1
          have v2 := same_new (o := .lst [V.non, .non]) hL2
          refine ⟨_, _, .list [.none, .none], rfl, .lst (SqL.of (v2 _ _ upd_same)) (.cons .non (.cons .non .nil)), .lst (SqL.of upd_same) (.cons .non (.cons .non .nil)), (by show 1 < 2; decide), (by show 2 ≤ 1000000; decide), fun Gs ss => ⟨_, rfl, iteF ?_⟩⟩
          have sD := s5.trans (s6.trans (s7.trans (v1.trans (v2.trans ss))))
          refine ⟨_, rfl, rfl, _, rfl, iteF ?_⟩
          refine ⟨_, rfl, _, rfl, .inl ⟨z, rfl, hz, fun G8 s8 => ?_⟩⟩
          refine ⟨_, rfl, by show 1 ≤ sizeLine; decide, fun L3 hL3 => ?_⟩
          refine ⟨_, rfl, .inr ⟨"list", ty_list (SqL.of upd_same), by decide +kernel, ?_⟩⟩
          refine ⟨by show 2 ≤ sizeLine; decide, fun L4 hL4 => ?_⟩
          refine ⟨_, rfl, _, rfl, .inl ⟨z, rfl, hz, fun G9 s9 => ?_⟩⟩
          refine ⟨by show 2 ≤ sizeLine; decide, fun L5 hL5 => ?_⟩
          have v3 := same_new (o := .lst [V.str z]) hL3
          have v4 := same_new (o := .lst [V.bl (isNm z), .bl false]) hL4
          have v5 := same_new (o := .lst [V.bl (isNm z), .bl false]) hL5
          refine ⟨_, _, .list [.bool (isNm z), .bool false], rfl, .lst (SqL.of (v5 _ _ (s9 _ _ upd_same))) (.cons (.bl _) (.cons (.bl _) .nil)), .lst (SqL.of upd_same) (.cons (.bl _) (.cons (.bl _) .nil)), (by show 1 < 2; decide), (by show 2 ≤ 1000000; decide), fun G10 s10 => ⟨_, rfl, iteF ?_⟩⟩
          have sE := sD.trans (s8.trans (v3.trans (v4.trans (s9.trans (v5.trans s10)))))
          exact ⟨bG.trans (b2.trans (b3.trans (b4.trans (But.of sE)))), (hB4.same sE).mono (by omega), _, _, _, _, rfl⟩
      · rintro σ G1 ⟨bG, _, y4, y5, y6, y7, rfl⟩
        exact ⟨same_but (G1 := G) sG hp bG, _, _, _, _, _, _, _, rfl⟩
    · rintro σ G ⟨sG, _⟩
      exact q G
end
section
variable {P : Program} {w : World} {K : PySem.W.Frag} {mg : Str → Option Value} {base : Heap}
def ddIsName : He.DefD := ⟨("is_name", none), "is_name", "is_name", defArgs sIsName, defBody sIsName, defScope sIsName, [], []⟩
def ddNameNumber : He.DefD := ⟨("name_number", none), "name_number", "name_number", defArgs sNameNumber, defBody sNameNumber, defScope sNameNumber, [], []⟩
def ddNameOf : He.DefD := ⟨("name_of", none), "name_of", "name_of", defArgs sNameOf, defBody sNameOf, defScope sNameOf, [], []⟩
def ddLBox : He.DefD := ⟨("_law_box", none), "_law_box", "_law_box", defArgs sLBox, defBody sLBox, defScope sLBox, [], []⟩
def ddLTake : He.DefD := ⟨("_law_take", none), "_law_take", "_law_take", defArgs sLTake, defBody sLTake, defScope sLTake, [], []⟩
def ddLPick : He.DefD := ⟨("_law_pick", none), "_law_pick", "_law_pick", defArgs sLPick, defBody sLPick, defScope sLPick, [], []⟩
def ddLSame : He.DefD := ⟨("_law_same", none), "_law_same", "_law_same", defArgs sLSame, defBody sLSame, defScope sLSame, [], []⟩
def ddLNameNumber : He.DefD := ⟨("_law_name_number", none), "_law_name_number", "_law_name_number", defArgs sLNameNumber, defBody sLNameNumber, defScope sLNameNumber, [], []⟩
def ddLWholeName : He.DefD := ⟨("_law_whole_name", none), "_law_whole_name", "_law_whole_name", defArgs sLWholeName, defBody sLWholeName, defScope sLWholeName, [], []⟩
def ddLIsName : He.DefD := ⟨("_law_is_name", none), "_law_is_name", "_law_is_name", defArgs sLIsName, defBody sLIsName, defScope sLIsName, [], []⟩
def ddLSpelled : He.DefD := ⟨("_law_spelled", none), "_law_spelled", "_law_spelled", defArgs sLSpelled, defBody sLSpelled, defScope sLSpelled, [], []⟩
def ddLTold : He.DefD := ⟨("_law_told", none), "_law_told", "_law_told", defArgs sLTold, defBody sLTold, defScope sLTold, [], []⟩
def ddLNumber : He.DefD := ⟨("_law_number", none), "_law_number", "_law_number", defArgs sLNumber, defBody sLNumber, defScope sLNumber, [], []⟩
def ddLSpoilt : He.DefD := ⟨("_law_spoilt", none), "_law_spoilt", "_law_spoilt", defArgs sLSpoilt, defBody sLSpoilt, defScope sLSpoilt, [], []⟩
def ddLaw : He.DefD := ⟨("law", none), "law", "law", defArgs sLaw, defBody sLaw, defScope sLaw, [], []⟩
def ddStartErrorInit : He.DefD := ⟨("StartError", some "__init__"), "__init__", "StartError.__init__", defArgs sStartErrorInit, defBody sStartErrorInit, defScope sStartErrorInit, [], []⟩
def hfn : List He.DefD := [ddIsName, ddNameNumber, ddNameOf, ddLBox, ddLTake, ddLPick, ddLSame, ddLNameNumber, ddLWholeName, ddLIsName, ddLSpelled, ddLTold, ddLNumber, ddLSpoilt, ddLaw, ddStartErrorInit]
def hfa : List He.Fa := [.free "ValueError", .free "repr", .free "len", .free "abs", .free "int", .free "isinstance", .free "list", .free "tuple", .free "str", .free "bool", .free "all", .free "zip", .free "range", .free "max", .free "min", .free "enumerate", .free "divmod", .glo "is_name", .glo "name_number", .glo "name_of", .glo "_law_box", .glo "_law_take", .glo "_law_pick", .glo "_law_same", .glo "_law_name_number", .glo "_law_whole_name", .glo "_law_is_name", .glo "_law_spelled", .glo "_law_told", .glo "_law_number", .glo "_law_spoilt", .glo "law", .str "LETTERS" "abcdefghijklmnopqrstuvwxyz", .int "LONGEST" 4, .int "BASE" 27, .glo "StartError", .glo "NoName", .glo "NoRow", .glo "NoBoard", .glo "BadText"]
def hex (K : PySem.W.Frag) : Bool := errOk K "StartError" ERRS
abbrev hR : PySem.W.OpenRow := PySem.W.OpenLaw.row PySem.Challenge.rw_startlog_k03_no_names
abbrev hk : PySem.W.Hook := hookE 5 hfa hfn hex
def hob (s : PySem.W.SharedT) : He.AlD × Bool := obsE 5 hfa hfn hex (HandSHeadRun.getT s)
theorem hob_eq (s : PySem.W.SharedT) : hob s = hk.obs s.abs := obsE_eq (HandSHeadRun.getT_eq s)
def hloose0 : List Str := ["LETTERS", "LONGEST", "BASE", "StartError", "NoName", "NoRow", "NoBoard", "BadText", "is_name", "name_number", "name_of", "_law_box"]
def hloose1 : List Str := ["_law_take", "_law_pick", "_law_same", "_law_name_number", "_law_whole_name", "_law_is_name", "_law_spelled", "_law_told", "_law_number", "_law_spoilt"]
def hloose : List Str := hloose0 ++ hloose1
theorem hrun (w : World) : HandSHeadRun.RunEq hR (PySem.W.view hR.prog [25]) hk hob 4000 hloose w := by
  intro os
  kernel_rfl
theorem tx_of {K : PySem.W.Frag} {h : Heap} {mg : Str → Option Value} (X : K.In h) (G : h.Ns mainGlobals mg) (c : He.SaysD hfa hfn K) (cx : hex K = true) : ∃ T : Tx K mg, True := by
  obtain ⟨f0, F0⟩ := c.def_ 0 (d := ddIsName) rfl
  obtain ⟨f1, F1⟩ := c.def_ 1 (d := ddNameNumber) rfl
  obtain ⟨f2, F2⟩ := c.def_ 2 (d := ddNameOf) rfl
  obtain ⟨f3, F3⟩ := c.def_ 3 (d := ddLBox) rfl
  obtain ⟨f4, F4⟩ := c.def_ 4 (d := ddLTake) rfl
  obtain ⟨f5, F5⟩ := c.def_ 5 (d := ddLPick) rfl
  obtain ⟨f6, F6⟩ := c.def_ 6 (d := ddLSame) rfl
  obtain ⟨f7, F7⟩ := c.def_ 7 (d := ddLNameNumber) rfl
  obtain ⟨f8, F8⟩ := c.def_ 8 (d := ddLWholeName) rfl
  obtain ⟨f9, F9⟩ := c.def_ 9 (d := ddLIsName) rfl
  obtain ⟨f10, F10⟩ := c.def_ 10 (d := ddLSpelled) rfl
  obtain ⟨f11, F11⟩ := c.def_ 11 (d := ddLTold) rfl
  obtain ⟨f12, F12⟩ := c.def_ 12 (d := ddLNumber) rfl
  obtain ⟨f13, F13⟩ := c.def_ 13 (d := ddLSpoilt) rfl
  obtain ⟨f14, F14⟩ := c.def_ 14 (d := ddLaw) rfl
  obtain ⟨f15, F15⟩ := c.def_ 15 (d := ddStartErrorInit) rfl
  have e0 := cx
  exact ⟨⟨⟨He.free_ok X G (c.fact 0 (f := .free "ValueError") rfl), He.free_ok X G (c.fact 1 (f := .free "repr") rfl), He.free_ok X G (c.fact 2 (f := .free "len") rfl), He.free_ok X G (c.fact 3 (f := .free "abs") rfl), He.free_ok X G (c.fact 4 (f := .free "int") rfl), He.free_ok X G (c.fact 5 (f := .free "isinstance") rfl), He.free_ok X G (c.fact 6 (f := .free "list") rfl), He.free_ok X G (c.fact 7 (f := .free "tuple") rfl), He.free_ok X G (c.fact 8 (f := .free "str") rfl), He.free_ok X G (c.fact 9 (f := .free "bool") rfl), He.free_ok X G (c.fact 10 (f := .free "all") rfl), He.free_ok X G (c.fact 11 (f := .free "zip") rfl), He.free_ok X G (c.fact 12 (f := .free "range") rfl), He.free_ok X G (c.fact 13 (f := .free "max") rfl), He.free_ok X G (c.fact 14 (f := .free "min") rfl), He.free_ok X G (c.fact 15 (f := .free "enumerate") rfl), He.free_ok X G (c.fact 16 (f := .free "divmod") rfl)⟩,
    He.str_ok X G (c.fact 32 (f := .str "LETTERS" "abcdefghijklmnopqrstuvwxyz") rfl),
    He.int_ok X G (c.fact 33 (f := .int "LONGEST" 4) rfl),
    He.int_ok X G (c.fact 34 (f := .int "BASE" 27) rfl),
    f0,
    F0,
    He.glo_ok X G (c.fact 17 (f := .glo "is_name") rfl),
    f1,
    F1,
    He.glo_ok X G (c.fact 18 (f := .glo "name_number") rfl),
    f2,
    F2,
    He.glo_ok X G (c.fact 19 (f := .glo "name_of") rfl),
    f3,
    F3,
    He.glo_ok X G (c.fact 20 (f := .glo "_law_box") rfl),
    f4,
    F4,
    He.glo_ok X G (c.fact 21 (f := .glo "_law_take") rfl),
    f5,
    F5,
    He.glo_ok X G (c.fact 22 (f := .glo "_law_pick") rfl),
    f6,
    F6,
    He.glo_ok X G (c.fact 23 (f := .glo "_law_same") rfl),
    f7,
    F7,
    He.glo_ok X G (c.fact 24 (f := .glo "_law_name_number") rfl),
    f8,
    F8,
    He.glo_ok X G (c.fact 25 (f := .glo "_law_whole_name") rfl),
    f9,
    F9,
    He.glo_ok X G (c.fact 26 (f := .glo "_law_is_name") rfl),
    f10,
    F10,
    He.glo_ok X G (c.fact 27 (f := .glo "_law_spelled") rfl),
    f11,
    F11,
    He.glo_ok X G (c.fact 28 (f := .glo "_law_told") rfl),
    f12,
    F12,
    He.glo_ok X G (c.fact 29 (f := .glo "_law_number") rfl),
    f13,
    F13,
    He.glo_ok X G (c.fact 30 (f := .glo "_law_spoilt") rfl),
    f14,
    F14,
    He.glo_ok X G (c.fact 31 (f := .glo "law") rfl),
    f15,
    F15,
    He.glo_ok X G (c.fact 35 (f := .glo "StartError") rfl),
    He.glo_ok X G (c.fact 36 (f := .glo "NoName") rfl),
    He.glo_ok X G (c.fact 37 (f := .glo "NoRow") rfl),
    He.glo_ok X G (c.fact 38 (f := .glo "NoBoard") rfl),
    He.glo_ok X G (c.fact 39 (f := .glo "BadText") rfl),
    e0⟩, trivial⟩



end
end Sl
open PySem PySem.W PySem.Calls PyProof.Rows
set_option maxRecDepth 100000 in
set_option maxHeartbeats 0 in
theorem PySem.Challenge.cw_startlog_k03_no_names_holds : PySem.Challenge.rw_startlog_k03_no_names.Holds := by
  w_on; o_law
  refine HandSHeadRun.head_any (r := OpenLaw.row PySem.Challenge.rw_startlog_k03_no_names) (q := view (OpenLaw.row PySem.Challenge.rw_startlog_k03_no_names).prog [25]) (H := Sl.hk) (ob := Sl.hob) (M := 4000) (loose := Sl.hloose) (d := HandSHeadRun.topDef (OpenLaw.row PySem.Challenge.rw_startlog_k03_no_names).prog 25) (kwd := []) Sl.hob_eq
    (by kernel_rfl) (fun s => by kernel_rfl) Sl.hrun (by kernel_rfl) (by kernel_rfl) (by kernel_rfl) (by rfl) (by first | assumption | decide +kernel) (by decide +kernel) ⟨rfl, rfl, rfl, rfl, rfl, by decide +kernel⟩ ?hw ?hc
  case hw => w_witness2
  case hc =>
    refine L2.walk_ofE (l := PySem.Challenge.rw_startlog_k03_no_names) (n := 63) (k := 5) (x := "_law_script") (CX := L2.CX0) rfl (by decide) (by kernel_rfl) ⟨rfl, by decide, by decide⟩ ?F (fun _ _ _ _ z => z)
    intro w mg fa h Y G hmg0
    obtain ⟨K, KX, c, cx⟩ := Y
    have hmg : mg ("law" : PySem.Str) = some (.ref fa) := by
      have e : (HandSHeadRun.topDef (OpenLaw.row PySem.Challenge.rw_startlog_k03_no_names).prog 25).name = ("law" : PySem.Str) := by kernel_rfl
      rw [← e]
      exact hmg0
    obtain ⟨T, _⟩ := Sl.tx_of KX G c cx
    have e := hmg.symm.trans T.gLaw
    cases e
    exact ⟨K, T.fdLaw, Sl.spLaw K, KX, fun s v => L2.FunD.bindsA (ps := ["_law_script"]) T.FLaw (fun _ _ _ _ _ _ us hl => match us, hl with | [_], _ => rfl) s [v] rfl, fun H a ns hl _ hS => ⟨a, ns, rfl, hS, hl, fun _ => rfl⟩, fun base _ _ => Sl.okLaw T⟩
