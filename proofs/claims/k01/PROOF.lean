import PyProof.Rows.All
import Wide.All
import OpenK.AllK
import Wide.FinOn
import KE.KStateDown
import Lean
import HandS.ForMost
import HandS.More
import HandS.WordsExc
import HandS.IsInst
import HandS.Defaults
import HandS.MakeKwOnly
import HandS.Walk
import HandS.Zip
import HandS.Replace
import HandS.Style
import HandS.Flow
import HandS.Strs
import HandS.Wide
import HandS.WideBits
import HandS.Head0
import HandS.Head1
import HandS.Head2
import HandS.HeadEnd
import HandS.HeadHook1
import HandS.HeadHook2
import HandS.ExcInit
import HandS.ExcIs
import HandS.ExcField
import KE.KExcIs
import PySem.Challenge.RW_startlog_k01_words_and_refusals
set_option Elab.async false
set_option linter.all false
set_option maxRecDepth 100000
set_option maxHeartbeats 4000000
namespace Sl
open PySem PySem.Spec PyProof.Rows L2
section
variable {P : Program} {w : World} {K : PySem.W.Frag} {mg : Str → Option Value} {base : Heap}

end
section
variable {P : Program} {w : World} {K : PySem.W.Frag} {mg : Str → Option Value} {base : Heap}
/-! what the head is asked for besides -/
def tupD (K : PySem.W.Frag) (x : Str) (vs : List He.Dv) : Bool := He.tupB K x vs && (match K.lookup (He.ga K x) with
  | some ⟨_, none, _, _⟩ => true
  | _ => false)
theorem tupD_seq {K : PySem.W.Frag} {x : Str} {vs : List He.Dv} (h : tupD K x vs = true) (H : Hp) : SqT K H (He.ga K x) (vs.map (He.Dv.v K)) := He.tupB_ok (He.ba h).1 H
theorem tupD_ty {K : PySem.W.Frag} {x : Str} {vs : List He.Dv} (h : tupD K x vs = true) : ∃ o, K.lookup (He.ga K x) = some o ∧ o.cls = .type "tuple" ∧ o.dict = none := by
  obtain ⟨h1, h2⟩ := He.ba h
  unfold He.tupB at h1
  cases q : K.lookup (He.ga K x) with
  | none =>
    rw [q] at h2
    cases h2
  | some o =>
    obtain ⟨oc, od, dt, sl⟩ := o
    rw [q] at h1 h2
    cases od with
    | some d => cases h2
    | none =>
      cases oc with
      | type c =>
        cases dt with
        | seq its n =>
          have h3 := (He.ba (show (decide (c = "tuple") && _) = true from h1)).1
          exact ⟨_, rfl, congrArg Value.type (of_decide_eq_true h3), rfl⟩
        | _ => cases h1
      | _ => cases dt <;> cases h1
def obsE (n : Nat) (fa : List He.Fa) (fn : List He.DefD) (ex : PySem.W.Frag → Bool) (g : Addr → Option Obj) : He.AlD × Bool := (He.obsD fa fn (He.frG g (He.asD g n)), ex (He.frG g (He.asD g n)))
def hookE (n : Nat) (fa : List He.Fa) (fn : List He.DefD) (ex : PySem.W.Frag → Bool) : PySem.W.Hook where
  α := He.AlD × Bool
  obs := fun s => obsE n fa fn ex s.heap.get?
  val := fun _ => (He.valD fn, true)
  says := fun _ h => ∃ K : PySem.W.Frag, K.In h ∧ He.SaysD fa fn K ∧ ex K = true
  of := fun _ _ e => ⟨_, He.frG_in, congrArg Prod.fst e, congrArg Prod.snd e⟩
  keeps := fun _ _ _ ⟨K, hK, c⟩ k => ⟨K, PySem.W.Frag.In.keeps hK k, c⟩
theorem obsE_eq {n : Nat} {fa : List He.Fa} {fn : List He.DefD} {ex : PySem.W.Frag → Bool} {g : Addr → Option Obj} {s : Shared} (h : ∀ a, g a = s.heap.get? a) : obsE n fa fn ex g = (hookE n fa fn ex).obs s := by
  have e : g = s.heap.get? := funext h
  rw [e]
  rfl
/-! heaps -/
theorem same_new {H : Hp} {p : Addr} {o : HO} (h : H p = none) : Same H (upd H p o) := fun b x e => by
  rw [upd_ne (ne_of_none e h)]
  exact e
/-- all that was tracked is as it was, but for p -/
def But (p : Addr) (H G : Hp) : Prop := ∀ b o, H b = some o → b ≠ p → G b = some o
theorem But.refl (p : Addr) (H : Hp) : But p H H := fun _ _ h _ => h
theorem But.trans {p : Addr} {H G J : Hp} (a : But p H G) (b : But p G J) : But p H J := fun c o h n => b c o (a c o h n) n
theorem But.of {p : Addr} {H G : Hp} (a : Same H G) : But p H G := fun c o h _ => a c o h
theorem But.upd {p : Addr} {H : Hp} {o : HO} : But p H (upd H p o) := fun b x e n => by
  rw [upd_ne n]
  exact e
/-- a box of draws at p, at most n of them by the second way -/
def Box (H : Hp) (p : Addr) (n : Int) : Prop := ∃ x y z : Int, H p = some (.lst [.int x, .int y, .int z]) ∧ 0 ≤ x ∧ 0 ≤ y ∧ y < 1099511627776 ∧ 0 ≤ z ∧ z ≤ n
theorem Box.mono {H : Hp} {p : Addr} {n m : Int} (b : Box H p n) (h : n ≤ m) : Box H p m := by
  obtain ⟨x, y, z, e, h1, h2, h3, h4, h5⟩ := b
  exact ⟨x, y, z, e, h1, h2, h3, h4, Int.le_trans h5 h⟩
theorem Box.same {H G : Hp} {p : Addr} {n : Int} (b : Box H p n) (s : Same H G) : Box G p n := by
  obtain ⟨x, y, z, e, h⟩ := b
  exact ⟨x, y, z, s _ _ e, h⟩
theorem Box.ne {H : Hp} {p q : Addr} {n : Int} (b : Box H p n) (h : H q = none) : q ≠ p := by
  obtain ⟨x, y, z, e, _⟩ := b
  exact fun k => by rw [k, e] at h; cases h
/-- what is free behind was free ahead -/
theorem But.free {p q : Addr} {H G : Hp} {n : Int} (a : But p H G) (b : Box G p n) (h : G q = none) : H q = none := by
  cases e : H q with
  | none => rfl
  | some o =>
    have := a q o e (b.ne h)
    rw [this] at h
    cases h
theorem seqL_but {K : PySem.W.Frag} {H G : Hp} {p a : Addr} {xs : List V} (s : But p H G) (h : SqL K H a xs) (n : a ≠ p) : SqL K G a xs := by
  rcases h with (h | ⟨o, h⟩) | h
  · exact .inl (.inl (s _ _ h n))
  · exact .inl (.inr ⟨o, s _ _ h n⟩)
  · exact .inr h
theorem seqT_same {K : PySem.W.Frag} {H G : Hp} {a : Addr} {xs : List V} (s : Same H G) (h : SqT K H a xs) : SqT K G a xs := by
  rcases h with (h | ⟨o, h⟩) | h
  · exact .inl (.inl (s _ _ h))
  · exact .inl (.inr ⟨o, s _ _ h⟩)
  · exact .inr h
theorem bit_lo (b : Bool) : -(2 ^ 64 : Int) < (if b = true then 1 else 0 : Int) := by cases b <;> decide
theorem bit_hi (b : Bool) : (if b = true then 1 else 0 : Int) < 2 ^ 64 := by cases b <;> decide
/-- o.m(k = v, ..) -/
def tMethKw (C : Addr) (m : Str) (n k : Nat) (sp : Sp) (gV : List V → List V → List V) (E : XK) (ta : TE) (t tk : TA) : TE := fun σ H Q => ta σ H fun x H1 => ∃ a dx fs, x = .ref a ∧ H1 a = some (.ins C dx fs) ∧ fs.lookup m = none ∧
  t σ H1 fun vs H2 => tk σ H2 fun zs H3 => vs.length = n ∧ zs.length = k ∧ sp (gV (.ref a :: vs) zs) H3 Q E
theorem pe_methKw {X : Cx} {CX : CXT} {k : Nat} {f C : Addr} {fd : FuncData} {ps ks : List Str} {sp : Sp} {E : XK} {m : Str} {o : Expr} {ta : TE} {apos pos : Pos} {kws : List Keyword} {tk : TA} {g : List Value → List Value → List Value} {gV : List V → List V → List V} {pl : Sem Bool}
    (he : PE X o ta) (c : Cls X.K C) (hm : Meth X.K C m f) (F : FnOk X.prog X.w X.K X.mg X.base CX k f fd ps sp) (hr : Room k X.A) (hb : KBn X.K fd ps 1 ks g gV) (hx : Passes CX X E) (hkw : PK X kws tk)
    (h1 : (backToKw pos (keywordEach kws X.env)).all (·.1.isSome) = true := by rfl) (h2 : (backToKw pos (keywordEach kws X.env)).filterMap (·.1) = ks := by rfl)
    (h4 : ((backTo pos (starEach [] X.env)).any (·.1) || (backToKw pos (keywordEach kws X.env)).any (·.1.isNone)) = false := by rfl)
    (ht : eval (.Call (.Attribute o m apos) [] kws pos) X.env = (do
      let ov ← eval o X.env
      standAt apos.atName
      let (f, first) ← holding [ov] (getMethod ov m pl)
      callWith pos f first (backTo pos (starEach [] X.env)) (backToKw pos (keywordEach kws X.env))) := by rfl) :
    PE X (.Call (.Attribute o m apos) [] kws pos) (tMethKw C m 0 ks.length sp gV E ta tNil tk) := by
  refine ⟨fun pins s σ H Q I h => ?_⟩
  refine PySem.W.methodCall_KW (pl := pl) (thn (he.run pins s σ H _ I h) fun u s1 ⟨x, H1, I1, rx, a, dx, fs, ex, ea, l, q⟩ => ?_) ht
  subst ex
  obtain rfl : u = Value.ref a := rx
  refine getmeth_ok I1 ea c hm l ?_
  refine PySem.W.callWith_KW0 (first := [.ref a]) I1.kIn hm.kp h1 ?_ h4
  refine thn (hkw.run pos pins s1 σ H1 _ I1 q) fun ws s2 ⟨zs, H2, I2, rz, l1, l2, q2⟩ => ⟨I2.kIn, ?_⟩
  rw [h2]
  exact run_fnN (us := [.ref a]) (vs := [.ref a]) F hr hb hx I2 (.cons rfl .nil) rz rfl l2 q2
theorem qt {Q : VK} {H : Hp} {c : Prop} [Decidable c] (hc : c) (q : Q (.bl true) H) : Q (.bl (decide c)) H := by
  rw [decide_eq_true hc]
  exact q
theorem qf {Q : VK} {H : Hp} {c : Prop} [Decidable c] (hc : ¬ c) (q : Q (.bl false) H) : Q (.bl (decide c)) H := by
  rw [decide_eq_false hc]
  exact q
/-! kinds -/
theorem ty_list {K : PySem.W.Frag} {H : Hp} {a : Addr} {xs : List V} (h : SqL K H a xs) : TyX K H (.ref a) (.type "list") := by
  rcases h with (h | ⟨o, h⟩) | ⟨o, its, n, h1, h2, _⟩
  · exact .base (.lst h)
  · exact .base (.frz h)
  · exact .kList h1 h2
theorem ty_tup {K : PySem.W.Frag} {H : Hp} {a : Addr} {xs : List V} (h : SqT K H a xs) : TyX K H (.ref a) (.type "tuple") := by
  rcases h with (h | ⟨o, h⟩) | ⟨o, its, n, h1, h2, _⟩
  · exact .base (.tup h)
  · exact .fTuple h
  · exact .kTuple h1 h2
mutual
theorem dp_same {K : PySem.W.Frag} {H G : Hp} (s : Same H G) : ∀ (d : PyData) (v : V), Dp K H v d → Dp K G v d
  | .none, _, h => by cases h; exact .non
  | .bool b, _, h => by cases h; exact .bl b
  | .int i, _, h => by cases h; exact .int i
  | .str x, _, h => by cases h; exact .str x
  | .list ds, _, h => by
    cases h with
    | lst a b => exact .lst (s.seq a) (dps_same s ds _ b)
  | .tuple ds, _, h => by
    cases h with
    | tup a b => exact .tup (seqT_same s a) (dps_same s ds _ b)
  | .dict _, _, h => by cases h
theorem dps_same {K : PySem.W.Frag} {H G : Hp} (s : Same H G) : ∀ (ds : List PyData) (vs : List V), DpAll K H vs ds → DpAll K G vs ds
  | [], _, h => by cases h; exact .nil
  | d :: ds, _, h => by
    cases h with
    | cons a b => exact .cons (dp_same s d _ a) (dps_same s ds _ b)
end
theorem dpa_len {K : PySem.W.Frag} {H : Hp} : ∀ {vs : List V} {ds : List PyData}, DpAll K H vs ds → vs.length = ds.length
  | _, _, .nil => rfl
  | _, _, .cons _ t => congrArg Nat.succ (dpa_len t)
theorem dpa_at {K : PySem.W.Frag} {H : Hp} : ∀ {vs : List V} {ds : List PyData} {i : Nat} {v : V}, DpAll K H vs ds → vs[i]? = some v → ∃ d, ds[i]? = some d ∧ Dp K H v d
  | _, _, i, v, .nil, h => by simp at h
  | _, _, 0, v, .cons a t, h => by
    have e := Option.some.inj h
    subst e
    exact ⟨_, rfl, a⟩
  | _, _, i + 1, v, .cons a t, h => dpa_at (i := i) t h
/-- how deep a datum is -/
def dep : PyData → Nat
  | .list ds => deps ds + 1
  | .tuple ds => deps ds + 1
  | _ => 0
where deps : List PyData → Nat
  | [] => 0
  | d :: ds => max (dep d) (deps ds)
theorem deps_at : ∀ {ds : List PyData} {i : Nat} {d : PyData}, ds[i]? = some d → dep d ≤ dep.deps ds
  | [], i, d, h => by simp at h
  | c :: ds, 0, d, h => by
    have e := Option.some.inj h
    subst e
    exact Nat.le_max_left _ _
  | c :: ds, i + 1, d, h => Nat.le_trans (deps_at (i := i) (ds := ds) h) (Nat.le_max_right _ _)
/-- how wide it is, at most -/
def wid : PyData → Nat
  | .list ds => max ds.length (wids ds)
  | .tuple ds => max ds.length (wids ds)
  | _ => 0
where wids : List PyData → Nat
  | [] => 0
  | d :: ds => max (wid d) (wids ds)
theorem wids_at : ∀ {ds : List PyData} {i : Nat} {d : PyData}, ds[i]? = some d → wid d ≤ wid.wids ds
  | [], i, d, h => by simp at h
  | c :: ds, 0, d, h => by
    have e := Option.some.inj h
    subst e
    exact Nat.le_max_left _ _
  | c :: ds, i + 1, d, h => Nat.le_trans (wids_at (i := i) (ds := ds) h) (Nat.le_max_right _ _)
theorem small6 {n : Nat} (h : n < 1000000) : n < sizeLine := Nat.lt_of_lt_of_le h (by decide)
/-! a call by keywords alone -/
section
variable {X : Cx} {CX : CXT} {k : Nat} {f : Addr} {fd : FuncData} {ps ks : List Str} {sp : Sp} {E : XK} {x : Str} {p pos : Pos} {kws : List Keyword} {tk : TA} {g : List Value → List Value → List Value} {gV : List V → List V → List V}
theorem pe_kwCall (F : FnOk X.prog X.w X.K X.mg X.base CX k f fd ps sp) (hr : Room k X.A) (hg : Gl X x) (hm : X.mg x = some (.ref f)) (kp : PySem.W.keepIn X.K (.ref f) = true) (hb : KBn X.K fd ps 0 ks g gV) (hx : Passes CX X E) (hkw : PK X kws tk)
    (h1 : (backToKw pos (keywordEach kws X.env)).all (·.1.isSome) = true := by rfl) (h2 : (backToKw pos (keywordEach kws X.env)).filterMap (·.1) = ks := by rfl) (h3 : (x == ("__debug__" : Str)) = false := by decide)
    (h4 : ((backTo pos (starEach [] X.env)).any (·.1) || (backToKw pos (keywordEach kws X.env)).any (·.1.isNone)) = false := by rfl) :
    PE X (.Call (.Name x p) [] kws pos) (tCallN 0 ks.length sp gV E tNil tk) := by
  refine ⟨fun pins s σ H Q I h => ?_⟩
  refine wpAny_Call_Name_kw (ld_glob I hg hm ?_ h3)
  refine PySem.W.callWith_KW0 (h₀ := X.base) I.ok.mod.kin kp h1 ?_ h4
  refine thn (hkw.run pos pins s σ H _ I h) fun ws s2 ⟨zs, H2, I2, rz, l1, l2, q2⟩ => ⟨I2.kIn, ?_⟩
  rw [h2]
  exact run_fnN (us := []) (vs := []) F hr hb hx I2 .nil rz rfl l2 q2
end
/-! a call of a def without defaults by keywords -/
theorem kw_plain {K : PySem.W.Frag} {x qual : Str} {params : Arguments} {body : List Stmt} {scope : Scope} {kws : List (Str × V)} {f : Addr} {fd : FuncData} {ps : List Str} (F : FunD K x qual params body scope [] kws f fd) (n : Nat) (ks : List Str) (g : {α : Type} → List α → List α → List α)
    (hrel : ∀ {vs zs : List V} {us ws : List Value}, Vals vs us → Vals zs ws → Vals (g vs zs) (g us ws))
    (h : ∀ (kV doc pm : Value) (an : Option Addr) (cdv ct : Value) (us ws : List Value), us.length = n → ws.length = ks.length → bindArgs (PySem.W.fnOf x qual params body scope .none kV doc pm an cdv ct) ⟨us, ks.zip ws⟩ = pure (ps.zip (g us ws))) : KBn K fd ps n ks (fun us ws => g us ws) (fun vs zs => g vs zs) := by
  obtain ⟨oc, od, dV, kV, doc, pm, an, cdv, ct, osl, rfl, lk, hcd, hD, hK⟩ := F.ex
  rcases hD with ⟨_, rfl⟩ | ⟨e, _⟩
  · exact ⟨fun s us ws _ l1 l2 => .of_eq (h kV doc pm an cdv ct us ws l1 l2), fun r1 r2 => hrel r1 r2⟩
  · exact absurd rfl e
theorem Vals.rev : ∀ {vs : List V} {us : List Value}, Vals vs us → Vals vs.reverse us.reverse
  | _, _, .nil => .nil
  | _, _, .cons a t => by
    rw [List.reverse_cons, List.reverse_cons]
    exact (Vals.rev t).append (.cons a .nil)
/-- lists of numbers as data -/
theorem dpa_ints {K : PySem.W.Frag} {H : Hp} : ∀ l : List Int, DpAll K H (l.map V.int) (l.map PyData.int)
  | [] => .nil
  | i :: l => .cons (.int i) (dpa_ints l)
theorem dep_ints : ∀ l : List Int, dep.deps (l.map PyData.int) = 0
  | [] => rfl
  | i :: l => by
    show max 0 (dep.deps (l.map PyData.int)) = 0
    rw [dep_ints l]
    rfl
theorem wid_ints : ∀ l : List Int, wid.wids (l.map PyData.int) = 0
  | [] => rfl
  | i :: l => by
    show max 0 (wid.wids (l.map PyData.int)) = 0
    rw [wid_ints l]
    rfl
theorem dep_il (l : List Int) : dep (.list (l.map PyData.int)) < 2 := by
  show dep.deps (l.map PyData.int) + 1 < 2
  rw [dep_ints]
  decide
theorem wid_il (l : List Int) (h : l.length ≤ 1000) : wid (.list (l.map PyData.int)) ≤ 1000000 := by
  show max (l.map PyData.int).length (wid.wids (l.map PyData.int)) ≤ 1000000
  rw [wid_ints, List.length_map]
  omega
/-- the two ways of a conditional expression joined: what either gives, P says -/
theorem ifx {c : Prop} [Decidable c] {ta tb : TE} {σ : L2.St} {H : Hp} {C : VK} (P : V → Hp → Prop) (h1 : c → ∀ C : VK, (∀ v G, P v G → C v G) → ta σ H C) (h2 : ¬ c → ∀ C : VK, (∀ v G, P v G → C v G) → tb σ H C) (k : ∀ v G, P v G → C v G) : if c then ta σ H C else tb σ H C := by
  by_cases h : c
  · rw [if_pos h]
    exact h1 h C k
  · rw [if_neg h]
    exact h2 h C k
theorem ifs {c : Prop} [Decidable c] {t u : TS} {D : Ends} {σ : L2.St} {H : Hp} (P : L2.St → Hp → Prop) (h1 : c → ∀ D : Ends, (∀ σ G, P σ G → D.nx σ G) → t D σ H) (h2 : ¬ c → ∀ D : Ends, (∀ σ G, P σ G → D.nx σ G) → u D σ H) (k : ∀ σ G, P σ G → D.nx σ G) : if c then t D σ H else u D σ H := by
  by_cases h : c
  · rw [if_pos h]
    exact h1 h D k
  · rw [if_neg h]
    exact h2 h D k
theorem ior {c : Prop} [Decidable c] {tb : TT} {σ : L2.St} {H : Hp} {C : Bool → Hp → Prop} (P : Bool → Hp → Prop) (h1 : c → P true H) (h2 : ¬ c → ∀ C : Bool → Hp → Prop, (∀ v G, P v G → C v G) → tb σ H C) (k : ∀ v G, P v G → C v G) : if c then C true H else tb σ H C := by
  by_cases h : c
  · rw [if_pos h]
    exact k _ _ (h1 h)
  · rw [if_neg h]
    exact h2 h C k
theorem ift {c : Prop} [Decidable c] {ta : TT} {σ : L2.St} {H : Hp} {C : Bool → Hp → Prop} (P : Bool → Hp → Prop) (h1 : c → ∀ C : Bool → Hp → Prop, (∀ v G, P v G → C v G) → ta σ H C) (h2 : ¬ c → P false H) (k : ∀ v G, P v G → C v G) : if c then ta σ H C else C false H := by
  by_cases h : c
  · rw [if_pos h]
    exact h1 h C k
  · rw [if_neg h]
    exact k _ _ (h2 h)
theorem atI_some {xs : List V} {r : Int} (h0 : 0 ≤ r) (h1 : r < xs.length) : ∃ v, atI xs r = some v ∧ v ∈ xs := by
  obtain ⟨j, rfl⟩ : ∃ j : Nat, r = (j : Int) := ⟨r.toNat, by omega⟩
  have hj : j < xs.length := by omega
  exact ⟨xs[j], atI_nat (List.getElem?_eq_getElem hj), List.getElem_mem hj⟩
theorem same_but {H G G1 G2 : Hp} {p : Addr} {o : HO} (s : Same H G) (hp : G p = none) (b : But p (upd G p o) G2) : Same H G2 := fun c x e => by
  have hc : c ≠ p := fun z => by
    have := s.free hp
    rw [← z, e] at this
    cases this
  exact b c x (by rw [upd_ne hc]; exact s c x e) hc
/-! the drawer of numbers -/
def spLBox (K : PySem.W.Frag) : Sp := fun vs H Q _ => ∃ (a : Addr) (ns : List Int) (k : Nat), vs = [.ref a, .int k] ∧ SqL K H a (ns.map V.int) ∧ k ≤ 1000 ∧
  ∀ (p : Addr) (x y : Int), H p = none → 0 ≤ x → 0 ≤ y → y < 1099511627776 → Q (.ref p) (upd H p (.lst [.int x, .int y, .int 0]))
def spLTake : Sp := fun vs H Q _ => ∃ (p : Addr) (m n : Int), vs = [.ref p, .int m] ∧ Box H p n ∧ n < 1099511627776 ∧ 0 < m ∧ m < 340282366920938463463374607431768211456 ∧
  ∀ (r : Int) (G : Hp), But p H G → Box G p (n + 1) → 0 ≤ r → r < m → Q (.int r) G
theorem walk_zipT {K : PySem.W.Frag} {a b : Addr} {xs ys : List V} (hn : xs.length = ys.length) : Walk (RZ.ItzT K a b) xs.length (fun H => SqT K H a xs ∧ SqT K H b ys) (YPair (fun i => xs[i]?) (fun i => ys[i]?)) := by
  refine ⟨fun i _ hi q => ?_, fun _ q => ⟨xs, ys, q.1, q.2, by omega⟩, fun i H v H' _ q y => ?_⟩
  · have h2 : i < ys.length := by omega
    exact ⟨xs, ys, xs[i], ys[i], q.1, q.2, by simp [hi], by simp [h2]⟩
  · obtain ⟨T, x, z, h1, h2, h3, h4, h5⟩ := y
    exact ⟨T, x, z, h1, h2, h3, h4 xs q.1, h5 ys q.2⟩
theorem all_rep (n : Nat) : (List.replicate n true).all id = true := by
  induction n with
  | zero => rfl
  | succ n ih => rw [List.replicate_succ, List.all_cons, ih]; rfl
theorem kit_none (K : PySem.W.Frag) (t : String) (h1 : kitB t "list" = some false) (h2 : kitB t "tuple" = some false) : PySem.W.kitAny K (.type t) [.type "list", .type "tuple"] = some false :=
  kitAny_cons (kit_ty h1) (fun _ => kitAny_cons (kit_ty h2) (fun _ => rfl) (fun z => Bool.noConfusion z)) (fun z => Bool.noConfusion z)
theorem kit_list (K : PySem.W.Frag) : PySem.W.kitAny K (.type "list") [.type "list", .type "tuple"] = some true :=
  kitAny_cons (kit_ty (r := true) (by decide +kernel)) (fun z => Bool.noConfusion z) (fun _ => rfl)
theorem kit_tup (K : PySem.W.Frag) : PySem.W.kitAny K (.type "tuple") [.type "list", .type "tuple"] = some true :=
  kitAny_cons (kit_ty (r := false) (by decide +kernel)) (fun _ => kitAny_cons (kit_ty (r := true) (by decide +kernel)) (fun z => Bool.noConfusion z) (fun _ => rfl)) (fun z => Bool.noConfusion z)
theorem cls2 : Paired ClsV [.ty "list", .ty "tuple"] [.type "list", .type "tuple"] := .cons (.ty _) (.cons (.ty _) .nil)
/-! two things alike, kind by kind -/
def spLSame (K : PySem.W.Frag) (n : Nat) : Sp := fun vs H Q _ => ∃ (x y : V) (d : PyData), vs = [x, y] ∧ Dp K H x d ∧ Dp K H y d ∧ dep d < n ∧ wid d ≤ 1000000 ∧ ∀ G, Same H G → Q (.bl true) G

def spLaw (K : PySem.W.Frag) : Sp := fun vs H Q _ => ∃ (a : Addr) (ns : List Int), vs = [.ref a] ∧ SqL K H a (ns.map V.int) ∧ ns.length ≤ 63 ∧ ∀ G, Q (.bl true) G

end
section
variable {P : Program} {w : World} {K : PySem.W.Frag} {mg : Str → Option Value} {base : Heap}
/-! errors of the program's own as values -/
def oexB (K : PySem.W.Frag) (C : Addr) : Bool := match K.lookup C with
  | some ⟨.type "type", _, .cls cd, sl⟩ => (match cd.mro, sl.toList with
    | .ref D :: bm, [_, _, _, _, some (.builtin n), _] => (D == C) && ((n == "ValueError.__new__") && ((!cd.hasDel) && (cd.hasDict && PySem.HandSPX.refsVE bm)))
    | _, _ => false)
  | _ => false
theorem oexB_ok {K : PySem.W.Frag} {C : Addr} (h : oexB K C = true) : ∃ nm q N bs bm sn sub ab col dd k0 k1 k2 k3 k5, K.lookup C = some (excClassObj nm q C N bs bm true sn sub ab col dd k0 k1 k2 k3 k5 "ValueError.__new__") ∧ PySem.HandSPX.refsVE bm = true := by
  unfold oexB at h
  split at h
  · next dd cd sl lk =>
    split at h
    · next D bm k0 k1 k2 k3 n k5 hm hs =>
      obtain ⟨h1, h⟩ := He.ba h
      obtain ⟨h2, h⟩ := He.ba h
      obtain ⟨h3, h⟩ := He.ba h
      obtain ⟨h4, h5⟩ := He.ba h
      have e1 : D = C := beq_iff_eq.mp h1
      have e2 : n = "ValueError.__new__" := beq_iff_eq.mp h2
      obtain ⟨nm, bs, mro, ns, qn, hd, sn, sub, ab, col, del⟩ := cd
      dsimp only at hm h3 h4
      have e3 : del = false := by cases del <;> simp_all
      obtain ⟨l⟩ := sl
      have e4 : l = [k0, k1, k2, k3, some (.builtin n), k5] := hs
      subst e1 e2 e3 e4 hm h4
      exact ⟨nm, qn, ns, bs, bm, sn, sub, ab, col, dd, k0, k1, k2, k3, k5, lk, h5⟩
    · cases h
  · cases h
/-- what the written part says of an error's class -/
structure ECl (K : PySem.W.Frag) (C fI : Addr) : Prop where
  ox : OexC K C
  ga : PySem.W.findIn K (.ref C) "__getattribute__" = some (some (.builtin "BaseException.__getattribute__"))
  gg : PySem.W.findIn K (.ref C) "__getattr__" = some none
  hd : PySem.W.hasDictIn K C = true
  cl : PySem.W.findIn K (.ref C) "__class__" = some (some (.builtin "object.__class__"))
  sp : PySem.W.specialIn K (.builtin "object.__class__") "__get__" = some (some (.builtin "getset_descriptor.__get__"))
  tk : PySem.W.takesIn K (.builtin "object.__class__") = some true
  mo : PySem.W.mroIn K C (.type "object") = some true
  wh : PySem.W.findIn K (.ref C) "what" = some none
  ini : PySem.W.findIn K (.ref C) "__init__" = some (some (.ref fI))
  fty : PySem.W.typeIn K (.ref fI) = some (.type "function")
def eclB (K : PySem.W.Frag) (C fI : Addr) : Bool := oexB K C && (He.eqO (PySem.W.findIn K (.ref C) "__setattr__") (some (some (.builtin "object.__setattr__"))) && (decide (PySem.W.subIn K (.ref C) (.type "BaseException") = some true) && (decide (PySem.W.typeIn K (.ref C) = some (.type "type")) && (PySem.W.keepIn K (.ref C) &&
  (He.eqO (PySem.W.findIn K (.ref C) "__getattribute__") (some (some (.builtin "BaseException.__getattribute__"))) && (He.eqO (PySem.W.findIn K (.ref C) "__getattr__") (some none) && (PySem.W.hasDictIn K C && (He.eqO (PySem.W.findIn K (.ref C) "__class__") (some (some (.builtin "object.__class__"))) &&
  (He.eqO (PySem.W.specialIn K (.builtin "object.__class__") "__get__") (some (some (.builtin "getset_descriptor.__get__"))) && (decide (PySem.W.takesIn K (.builtin "object.__class__") = some true) && (decide (PySem.W.mroIn K C (.type "object") = some true) && (He.eqO (PySem.W.findIn K (.ref C) "what") (some none) &&
  (He.eqO (PySem.W.findIn K (.ref C) "__init__") (some (some (.ref fI))) && decide (PySem.W.typeIn K (.ref fI) = some (.type "function")))))))))))))))
theorem eclB_ok {K : PySem.W.Frag} {C fI : Addr} (h : eclB K C fI = true) : ECl K C fI := by
  obtain ⟨h1, h⟩ := He.ba h
  obtain ⟨h2, h⟩ := He.ba h
  obtain ⟨h3, h⟩ := He.ba h
  obtain ⟨h4, h⟩ := He.ba h
  obtain ⟨h5, h⟩ := He.ba h
  obtain ⟨h6, h⟩ := He.ba h
  obtain ⟨h7, h⟩ := He.ba h
  obtain ⟨h8, h⟩ := He.ba h
  obtain ⟨h9, h⟩ := He.ba h
  obtain ⟨h10, h⟩ := He.ba h
  obtain ⟨h11, h⟩ := He.ba h
  obtain ⟨h12, h⟩ := He.ba h
  obtain ⟨h13, h⟩ := He.ba h
  obtain ⟨h14, h15⟩ := He.ba h
  exact ⟨⟨oexB_ok h1, He.eqO_ok h2, of_decide_eq_true h3, of_decide_eq_true h4, h5⟩, He.eqO_ok h6, He.eqO_ok h7, h8, He.eqO_ok h9, He.eqO_ok h10, of_decide_eq_true h11, of_decide_eq_true h12, He.eqO_ok h13, He.eqO_ok h14, of_decide_eq_true h15⟩
/-- an error of the class at C stands at a; it bears v -/
def ErrAt (H : Hp) (a C : Addr) (v : V) : Prop := ∃ d, H a = some (exo a C (some d)) ∧ H d = some (exd d [(("what" : Str), v)])
theorem ErrAt.same {H G : Hp} {a C : Addr} {v : V} (e : ErrAt H a C v) (s : Same H G) : ErrAt G a C v := by
  obtain ⟨d, h1, h2⟩ := e
  exact ⟨d, s _ _ h1, s _ _ h2⟩
theorem inst_of {X : Cx} {pins : List (Addr × Obj)} {σ : L2.St} {H : Hp} {s : Shared} {a C : Addr} {v : V} (I : Inv X pins σ H s) (e : ErrAt H a C v) :
    ∃ oe od u, PySem.W.InstAt s.heap a oe C (some od) ∧ PySem.W.lookIn "what" od = some (some u) ∧ RelV v u := by
  obtain ⟨d, h1, h2⟩ := e
  obtain ⟨t1, q1⟩ := exo_at I.hok h1
  obtain ⟨mA, hn, hr⟩ := exd_at I.hok h2
  obtain ⟨od, ho, hl⟩ := lookIn_ns hn
  have l : List.lookup ("what" : Str) [(("what" : Str), v)] = some v := by simp [List.lookup]
  obtain ⟨u, hu, ru⟩ := RelO.some_of (v := v) (o := mA "what") (by rw [← l]; exact hr "what")
  exact ⟨_, od, u, ⟨q1, rfl, rfl, ho⟩, by rw [hl, hu], ru⟩
/-- isinstance(e, c) -/
def rIsX (K : PySem.W.Frag) : List V → Hp → VK → Prop := fun xs H Q => ∃ (a D fI : Addr) (w c : V) (u : Value) (b : Bool), xs = [.ref a, c] ∧ ClsV c u ∧ ErrAt H a D w ∧ ECl K D fI ∧ PySem.W.kitOne K (.ref D) u = some b ∧ Q (.bl b) H
theorem call_isX {X : Cx} : CallR X (.builtin "isinstance") (rIsX X.K) := by
  intro pins s σ H xs us Q I r h
  obtain ⟨a, D, fI, w, c, u, b, rfl, hc, he, T, hk, q⟩ := h
  obtain ⟨u1, u2, rfl, r1, r2⟩ := vals2 r
  obtain rfl : u1 = Value.ref a := r1
  have e2 := hc.eq r2
  subst e2
  obtain ⟨oe, od, z, J, _, _⟩ := inst_of I he
  have hcl : (PySem.W.clsIn X.K D).isSome = true := by
    have := T.hd
    unfold PySem.W.hasDictIn at this
    cases e : PySem.W.clsIn X.K D with
    | none => rw [e] at this; cases this
    | some _ => rfl
  exact PySem.W.kia_one (PySem.W.kitx_exc (od := some od) hcl T.ga T.gg T.ox.exC T.cl T.sp T.tk T.mo) I.kIn J hk (fun z => nomatch z) fun tk => ⟨.bl b, H, I.tok tk, rfl, q⟩
/-- e.what -/
def tWhat (K : PySem.W.Frag) (te : TE) : TE := fun σ H Q => te σ H fun x H1 => ∃ (a D fI : Addr) (v : V), x = .ref a ∧ ErrAt H1 a D v ∧ ECl K D fI ∧ Q v H1
theorem pe_what {X : Cx} {e : Expr} {te : TE} {pos : Pos} (he : PE X e te) (hb : attributeBase e "what" X.env (eval e X.env) = eval e X.env := by rfl) : PE X (.Attribute e "what" pos) (tWhat X.K te) := by
  refine ⟨fun pins s σ H Q I h => ?_⟩
  refine attr_of hb (thn (he.run pins s σ H _ I h) fun u s1 hh => ?_)
  obtain ⟨x, H1, I1, rx, a, D, fI, v, ex, er, T, q⟩ := hh
  subst ex
  obtain rfl : u = Value.ref a := rx
  obtain ⟨oe, od, z, J, hl, rz⟩ := inst_of I1 er
  exact HandSPX.exc_get I1.kIn J T.ga T.gg T.ox.exC (PySem.W.findObj_own T.hd T.wh rfl hl) (handed_of rz) ⟨v, H1, I1.tok _, rz, q⟩
/-- the program's errors: each over root alone, over ValueError; what it asks of each is so -/
def errOk (K : PySem.W.Frag) (root : Str) (cs : List Str) : Bool := cs.all fun c => eclB K (He.ga K c) (He.ma K (He.ga K root) "__init__") && (decide (PySem.W.kitOne K (.ref (He.ga K c)) (.type "ValueError") = some true) &&
  cs.all fun e => decide (PySem.W.kitOne K (.ref (He.ga K c)) (.ref (He.ga K e)) = some (decide (e = c) || decide (e = root))))
theorem err_cl {K : PySem.W.Frag} {root : Str} {cs : List Str} (h : errOk K root cs = true) {c : Str} (hc : c ∈ cs) : ECl K (He.ga K c) (He.ma K (He.ga K root) "__init__") :=
  eclB_ok (He.ba (List.all_eq_true.mp h c hc)).1
theorem err_ve {K : PySem.W.Frag} {root : Str} {cs : List Str} (h : errOk K root cs = true) {c : Str} (hc : c ∈ cs) : PySem.W.kitOne K (.ref (He.ga K c)) (.type "ValueError") = some true :=
  of_decide_eq_true (He.ba (He.ba (List.all_eq_true.mp h c hc)).2).1
theorem err_is {K : PySem.W.Frag} {root : Str} {cs : List Str} (h : errOk K root cs = true) {c e : Str} (hc : c ∈ cs) (he : e ∈ cs) : PySem.W.kitOne K (.ref (He.ga K c)) (.ref (He.ga K e)) = some (decide (e = c) || decide (e = root)) :=
  of_decide_eq_true (List.all_eq_true.mp (He.ba (He.ba (List.all_eq_true.mp h c hc)).2).2 e he)
end
section
variable {P : Program} {w : World} {K : PySem.W.Frag} {mg : Str → Option Value} {base : Heap}
open PySem.W PySem.Calls PySem.HandSPX
section
variable {M : Model} {A : Around} {E : Value → Shared → Prop} {h : Heap} {g : Array GenState} {d : Drawn} {t : Nat} {os : OsState}
variable {nm q : Str} {C N : Addr} {bs bm : List Value} {hdct : Bool} {sn : List Str} {sub : List Value} {ab : Bool} {col : Option Bool} {dd : Option Addr} {k0 k1 k2 k3 k5 : Option Value}
theorem ck_new {x : Str} {v : Value} {Q : Unit → Shared → Prop} (hb : HandSPX.refsVE bm = true)
    (hC : h.get? C = some (excClassObj nm q C N bs bm hdct sn sub ab col dd k0 k1 k2 k3 k5 "ValueError.__new__")) (hq : Q () ⟨h, g, d, t, os⟩) :
    wpAny M A (checkBuiltinCall "ValueError.__new__" ⟨[.ref C], [(x, v)]⟩) Q E ⟨h, g, d, t, os⟩ := by
  have F := F.excBase_ValueError
  have c1 : (Value.ref C :: bm).contains (.type "ValueError") = true := by
    rw [List.contains_cons, HandSPX.refsVE_contains _ _ hb]
    simp
  simp only [checkBuiltinCall, F.newKind, F.newSplit, F.newRow]
  repeat (first | refine wpAny_loadPart_at hC ?_ | (refine wpAny_isSubtype_exc hC ?_; rw [c1]) | refine wpAny_staticBase_exc hC ?_ | refine wpAny_madeBy_exc hC ?_ | simp only [bne_self_eq_false, Bool.false_eq_true, if_false] | wp_step)
  exact hq
end
section
variable {prog : Program} {w : World} {A : Around} {E : Value → Shared → Prop} {R : Result → Shared → Prop} {h : Heap} {g : Array GenState} {d : Drawn} {t : Nat} {os : OsState}
variable {nm q : Str} {C N : Addr} {bs bm : List Value} {hdct : Bool} {sn : List Str} {sub : List Value} {ab : Bool} {col : Option Bool} {dd : Option Addr} {k0 k1 k2 k3 k5 : Option Value}
theorem kw_new {x : Str} {v : Value} (hb : HandSPX.refsVE bm = true) (hC : h.get? C = some (excClassObj nm q C N bs bm hdct sn sub ab col dd k0 k1 k2 k3 k5 "ValueError.__new__"))
    (hq : R (.ok (.ret (.ref (h.objs.size + 1)))) ⟨(h.push (W.kdv_tup [])).push (HandSPX.excO C h.objs.size), g, d, t, os⟩) :
    codeAny (model prog w) A (.builtin "ValueError.__new__" ⟨[.ref C], [(x, v)]⟩) R ⟨h, g, d, t, os⟩ := by
  have F := F.excBase_ValueError
  have cT : ∀ X : String, (Value.ref C :: bm).contains (.type X) = HandSPX.veTail.contains (.type X) := fun X => by
    rw [List.contains_cons, HandSPX.refsVE_contains _ _ hb]
    simp
  have c1 : (Value.ref C :: bm).contains (.type "ValueError") = true := (cT _).trans (by decide +kernel)
  have c2 : (Value.ref C :: bm).contains (.type "AttributeError") = false := (cT _).trans (by decide +kernel)
  have c3 : (Value.ref C :: bm).contains (.type "NameError") = false := (cT _).trans (by decide +kernel)
  have e1 := F.ends
  refine codeAny_builtinAt F.entry ?_
  unfold Builtin.«BaseException.__new__»
  refine PySem.wpAt_bind ?_
  show PySem.wpAt _ _ _ (stack >>= _) _ _ _
  refine PySem.wpAt_bind (PySem.wpAt_stack fun p below => PySem.wpAt_of_wpAny ?_)
  wp_walk
  refine PySem.wpAt_of_wpAny ?_
  rw [F.owner]
  repeat (first | with_reducible refine wpAny_madeHere_exc F.canon hC ?_ | with_reducible refine wpAny_loadPart_at hC ?_ | (with_reducible refine wpAny_isSubtype_exc hC ?_; first | rw [c1] | rw [c2] | rw [c3]) | wp_step)
  show R _ _
  rw [Heap.size_push]
  exact hq
theorem kw_type {x : Str} {v : Value} {fI : Addr} {Q : PySem.Fin → Shared → Prop} (hb : HandSPX.refsVE bm = true) (hC : h.get? C = some (excClassObj nm q C N bs bm hdct sn sub ab col dd k0 k1 k2 k3 k5 "ValueError.__new__"))
    (hi : W.Looks (model prog w) h (typeLookup (.ref C) "__init__") (some (.ref fI))) (hs : ∀ self, W.Looks (model prog w) h (bindSpecial (.ref fI) self) (.ref fI, [self]))
    (hq : codeAny (model prog w) A (.call (.ref fI) ⟨[.ref (h.objs.size + 1)], [(x, v)]⟩)
      (fun r s' => match r with | .ok (.ret u) => u = .none ∧ Q (.done (.ret (.ref (h.objs.size + 1)))) s' | .ok _ => False | .error e => E e s') ⟨(h.push (W.kdv_tup [])).push (HandSPX.excO C h.objs.size), g, d, t, os⟩) :
    wpAny (model prog w) A (Builtin.«type.__call__» ⟨[.ref C], [(x, v)]⟩) Q E ⟨h, g, d, t, os⟩ := by
  have F := F.excBase_ValueError
  have grow : ∀ b o, h.get? b = some o → ((h.push (W.kdv_tup [])).push (HandSPX.excO C h.objs.size)).get? b = some o := fun b o e => Heap.get?_push_of_some _ (Heap.get?_push_of_some _ e)
  have new : ((h.push (W.kdv_tup [])).push (HandSPX.excO C h.objs.size)).get? (h.objs.size + 1) = some (HandSPX.excO C h.objs.size) := by heap_get
  have cC : (Value.ref C :: bm).contains (.ref C) = true := by simp
  repeat (first | with_reducible refine wpAny_loadPart_at hC ?_ | with_reducible refine wpAny_madeBy_exc hC ?_ | wp_step)
  refine codeAny_call_builtin_code (Code.quiet_builtin _ F.quiet) (ck_new hb hC (kw_new hb hC ?_))
  show wpAny _ _ _ _ _ _
  unfold isInstance
  repeat (first | with_reducible refine wpAny_loadPart_at new ?_ | (with_reducible refine wpAny_isSubtype_exc (grow _ _ hC) ?_; rw [cC]) | wp_step)
  show wpAny _ _ (typeLookup (.ref C) _) _ _ _
  refine (hi.keeps grow).at (wpAny_holding (wpAny_bind (((hs _).keeps grow).at (wpAny_bind (wpAny_call (codeAny_mono hq fun r s' z => ?_))))))
  cases r with
  | error e => exact z
  | ok fl =>
    cases fl with
    | ret u =>
      obtain ⟨rfl, z⟩ := z
      first
        | exact wpAny_pure (wpAny_pure z)
        | exact wpAny_pure z
    | next => exact z.elim
    | brk => exact z.elim
    | cont => exact z.elim
theorem kw_call {x : Str} {v : Value} {fI : Addr} (hb : HandSPX.refsVE bm = true) (hC : h.get? C = some (excClassObj nm q C N bs bm hdct sn sub ab col dd k0 k1 k2 k3 k5 "ValueError.__new__"))
    (hi : W.Looks (model prog w) h (typeLookup (.ref C) "__init__") (some (.ref fI))) (hs : ∀ self, W.Looks (model prog w) h (bindSpecial (.ref fI) self) (.ref fI, [self]))
    (hq : codeAny (model prog w) (A.under (.builtin "type.__call__" ⟨[.ref C], [(x, v)]⟩)) (.call (.ref fI) ⟨[.ref (h.objs.size + 1)], [(x, v)]⟩) (W.InitBack (h.objs.size + 1) R) ⟨(h.push (W.kdv_tup [])).push (HandSPX.excO C h.objs.size), g, d, t, os⟩) :
    codeAny (model prog w) A (.call (.ref C) ⟨[], [(x, v)]⟩) R ⟨h, g, d, t, os⟩ := by
  have l1 := PySem.tc_lookup
  have l2 := PySem.tc_bind (.ref C)
  have ty : (⟨h, g, d, t, os⟩ : Shared).TypeIs (.ref C) "type" := ⟨_, hC, rfl⟩
  refine codeAny_of_tree ?_
  show wpAny _ _ (callAny (.ref C) _) _ _ _
  repeat (any_goals (first | assumption | with_reducible refine wpAny_loadPart_at hC ?_ | wp_step))
  refine ⟨rfl, codeAny_call_builtin_at (Code.quiet_builtin _ (by decide +kernel)) PySem.entry_typeCall (wpAny_check_type_call_sub hC (kw_type hb hC hi hs (codeAny_mono hq fun r s' z => ?_)))⟩
  rcases r with e | (u | _ | _ | _) <;> exact z
end
/-! C(e) and C(what=e) as values -/
def tMkE (C : Addr) (ta : TA) : TE := fun σ H Q => ta σ H fun vs H1 => ∃ v, vs = [v] ∧ ∀ (a : Addr) (G : Hp), H1 a = none → Same H1 G → ErrAt G a C v → Q (.ref a) G
def spInitE (K : PySem.W.Frag) : Sp := fun vs H Q _ => ∃ (a C fI : Addr) (v : V), vs = [.ref a, v] ∧ H a = some (exo a C none) ∧ ECl K C fI ∧ ∀ d, H d = none → d ≠ a → Q .non (upd (upd H d (exd d [(("what" : Str), v)])) a (exo a C (some d)))
theorem err_made {H1 : Hp} {a C d : Addr} {v : V} (ha : H1 a = none) (hd : (upd H1 a (exo a C none)) d = none) (ne : d ≠ a) :
    Same H1 (upd (upd (upd H1 a (exo a C none)) d (exd d [(("what" : Str), v)])) a (exo a C (some d))) ∧ ErrAt (upd (upd (upd H1 a (exo a C none)) d (exd d [(("what" : Str), v)])) a (exo a C (some d))) a C v := by
  refine ⟨fun b o e => ?_, d, upd_same, ?_⟩
  · have h1 : b ≠ a := ne_of_none e ha
    rw [upd_ne h1]
    have h2 : b ≠ d := fun z => by
      rw [← z, upd_ne h1, e] at hd
      cases hd
    rw [upd_ne h2, upd_ne h1]
    exact e
  · rw [upd_ne ne, upd_same]
section
variable {X : Cx} {x : Str} {C fI : Addr} {k : Nat} {fd : FuncData} {p pos : Pos}
theorem pe_mkE {e : Expr} {ta : TA} (T : ECl X.K C fI) (F1 : FnOk X.prog X.w X.K X.mg X.base CX0 k fI fd ["self", "what"] (spInitE X.K)) (hr : Room (k + 1) X.A) (hb : Binds X.K fd ["self", "what"] []) (hg : Gl X x) (hm : X.mg x = some (.ref C)) (ha : PA X [e] ta)
    (h1 : (x == ("__debug__" : Str)) = false := by decide) (h2 : starEach [e] X.env = (false, eval e X.env) :: starEach [] X.env := by rfl) (h3 : (backTo pos (starEach [] X.env)).any (·.1) = false := by rfl) :
    PE X (.Call (.Name x p) [e] [] pos) (tMkE C ta) := by
  refine ⟨fun pins s σ H Q I h => ?_⟩
  obtain ⟨nm, q, N, bs, bm, sn, sub, ab, col, dd, k0, k1, k2, k3, k5, hC, hbm⟩ := T.ox.cls
  refine wpAny_Call_Name_kw (ld_glob I hg hm ?_ h1)
  refine PySem.W.callWith_K (h₀ := X.base) I.ok.mod.kin T.ox.kC (thn (ha.run pos pins s σ H _ I h) fun us s1 ⟨vs, H1, I1, r1, v, ev, q1⟩ => ⟨I1.kIn, ?_⟩) h2 h3
  subst ev
  obtain ⟨u, rfl, ru⟩ := vals1 r1
  show wpAny _ _ (call (.ref C) [u]) _ _ _
  obtain ⟨hp, g, dr, tk, os⟩ := s1
  have hn : H1 (hp.objs.size + 1) = none := I1.hok.fresh (Nat.le_succ _)
  have grow : ∀ b o, hp.get? b = some o → ((hp.push (PySem.W.kdv_tup [u])).push (HandSPX.excO C hp.objs.size)).get? b = some o := fun b o e => Heap.get?_push_of_some _ (Heap.get?_push_of_some _ e)
  have new : ((hp.push (PySem.W.kdv_tup [u])).push (HandSPX.excO C hp.objs.size)).get? (hp.objs.size + 1) = some (HandSPX.excO C hp.objs.size) := by heap_get
  have I2 : Inv X pins σ (upd H1 (hp.objs.size + 1) (exo (hp.objs.size + 1) C none)) ⟨(hp.push (PySem.W.kdv_tup [u])).push (HandSPX.excO C hp.objs.size), g, dr, tk, os⟩ := I1.laid (t' := tk) grow (Nat.le_succ _) (exo_ok new)
  have r2 : Vals [V.ref (hp.objs.size + 1), v] [Value.ref (hp.objs.size + 1), u] := .cons rfl (.cons ru .nil)
  refine wpAny_call (HandSPX.call_own F.excBase_ValueError (fun Y => HandSPX.refsVE_contains Y bm hbm) (I1.kIn _ _ hC) (PySem.W.looks_findIn I1.kIn T.ini) (fun self => PySem.W.bind_fn I1.kIn self T.fty) (by rw [sizeLine_eq]; show 1 ≤ 16777216; decide)
    (codeAny_mono (F1.run _ X.stack _ _ ⟨[Value.ref (hp.objs.size + 1), u], []⟩ [Value.ref (hp.objs.size + 1), u] _ (fun w' G => w' = .non ∧ Q (.ref (hp.objs.size + 1)) G) (fun _ _ _ => False) (hr.make C [u] []) (I2.env0.make C [u] []) (hb _ _ I2.kIn rfl) r2 ⟨_, C, fI, v, rfl, upd_same, T, fun d hd ne => ⟨rfl, ?_⟩⟩) fun r s' hq' => ?_))
  · obtain ⟨a1, a2⟩ := err_made hn hd ne
    exact q1 _ _ hn a1 a2
  · cases r with
    | error er => exact hq'.elim
    | ok fl =>
      cases fl with
      | ret w' =>
        obtain ⟨v2, H2, J, rv, ev, q2⟩ := I2.after hq'
        subst ev
        exact ⟨rv, ⟨V.ref (hp.objs.size + 1), H2, J, rfl, q2⟩⟩
      | next => exact hq'.elim
      | brk => exact hq'.elim
      | cont => exact hq'.elim
theorem pe_mkEK {kws : List Keyword} {tk : TA} (T : ECl X.K C fI) (F1 : FnOk X.prog X.w X.K X.mg X.base CX0 k fI fd ["self", "what"] (spInitE X.K)) (hr : Room (k + 1) X.A) (hb : KBn X.K fd ["self", "what"] 1 ["what"] (fun us ws => us ++ ws) (fun vs zs => vs ++ zs)) (hg : Gl X x) (hm : X.mg x = some (.ref C)) (hk : PK X kws tk)
    (h1 : (backToKw pos (keywordEach kws X.env)).all (·.1.isSome) = true := by rfl) (h2 : (backToKw pos (keywordEach kws X.env)).filterMap (·.1) = (["what"] : List Str) := by rfl) (h3 : (x == ("__debug__" : Str)) = false := by decide)
    (h4 : ((backTo pos (starEach [] X.env)).any (·.1) || (backToKw pos (keywordEach kws X.env)).any (·.1.isNone)) = false := by rfl) :
    PE X (.Call (.Name x p) [] kws pos) (tMkE C tk) := by
  refine ⟨fun pins s σ H Q I h => ?_⟩
  obtain ⟨nm, q, N, bs, bm, sn, sub, ab, col, dd, k0, k1, k2, k3, k5, hC, hbm⟩ := T.ox.cls
  refine wpAny_Call_Name_kw (ld_glob I hg hm ?_ h3)
  refine PySem.W.callWith_KW0 (h₀ := X.base) I.ok.mod.kin T.ox.kC h1 ?_ h4
  refine thn (hk.run pos pins s σ H _ I h) fun us s1 ⟨vs, H1, I1, r1, v, ev, q1⟩ => ⟨I1.kIn, ?_⟩
  subst ev
  rw [h2]
  obtain ⟨u, rfl, ru⟩ := vals1 r1
  show wpAny _ _ (call (.ref C) [] [("what", u)]) _ _ _
  obtain ⟨hp, g, dr, tk, os⟩ := s1
  have hn : H1 (hp.objs.size + 1) = none := I1.hok.fresh (Nat.le_succ _)
  have grow : ∀ b o, hp.get? b = some o → ((hp.push (PySem.W.kdv_tup [])).push (HandSPX.excO C hp.objs.size)).get? b = some o := fun b o e => Heap.get?_push_of_some _ (Heap.get?_push_of_some _ e)
  have new : ((hp.push (PySem.W.kdv_tup [])).push (HandSPX.excO C hp.objs.size)).get? (hp.objs.size + 1) = some (HandSPX.excO C hp.objs.size) := by heap_get
  have I2 : Inv X pins σ (upd H1 (hp.objs.size + 1) (exo (hp.objs.size + 1) C none)) ⟨(hp.push (PySem.W.kdv_tup [])).push (HandSPX.excO C hp.objs.size), g, dr, tk, os⟩ := I1.laid (t' := tk) grow (Nat.le_succ _) (exo_ok new)
  have r2 : Vals [V.ref (hp.objs.size + 1), v] [Value.ref (hp.objs.size + 1), u] := .cons rfl (.cons ru .nil)
  refine wpAny_call (kw_call hbm (I1.kIn _ _ hC) (PySem.W.looks_findIn I1.kIn T.ini) (fun self => PySem.W.bind_fn I1.kIn self T.fty)
    (codeAny_mono (F1.run _ X.stack _ _ ⟨[Value.ref (hp.objs.size + 1)], [(("what" : Str), u)]⟩ [Value.ref (hp.objs.size + 1), u] _ (fun w' G => w' = .non ∧ Q (.ref (hp.objs.size + 1)) G) (fun _ _ _ => False) (hr.make C [] [("what", u)]) (I2.env0.make C [] [("what", u)]) (hb.to _ [Value.ref (hp.objs.size + 1)] [u] I2.kIn rfl rfl) r2 ⟨_, C, fI, v, rfl, upd_same, T, fun d hd ne => ⟨rfl, ?_⟩⟩) fun r s' hq' => ?_))
  · obtain ⟨a1, a2⟩ := err_made hn hd ne
    exact q1 _ _ hn a1 a2
  · cases r with
    | error er => exact hq'.elim
    | ok fl =>
      cases fl with
      | ret w' =>
        obtain ⟨v2, H2, J, rv, ev, q2⟩ := I2.after hq'
        subst ev
        exact ⟨rv, ⟨V.ref (hp.objs.size + 1), H2, J, rfl, q2⟩⟩
      | next => exact hq'.elim
      | brk => exact hq'.elim
      | cont => exact hq'.elim
end

end
section
variable {P : Program} {w : World} {K : PySem.W.Frag} {mg : Str → Option Value} {base : Heap}
def top (i : Nat) : Stmt := PySem.Challenge.pw_startlog_k01_words_and_refusals.main.body.getD i (.Pass ⟨0, 0, 0, 0⟩)
abbrev sLBox : Stmt := top 31
abbrev sLTake : Stmt := top 32
abbrev sLPick : Stmt := top 33
abbrev sLFolded : Stmt := top 34
abbrev sLSame : Stmt := top 35
abbrev sLMarks : Stmt := top 36
abbrev sLAll : Stmt := top 37
abbrev sLAllNamed : Stmt := top 38
abbrev sLWordsRight : Stmt := top 39
abbrev sLaw : Stmt := top 40
abbrev sStartErrorInit : Stmt := inClass (top 1) 0
theorem scLBox : FnScope ["_law_script", "_law_k", "_law_cell"] ["_law_script", "_law_k"] (defScope sLBox) := ⟨rfl, rfl, rfl, by decide +kernel, rfl, by decide +kernel, by decide +kernel⟩
theorem scLTake : FnScope ["_law_box_here", "_law_size", "_law_found", "_law_once"] ["_law_box_here", "_law_size"] (defScope sLTake) := ⟨rfl, rfl, rfl, by decide +kernel, rfl, by decide +kernel, by decide +kernel⟩
theorem scLPick : FnScope ["_law_box_here", "_law_things"] ["_law_box_here", "_law_things"] (defScope sLPick) := ⟨rfl, rfl, rfl, by decide +kernel, rfl, by decide +kernel, by decide +kernel⟩
theorem scLFolded : FnScope ["_law_script", "_law_size", "_law_cells", "_law_k", "_law_cell"] ["_law_script", "_law_size"] (defScope sLFolded) := ⟨rfl, rfl, rfl, by decide +kernel, rfl, by decide +kernel, by decide +kernel⟩
theorem scLSame : FnScope ["_law_found", "_law_due", "_law_one", "_law_two"] ["_law_found", "_law_due"] (defScope sLSame) := ⟨rfl, rfl, rfl, by decide +kernel, rfl, by decide +kernel, by decide +kernel⟩
theorem scLMarks : FnScope ["_law_error", "_law_marks_here", "_law_k", "_law_one"] ["_law_error"] (defScope sLMarks) := ⟨rfl, rfl, rfl, by decide +kernel, rfl, by decide +kernel, by decide +kernel⟩
theorem scLAll : FnScope ["_law_thing", "_law_found"] ["_law_thing"] (defScope sLAll) := ⟨rfl, rfl, rfl, by decide +kernel, rfl, by decide +kernel, by decide +kernel⟩
theorem scLAllNamed : FnScope ["_law_thing", "_law_found"] ["_law_thing"] (defScope sLAllNamed) := ⟨rfl, rfl, rfl, by decide +kernel, rfl, by decide +kernel, by decide +kernel⟩
theorem scLWordsRight : FnScope ["_law_due"] [] (defScope sLWordsRight) := ⟨rfl, rfl, rfl, by decide +kernel, rfl, by decide +kernel, by decide +kernel⟩
theorem scLaw : FnScope ["_law_script", "_law_k", "_law_cell", "_law_box_here", "_law_thing", "_law_row", "_law_place", "_law_error"] ["_law_script"] (defScope sLaw) := ⟨rfl, rfl, rfl, by decide +kernel, rfl, by decide +kernel, by decide +kernel⟩
theorem scStartErrorInit : FnScope ["self", "what"] ["self", "what"] (defScope sStartErrorInit) := ⟨rfl, rfl, rfl, by decide +kernel, rfl, by decide +kernel, by decide +kernel⟩
/-- the names that are the builtins' own -/
structure Bl (mg : Str → Option Value) : Prop where
  b_ValueError : mg "ValueError" = none
  b_repr : mg "repr" = none
  b_len : mg "len" = none
  b_abs : mg "abs" = none
  b_int : mg "int" = none
  b_isinstance : mg "isinstance" = none
  b_list : mg "list" = none
  b_tuple : mg "tuple" = none
  b_str : mg "str" = none
  b_bool : mg "bool" = none
  b_all : mg "all" = none
  b_zip : mg "zip" = none
  b_range : mg "range" = none
  b_max : mg "max" = none
  b_min : mg "min" = none
  b_enumerate : mg "enumerate" = none
  b_divmod : mg "divmod" = none
def ERRS : List Str := ["StartError", "NoName", "NoRow", "BadMixing", "NoBoard", "BadLog", "BadStep", "BadHand", "BadMachine", "NotYet", "Fixed", "BadText", "BadLine", "Known", "Unknown", "TooMany", "BadDeed", "NoNumber", "NoPacket"]
/-- what the top has written -/
structure Tx (K : PySem.W.Frag) (mg : Str → Option Value) where
  B : Bl mg
  c_NOTES : ∃ t, mg "NOTES" = some (.int 9973 t)
  c_SPAN : ∃ t, mg "SPAN" = some (.int 26500305465 t)
  c_FACTOR : ∃ t, mg "FACTOR" = some (.int 7919 t)
  c_BOARDS : ∃ t, mg "BOARDS" = some (.int 4 t)
  c_FIXED : ∃ t, mg "FIXED" = some (.int 2 t)
  c_SIGNS : ∃ t, mg "SIGNS" = some (.int 1000000000039 t)
  c_FOLD : ∃ t, mg "FOLD" = some (.int 1000003 t)
  c_LIFE : ∃ t, mg "LIFE" = some (.int 9 t)
  c_MACHINES : ∃ t, mg "MACHINES" = some (.int 8 t)
  fdLBox : FuncData
  FLBox : FunD K "_law_box" "_law_box" (defArgs sLBox) (defBody sLBox) (defScope sLBox) [] [] (He.ga K "_law_box") fdLBox
  gLBox : mg "_law_box" = some (.ref (He.ga K "_law_box"))
  fdLTake : FuncData
  FLTake : FunD K "_law_take" "_law_take" (defArgs sLTake) (defBody sLTake) (defScope sLTake) [] [] (He.ga K "_law_take") fdLTake
  gLTake : mg "_law_take" = some (.ref (He.ga K "_law_take"))
  fdLPick : FuncData
  FLPick : FunD K "_law_pick" "_law_pick" (defArgs sLPick) (defBody sLPick) (defScope sLPick) [] [] (He.ga K "_law_pick") fdLPick
  gLPick : mg "_law_pick" = some (.ref (He.ga K "_law_pick"))
  fdLFolded : FuncData
  FLFolded : FunD K "_law_folded" "_law_folded" (defArgs sLFolded) (defBody sLFolded) (defScope sLFolded) [] [] (He.ga K "_law_folded") fdLFolded
  gLFolded : mg "_law_folded" = some (.ref (He.ga K "_law_folded"))
  fdLSame : FuncData
  FLSame : FunD K "_law_same" "_law_same" (defArgs sLSame) (defBody sLSame) (defScope sLSame) [] [] (He.ga K "_law_same") fdLSame
  gLSame : mg "_law_same" = some (.ref (He.ga K "_law_same"))
  fdLMarks : FuncData
  FLMarks : FunD K "_law_marks" "_law_marks" (defArgs sLMarks) (defBody sLMarks) (defScope sLMarks) [] [] (He.ga K "_law_marks") fdLMarks
  gLMarks : mg "_law_marks" = some (.ref (He.ga K "_law_marks"))
  fdLAll : FuncData
  FLAll : FunD K "_law_all" "_law_all" (defArgs sLAll) (defBody sLAll) (defScope sLAll) [] [] (He.ga K "_law_all") fdLAll
  gLAll : mg "_law_all" = some (.ref (He.ga K "_law_all"))
  fdLAllNamed : FuncData
  FLAllNamed : FunD K "_law_all_named" "_law_all_named" (defArgs sLAllNamed) (defBody sLAllNamed) (defScope sLAllNamed) [] [] (He.ga K "_law_all_named") fdLAllNamed
  gLAllNamed : mg "_law_all_named" = some (.ref (He.ga K "_law_all_named"))
  fdLWordsRight : FuncData
  FLWordsRight : FunD K "_law_words_right" "_law_words_right" (defArgs sLWordsRight) (defBody sLWordsRight) (defScope sLWordsRight) [] [] (He.ga K "_law_words_right") fdLWordsRight
  gLWordsRight : mg "_law_words_right" = some (.ref (He.ga K "_law_words_right"))
  fdLaw : FuncData
  FLaw : FunD K "law" "law" (defArgs sLaw) (defBody sLaw) (defScope sLaw) [] [] (He.ga K "law") fdLaw
  gLaw : mg "law" = some (.ref (He.ga K "law"))
  fdStartErrorInit : FuncData
  FStartErrorInit : FunD K "__init__" "StartError.__init__" (defArgs sStartErrorInit) (defBody sStartErrorInit) (defScope sStartErrorInit) [] [] (He.ma K (He.ga K "StartError") "__init__") fdStartErrorInit
  gStartError : mg "StartError" = some (.ref (He.ga K "StartError"))
  gNoName : mg "NoName" = some (.ref (He.ga K "NoName"))
  gNoRow : mg "NoRow" = some (.ref (He.ga K "NoRow"))
  gBadMixing : mg "BadMixing" = some (.ref (He.ga K "BadMixing"))
  gNoBoard : mg "NoBoard" = some (.ref (He.ga K "NoBoard"))
  gBadLog : mg "BadLog" = some (.ref (He.ga K "BadLog"))
  gBadStep : mg "BadStep" = some (.ref (He.ga K "BadStep"))
  gBadHand : mg "BadHand" = some (.ref (He.ga K "BadHand"))
  gBadMachine : mg "BadMachine" = some (.ref (He.ga K "BadMachine"))
  gNotYet : mg "NotYet" = some (.ref (He.ga K "NotYet"))
  gFixed : mg "Fixed" = some (.ref (He.ga K "Fixed"))
  gBadText : mg "BadText" = some (.ref (He.ga K "BadText"))
  gBadLine : mg "BadLine" = some (.ref (He.ga K "BadLine"))
  gKnown : mg "Known" = some (.ref (He.ga K "Known"))
  gUnknown : mg "Unknown" = some (.ref (He.ga K "Unknown"))
  gTooMany : mg "TooMany" = some (.ref (He.ga K "TooMany"))
  gBadDeed : mg "BadDeed" = some (.ref (He.ga K "BadDeed"))
  gNoNumber : mg "NoNumber" = some (.ref (He.ga K "NoNumber"))
  gNoPacket : mg "NoPacket" = some (.ref (He.ga K "NoPacket"))
  er : errOk K "StartError" ERRS = true
  c_WORDS : mg "WORDS" = some (.ref (He.ga K "WORDS"))
  t_WORDS : tupD K "WORDS" [.str "load", .str "set", .str "end", .str "late", .str "reset"] = true
theorem Tx.bLBox {K : PySem.W.Frag} {mg : Str → Option Value} (T : Tx K mg) : Binds K T.fdLBox ["_law_script", "_law_k"] [] := T.FLBox.bindsN fun _ _ _ _ _ _ us hl => match us, hl with | [_, _], _ => rfl
theorem Tx.bLTake {K : PySem.W.Frag} {mg : Str → Option Value} (T : Tx K mg) : Binds K T.fdLTake ["_law_box_here", "_law_size"] [] := T.FLTake.bindsN fun _ _ _ _ _ _ us hl => match us, hl with | [_, _], _ => rfl
theorem Tx.bLPick {K : PySem.W.Frag} {mg : Str → Option Value} (T : Tx K mg) : Binds K T.fdLPick ["_law_box_here", "_law_things"] [] := T.FLPick.bindsN fun _ _ _ _ _ _ us hl => match us, hl with | [_, _], _ => rfl
theorem Tx.bLFolded {K : PySem.W.Frag} {mg : Str → Option Value} (T : Tx K mg) : Binds K T.fdLFolded ["_law_script", "_law_size"] [] := T.FLFolded.bindsN fun _ _ _ _ _ _ us hl => match us, hl with | [_, _], _ => rfl
theorem Tx.bLSame {K : PySem.W.Frag} {mg : Str → Option Value} (T : Tx K mg) : Binds K T.fdLSame ["_law_found", "_law_due"] [] := T.FLSame.bindsN fun _ _ _ _ _ _ us hl => match us, hl with | [_, _], _ => rfl
theorem Tx.bLMarks {K : PySem.W.Frag} {mg : Str → Option Value} (T : Tx K mg) : Binds K T.fdLMarks ["_law_error"] [] := T.FLMarks.bindsN fun _ _ _ _ _ _ us hl => match us, hl with | [_], _ => rfl
theorem Tx.bLAll {K : PySem.W.Frag} {mg : Str → Option Value} (T : Tx K mg) : Binds K T.fdLAll ["_law_thing"] [] := T.FLAll.bindsN fun _ _ _ _ _ _ us hl => match us, hl with | [_], _ => rfl
theorem Tx.bLAllNamed {K : PySem.W.Frag} {mg : Str → Option Value} (T : Tx K mg) : Binds K T.fdLAllNamed ["_law_thing"] [] := T.FLAllNamed.bindsN fun _ _ _ _ _ _ us hl => match us, hl with | [_], _ => rfl
theorem Tx.bLWordsRight {K : PySem.W.Frag} {mg : Str → Option Value} (T : Tx K mg) : Binds K T.fdLWordsRight [] [] := T.FLWordsRight.bindsN fun _ _ _ _ _ _ us hl => match us, hl with | [], _ => rfl
theorem Tx.bLaw {K : PySem.W.Frag} {mg : Str → Option Value} (T : Tx K mg) : Binds K T.fdLaw ["_law_script"] [] := T.FLaw.bindsN fun _ _ _ _ _ _ us hl => match us, hl with | [_], _ => rfl
theorem Tx.bStartErrorInit {K : PySem.W.Frag} {mg : Str → Option Value} (T : Tx K mg) : Binds K T.fdStartErrorInit ["self", "what"] [] := T.FStartErrorInit.bindsN fun _ _ _ _ _ _ us hl => match us, hl with | [_, _], _ => rfl

end
section
variable {P : Program} {w : World} {K : PySem.W.Frag} {mg : Str → Option Value} {base : Heap}
theorem okLBox (T : Tx K mg) : FnOk P w K mg base CX0 1 (He.ga K "_law_box") T.fdLBox ["_law_script", "_law_k"] (spLBox K) := by
  have B := T.B
  refine T.FLBox.ok scLBox (fun vs H Q E h => ?_) (fun cdv A outer s H vs Q E hr h => ?_)
  · obtain ⟨a, ns, k, rfl, _⟩ := h
    rfl
  · obtain ⟨a, ns, k, rfl, hS, hk, q⟩ := h
    refine ⟨_, PSs.nox (pss_cons (ps_set (i := 2) scLBox.nd rfl (.inl rfl) pe_int)
        (pss_cons (ps_if (pt_cmpR op_lt (pv 1) (pe_callB call_len_seq (by rfl) B.b_len PySem.boot_len (pa_cons (pv 0) pa_nil)) (nomark _)) (pss_one (ps_set (i := 2) scLBox.nd rfl (.inl rfl) (pe_ix ix_list (pv 0) (pv 1) (fun _ _ => rfl)))) pss_nil)
        (pss_one (ps_ret (pe_lst (pa_cons (pe_op op_mul (pe_callB call_abs (by rfl) B.b_abs boot_abs (pa_cons (pv 2) pa_nil)) (pe_callTy call_int1 (by rfl) B.b_int PyProof.Rows.boot_int (pa_cons (pe_cmpR op_ge (pe_callB call_abs (by rfl) B.b_abs boot_abs (pa_cons (pv 2) pa_nil)) (pe_op op_pow pe_int pe_int) (nomark _)) pa_nil))) (pa_cons (pe_op op_add (pe_op op_add (pe_op op_mod (pv 2) pe_int) (pe_op op_mul pe_int (pv 1))) pe_int) (pa_cons pe_int pa_nil)))))))), ?_⟩
    have fin : ∀ c : Int, tRet (tLst (tCons (tOp (rI CMul fun i j => .int (i * j)) (tCB (fun xs H Q => ∃ i, xs = [.int i] ∧ Q (.int (if i < 0 then -i else i)) H) (tCons (tVar 2) tNil))
        (tCB (fun xs H Q => (∃ i, xs = [.int i] ∧ Q (.int i) H) ∨ ∃ k, xs = [.bl k] ∧ Q (.int (if k then 1 else 0)) H) (tCons (tOp (rI0 fun i j => .bl (decide (j ≤ i))) (tCB (fun xs H Q => ∃ i, xs = [.int i] ∧ Q (.int (if i < 0 then -i else i)) H) (tCons (tVar 2) tNil)) (tOp (rI CPow fun i j => .int (i ^ j.toNat)) (tC (.int 10)) (tC (.int 18)))) tNil)))
        (tCons (tOp (rI0 fun i j => .int (i + j)) (tOp (rI0 fun i j => .int (i + j)) (tOp (rI (fun _ j => 0 < j) fun i j => .int (i % j)) (tVar 2) (tC (.int 2147483629))) (tOp (rI CMul fun i j => .int (i * j)) (tC (.int 7919)) (tVar 1))) (tC (.int 11))) (tCons (tC (.int 0)) tNil))))
        { nx := fun _ H' => Q .non H', rt := Q } [some (.ref a), some (.int k), some (.int c)] H := by
      intro c
      have hb : ∀ b : Bool, (0 : Int) ≤ (if c < 0 then -c else c) * (if b = true then 1 else 0) := by
        intro b
        cases b <;> simp <;> split <;> omega
      have h1 := Int.emod_nonneg c (b := 2147483629) (by decide)
      have h2 := Int.emod_lt_of_pos c (b := 2147483629) (by decide)
      refine ⟨_, rfl, c, rfl, _, rfl, c, rfl, _, _, rfl, rfl, ⟨by decide, by decide, by decide⟩, _, _, rfl, rfl, .inr ⟨_, rfl, _, _, rfl, rfl, .inr ⟨?_, ?_⟩, ?_⟩⟩
      · exact bit_lo _
      · exact bit_hi _
      · refine ⟨_, rfl, _, _, rfl, rfl, (show (0 : Int) < 2147483629 by decide), _, rfl, _, _, rfl, rfl, .inl ⟨by decide, by decide⟩, _, _, rfl, rfl, _, _, rfl, rfl, by show 3 ≤ sizeLine; decide, fun p hp => ?_⟩
        exact q p _ _ hp (hb _) (by omega) (by omega)
    refine ⟨_, rfl, _, rfl, a, _, rfl, .inl hS, _, _, rfl, rfl, _, rfl, ite2 (fun e => ?_) (fun e => ?_)⟩
    · have hlt : k < ns.length := by
        have := of_decide_eq_true e
        rw [List.length_map] at this
        omega
      refine ⟨_, rfl, _, rfl, a, _, _, _, rfl, rfl, hS, at_of (j := k) (v := .int ns[k]) rfl (by rw [List.getElem?_map, List.getElem?_eq_getElem hlt]; rfl), ?_⟩
      exact fin _
    · exact fin _
theorem okLTake (T : Tx K mg) : FnOk P w K mg base CX0 1 (He.ga K "_law_take") T.fdLTake ["_law_box_here", "_law_size"] spLTake := by
  have B := T.B
  refine T.FLTake.ok scLTake (fun vs H Q E h => ?_) (fun cdv A outer s H vs Q E hr h => ?_)
  · obtain ⟨p, m, n, rfl, _⟩ := h
    rfl
  · obtain ⟨p, m, n, rfl, hB, hn, hm, hm2, q⟩ := h
    refine ⟨_, PSs.nox (pss_cons (ps_if (pt_cmpR op_gt (pe_ix ix_list (pv 0) pe_int (fun _ _ => rfl)) pe_int (nomark _)) (pss_cons (ps_set (i := 2) scLTake.nd rfl (.inl rfl) (pe_op op_mod (pe_ix ix_list (pv 0) pe_int (fun _ _ => rfl)) (pv 1)))
        (pss_cons (ps_asg (pe_op op_fdivW (pe_ix ix_list (pv 0) pe_int (fun _ _ => rfl)) (pv 1)) (pg_sub (pv 0) pe_int set_list))
        (pss_one (ps_ret (pv 2))))) pss_nil)
        (pss_cons (ps_asg (pe_op op_add (pe_ix ix_list (pv 0) pe_int (fun _ _ => rfl)) pe_int) (pg_sub (pv 0) pe_int set_list))
        (pss_cons (ps_set (i := 3) scLTake.nd rfl (.inl rfl) (pe_op op_mod (pe_op op_pow (pe_op op_add (pe_ix ix_list (pv 0) pe_int (fun _ _ => rfl)) (pe_op op_mul pe_int (pe_ix ix_list (pv 0) pe_int (fun _ _ => rfl)))) pe_int) pe_int))
        (pss_one (ps_ret (pe_op op_mod (pe_op op_fdiv (pe_op op_mod (pe_op op_add (pe_op op_mul (pv 3) (pe_op op_add (pe_op op_mod (pv 3) pe_int) pe_int)) (pe_op op_mul (pe_ix ix_list (pv 0) pe_int (fun _ _ => rfl)) pe_int)) pe_int) pe_int) (pv 1))))))), ?_⟩
    obtain ⟨x, y, z, hp, hx, hy, hy2, hz, hzn⟩ := hB
    have hm3 : m.natAbs < 340282366920938463463374607431768211456 := by omega
    refine ⟨_, rfl, p, _, 0, .int x, rfl, rfl, SqL.of hp, atI_nat (j := 0) rfl, _, _, rfl, rfl, _, rfl, ite2 (fun e => ?_) (fun e => ?_)⟩
    · refine ⟨_, rfl, p, _, 0, .int x, rfl, rfl, SqL.of hp, atI_nat (j := 0) rfl, _, rfl, _, _, rfl, rfl, hm, ?_⟩
      refine ⟨_, rfl, p, _, 0, .int x, rfl, rfl, SqL.of hp, atI_nat (j := 0) rfl, _, rfl, _, _, rfl, rfl, wide_div (b := 128) hm hm3 (by decide) (by decide), ?_⟩
      refine ⟨_, rfl, p, _, 0, 0, rfl, rfl, hp, rfl, _, rfl, ?_⟩
      exact q _ _ But.upd ⟨_, y, z, upd_same, Int.ediv_nonneg hx (Int.le_of_lt hm), hy, hy2, hz, by omega⟩ (Int.emod_nonneg _ (by omega)) (Int.emod_lt_of_pos _ hm)
    · refine ⟨_, rfl, p, _, 2, .int z, rfl, rfl, SqL.of hp, atI_nat (j := 2) rfl, _, _, rfl, rfl, _, rfl, p, _, 2, 2, rfl, rfl, hp, rfl, ?_⟩
      have hp2 : upd H p (.lst [.int x, .int y, .int (z + 1)]) p = some (.lst [.int x, .int y, .int (z + 1)]) := upd_same
      refine ⟨_, rfl, p, _, 1, .int y, rfl, rfl, SqL.of hp2, atI_nat (j := 1) rfl, _, rfl, p, _, 2, .int (z + 1), rfl, rfl, SqL.of hp2, atI_nat (j := 2) rfl, _, _, rfl, rfl, .inl ⟨by decide, by decide⟩, _, _, rfl, rfl, _, _, rfl, rfl, ⟨by decide, by decide, ?_⟩, _, _, rfl, rfl, (show (0 : Int) < 2147483647 by decide), ?_⟩
      · have : (y + 39373 * (z + 1)).natAbs < 18446744073709551616 := by omega
        exact this
      · refine ⟨_, rfl, _, rfl, _, _, rfl, rfl, (show (0 : Int) < 40009 by decide), _, _, rfl, rfl, _, _, rfl, rfl, .inr ⟨?_, ?_⟩, _, rfl, p, _, 2, .int (z + 1), rfl, rfl, SqL.of hp2, atI_nat (j := 2) rfl, _, _, rfl, rfl, .inr ⟨by decide, by decide⟩, _, _, rfl, rfl, _, _, rfl, rfl, (show (0 : Int) < 2147483629 by decide), _, _, rfl, rfl, ⟨by decide, by decide⟩, _, rfl, _, _, rfl, rfl, hm, ?_⟩
        · have h1 := Int.emod_nonneg ((y + 39373 * (z + 1)) ^ 5 % 2147483647) (b := 40009) (by decide)
          have : -18446744073709551616 < ((y + 39373 * (z + 1)) ^ 5 % 2147483647) % 40009 + 7 := by omega
          exact this
        · have h1 := Int.emod_lt_of_pos ((y + 39373 * (z + 1)) ^ 5 % 2147483647) (b := 40009) (by decide)
          have : ((y + 39373 * (z + 1)) ^ 5 % 2147483647) % 40009 + 7 < 18446744073709551616 := by omega
          exact this
        · exact q _ _ But.upd ⟨x, y, z + 1, hp2, hx, hy, hy2, by omega, by omega⟩ (Int.emod_nonneg _ (by omega)) (Int.emod_lt_of_pos _ hm)
end
section
variable {P : Program} {w : World} {K : PySem.W.Frag} {mg : Str → Option Value} {base : Heap}
theorem okLSame (T : Tx K mg) : ∀ n : Nat, FnOk P w K mg base CX0 n (He.ga K "_law_same") T.fdLSame ["_law_found", "_law_due"] (spLSame K n)
  | 0 => ⟨fun vs H Q E h => by obtain ⟨x, y, d, _, _, _, h, _, _⟩ := h; exact absurd h (Nat.not_lt_zero _), fun A outer s H args us vs Q E _ _ _ _ h => by obtain ⟨x, y, d, _, _, _, h, _, _⟩ := h; exact absurd h (Nat.not_lt_zero _)⟩
  | n + 1 => by
    have GLSame : FnOk P w K mg base CX0 n (He.ga K "_law_same") T.fdLSame ["_law_found", "_law_due"] (spLSame K n) := okLSame T n
    have B := T.B
    have bLSame := T.bLSame
    refine T.FLSame.ok scLSame (fun vs H Q E h => ?_) (fun cdv A outer s H vs Q E hr h => ?_)
    · obtain ⟨x, y, d, rfl, _⟩ := h
      rfl
    · obtain ⟨x, y, d, rfl, hx, hy, hd, hw, q⟩ := h
      refine ⟨_, PSs.nox (pss_cons (ps_if (pt_val (pe_callB call_isiT (by rfl) B.b_isinstance boot_isinstance (pa_cons (pv 1) (pa_cons (pe_tup (pa_cons (pe_bltn (v := .ty "list") (by rfl) B.b_list PyProof.Rows.boot_list rfl) (pa_cons (pe_bltn (v := .ty "tuple") (by rfl) B.b_tuple PyProof.Rows.boot_tuple rfl) pa_nil))) pa_nil)))) (pss_cons (ps_if (PW.pt (pw_or (pt_cmpR op_ne (pe_callB call_isi (by rfl) B.b_isinstance boot_isinstance (pa_cons (pv 0) (pa_cons (pe_bltn (v := .ty "list") (by rfl) B.b_list PyProof.Rows.boot_list rfl) pa_nil))) (pe_callB call_isi (by rfl) B.b_isinstance boot_isinstance (pa_cons (pv 1) (pa_cons (pe_bltn (v := .ty "list") (by rfl) B.b_list PyProof.Rows.boot_list rfl) pa_nil))) (nomark _)) (pw_or1 (pt_cmpR op_ne (pe_callB call_isi (by rfl) B.b_isinstance boot_isinstance (pa_cons (pv 0) (pa_cons (pe_bltn (v := .ty "tuple") (by rfl) B.b_tuple PyProof.Rows.boot_tuple rfl) pa_nil))) (pe_callB call_isi (by rfl) B.b_isinstance boot_isinstance (pa_cons (pv 1) (pa_cons (pe_bltn (v := .ty "tuple") (by rfl) B.b_tuple PyProof.Rows.boot_tuple rfl) pa_nil))) (nomark _))))) (pss_one (ps_ret pe_bl)) pss_nil)
        (pss_cons (ps_if (pt_cmpR op_ne (pe_callB call_len_seq (by rfl) B.b_len PySem.boot_len (pa_cons (pv 0) pa_nil)) (pe_callB call_len_seq (by rfl) B.b_len PySem.boot_len (pa_cons (pv 1) pa_nil)) (nomark _)) (pss_one (ps_ret pe_bl)) pss_nil)
        (pss_one (ps_ret (pe_callB (cr_all rfl) (by rfl) B.b_all boot_all (pa_cons (pe_lc (own := [("_law_one", 2), ("_law_two", 3)]) (g := gTup K 2 (gCons (gName 2) (gCons (gName 3) gNil))) (tt := tYes) (by rfl) scLSame.nd (RZ.pi_zipA (by rfl) B.b_zip (pa_cons (pv 0) (pa_cons (pv 1) pa_nil))) (blkOk_by (own := [("_law_one", 2), ("_law_two", 3)]) (N := ["_law_found", "_law_due", "_law_one", "_law_two"]) (sc := defScope sLSame) (by decide +kernel)) (fun _ _ _ _ _ => by exact (pg_tup rfl (pgs_cons (pg_name (i := 2) scLSame.nd rfl (Or.inl rfl)) (pgs_cons (pg_name (i := 3) scLSame.nd rfl (Or.inl rfl)) pgs_nil)))) (fun _ _ _ _ _ => pts_nil) (fun _ _ _ _ _ => (pe_call GLSame hr (by rfl) T.gLSame T.FLSame.kp bLSame .nil pass0 (pa_cons (pv 2) (pa_cons (pv 3) pa_nil))))) pa_nil)))))) pss_nil)
        (pss_cons (ps_if (PW.pt (pw_or (pt_cmpR op_isN (pv 1) pe_non (nomark _)) (pw_or1 (pt_val (pe_callB call_isi (by rfl) B.b_isinstance boot_isinstance (pa_cons (pv 1) (pa_cons (pe_bltn (v := .ty "str") (by rfl) B.b_str PyProof.Rows.boot_str rfl) pa_nil))))))) (pss_one (ps_ret (pe_and (pe_cmpR op_eq (pv 0) (pv 1) (nomark _)) (pe_one (pe_cmpR op_eq (pe_callB call_isi (by rfl) B.b_isinstance boot_isinstance (pa_cons (pv 0) (pa_cons (pe_bltn (v := .ty "str") (by rfl) B.b_str PyProof.Rows.boot_str rfl) pa_nil))) (pe_callB call_isi (by rfl) B.b_isinstance boot_isinstance (pa_cons (pv 1) (pa_cons (pe_bltn (v := .ty "str") (by rfl) B.b_str PyProof.Rows.boot_str rfl) pa_nil))) (nomark _)))))) pss_nil)
        (pss_one (ps_ret (pe_and (pe_callB call_isi (by rfl) B.b_isinstance boot_isinstance (pa_cons (pv 0) (pa_cons (pe_bltn (v := .ty "int") (by rfl) B.b_int PyProof.Rows.boot_int rfl) pa_nil))) (pe_and (pe_cmpR op_eq (pe_callB call_isi (by rfl) B.b_isinstance boot_isinstance (pa_cons (pv 0) (pa_cons (pe_bltn (v := .ty "bool") (by rfl) B.b_bool PyProof.Rows.boot_bool rfl) pa_nil))) (pe_callB call_isi (by rfl) B.b_isinstance boot_isinstance (pa_cons (pv 1) (pa_cons (pe_bltn (v := .ty "bool") (by rfl) B.b_bool PyProof.Rows.boot_bool rfl) pa_nil))) (nomark _)) (pe_one (pe_cmpR op_eq (pv 0) (pv 1) (nomark _))))))))), ?_⟩
      refine ⟨_, rfl, (by show 2 ≤ sizeLine; decide), fun tp htp => ?_⟩
      have s1 : Same H (upd H tp (.tup [.ty "list", .ty "tuple"])) := same_new htp
      have hx1 := dp_same s1 d x hx
      have hy1 := dp_same s1 d y hy
      cases d with
      | none =>
        cases hx1; cases hy1
        refine ⟨_, tp, _, _, _, _, rfl, upd_same, cls2, .base .non, kit_none K _ (by decide +kernel) (by decide +kernel), _, rfl, iteF ?_⟩
        refine ⟨_, rfl, rfl, _, rfl, iteT ?_⟩
        refine iteT ?_
        refine ⟨_, rfl, _, rfl, rfl, _, rfl, iteT ?_⟩
        refine ⟨_, rfl, _, _, _, _, _, rfl, .ty _, .base .non, kit_ty (r := false) (by decide +kernel), _, rfl, _, _, _, _, _, rfl, .ty _, .base .non, kit_ty (r := false) (by decide +kernel), rfl, ?_⟩
        exact q _ s1
      | bool z =>
        cases hx1; cases hy1
        refine ⟨_, tp, _, _, _, _, rfl, upd_same, cls2, .base (.bl z), kit_none K _ (by decide +kernel) (by decide +kernel), _, rfl, iteF ?_⟩
        refine ⟨_, rfl, rfl, _, rfl, iteF ?_⟩
        refine ⟨_, rfl, _, _, _, _, _, rfl, .ty _, .base (.bl z), kit_ty (r := false) (by decide +kernel), _, rfl, iteF ?_⟩
        refine ⟨_, rfl, _, _, _, _, _, rfl, .ty _, .base (.bl z), kit_ty (r := true) (by decide +kernel), _, rfl, iteT ?_⟩
        refine ⟨_, rfl, _, _, _, _, _, rfl, .ty _, .base (.bl z), kit_ty (r := true) (by decide +kernel), _, rfl, _, _, _, _, _, rfl, .ty _, .base (.bl z), kit_ty (r := true) (by decide +kernel), rfl, _, rfl, iteT ?_⟩
        refine ⟨_, rfl, _, rfl, rfl, ?_⟩
        rw [decide_eq_true rfl]
        exact q _ s1
      | int z =>
        cases hx1; cases hy1
        refine ⟨_, tp, _, _, _, _, rfl, upd_same, cls2, .base (.int z), kit_none K _ (by decide +kernel) (by decide +kernel), _, rfl, iteF ?_⟩
        refine ⟨_, rfl, rfl, _, rfl, iteF ?_⟩
        refine ⟨_, rfl, _, _, _, _, _, rfl, .ty _, .base (.int z), kit_ty (r := false) (by decide +kernel), _, rfl, iteF ?_⟩
        refine ⟨_, rfl, _, _, _, _, _, rfl, .ty _, .base (.int z), kit_ty (r := true) (by decide +kernel), _, rfl, iteT ?_⟩
        refine ⟨_, rfl, _, _, _, _, _, rfl, .ty _, .base (.int z), kit_ty (r := false) (by decide +kernel), _, rfl, _, _, _, _, _, rfl, .ty _, .base (.int z), kit_ty (r := false) (by decide +kernel), rfl, _, rfl, iteT ?_⟩
        refine ⟨_, rfl, _, rfl, rfl, ?_⟩
        rw [decide_eq_true rfl]
        exact q _ s1
      | str z =>
        cases hx1; cases hy1
        refine ⟨_, tp, _, _, _, _, rfl, upd_same, cls2, .base (.str z), kit_none K _ (by decide +kernel) (by decide +kernel), _, rfl, iteF ?_⟩
        refine ⟨_, rfl, rfl, _, rfl, iteF ?_⟩
        refine ⟨_, rfl, _, _, _, _, _, rfl, .ty _, .base (.str z), kit_ty (r := true) (by decide +kernel), _, rfl, iteT ?_⟩
        refine ⟨_, rfl, _, rfl, rfl, _, rfl, ?_⟩
        rw [decide_eq_true rfl]
        refine iteT ?_
        refine ⟨_, rfl, _, _, _, _, _, rfl, .ty _, .base (.str z), kit_ty (r := true) (by decide +kernel), _, rfl, _, _, _, _, _, rfl, .ty _, .base (.str z), kit_ty (r := true) (by decide +kernel), rfl, ?_⟩
        exact q _ s1
      | list ds =>
        cases hx1 with
        | @lst a xs _ ha da =>
        cases hy1 with
        | @lst c ys _ hc dc =>
        refine ⟨_, tp, _, _, _, _, rfl, upd_same, cls2, ty_list hc, kit_list K, _, rfl, iteT ?_⟩
        refine ⟨_, rfl, _, _, _, _, _, rfl, .ty _, ty_list ha, kit_ty (r := true) (by decide +kernel), _, rfl, _, _, _, _, _, rfl, .ty _, ty_list hc, kit_ty (r := true) (by decide +kernel), rfl, _, rfl, iteF ?_⟩
        refine ⟨_, rfl, _, _, _, _, _, rfl, .ty _, ty_list ha, kit_ty (r := false) (by decide +kernel), _, rfl, _, _, _, _, _, rfl, .ty _, ty_list hc, kit_ty (r := false) (by decide +kernel), rfl, _, rfl, iteF ?_⟩
        have hl : xs.length = ys.length := (dpa_len da).trans (dpa_len dc).symm
        refine ⟨_, rfl, a, xs, rfl, .inl ha, _, rfl, c, ys, rfl, .inl hc, rfl, _, rfl, ?_⟩
        rw [decide_eq_true (by rw [hl])]
        refine iteF ?_
        refine ⟨_, rfl, _, rfl, a, c, xs, ys, rfl, .inl ⟨ha, hc, fun D hD => ?_⟩⟩
        refine lc_it (walk_zip (n := xs.length) (by omega)) (fun i G => Same (upd H tp (.tup [.ty "list", .ty "tuple"])) G ∧ G D = some (.lst (List.replicate i (.bl true)))) ⟨same_new hD, upd_same⟩ (fun i G _ h => ⟨Same.seq h.1 ha, Same.seq h.1 hc⟩) ?_ ?_
        · intro i v G G1 hi hP hy
          obtain ⟨sG, hDG⟩ := hP
          obtain ⟨T, u, v2, rfl, hT, rfl, hu, hv⟩ := hy
          obtain ⟨d1, e1, p1⟩ := dpa_at da hu
          obtain ⟨d2, e2, p2⟩ := dpa_at dc hv
          have ed : d1 = d2 := Option.some.inj (e1.symm.trans e2)
          subst ed
          have sT : Same (upd H tp (.tup [.ty "list", .ty "tuple"])) (upd G T (.tup [u, v2])) := sG.trans (same_new hT)
          have hdep : dep d1 < n := by
            have h1 := deps_at e1
            have h2 : dep.deps ds + 1 < n + 1 := hd
            omega
          have hwid : wid d1 ≤ 1000000 := by
            have h1 := wids_at e1
            have h2 : max ds.length (wid.wids ds) ≤ 1000000 := hw
            omega
          refine ⟨T, [u, v2], rfl, .inl (.inl upd_same), rfl, u, [v2], rfl, v2, [], rfl, rfl, ?_⟩
          refine ⟨rfl, ?_⟩
          unfold tYes
          refine iteT ?_
          refine ⟨_, rfl, _, rfl, u, v2, d1, rfl, dp_same sT _ _ p1, dp_same sT _ _ p2, hdep, hwid, fun G2 s2 => ?_⟩
          have hD2 : G2 D = some (.lst (List.replicate i (.bl true))) := s2 _ _ (same_new hT _ _ hDG)
          refine ⟨_, hD2, ?_, ?_, ?_⟩
          · rw [List.length_replicate]
            exact small6 (by have h1 : max ds.length (wid.wids ds) ≤ 1000000 := hw; have h2 := dpa_len da; omega)
          · intro b o e
            have hb : b ≠ D := ne_of_none e hD
            rw [upd_ne hb]
            exact s2 _ _ (sT _ _ e)
          · rw [upd_same, List.replicate_succ']
        · intro G hP
          obtain ⟨sG, hDG⟩ := hP
          have eb : List.replicate xs.length (V.bl true) = (List.replicate xs.length true).map V.bl := by rw [List.map_replicate]
          rw [eb] at hDG
          refine ⟨D, _, rfl, .inl (.inl hDG), ?_⟩
          rw [all_rep]
          exact q _ (s1.trans sG)
      | tuple ds =>
        cases hx1 with
        | @tup a xs _ ha da =>
        cases hy1 with
        | @tup c ys _ hc dc =>
        refine ⟨_, tp, _, _, _, _, rfl, upd_same, cls2, ty_tup hc, kit_tup K, _, rfl, iteT ?_⟩
        refine ⟨_, rfl, _, _, _, _, _, rfl, .ty _, ty_tup ha, kit_ty (r := false) (by decide +kernel), _, rfl, _, _, _, _, _, rfl, .ty _, ty_tup hc, kit_ty (r := false) (by decide +kernel), rfl, _, rfl, iteF ?_⟩
        refine ⟨_, rfl, _, _, _, _, _, rfl, .ty _, ty_tup ha, kit_ty (r := true) (by decide +kernel), _, rfl, _, _, _, _, _, rfl, .ty _, ty_tup hc, kit_ty (r := true) (by decide +kernel), rfl, _, rfl, iteF ?_⟩
        have hl : xs.length = ys.length := (dpa_len da).trans (dpa_len dc).symm
        refine ⟨_, rfl, a, xs, rfl, .inr ha, _, rfl, c, ys, rfl, .inr hc, rfl, _, rfl, ?_⟩
        rw [decide_eq_true (by rw [hl])]
        refine iteF ?_
        refine ⟨_, rfl, _, rfl, a, c, xs, ys, rfl, .inr ⟨ha, hc, fun D hD => ?_⟩⟩
        refine lc_it (walk_zipT hl) (fun i G => Same (upd H tp (.tup [.ty "list", .ty "tuple"])) G ∧ G D = some (.lst (List.replicate i (.bl true)))) ⟨same_new hD, upd_same⟩ (fun i G _ h => ⟨seqT_same h.1 ha, seqT_same h.1 hc⟩) ?_ ?_
        · intro i v G G1 hi hP hy
          obtain ⟨sG, hDG⟩ := hP
          obtain ⟨T, u, v2, rfl, hT, rfl, hu, hv⟩ := hy
          obtain ⟨d1, e1, p1⟩ := dpa_at da hu
          obtain ⟨d2, e2, p2⟩ := dpa_at dc hv
          have ed : d1 = d2 := Option.some.inj (e1.symm.trans e2)
          subst ed
          have sT : Same (upd H tp (.tup [.ty "list", .ty "tuple"])) (upd G T (.tup [u, v2])) := sG.trans (same_new hT)
          have hdep : dep d1 < n := by
            have h1 := deps_at e1
            have h2 : dep.deps ds + 1 < n + 1 := hd
            omega
          have hwid : wid d1 ≤ 1000000 := by
            have h1 := wids_at e1
            have h2 : max ds.length (wid.wids ds) ≤ 1000000 := hw
            omega
          refine ⟨T, [u, v2], rfl, .inl (.inl upd_same), rfl, u, [v2], rfl, v2, [], rfl, rfl, ?_⟩
          refine ⟨rfl, ?_⟩
          unfold tYes
          refine iteT ?_
          refine ⟨_, rfl, _, rfl, u, v2, d1, rfl, dp_same sT _ _ p1, dp_same sT _ _ p2, hdep, hwid, fun G2 s2 => ?_⟩
          have hD2 : G2 D = some (.lst (List.replicate i (.bl true))) := s2 _ _ (same_new hT _ _ hDG)
          refine ⟨_, hD2, ?_, ?_, ?_⟩
          · rw [List.length_replicate]
            exact small6 (by have h1 : max ds.length (wid.wids ds) ≤ 1000000 := hw; have h2 := dpa_len da; omega)
          · intro b o e
            have hb : b ≠ D := ne_of_none e hD
            rw [upd_ne hb]
            exact s2 _ _ (sT _ _ e)
          · rw [upd_same, List.replicate_succ']
        · intro G hP
          obtain ⟨sG, hDG⟩ := hP
          have eb : List.replicate xs.length (V.bl true) = (List.replicate xs.length true).map V.bl := by rw [List.map_replicate]
          rw [eb] at hDG
          refine ⟨D, _, rfl, .inl (.inl hDG), ?_⟩
          rw [all_rep]
          exact q _ (s1.trans sG)
      | dict ds => cases hx1

end
section
variable {P : Program} {w : World} {K : PySem.W.Frag} {mg : Str → Option Value} {base : Heap}
theorem kb_init (T : Tx K mg) : KBn K T.fdStartErrorInit ["self", "what"] 1 ["what"] (fun us ws => us ++ ws) (fun vs zs => vs ++ zs) :=
  kw_plain T.FStartErrorInit 1 ["what"] (fun us ws => us ++ ws) (fun a b => a.append b) fun kV doc pm an cdv ct us ws h1 h2 => match us, ws, h1, h2 with
    | [u], [w], _, _ => rfl
theorem okStartErrorInit (T : Tx K mg) : FnOk P w K mg base CX0 1 (He.ma K (He.ga K "StartError") "__init__") T.fdStartErrorInit ["self", "what"] (spInitE K) := by
  have B := T.B
  refine T.FStartErrorInit.ok scStartErrorInit (fun vs H Q E h => ?_) (fun cdv A outer s H vs Q E hr h => ?_)
  · obtain ⟨a, C, fI, v, rfl, _⟩ := h
    rfl
  · obtain ⟨a, C, fI, v, rfl, ha, T1, q⟩ := h
    refine ⟨_, PSs.nox (pss_one (ps_ost (pv 0) (pv 1))), ?_⟩
    refine ⟨_, rfl, _, rfl, a, C, rfl, T1.ox, T1.wh, .inl ⟨ha, fun dx hd ne => ?_⟩⟩
    exact q dx hd ne
end
section
variable {P : Program} {w : World} {K : PySem.W.Frag} {mg : Str → Option Value} {base : Heap}
/-! the law's own -/
def E18 : List Str := ["NoName", "NoRow", "BadMixing", "NoBoard", "BadLog", "BadStep", "BadHand", "BadMachine", "NotYet", "Fixed", "BadText", "BadLine", "Known", "Unknown", "TooMany", "BadDeed", "NoNumber", "NoPacket"]
def marksL (c : Str) : List Bool := E18.map fun e => decide (e = c) || decide (e = ("StartError" : Str))
def hits (bs : List Bool) (j : Nat) : List Int := ((List.range j).filter fun i => bs.getD i false).map Int.ofNat
theorem hits_one : ∀ i, i < 18 → hits (marksL (E18.getD i Str.empty)) 18 = [(i : Int)] := by decide +kernel
theorem hits_root : hits (marksL "StartError") 18 = [] := by decide +kernel
theorem hits_succ (bs : List Bool) (j : Nat) : hits bs (j + 1) = hits bs j ++ (if bs.getD j false = true then [(j : Int)] else []) := by
  unfold hits
  rw [List.range_succ, List.filter_append, List.map_append]
  congr 1
  cases h : bs.getD j false with
  | true => simp only [List.filter, h, if_true, List.map]; rfl
  | false => simp only [List.filter, h, Bool.false_eq_true, if_false, List.map]
theorem e18_in : ∀ i, i < 18 → E18.getD i Str.empty ∈ ERRS := by decide +kernel
/-- errors of these classes, one behind the other, that bear x -/
def Errs (K : PySem.W.Frag) (G : Hp) (x : V) : List Addr → List Str → Prop
  | [], [] => True
  | a :: as, c :: cs => ErrAt G a (He.ga K c) x ∧ Errs K G x as cs
  | _, _ => False
theorem errs_at {K : PySem.W.Frag} {G : Hp} {x : V} : ∀ {as : List Addr} {cs : List Str} {i : Nat} {a : Addr}, Errs K G x as cs → as[i]? = some a → ErrAt G a (He.ga K (cs.getD i Str.empty)) x ∧ i < cs.length
  | [], [], i, a, _, h => by simp at h
  | [], _ :: _, i, a, h, _ => h.elim
  | _ :: _, [], i, a, h, _ => h.elim
  | b :: as, c :: cs, 0, a, h, e => by
    have z : b = a := Option.some.inj e
    subst z
    exact ⟨h.1, Nat.succ_pos _⟩
  | b :: as, c :: cs, i + 1, a, h, e => by
    obtain ⟨h1, h2⟩ := errs_at (i := i) h.2 e
    exact ⟨h1, Nat.succ_lt_succ h2⟩
theorem errs_same {K : PySem.W.Frag} {G G2 : Hp} {x : V} (s : Same G G2) : ∀ {as : List Addr} {cs : List Str}, Errs K G x as cs → Errs K G2 x as cs
  | [], [], _ => trivial
  | [], _ :: _, h => h.elim
  | _ :: _, [], h => h.elim
  | b :: as, c :: cs, h => ⟨h.1.same s, errs_same s h.2⟩
def spLPick : Sp := fun vs H Q _ => ∃ (p l : Addr) (xs : List V) (n : Int), vs = [.ref p, .ref l] ∧ Box H p n ∧ n < 1000000 ∧ l ≠ p ∧ H l = some (.lst xs) ∧ 0 < xs.length ∧ xs.length < 1000 ∧ ∀ v G, v ∈ xs → But p H G → Box G p (n + 1) → Q v G
def spLMarks (K : PySem.W.Frag) : Sp := fun vs H Q _ => ∃ (a : Addr) (c : Str) (v : V), vs = [.ref a] ∧ c ∈ ERRS ∧ ErrAt H a (He.ga K c) v ∧ ∀ l G, Same H G → G l = some (.lst ((hits (marksL c) 18).map V.int)) → Q (.ref l) G
def spLAll (K : PySem.W.Frag) : Sp := fun vs H Q _ => ∃ x : V, vs = [x] ∧ ∀ (l : Addr) (as : List Addr) (G : Hp), Same H G → G l = some (.lst (as.map V.ref)) → Errs K G x as E18 → Q (.ref l) G
theorem okLPick (T : Tx K mg) : FnOk P w K mg base CX0 2 (He.ga K "_law_pick") T.fdLPick ["_law_box_here", "_law_things"] spLPick := by
  have B := T.B
  have GLTake : FnOk P w K mg base CX0 1 (He.ga K "_law_take") T.fdLTake ["_law_box_here", "_law_size"] spLTake := okLTake T
  have bLTake := T.bLTake
  refine T.FLPick.ok scLPick (fun vs H Q E h => ?_) (fun cdv A outer s H vs Q E hr h => ?_)
  · obtain ⟨p, l, xs, n, rfl, _⟩ := h
    rfl
  · obtain ⟨p, l, xs, n, rfl, hB, hn, nl, hl, hx, hx2, q⟩ := h
    refine ⟨_, PSs.nox (pss_one (ps_ret (pe_ix ix_list (pv 1) (pe_call GLTake (hr.mono (by decide)) (by rfl) T.gLTake T.FLTake.kp bLTake .nil pass0 (pa_cons (pv 0) (pa_cons (pe_callB call_len_seq (by rfl) B.b_len PySem.boot_len (pa_cons (pv 1) pa_nil)) pa_nil))) (fun _ _ => rfl)))), ?_⟩
    refine ⟨_, rfl, _, rfl, _, rfl, l, xs, rfl, .inl (SqL.of hl), p, xs.length, n, rfl, hB, by omega, by omega, by omega, fun r G b1 hB1 r0 r1 => ?_⟩
    obtain ⟨v, ev, mv⟩ := atI_some (xs := xs) r0 r1
    exact ⟨l, _, r, v, rfl, rfl, SqL.of (b1 _ _ hl nl), ev, q v G mv b1 hB1⟩
theorem okLAll (T : Tx K mg) : FnOk P w K mg base CX0 3 (He.ga K "_law_all") T.fdLAll ["_law_thing"] (spLAll K) := by
  have B := T.B
  have GStartErrorInit : FnOk P w K mg base CX0 1 (He.ma K (He.ga K "StartError") "__init__") T.fdStartErrorInit ["self", "what"] (spInitE K) := okStartErrorInit T
  have bStartErrorInit := T.bStartErrorInit
  have bStartErrorInit := T.bStartErrorInit
  refine T.FLAll.ok scLAll (fun vs H Q E h => ?_) (fun cdv A outer s H vs Q E hr h => ?_)
  · obtain ⟨x, rfl, _⟩ := h
    rfl
  · obtain ⟨x, rfl, q⟩ := h
    refine ⟨_, PSs.nox (pss_cons (ps_set (i := 1) scLAll.nd rfl (.inl rfl) (pe_lst (pa_cons (pe_mkE (err_cl T.er (c := "NoName") (by decide +kernel)) GStartErrorInit (hr.mono (by decide)) bStartErrorInit (by rfl) T.gNoName (pa_cons (pv 0) pa_nil)) (pa_cons (pe_mkE (err_cl T.er (c := "NoRow") (by decide +kernel)) GStartErrorInit (hr.mono (by decide)) bStartErrorInit (by rfl) T.gNoRow (pa_cons (pv 0) pa_nil)) (pa_cons (pe_mkE (err_cl T.er (c := "BadMixing") (by decide +kernel)) GStartErrorInit (hr.mono (by decide)) bStartErrorInit (by rfl) T.gBadMixing (pa_cons (pv 0) pa_nil)) (pa_cons (pe_mkE (err_cl T.er (c := "NoBoard") (by decide +kernel)) GStartErrorInit (hr.mono (by decide)) bStartErrorInit (by rfl) T.gNoBoard (pa_cons (pv 0) pa_nil)) (pa_cons (pe_mkE (err_cl T.er (c := "BadLog") (by decide +kernel)) GStartErrorInit (hr.mono (by decide)) bStartErrorInit (by rfl) T.gBadLog (pa_cons (pv 0) pa_nil)) (pa_cons (pe_mkE (err_cl T.er (c := "BadStep") (by decide +kernel)) GStartErrorInit (hr.mono (by decide)) bStartErrorInit (by rfl) T.gBadStep (pa_cons (pv 0) pa_nil)) pa_nil))))))))
        (pss_cons (ps_set (i := 1) scLAll.nd rfl (.inl rfl) (pe_op op_cat (pv 1) (pe_lst (pa_cons (pe_mkE (err_cl T.er (c := "BadHand") (by decide +kernel)) GStartErrorInit (hr.mono (by decide)) bStartErrorInit (by rfl) T.gBadHand (pa_cons (pv 0) pa_nil)) (pa_cons (pe_mkE (err_cl T.er (c := "BadMachine") (by decide +kernel)) GStartErrorInit (hr.mono (by decide)) bStartErrorInit (by rfl) T.gBadMachine (pa_cons (pv 0) pa_nil)) (pa_cons (pe_mkE (err_cl T.er (c := "NotYet") (by decide +kernel)) GStartErrorInit (hr.mono (by decide)) bStartErrorInit (by rfl) T.gNotYet (pa_cons (pv 0) pa_nil)) (pa_cons (pe_mkE (err_cl T.er (c := "Fixed") (by decide +kernel)) GStartErrorInit (hr.mono (by decide)) bStartErrorInit (by rfl) T.gFixed (pa_cons (pv 0) pa_nil)) (pa_cons (pe_mkE (err_cl T.er (c := "BadText") (by decide +kernel)) GStartErrorInit (hr.mono (by decide)) bStartErrorInit (by rfl) T.gBadText (pa_cons (pv 0) pa_nil)) (pa_cons (pe_mkE (err_cl T.er (c := "BadLine") (by decide +kernel)) GStartErrorInit (hr.mono (by decide)) bStartErrorInit (by rfl) T.gBadLine (pa_cons (pv 0) pa_nil)) pa_nil)))))))))
        (pss_one (ps_ret (pe_op op_cat (pv 1) (pe_lst (pa_cons (pe_mkE (err_cl T.er (c := "Known") (by decide +kernel)) GStartErrorInit (hr.mono (by decide)) bStartErrorInit (by rfl) T.gKnown (pa_cons (pv 0) pa_nil)) (pa_cons (pe_mkE (err_cl T.er (c := "Unknown") (by decide +kernel)) GStartErrorInit (hr.mono (by decide)) bStartErrorInit (by rfl) T.gUnknown (pa_cons (pv 0) pa_nil)) (pa_cons (pe_mkE (err_cl T.er (c := "TooMany") (by decide +kernel)) GStartErrorInit (hr.mono (by decide)) bStartErrorInit (by rfl) T.gTooMany (pa_cons (pv 0) pa_nil)) (pa_cons (pe_mkE (err_cl T.er (c := "BadDeed") (by decide +kernel)) GStartErrorInit (hr.mono (by decide)) bStartErrorInit (by rfl) T.gBadDeed (pa_cons (pv 0) pa_nil)) (pa_cons (pe_mkE (err_cl T.er (c := "NoNumber") (by decide +kernel)) GStartErrorInit (hr.mono (by decide)) bStartErrorInit (by rfl) T.gNoNumber (pa_cons (pv 0) pa_nil)) (pa_cons (pe_mkE (err_cl T.er (c := "NoPacket") (by decide +kernel)) GStartErrorInit (hr.mono (by decide)) bStartErrorInit (by rfl) T.gNoPacket (pa_cons (pv 0) pa_nil)) pa_nil)))))))))))), ?_⟩
    refine ⟨_, rfl, _, rfl, fun a1 G1 n1 s1 e1 => ?_⟩
    refine ⟨_, rfl, _, rfl, fun a2 G2 n2 s2 e2 => ?_⟩
    refine ⟨_, rfl, _, rfl, fun a3 G3 n3 s3 e3 => ?_⟩
    refine ⟨_, rfl, _, rfl, fun a4 G4 n4 s4 e4 => ?_⟩
    refine ⟨_, rfl, _, rfl, fun a5 G5 n5 s5 e5 => ?_⟩
    refine ⟨_, rfl, _, rfl, fun a6 G6 n6 s6 e6 => ?_⟩
    refine ⟨(by show 6 ≤ sizeLine; decide), fun m0 hm0 => ?_⟩
    have u0 := same_new (o := .lst [.ref a1, .ref a2, .ref a3, .ref a4, .ref a5, .ref a6]) hm0
    refine ⟨_, rfl, ?_⟩
    refine ⟨_, rfl, _, rfl, fun a7 G7 n7 s7 e7 => ?_⟩
    refine ⟨_, rfl, _, rfl, fun a8 G8 n8 s8 e8 => ?_⟩
    refine ⟨_, rfl, _, rfl, fun a9 G9 n9 s9 e9 => ?_⟩
    refine ⟨_, rfl, _, rfl, fun a10 G10 n10 s10 e10 => ?_⟩
    refine ⟨_, rfl, _, rfl, fun a11 G11 n11 s11 e11 => ?_⟩
    refine ⟨_, rfl, _, rfl, fun a12 G12 n12 s12 e12 => ?_⟩
    refine ⟨(by show 6 ≤ sizeLine; decide), fun m1 hm1 => ?_⟩
    have u1 := same_new (o := .lst [.ref a7, .ref a8, .ref a9, .ref a10, .ref a11, .ref a12]) hm1
    refine ⟨m0, m1, _, _, rfl, rfl, (s7.trans (s8.trans (s9.trans (s10.trans (s11.trans (s12.trans u1)))))) _ _ upd_same, upd_same, (by show 12 ≤ sizeLine; decide), fun l1 hl1 => ?_⟩
    have v1 := same_new (o := .lst [.ref a1, .ref a2, .ref a3, .ref a4, .ref a5, .ref a6, .ref a7, .ref a8, .ref a9, .ref a10, .ref a11, .ref a12]) hl1
    refine ⟨_, rfl, ?_⟩
    refine ⟨_, rfl, _, rfl, fun a13 G13 n13 s13 e13 => ?_⟩
    refine ⟨_, rfl, _, rfl, fun a14 G14 n14 s14 e14 => ?_⟩
    refine ⟨_, rfl, _, rfl, fun a15 G15 n15 s15 e15 => ?_⟩
    refine ⟨_, rfl, _, rfl, fun a16 G16 n16 s16 e16 => ?_⟩
    refine ⟨_, rfl, _, rfl, fun a17 G17 n17 s17 e17 => ?_⟩
    refine ⟨_, rfl, _, rfl, fun a18 G18 n18 s18 e18 => ?_⟩
    refine ⟨(by show 6 ≤ sizeLine; decide), fun m2 hm2 => ?_⟩
    have u2 := same_new (o := .lst [.ref a13, .ref a14, .ref a15, .ref a16, .ref a17, .ref a18]) hm2
    refine ⟨l1, m2, _, _, rfl, rfl, (s13.trans (s14.trans (s15.trans (s16.trans (s17.trans (s18.trans u2)))))) _ _ upd_same, upd_same, (by show 18 ≤ sizeLine; decide), fun l2 hl2 => ?_⟩
    have v2 := same_new (o := .lst [.ref a1, .ref a2, .ref a3, .ref a4, .ref a5, .ref a6, .ref a7, .ref a8, .ref a9, .ref a10, .ref a11, .ref a12, .ref a13, .ref a14, .ref a15, .ref a16, .ref a17, .ref a18]) hl2
    refine q l2 [a1, a2, a3, a4, a5, a6, a7, a8, a9, a10, a11, a12, a13, a14, a15, a16, a17, a18] _ (s1.trans (s2.trans (s3.trans (s4.trans (s5.trans (s6.trans (u0.trans (s7.trans (s8.trans (s9.trans (s10.trans (s11.trans (s12.trans (u1.trans (v1.trans (s13.trans (s14.trans (s15.trans (s16.trans (s17.trans (s18.trans (u2.trans v2)))))))))))))))))))))) upd_same ⟨e1.same (s2.trans (s3.trans (s4.trans (s5.trans (s6.trans (u0.trans (s7.trans (s8.trans (s9.trans (s10.trans (s11.trans (s12.trans (u1.trans (v1.trans (s13.trans (s14.trans (s15.trans (s16.trans (s17.trans (s18.trans (u2.trans v2))))))))))))))))))))), e2.same (s3.trans (s4.trans (s5.trans (s6.trans (u0.trans (s7.trans (s8.trans (s9.trans (s10.trans (s11.trans (s12.trans (u1.trans (v1.trans (s13.trans (s14.trans (s15.trans (s16.trans (s17.trans (s18.trans (u2.trans v2)))))))))))))))))))), e3.same (s4.trans (s5.trans (s6.trans (u0.trans (s7.trans (s8.trans (s9.trans (s10.trans (s11.trans (s12.trans (u1.trans (v1.trans (s13.trans (s14.trans (s15.trans (s16.trans (s17.trans (s18.trans (u2.trans v2))))))))))))))))))), e4.same (s5.trans (s6.trans (u0.trans (s7.trans (s8.trans (s9.trans (s10.trans (s11.trans (s12.trans (u1.trans (v1.trans (s13.trans (s14.trans (s15.trans (s16.trans (s17.trans (s18.trans (u2.trans v2)))))))))))))))))), e5.same (s6.trans (u0.trans (s7.trans (s8.trans (s9.trans (s10.trans (s11.trans (s12.trans (u1.trans (v1.trans (s13.trans (s14.trans (s15.trans (s16.trans (s17.trans (s18.trans (u2.trans v2))))))))))))))))), e6.same (u0.trans (s7.trans (s8.trans (s9.trans (s10.trans (s11.trans (s12.trans (u1.trans (v1.trans (s13.trans (s14.trans (s15.trans (s16.trans (s17.trans (s18.trans (u2.trans v2)))))))))))))))), e7.same (s8.trans (s9.trans (s10.trans (s11.trans (s12.trans (u1.trans (v1.trans (s13.trans (s14.trans (s15.trans (s16.trans (s17.trans (s18.trans (u2.trans v2)))))))))))))), e8.same (s9.trans (s10.trans (s11.trans (s12.trans (u1.trans (v1.trans (s13.trans (s14.trans (s15.trans (s16.trans (s17.trans (s18.trans (u2.trans v2))))))))))))), e9.same (s10.trans (s11.trans (s12.trans (u1.trans (v1.trans (s13.trans (s14.trans (s15.trans (s16.trans (s17.trans (s18.trans (u2.trans v2)))))))))))), e10.same (s11.trans (s12.trans (u1.trans (v1.trans (s13.trans (s14.trans (s15.trans (s16.trans (s17.trans (s18.trans (u2.trans v2))))))))))), e11.same (s12.trans (u1.trans (v1.trans (s13.trans (s14.trans (s15.trans (s16.trans (s17.trans (s18.trans (u2.trans v2)))))))))), e12.same (u1.trans (v1.trans (s13.trans (s14.trans (s15.trans (s16.trans (s17.trans (s18.trans (u2.trans v2))))))))), e13.same (s14.trans (s15.trans (s16.trans (s17.trans (s18.trans (u2.trans v2)))))), e14.same (s15.trans (s16.trans (s17.trans (s18.trans (u2.trans v2))))), e15.same (s16.trans (s17.trans (s18.trans (u2.trans v2)))), e16.same (s17.trans (s18.trans (u2.trans v2))), e17.same (s18.trans (u2.trans v2)), e18.same (u2.trans v2), trivial⟩
theorem okLAllNamed (T : Tx K mg) : FnOk P w K mg base CX0 3 (He.ga K "_law_all_named") T.fdLAllNamed ["_law_thing"] (spLAll K) := by
  have B := T.B
  have GStartErrorInit : FnOk P w K mg base CX0 1 (He.ma K (He.ga K "StartError") "__init__") T.fdStartErrorInit ["self", "what"] (spInitE K) := okStartErrorInit T
  have bStartErrorInit := T.bStartErrorInit
  have kStartErrorInit := kb_init T
  refine T.FLAllNamed.ok scLAllNamed (fun vs H Q E h => ?_) (fun cdv A outer s H vs Q E hr h => ?_)
  · obtain ⟨x, rfl, _⟩ := h
    rfl
  · obtain ⟨x, rfl, q⟩ := h
    refine ⟨_, PSs.nox (pss_cons (ps_set (i := 1) scLAllNamed.nd rfl (.inl rfl) (pe_lst (pa_cons (pe_mkEK (err_cl T.er (c := "NoName") (by decide +kernel)) GStartErrorInit (hr.mono (by decide)) kStartErrorInit (by rfl) T.gNoName (pk_cons (pv 0) pk_nil)) (pa_cons (pe_mkEK (err_cl T.er (c := "NoRow") (by decide +kernel)) GStartErrorInit (hr.mono (by decide)) kStartErrorInit (by rfl) T.gNoRow (pk_cons (pv 0) pk_nil)) (pa_cons (pe_mkEK (err_cl T.er (c := "BadMixing") (by decide +kernel)) GStartErrorInit (hr.mono (by decide)) kStartErrorInit (by rfl) T.gBadMixing (pk_cons (pv 0) pk_nil)) (pa_cons (pe_mkEK (err_cl T.er (c := "NoBoard") (by decide +kernel)) GStartErrorInit (hr.mono (by decide)) kStartErrorInit (by rfl) T.gNoBoard (pk_cons (pv 0) pk_nil)) (pa_cons (pe_mkEK (err_cl T.er (c := "BadLog") (by decide +kernel)) GStartErrorInit (hr.mono (by decide)) kStartErrorInit (by rfl) T.gBadLog (pk_cons (pv 0) pk_nil)) pa_nil)))))))
        (pss_cons (ps_set (i := 1) scLAllNamed.nd rfl (.inl rfl) (pe_op op_cat (pv 1) (pe_lst (pa_cons (pe_mkEK (err_cl T.er (c := "BadStep") (by decide +kernel)) GStartErrorInit (hr.mono (by decide)) kStartErrorInit (by rfl) T.gBadStep (pk_cons (pv 0) pk_nil)) (pa_cons (pe_mkEK (err_cl T.er (c := "BadHand") (by decide +kernel)) GStartErrorInit (hr.mono (by decide)) kStartErrorInit (by rfl) T.gBadHand (pk_cons (pv 0) pk_nil)) (pa_cons (pe_mkEK (err_cl T.er (c := "BadMachine") (by decide +kernel)) GStartErrorInit (hr.mono (by decide)) kStartErrorInit (by rfl) T.gBadMachine (pk_cons (pv 0) pk_nil)) (pa_cons (pe_mkEK (err_cl T.er (c := "NotYet") (by decide +kernel)) GStartErrorInit (hr.mono (by decide)) kStartErrorInit (by rfl) T.gNotYet (pk_cons (pv 0) pk_nil)) pa_nil)))))))
        (pss_cons (ps_set (i := 1) scLAllNamed.nd rfl (.inl rfl) (pe_op op_cat (pv 1) (pe_lst (pa_cons (pe_mkEK (err_cl T.er (c := "Fixed") (by decide +kernel)) GStartErrorInit (hr.mono (by decide)) kStartErrorInit (by rfl) T.gFixed (pk_cons (pv 0) pk_nil)) (pa_cons (pe_mkEK (err_cl T.er (c := "BadText") (by decide +kernel)) GStartErrorInit (hr.mono (by decide)) kStartErrorInit (by rfl) T.gBadText (pk_cons (pv 0) pk_nil)) (pa_cons (pe_mkEK (err_cl T.er (c := "BadLine") (by decide +kernel)) GStartErrorInit (hr.mono (by decide)) kStartErrorInit (by rfl) T.gBadLine (pk_cons (pv 0) pk_nil)) (pa_cons (pe_mkEK (err_cl T.er (c := "Known") (by decide +kernel)) GStartErrorInit (hr.mono (by decide)) kStartErrorInit (by rfl) T.gKnown (pk_cons (pv 0) pk_nil)) pa_nil)))))))
        (pss_cons (ps_set (i := 1) scLAllNamed.nd rfl (.inl rfl) (pe_op op_cat (pv 1) (pe_lst (pa_cons (pe_mkEK (err_cl T.er (c := "Unknown") (by decide +kernel)) GStartErrorInit (hr.mono (by decide)) kStartErrorInit (by rfl) T.gUnknown (pk_cons (pv 0) pk_nil)) (pa_cons (pe_mkEK (err_cl T.er (c := "TooMany") (by decide +kernel)) GStartErrorInit (hr.mono (by decide)) kStartErrorInit (by rfl) T.gTooMany (pk_cons (pv 0) pk_nil)) (pa_cons (pe_mkEK (err_cl T.er (c := "BadDeed") (by decide +kernel)) GStartErrorInit (hr.mono (by decide)) kStartErrorInit (by rfl) T.gBadDeed (pk_cons (pv 0) pk_nil)) (pa_cons (pe_mkEK (err_cl T.er (c := "NoNumber") (by decide +kernel)) GStartErrorInit (hr.mono (by decide)) kStartErrorInit (by rfl) T.gNoNumber (pk_cons (pv 0) pk_nil)) pa_nil)))))))
        (pss_one (ps_ret (pe_op op_cat (pv 1) (pe_lst (pa_cons (pe_mkEK (err_cl T.er (c := "NoPacket") (by decide +kernel)) GStartErrorInit (hr.mono (by decide)) kStartErrorInit (by rfl) T.gNoPacket (pk_cons (pv 0) pk_nil)) pa_nil))))))))), ?_⟩
    refine ⟨_, rfl, _, rfl, fun a1 G1 n1 s1 e1 => ?_⟩
    refine ⟨_, rfl, _, rfl, fun a2 G2 n2 s2 e2 => ?_⟩
    refine ⟨_, rfl, _, rfl, fun a3 G3 n3 s3 e3 => ?_⟩
    refine ⟨_, rfl, _, rfl, fun a4 G4 n4 s4 e4 => ?_⟩
    refine ⟨_, rfl, _, rfl, fun a5 G5 n5 s5 e5 => ?_⟩
    refine ⟨(by show 5 ≤ sizeLine; decide), fun m0 hm0 => ?_⟩
    have u0 := same_new (o := .lst [.ref a1, .ref a2, .ref a3, .ref a4, .ref a5]) hm0
    refine ⟨_, rfl, ?_⟩
    refine ⟨_, rfl, _, rfl, fun a6 G6 n6 s6 e6 => ?_⟩
    refine ⟨_, rfl, _, rfl, fun a7 G7 n7 s7 e7 => ?_⟩
    refine ⟨_, rfl, _, rfl, fun a8 G8 n8 s8 e8 => ?_⟩
    refine ⟨_, rfl, _, rfl, fun a9 G9 n9 s9 e9 => ?_⟩
    refine ⟨(by show 4 ≤ sizeLine; decide), fun m1 hm1 => ?_⟩
    have u1 := same_new (o := .lst [.ref a6, .ref a7, .ref a8, .ref a9]) hm1
    refine ⟨m0, m1, _, _, rfl, rfl, (s6.trans (s7.trans (s8.trans (s9.trans u1)))) _ _ upd_same, upd_same, (by show 9 ≤ sizeLine; decide), fun l1 hl1 => ?_⟩
    have v1 := same_new (o := .lst [.ref a1, .ref a2, .ref a3, .ref a4, .ref a5, .ref a6, .ref a7, .ref a8, .ref a9]) hl1
    refine ⟨_, rfl, ?_⟩
    refine ⟨_, rfl, _, rfl, fun a10 G10 n10 s10 e10 => ?_⟩
    refine ⟨_, rfl, _, rfl, fun a11 G11 n11 s11 e11 => ?_⟩
    refine ⟨_, rfl, _, rfl, fun a12 G12 n12 s12 e12 => ?_⟩
    refine ⟨_, rfl, _, rfl, fun a13 G13 n13 s13 e13 => ?_⟩
    refine ⟨(by show 4 ≤ sizeLine; decide), fun m2 hm2 => ?_⟩
    have u2 := same_new (o := .lst [.ref a10, .ref a11, .ref a12, .ref a13]) hm2
    refine ⟨l1, m2, _, _, rfl, rfl, (s10.trans (s11.trans (s12.trans (s13.trans u2)))) _ _ upd_same, upd_same, (by show 13 ≤ sizeLine; decide), fun l2 hl2 => ?_⟩
    have v2 := same_new (o := .lst [.ref a1, .ref a2, .ref a3, .ref a4, .ref a5, .ref a6, .ref a7, .ref a8, .ref a9, .ref a10, .ref a11, .ref a12, .ref a13]) hl2
    refine ⟨_, rfl, ?_⟩
    refine ⟨_, rfl, _, rfl, fun a14 G14 n14 s14 e14 => ?_⟩
    refine ⟨_, rfl, _, rfl, fun a15 G15 n15 s15 e15 => ?_⟩
    refine ⟨_, rfl, _, rfl, fun a16 G16 n16 s16 e16 => ?_⟩
    refine ⟨_, rfl, _, rfl, fun a17 G17 n17 s17 e17 => ?_⟩
    refine ⟨(by show 4 ≤ sizeLine; decide), fun m3 hm3 => ?_⟩
    have u3 := same_new (o := .lst [.ref a14, .ref a15, .ref a16, .ref a17]) hm3
    refine ⟨l2, m3, _, _, rfl, rfl, (s14.trans (s15.trans (s16.trans (s17.trans u3)))) _ _ upd_same, upd_same, (by show 17 ≤ sizeLine; decide), fun l3 hl3 => ?_⟩
    have v3 := same_new (o := .lst [.ref a1, .ref a2, .ref a3, .ref a4, .ref a5, .ref a6, .ref a7, .ref a8, .ref a9, .ref a10, .ref a11, .ref a12, .ref a13, .ref a14, .ref a15, .ref a16, .ref a17]) hl3
    refine ⟨_, rfl, ?_⟩
    refine ⟨_, rfl, _, rfl, fun a18 G18 n18 s18 e18 => ?_⟩
    refine ⟨(by show 1 ≤ sizeLine; decide), fun m4 hm4 => ?_⟩
    have u4 := same_new (o := .lst [.ref a18]) hm4
    refine ⟨l3, m4, _, _, rfl, rfl, (s18.trans u4) _ _ upd_same, upd_same, (by show 18 ≤ sizeLine; decide), fun l4 hl4 => ?_⟩
    have v4 := same_new (o := .lst [.ref a1, .ref a2, .ref a3, .ref a4, .ref a5, .ref a6, .ref a7, .ref a8, .ref a9, .ref a10, .ref a11, .ref a12, .ref a13, .ref a14, .ref a15, .ref a16, .ref a17, .ref a18]) hl4
    refine q l4 [a1, a2, a3, a4, a5, a6, a7, a8, a9, a10, a11, a12, a13, a14, a15, a16, a17, a18] _ (s1.trans (s2.trans (s3.trans (s4.trans (s5.trans (u0.trans (s6.trans (s7.trans (s8.trans (s9.trans (u1.trans (v1.trans (s10.trans (s11.trans (s12.trans (s13.trans (u2.trans (v2.trans (s14.trans (s15.trans (s16.trans (s17.trans (u3.trans (v3.trans (s18.trans (u4.trans v4)))))))))))))))))))))))))) upd_same ⟨e1.same (s2.trans (s3.trans (s4.trans (s5.trans (u0.trans (s6.trans (s7.trans (s8.trans (s9.trans (u1.trans (v1.trans (s10.trans (s11.trans (s12.trans (s13.trans (u2.trans (v2.trans (s14.trans (s15.trans (s16.trans (s17.trans (u3.trans (v3.trans (s18.trans (u4.trans v4))))))))))))))))))))))))), e2.same (s3.trans (s4.trans (s5.trans (u0.trans (s6.trans (s7.trans (s8.trans (s9.trans (u1.trans (v1.trans (s10.trans (s11.trans (s12.trans (s13.trans (u2.trans (v2.trans (s14.trans (s15.trans (s16.trans (s17.trans (u3.trans (v3.trans (s18.trans (u4.trans v4)))))))))))))))))))))))), e3.same (s4.trans (s5.trans (u0.trans (s6.trans (s7.trans (s8.trans (s9.trans (u1.trans (v1.trans (s10.trans (s11.trans (s12.trans (s13.trans (u2.trans (v2.trans (s14.trans (s15.trans (s16.trans (s17.trans (u3.trans (v3.trans (s18.trans (u4.trans v4))))))))))))))))))))))), e4.same (s5.trans (u0.trans (s6.trans (s7.trans (s8.trans (s9.trans (u1.trans (v1.trans (s10.trans (s11.trans (s12.trans (s13.trans (u2.trans (v2.trans (s14.trans (s15.trans (s16.trans (s17.trans (u3.trans (v3.trans (s18.trans (u4.trans v4)))))))))))))))))))))), e5.same (u0.trans (s6.trans (s7.trans (s8.trans (s9.trans (u1.trans (v1.trans (s10.trans (s11.trans (s12.trans (s13.trans (u2.trans (v2.trans (s14.trans (s15.trans (s16.trans (s17.trans (u3.trans (v3.trans (s18.trans (u4.trans v4))))))))))))))))))))), e6.same (s7.trans (s8.trans (s9.trans (u1.trans (v1.trans (s10.trans (s11.trans (s12.trans (s13.trans (u2.trans (v2.trans (s14.trans (s15.trans (s16.trans (s17.trans (u3.trans (v3.trans (s18.trans (u4.trans v4))))))))))))))))))), e7.same (s8.trans (s9.trans (u1.trans (v1.trans (s10.trans (s11.trans (s12.trans (s13.trans (u2.trans (v2.trans (s14.trans (s15.trans (s16.trans (s17.trans (u3.trans (v3.trans (s18.trans (u4.trans v4)))))))))))))))))), e8.same (s9.trans (u1.trans (v1.trans (s10.trans (s11.trans (s12.trans (s13.trans (u2.trans (v2.trans (s14.trans (s15.trans (s16.trans (s17.trans (u3.trans (v3.trans (s18.trans (u4.trans v4))))))))))))))))), e9.same (u1.trans (v1.trans (s10.trans (s11.trans (s12.trans (s13.trans (u2.trans (v2.trans (s14.trans (s15.trans (s16.trans (s17.trans (u3.trans (v3.trans (s18.trans (u4.trans v4)))))))))))))))), e10.same (s11.trans (s12.trans (s13.trans (u2.trans (v2.trans (s14.trans (s15.trans (s16.trans (s17.trans (u3.trans (v3.trans (s18.trans (u4.trans v4))))))))))))), e11.same (s12.trans (s13.trans (u2.trans (v2.trans (s14.trans (s15.trans (s16.trans (s17.trans (u3.trans (v3.trans (s18.trans (u4.trans v4)))))))))))), e12.same (s13.trans (u2.trans (v2.trans (s14.trans (s15.trans (s16.trans (s17.trans (u3.trans (v3.trans (s18.trans (u4.trans v4))))))))))), e13.same (u2.trans (v2.trans (s14.trans (s15.trans (s16.trans (s17.trans (u3.trans (v3.trans (s18.trans (u4.trans v4)))))))))), e14.same (s15.trans (s16.trans (s17.trans (u3.trans (v3.trans (s18.trans (u4.trans v4))))))), e15.same (s16.trans (s17.trans (u3.trans (v3.trans (s18.trans (u4.trans v4)))))), e16.same (s17.trans (u3.trans (v3.trans (s18.trans (u4.trans v4))))), e17.same (u3.trans (v3.trans (s18.trans (u4.trans v4)))), e18.same (u4.trans v4), trivial⟩
theorem okLMarks (T : Tx K mg) : FnOk P w K mg base CX0 1 (He.ga K "_law_marks") T.fdLMarks ["_law_error"] (spLMarks K) := by
  have B := T.B
  refine T.FLMarks.ok scLMarks (fun vs H Q E h => ?_) (fun cdv A outer s H vs Q E hr h => ?_)
  · obtain ⟨a, c, v, rfl, _⟩ := h
    rfl
  · obtain ⟨a, c, v, rfl, hc, he, q⟩ := h
    refine ⟨_, PSs.nox (pss_cons (ps_set (i := 1) scLMarks.nd rfl (.inl rfl) (pe_lst (pa_cons (pe_callB call_isX (by rfl) B.b_isinstance boot_isinstance (pa_cons (pv 0) (pa_cons (pe_glob (v := .ref (He.ga K "NoName")) (by rfl) T.gNoName rfl) pa_nil))) (pa_cons (pe_callB call_isX (by rfl) B.b_isinstance boot_isinstance (pa_cons (pv 0) (pa_cons (pe_glob (v := .ref (He.ga K "NoRow")) (by rfl) T.gNoRow rfl) pa_nil))) (pa_cons (pe_callB call_isX (by rfl) B.b_isinstance boot_isinstance (pa_cons (pv 0) (pa_cons (pe_glob (v := .ref (He.ga K "BadMixing")) (by rfl) T.gBadMixing rfl) pa_nil))) pa_nil)))))
        (pss_cons (ps_set (i := 1) scLMarks.nd rfl (.inl rfl) (pe_op op_cat (pv 1) (pe_lst (pa_cons (pe_callB call_isX (by rfl) B.b_isinstance boot_isinstance (pa_cons (pv 0) (pa_cons (pe_glob (v := .ref (He.ga K "NoBoard")) (by rfl) T.gNoBoard rfl) pa_nil))) (pa_cons (pe_callB call_isX (by rfl) B.b_isinstance boot_isinstance (pa_cons (pv 0) (pa_cons (pe_glob (v := .ref (He.ga K "BadLog")) (by rfl) T.gBadLog rfl) pa_nil))) (pa_cons (pe_callB call_isX (by rfl) B.b_isinstance boot_isinstance (pa_cons (pv 0) (pa_cons (pe_glob (v := .ref (He.ga K "BadStep")) (by rfl) T.gBadStep rfl) pa_nil))) pa_nil))))))
        (pss_cons (ps_set (i := 1) scLMarks.nd rfl (.inl rfl) (pe_op op_cat (pv 1) (pe_lst (pa_cons (pe_callB call_isX (by rfl) B.b_isinstance boot_isinstance (pa_cons (pv 0) (pa_cons (pe_glob (v := .ref (He.ga K "BadHand")) (by rfl) T.gBadHand rfl) pa_nil))) (pa_cons (pe_callB call_isX (by rfl) B.b_isinstance boot_isinstance (pa_cons (pv 0) (pa_cons (pe_glob (v := .ref (He.ga K "BadMachine")) (by rfl) T.gBadMachine rfl) pa_nil))) (pa_cons (pe_callB call_isX (by rfl) B.b_isinstance boot_isinstance (pa_cons (pv 0) (pa_cons (pe_glob (v := .ref (He.ga K "NotYet")) (by rfl) T.gNotYet rfl) pa_nil))) pa_nil))))))
        (pss_cons (ps_set (i := 1) scLMarks.nd rfl (.inl rfl) (pe_op op_cat (pv 1) (pe_lst (pa_cons (pe_callB call_isX (by rfl) B.b_isinstance boot_isinstance (pa_cons (pv 0) (pa_cons (pe_glob (v := .ref (He.ga K "Fixed")) (by rfl) T.gFixed rfl) pa_nil))) (pa_cons (pe_callB call_isX (by rfl) B.b_isinstance boot_isinstance (pa_cons (pv 0) (pa_cons (pe_glob (v := .ref (He.ga K "BadText")) (by rfl) T.gBadText rfl) pa_nil))) (pa_cons (pe_callB call_isX (by rfl) B.b_isinstance boot_isinstance (pa_cons (pv 0) (pa_cons (pe_glob (v := .ref (He.ga K "BadLine")) (by rfl) T.gBadLine rfl) pa_nil))) pa_nil))))))
        (pss_cons (ps_set (i := 1) scLMarks.nd rfl (.inl rfl) (pe_op op_cat (pv 1) (pe_lst (pa_cons (pe_callB call_isX (by rfl) B.b_isinstance boot_isinstance (pa_cons (pv 0) (pa_cons (pe_glob (v := .ref (He.ga K "Known")) (by rfl) T.gKnown rfl) pa_nil))) (pa_cons (pe_callB call_isX (by rfl) B.b_isinstance boot_isinstance (pa_cons (pv 0) (pa_cons (pe_glob (v := .ref (He.ga K "Unknown")) (by rfl) T.gUnknown rfl) pa_nil))) (pa_cons (pe_callB call_isX (by rfl) B.b_isinstance boot_isinstance (pa_cons (pv 0) (pa_cons (pe_glob (v := .ref (He.ga K "TooMany")) (by rfl) T.gTooMany rfl) pa_nil))) pa_nil))))))
        (pss_cons (ps_set (i := 1) scLMarks.nd rfl (.inl rfl) (pe_op op_cat (pv 1) (pe_lst (pa_cons (pe_callB call_isX (by rfl) B.b_isinstance boot_isinstance (pa_cons (pv 0) (pa_cons (pe_glob (v := .ref (He.ga K "BadDeed")) (by rfl) T.gBadDeed rfl) pa_nil))) (pa_cons (pe_callB call_isX (by rfl) B.b_isinstance boot_isinstance (pa_cons (pv 0) (pa_cons (pe_glob (v := .ref (He.ga K "NoNumber")) (by rfl) T.gNoNumber rfl) pa_nil))) (pa_cons (pe_callB call_isX (by rfl) B.b_isinstance boot_isinstance (pa_cons (pv 0) (pa_cons (pe_glob (v := .ref (He.ga K "NoPacket")) (by rfl) T.gNoPacket rfl) pa_nil))) pa_nil))))))
        (pss_one (ps_ret (pe_lc (own := [("_law_k", 2), ("_law_one", 3)]) (g := gTup K 2 (gCons (gName 2) (gCons (gName 3) gNil))) (by rfl) scLMarks.nd (pi_enum (by rfl) B.b_enumerate (pa_cons (pv 1) pa_nil)) (blkOk_by (own := [("_law_k", 2), ("_law_one", 3)]) (N := ["_law_error", "_law_marks_here", "_law_k", "_law_one"]) (sc := defScope sLMarks) (by decide +kernel)) (fun _ _ _ _ _ => by exact (pg_tup rfl (pgs_cons (pg_name (i := 2) scLMarks.nd rfl (Or.inl rfl)) (pgs_cons (pg_name (i := 3) scLMarks.nd rfl (Or.inl rfl)) pgs_nil)))) (fun _ _ _ _ _ => pts_one (pt_val (pv 3))) (fun _ _ _ _ _ => (pv 2))))))))))), ?_⟩
    refine ⟨_, rfl, a, _, _, _, _, _, _, rfl, .own _, he, err_cl T.er hc, err_is T.er hc (e := "NoName") (by decide +kernel), ?_⟩
    refine ⟨_, rfl, a, _, _, _, _, _, _, rfl, .own _, he, err_cl T.er hc, err_is T.er hc (e := "NoRow") (by decide +kernel), ?_⟩
    refine ⟨_, rfl, a, _, _, _, _, _, _, rfl, .own _, he, err_cl T.er hc, err_is T.er hc (e := "BadMixing") (by decide +kernel), ?_⟩
    refine ⟨(by show 3 ≤ sizeLine; decide), fun m0 hm0 => ?_⟩
    have u0 := same_new (o := .lst [.bl (decide (("NoName" : Str) = c) || decide (("NoName" : Str) = "StartError")), .bl (decide (("NoRow" : Str) = c) || decide (("NoRow" : Str) = "StartError")), .bl (decide (("BadMixing" : Str) = c) || decide (("BadMixing" : Str) = "StartError"))]) hm0
    refine ⟨_, rfl, ?_⟩
    refine ⟨_, rfl, a, _, _, _, _, _, _, rfl, .own _, (he.same u0), err_cl T.er hc, err_is T.er hc (e := "NoBoard") (by decide +kernel), ?_⟩
    refine ⟨_, rfl, a, _, _, _, _, _, _, rfl, .own _, (he.same u0), err_cl T.er hc, err_is T.er hc (e := "BadLog") (by decide +kernel), ?_⟩
    refine ⟨_, rfl, a, _, _, _, _, _, _, rfl, .own _, (he.same u0), err_cl T.er hc, err_is T.er hc (e := "BadStep") (by decide +kernel), ?_⟩
    refine ⟨(by show 3 ≤ sizeLine; decide), fun m1 hm1 => ?_⟩
    have u1 := same_new (o := .lst [.bl (decide (("NoBoard" : Str) = c) || decide (("NoBoard" : Str) = "StartError")), .bl (decide (("BadLog" : Str) = c) || decide (("BadLog" : Str) = "StartError")), .bl (decide (("BadStep" : Str) = c) || decide (("BadStep" : Str) = "StartError"))]) hm1
    refine ⟨m0, m1, _, _, rfl, rfl, u1 _ _ upd_same, upd_same, (by show 6 ≤ sizeLine; decide), fun l1 hl1 => ?_⟩
    have v1 := same_new (o := .lst [.bl (decide (("NoName" : Str) = c) || decide (("NoName" : Str) = "StartError")), .bl (decide (("NoRow" : Str) = c) || decide (("NoRow" : Str) = "StartError")), .bl (decide (("BadMixing" : Str) = c) || decide (("BadMixing" : Str) = "StartError")), .bl (decide (("NoBoard" : Str) = c) || decide (("NoBoard" : Str) = "StartError")), .bl (decide (("BadLog" : Str) = c) || decide (("BadLog" : Str) = "StartError")), .bl (decide (("BadStep" : Str) = c) || decide (("BadStep" : Str) = "StartError"))]) hl1
    refine ⟨_, rfl, ?_⟩
    refine ⟨_, rfl, a, _, _, _, _, _, _, rfl, .own _, (he.same (u0.trans (u1.trans v1))), err_cl T.er hc, err_is T.er hc (e := "BadHand") (by decide +kernel), ?_⟩
    refine ⟨_, rfl, a, _, _, _, _, _, _, rfl, .own _, (he.same (u0.trans (u1.trans v1))), err_cl T.er hc, err_is T.er hc (e := "BadMachine") (by decide +kernel), ?_⟩
    refine ⟨_, rfl, a, _, _, _, _, _, _, rfl, .own _, (he.same (u0.trans (u1.trans v1))), err_cl T.er hc, err_is T.er hc (e := "NotYet") (by decide +kernel), ?_⟩
    refine ⟨(by show 3 ≤ sizeLine; decide), fun m2 hm2 => ?_⟩
    have u2 := same_new (o := .lst [.bl (decide (("BadHand" : Str) = c) || decide (("BadHand" : Str) = "StartError")), .bl (decide (("BadMachine" : Str) = c) || decide (("BadMachine" : Str) = "StartError")), .bl (decide (("NotYet" : Str) = c) || decide (("NotYet" : Str) = "StartError"))]) hm2
    refine ⟨l1, m2, _, _, rfl, rfl, u2 _ _ upd_same, upd_same, (by show 9 ≤ sizeLine; decide), fun l2 hl2 => ?_⟩
    have v2 := same_new (o := .lst [.bl (decide (("NoName" : Str) = c) || decide (("NoName" : Str) = "StartError")), .bl (decide (("NoRow" : Str) = c) || decide (("NoRow" : Str) = "StartError")), .bl (decide (("BadMixing" : Str) = c) || decide (("BadMixing" : Str) = "StartError")), .bl (decide (("NoBoard" : Str) = c) || decide (("NoBoard" : Str) = "StartError")), .bl (decide (("BadLog" : Str) = c) || decide (("BadLog" : Str) = "StartError")), .bl (decide (("BadStep" : Str) = c) || decide (("BadStep" : Str) = "StartError")), .bl (decide (("BadHand" : Str) = c) || decide (("BadHand" : Str) = "StartError")), .bl (decide (("BadMachine" : Str) = c) || decide (("BadMachine" : Str) = "StartError")), .bl (decide (("NotYet" : Str) = c) || decide (("NotYet" : Str) = "StartError"))]) hl2
    refine ⟨_, rfl, ?_⟩
    refine ⟨_, rfl, a, _, _, _, _, _, _, rfl, .own _, (he.same (u0.trans (u1.trans (v1.trans (u2.trans v2))))), err_cl T.er hc, err_is T.er hc (e := "Fixed") (by decide +kernel), ?_⟩
    refine ⟨_, rfl, a, _, _, _, _, _, _, rfl, .own _, (he.same (u0.trans (u1.trans (v1.trans (u2.trans v2))))), err_cl T.er hc, err_is T.er hc (e := "BadText") (by decide +kernel), ?_⟩
    refine ⟨_, rfl, a, _, _, _, _, _, _, rfl, .own _, (he.same (u0.trans (u1.trans (v1.trans (u2.trans v2))))), err_cl T.er hc, err_is T.er hc (e := "BadLine") (by decide +kernel), ?_⟩
    refine ⟨(by show 3 ≤ sizeLine; decide), fun m3 hm3 => ?_⟩
    have u3 := same_new (o := .lst [.bl (decide (("Fixed" : Str) = c) || decide (("Fixed" : Str) = "StartError")), .bl (decide (("BadText" : Str) = c) || decide (("BadText" : Str) = "StartError")), .bl (decide (("BadLine" : Str) = c) || decide (("BadLine" : Str) = "StartError"))]) hm3
    refine ⟨l2, m3, _, _, rfl, rfl, u3 _ _ upd_same, upd_same, (by show 12 ≤ sizeLine; decide), fun l3 hl3 => ?_⟩
    have v3 := same_new (o := .lst [.bl (decide (("NoName" : Str) = c) || decide (("NoName" : Str) = "StartError")), .bl (decide (("NoRow" : Str) = c) || decide (("NoRow" : Str) = "StartError")), .bl (decide (("BadMixing" : Str) = c) || decide (("BadMixing" : Str) = "StartError")), .bl (decide (("NoBoard" : Str) = c) || decide (("NoBoard" : Str) = "StartError")), .bl (decide (("BadLog" : Str) = c) || decide (("BadLog" : Str) = "StartError")), .bl (decide (("BadStep" : Str) = c) || decide (("BadStep" : Str) = "StartError")), .bl (decide (("BadHand" : Str) = c) || decide (("BadHand" : Str) = "StartError")), .bl (decide (("BadMachine" : Str) = c) || decide (("BadMachine" : Str) = "StartError")), .bl (decide (("NotYet" : Str) = c) || decide (("NotYet" : Str) = "StartError")), .bl (decide (("Fixed" : Str) = c) || decide (("Fixed" : Str) = "StartError")), .bl (decide (("BadText" : Str) = c) || decide (("BadText" : Str) = "StartError")), .bl (decide (("BadLine" : Str) = c) || decide (("BadLine" : Str) = "StartError"))]) hl3
    refine ⟨_, rfl, ?_⟩
    refine ⟨_, rfl, a, _, _, _, _, _, _, rfl, .own _, (he.same (u0.trans (u1.trans (v1.trans (u2.trans (v2.trans (u3.trans v3))))))), err_cl T.er hc, err_is T.er hc (e := "Known") (by decide +kernel), ?_⟩
    refine ⟨_, rfl, a, _, _, _, _, _, _, rfl, .own _, (he.same (u0.trans (u1.trans (v1.trans (u2.trans (v2.trans (u3.trans v3))))))), err_cl T.er hc, err_is T.er hc (e := "Unknown") (by decide +kernel), ?_⟩
    refine ⟨_, rfl, a, _, _, _, _, _, _, rfl, .own _, (he.same (u0.trans (u1.trans (v1.trans (u2.trans (v2.trans (u3.trans v3))))))), err_cl T.er hc, err_is T.er hc (e := "TooMany") (by decide +kernel), ?_⟩
    refine ⟨(by show 3 ≤ sizeLine; decide), fun m4 hm4 => ?_⟩
    have u4 := same_new (o := .lst [.bl (decide (("Known" : Str) = c) || decide (("Known" : Str) = "StartError")), .bl (decide (("Unknown" : Str) = c) || decide (("Unknown" : Str) = "StartError")), .bl (decide (("TooMany" : Str) = c) || decide (("TooMany" : Str) = "StartError"))]) hm4
    refine ⟨l3, m4, _, _, rfl, rfl, u4 _ _ upd_same, upd_same, (by show 15 ≤ sizeLine; decide), fun l4 hl4 => ?_⟩
    have v4 := same_new (o := .lst [.bl (decide (("NoName" : Str) = c) || decide (("NoName" : Str) = "StartError")), .bl (decide (("NoRow" : Str) = c) || decide (("NoRow" : Str) = "StartError")), .bl (decide (("BadMixing" : Str) = c) || decide (("BadMixing" : Str) = "StartError")), .bl (decide (("NoBoard" : Str) = c) || decide (("NoBoard" : Str) = "StartError")), .bl (decide (("BadLog" : Str) = c) || decide (("BadLog" : Str) = "StartError")), .bl (decide (("BadStep" : Str) = c) || decide (("BadStep" : Str) = "StartError")), .bl (decide (("BadHand" : Str) = c) || decide (("BadHand" : Str) = "StartError")), .bl (decide (("BadMachine" : Str) = c) || decide (("BadMachine" : Str) = "StartError")), .bl (decide (("NotYet" : Str) = c) || decide (("NotYet" : Str) = "StartError")), .bl (decide (("Fixed" : Str) = c) || decide (("Fixed" : Str) = "StartError")), .bl (decide (("BadText" : Str) = c) || decide (("BadText" : Str) = "StartError")), .bl (decide (("BadLine" : Str) = c) || decide (("BadLine" : Str) = "StartError")), .bl (decide (("Known" : Str) = c) || decide (("Known" : Str) = "StartError")), .bl (decide (("Unknown" : Str) = c) || decide (("Unknown" : Str) = "StartError")), .bl (decide (("TooMany" : Str) = c) || decide (("TooMany" : Str) = "StartError"))]) hl4
    refine ⟨_, rfl, ?_⟩
    refine ⟨_, rfl, a, _, _, _, _, _, _, rfl, .own _, (he.same (u0.trans (u1.trans (v1.trans (u2.trans (v2.trans (u3.trans (v3.trans (u4.trans v4))))))))), err_cl T.er hc, err_is T.er hc (e := "BadDeed") (by decide +kernel), ?_⟩
    refine ⟨_, rfl, a, _, _, _, _, _, _, rfl, .own _, (he.same (u0.trans (u1.trans (v1.trans (u2.trans (v2.trans (u3.trans (v3.trans (u4.trans v4))))))))), err_cl T.er hc, err_is T.er hc (e := "NoNumber") (by decide +kernel), ?_⟩
    refine ⟨_, rfl, a, _, _, _, _, _, _, rfl, .own _, (he.same (u0.trans (u1.trans (v1.trans (u2.trans (v2.trans (u3.trans (v3.trans (u4.trans v4))))))))), err_cl T.er hc, err_is T.er hc (e := "NoPacket") (by decide +kernel), ?_⟩
    refine ⟨(by show 3 ≤ sizeLine; decide), fun m5 hm5 => ?_⟩
    have u5 := same_new (o := .lst [.bl (decide (("BadDeed" : Str) = c) || decide (("BadDeed" : Str) = "StartError")), .bl (decide (("NoNumber" : Str) = c) || decide (("NoNumber" : Str) = "StartError")), .bl (decide (("NoPacket" : Str) = c) || decide (("NoPacket" : Str) = "StartError"))]) hm5
    refine ⟨l4, m5, _, _, rfl, rfl, u5 _ _ upd_same, upd_same, (by show 18 ≤ sizeLine; decide), fun l5 hl5 => ?_⟩
    have v5 := same_new (o := .lst [.bl (decide (("NoName" : Str) = c) || decide (("NoName" : Str) = "StartError")), .bl (decide (("NoRow" : Str) = c) || decide (("NoRow" : Str) = "StartError")), .bl (decide (("BadMixing" : Str) = c) || decide (("BadMixing" : Str) = "StartError")), .bl (decide (("NoBoard" : Str) = c) || decide (("NoBoard" : Str) = "StartError")), .bl (decide (("BadLog" : Str) = c) || decide (("BadLog" : Str) = "StartError")), .bl (decide (("BadStep" : Str) = c) || decide (("BadStep" : Str) = "StartError")), .bl (decide (("BadHand" : Str) = c) || decide (("BadHand" : Str) = "StartError")), .bl (decide (("BadMachine" : Str) = c) || decide (("BadMachine" : Str) = "StartError")), .bl (decide (("NotYet" : Str) = c) || decide (("NotYet" : Str) = "StartError")), .bl (decide (("Fixed" : Str) = c) || decide (("Fixed" : Str) = "StartError")), .bl (decide (("BadText" : Str) = c) || decide (("BadText" : Str) = "StartError")), .bl (decide (("BadLine" : Str) = c) || decide (("BadLine" : Str) = "StartError")), .bl (decide (("Known" : Str) = c) || decide (("Known" : Str) = "StartError")), .bl (decide (("Unknown" : Str) = c) || decide (("Unknown" : Str) = "StartError")), .bl (decide (("TooMany" : Str) = c) || decide (("TooMany" : Str) = "StartError")), .bl (decide (("BadDeed" : Str) = c) || decide (("BadDeed" : Str) = "StartError")), .bl (decide (("NoNumber" : Str) = c) || decide (("NoNumber" : Str) = "StartError")), .bl (decide (("NoPacket" : Str) = c) || decide (("NoPacket" : Str) = "StartError"))]) hl5
    have sA := (u0.trans (u1.trans (v1.trans (u2.trans (v2.trans (u3.trans (v3.trans (u4.trans (v4.trans (u5.trans v5))))))))))
    refine ⟨_, rfl, l5, _, rfl, SqL.of upd_same, fun D hD => ?_⟩
    have hall : ∀ (j : Nat) (v : V), ((marksL c).map V.bl)[j]? = some v → v = V.bl ((marksL c).getD j false) := by
      intro j v h
      rw [List.getElem?_map] at h
      cases e : (marksL c)[j]? with
      | none => rw [e] at h; cases h
      | some b =>
        rw [e] at h
        rw [List.getD_eq_getElem?_getD, e]
        exact (Option.some.inj h).symm
    refine lc_it (walk_enum (xs := (marksL c).map V.bl)) (fun j G => Same H G ∧ SqL K G l5 ((marksL c).map V.bl) ∧ G D = some (.lst ((hits (marksL c) j).map V.int))) ⟨sA.trans (same_new hD), (same_new hD).seq (SqL.of upd_same), upd_same⟩ (fun j G _ h => h.2.1) ?_ ?_
    · rintro j x G G1 hj ⟨sG, hLG, hDG⟩ ⟨T1, x1, x2, rfl, hT, rfl, hx1, hx2⟩
      have e1 : V.int (j : Int) = x1 := Option.some.inj hx1
      obtain ⟨bb, hb⟩ : ∃ bb, (marksL c).getD j false = bb := ⟨_, rfl⟩
      have e2 := hall j x2 hx2
      rw [hb] at e2
      subst e1 e2
      have sT := same_new (o := .tup [V.int (j : Int), V.bl bb]) hT
      refine ⟨T1, _, rfl, .inl (.inl upd_same), rfl, _, _, rfl, _, _, rfl, rfl, rfl, ?_⟩
      refine ⟨_, rfl, _, rfl, ?_⟩
      have hs := hits_succ (marksL c) j
      rw [hb] at hs
      cases bb with
      | true =>
        rw [if_pos rfl] at hs
        refine iteT ?_
        refine ⟨_, rfl, _, sT _ _ hDG, ?_, fun b o e => ?_, ?_, ?_⟩
        · rw [List.length_map]
          have hj18 : j < 18 := hj
          have : (hits (marksL c) j).length ≤ j := by
            unfold hits
            rw [List.length_map]
            exact Nat.le_trans (List.length_filter_le _ _) (by rw [List.length_range]; exact Nat.le_refl _)
          exact small6 (by omega)
        · have hb2 : b ≠ D := ne_of_none e (sA.free hD)
          rw [upd_ne hb2]
          exact sT _ _ (sG _ _ e)
        · have hlD : l5 ≠ D := fun z => by rw [← z, upd_same] at hD; cases hD
          exact seqL_but But.upd (sT.seq hLG) hlD
        · rw [upd_same, hs, List.map_append]
          rfl
      | false =>
        rw [if_neg (by decide), List.append_nil] at hs
        refine iteF ?_
        exact ⟨sG.trans sT, sT.seq hLG, by rw [hs]; exact sT _ _ hDG⟩
    · rintro G ⟨sG, hLG, hDG⟩
      exact q D G sG hDG
end
section
variable {P : Program} {w : World} {K : PySem.W.Frag} {mg : Str → Option Value} {base : Heap}
theorem cut_hi (xs : List V) (k : Nat) : cutV xs none (some (k : Int)) = xs.take k := by
  unfold cutV
  rw [show HT.sIx xs.length xs.length (some (k : Int)) = min k xs.length from HT.sIx_nat xs.length xs.length k, HT.sIx_none, Nat.sub_zero, List.drop_zero]
  by_cases h : k ≤ xs.length
  · rw [Nat.min_eq_left h]
  · rw [Nat.min_eq_right (by omega), List.take_length, List.take_of_length_le (by omega)]
theorem cut_ints (ns : List Int) : ∃ rs : List Int, cutV (ns.map V.int) (some 3) (some 63) = rs.map V.int ∧ (rs ≠ [] → 3 ≤ ns.length) ∧ rs.length ≤ 63 := by
  refine ⟨(ns.drop (min 3 ns.length)).take (min 63 ns.length - min 3 ns.length), ?_, fun h => ?_, ?_⟩
  · unfold cutV
    rw [show HT.sIx (ns.map V.int).length 0 (some (3 : Int)) = min 3 (ns.map V.int).length from HT.sIx_nat _ 0 3, show HT.sIx (ns.map V.int).length (ns.map V.int).length (some (63 : Int)) = min 63 (ns.map V.int).length from HT.sIx_nat _ _ 63, List.length_map, List.map_take, List.map_drop]
  · by_cases h3 : 3 ≤ ns.length
    · exact h3
    · refine absurd ?_ h
      rw [show min 3 ns.length = ns.length by omega, List.drop_length, List.take_nil]
  · exact Nat.le_trans (List.length_take_le _ _) (by omega)
theorem shaped3 {cs : List Int} (h : cs.length ≤ 3) : SeqAt.shaped (.list (cs.map PyData.int)) = true := by
  match cs, h with
  | [], _ => rfl
  | [_], _ => rfl
  | [_, _], _ => rfl
  | [_, _, _], _ => rfl
  | _ :: _ :: _ :: _ :: _, h => simp at h
def spLFolded (K : PySem.W.Frag) : Sp := fun vs H Q _ => ∃ (a : Addr) (ns : List Int), vs = [.ref a, .int 3] ∧ SqL K H a (ns.map V.int) ∧ ns.length ≤ 63 ∧ ∀ (l : Addr) (cs : List Int) (G : Hp), Same H G → G l = some (.lst (cs.map V.int)) → cs.length ≤ 3 → Q (.ref l) G
theorem okLFolded (T : Tx K mg) : FnOk P w K mg base CX0 1 (He.ga K "_law_folded") T.fdLFolded ["_law_script", "_law_size"] (spLFolded K) := by
  have B := T.B
  refine T.FLFolded.ok scLFolded (fun vs H Q E h => ?_) (fun cdv A outer s H vs Q E hr h => ?_)
  · obtain ⟨a, ns, rfl, _⟩ := h
    rfl
  · obtain ⟨a, ns, rfl, hS, hlen, q⟩ := h
    refine ⟨_, PSs.nox (pss_cons (ps_set (i := 2) scLFolded.nd rfl (.inl rfl) (pe_callTy call_list_of (by rfl) B.b_list PyProof.Rows.boot_list (pa_cons (pe_slice sl_list (pv 0) po_none (po_some (pv 1))) pa_nil)))
        (pss_cons (ps_for PassesOwn.never rfl (pi_enum (by rfl) B.b_enumerate (pa_cons (pe_slice sl_list (pv 0) (po_some (pv 1)) (po_some pe_int)) pa_nil)) (pg_tup rfl (pgs_cons (pg_name (i := 3) scLFolded.nd rfl (Or.inl rfl)) (pgs_cons (pg_name (i := 4) scLFolded.nd rfl (Or.inl rfl)) pgs_nil)))
        (pss_one (ps_asg (pe_op op_add (pe_ix ix_list (pv 2) (pe_op op_mod (pv 3) (pv 1)) (fun _ _ => rfl)) (pe_op op_mul (pv 4) (pe_op op_add (pv 3) pe_int))) (pg_sub (pv 2) (pe_op op_mod (pv 3) (pv 1)) set_list))))
        (pss_one (ps_ret (pe_ifExp (pt_cmpR (op_neD hr.units) (pv 2) (pe_lst pa_nil) (nomark _)) (pv 2) (pe_lst (pa_cons pe_int pa_nil))))))), ?_⟩
    refine ⟨_, rfl, _, rfl, 3, rfl, a, _, rfl, hS, fun l0 h0 => ⟨l0, _, rfl, .inl (SqL.of upd_same), fun l hl => ?_⟩⟩
    have s0 := same_new (o := .lst (cutV (ns.map V.int) none (some 3))) h0
    have s1 := same_new (o := .lst (cutV (ns.map V.int) none (some 3))) hl
    have ec : cutV (ns.map V.int) none (some 3) = (ns.take 3).map V.int := by rw [show (3 : Int) = ((3 : Nat) : Int) from rfl, cut_hi, List.map_take]
    obtain ⟨rs, hrs, hrs3, hrs63⟩ := cut_ints ns
    refine ⟨_, rfl, _, rfl, 3, rfl, 63, rfl, a, _, rfl, (s0.trans s1).seq hS, fun ls hls => ?_⟩
    have s2 := same_new (o := .lst (cutV (ns.map V.int) (some 3) (some 63))) hls
    have nlH : H l = none := s0.free hl
    have nls : ls ≠ l := fun z => by rw [z, upd_same] at hls; cases hls
    refine ⟨ls, rs.map V.int, rfl, SqL.of (by rw [hrs]; exact upd_same), for_it (walk_enum (xs := rs.map V.int)) (fun j σ G => Same H G ∧ SqL K G ls (rs.map V.int) ∧ ∃ (cs : List Int) (x3 x4 : Option V), G l = some (.lst (cs.map V.int)) ∧ cs.length = (ns.take 3).length ∧ σ = [some (.ref a), some (.int 3), some (.ref l), x3, x4]) ⟨s0.trans (s1.trans s2), SqL.of (by rw [hrs]; exact upd_same), ns.take 3, none, none, (s2 _ _ upd_same).trans (by rw [ec]), rfl, rfl⟩ (fun _ _ _ _ h => h.2.1) ?_ ?_⟩
    · rintro j x σ G G1 hj ⟨sG, hLG, cs, x3, x4, hc, hcl, rfl⟩ ⟨T1, y1, y2, rfl, hT, rfl, hy1, hy2⟩
      have e1 : V.int (j : Int) = y1 := Option.some.inj hy1
      subst e1
      obtain ⟨z, rfl⟩ : ∃ z, y2 = V.int z := by
        have hy2 : (rs.map V.int)[j]? = some y2 := hy2
        rw [List.getElem?_map] at hy2
        cases e : rs[j]? with
        | none => rw [e] at hy2; cases hy2
        | some b => rw [e] at hy2; exact ⟨b, (Option.some.inj hy2).symm⟩
      have hj2 : j < rs.length := by rw [List.length_map] at hj; exact hj
      have h3 := hrs3 (fun e => by rw [e] at hj2; cases hj2)
      have hc3 : cs.length = 3 := by rw [hcl, List.length_take]; omega
      have sT := same_new (o := .tup [V.int (j : Int), V.int z]) hT
      have hc2 := sT _ _ hc
      obtain ⟨r, hr'⟩ : ∃ r : Nat, (j : Int) % 3 = (r : Int) := ⟨((j : Int) % 3).toNat, by omega⟩
      have r3 : r < cs.length := by omega
      have ej : ixN (cs.map V.int).length ((j : Int) % 3) = some r := by
        rw [hr']
        unfold ixN
        rw [if_pos (by omega), if_pos (by rw [List.length_map]; omega)]
        simp
      refine ⟨T1, _, rfl, .inl (.inl upd_same), rfl, _, _, rfl, _, _, rfl, rfl, ?_⟩
      refine ⟨_, rfl, _, rfl, _, rfl, _, _, rfl, rfl, (show (0 : Int) < 3 by decide), l, _, _, .int cs[r], rfl, rfl, SqL.of hc2, at_of hr' (by rw [List.getElem?_map, List.getElem?_eq_getElem r3]; rfl), _, rfl, _, rfl, _, _, rfl, rfl, _, _, rfl, rfl, .inr ⟨?_, ?_⟩, _, _, rfl, rfl, ?_⟩
      · have : -18446744073709551616 < (j : Int) + 2 := by omega
        exact this
      · have : (j : Int) + 2 < 18446744073709551616 := by omega
        exact this
      · refine ⟨_, rfl, _, rfl, _, rfl, _, _, rfl, rfl, (show (0 : Int) < 3 by decide), l, _, _, r, rfl, rfl, hc2, ej, ?_⟩
        refine ⟨fun b o e => ?_, ?_, cs.set r (cs[r] + z * ((j : Int) + 2)), _, _, ?_, by rw [List.length_set]; exact hcl, rfl⟩
        · rw [upd_ne (ne_of_none e nlH)]
          exact sT _ _ (sG _ _ e)
        · exact seqL_but But.upd (sT.seq hLG) nls
        · rw [upd_same, List.map_set]
    · rintro σ G ⟨sG, hLG, cs, x3, x4, hc, hcl, rfl⟩
      have hc3 : cs.length ≤ 3 := by rw [hcl, List.length_take]; omega
      refine ⟨_, rfl, Nat.zero_le _, fun e0 he0 => ?_⟩
      have s3 := same_new (o := .lst []) he0
      refine ⟨.list (cs.map PyData.int), .list [], .lst (SqL.of (s3 _ _ hc)) (dpa_ints cs), .lst (SqL.of upd_same) .nil, shaped3 hc3, rfl, _, rfl, ifx (fun v G2 => ∃ (l2 : Addr) (cs2 : List Int), v = .ref l2 ∧ Same H G2 ∧ G2 l2 = some (.lst (cs2.map V.int)) ∧ cs2.length ≤ 3) (fun e C k => ?_) (fun e C k => ?_) ?_⟩
      · exact ⟨_, rfl, k _ _ ⟨l, cs, rfl, sG.trans s3, s3 _ _ hc, hc3⟩⟩
      · refine ⟨(by show 1 ≤ sizeLine; decide), fun l2 hl2 => k _ _ ⟨l2, [0], rfl, sG.trans (s3.trans (same_new hl2)), upd_same, by decide⟩⟩
      · rintro v G2 ⟨l2, cs2, rfl, s4, h4, h5⟩
        exact q l2 cs2 G2 s4 h4 h5
end
section
variable {P : Program} {w : World} {K : PySem.W.Frag} {mg : Str → Option Value} {base : Heap}
def spLWordsRight : Sp := fun vs H Q _ => vs = [] ∧ ∀ G, Same H G → Q (.bl true) G
def w5d : PyData := .tuple [.str (Str.ofString "load"), .str (Str.ofString "set"), .str (Str.ofString "end"), .str (Str.ofString "late"), .str (Str.ofString "reset")]
theorem words_dp (T : Tx K mg) (H : Hp) : Dp K H (.ref (He.ga K "WORDS")) w5d := .tup (tupD_seq T.t_WORDS H) (.cons (.str _) (.cons (.str _) (.cons (.str _) (.cons (.str _) (.cons (.str _) .nil)))))
theorem okLWordsRight (T : Tx K mg) : FnOk P w K mg base CX0 4 (He.ga K "_law_words_right") T.fdLWordsRight [] spLWordsRight := by
  have B := T.B
  have GLSame : FnOk P w K mg base CX0 3 (He.ga K "_law_same") T.fdLSame ["_law_found", "_law_due"] (spLSame K 3) := okLSame T 3
  have bLSame := T.bLSame
  refine T.FLWordsRight.ok scLWordsRight (fun vs H Q E h => ?_) (fun cdv A outer s H vs Q E hr h => ?_)
  · obtain ⟨rfl, _⟩ := h
    rfl
  · obtain ⟨rfl, q⟩ := h
    refine ⟨_, PSs.nox (pss_cons (ps_set (i := 0) scLWordsRight.nd rfl (.inl rfl) (pe_lst (pa_cons (pe_tup (pa_cons pe_str (pa_cons pe_str (pa_cons pe_str (pa_cons pe_str (pa_cons pe_str pa_nil)))))) (pa_cons pe_int (pa_cons pe_int (pa_cons pe_int (pa_cons pe_int (pa_cons pe_int (pa_cons pe_int (pa_cons pe_int (pa_cons pe_int (pa_cons pe_int pa_nil))))))))))))
        (pss_one (ps_ret (pe_call GLSame (hr.mono (by decide)) (by rfl) T.gLSame T.FLSame.kp bLSame .nil pass0 (pa_cons (pe_lst (pa_cons (pe_glob (v := .ref (He.ga K "WORDS")) (by rfl) T.c_WORDS rfl) (pa_cons (pe_glob (v := .int 9973) (by rfl) T.c_NOTES.choose_spec ⟨_, rfl⟩) (pa_cons (pe_glob (v := .int 26500305465) (by rfl) T.c_SPAN.choose_spec ⟨_, rfl⟩) (pa_cons (pe_glob (v := .int 7919) (by rfl) T.c_FACTOR.choose_spec ⟨_, rfl⟩) (pa_cons (pe_glob (v := .int 4) (by rfl) T.c_BOARDS.choose_spec ⟨_, rfl⟩) (pa_cons (pe_glob (v := .int 2) (by rfl) T.c_FIXED.choose_spec ⟨_, rfl⟩) (pa_cons (pe_glob (v := .int 1000000000039) (by rfl) T.c_SIGNS.choose_spec ⟨_, rfl⟩) (pa_cons (pe_glob (v := .int 1000003) (by rfl) T.c_FOLD.choose_spec ⟨_, rfl⟩) (pa_cons (pe_glob (v := .int 9) (by rfl) T.c_LIFE.choose_spec ⟨_, rfl⟩) (pa_cons (pe_glob (v := .int 8) (by rfl) T.c_MACHINES.choose_spec ⟨_, rfl⟩) pa_nil))))))))))) (pa_cons (pv 0) pa_nil)))))), ?_⟩
    refine ⟨(by show 5 ≤ sizeLine; decide), fun t1 ht1 => ⟨(by show 10 ≤ sizeLine; decide), fun l1 hl1 => ?_⟩⟩
    have s1 := same_new (o := .tup [.str (Str.ofString "load"), .str (Str.ofString "set"), .str (Str.ofString "end"), .str (Str.ofString "late"), .str (Str.ofString "reset")]) ht1
    have s2 := same_new (o := .lst [.ref t1, .int 9973, .int 26500305465, .int 7919, .int 4, .int 2, .int 1000000000039, .int 1000003, .int 9, .int 8]) hl1
    refine ⟨(by show 10 ≤ sizeLine; decide), fun l2 hl2 => ?_⟩
    have s3 := same_new (o := .lst [.ref (He.ga K "WORDS"), .int 9973, .int 26500305465, .int 7919, .int 4, .int 2, .int 1000000000039, .int 1000003, .int 9, .int 8]) hl2
    have tl : ∀ G : Hp, DpAll K G [.int 9973, .int 26500305465, .int 7919, .int 4, .int 2, .int 1000000000039, .int 1000003, .int 9, .int 8] [.int 9973, .int 26500305465, .int 7919, .int 4, .int 2, .int 1000000000039, .int 1000003, .int 9, .int 8] := fun G => dpa_ints [9973, 26500305465, 7919, 4, 2, 1000000000039, 1000003, 9, 8]
    refine ⟨_, rfl, _, _, .list [w5d, .int 9973, .int 26500305465, .int 7919, .int 4, .int 2, .int 1000000000039, .int 1000003, .int 9, .int 8], rfl, .lst (SqL.of upd_same) (.cons (words_dp T _) (tl _)), .lst (SqL.of (s3 _ _ upd_same)) (.cons (.tup (.inl (.inl (s3 _ _ (s2 _ _ upd_same)))) (.cons (.str _) (.cons (.str _) (.cons (.str _) (.cons (.str _) (.cons (.str _) .nil)))))) (tl _)), (by decide), (by decide), fun G s => ?_⟩
    exact q G (s1.trans (s2.trans (s3.trans s)))
end
section
variable {P : Program} {w : World} {K : PySem.W.Frag} {mg : Str → Option Value} {base : Heap}
theorem root_in : ("StartError" : Str) ∈ ERRS := by decide +kernel
theorem okLaw (T : Tx K mg) : FnOk P w K mg base CX0 5 (He.ga K "law") T.fdLaw ["_law_script"] (spLaw K) := by
  have B := T.B
  have GLWordsRight : FnOk P w K mg base CX0 4 (He.ga K "_law_words_right") T.fdLWordsRight [] spLWordsRight := okLWordsRight T
  have bLWordsRight := T.bLWordsRight
  have GLFolded : FnOk P w K mg base CX0 1 (He.ga K "_law_folded") T.fdLFolded ["_law_script", "_law_size"] (spLFolded K) := okLFolded T
  have bLFolded := T.bLFolded
  have GLBox : FnOk P w K mg base CX0 1 (He.ga K "_law_box") T.fdLBox ["_law_script", "_law_k"] (spLBox K) := okLBox T
  have bLBox := T.bLBox
  have GLPick : FnOk P w K mg base CX0 2 (He.ga K "_law_pick") T.fdLPick ["_law_box_here", "_law_things"] spLPick := okLPick T
  have bLPick := T.bLPick
  have GLAll : FnOk P w K mg base CX0 3 (He.ga K "_law_all") T.fdLAll ["_law_thing"] (spLAll K) := okLAll T
  have bLAll := T.bLAll
  have GLAllNamed : FnOk P w K mg base CX0 3 (He.ga K "_law_all_named") T.fdLAllNamed ["_law_thing"] (spLAll K) := okLAllNamed T
  have bLAllNamed := T.bLAllNamed
  have GLMarks : FnOk P w K mg base CX0 1 (He.ga K "_law_marks") T.fdLMarks ["_law_error"] (spLMarks K) := okLMarks T
  have bLMarks := T.bLMarks
  have GLSame : FnOk P w K mg base CX0 3 (He.ga K "_law_same") T.fdLSame ["_law_found", "_law_due"] (spLSame K 3) := okLSame T 3
  have bLSame := T.bLSame
  have GStartErrorInit : FnOk P w K mg base CX0 1 (He.ma K (He.ga K "StartError") "__init__") T.fdStartErrorInit ["self", "what"] (spInitE K) := okStartErrorInit T
  have bStartErrorInit := T.bStartErrorInit
  have GStartErrorInit : FnOk P w K mg base CX0 1 (He.ma K (He.ga K "StartError") "__init__") T.fdStartErrorInit ["self", "what"] (spInitE K) := okStartErrorInit T
  have bStartErrorInit := T.bStartErrorInit
  have kStartErrorInit := kb_init T
  refine T.FLaw.ok scLaw (fun vs H Q E h => ?_) (fun cdv A outer s H vs Q E hr h => ?_)
  · obtain ⟨a, ns, rfl, _⟩ := h
    rfl
  · obtain ⟨a, ns, rfl, hS, hlen, q⟩ := h
    refine ⟨_, PSs.nox (pss_cons (ps_for PassesOwn.never rfl (pi_enum (by rfl) B.b_enumerate (pa_cons (pe_call GLFolded (hr.mono (by decide)) (by rfl) T.gLFolded T.FLFolded.kp bLFolded .nil pass0 (pa_cons (pv 0) (pa_cons pe_int pa_nil))) pa_nil)) (pg_tup rfl (pgs_cons (pg_name (i := 1) scLaw.nd rfl (Or.inl rfl)) (pgs_cons (pg_name (i := 2) scLaw.nd rfl (Or.inl rfl)) pgs_nil)))
        (pss_cons (ps_set (i := 3) scLaw.nd rfl (.inl rfl) (pe_call GLBox (hr.mono (by decide)) (by rfl) T.gLBox T.FLBox.kp bLBox .nil pass0 (pa_cons (pe_lst (pa_cons (pv 2) pa_nil)) (pa_cons pe_int pa_nil))))
        (pss_cons (ps_set (i := 2) scLaw.nd rfl (.inl rfl) (pe_op op_mod (pv 2) (pe_op op_pow pe_int pe_int)))
        (pss_cons (ps_set (i := 4) scLaw.nd rfl (.inl rfl) (pe_call GLPick (hr.mono (by decide)) (by rfl) T.gLPick T.FLPick.kp bLPick .nil pass0 (pa_cons (pv 3) (pa_cons (pe_lst (pa_cons (pv 2) (pa_cons pe_non (pa_cons pe_bl (pa_cons pe_str (pa_cons pe_str (pa_cons (pe_tup (pa_cons pe_int (pa_cons pe_str (pa_cons pe_str (pa_cons pe_int pa_nil))))) (pa_cons (pe_lst (pa_cons (pv 2) pa_nil)) (pa_cons (pe_tup (pa_cons pe_str (pa_cons (pe_un un_neg pe_int) pa_nil))) (pa_cons (pe_un un_neg pe_int) (pa_cons pe_str pa_nil))))))))))) pa_nil))))
        (pss_cons (ps_for PassesOwn.never rfl (pi_tup (pe_tup (pa_cons (pe_call GLAll (hr.mono (by decide)) (by rfl) T.gLAll T.FLAll.kp bLAll .nil pass0 (pa_cons (pv 4) pa_nil)) (pa_cons (pe_call GLAllNamed (hr.mono (by decide)) (by rfl) T.gLAllNamed T.FLAllNamed.kp bLAllNamed .nil pass0 (pa_cons (pv 4) pa_nil)) pa_nil)))) (pg_name (i := 5) scLaw.nd rfl (Or.inl rfl))
        (pss_one (ps_for PassesOwn.never rfl (pi_enum (by rfl) B.b_enumerate (pa_cons (pv 5) pa_nil)) (pg_tup rfl (pgs_cons (pg_name (i := 6) scLaw.nd rfl (Or.inl rfl)) (pgs_cons (pg_name (i := 7) scLaw.nd rfl (Or.inl rfl)) pgs_nil)))
        (pss_cons (ps_if (PW.pt (pw_or (pt_cmpR (op_neD hr.units) (pe_call GLMarks (hr.mono (by decide)) (by rfl) T.gLMarks T.FLMarks.kp bLMarks .nil pass0 (pa_cons (pv 7) pa_nil)) (pe_lst (pa_cons (pv 6) pa_nil)) (nomark _)) (pw_or1 (pt_not (pt_val (pe_callB call_isX (by rfl) B.b_isinstance boot_isinstance (pa_cons (pv 7) (pa_cons (pe_glob (v := .ref (He.ga K "StartError")) (by rfl) T.gStartError rfl) pa_nil)))))))) (pss_one (ps_ret pe_bl)) pss_nil)
        (pss_one (ps_if (PW.pt (pw_or (pt_not (pt_val (pe_callB call_isX (by rfl) B.b_isinstance boot_isinstance (pa_cons (pv 7) (pa_cons (pe_bltn (v := .ty "ValueError") (by rfl) B.b_ValueError (by decide +kernel) rfl) pa_nil))))) (pw_or1 (pt_not (pt_val (pe_call GLSame (hr.mono (by decide)) (by rfl) T.gLSame T.FLSame.kp bLSame .nil pass0 (pa_cons (pe_what (pv 7)) (pa_cons (pv 4) pa_nil)))))))) (pss_one (ps_ret pe_bl)) pss_nil))))))
        (pss_one (ps_if (PW.pt (pw_or (pt_cmpR (op_neD hr.units) (pe_call GLMarks (hr.mono (by decide)) (by rfl) T.gLMarks T.FLMarks.kp bLMarks .nil pass0 (pa_cons (pe_mkE (err_cl T.er (c := "StartError") (by decide +kernel)) GStartErrorInit (hr.mono (by decide)) bStartErrorInit (by rfl) T.gStartError (pa_cons (pv 4) pa_nil)) pa_nil)) (pe_lst pa_nil) (nomark _)) (pw_or1 (pt_not (pt_val (pe_call GLSame (hr.mono (by decide)) (by rfl) T.gLSame T.FLSame.kp bLSame .nil pass0 (pa_cons (pe_what (pe_mkEK (err_cl T.er (c := "StartError") (by decide +kernel)) GStartErrorInit (hr.mono (by decide)) kStartErrorInit (by rfl) T.gStartError (pk_cons (pv 4) pk_nil))) (pa_cons (pv 4) pa_nil)))))))) (pss_one (ps_ret pe_bl)) pss_nil)))))))
        (pss_one (ps_ret (pe_call0 GLWordsRight (hr.mono (by decide)) (by rfl) T.gLWordsRight T.FLWordsRight.kp bLWordsRight .nil pass0)))), ?_⟩
    refine ⟨_, rfl, a, ns, rfl, hS, hlen, fun lf cs G0 s0 hlf hcs => ?_⟩
    refine ⟨lf, _, rfl, SqL.of hlf, for_it (walk_enum (xs := cs.map V.int)) (fun j σ G => Same G0 G ∧ ∃ x1 x2 x3 x4 x5 x6 x7, σ = [some (.ref a), x1, x2, x3, x4, x5, x6, x7]) ⟨Same.refl _, _, _, _, _, _, _, _, rfl⟩ (fun _ _ G _ h => h.1.seq (SqL.of hlf)) ?_ ?_⟩
    · rintro j x σ G G1 hj ⟨sG, x1, x2, x3, x4, x5, x6, x7, rfl⟩ ⟨T1, y1, y2, rfl, hT, rfl, hy1, hy2⟩
      obtain ⟨z, rfl⟩ : ∃ z, y2 = V.int z := by
        have hy2 : (cs.map V.int)[j]? = some y2 := hy2
        rw [List.getElem?_map] at hy2
        cases e : cs[j]? with
        | none => rw [e] at hy2; cases hy2
        | some b => rw [e] at hy2; exact ⟨b, (Option.some.inj hy2).symm⟩
      have sT := same_new (o := .tup [y1, V.int z]) hT
      refine ⟨T1, _, rfl, .inl (.inl upd_same), rfl, _, _, rfl, _, _, rfl, rfl, ?_⟩
      -- the box
      refine ⟨_, rfl, (by show 1 ≤ sizeLine; decide), fun l1 hl1 => ?_⟩
      have s1 := same_new (o := .lst [.int z]) hl1
      refine ⟨l1, [z], 0, rfl, SqL.of upd_same, by decide, fun p x y hp hx hy hy2 => ?_⟩
      have sP := same_new (o := .lst [.int x, .int y, .int 0]) hp
      have box0 : ∀ Gz : Hp, Gz p = some (.lst [.int x, .int y, .int 0]) → Box Gz p 0 := fun Gz e => ⟨x, y, 0, e, hx, hy, hy2, Int.le_refl _, Int.le_refl _⟩
      refine ⟨_, rfl, _, _, rfl, rfl, ⟨by decide, by decide, by decide⟩, _, _, rfl, rfl, (show (0 : Int) < 10 ^ Int.toNat 30 by decide), ?_⟩
      -- the thing
      refine ⟨_, rfl, _, rfl, (by show 4 ≤ sizeLine; decide), fun t1 ht1 => ?_⟩
      have sa := same_new (o := .tup [.int 0, .str (Str.ofString "load"), .str (Str.ofString "a"), .int 3]) ht1
      refine ⟨_, rfl, (by show 1 ≤ sizeLine; decide), fun l2 hl2 => ?_⟩
      have sb := same_new (o := .lst [.int (z % 10 ^ Int.toNat 30)]) hl2
      refine ⟨1, rfl, (by show 2 ≤ sizeLine; decide), fun t2 ht2 => ?_⟩
      have sc := same_new (o := .tup [.str (Str.ofString "out"), .int (-1)]) ht2
      refine ⟨1, rfl, (by show 10 ≤ sizeLine; decide), fun lm hlm => ?_⟩
      have sd := same_new (o := .lst [.int (z % 10 ^ Int.toNat 30), .non, .bl true, .str (Str.ofString ""), .str (Str.ofString "boot"), .ref t1, .ref l2, .ref t2, .int (-1), .str (Str.ofString "off")]) hlm
      have sPd := sa.trans (sb.trans (sc.trans sd))
      have hBd := (box0 _ upd_same).same sPd
      have nlm : lm ≠ p := (((box0 _ upd_same).same sa).same (sb.trans sc)).ne hlm
      have nt1 : t1 ≠ p := (box0 _ upd_same).ne ht1
      have nl2 : l2 ≠ p := ((box0 _ upd_same).same sa).ne hl2
      have nt2 : t2 ≠ p := (((box0 _ upd_same).same sa).same sb).ne ht2
      refine ⟨p, lm, _, 0, rfl, hBd, by decide, nlm, upd_same, (by show 0 < 10; decide), (by show 10 < 1000; decide), fun v G2 mv b2 hB2 => ?_⟩
      obtain ⟨d, hd, hd1, hd2⟩ : ∃ d, Dp K G2 v d ∧ dep d < 3 ∧ wid d ≤ 1000000 := by
        simp only [List.mem_cons, List.mem_nil_iff, or_false] at mv
        rcases mv with rfl | rfl | rfl | rfl | rfl | rfl | rfl | rfl | rfl | rfl
        · exact ⟨_, .int _, by show 0 < 3; decide, by show 0 ≤ 1000000; decide⟩
        · exact ⟨_, .non, by decide, by decide⟩
        · exact ⟨_, .bl _, by decide, by decide⟩
        · exact ⟨_, .str _, by show 0 < 3; decide, by show 0 ≤ 1000000; decide⟩
        · exact ⟨_, .str _, by show 0 < 3; decide, by show 0 ≤ 1000000; decide⟩
        · exact ⟨_, .tup (.inl (.inl (b2 _ _ (sd _ _ (sc _ _ (sb _ _ upd_same))) nt1))) (.cons (.int _) (.cons (.str _) (.cons (.str _) (.cons (.int _) .nil)))), by show 1 < 3; decide, by show 4 ≤ 1000000; decide⟩
        · exact ⟨_, .lst (SqL.of (b2 _ _ (sd _ _ (sc _ _ upd_same)) nl2)) (.cons (.int _) .nil), by show 1 < 3; decide, by show 1 ≤ 1000000; decide⟩
        · exact ⟨_, .tup (.inl (.inl (b2 _ _ (sd _ _ upd_same) nt2))) (.cons (.str _) (.cons (.int _) .nil)), by show 1 < 3; decide, by show 2 ≤ 1000000; decide⟩
        · exact ⟨_, .int _, by show 0 < 3; decide, by show 0 ≤ 1000000; decide⟩
        · exact ⟨_, .str _, by show 0 < 3; decide, by show 0 ≤ 1000000; decide⟩
      have sG2 : Same G0 G2 := same_but (G1 := G) (sG.trans (sT.trans s1)) hp ((But.of sPd).trans b2)
      -- the errors
      refine ⟨_, rfl, v, rfl, fun la as1 Ga s3 hla E1 => ?_⟩
      refine ⟨_, rfl, v, rfl, fun lb as2 Gb s4 hlb E2 => ?_⟩
      refine ⟨(by show 2 ≤ sizeLine; decide), fun tt htt => ?_⟩
      have s5 := same_new (o := .tup [.ref la, .ref lb]) htt
      have rows : ∀ r : V, r ∈ [V.ref la, V.ref lb] → ∃ (lr : Addr) (as : List Addr), r = .ref lr ∧ Gb lr = some (.lst (as.map V.ref)) ∧ Errs K Gb v as E18 := by
        intro r hr
        simp only [List.mem_cons, List.mem_nil_iff, or_false] at hr
        rcases hr with rfl | rfl
        · exact ⟨la, as1, rfl, s4 _ _ hla, errs_same s4 E1⟩
        · exact ⟨lb, as2, rfl, hlb, E2⟩
      refine ⟨tt, rfl, ⟨_, .inl (.inl upd_same)⟩, for_it (walk_tup (xs := [V.ref la, V.ref lb])) (fun i σ Gc => Same Gb Gc ∧ SqT K Gc tt [.ref la, .ref lb] ∧ ∃ x1 x2 x3 x5 x6 x7, σ = [some (.ref a), x1, x2, x3, some v, x5, x6, x7]) ⟨s5, .inl (.inl upd_same), _, _, _, _, _, _, rfl⟩ (fun _ _ _ _ h => h.2.1) ?_ ?_⟩
      · rintro i r σ Gc Gc1 hi ⟨sc1, htc, x1, x2, x3, x5, x6, x7, rfl⟩ ⟨rfl, hr⟩
        obtain ⟨lr, as, rfl, hlr, ER⟩ := rows r (List.mem_of_getElem? hr)
        refine ⟨_, rfl, lr, _, rfl, SqL.of (sc1 _ _ hlr), for_it (walk_enum (xs := as.map V.ref)) (fun i2 σ Gd => Same Gc1 Gd ∧ ∃ x1 x2 x3 x6 x7, σ = [some (.ref a), x1, x2, x3, some v, some (.ref lr), x6, x7]) ⟨Same.refl _, _, _, _, _, _, rfl⟩ (fun _ _ Gd _ h => h.1.seq (SqL.of (sc1 _ _ hlr))) ?_ ?_⟩
        · rintro i2 x σ Gd Gd1 hi2 ⟨sd1, x1, x2, x3, x6, x7, rfl⟩ ⟨T2, w1, w2, rfl, hT2, rfl, hw1, hw2⟩
          have e1 : V.int (i2 : Int) = w1 := Option.some.inj hw1
          subst e1
          obtain ⟨ea, rfl, hea⟩ : ∃ ea, w2 = V.ref ea ∧ as[i2]? = some ea := by
            have hw2 : (as.map V.ref)[i2]? = some w2 := hw2
            rw [List.getElem?_map] at hw2
            cases e : as[i2]? with
            | none => rw [e] at hw2; cases hw2
            | some b => rw [e] at hw2; exact ⟨b, (Option.some.inj hw2).symm, rfl⟩
          obtain ⟨er, h18⟩ := errs_at ER hea
          have h18 : i2 < 18 := h18
          have hin := e18_in i2 h18
          have sT2 := same_new (o := .tup [V.int (i2 : Int), .ref ea]) hT2
          have er1 := er.same (sc1.trans (sd1.trans sT2))
          refine ⟨T2, _, rfl, .inl (.inl upd_same), rfl, _, _, rfl, _, _, rfl, rfl, ?_⟩
          refine ⟨_, rfl, ea, _, v, rfl, hin, er1, fun l3 G3 s6 hl3 => ?_⟩
          rw [hits_one i2 h18] at hl3
          refine ⟨_, rfl, (by show 1 ≤ sizeLine; decide), fun l4 hl4 => ?_⟩
          have s7 := same_new (o := .lst [.int (i2 : Int)]) hl4
          refine ⟨.list [.int (i2 : Int)], .list [.int (i2 : Int)], .lst (SqL.of (s7 _ _ hl3)) (.cons (.int _) .nil), .lst (SqL.of upd_same) (.cons (.int _) .nil), rfl, rfl, _, rfl, ?_⟩
          rw [SeqAt.eqv_refl _ rfl]
          refine iteF ?_
          have er2 := er1.same (s6.trans s7)
          refine ⟨_, rfl, ea, _, _, _, _, _, _, rfl, .own _, er2, err_cl T.er hin, err_is T.er hin root_in, _, rfl, ?_⟩
          rw [show (decide (("StartError" : Str) = ("StartError" : Str))) = true from decide_eq_true rfl, Bool.or_true]
          refine iteF ?_
          refine ⟨_, rfl, ea, _, _, _, _, _, _, rfl, .ty _, er2, err_cl T.er hin, err_ve T.er hin, _, rfl, iteF ?_⟩
          have hdv := dp_same (s3.trans (s4.trans (sc1.trans (sd1.trans (sT2.trans (s6.trans s7)))))) d v hd
          refine ⟨_, rfl, ea, _, _, v, rfl, er2, err_cl T.er hin, _, rfl, _, _, d, rfl, hdv, hdv, hd1, hd2, fun G4 s8 => ⟨_, rfl, iteF ?_⟩⟩
          exact ⟨sd1.trans (sT2.trans (s6.trans (s7.trans s8))), _, _, _, _, _, rfl⟩
        · rintro σ Gd ⟨sd1, x1, x2, x3, x6, x7, rfl⟩
          exact ⟨sc1.trans sd1, seqT_same sd1 htc, _, _, _, _, _, _, rfl⟩
      · rintro σ Gc ⟨sc1, htc, x1, x2, x3, x5, x6, x7, rfl⟩
        refine ⟨_, rfl, _, rfl, fun ea G3 n3 s6 er => ?_⟩
        refine ⟨ea, _, v, rfl, root_in, er, fun l3 G4 s7 hl3 => ?_⟩
        rw [hits_root] at hl3
        refine ⟨Nat.zero_le _, fun l4 hl4 => ?_⟩
        have s8 := same_new (o := .lst []) hl4
        refine ⟨.list [], .list [], .lst (SqL.of (s8 _ _ hl3)) .nil, .lst (SqL.of upd_same) .nil, rfl, rfl, _, rfl, ?_⟩
        rw [SeqAt.eqv_refl _ rfl]
        refine iteF ?_
        refine ⟨_, rfl, _, rfl, fun eb G5 n5 s9 er2 => ?_⟩
        have hdv := dp_same (s3.trans (s4.trans (sc1.trans (s6.trans (s7.trans (s8.trans s9)))))) d v hd
        refine ⟨eb, _, _, v, rfl, er2, err_cl T.er root_in, _, rfl, _, _, d, rfl, hdv, hdv, hd1, hd2, fun G6 s10 => ⟨_, rfl, iteF ?_⟩⟩
        exact ⟨sG2.trans (s3.trans (s4.trans (sc1.trans (s6.trans (s7.trans (s8.trans (s9.trans s10))))))), _, _, _, _, _, _, _, rfl⟩
    · rintro σ G ⟨sG, _⟩
      exact ⟨rfl, fun G2 s2 => q G2⟩
end
section
variable {P : Program} {w : World} {K : PySem.W.Frag} {mg : Str → Option Value} {base : Heap}
def ddLBox : He.DefD := ⟨("_law_box", none), "_law_box", "_law_box", defArgs sLBox, defBody sLBox, defScope sLBox, [], []⟩
def ddLTake : He.DefD := ⟨("_law_take", none), "_law_take", "_law_take", defArgs sLTake, defBody sLTake, defScope sLTake, [], []⟩
def ddLPick : He.DefD := ⟨("_law_pick", none), "_law_pick", "_law_pick", defArgs sLPick, defBody sLPick, defScope sLPick, [], []⟩
def ddLFolded : He.DefD := ⟨("_law_folded", none), "_law_folded", "_law_folded", defArgs sLFolded, defBody sLFolded, defScope sLFolded, [], []⟩
def ddLSame : He.DefD := ⟨("_law_same", none), "_law_same", "_law_same", defArgs sLSame, defBody sLSame, defScope sLSame, [], []⟩
def ddLMarks : He.DefD := ⟨("_law_marks", none), "_law_marks", "_law_marks", defArgs sLMarks, defBody sLMarks, defScope sLMarks, [], []⟩
def ddLAll : He.DefD := ⟨("_law_all", none), "_law_all", "_law_all", defArgs sLAll, defBody sLAll, defScope sLAll, [], []⟩
def ddLAllNamed : He.DefD := ⟨("_law_all_named", none), "_law_all_named", "_law_all_named", defArgs sLAllNamed, defBody sLAllNamed, defScope sLAllNamed, [], []⟩
def ddLWordsRight : He.DefD := ⟨("_law_words_right", none), "_law_words_right", "_law_words_right", defArgs sLWordsRight, defBody sLWordsRight, defScope sLWordsRight, [], []⟩
def ddLaw : He.DefD := ⟨("law", none), "law", "law", defArgs sLaw, defBody sLaw, defScope sLaw, [], []⟩
def ddStartErrorInit : He.DefD := ⟨("StartError", some "__init__"), "__init__", "StartError.__init__", defArgs sStartErrorInit, defBody sStartErrorInit, defScope sStartErrorInit, [], []⟩
def hfn : List He.DefD := [ddLBox, ddLTake, ddLPick, ddLFolded, ddLSame, ddLMarks, ddLAll, ddLAllNamed, ddLWordsRight, ddLaw, ddStartErrorInit]
def hfa : List He.Fa := [.free "ValueError", .free "repr", .free "len", .free "abs", .free "int", .free "isinstance", .free "list", .free "tuple", .free "str", .free "bool", .free "all", .free "zip", .free "range", .free "max", .free "min", .free "enumerate", .free "divmod", .glo "_law_box", .glo "_law_take", .glo "_law_pick", .glo "_law_folded", .glo "_law_same", .glo "_law_marks", .glo "_law_all", .glo "_law_all_named", .glo "_law_words_right", .glo "law", .int "NOTES" 9973, .int "SPAN" 26500305465, .int "FACTOR" 7919, .int "BOARDS" 4, .int "FIXED" 2, .int "SIGNS" 1000000000039, .int "FOLD" 1000003, .int "LIFE" 9, .int "MACHINES" 8, .glo "StartError", .glo "NoName", .glo "NoRow", .glo "BadMixing", .glo "NoBoard", .glo "BadLog", .glo "BadStep", .glo "BadHand", .glo "BadMachine", .glo "NotYet", .glo "Fixed", .glo "BadText", .glo "BadLine", .glo "Known", .glo "Unknown", .glo "TooMany", .glo "BadDeed", .glo "NoNumber", .glo "NoPacket", .glo "WORDS"]
def hex (K : PySem.W.Frag) : Bool := errOk K "StartError" ERRS && tupD K "WORDS" [.str "load", .str "set", .str "end", .str "late", .str "reset"]
abbrev hR : PySem.W.OpenRow := PySem.W.OpenLaw.row PySem.Challenge.rw_startlog_k01_words_and_refusals
abbrev hk : PySem.W.Hook := hookE 5 hfa hfn hex
def hob (s : PySem.W.SharedT) : He.AlD × Bool := obsE 5 hfa hfn hex (HandSHeadRun.getT s)
theorem hob_eq (s : PySem.W.SharedT) : hob s = hk.obs s.abs := obsE_eq (HandSHeadRun.getT_eq s)
def hloose0 : List Str := ["WORDS", "NOTES", "SPAN", "FACTOR", "BOARDS", "FIXED", "SIGNS", "FOLD", "LIFE", "MACHINES", "StartError", "NoName"]
def hloose1 : List Str := ["NoRow", "BadMixing", "NoBoard", "BadLog", "BadStep", "BadHand", "BadMachine", "NotYet", "Fixed", "BadText", "BadLine", "Known"]
def hloose2 : List Str := ["Unknown", "TooMany", "BadDeed", "NoNumber", "NoPacket", "_law_box", "_law_take", "_law_pick", "_law_folded", "_law_same", "_law_marks", "_law_all"]
def hloose3 : List Str := ["_law_all_named", "_law_words_right"]
def hloose : List Str := hloose0 ++ hloose1 ++ hloose2 ++ hloose3
theorem hrun (w : World) : HandSHeadRun.RunEq hR (PySem.W.view hR.prog [40]) hk hob 8000 hloose w := by
  intro os
  kernel_rfl
theorem tx_of {K : PySem.W.Frag} {h : Heap} {mg : Str → Option Value} (X : K.In h) (G : h.Ns mainGlobals mg) (c : He.SaysD hfa hfn K) (cx : hex K = true) : ∃ T : Tx K mg, True := by
  obtain ⟨f0, F0⟩ := c.def_ 0 (d := ddLBox) rfl
  obtain ⟨f1, F1⟩ := c.def_ 1 (d := ddLTake) rfl
  obtain ⟨f2, F2⟩ := c.def_ 2 (d := ddLPick) rfl
  obtain ⟨f3, F3⟩ := c.def_ 3 (d := ddLFolded) rfl
  obtain ⟨f4, F4⟩ := c.def_ 4 (d := ddLSame) rfl
  obtain ⟨f5, F5⟩ := c.def_ 5 (d := ddLMarks) rfl
  obtain ⟨f6, F6⟩ := c.def_ 6 (d := ddLAll) rfl
  obtain ⟨f7, F7⟩ := c.def_ 7 (d := ddLAllNamed) rfl
  obtain ⟨f8, F8⟩ := c.def_ 8 (d := ddLWordsRight) rfl
  obtain ⟨f9, F9⟩ := c.def_ 9 (d := ddLaw) rfl
  obtain ⟨f10, F10⟩ := c.def_ 10 (d := ddStartErrorInit) rfl
  obtain ⟨e0, t0⟩ := He.ba cx
  exact ⟨⟨⟨He.free_ok X G (c.fact 0 (f := .free "ValueError") rfl), He.free_ok X G (c.fact 1 (f := .free "repr") rfl), He.free_ok X G (c.fact 2 (f := .free "len") rfl), He.free_ok X G (c.fact 3 (f := .free "abs") rfl), He.free_ok X G (c.fact 4 (f := .free "int") rfl), He.free_ok X G (c.fact 5 (f := .free "isinstance") rfl), He.free_ok X G (c.fact 6 (f := .free "list") rfl), He.free_ok X G (c.fact 7 (f := .free "tuple") rfl), He.free_ok X G (c.fact 8 (f := .free "str") rfl), He.free_ok X G (c.fact 9 (f := .free "bool") rfl), He.free_ok X G (c.fact 10 (f := .free "all") rfl), He.free_ok X G (c.fact 11 (f := .free "zip") rfl), He.free_ok X G (c.fact 12 (f := .free "range") rfl), He.free_ok X G (c.fact 13 (f := .free "max") rfl), He.free_ok X G (c.fact 14 (f := .free "min") rfl), He.free_ok X G (c.fact 15 (f := .free "enumerate") rfl), He.free_ok X G (c.fact 16 (f := .free "divmod") rfl)⟩,
    He.int_ok X G (c.fact 27 (f := .int "NOTES" 9973) rfl),
    He.int_ok X G (c.fact 28 (f := .int "SPAN" 26500305465) rfl),
    He.int_ok X G (c.fact 29 (f := .int "FACTOR" 7919) rfl),
    He.int_ok X G (c.fact 30 (f := .int "BOARDS" 4) rfl),
    He.int_ok X G (c.fact 31 (f := .int "FIXED" 2) rfl),
    He.int_ok X G (c.fact 32 (f := .int "SIGNS" 1000000000039) rfl),
    He.int_ok X G (c.fact 33 (f := .int "FOLD" 1000003) rfl),
    He.int_ok X G (c.fact 34 (f := .int "LIFE" 9) rfl),
    He.int_ok X G (c.fact 35 (f := .int "MACHINES" 8) rfl),
    f0,
    F0,
    He.glo_ok X G (c.fact 17 (f := .glo "_law_box") rfl),
    f1,
    F1,
    He.glo_ok X G (c.fact 18 (f := .glo "_law_take") rfl),
    f2,
    F2,
    He.glo_ok X G (c.fact 19 (f := .glo "_law_pick") rfl),
    f3,
    F3,
    He.glo_ok X G (c.fact 20 (f := .glo "_law_folded") rfl),
    f4,
    F4,
    He.glo_ok X G (c.fact 21 (f := .glo "_law_same") rfl),
    f5,
    F5,
    He.glo_ok X G (c.fact 22 (f := .glo "_law_marks") rfl),
    f6,
    F6,
    He.glo_ok X G (c.fact 23 (f := .glo "_law_all") rfl),
    f7,
    F7,
    He.glo_ok X G (c.fact 24 (f := .glo "_law_all_named") rfl),
    f8,
    F8,
    He.glo_ok X G (c.fact 25 (f := .glo "_law_words_right") rfl),
    f9,
    F9,
    He.glo_ok X G (c.fact 26 (f := .glo "law") rfl),
    f10,
    F10,
    He.glo_ok X G (c.fact 36 (f := .glo "StartError") rfl),
    He.glo_ok X G (c.fact 37 (f := .glo "NoName") rfl),
    He.glo_ok X G (c.fact 38 (f := .glo "NoRow") rfl),
    He.glo_ok X G (c.fact 39 (f := .glo "BadMixing") rfl),
    He.glo_ok X G (c.fact 40 (f := .glo "NoBoard") rfl),
    He.glo_ok X G (c.fact 41 (f := .glo "BadLog") rfl),
    He.glo_ok X G (c.fact 42 (f := .glo "BadStep") rfl),
    He.glo_ok X G (c.fact 43 (f := .glo "BadHand") rfl),
    He.glo_ok X G (c.fact 44 (f := .glo "BadMachine") rfl),
    He.glo_ok X G (c.fact 45 (f := .glo "NotYet") rfl),
    He.glo_ok X G (c.fact 46 (f := .glo "Fixed") rfl),
    He.glo_ok X G (c.fact 47 (f := .glo "BadText") rfl),
    He.glo_ok X G (c.fact 48 (f := .glo "BadLine") rfl),
    He.glo_ok X G (c.fact 49 (f := .glo "Known") rfl),
    He.glo_ok X G (c.fact 50 (f := .glo "Unknown") rfl),
    He.glo_ok X G (c.fact 51 (f := .glo "TooMany") rfl),
    He.glo_ok X G (c.fact 52 (f := .glo "BadDeed") rfl),
    He.glo_ok X G (c.fact 53 (f := .glo "NoNumber") rfl),
    He.glo_ok X G (c.fact 54 (f := .glo "NoPacket") rfl),
    e0,
    He.glo_ok X G (c.fact 55 (f := .glo "WORDS") rfl),
    t0⟩, trivial⟩


end
end Sl
open PySem PySem.W PySem.Calls PyProof.Rows
set_option maxRecDepth 100000 in
set_option maxHeartbeats 0 in
theorem PySem.Challenge.cw_startlog_k01_words_and_refusals_holds : PySem.Challenge.rw_startlog_k01_words_and_refusals.Holds := by
  w_on; o_law
  refine HandSHeadRun.head_any (r := OpenLaw.row PySem.Challenge.rw_startlog_k01_words_and_refusals) (q := view (OpenLaw.row PySem.Challenge.rw_startlog_k01_words_and_refusals).prog [40]) (H := Sl.hk) (ob := Sl.hob) (M := 8000) (loose := Sl.hloose) (d := HandSHeadRun.topDef (OpenLaw.row PySem.Challenge.rw_startlog_k01_words_and_refusals).prog 40) (kwd := []) Sl.hob_eq
    (by kernel_rfl) (fun s => by kernel_rfl) Sl.hrun (by kernel_rfl) (by kernel_rfl) (by kernel_rfl) (by rfl) (by first | assumption | decide +kernel) (by decide +kernel) ⟨rfl, rfl, rfl, rfl, rfl, by decide +kernel⟩ ?hw ?hc
  case hw => w_witness2
  case hc =>
    refine L2.walk_ofE (l := PySem.Challenge.rw_startlog_k01_words_and_refusals) (n := 63) (k := 5) (x := "_law_script") (CX := L2.CX0) rfl (by decide) (by kernel_rfl) ⟨rfl, by decide, by decide⟩ ?F (fun _ _ _ _ z => z)
    intro w mg fa h Y G hmg0
    obtain ⟨K, KX, c, cx⟩ := Y
    have hmg : mg ("law" : PySem.Str) = some (.ref fa) := by
      have e : (HandSHeadRun.topDef (OpenLaw.row PySem.Challenge.rw_startlog_k01_words_and_refusals).prog 40).name = ("law" : PySem.Str) := by kernel_rfl
      rw [← e]
      exact hmg0
    obtain ⟨T, _⟩ := Sl.tx_of KX G c cx
    have e := hmg.symm.trans T.gLaw
    cases e
    exact ⟨K, T.fdLaw, Sl.spLaw K, KX, fun s v => L2.FunD.bindsA (ps := ["_law_script"]) T.FLaw (fun _ _ _ _ _ _ us hl => match us, hl with | [_], _ => rfl) s [v] rfl, fun H a ns hl _ hS => ⟨a, ns, rfl, hS, hl, fun _ => rfl⟩, fun base _ _ => Sl.okLaw T⟩
