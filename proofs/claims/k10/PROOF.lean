import PyProof.Rows.All
import Wide.All
import OpenK.AllK
import Wide.FinOn
import KE.KStateDown
import Lean
import HandS.ForMost
import HandS.More
import HandS.WordsExc
import HandS.IsInst
import HandS.Defaults
import HandS.MakeKwOnly
import HandS.Walk
import HandS.Zip
import HandS.Replace
import HandS.Style
import HandS.Flow
import HandS.Strs
import HandS.Wide
import HandS.WideBits
import HandS.Head0
import HandS.Head1
import HandS.Head2
import HandS.HeadEnd
import HandS.HeadHook1
import HandS.HeadHook2
import PySem.Challenge.RW_startlog_k10_rows_unmixed
set_option Elab.async false
set_option linter.all false
set_option maxRecDepth 100000
set_option maxHeartbeats 4000000
namespace Sl
open PySem PySem.Spec PyProof.Rows L2
section
variable {P : Program} {w : World} {K : PySem.W.Frag} {mg : Str → Option Value} {base : Heap}

end
section
variable {P : Program} {w : World} {K : PySem.W.Frag} {mg : Str → Option Value} {base : Heap}
/-! what the head is asked for besides -/
def tupD (K : PySem.W.Frag) (x : Str) (vs : List He.Dv) : Bool := He.tupB K x vs && (match K.lookup (He.ga K x) with
  | some ⟨_, none, _, _⟩ => true
  | _ => false)
theorem tupD_seq {K : PySem.W.Frag} {x : Str} {vs : List He.Dv} (h : tupD K x vs = true) (H : Hp) : SqT K H (He.ga K x) (vs.map (He.Dv.v K)) := He.tupB_ok (He.ba h).1 H
theorem tupD_ty {K : PySem.W.Frag} {x : Str} {vs : List He.Dv} (h : tupD K x vs = true) : ∃ o, K.lookup (He.ga K x) = some o ∧ o.cls = .type "tuple" ∧ o.dict = none := by
  obtain ⟨h1, h2⟩ := He.ba h
  unfold He.tupB at h1
  cases q : K.lookup (He.ga K x) with
  | none =>
    rw [q] at h2
    cases h2
  | some o =>
    obtain ⟨oc, od, dt, sl⟩ := o
    rw [q] at h1 h2
    cases od with
    | some d => cases h2
    | none =>
      cases oc with
      | type c =>
        cases dt with
        | seq its n =>
          have h3 := (He.ba (show (decide (c = "tuple") && _) = true from h1)).1
          exact ⟨_, rfl, congrArg Value.type (of_decide_eq_true h3), rfl⟩
        | _ => cases h1
      | _ => cases dt <;> cases h1
def obsE (n : Nat) (fa : List He.Fa) (fn : List He.DefD) (ex : PySem.W.Frag → Bool) (g : Addr → Option Obj) : He.AlD × Bool := (He.obsD fa fn (He.frG g (He.asD g n)), ex (He.frG g (He.asD g n)))
def hookE (n : Nat) (fa : List He.Fa) (fn : List He.DefD) (ex : PySem.W.Frag → Bool) : PySem.W.Hook where
  α := He.AlD × Bool
  obs := fun s => obsE n fa fn ex s.heap.get?
  val := fun _ => (He.valD fn, true)
  says := fun _ h => ∃ K : PySem.W.Frag, K.In h ∧ He.SaysD fa fn K ∧ ex K = true
  of := fun _ _ e => ⟨_, He.frG_in, congrArg Prod.fst e, congrArg Prod.snd e⟩
  keeps := fun _ _ _ ⟨K, hK, c⟩ k => ⟨K, PySem.W.Frag.In.keeps hK k, c⟩
theorem obsE_eq {n : Nat} {fa : List He.Fa} {fn : List He.DefD} {ex : PySem.W.Frag → Bool} {g : Addr → Option Obj} {s : Shared} (h : ∀ a, g a = s.heap.get? a) : obsE n fa fn ex g = (hookE n fa fn ex).obs s := by
  have e : g = s.heap.get? := funext h
  rw [e]
  rfl
/-! heaps -/
theorem same_new {H : Hp} {p : Addr} {o : HO} (h : H p = none) : Same H (upd H p o) := fun b x e => by
  rw [upd_ne (ne_of_none e h)]
  exact e
/-- all that was tracked is as it was, but for p -/
def But (p : Addr) (H G : Hp) : Prop := ∀ b o, H b = some o → b ≠ p → G b = some o
theorem But.refl (p : Addr) (H : Hp) : But p H H := fun _ _ h _ => h
theorem But.trans {p : Addr} {H G J : Hp} (a : But p H G) (b : But p G J) : But p H J := fun c o h n => b c o (a c o h n) n
theorem But.of {p : Addr} {H G : Hp} (a : Same H G) : But p H G := fun c o h _ => a c o h
theorem But.upd {p : Addr} {H : Hp} {o : HO} : But p H (upd H p o) := fun b x e n => by
  rw [upd_ne n]
  exact e
/-- a box of draws at p, at most n of them by the second way -/
def Box (H : Hp) (p : Addr) (n : Int) : Prop := ∃ x y z : Int, H p = some (.lst [.int x, .int y, .int z]) ∧ 0 ≤ x ∧ 0 ≤ y ∧ y < 1099511627776 ∧ 0 ≤ z ∧ z ≤ n
theorem Box.mono {H : Hp} {p : Addr} {n m : Int} (b : Box H p n) (h : n ≤ m) : Box H p m := by
  obtain ⟨x, y, z, e, h1, h2, h3, h4, h5⟩ := b
  exact ⟨x, y, z, e, h1, h2, h3, h4, Int.le_trans h5 h⟩
theorem Box.same {H G : Hp} {p : Addr} {n : Int} (b : Box H p n) (s : Same H G) : Box G p n := by
  obtain ⟨x, y, z, e, h⟩ := b
  exact ⟨x, y, z, s _ _ e, h⟩
theorem Box.ne {H : Hp} {p q : Addr} {n : Int} (b : Box H p n) (h : H q = none) : q ≠ p := by
  obtain ⟨x, y, z, e, _⟩ := b
  exact fun k => by rw [k, e] at h; cases h
/-- what is free behind was free ahead -/
theorem But.free {p q : Addr} {H G : Hp} {n : Int} (a : But p H G) (b : Box G p n) (h : G q = none) : H q = none := by
  cases e : H q with
  | none => rfl
  | some o =>
    have := a q o e (b.ne h)
    rw [this] at h
    cases h
theorem seqL_but {K : PySem.W.Frag} {H G : Hp} {p a : Addr} {xs : List V} (s : But p H G) (h : SqL K H a xs) (n : a ≠ p) : SqL K G a xs := by
  rcases h with (h | ⟨o, h⟩) | h
  · exact .inl (.inl (s _ _ h n))
  · exact .inl (.inr ⟨o, s _ _ h n⟩)
  · exact .inr h
theorem seqT_same {K : PySem.W.Frag} {H G : Hp} {a : Addr} {xs : List V} (s : Same H G) (h : SqT K H a xs) : SqT K G a xs := by
  rcases h with (h | ⟨o, h⟩) | h
  · exact .inl (.inl (s _ _ h))
  · exact .inl (.inr ⟨o, s _ _ h⟩)
  · exact .inr h
theorem bit_lo (b : Bool) : -(2 ^ 64 : Int) < (if b = true then 1 else 0 : Int) := by cases b <;> decide
theorem bit_hi (b : Bool) : (if b = true then 1 else 0 : Int) < 2 ^ 64 := by cases b <;> decide
/-- o.m(k = v, ..) -/
def tMethKw (C : Addr) (m : Str) (n k : Nat) (sp : Sp) (gV : List V → List V → List V) (E : XK) (ta : TE) (t tk : TA) : TE := fun σ H Q => ta σ H fun x H1 => ∃ a dx fs, x = .ref a ∧ H1 a = some (.ins C dx fs) ∧ fs.lookup m = none ∧
  t σ H1 fun vs H2 => tk σ H2 fun zs H3 => vs.length = n ∧ zs.length = k ∧ sp (gV (.ref a :: vs) zs) H3 Q E
theorem pe_methKw {X : Cx} {CX : CXT} {k : Nat} {f C : Addr} {fd : FuncData} {ps ks : List Str} {sp : Sp} {E : XK} {m : Str} {o : Expr} {ta : TE} {apos pos : Pos} {kws : List Keyword} {tk : TA} {g : List Value → List Value → List Value} {gV : List V → List V → List V} {pl : Sem Bool}
    (he : PE X o ta) (c : Cls X.K C) (hm : Meth X.K C m f) (F : FnOk X.prog X.w X.K X.mg X.base CX k f fd ps sp) (hr : Room k X.A) (hb : KBn X.K fd ps 1 ks g gV) (hx : Passes CX X E) (hkw : PK X kws tk)
    (h1 : (backToKw pos (keywordEach kws X.env)).all (·.1.isSome) = true := by rfl) (h2 : (backToKw pos (keywordEach kws X.env)).filterMap (·.1) = ks := by rfl)
    (h4 : ((backTo pos (starEach [] X.env)).any (·.1) || (backToKw pos (keywordEach kws X.env)).any (·.1.isNone)) = false := by rfl)
    (ht : eval (.Call (.Attribute o m apos) [] kws pos) X.env = (do
      let ov ← eval o X.env
      standAt apos.atName
      let (f, first) ← holding [ov] (getMethod ov m pl)
      callWith pos f first (backTo pos (starEach [] X.env)) (backToKw pos (keywordEach kws X.env))) := by rfl) :
    PE X (.Call (.Attribute o m apos) [] kws pos) (tMethKw C m 0 ks.length sp gV E ta tNil tk) := by
  refine ⟨fun pins s σ H Q I h => ?_⟩
  refine PySem.W.methodCall_KW (pl := pl) (thn (he.run pins s σ H _ I h) fun u s1 ⟨x, H1, I1, rx, a, dx, fs, ex, ea, l, q⟩ => ?_) ht
  subst ex
  obtain rfl : u = Value.ref a := rx
  refine getmeth_ok I1 ea c hm l ?_
  refine PySem.W.callWith_KW0 (first := [.ref a]) I1.kIn hm.kp h1 ?_ h4
  refine thn (hkw.run pos pins s1 σ H1 _ I1 q) fun ws s2 ⟨zs, H2, I2, rz, l1, l2, q2⟩ => ⟨I2.kIn, ?_⟩
  rw [h2]
  exact run_fnN (us := [.ref a]) (vs := [.ref a]) F hr hb hx I2 (.cons rfl .nil) rz rfl l2 q2
theorem qt {Q : VK} {H : Hp} {c : Prop} [Decidable c] (hc : c) (q : Q (.bl true) H) : Q (.bl (decide c)) H := by
  rw [decide_eq_true hc]
  exact q
theorem qf {Q : VK} {H : Hp} {c : Prop} [Decidable c] (hc : ¬ c) (q : Q (.bl false) H) : Q (.bl (decide c)) H := by
  rw [decide_eq_false hc]
  exact q
/-! kinds -/
theorem ty_list {K : PySem.W.Frag} {H : Hp} {a : Addr} {xs : List V} (h : SqL K H a xs) : TyX K H (.ref a) (.type "list") := by
  rcases h with (h | ⟨o, h⟩) | ⟨o, its, n, h1, h2, _⟩
  · exact .base (.lst h)
  · exact .base (.frz h)
  · exact .kList h1 h2
theorem ty_tup {K : PySem.W.Frag} {H : Hp} {a : Addr} {xs : List V} (h : SqT K H a xs) : TyX K H (.ref a) (.type "tuple") := by
  rcases h with (h | ⟨o, h⟩) | ⟨o, its, n, h1, h2, _⟩
  · exact .base (.tup h)
  · exact .fTuple h
  · exact .kTuple h1 h2
mutual
theorem dp_same {K : PySem.W.Frag} {H G : Hp} (s : Same H G) : ∀ (d : PyData) (v : V), Dp K H v d → Dp K G v d
  | .none, _, h => by cases h; exact .non
  | .bool b, _, h => by cases h; exact .bl b
  | .int i, _, h => by cases h; exact .int i
  | .str x, _, h => by cases h; exact .str x
  | .list ds, _, h => by
    cases h with
    | lst a b => exact .lst (s.seq a) (dps_same s ds _ b)
  | .tuple ds, _, h => by
    cases h with
    | tup a b => exact .tup (seqT_same s a) (dps_same s ds _ b)
  | .dict _, _, h => by cases h
theorem dps_same {K : PySem.W.Frag} {H G : Hp} (s : Same H G) : ∀ (ds : List PyData) (vs : List V), DpAll K H vs ds → DpAll K G vs ds
  | [], _, h => by cases h; exact .nil
  | d :: ds, _, h => by
    cases h with
    | cons a b => exact .cons (dp_same s d _ a) (dps_same s ds _ b)
end
theorem dpa_len {K : PySem.W.Frag} {H : Hp} : ∀ {vs : List V} {ds : List PyData}, DpAll K H vs ds → vs.length = ds.length
  | _, _, .nil => rfl
  | _, _, .cons _ t => congrArg Nat.succ (dpa_len t)
theorem dpa_at {K : PySem.W.Frag} {H : Hp} : ∀ {vs : List V} {ds : List PyData} {i : Nat} {v : V}, DpAll K H vs ds → vs[i]? = some v → ∃ d, ds[i]? = some d ∧ Dp K H v d
  | _, _, i, v, .nil, h => by simp at h
  | _, _, 0, v, .cons a t, h => by
    have e := Option.some.inj h
    subst e
    exact ⟨_, rfl, a⟩
  | _, _, i + 1, v, .cons a t, h => dpa_at (i := i) t h
/-- how deep a datum is -/
def dep : PyData → Nat
  | .list ds => deps ds + 1
  | .tuple ds => deps ds + 1
  | _ => 0
where deps : List PyData → Nat
  | [] => 0
  | d :: ds => max (dep d) (deps ds)
theorem deps_at : ∀ {ds : List PyData} {i : Nat} {d : PyData}, ds[i]? = some d → dep d ≤ dep.deps ds
  | [], i, d, h => by simp at h
  | c :: ds, 0, d, h => by
    have e := Option.some.inj h
    subst e
    exact Nat.le_max_left _ _
  | c :: ds, i + 1, d, h => Nat.le_trans (deps_at (i := i) (ds := ds) h) (Nat.le_max_right _ _)
/-- how wide it is, at most -/
def wid : PyData → Nat
  | .list ds => max ds.length (wids ds)
  | .tuple ds => max ds.length (wids ds)
  | _ => 0
where wids : List PyData → Nat
  | [] => 0
  | d :: ds => max (wid d) (wids ds)
theorem wids_at : ∀ {ds : List PyData} {i : Nat} {d : PyData}, ds[i]? = some d → wid d ≤ wid.wids ds
  | [], i, d, h => by simp at h
  | c :: ds, 0, d, h => by
    have e := Option.some.inj h
    subst e
    exact Nat.le_max_left _ _
  | c :: ds, i + 1, d, h => Nat.le_trans (wids_at (i := i) (ds := ds) h) (Nat.le_max_right _ _)
theorem small6 {n : Nat} (h : n < 1000000) : n < sizeLine := Nat.lt_of_lt_of_le h (by decide)
/-! a call by keywords alone -/
section
variable {X : Cx} {CX : CXT} {k : Nat} {f : Addr} {fd : FuncData} {ps ks : List Str} {sp : Sp} {E : XK} {x : Str} {p pos : Pos} {kws : List Keyword} {tk : TA} {g : List Value → List Value → List Value} {gV : List V → List V → List V}
theorem pe_kwCall (F : FnOk X.prog X.w X.K X.mg X.base CX k f fd ps sp) (hr : Room k X.A) (hg : Gl X x) (hm : X.mg x = some (.ref f)) (kp : PySem.W.keepIn X.K (.ref f) = true) (hb : KBn X.K fd ps 0 ks g gV) (hx : Passes CX X E) (hkw : PK X kws tk)
    (h1 : (backToKw pos (keywordEach kws X.env)).all (·.1.isSome) = true := by rfl) (h2 : (backToKw pos (keywordEach kws X.env)).filterMap (·.1) = ks := by rfl) (h3 : (x == ("__debug__" : Str)) = false := by decide)
    (h4 : ((backTo pos (starEach [] X.env)).any (·.1) || (backToKw pos (keywordEach kws X.env)).any (·.1.isNone)) = false := by rfl) :
    PE X (.Call (.Name x p) [] kws pos) (tCallN 0 ks.length sp gV E tNil tk) := by
  refine ⟨fun pins s σ H Q I h => ?_⟩
  refine wpAny_Call_Name_kw (ld_glob I hg hm ?_ h3)
  refine PySem.W.callWith_KW0 (h₀ := X.base) I.ok.mod.kin kp h1 ?_ h4
  refine thn (hkw.run pos pins s σ H _ I h) fun ws s2 ⟨zs, H2, I2, rz, l1, l2, q2⟩ => ⟨I2.kIn, ?_⟩
  rw [h2]
  exact run_fnN (us := []) (vs := []) F hr hb hx I2 .nil rz rfl l2 q2
end
/-! a call of a def without defaults by keywords -/
theorem kw_plain {K : PySem.W.Frag} {x qual : Str} {params : Arguments} {body : List Stmt} {scope : Scope} {kws : List (Str × V)} {f : Addr} {fd : FuncData} {ps : List Str} (F : FunD K x qual params body scope [] kws f fd) (n : Nat) (ks : List Str) (g : {α : Type} → List α → List α → List α)
    (hrel : ∀ {vs zs : List V} {us ws : List Value}, Vals vs us → Vals zs ws → Vals (g vs zs) (g us ws))
    (h : ∀ (kV doc pm : Value) (an : Option Addr) (cdv ct : Value) (us ws : List Value), us.length = n → ws.length = ks.length → bindArgs (PySem.W.fnOf x qual params body scope .none kV doc pm an cdv ct) ⟨us, ks.zip ws⟩ = pure (ps.zip (g us ws))) : KBn K fd ps n ks (fun us ws => g us ws) (fun vs zs => g vs zs) := by
  obtain ⟨oc, od, dV, kV, doc, pm, an, cdv, ct, osl, rfl, lk, hcd, hD, hK⟩ := F.ex
  rcases hD with ⟨_, rfl⟩ | ⟨e, _⟩
  · exact ⟨fun s us ws _ l1 l2 => .of_eq (h kV doc pm an cdv ct us ws l1 l2), fun r1 r2 => hrel r1 r2⟩
  · exact absurd rfl e
theorem Vals.rev : ∀ {vs : List V} {us : List Value}, Vals vs us → Vals vs.reverse us.reverse
  | _, _, .nil => .nil
  | _, _, .cons a t => by
    rw [List.reverse_cons, List.reverse_cons]
    exact (Vals.rev t).append (.cons a .nil)
/-- lists of numbers as data -/
theorem dpa_ints {K : PySem.W.Frag} {H : Hp} : ∀ l : List Int, DpAll K H (l.map V.int) (l.map PyData.int)
  | [] => .nil
  | i :: l => .cons (.int i) (dpa_ints l)
theorem dep_ints : ∀ l : List Int, dep.deps (l.map PyData.int) = 0
  | [] => rfl
  | i :: l => by
    show max 0 (dep.deps (l.map PyData.int)) = 0
    rw [dep_ints l]
    rfl
theorem wid_ints : ∀ l : List Int, wid.wids (l.map PyData.int) = 0
  | [] => rfl
  | i :: l => by
    show max 0 (wid.wids (l.map PyData.int)) = 0
    rw [wid_ints l]
    rfl
theorem dep_il (l : List Int) : dep (.list (l.map PyData.int)) < 2 := by
  show dep.deps (l.map PyData.int) + 1 < 2
  rw [dep_ints]
  decide
theorem wid_il (l : List Int) (h : l.length ≤ 1000) : wid (.list (l.map PyData.int)) ≤ 1000000 := by
  show max (l.map PyData.int).length (wid.wids (l.map PyData.int)) ≤ 1000000
  rw [wid_ints, List.length_map]
  omega
/-- the two ways of a conditional expression joined: what either gives, P says -/
theorem ifx {c : Prop} [Decidable c] {ta tb : TE} {σ : L2.St} {H : Hp} {C : VK} (P : V → Hp → Prop) (h1 : c → ∀ C : VK, (∀ v G, P v G → C v G) → ta σ H C) (h2 : ¬ c → ∀ C : VK, (∀ v G, P v G → C v G) → tb σ H C) (k : ∀ v G, P v G → C v G) : if c then ta σ H C else tb σ H C := by
  by_cases h : c
  · rw [if_pos h]
    exact h1 h C k
  · rw [if_neg h]
    exact h2 h C k
theorem ifs {c : Prop} [Decidable c] {t u : TS} {D : Ends} {σ : L2.St} {H : Hp} (P : L2.St → Hp → Prop) (h1 : c → ∀ D : Ends, (∀ σ G, P σ G → D.nx σ G) → t D σ H) (h2 : ¬ c → ∀ D : Ends, (∀ σ G, P σ G → D.nx σ G) → u D σ H) (k : ∀ σ G, P σ G → D.nx σ G) : if c then t D σ H else u D σ H := by
  by_cases h : c
  · rw [if_pos h]
    exact h1 h D k
  · rw [if_neg h]
    exact h2 h D k
theorem ior {c : Prop} [Decidable c] {tb : TT} {σ : L2.St} {H : Hp} {C : Bool → Hp → Prop} (P : Bool → Hp → Prop) (h1 : c → P true H) (h2 : ¬ c → ∀ C : Bool → Hp → Prop, (∀ v G, P v G → C v G) → tb σ H C) (k : ∀ v G, P v G → C v G) : if c then C true H else tb σ H C := by
  by_cases h : c
  · rw [if_pos h]
    exact k _ _ (h1 h)
  · rw [if_neg h]
    exact h2 h C k
theorem ift {c : Prop} [Decidable c] {ta : TT} {σ : L2.St} {H : Hp} {C : Bool → Hp → Prop} (P : Bool → Hp → Prop) (h1 : c → ∀ C : Bool → Hp → Prop, (∀ v G, P v G → C v G) → ta σ H C) (h2 : ¬ c → P false H) (k : ∀ v G, P v G → C v G) : if c then ta σ H C else C false H := by
  by_cases h : c
  · rw [if_pos h]
    exact h1 h C k
  · rw [if_neg h]
    exact k _ _ (h2 h)
theorem atI_some {xs : List V} {r : Int} (h0 : 0 ≤ r) (h1 : r < xs.length) : ∃ v, atI xs r = some v ∧ v ∈ xs := by
  obtain ⟨j, rfl⟩ : ∃ j : Nat, r = (j : Int) := ⟨r.toNat, by omega⟩
  have hj : j < xs.length := by omega
  exact ⟨xs[j], atI_nat (List.getElem?_eq_getElem hj), List.getElem_mem hj⟩
theorem same_but {H G G1 G2 : Hp} {p : Addr} {o : HO} (s : Same H G) (hp : G p = none) (b : But p (upd G p o) G2) : Same H G2 := fun c x e => by
  have hc : c ≠ p := fun z => by
    have := s.free hp
    rw [← z, e] at this
    cases this
  exact b c x (by rw [upd_ne hc]; exact s c x e) hc
/-! the drawer of numbers -/
def spLBox (K : PySem.W.Frag) : Sp := fun vs H Q _ => ∃ (a : Addr) (ns : List Int) (k : Nat), vs = [.ref a, .int k] ∧ SqL K H a (ns.map V.int) ∧ k ≤ 1000 ∧
  ∀ (p : Addr) (x y : Int), H p = none → 0 ≤ x → 0 ≤ y → y < 1099511627776 → Q (.ref p) (upd H p (.lst [.int x, .int y, .int 0]))
def spLTake : Sp := fun vs H Q _ => ∃ (p : Addr) (m n : Int), vs = [.ref p, .int m] ∧ Box H p n ∧ n < 1099511627776 ∧ 0 < m ∧ m < 340282366920938463463374607431768211456 ∧
  ∀ (r : Int) (G : Hp), But p H G → Box G p (n + 1) → 0 ≤ r → r < m → Q (.int r) G
theorem walk_zipT {K : PySem.W.Frag} {a b : Addr} {xs ys : List V} (hn : xs.length = ys.length) : Walk (RZ.ItzT K a b) xs.length (fun H => SqT K H a xs ∧ SqT K H b ys) (YPair (fun i => xs[i]?) (fun i => ys[i]?)) := by
  refine ⟨fun i _ hi q => ?_, fun _ q => ⟨xs, ys, q.1, q.2, by omega⟩, fun i H v H' _ q y => ?_⟩
  · have h2 : i < ys.length := by omega
    exact ⟨xs, ys, xs[i], ys[i], q.1, q.2, by simp [hi], by simp [h2]⟩
  · obtain ⟨T, x, z, h1, h2, h3, h4, h5⟩ := y
    exact ⟨T, x, z, h1, h2, h3, h4 xs q.1, h5 ys q.2⟩
theorem all_rep (n : Nat) : (List.replicate n true).all id = true := by
  induction n with
  | zero => rfl
  | succ n ih => rw [List.replicate_succ, List.all_cons, ih]; rfl
theorem kit_none (K : PySem.W.Frag) (t : String) (h1 : kitB t "list" = some false) (h2 : kitB t "tuple" = some false) : PySem.W.kitAny K (.type t) [.type "list", .type "tuple"] = some false :=
  kitAny_cons (kit_ty h1) (fun _ => kitAny_cons (kit_ty h2) (fun _ => rfl) (fun z => Bool.noConfusion z)) (fun z => Bool.noConfusion z)
theorem kit_list (K : PySem.W.Frag) : PySem.W.kitAny K (.type "list") [.type "list", .type "tuple"] = some true :=
  kitAny_cons (kit_ty (r := true) (by decide +kernel)) (fun z => Bool.noConfusion z) (fun _ => rfl)
theorem kit_tup (K : PySem.W.Frag) : PySem.W.kitAny K (.type "tuple") [.type "list", .type "tuple"] = some true :=
  kitAny_cons (kit_ty (r := false) (by decide +kernel)) (fun _ => kitAny_cons (kit_ty (r := true) (by decide +kernel)) (fun z => Bool.noConfusion z) (fun _ => rfl)) (fun z => Bool.noConfusion z)
theorem cls2 : Paired ClsV [.ty "list", .ty "tuple"] [.type "list", .type "tuple"] := .cons (.ty _) (.cons (.ty _) .nil)
/-! two things alike, kind by kind -/
def spLSame (K : PySem.W.Frag) (n : Nat) : Sp := fun vs H Q _ => ∃ (x y : V) (d : PyData), vs = [x, y] ∧ Dp K H x d ∧ Dp K H y d ∧ dep d < n ∧ wid d ≤ 1000000 ∧ ∀ G, Same H G → Q (.bl true) G

def spLaw (K : PySem.W.Frag) : Sp := fun vs H Q _ => ∃ (a : Addr) (ns : List Int), vs = [.ref a] ∧ SqL K H a (ns.map V.int) ∧ ns.length ≤ 63 ∧ ∀ G, Q (.bl true) G
end
section
variable {P : Program} {w : World} {K : PySem.W.Frag} {mg : Str → Option Value} {base : Heap}
def top (i : Nat) : Stmt := PySem.Challenge.pw_startlog_k10_rows_unmixed.main.body.getD i (.Pass ⟨0, 0, 0, 0⟩)
abbrev sWall : Stmt := top 0
abbrev sNameNumber : Stmt := top 7
abbrev sIsNumber : Stmt := top 9
abbrev sCommonDivisor : Stmt := top 10
abbrev sInverse : Stmt := top 11
abbrev sRowNumber : Stmt := top 17
abbrev sIsWidth : Stmt := top 21
abbrev sIsFactor : Stmt := top 22
abbrev sLBox : Stmt := top 25
abbrev sLTake : Stmt := top 26
abbrev sLName : Stmt := top 27
abbrev sLRow : Stmt := top 28
abbrev sLNumberOf : Stmt := top 29
abbrev sLCommon : Stmt := top 30
abbrev sLFactor : Stmt := top 31
abbrev sLWidth : Stmt := top 32
abbrev sLMixing : Stmt := top 33
abbrev sLIsRight : Stmt := top 34
abbrev sLRight : Stmt := top 35
abbrev sLaw : Stmt := top 36
abbrev sMixingInit : Stmt := inClass (top 23) 0
abbrev sMixingMixed : Stmt := inClass (top 23) 2
abbrev sMixingUnmixed : Stmt := inClass (top 23) 3
abbrev sMixingEq : Stmt := inClass (top 23) 5
abbrev sMixingRepr : Stmt := inClass (top 23) 6
abbrev sMixingStr : Stmt := inClass (top 23) 7
theorem scWall : FnScope ["k"] ["k"] (defScope sWall) := ⟨rfl, rfl, rfl, by decide +kernel, rfl, by decide +kernel, by decide +kernel⟩
theorem scNameNumber : FnScope ["name", "number", "letter"] ["name"] (defScope sNameNumber) := ⟨rfl, rfl, rfl, by decide +kernel, rfl, by decide +kernel, by decide +kernel⟩
theorem scIsNumber : FnScope ["thing"] ["thing"] (defScope sIsNumber) := ⟨rfl, rfl, rfl, by decide +kernel, rfl, by decide +kernel, by decide +kernel⟩
theorem scCommonDivisor : FnScope ["number", "other"] ["number", "other"] (defScope sCommonDivisor) := ⟨rfl, rfl, rfl, by decide +kernel, rfl, by decide +kernel, by decide +kernel⟩
theorem scInverse : FnScope ["number", "span", "high", "low", "before", "found", "times"] ["number", "span"] (defScope sInverse) := ⟨rfl, rfl, rfl, by decide +kernel, rfl, by decide +kernel, by decide +kernel⟩
theorem scRowNumber : FnScope ["row", "board", "word", "name", "note"] ["row"] (defScope sRowNumber) := ⟨rfl, rfl, rfl, by decide +kernel, rfl, by decide +kernel, by decide +kernel⟩
theorem scIsWidth : FnScope ["thing"] ["thing"] (defScope sIsWidth) := ⟨rfl, rfl, rfl, by decide +kernel, rfl, by decide +kernel, by decide +kernel⟩
theorem scIsFactor : FnScope ["thing", "width"] ["thing", "width"] (defScope sIsFactor) := ⟨rfl, rfl, rfl, by decide +kernel, rfl, by decide +kernel, by decide +kernel⟩
theorem scLBox : FnScope ["_law_script", "_law_k", "_law_cell"] ["_law_script", "_law_k"] (defScope sLBox) := ⟨rfl, rfl, rfl, by decide +kernel, rfl, by decide +kernel, by decide +kernel⟩
theorem scLTake : FnScope ["_law_box_here", "_law_many", "_law_found", "_law_once"] ["_law_box_here", "_law_many"] (defScope sLTake) := ⟨rfl, rfl, rfl, by decide +kernel, rfl, by decide +kernel, by decide +kernel⟩
theorem scLName : FnScope ["_law_box_here", "_law_k"] ["_law_box_here"] (defScope sLName) := ⟨rfl, rfl, rfl, by decide +kernel, rfl, by decide +kernel, by decide +kernel⟩
theorem scLRow : FnScope ["_law_box_here", "_law_boards", "_law_word", "_law_note"] ["_law_box_here", "_law_boards"] (defScope sLRow) := ⟨rfl, rfl, rfl, by decide +kernel, rfl, by decide +kernel, by decide +kernel⟩
theorem scLNumberOf : FnScope ["_law_row_here", "_law_name_here", "_law_letters", "_law_sign"] ["_law_row_here"] (defScope sLNumberOf) := ⟨rfl, rfl, rfl, by decide +kernel, rfl, by decide +kernel, by decide +kernel⟩
theorem scLCommon : FnScope ["_law_one", "_law_other", "_law_k"] ["_law_one", "_law_other"] (defScope sLCommon) := ⟨rfl, rfl, rfl, by decide +kernel, rfl, by decide +kernel, by decide +kernel⟩
theorem scLFactor : FnScope ["_law_box_here", "_law_width_here", "_law_some", "_law_by"] ["_law_box_here", "_law_width_here"] (defScope sLFactor) := ⟨rfl, rfl, rfl, by decide +kernel, rfl, by decide +kernel, by decide +kernel⟩
theorem scLWidth : FnScope ["_law_box_here"] ["_law_box_here"] (defScope sLWidth) := ⟨rfl, rfl, rfl, by decide +kernel, rfl, by decide +kernel, by decide +kernel⟩
theorem scLMixing : FnScope ["_law_box_here", "_law_way", "_law_width_here", "_law_by"] ["_law_box_here"] (defScope sLMixing) := ⟨rfl, rfl, rfl, by decide +kernel, rfl, by decide +kernel, by decide +kernel⟩
theorem scLIsRight : FnScope ["_law_mixing_here", "_law_width_here", "_law_by", "_law_value", "_law_row_here", "_law_found", "_law_number", "_law_times", "_law_rest"] ["_law_mixing_here", "_law_width_here", "_law_by", "_law_value", "_law_row_here", "_law_found"] (defScope sLIsRight) := ⟨rfl, rfl, rfl, by decide +kernel, rfl, by decide +kernel, by decide +kernel⟩
theorem scLRight : FnScope ["_law_box_here", "_law_mixing_here", "_law_width_here", "_law_by", "_law_turn", "_law_row_here", "_law_before", "_law_value", "_law_others", "_law_other", "_law_found"] ["_law_box_here"] (defScope sLRight) := ⟨rfl, rfl, rfl, by decide +kernel, rfl, by decide +kernel, by decide +kernel⟩
theorem scLaw : FnScope ["_law_script", "_law_k", "_law_box_here", "_law_turn"] ["_law_script"] (defScope sLaw) := ⟨rfl, rfl, rfl, by decide +kernel, rfl, by decide +kernel, by decide +kernel⟩
theorem scMixingInit : FnScope ["self", "width", "factor"] ["self", "width", "factor"] (defScope sMixingInit) := ⟨rfl, rfl, rfl, by decide +kernel, rfl, by decide +kernel, by decide +kernel⟩
theorem scMixingMixed : FnScope ["self", "value", "row", "more"] ["self", "value", "row"] (defScope sMixingMixed) := ⟨rfl, rfl, rfl, by decide +kernel, rfl, by decide +kernel, by decide +kernel⟩
theorem scMixingUnmixed : FnScope ["self", "value", "row", "left"] ["self", "value", "row"] (defScope sMixingUnmixed) := ⟨rfl, rfl, rfl, by decide +kernel, rfl, by decide +kernel, by decide +kernel⟩
theorem scMixingEq : FnScope ["self", "other"] ["self", "other"] (defScope sMixingEq) := ⟨rfl, rfl, rfl, by decide +kernel, rfl, by decide +kernel, by decide +kernel⟩
theorem scMixingRepr : FnScope ["self", "told"] ["self"] (defScope sMixingRepr) := ⟨rfl, rfl, rfl, by decide +kernel, rfl, by decide +kernel, by decide +kernel⟩
theorem scMixingStr : FnScope ["self"] ["self"] (defScope sMixingStr) := ⟨rfl, rfl, rfl, by decide +kernel, rfl, by decide +kernel, by decide +kernel⟩
/-- the names that are the builtins' own -/
structure Bl (mg : Str → Option Value) : Prop where
  b_len : mg "len" = none
  b_abs : mg "abs" = none
  b_int : mg "int" = none
  b_isinstance : mg "isinstance" = none
  b_list : mg "list" = none
  b_tuple : mg "tuple" = none
  b_str : mg "str" = none
  b_bool : mg "bool" = none
  b_all : mg "all" = none
  b_zip : mg "zip" = none
  b_range : mg "range" = none
  b_max : mg "max" = none
  b_min : mg "min" = none
  b_enumerate : mg "enumerate" = none
  b_divmod : mg "divmod" = none
/-- what the top has written -/
structure Tx (K : PySem.W.Frag) (mg : Str → Option Value) where
  B : Bl mg
  c_LETTERS : ∃ t, mg "LETTERS" = some (.str "abcdefghijklmnopqrstuvwxyz" t)
  c_BASE : ∃ t, mg "BASE" = some (.int 27 t)
  c_NOTES : ∃ t, mg "NOTES" = some (.int 9973 t)
  c_SPAN : ∃ t, mg "SPAN" = some (.int 26500305465 t)
  c_FACTOR : ∃ t, mg "FACTOR" = some (.int 7919 t)
  c_LEAST_WIDTH : ∃ t, mg "LEAST_WIDTH" = some (.int 3 t)
  c_GREATEST : ∃ t, mg "GREATEST" = some (.int 1000000 t)
  fdWall : FuncData
  FWall : FunD K "_wall" "_wall" (defArgs sWall) (defBody sWall) (defScope sWall) [] [] (He.ga K "_wall") fdWall
  gWall : mg "_wall" = some (.ref (He.ga K "_wall"))
  fdNameNumber : FuncData
  FNameNumber : FunD K "name_number" "name_number" (defArgs sNameNumber) (defBody sNameNumber) (defScope sNameNumber) [] [] (He.ga K "name_number") fdNameNumber
  gNameNumber : mg "name_number" = some (.ref (He.ga K "name_number"))
  fdIsNumber : FuncData
  FIsNumber : FunD K "is_number" "is_number" (defArgs sIsNumber) (defBody sIsNumber) (defScope sIsNumber) [] [] (He.ga K "is_number") fdIsNumber
  gIsNumber : mg "is_number" = some (.ref (He.ga K "is_number"))
  fdCommonDivisor : FuncData
  FCommonDivisor : FunD K "common_divisor" "common_divisor" (defArgs sCommonDivisor) (defBody sCommonDivisor) (defScope sCommonDivisor) [] [] (He.ga K "common_divisor") fdCommonDivisor
  gCommonDivisor : mg "common_divisor" = some (.ref (He.ga K "common_divisor"))
  fdInverse : FuncData
  FInverse : FunD K "inverse" "inverse" (defArgs sInverse) (defBody sInverse) (defScope sInverse) [] [] (He.ga K "inverse") fdInverse
  gInverse : mg "inverse" = some (.ref (He.ga K "inverse"))
  fdRowNumber : FuncData
  FRowNumber : FunD K "row_number" "row_number" (defArgs sRowNumber) (defBody sRowNumber) (defScope sRowNumber) [] [] (He.ga K "row_number") fdRowNumber
  gRowNumber : mg "row_number" = some (.ref (He.ga K "row_number"))
  fdIsWidth : FuncData
  FIsWidth : FunD K "is_width" "is_width" (defArgs sIsWidth) (defBody sIsWidth) (defScope sIsWidth) [] [] (He.ga K "is_width") fdIsWidth
  gIsWidth : mg "is_width" = some (.ref (He.ga K "is_width"))
  fdIsFactor : FuncData
  FIsFactor : FunD K "is_factor" "is_factor" (defArgs sIsFactor) (defBody sIsFactor) (defScope sIsFactor) [] [] (He.ga K "is_factor") fdIsFactor
  gIsFactor : mg "is_factor" = some (.ref (He.ga K "is_factor"))
  fdLBox : FuncData
  FLBox : FunD K "_law_box" "_law_box" (defArgs sLBox) (defBody sLBox) (defScope sLBox) [] [] (He.ga K "_law_box") fdLBox
  gLBox : mg "_law_box" = some (.ref (He.ga K "_law_box"))
  fdLTake : FuncData
  FLTake : FunD K "_law_take" "_law_take" (defArgs sLTake) (defBody sLTake) (defScope sLTake) [] [] (He.ga K "_law_take") fdLTake
  gLTake : mg "_law_take" = some (.ref (He.ga K "_law_take"))
  fdLName : FuncData
  FLName : FunD K "_law_name" "_law_name" (defArgs sLName) (defBody sLName) (defScope sLName) [] [] (He.ga K "_law_name") fdLName
  gLName : mg "_law_name" = some (.ref (He.ga K "_law_name"))
  fdLRow : FuncData
  FLRow : FunD K "_law_row" "_law_row" (defArgs sLRow) (defBody sLRow) (defScope sLRow) [] [] (He.ga K "_law_row") fdLRow
  gLRow : mg "_law_row" = some (.ref (He.ga K "_law_row"))
  fdLNumberOf : FuncData
  FLNumberOf : FunD K "_law_number_of" "_law_number_of" (defArgs sLNumberOf) (defBody sLNumberOf) (defScope sLNumberOf) [] [] (He.ga K "_law_number_of") fdLNumberOf
  gLNumberOf : mg "_law_number_of" = some (.ref (He.ga K "_law_number_of"))
  fdLCommon : FuncData
  FLCommon : FunD K "_law_common" "_law_common" (defArgs sLCommon) (defBody sLCommon) (defScope sLCommon) [] [] (He.ga K "_law_common") fdLCommon
  gLCommon : mg "_law_common" = some (.ref (He.ga K "_law_common"))
  fdLFactor : FuncData
  FLFactor : FunD K "_law_factor" "_law_factor" (defArgs sLFactor) (defBody sLFactor) (defScope sLFactor) [] [] (He.ga K "_law_factor") fdLFactor
  gLFactor : mg "_law_factor" = some (.ref (He.ga K "_law_factor"))
  fdLWidth : FuncData
  FLWidth : FunD K "_law_width" "_law_width" (defArgs sLWidth) (defBody sLWidth) (defScope sLWidth) [] [] (He.ga K "_law_width") fdLWidth
  gLWidth : mg "_law_width" = some (.ref (He.ga K "_law_width"))
  fdLMixing : FuncData
  FLMixing : FunD K "_law_mixing" "_law_mixing" (defArgs sLMixing) (defBody sLMixing) (defScope sLMixing) [] [] (He.ga K "_law_mixing") fdLMixing
  gLMixing : mg "_law_mixing" = some (.ref (He.ga K "_law_mixing"))
  fdLIsRight : FuncData
  FLIsRight : FunD K "_law_is_right" "_law_is_right" (defArgs sLIsRight) (defBody sLIsRight) (defScope sLIsRight) [] [] (He.ga K "_law_is_right") fdLIsRight
  gLIsRight : mg "_law_is_right" = some (.ref (He.ga K "_law_is_right"))
  fdLRight : FuncData
  FLRight : FunD K "_law_right" "_law_right" (defArgs sLRight) (defBody sLRight) (defScope sLRight) [] [] (He.ga K "_law_right") fdLRight
  gLRight : mg "_law_right" = some (.ref (He.ga K "_law_right"))
  fdLaw : FuncData
  FLaw : FunD K "law" "law" (defArgs sLaw) (defBody sLaw) (defScope sLaw) [] [] (He.ga K "law") fdLaw
  gLaw : mg "law" = some (.ref (He.ga K "law"))
  fdMixingInit : FuncData
  FMixingInit : FunD K "__init__" "Mixing.__init__" (defArgs sMixingInit) (defBody sMixingInit) (defScope sMixingInit) [.non] [("factor", .int 7919)] (He.ma K (He.ga K "Mixing") "__init__") fdMixingInit
  mkMixing : Mk K (He.ga K "Mixing") (He.ma K (He.ga K "Mixing") "__init__")
  fdMixingMixed : FuncData
  FMixingMixed : FunD K "mixed" "Mixing.mixed" (defArgs sMixingMixed) (defBody sMixingMixed) (defScope sMixingMixed) [] [] (He.ma K (He.ga K "Mixing") "mixed") fdMixingMixed
  mMixingMixed : Meth K (He.ga K "Mixing") "mixed" (He.ma K (He.ga K "Mixing") "mixed")
  fdMixingUnmixed : FuncData
  FMixingUnmixed : FunD K "unmixed" "Mixing.unmixed" (defArgs sMixingUnmixed) (defBody sMixingUnmixed) (defScope sMixingUnmixed) [] [] (He.ma K (He.ga K "Mixing") "unmixed") fdMixingUnmixed
  mMixingUnmixed : Meth K (He.ga K "Mixing") "unmixed" (He.ma K (He.ga K "Mixing") "unmixed")
  fdMixingEq : FuncData
  FMixingEq : FunD K "__eq__" "Mixing.__eq__" (defArgs sMixingEq) (defBody sMixingEq) (defScope sMixingEq) [] [] (He.ma K (He.ga K "Mixing") "__eq__") fdMixingEq
  mMixingEq : Meth K (He.ga K "Mixing") "__eq__" (He.ma K (He.ga K "Mixing") "__eq__")
  fdMixingRepr : FuncData
  FMixingRepr : FunD K "__repr__" "Mixing.__repr__" (defArgs sMixingRepr) (defBody sMixingRepr) (defScope sMixingRepr) [] [] (He.ma K (He.ga K "Mixing") "__repr__") fdMixingRepr
  mMixingRepr : Meth K (He.ga K "Mixing") "__repr__" (He.ma K (He.ga K "Mixing") "__repr__")
  fdMixingStr : FuncData
  FMixingStr : FunD K "__str__" "Mixing.__str__" (defArgs sMixingStr) (defBody sMixingStr) (defScope sMixingStr) [] [] (He.ma K (He.ga K "Mixing") "__str__") fdMixingStr
  mMixingStr : Meth K (He.ga K "Mixing") "__str__" (He.ma K (He.ga K "Mixing") "__str__")
  clMixing : Cls K (He.ga K "Mixing")
  gMixing : mg "Mixing" = some (.ref (He.ga K "Mixing"))
  nMixing_width : NoAttr K (He.ga K "Mixing") "width"
  nMixing_factor : NoAttr K (He.ga K "Mixing") "factor"
  c_WORDS : mg "WORDS" = some (.ref (He.ga K "WORDS"))
  t_WORDS : tupD K "WORDS" [.str "load", .str "set", .str "end", .str "late", .str "reset"] = true
theorem Tx.bWall {K : PySem.W.Frag} {mg : Str → Option Value} (T : Tx K mg) : Binds K T.fdWall ["k"] [] := T.FWall.bindsN fun _ _ _ _ _ _ us hl => match us, hl with | [_], _ => rfl
theorem Tx.bNameNumber {K : PySem.W.Frag} {mg : Str → Option Value} (T : Tx K mg) : Binds K T.fdNameNumber ["name"] [] := T.FNameNumber.bindsN fun _ _ _ _ _ _ us hl => match us, hl with | [_], _ => rfl
theorem Tx.bIsNumber {K : PySem.W.Frag} {mg : Str → Option Value} (T : Tx K mg) : Binds K T.fdIsNumber ["thing"] [] := T.FIsNumber.bindsN fun _ _ _ _ _ _ us hl => match us, hl with | [_], _ => rfl
theorem Tx.bCommonDivisor {K : PySem.W.Frag} {mg : Str → Option Value} (T : Tx K mg) : Binds K T.fdCommonDivisor ["number", "other"] [] := T.FCommonDivisor.bindsN fun _ _ _ _ _ _ us hl => match us, hl with | [_, _], _ => rfl
theorem Tx.bInverse {K : PySem.W.Frag} {mg : Str → Option Value} (T : Tx K mg) : Binds K T.fdInverse ["number", "span"] [] := T.FInverse.bindsN fun _ _ _ _ _ _ us hl => match us, hl with | [_, _], _ => rfl
theorem Tx.bRowNumber {K : PySem.W.Frag} {mg : Str → Option Value} (T : Tx K mg) : Binds K T.fdRowNumber ["row"] [] := T.FRowNumber.bindsN fun _ _ _ _ _ _ us hl => match us, hl with | [_], _ => rfl
theorem Tx.bIsWidth {K : PySem.W.Frag} {mg : Str → Option Value} (T : Tx K mg) : Binds K T.fdIsWidth ["thing"] [] := T.FIsWidth.bindsN fun _ _ _ _ _ _ us hl => match us, hl with | [_], _ => rfl
theorem Tx.bIsFactor {K : PySem.W.Frag} {mg : Str → Option Value} (T : Tx K mg) : Binds K T.fdIsFactor ["thing", "width"] [] := T.FIsFactor.bindsN fun _ _ _ _ _ _ us hl => match us, hl with | [_, _], _ => rfl
theorem Tx.bLBox {K : PySem.W.Frag} {mg : Str → Option Value} (T : Tx K mg) : Binds K T.fdLBox ["_law_script", "_law_k"] [] := T.FLBox.bindsN fun _ _ _ _ _ _ us hl => match us, hl with | [_, _], _ => rfl
theorem Tx.bLTake {K : PySem.W.Frag} {mg : Str → Option Value} (T : Tx K mg) : Binds K T.fdLTake ["_law_box_here", "_law_many"] [] := T.FLTake.bindsN fun _ _ _ _ _ _ us hl => match us, hl with | [_, _], _ => rfl
theorem Tx.bLName {K : PySem.W.Frag} {mg : Str → Option Value} (T : Tx K mg) : Binds K T.fdLName ["_law_box_here"] [] := T.FLName.bindsN fun _ _ _ _ _ _ us hl => match us, hl with | [_], _ => rfl
theorem Tx.bLRow {K : PySem.W.Frag} {mg : Str → Option Value} (T : Tx K mg) : Binds K T.fdLRow ["_law_box_here", "_law_boards"] [] := T.FLRow.bindsN fun _ _ _ _ _ _ us hl => match us, hl with | [_, _], _ => rfl
theorem Tx.bLNumberOf {K : PySem.W.Frag} {mg : Str → Option Value} (T : Tx K mg) : Binds K T.fdLNumberOf ["_law_row_here"] [] := T.FLNumberOf.bindsN fun _ _ _ _ _ _ us hl => match us, hl with | [_], _ => rfl
theorem Tx.bLCommon {K : PySem.W.Frag} {mg : Str → Option Value} (T : Tx K mg) : Binds K T.fdLCommon ["_law_one", "_law_other"] [] := T.FLCommon.bindsN fun _ _ _ _ _ _ us hl => match us, hl with | [_, _], _ => rfl
theorem Tx.bLFactor {K : PySem.W.Frag} {mg : Str → Option Value} (T : Tx K mg) : Binds K T.fdLFactor ["_law_box_here", "_law_width_here"] [] := T.FLFactor.bindsN fun _ _ _ _ _ _ us hl => match us, hl with | [_, _], _ => rfl
theorem Tx.bLWidth {K : PySem.W.Frag} {mg : Str → Option Value} (T : Tx K mg) : Binds K T.fdLWidth ["_law_box_here"] [] := T.FLWidth.bindsN fun _ _ _ _ _ _ us hl => match us, hl with | [_], _ => rfl
theorem Tx.bLMixing {K : PySem.W.Frag} {mg : Str → Option Value} (T : Tx K mg) : Binds K T.fdLMixing ["_law_box_here"] [] := T.FLMixing.bindsN fun _ _ _ _ _ _ us hl => match us, hl with | [_], _ => rfl
theorem Tx.bLIsRight {K : PySem.W.Frag} {mg : Str → Option Value} (T : Tx K mg) : Binds K T.fdLIsRight ["_law_mixing_here", "_law_width_here", "_law_by", "_law_value", "_law_row_here", "_law_found"] [] := T.FLIsRight.bindsN fun _ _ _ _ _ _ us hl => match us, hl with | [_, _, _, _, _, _], _ => rfl
theorem Tx.bLRight {K : PySem.W.Frag} {mg : Str → Option Value} (T : Tx K mg) : Binds K T.fdLRight ["_law_box_here"] [] := T.FLRight.bindsN fun _ _ _ _ _ _ us hl => match us, hl with | [_], _ => rfl
theorem Tx.bLaw {K : PySem.W.Frag} {mg : Str → Option Value} (T : Tx K mg) : Binds K T.fdLaw ["_law_script"] [] := T.FLaw.bindsN fun _ _ _ _ _ _ us hl => match us, hl with | [_], _ => rfl
theorem Tx.bMixingMixed {K : PySem.W.Frag} {mg : Str → Option Value} (T : Tx K mg) : Binds K T.fdMixingMixed ["self", "value", "row"] [] := T.FMixingMixed.bindsN fun _ _ _ _ _ _ us hl => match us, hl with | [_, _, _], _ => rfl
theorem Tx.bMixingUnmixed {K : PySem.W.Frag} {mg : Str → Option Value} (T : Tx K mg) : Binds K T.fdMixingUnmixed ["self", "value", "row"] [] := T.FMixingUnmixed.bindsN fun _ _ _ _ _ _ us hl => match us, hl with | [_, _, _], _ => rfl
theorem Tx.bMixingEq {K : PySem.W.Frag} {mg : Str → Option Value} (T : Tx K mg) : Binds K T.fdMixingEq ["self", "other"] [] := T.FMixingEq.bindsN fun _ _ _ _ _ _ us hl => match us, hl with | [_, _], _ => rfl
theorem Tx.bMixingRepr {K : PySem.W.Frag} {mg : Str → Option Value} (T : Tx K mg) : Binds K T.fdMixingRepr ["self"] [] := T.FMixingRepr.bindsN fun _ _ _ _ _ _ us hl => match us, hl with | [_], _ => rfl
theorem Tx.bMixingStr {K : PySem.W.Frag} {mg : Str → Option Value} (T : Tx K mg) : Binds K T.fdMixingStr ["self"] [] := T.FMixingStr.bindsN fun _ _ _ _ _ _ us hl => match us, hl with | [_], _ => rfl

end
section
variable {P : Program} {w : World} {K : PySem.W.Frag} {mg : Str → Option Value} {base : Heap}
theorem okLBox (T : Tx K mg) : FnOk P w K mg base CX0 1 (He.ga K "_law_box") T.fdLBox ["_law_script", "_law_k"] (spLBox K) := by
  have B := T.B
  refine T.FLBox.ok scLBox (fun vs H Q E h => ?_) (fun cdv A outer s H vs Q E hr h => ?_)
  · obtain ⟨a, ns, k, rfl, _⟩ := h
    rfl
  · obtain ⟨a, ns, k, rfl, hS, hk, q⟩ := h
    refine ⟨_, PSs.nox (pss_cons (ps_set (i := 2) scLBox.nd rfl (.inl rfl) pe_int)
        (pss_cons (ps_if (pt_cmpR op_lt (pv 1) (pe_callB call_len_seq (by rfl) B.b_len PySem.boot_len (pa_cons (pv 0) pa_nil)) (nomark _)) (pss_one (ps_set (i := 2) scLBox.nd rfl (.inl rfl) (pe_ix ix_list (pv 0) (pv 1) (fun _ _ => rfl)))) pss_nil)
        (pss_one (ps_ret (pe_lst (pa_cons (pe_op op_mul (pe_callB call_abs (by rfl) B.b_abs boot_abs (pa_cons (pv 2) pa_nil)) (pe_callTy call_int1 (by rfl) B.b_int PyProof.Rows.boot_int (pa_cons (pe_cmpR op_ge (pe_callB call_abs (by rfl) B.b_abs boot_abs (pa_cons (pv 2) pa_nil)) (pe_op op_pow pe_int pe_int) (nomark _)) pa_nil))) (pa_cons (pe_op op_add (pe_op op_add (pe_op op_mod (pv 2) pe_int) (pe_op op_mul pe_int (pv 1))) pe_int) (pa_cons pe_int pa_nil)))))))), ?_⟩
    have fin : ∀ c : Int, tRet (tLst (tCons (tOp (rI CMul fun i j => .int (i * j)) (tCB (fun xs H Q => ∃ i, xs = [.int i] ∧ Q (.int (if i < 0 then -i else i)) H) (tCons (tVar 2) tNil))
        (tCB (fun xs H Q => (∃ i, xs = [.int i] ∧ Q (.int i) H) ∨ ∃ k, xs = [.bl k] ∧ Q (.int (if k then 1 else 0)) H) (tCons (tOp (rI0 fun i j => .bl (decide (j ≤ i))) (tCB (fun xs H Q => ∃ i, xs = [.int i] ∧ Q (.int (if i < 0 then -i else i)) H) (tCons (tVar 2) tNil)) (tOp (rI CPow fun i j => .int (i ^ j.toNat)) (tC (.int 10)) (tC (.int 18)))) tNil)))
        (tCons (tOp (rI0 fun i j => .int (i + j)) (tOp (rI0 fun i j => .int (i + j)) (tOp (rI (fun _ j => 0 < j) fun i j => .int (i % j)) (tVar 2) (tC (.int 2147483629))) (tOp (rI CMul fun i j => .int (i * j)) (tC (.int 7919)) (tVar 1))) (tC (.int 11))) (tCons (tC (.int 0)) tNil))))
        { nx := fun _ H' => Q .non H', rt := Q } [some (.ref a), some (.int k), some (.int c)] H := by
      intro c
      have hb : ∀ b : Bool, (0 : Int) ≤ (if c < 0 then -c else c) * (if b = true then 1 else 0) := by
        intro b
        cases b <;> simp <;> split <;> omega
      have h1 := Int.emod_nonneg c (b := 2147483629) (by decide)
      have h2 := Int.emod_lt_of_pos c (b := 2147483629) (by decide)
      refine ⟨_, rfl, c, rfl, _, rfl, c, rfl, _, _, rfl, rfl, ⟨by decide, by decide, by decide⟩, _, _, rfl, rfl, .inr ⟨_, rfl, _, _, rfl, rfl, .inr ⟨?_, ?_⟩, ?_⟩⟩
      · exact bit_lo _
      · exact bit_hi _
      · refine ⟨_, rfl, _, _, rfl, rfl, (show (0 : Int) < 2147483629 by decide), _, rfl, _, _, rfl, rfl, .inl ⟨by decide, by decide⟩, _, _, rfl, rfl, _, _, rfl, rfl, by show 3 ≤ sizeLine; decide, fun p hp => ?_⟩
        exact q p _ _ hp (hb _) (by omega) (by omega)
    refine ⟨_, rfl, _, rfl, a, _, rfl, .inl hS, _, _, rfl, rfl, _, rfl, ite2 (fun e => ?_) (fun e => ?_)⟩
    · have hlt : k < ns.length := by
        have := of_decide_eq_true e
        rw [List.length_map] at this
        omega
      refine ⟨_, rfl, _, rfl, a, _, _, _, rfl, rfl, hS, at_of (j := k) (v := .int ns[k]) rfl (by rw [List.getElem?_map, List.getElem?_eq_getElem hlt]; rfl), ?_⟩
      exact fin _
    · exact fin _
theorem okLTake (T : Tx K mg) : FnOk P w K mg base CX0 1 (He.ga K "_law_take") T.fdLTake ["_law_box_here", "_law_many"] spLTake := by
  have B := T.B
  refine T.FLTake.ok scLTake (fun vs H Q E h => ?_) (fun cdv A outer s H vs Q E hr h => ?_)
  · obtain ⟨p, m, n, rfl, _⟩ := h
    rfl
  · obtain ⟨p, m, n, rfl, hB, hn, hm, hm2, q⟩ := h
    refine ⟨_, PSs.nox (pss_cons (ps_if (pt_cmpR op_gt (pe_ix ix_list (pv 0) pe_int (fun _ _ => rfl)) pe_int (nomark _)) (pss_cons (ps_set (i := 2) scLTake.nd rfl (.inl rfl) (pe_op op_mod (pe_ix ix_list (pv 0) pe_int (fun _ _ => rfl)) (pv 1)))
        (pss_cons (ps_asg (pe_op op_fdivW (pe_ix ix_list (pv 0) pe_int (fun _ _ => rfl)) (pv 1)) (pg_sub (pv 0) pe_int set_list))
        (pss_one (ps_ret (pv 2))))) pss_nil)
        (pss_cons (ps_asg (pe_op op_add (pe_ix ix_list (pv 0) pe_int (fun _ _ => rfl)) pe_int) (pg_sub (pv 0) pe_int set_list))
        (pss_cons (ps_set (i := 3) scLTake.nd rfl (.inl rfl) (pe_op op_mod (pe_op op_pow (pe_op op_add (pe_ix ix_list (pv 0) pe_int (fun _ _ => rfl)) (pe_op op_mul pe_int (pe_ix ix_list (pv 0) pe_int (fun _ _ => rfl)))) pe_int) pe_int))
        (pss_one (ps_ret (pe_op op_mod (pe_op op_fdiv (pe_op op_mod (pe_op op_add (pe_op op_mul (pv 3) (pe_op op_add (pe_op op_mod (pv 3) pe_int) pe_int)) (pe_op op_mul (pe_ix ix_list (pv 0) pe_int (fun _ _ => rfl)) pe_int)) pe_int) pe_int) (pv 1))))))), ?_⟩
    obtain ⟨x, y, z, hp, hx, hy, hy2, hz, hzn⟩ := hB
    have hm3 : m.natAbs < 340282366920938463463374607431768211456 := by omega
    refine ⟨_, rfl, p, _, 0, .int x, rfl, rfl, SqL.of hp, atI_nat (j := 0) rfl, _, _, rfl, rfl, _, rfl, ite2 (fun e => ?_) (fun e => ?_)⟩
    · refine ⟨_, rfl, p, _, 0, .int x, rfl, rfl, SqL.of hp, atI_nat (j := 0) rfl, _, rfl, _, _, rfl, rfl, hm, ?_⟩
      refine ⟨_, rfl, p, _, 0, .int x, rfl, rfl, SqL.of hp, atI_nat (j := 0) rfl, _, rfl, _, _, rfl, rfl, wide_div (b := 128) hm hm3 (by decide) (by decide), ?_⟩
      refine ⟨_, rfl, p, _, 0, 0, rfl, rfl, hp, rfl, _, rfl, ?_⟩
      exact q _ _ But.upd ⟨_, y, z, upd_same, Int.ediv_nonneg hx (Int.le_of_lt hm), hy, hy2, hz, by omega⟩ (Int.emod_nonneg _ (by omega)) (Int.emod_lt_of_pos _ hm)
    · refine ⟨_, rfl, p, _, 2, .int z, rfl, rfl, SqL.of hp, atI_nat (j := 2) rfl, _, _, rfl, rfl, _, rfl, p, _, 2, 2, rfl, rfl, hp, rfl, ?_⟩
      have hp2 : upd H p (.lst [.int x, .int y, .int (z + 1)]) p = some (.lst [.int x, .int y, .int (z + 1)]) := upd_same
      refine ⟨_, rfl, p, _, 1, .int y, rfl, rfl, SqL.of hp2, atI_nat (j := 1) rfl, _, rfl, p, _, 2, .int (z + 1), rfl, rfl, SqL.of hp2, atI_nat (j := 2) rfl, _, _, rfl, rfl, .inl ⟨by decide, by decide⟩, _, _, rfl, rfl, _, _, rfl, rfl, ⟨by decide, by decide, ?_⟩, _, _, rfl, rfl, (show (0 : Int) < 2147483647 by decide), ?_⟩
      · have : (y + 39373 * (z + 1)).natAbs < 18446744073709551616 := by omega
        exact this
      · refine ⟨_, rfl, _, rfl, _, _, rfl, rfl, (show (0 : Int) < 40009 by decide), _, _, rfl, rfl, _, _, rfl, rfl, .inr ⟨?_, ?_⟩, _, rfl, p, _, 2, .int (z + 1), rfl, rfl, SqL.of hp2, atI_nat (j := 2) rfl, _, _, rfl, rfl, .inr ⟨by decide, by decide⟩, _, _, rfl, rfl, _, _, rfl, rfl, (show (0 : Int) < 2147483629 by decide), _, _, rfl, rfl, ⟨by decide, by decide⟩, _, rfl, _, _, rfl, rfl, hm, ?_⟩
        · have h1 := Int.emod_nonneg ((y + 39373 * (z + 1)) ^ 5 % 2147483647) (b := 40009) (by decide)
          have : -18446744073709551616 < ((y + 39373 * (z + 1)) ^ 5 % 2147483647) % 40009 + 7 := by omega
          exact this
        · have h1 := Int.emod_lt_of_pos ((y + 39373 * (z + 1)) ^ 5 % 2147483647) (b := 40009) (by decide)
          have : ((y + 39373 * (z + 1)) ^ 5 % 2147483647) % 40009 + 7 < 18446744073709551616 := by omega
          exact this
        · exact q _ _ But.upd ⟨x, y, z + 1, hp2, hx, hy, hy2, by omega, by omega⟩ (Int.emod_nonneg _ (by omega)) (Int.emod_lt_of_pos _ hm)
end
section
variable {P : Program} {w : World} {K : PySem.W.Frag} {mg : Str → Option Value} {base : Heap}

end
section
variable {P : Program} {w : World} {K : PySem.W.Frag} {mg : Str → Option Value} {base : Heap}
/-! letters and names -/
theorem call_listS {X : Cx} (hc : X.calm = true) : CallR X (.type "list") (fun xs H Q => ∃ z : Str, xs = [.str z] ∧ z.length ≤ sizeLine ∧ ∀ l, H l = none → Q (.ref l) (upd H l (.lst (z.cps.toList.map fun c => .str ⟨#[c]⟩)))) := by
  intro pins s σ H xs us Q I r h
  obtain ⟨z, rfl, hz, q⟩ := h
  obtain ⟨u, rfl, rx⟩ := vals1 r
  obtain ⟨t, rfl⟩ := rx
  refine call_list_str (I.ok.hd hc) z t (hn := hz) fun h' tk acc c' kp e it => ?_
  have rv : ∀ (l : List Nat) (vs : List Value), vs.length = l.length → (∀ (j : Nat) (v : Value), vs[j]? = some v → ∃ (c : Nat) (u : Tok), l[j]? = some c ∧ v = Value.str ⟨#[c]⟩ u) → Vals (l.map fun c => V.str ⟨#[c]⟩) vs := by
    intro l
    induction l with
    | nil =>
      intro vs hl _
      cases vs with
      | nil => exact .nil
      | cons => cases hl
    | cons c l ih =>
      intro vs hl hv
      cases vs with
      | nil => cases hl
      | cons v vs =>
        obtain ⟨c1, u1, e1, rfl⟩ := hv 0 v rfl
        have e2 : c = c1 := Option.some.inj e1
        subst e2
        exact .cons ⟨u1, rfl⟩ (ih vs (Nat.succ.inj hl) fun j v h => hv (j + 1) v h)
  have r2 : Vals (z.cps.toList.map fun c => V.str ⟨#[c]⟩) acc.toList := rv _ _ (by have := it.1; simpa using this) fun j v hv => by
    obtain ⟨c, u, hc2, hv2⟩ := it.2 j v (by simpa using hv)
    exact ⟨c, u, by simpa using hc2, hv2⟩
  refine ⟨.ref s.heap.objs.size, _, I.laid (t' := tk) kp (Nat.le_refl _) (show ObjOk X.prog X.w _ h' _ (.lst _) from ⟨?_, acc.toList, c', r2, by simpa using e⟩), rfl, q _ (I.hok.fresh (Nat.le_refl _))⟩
  rw [List.length_map]
  have hz2 : z.cps.size ≤ sizeLine := hz
  simpa using hz2
def LT : Str := "abcdefghijklmnopqrstuvwxyz"
def sg (d : Nat) : Str := ⟨#[97 + d]⟩
def nm (l : List Nat) : Str := ⟨(l.map (97 + ·)).toArray⟩
def num : List Nat → Int := fun l => l.foldl (fun (a : Int) (d : Nat) => a * 27 + (d : Int) + 1) 0
structure Gd (l : List Nat) : Prop where
  lt : ∀ d ∈ l, d < 26
  lo : 1 ≤ l.length
  hi : l.length ≤ 4
theorem occ_at : ∀ d, d < 26 → Builtin.Str.occurrences LT (sg d) 0 LT.length 1 = d :: [] := by decide +kernel
theorem lt_at : ∀ d, d < 26 → LT.cps.toList[d]? = some (97 + d) := by decide +kernel
theorem lt_len : LT.length = 26 := by decide +kernel
theorem lt_in {c : Nat} : c ∈ LT.cps.toList ↔ 97 ≤ c ∧ c < 123 := by
  have e : LT.cps.toList = [97, 98, 99, 100, 101, 102, 103, 104, 105, 106, 107, 108, 109, 110, 111, 112, 113, 114, 115, 116, 117, 118, 119, 120, 121, 122] := by decide +kernel
  rw [e]
  simp only [List.mem_cons, List.not_mem_nil, or_false]
  omega
theorem nm_len (l : List Nat) : (nm l).length = l.length := by
  show (l.map (97 + ·)).toArray.size = l.length
  simp
theorem nm_size (l : List Nat) : (nm l).cps.size = l.length := nm_len l
theorem nm_at {l : List Nat} {i c : Nat} (h : (nm l).cps[i]? = some c) : ∃ d, l[i]? = some d ∧ c = 97 + d := by
  have h1 : (l.map (97 + ·))[i]? = some c := by
    unfold nm at h
    simpa using h
  rw [List.getElem?_map] at h1
  cases e : l[i]? with
  | none => rw [e] at h1; cases h1
  | some d =>
    rw [e] at h1
    exact ⟨d, rfl, (Option.some.inj h1).symm⟩
theorem nm_cons (d : Nat) (l : List Nat) : sg d ++ nm l = nm (d :: l) := by
  show (⟨(sg d).cps ++ (nm l).cps⟩ : Str) = nm (d :: l)
  unfold nm sg
  simp
theorem nm_inj {a b : List Nat} (h : nm a = nm b) : a = b := by
  have h1 : (nm a).cps.toList = (nm b).cps.toList := by rw [h]
  have h2 : a.map (97 + ·) = b.map (97 + ·) := by simpa [nm] using h1
  have inj : ∀ (a b : List Nat), a.map (97 + ·) = b.map (97 + ·) → a = b := by
    intro a
    induction a with
    | nil =>
      intro b h
      cases b with
      | nil => rfl
      | cons => simp at h
    | cons x a ih =>
      intro b h
      cases b with
      | nil => simp at h
      | cons y b =>
        simp only [List.map_cons, List.cons.injEq] at h
        have e : x = y := by omega
        rw [e, ih b h.2]
  exact inj a b h2
theorem num_nil : num [] = 0 := rfl
theorem num_snoc (l : List Nat) (d : Nat) : num (l ++ [d]) = num l * 27 + d + 1 := by
  unfold num
  rw [List.foldl_append]
  rfl
theorem num_take {l : List Nat} {i d : Nat} (h : l[i]? = some d) : num (l.take (i + 1)) = num (l.take i) * 27 + d + 1 := by
  have e : l.take (i + 1) = l.take i ++ [d] := by rw [List.take_add_one, h]; rfl
  rw [e, num_snoc]
theorem snoc_ind {P : List Nat → Prop} (h0 : P []) (hs : ∀ l d, P l → P (l ++ [d])) (l : List Nat) : P l := by
  have h : ∀ n (l : List Nat), l.length = n → P l := by
    intro n
    induction n with
    | zero =>
      intro l e
      have : l = [] := List.eq_nil_of_length_eq_zero e
      rw [this]; exact h0
    | succ n ih =>
      intro l e
      have hne : l ≠ [] := fun z => by rw [z] at e; cases e
      rw [← List.dropLast_concat_getLast hne]
      exact hs _ _ (ih _ (by rw [List.length_dropLast, e]; rfl))
  exact h _ l rfl
theorem num_nonneg (l : List Nat) : 0 ≤ num l := snoc_ind (P := fun l => 0 ≤ num l) (by rw [num_nil]; exact Int.le_refl _) (fun l d ih => by rw [num_snoc]; omega) l
theorem num_hi (l : List Nat) (h : ∀ d ∈ l, d < 26) : num l < 27 ^ l.length :=
  snoc_ind (P := fun l => (∀ d ∈ l, d < 26) → num l < 27 ^ l.length) (fun _ => by rw [num_nil]; decide) (fun l d ih h => by
    rw [num_snoc, List.length_append, List.length_singleton, Int.pow_succ]
    have h1 := ih fun e he => h e (List.mem_append_left _ he)
    have h2 := h d (List.mem_append_right _ (List.mem_singleton.mpr rfl))
    omega) l h
theorem num_lo (l : List Nat) : l ≠ [] → (27 : Int) ^ (l.length - 1) ≤ num l :=
  snoc_ind (P := fun l => l ≠ [] → (27 : Int) ^ (l.length - 1) ≤ num l) (fun h => absurd rfl h) (fun l d ih _ => by
    rw [num_snoc, List.length_append, List.length_singleton, Nat.add_sub_cancel]
    cases l with
    | nil =>
      show (1 : Int) ≤ num [] * 27 + d + 1
      have := num_nonneg []
      omega
    | cons x l =>
      have h1 := ih (List.cons_ne_nil _ _)
      rw [List.length_cons, Nat.add_sub_cancel] at h1
      rw [List.length_cons, Int.pow_succ]
      omega) l
theorem num_pos {l : List Nat} (h : l ≠ []) : 0 < num l := by
  have h1 := num_lo l h
  have h2 : (0 : Int) < 27 ^ (l.length - 1) := Int.pow_pos (by decide)
  omega
theorem num_inj (a : List Nat) : ∀ b, (∀ d ∈ a, d < 26) → (∀ d ∈ b, d < 26) → num a = num b → a = b :=
  snoc_ind (P := fun a => ∀ b, (∀ d ∈ a, d < 26) → (∀ d ∈ b, d < 26) → num a = num b → a = b)
    (fun b _ _ h => by
      cases b with
      | nil => rfl
      | cons x b =>
        have := num_pos (List.cons_ne_nil x b)
        rw [← h, num_nil] at this
        exact absurd this (by decide))
    (fun l d ih b => snoc_ind (P := fun b => (∀ d' ∈ l ++ [d], d' < 26) → (∀ d ∈ b, d < 26) → num (l ++ [d]) = num b → l ++ [d] = b)
      (fun _ _ h => by
        have := num_pos (l := l ++ [d]) (by simp)
        rw [h, num_nil] at this
        exact absurd this (by decide))
      (fun b e _ ha hb h => by
        rw [num_snoc, num_snoc] at h
        have h1 := ha d (List.mem_append_right _ (List.mem_singleton.mpr rfl))
        have h2 := hb e (List.mem_append_right _ (List.mem_singleton.mpr rfl))
        have e1 : d = e := by omega
        have e2 : num l = num b := by omega
        rw [e1, ih b (fun x hx => ha x (List.mem_append_left _ hx)) (fun x hx => hb x (List.mem_append_left _ hx)) e2]) b) a
theorem num_ord {a b : List Nat} (ha : Gd a) (hb : Gd b) (h : a.length ≠ b.length) : (num b < num a) ↔ (b.length < a.length) := by
  have la := num_lo a (fun z => by have := ha.lo; rw [z] at this; cases this)
  have lb := num_lo b (fun z => by have := hb.lo; rw [z] at this; cases this)
  have ua := num_hi a ha.lt
  have ub := num_hi b hb.lt
  have step : ∀ m n : Nat, m < n → n ≤ 4 → (27 : Int) ^ m ≤ 27 ^ (n - 1) := fun m n h1 h2 => (by decide +kernel : ∀ n, n < 5 → ∀ m, m < n → (27 : Int) ^ m ≤ 27 ^ (n - 1)) n (by omega) m h1
  constructor
  · intro h1
    by_cases h2 : b.length < a.length
    · exact h2
    · have := step a.length b.length (by omega) hb.hi
      omega
  · intro h2
    have := step b.length a.length h2 ha.hi
    omega
def isNm (z : Str) : Bool := decide (1 ≤ z.length) && (decide (z.length ≤ 4) && z.cps.toList.all fun c => decide (c ∈ LT.cps.toList))
theorem isNm_nm {l : List Nat} (h : Gd l) : isNm (nm l) = true := by
  unfold isNm
  rw [nm_len, decide_eq_true h.lo, decide_eq_true h.hi]
  have e : (nm l).cps.toList = l.map (97 + ·) := by simp [nm]
  rw [e, List.all_map]
  show l.all _ = true
  rw [List.all_eq_true]
  intro d hd
  have := h.lt d hd
  show decide (97 + d ∈ LT.cps.toList) = true
  exact decide_eq_true (lt_in.mpr ⟨by omega, by omega⟩)
theorem join_sg (l : List Nat) : Txt.join (Str.ofString "") (l.map sg) = nm l := by
  show Builtin.Str.glued _ _ = _
  rw [StrLaws.glued_eq_join]
  have go : ∀ l : List Nat, Str.join (Str.ofString "") (l.map sg) = nm l := by
    intro l
    induction l with
    | nil => rfl
    | cons d l ih =>
      cases l with
      | nil =>
        show sg d = nm [d]
        unfold sg nm
        simp
      | cons e l =>
        show sg d ++ Str.ofString "" ++ Str.join (Str.ofString "") ((e :: l).map sg) = nm (d :: e :: l)
        rw [ih, ← nm_cons d]
        show (⟨((sg d).cps ++ (Str.ofString "").cps) ++ (nm (e :: l)).cps⟩ : Str) = ⟨(sg d).cps ++ (nm (e :: l)).cps⟩
        have z : (Str.ofString "").cps = #[] := by decide +kernel
        rw [z, Array.append_empty]
  exact go l
def spNameNumber : Sp := fun vs H Q _ => ∃ l : List Nat, vs = [.str (nm l)] ∧ (∀ d ∈ l, d < 26) ∧ Q (.int (num l)) H
def spIsName (K : PySem.W.Frag) : Sp := fun vs H Q _ => ∃ x : V, vs = [x] ∧ ((∃ z : Str, x = .str z ∧ z.length ≤ 100000 ∧ ∀ G, Same H G → Q (.bl (isNm z)) G) ∨ (∃ t : String, TyX K H x (.type t) ∧ kitB t "str" = some false ∧ Q (.bl false) H))
def spNameOf : Sp := fun vs H Q _ => ∃ l : List Nat, vs = [.int (num l)] ∧ Gd l ∧ ∀ G, Same H G → Q (.str (nm l)) G
def spLWholeName : Sp := fun vs H Q _ => ∃ (p : Addr) (n : Int), vs = [.ref p] ∧ Box H p n ∧ n < 1000000 ∧ ∀ (l : List Nat) (G : Hp), Gd l → But p H G → Box G p (n + 5) → Q (.str (nm l)) G

end
section
variable {P : Program} {w : World} {K : PySem.W.Frag} {mg : Str → Option Value} {base : Heap}
theorem okNameNumber (T : Tx K mg) : FnOk P w K mg base CX0 1 (He.ga K "name_number") T.fdNameNumber ["name"] spNameNumber := by
  have B := T.B
  refine T.FNameNumber.ok scNameNumber (fun vs H Q E h => ?_) (fun cdv A outer s H vs Q E hr h => ?_)
  · obtain ⟨l, rfl, _⟩ := h
    rfl
  · obtain ⟨l, rfl, hl, q⟩ := h
    refine ⟨_, PSs.nox (pss_cons (ps_set (i := 1) scNameNumber.nd rfl (.inl rfl) pe_int)
        (pss_cons (ps_for PassesOwn.never rfl (pi_str (pv 0)) (pg_name (i := 2) scNameNumber.nd rfl (Or.inl rfl))
        (pss_one (ps_set (i := 1) scNameNumber.nd rfl (.inl rfl) (pe_op op_add (pe_op op_add (pe_op op_mul (pv 1) (pe_glob (v := .int 27) (by rfl) T.c_BASE.choose_spec ⟨_, rfl⟩)) (pe_m1 PySem.F.slot_str_index PySem.F.type_str_index mt_sindex (pe_glob (v := .str "abcdefghijklmnopqrstuvwxyz") (by rfl) T.c_LETTERS.choose_spec ⟨_, rfl⟩) (pv 2))) pe_int))))
        (pss_one (ps_ret (pv 1))))), ?_⟩
    refine ⟨_, rfl, _, rfl, for_it walk_str (fun i σ G => G = H ∧ ∃ x, σ = [some (.str (nm l)), some (.int (num (l.take i))), x]) ⟨rfl, _, rfl⟩ (fun _ _ _ _ _ => trivial) ?_ ?_⟩
    · rintro i v σ G G1 hi ⟨rfl, x, rfl⟩ ⟨rfl, c, hc, rfl⟩
      obtain ⟨d, hd, rfl⟩ := nm_at hc
      have d26 := hl d (List.mem_of_getElem? hd)
      refine ⟨_, rfl, _, _, rfl, rfl, .inr ⟨by decide, by decide⟩, ⟨_, rfl⟩, _, rfl, LT, sg d, d, [], rfl, rfl, occ_at d d26, _, _, rfl, rfl, _, _, rfl, rfl, ?_⟩
      exact ⟨rfl, _, by rw [num_take hd]; rfl⟩
    · rintro σ G ⟨rfl, x, rfl⟩
      refine ⟨_, rfl, ?_⟩
      rw [nm_size, List.take_length]
      exact q
end
section
variable {P : Program} {w : World} {K : PySem.W.Frag} {mg : Str → Option Value} {base : Heap}
/-! rows -/
def W5 : List Str := [Str.ofString "load", Str.ofString "set", Str.ofString "end", Str.ofString "late", Str.ofString "reset"]
theorem w5_at {k : Nat} (h : k < 5) : ∃ z, W5[k]? = some z := ⟨W5[k], List.getElem?_eq_getElem h⟩
theorem w5_nd : ∀ j, j < 5 → ∀ k, k < 5 → W5[j]? = W5[k]? → j = k := by decide +kernel
def rnum (k : Nat) (l : List Nat) (t : Int) : Int := (num l * 5 + k) * 9973 + t
/-- a row at q: its board, the place of its word, its name's letters, its note -/
structure RowAt (K : PySem.W.Frag) (H : Hp) (q : Addr) (b : Int) (k : Nat) (l : List Nat) (t : Int) : Prop where
  at_ : ∃ z, W5[k]? = some z ∧ SqT K H q [.int b, .str z, .str (nm l), .int t]
  k5 : k < 5
  gd : Gd l
theorem RowAt.same {K : PySem.W.Frag} {H G : Hp} {q : Addr} {b t : Int} {k : Nat} {l : List Nat} (r : RowAt K H q b k l t) (s : Same H G) : RowAt K G q b k l t := by
  obtain ⟨z, e, h⟩ := r.at_
  exact ⟨⟨z, e, seqT_same s h⟩, r.k5, r.gd⟩
theorem seqT_but {K : PySem.W.Frag} {H G : Hp} {p a : Addr} {xs : List V} {n : Int} (s : But p H G) (h : SqT K H a xs) (hB : Box H p n) : SqT K G a xs := by
  obtain ⟨x, y, z, e, _⟩ := hB
  rcases h with (h | ⟨o, h⟩) | h
  · exact .inl (.inl (s _ _ h fun q => by rw [q, e] at h; cases h))
  · exact .inl (.inr ⟨o, s _ _ h fun q => by rw [q, e] at h; cases h⟩)
  · exact .inr h
theorem RowAt.but {K : PySem.W.Frag} {H G : Hp} {q p : Addr} {b t n : Int} {k : Nat} {l : List Nat} (r : RowAt K H q b k l t) (s : But p H G) (hB : Box H p n) : RowAt K G q b k l t := by
  obtain ⟨z, e, h⟩ := r.at_
  exact ⟨⟨z, e, seqT_but s h hB⟩, r.k5, r.gd⟩
def spRowNumber (K : PySem.W.Frag) : Sp := fun vs H Q _ => ∃ (q : Addr) (b : Int) (k : Nat) (l : List Nat) (t : Int), vs = [.ref q] ∧ RowAt K H q b k l t ∧ Q (.int (rnum k l t)) H
theorem words_seq (T : Tx K mg) (H : Hp) : SqT K H (He.ga K "WORDS") (W5.map V.str) := tupD_seq T.t_WORDS H
theorem okRowNumber (T : Tx K mg) : FnOk P w K mg base CX0 2 (He.ga K "row_number") T.fdRowNumber ["row"] (spRowNumber K) := by
  have B := T.B
  have GNameNumber : FnOk P w K mg base CX0 1 (He.ga K "name_number") T.fdNameNumber ["name"] spNameNumber := okNameNumber T
  have bNameNumber := T.bNameNumber
  refine T.FRowNumber.ok scRowNumber (fun vs H Q E h => ?_) (fun cdv A outer s H vs Q E hr h => ?_)
  · obtain ⟨q, b, k, l, t, rfl, _⟩ := h
    rfl
  · obtain ⟨q, b, k, l, t, rfl, R, hq⟩ := h
    refine ⟨_, PSs.nox (pss_cons (ps_asg (pv 0) (pg_tup rfl (pgs_cons (pg_name (i := 1) scRowNumber.nd rfl (Or.inl rfl)) (pgs_cons (pg_name (i := 2) scRowNumber.nd rfl (Or.inl rfl)) (pgs_cons (pg_name (i := 3) scRowNumber.nd rfl (Or.inl rfl)) (pgs_cons (pg_name (i := 4) scRowNumber.nd rfl (Or.inl rfl)) pgs_nil))))))
        (pss_one (ps_ret (pe_op op_add (pe_op op_mul (pe_op op_add (pe_op op_mul (pe_call GNameNumber (hr.mono (by decide)) (by rfl) T.gNameNumber T.FNameNumber.kp bNameNumber .nil pass0 (pa_cons (pv 3) pa_nil)) (pe_callB call_len_seq (by rfl) B.b_len PySem.boot_len (pa_cons (pe_glob (v := .ref (He.ga K "WORDS")) (by rfl) T.c_WORDS rfl) pa_nil))) (pe_bm PySem.F.plainAttrs_tuple PySem.F.slot_tuple_index PySem.F.type_tuple_index mt_tup_index (pe_glob (v := .ref (He.ga K "WORDS")) (by rfl) T.c_WORDS rfl) (pa_cons (pv 2) pa_nil))) (pe_glob (v := .int 9973) (by rfl) T.c_NOTES.choose_spec ⟨_, rfl⟩)) (pv 4))))), ?_⟩
    obtain ⟨z, ez, hs⟩ := R.at_
    refine ⟨_, rfl, q, _, rfl, hs, rfl, _, _, rfl, _, _, rfl, _, _, rfl, _, _, rfl, rfl, ?_⟩
    refine ⟨_, rfl, l, rfl, R.gd.lt, ?_⟩
    refine ⟨_, _, rfl, .inr (words_seq T H), _, _, rfl, rfl, .inr ⟨by decide, by decide⟩, ?_⟩
    refine ⟨.inr (.inl ⟨rfl, tupD_ty T.t_WORDS⟩), _, rfl, _, W5, z, k, rfl, rfl, words_seq T H, ez, fun m hm e => ?_, _, _, rfl, rfl, _, _, rfl, rfl, .inr ⟨by decide, by decide⟩, _, rfl, _, _, rfl, rfl, hq⟩
    have := w5_nd m (by have := R.k5; omega) k R.k5 (e.trans ez.symm)
    omega

end
section
variable {P : Program} {w : World} {K : PySem.W.Frag} {mg : Str → Option Value} {base : Heap}
/-! numbers without a divisor in common -/
def Cop (a b : Int) : Prop := ∀ c : Int, 0 < c → c ∣ a → c ∣ b → c = 1
theorem cop_of {a b u v : Int} (h : u * a + v * b = 1) : Cop a b := fun c hc ha hb => by
  have h1 : c ∣ 1 := by
    rw [← h]
    exact Int.dvd_add (Int.dvd_trans ha (Int.dvd_mul_left _ _)) (Int.dvd_trans hb (Int.dvd_mul_left _ _))
  exact Int.eq_one_of_dvd_one (Int.le_of_lt hc) h1
theorem cop_mod {a m : Int} (h : Cop a m) : Cop m (a % m) := fun c hc h1 h2 => by
  refine h c hc ?_ h1
  have e := Int.mul_ediv_add_emod a m
  rw [← e]
  exact Int.dvd_add (Int.dvd_trans h1 (Int.dvd_mul_right _ _)) h2
theorem cop_pos {a b : Int} (h : Cop a b) (ha : 1 < a) (hb : 0 ≤ b) : 1 ≤ b := by
  by_cases e : b = 0
  · subst e
    have := h a (by omega) (Int.dvd_refl _) (Int.dvd_zero _)
    omega
  · omega
def spInverse : Sp := fun vs H Q _ => ∃ (a m : Int), vs = [.int a, .int m] ∧ 1 < m ∧ m < 1073741824 ∧ Cop a m ∧ ∀ (r : Int) (G : Hp), Same H G → 0 ≤ r → r < m → m ∣ (r * a - 1) → Q (.int r) G

theorem Cop.symm {a b : Int} (h : Cop a b) : Cop b a := fun c hc h1 h2 => h c hc h2 h1
def wV : Option Int → V
  | none => .non
  | some n => .int n
def wD : Option Int → PyData
  | none => .none
  | some n => .int n
theorem dp_w {K : PySem.W.Frag} {H : Hp} (w : Option Int) : Dp K H (wV w) (wD w) := by
  cases w with
  | none => exact .non
  | some n => exact .int n
theorem wD_ok (w : Option Int) (f : Int) : SeqAt.shaped (.list [wD w, .int f]) = true := by
  cases w <;> rfl
theorem wD_can (w : Option Int) (f : Int) : (PyData.list [wD w, .int f]).canLay0 = true := by
  cases w <;> rfl
structure OkMix (w : Option Int) (f : Int) : Prop where
  f1 : 1 ≤ f
  f2 : f ≤ 1000000
  w_ : ∀ n, w = some n → 3 ≤ n ∧ n ≤ 1000000 ∧ Cop f n
def mxf (w : Option Int) (f : Int) : List (Str × V) := putF "factor" (.int f) (putF "width" (wV w) [])
theorem wf_ne : ¬ (("width" : Str) = "factor") := by decide +kernel
theorem mxf_width (w : Option Int) (f : Int) : (mxf w f).lookup ("width" : Str) = some (wV w) := by
  unfold mxf
  rw [lookup_putF, if_neg wf_ne, lookup_putF, if_pos rfl]
theorem mxf_factor (w : Option Int) (f : Int) : (mxf w f).lookup ("factor" : Str) = some (.int f) := by
  unfold mxf
  rw [lookup_putF, if_pos rfl]
theorem mxf_no (w : Option Int) (f : Int) {m : Str} (h1 : ¬ m = "factor") (h2 : ¬ m = "width") : (mxf w f).lookup m = none := by
  unfold mxf
  rw [lookup_putF, if_neg h1, lookup_putF, if_neg h2]
  rfl
/-- a mixing at p -/
structure MixAt (K : PySem.W.Frag) (H : Hp) (p : Addr) (w : Option Int) (f : Int) : Prop where
  at_ : ∃ dx, H p = some (.ins (He.ga K "Mixing") dx (mxf w f))
  ok : OkMix w f
theorem MixAt.same {K : PySem.W.Frag} {H G : Hp} {p : Addr} {w : Option Int} {f : Int} (m : MixAt K H p w f) (s : Same H G) : MixAt K G p w f := by
  obtain ⟨dx, h⟩ := m.at_
  exact ⟨⟨dx, s _ _ h⟩, m.ok⟩
theorem MixAt.but {K : PySem.W.Frag} {H G : Hp} {p b : Addr} {w : Option Int} {f n : Int} (m : MixAt K H p w f) (s : But b H G) (hB : Box H b n) : MixAt K G p w f := by
  obtain ⟨dx, h⟩ := m.at_
  obtain ⟨x, y, z, e, _⟩ := hB
  exact ⟨⟨dx, s _ _ h fun q => by rw [q, e] at h; cases h⟩, m.ok⟩
def mxd (w : Option Int) (f v : Int) (r : Int) : Int := match w with
  | none => v * 26500305465 + (r + 1)
  | some n => (v * f + (r + 1)) % n
def spIsNumber : Sp := fun vs H Q _ => ∃ i : Int, vs = [.int i] ∧ Q (.bl true) H
def spIsWidth : Sp := fun vs H Q _ => ∃ w : Option Int, vs = [wV w] ∧ (∀ n, w = some n → 3 ≤ n ∧ n ≤ 1000000) ∧ Q (.bl true) H
def spIsFactor : Sp := fun vs H Q _ => ∃ (w : Option Int) (f : Int), vs = [.int f, wV w] ∧ OkMix w f ∧ Q (.bl true) H
def spCommonDivisor : Sp := fun vs H Q _ => ∃ a b : Int, vs = [.int a, .int b] ∧ 0 < a ∧ 0 ≤ b ∧ Cop a b ∧ Q (.int 1) H
def spMixingInit (K : PySem.W.Frag) : Sp := fun vs H Q _ => ∃ (p dx : Addr) (w : Option Int) (f : Int), vs = [.ref p, wV w, .int f] ∧ H p = some (.ins (He.ga K "Mixing") dx []) ∧ OkMix w f ∧
  ∀ G : Hp, MixAt K G p w f → But p H G → Q .non G
def spMixingBegin : Sp := fun vs H Q _ => ∃ (x : V) (b : Bool), vs = [x, .bl b] ∧ Q (.int (if b then 2 else 1)) H
def spMixingMixed (K : PySem.W.Frag) : Sp := fun vs H Q _ => ∃ (p q : Addr) (w : Option Int) (f v b : Int) (k : Nat) (l : List Nat) (t : Int), vs = [.ref p, .int v, .ref q] ∧ MixAt K H p w f ∧ RowAt K H q b k l t ∧ Q (.int (mxd w f v (rnum k l t))) H
theorem okIsNumber (T : Tx K mg) : FnOk P w K mg base CX0 1 (He.ga K "is_number") T.fdIsNumber ["thing"] spIsNumber := by
  have B := T.B
  refine T.FIsNumber.ok scIsNumber (fun vs H Q E h => ?_) (fun cdv A outer s H vs Q E hr h => ?_)
  · obtain ⟨i, rfl, _⟩ := h
    rfl
  · obtain ⟨i, rfl, q⟩ := h
    refine ⟨_, PSs.nox (pss_one (ps_ret (pe_and (pe_callB call_isi (by rfl) B.b_isinstance boot_isinstance (pa_cons (pv 0) (pa_cons (pe_bltn (v := .ty "int") (by rfl) B.b_int PyProof.Rows.boot_int rfl) pa_nil))) (pe_one (pe_not (pe_callB call_isi (by rfl) B.b_isinstance boot_isinstance (pa_cons (pv 0) (pa_cons (pe_bltn (v := .ty "bool") (by rfl) B.b_bool PyProof.Rows.boot_bool rfl) pa_nil)))))))), ?_⟩
    refine ⟨_, rfl, _, _, _, _, _, rfl, .ty _, .base (.int i), kit_ty (r := true) (by decide +kernel), _, rfl, iteT ?_⟩
    exact ⟨_, rfl, _, _, _, _, _, rfl, .ty _, .base (.int i), kit_ty (r := false) (by decide +kernel), _, rfl, q⟩
theorem okCommonDivisor (T : Tx K mg) : FnOk P w K mg base CX0 1 (He.ga K "common_divisor") T.fdCommonDivisor ["number", "other"] spCommonDivisor := by
  have B := T.B
  refine T.FCommonDivisor.ok scCommonDivisor (fun vs H Q E h => ?_) (fun cdv A outer s H vs Q E hr h => ?_)
  · obtain ⟨a, b, rfl, _⟩ := h
    rfl
  · obtain ⟨a, b, rfl, ha, hb, hc, q⟩ := h
    refine ⟨_, PSs.nox (pss_cons (ps_while PassesOwn.never (pt_cmpR op_ne (pv 1) pe_int (nomark _))
        (pss_one (ps_par (i := 0) (j := 1) (by rfl) scCommonDivisor.nd rfl rfl (by decide) rfl rfl (pa_cons (pv 1) (pa_cons (pe_op op_mod (pv 0) (pv 1)) pa_nil)) (by rfl))))
        (pss_one (ps_ret (pv 0)))), ?_⟩
    refine while_by (fun σ G => G = H ∧ ∃ (x y : Int), σ = [some (.int x), some (.int y)] ∧ 0 < x ∧ 0 ≤ y ∧ Cop x y) (fun σ _ => match σ with | [_, some (.int y)] => y.toNat | _ => 0) ⟨rfl, a, b, rfl, ha, hb, hc⟩ ?_ ?_
    · rintro σ G ⟨rfl, x, y, rfl, hx, hy, hxy⟩
      refine ⟨_, rfl, rfl, _, rfl, ?_⟩
      by_cases e : y = 0
      · subst e
        rw [decide_eq_true rfl]
        refine iteF ?_
        have e1 := hxy x hx (Int.dvd_refl _) (Int.dvd_zero _)
        subst e1
        exact ⟨_, rfl, q⟩
      · rw [decide_eq_false fun z => e (V.int.inj z)]
        refine iteT ?_
        have hy1 : 0 < y := by omega
        have h1 := Int.emod_nonneg x (b := y) (by omega)
        have h2 := Int.emod_lt_of_pos x hy1
        refine ⟨_, rfl, _, rfl, _, rfl, _, _, rfl, rfl, hy1, _, _, rfl, ?_⟩
        refine ⟨⟨rfl, _, _, rfl, hy1, h1, cop_mod hxy⟩, ?_⟩
        show (x % y).toNat < y.toNat
        omega
    · intro σ G Q1 Q2 hq h
      obtain ⟨v, e1, e2, k, e3, z⟩ := h
      exact ⟨v, e1, e2, k, e3, hq _ _ z⟩
theorem okIsWidth (T : Tx K mg) : FnOk P w K mg base CX0 2 (He.ga K "is_width") T.fdIsWidth ["thing"] spIsWidth := by
  have B := T.B
  have GIsNumber : FnOk P w K mg base CX0 1 (He.ga K "is_number") T.fdIsNumber ["thing"] spIsNumber := okIsNumber T
  have bIsNumber := T.bIsNumber
  refine T.FIsWidth.ok scIsWidth (fun vs H Q E h => ?_) (fun cdv A outer s H vs Q E hr h => ?_)
  · obtain ⟨w, rfl, _⟩ := h
    rfl
  · obtain ⟨w, rfl, hw, q⟩ := h
    refine ⟨_, PSs.nox (pss_one (ps_ret (pe_or (pe_cmpR op_isN (pv 0) pe_non (nomark _)) (pe_one (pe_and (pe_call GIsNumber (hr.mono (by decide)) (by rfl) T.gIsNumber T.FIsNumber.kp bIsNumber .nil pass0 (pa_cons (pv 0) pa_nil)) (pe_one (pe_chain op_le op_le (pe_glob (v := .int 3) (by rfl) T.c_LEAST_WIDTH.choose_spec ⟨_, rfl⟩) (pv 0) (pe_glob (v := .int 1000000) (by rfl) T.c_GREATEST.choose_spec ⟨_, rfl⟩)))))))), ?_⟩
    cases w with
    | none => exact ⟨_, rfl, rfl, _, rfl, iteT q⟩
    | some n =>
      obtain ⟨h1, h2⟩ := hw n rfl
      refine ⟨_, rfl, rfl, _, rfl, iteF ?_⟩
      refine ⟨_, rfl, n, rfl, _, rfl, iteT ?_⟩
      refine ⟨_, rfl, _, _, rfl, rfl, _, rfl, ?_⟩
      rw [decide_eq_true h1]
      refine iteT ?_
      refine ⟨_, _, rfl, rfl, ?_⟩
      exact qt h2 q
theorem okIsFactor (T : Tx K mg) : FnOk P w K mg base CX0 2 (He.ga K "is_factor") T.fdIsFactor ["thing", "width"] spIsFactor := by
  have B := T.B
  have GIsNumber : FnOk P w K mg base CX0 1 (He.ga K "is_number") T.fdIsNumber ["thing"] spIsNumber := okIsNumber T
  have bIsNumber := T.bIsNumber
  have GCommonDivisor : FnOk P w K mg base CX0 1 (He.ga K "common_divisor") T.fdCommonDivisor ["number", "other"] spCommonDivisor := okCommonDivisor T
  have bCommonDivisor := T.bCommonDivisor
  refine T.FIsFactor.ok scIsFactor (fun vs H Q E h => ?_) (fun cdv A outer s H vs Q E hr h => ?_)
  · obtain ⟨w, f, rfl, _⟩ := h
    rfl
  · obtain ⟨w, f, rfl, ok, q⟩ := h
    refine ⟨_, PSs.nox (pss_cons (ps_if (PW.pt (pw_or (pt_not (pt_val (pe_call GIsNumber (hr.mono (by decide)) (by rfl) T.gIsNumber T.FIsNumber.kp bIsNumber .nil pass0 (pa_cons (pv 0) pa_nil)))) (pw_or1 (pt_not (pt_chain op_le op_le pe_int (pv 0) (pe_glob (v := .int 1000000) (by rfl) T.c_GREATEST.choose_spec ⟨_, rfl⟩)))))) (pss_one (ps_ret pe_bl)) pss_nil)
        (pss_one (ps_ret (pe_or (pe_cmpR op_isN (pv 1) pe_non (nomark _)) (pe_one (pe_cmpR op_eq (pe_call GCommonDivisor (hr.mono (by decide)) (by rfl) T.gCommonDivisor T.FCommonDivisor.kp bCommonDivisor .nil pass0 (pa_cons (pv 0) (pa_cons (pv 1) pa_nil))) pe_int (nomark _))))))), ?_⟩
    have f1 := ok.f1
    have f2 := ok.f2
    refine ⟨_, rfl, f, rfl, _, rfl, iteF ?_⟩
    refine ⟨_, rfl, _, _, rfl, rfl, _, rfl, ?_⟩
    rw [decide_eq_true f1]
    refine iteT ?_
    refine ⟨_, _, rfl, rfl, _, rfl, ?_⟩
    rw [decide_eq_true f2]
    refine iteF ?_
    cases w with
    | none => exact ⟨_, rfl, rfl, _, rfl, iteT q⟩
    | some n =>
      obtain ⟨h1, h2, h3⟩ := ok.w_ n rfl
      refine ⟨_, rfl, rfl, _, rfl, iteF ?_⟩
      exact ⟨_, rfl, _, rfl, f, n, rfl, by omega, by omega, h3, rfl, q⟩
theorem okMixingInit (T : Tx K mg) : FnOk P w K mg base CX0 3 (He.ma K (He.ga K "Mixing") "__init__") T.fdMixingInit ["self", "width", "factor"] (spMixingInit K) := by
  have B := T.B
  have GIsWidth : FnOk P w K mg base CX0 2 (He.ga K "is_width") T.fdIsWidth ["thing"] spIsWidth := okIsWidth T
  have bIsWidth := T.bIsWidth
  have GIsFactor : FnOk P w K mg base CX0 2 (He.ga K "is_factor") T.fdIsFactor ["thing", "width"] spIsFactor := okIsFactor T
  have bIsFactor := T.bIsFactor
  refine T.FMixingInit.ok scMixingInit (fun vs H Q E h => ?_) (fun cdv A outer s H vs Q E hr h => ?_)
  · obtain ⟨p, dx, w, f, rfl, _⟩ := h
    rfl
  · obtain ⟨p, dx, w, f, rfl, hp, ok, q⟩ := h
    refine ⟨_, PSs.nox (pss_cons (ps_if (pt_not (pt_val (pe_call GIsWidth (hr.mono (by decide)) (by rfl) T.gIsWidth T.FIsWidth.kp bIsWidth .nil pass0 (pa_cons (pv 1) pa_nil)))) (pss_one ps_never) pss_nil)
        (pss_cons (ps_if (pt_not (pt_val (pe_call GIsFactor (hr.mono (by decide)) (by rfl) T.gIsFactor T.FIsFactor.kp bIsFactor .nil pass0 (pa_cons (pv 2) (pa_cons (pv 1) pa_nil))))) (pss_one ps_never) pss_nil)
        (pss_cons (ps_fld (pv 0) (pv 1) rfl)
        (pss_one (ps_fld (pv 0) (pv 2) rfl))))), ?_⟩
    refine ⟨_, rfl, w, rfl, fun n e => ⟨(ok.w_ n e).1, (ok.w_ n e).2.1⟩, _, rfl, iteF ?_⟩
    refine ⟨_, rfl, _, rfl, w, f, rfl, ok, _, rfl, iteF ?_⟩
    refine ⟨_, rfl, _, rfl, p, _, dx, [], rfl, hp, T.clMixing, T.nMixing_width, by show 0 < 1000; decide, ?_⟩
    refine ⟨_, rfl, _, rfl, p, _, dx, _, rfl, upd_same, T.clMixing, T.nMixing_factor, by show 1 < 1000; decide, ?_⟩
    refine q _ ⟨⟨dx, upd_same⟩, ok⟩ fun b o e hb => ?_
    rw [upd_ne hb, upd_ne hb]
    exact e
theorem okMixingMixed (T : Tx K mg) : FnOk P w K mg base CX0 3 (He.ma K (He.ga K "Mixing") "mixed") T.fdMixingMixed ["self", "value", "row"] (spMixingMixed K) := by
  have B := T.B
  have GRowNumber : FnOk P w K mg base CX0 2 (He.ga K "row_number") T.fdRowNumber ["row"] (spRowNumber K) := okRowNumber T
  have bRowNumber := T.bRowNumber
  refine T.FMixingMixed.ok scMixingMixed (fun vs H Q E h => ?_) (fun cdv A outer s H vs Q E hr h => ?_)
  · obtain ⟨p, q, w, f, v, b, k, l, t, rfl, _⟩ := h
    rfl
  · obtain ⟨p, q, w, f, v, b, k, l, t, rfl, M, R, hq⟩ := h
    refine ⟨_, PSs.nox (pss_cons (ps_set (i := 3) scMixingMixed.nd rfl (.inl rfl) (pe_op op_add (pe_call GRowNumber (hr.mono (by decide)) (by rfl) T.gRowNumber T.FRowNumber.kp bRowNumber .nil pass0 (pa_cons (pv 2) pa_nil)) pe_int))
        (pss_cons (ps_if (pt_cmpR op_isN (pe_fld (pv 0) rfl) pe_non (nomark _)) (pss_one (ps_ret (pe_op op_add (pe_op op_mul (pv 1) (pe_glob (v := .int 26500305465) (by rfl) T.c_SPAN.choose_spec ⟨_, rfl⟩)) (pv 3)))) pss_nil)
        (pss_one (ps_ret (pe_op op_mod (pe_op op_add (pe_op op_mul (pv 1) (pe_fld (pv 0) rfl)) (pv 3)) (pe_fld (pv 0) rfl)))))), ?_⟩
    obtain ⟨dx, hp⟩ := M.at_
    refine ⟨_, rfl, q, b, k, l, t, rfl, R, _, _, rfl, rfl, ?_⟩
    refine ⟨_, rfl, p, _, dx, _, _, rfl, hp, T.clMixing, T.nMixing_width, mxf_width _ _, rfl, _, rfl, ?_⟩
    cases w with
    | none =>
      refine iteT ?_
      exact ⟨_, rfl, _, _, rfl, rfl, .inr ⟨by decide, by decide⟩, _, rfl, _, _, rfl, rfl, hq⟩
    | some n =>
      obtain ⟨h1, h2, h3⟩ := M.ok.w_ n rfl
      have g1 := M.ok.f1
      have g2 := M.ok.f2
      have b1 : -18446744073709551616 < f := by omega
      have b2 : f < 18446744073709551616 := by omega
      refine iteF ?_
      refine ⟨_, rfl, _, rfl, p, _, dx, _, _, rfl, hp, T.clMixing, T.nMixing_factor, mxf_factor _ _, _, _, rfl, rfl, .inr ⟨b1, b2⟩, _, rfl, _, _, rfl, rfl, ?_⟩
      exact ⟨_, rfl, p, _, dx, _, _, rfl, hp, T.clMixing, T.nMixing_width, mxf_width _ _, _, _, rfl, rfl, (show 0 < n by omega), hq⟩
end
section
variable {P : Program} {w : World} {K : PySem.W.Frag} {mg : Str → Option Value} {base : Heap}
/-- the ways in which a mixing is made, and begin called -/
theorem mk0 (T : Tx K mg) : ∃ ds, Vals [.non, .int 7919] ds ∧ Binds K T.fdMixingInit ["self", "width", "factor"] ds :=
  T.FMixingInit.binds 1 0 (by decide) rfl (fun TT D doc pm an cdv ct us its ks h1 h2 h3 => match us, its, ks, h1, h2, h3 with
    | [u], [i], [k], _, _, _ => ⟨_, rfl, ⟨_, _, _, _, _, _, rfl, rfl, rfl⟩⟩) (by decide)
theorem mk1 (T : Tx K mg) : ∃ ds, Vals [.int 7919] ds ∧ Binds K T.fdMixingInit ["self", "width", "factor"] ds :=
  T.FMixingInit.binds 2 1 (by decide) rfl (fun TT D doc pm an cdv ct us its ks h1 h2 h3 => match us, its, ks, h1, h2, h3 with
    | [u, v], [i], [k], _, _, _ => ⟨_, rfl, ⟨_, _, _, _, _, _, rfl, rfl, rfl⟩⟩) (by decide)
theorem mk2 (T : Tx K mg) : ∃ its mv : List Value, KBn K T.fdMixingInit ["self", "width", "factor"] 2 ["factor"] (fun us ws => us ++ ws) (fun vs zs => vs ++ zs) :=
  T.FMixingInit.kbinds 2 ["factor"] [] (fun us its mv ws => us ++ ws) (by decide) (by decide) (by simp) (fun a b c d => a.append d) fun TT D doc pm an cdv ct us its mv ws h1 h2 h3 h4 => match us, its, mv, ws, h1, h2, h3, h4 with
    | [u, v], [i], [], [w], _, _, _, _ => ⟨_, rfl, rfl⟩

end
section
variable {P : Program} {w : World} {K : PySem.W.Frag} {mg : Str → Option Value} {base : Heap}
theorem w5_in : ∀ k, k < 5 → inV (.str (W5.getD k Str.empty)) [.str (Str.ofString "end"), .str (Str.ofString "reset")] = (k == 2 || k == 4) := by decide +kernel
theorem w5_eq : ∀ k, k < 5 → ∀ j, j < 5 → eqV (.str (W5.getD j Str.empty)) (.str (W5.getD k Str.empty)) = (j == k) := by decide +kernel
theorem w5_get {k : Nat} {z : Str} (h : W5[k]? = some z) : z = W5.getD k Str.empty := by
  rw [List.getD_eq_getElem?_getD, h]
  rfl
theorem w5_some {k : Nat} (h : k < 5) : W5[k]? = some (W5.getD k Str.empty) := by
  obtain ⟨z, hz⟩ := w5_at h
  rw [hz, ← w5_get hz]
def spLName : Sp := spLWholeName
def spLRow (K : PySem.W.Frag) : Sp := fun vs H Q _ => ∃ (p : Addr) (m n : Int), vs = [.ref p, .int m] ∧ Box H p n ∧ n < 900000 ∧ 0 < m ∧ m < 1073741824 ∧
  ∀ (q : Addr) (b : Int) (k : Nat) (l : List Nat) (t : Int) (G : Hp), RowAt K G q b k l t → But p H G → Box G p (n + 12) → 0 ≤ b → b < m → 0 ≤ t → t < 9973 → (k = 2 ∨ k = 4 → t = 0) → Q (.ref q) G
def spLNumberOf (K : PySem.W.Frag) : Sp := fun vs H Q _ => ∃ (q : Addr) (b : Int) (k : Nat) (l : List Nat) (t : Int), vs = [.ref q] ∧ RowAt K H q b k l t ∧ ∀ G, Same H G → Q (.int (rnum k l t)) G
def spLCommon : Sp := fun vs H Q _ => ∃ a b : Int, vs = [.int a, .int b] ∧ 0 < a ∧ a ≤ 1000000 ∧ 0 < b ∧ b ≤ 1000000 ∧ ∀ r : Bool, (r = false → Cop a b) → Q (.bl r) H
def spLFactor : Sp := fun vs H Q _ => ∃ (p : Addr) (m n : Int), vs = [.ref p, .int m] ∧ Box H p n ∧ n < 1000000 ∧ 3 ≤ m ∧ m ≤ 1000000 ∧ ∀ (f : Int) (G : Hp), But p H G → Box G p (n + 2) → 1 ≤ f → f ≤ 1000000 → Cop f m → Q (.int f) G
def spLWidth : Sp := fun vs H Q _ => ∃ (p : Addr) (n : Int), vs = [.ref p] ∧ Box H p n ∧ n < 1000000 ∧ ∀ (m : Int) (G : Hp), But p H G → Box G p (n + 3) → 3 ≤ m → m ≤ 1000000 → Q (.int m) G
def spLMixing (K : PySem.W.Frag) : Sp := fun vs H Q _ => ∃ (p : Addr) (n : Int), vs = [.ref p] ∧ Box H p n ∧ n < 900000 ∧
  ∀ (q x : Addr) (w : Option Int) (f : Int) (G : Hp), G q = some (.tup [.ref x, wV w, .int f]) → MixAt K G x w f → But p H G → Box G p (n + 6) → Q (.ref q) G
theorem okLName (T : Tx K mg) : FnOk P w K mg base CX0 2 (He.ga K "_law_name") T.fdLName ["_law_box_here"] spLName := by
  have B := T.B
  have GLTake : FnOk P w K mg base CX0 1 (He.ga K "_law_take") T.fdLTake ["_law_box_here", "_law_many"] spLTake := okLTake T
  have bLTake := T.bLTake
  refine T.FLName.ok scLName (fun vs H Q E h => ?_) (fun cdv A outer s H vs Q E hr h => ?_)
  · obtain ⟨p, n, rfl, _⟩ := h
    rfl
  · obtain ⟨p, n, rfl, hB, hn, q⟩ := h
    refine ⟨_, PSs.nox (pss_one (ps_ret (pe_join pe_str (pe_lc (own := [("_law_k", 1)]) (g := gName 1) (tt := tYes) (by rfl) scLName.nd (pi_range1 (by rfl) B.b_range (pa_cons (pe_op op_add pe_int (pe_call GLTake (hr.mono (by decide)) (by rfl) T.gLTake T.FLTake.kp bLTake .nil pass0 (pa_cons (pv 0) (pa_cons pe_int pa_nil)))) pa_nil)) (blkOk_by (own := [("_law_k", 1)]) (N := ["_law_box_here", "_law_k"]) (sc := defScope sLName) (by decide +kernel)) (fun _ _ _ _ _ => by exact (pg_name (i := 1) scLName.nd rfl (Or.inl rfl))) (fun _ _ _ _ _ => pts_nil) (fun _ _ _ _ _ => (pe_ix ix_str pe_str (pe_call GLTake (hr.mono (by decide)) (by rfl) T.gLTake T.FLTake.kp bLTake .nil pass0 (pa_cons (pv 0) (pa_cons pe_int pa_nil))) (fun _ _ => rfl))))))), ?_⟩
    refine ⟨⟨_, rfl⟩, _, rfl, p, 4, n, rfl, hB, by omega, by decide, by decide, fun r G b1 hB1 r0 r1 => ?_⟩
    refine ⟨_, _, rfl, rfl, _, rfl, (by have : -4611686018427387904 ≤ 1 + r := by omega
                                        exact this), (by have : 1 + r < 4611686018427387904 := by omega
                                                         exact this), fun D hD => ?_⟩
    have nD := hB1.ne hD
    refine lc_range (lo := 0) (n := (1 + r).toNat) (fun i G1 => ∃ l : List Nat, l.length = i ∧ (∀ d ∈ l, d < 26) ∧ But p G G1 ∧ Box G1 p (n + 1 + i) ∧ G1 D = some (.lst ((l.map sg).map V.str))) ⟨[], rfl, (fun _ h => nomatch h), But.of (same_new hD), (hB1.same (same_new hD)).mono (by omega), upd_same⟩ ?_ ?_
    · rintro i G1 hi ⟨l, el, hl, bG, hB2, hDG⟩
      refine ⟨rfl, ?_⟩
      unfold tYes
      refine iteT ?_
      refine ⟨_, rfl, p, 26, n + 1 + i, rfl, hB2, by omega, by decide, by decide, fun d G2 b2 hB3 d0 d1 => ?_⟩
      obtain ⟨k, rfl⟩ : ∃ k : Nat, d = (k : Int) := ⟨d.toNat, by omega⟩
      have hD2 := b2 _ _ hDG nD
      refine ⟨LT, _, 97 + k, rfl, rfl, by rw [lt_len]; exact Nat.le_of_lt (small6 (by decide)), atI_nat (lt_at k (by omega)), _, hD2, ?_, ?_⟩
      · rw [List.length_map, List.length_map, el]
        exact small6 (by omega)
      · refine ⟨l ++ [k], by rw [List.length_append, el]; rfl, fun d hd => ?_, fun b o e hb => ?_, ?_, ?_⟩
        · rcases List.mem_append.mp hd with h | h
          · exact hl d h
          · have := List.mem_singleton.mp h
            omega
        · have hbD : b ≠ D := ne_of_none e hD
          rw [upd_ne hbD]
          exact b2 _ _ (bG _ _ e hb) hb
        · obtain ⟨x, y, z, e, h1, h2, h3, h4, h5⟩ := hB3
          exact ⟨x, y, z, by rw [upd_ne nD.symm]; exact e, h1, h2, h3, h4, by omega⟩
        · rw [upd_same, List.map_append, List.map_append]
          rfl
    · rintro G1 ⟨l, el, hl, bG, hB2, hDG⟩
      refine ⟨_, D, l.map sg, rfl, rfl, .inl (SqL.of hDG), ?_, ?_⟩
      · have e1 : (List.map (fun x : Str => x.length) (l.map sg)).sum = l.length := by
          rw [List.map_map]
          have : ∀ l : List Nat, (l.map ((fun x : Str => x.length) ∘ sg)).sum = l.length := by
            intro l
            induction l with
            | nil => rfl
            | cons d l ih =>
              rw [List.map_cons, List.sum_cons, ih, List.length_cons]
              show 1 + l.length = l.length + 1
              omega
          exact this l
        have e2 : (Str.ofString "").length = 0 := by decide +kernel
        show (List.map (fun x : Str => x.length) (l.map sg)).sum + (l.map sg).length * (Str.ofString "").length ≤ 16777216
        rw [e1, e2]
        omega
      · show Q (V.str (Txt.join (Str.ofString "") (l.map sg))) G1
        rw [join_sg]
        exact q l G1 ⟨hl, by omega, by omega⟩ (b1.trans bG) (hB2.mono (by omega))
theorem okLRow (T : Tx K mg) : FnOk P w K mg base CX0 3 (He.ga K "_law_row") T.fdLRow ["_law_box_here", "_law_boards"] (spLRow K) := by
  have B := T.B
  have GLTake : FnOk P w K mg base CX0 1 (He.ga K "_law_take") T.fdLTake ["_law_box_here", "_law_many"] spLTake := okLTake T
  have bLTake := T.bLTake
  have GLName : FnOk P w K mg base CX0 2 (He.ga K "_law_name") T.fdLName ["_law_box_here"] spLName := okLName T
  have bLName := T.bLName
  refine T.FLRow.ok scLRow (fun vs H Q E h => ?_) (fun cdv A outer s H vs Q E hr h => ?_)
  · obtain ⟨p, m, n, rfl, _⟩ := h
    rfl
  · obtain ⟨p, m, n, rfl, hB, hn, hm, hm2, q⟩ := h
    refine ⟨_, PSs.nox (pss_cons (ps_set (i := 2) scLRow.nd rfl (.inl rfl) (pe_ix ix_list (pe_lst (pa_cons pe_str (pa_cons pe_str (pa_cons pe_str (pa_cons pe_str (pa_cons pe_str pa_nil)))))) (pe_call GLTake (hr.mono (by decide)) (by rfl) T.gLTake T.FLTake.kp bLTake .nil pass0 (pa_cons (pv 0) (pa_cons pe_int pa_nil))) (fun _ _ => rfl)))
        (pss_cons (ps_set (i := 3) scLRow.nd rfl (.inl rfl) (pe_ix ix_list (pe_lst (pa_cons (pe_call GLTake (hr.mono (by decide)) (by rfl) T.gLTake T.FLTake.kp bLTake .nil pass0 (pa_cons (pv 0) (pa_cons pe_int pa_nil))) (pa_cons pe_int (pa_cons pe_int (pa_cons (pe_call GLTake (hr.mono (by decide)) (by rfl) T.gLTake T.FLTake.kp bLTake .nil pass0 (pa_cons (pv 0) (pa_cons pe_int pa_nil))) pa_nil))))) (pe_call GLTake (hr.mono (by decide)) (by rfl) T.gLTake T.FLTake.kp bLTake .nil pass0 (pa_cons (pv 0) (pa_cons pe_int pa_nil))) (fun _ _ => rfl)))
        (pss_one (ps_ret (pe_tup (pa_cons (pe_call GLTake (hr.mono (by decide)) (by rfl) T.gLTake T.FLTake.kp bLTake .nil pass0 (pa_cons (pv 0) (pa_cons (pv 1) pa_nil))) (pa_cons (pv 2) (pa_cons (pe_call GLName (hr.mono (by decide)) (by rfl) T.gLName T.FLName.kp bLName .nil pass0 (pa_cons (pv 0) pa_nil)) (pa_cons (pe_ifExp (pt_cmpR op_in_seq (pv 2) (pe_tup (pa_cons pe_str (pa_cons pe_str pa_nil))) (by rfl)) pe_int (pv 3)) pa_nil))))))))), ?_⟩
    refine ⟨(by show 5 ≤ sizeLine; decide), fun l1 h1 => ?_⟩
    have w1 := same_new (o := .lst (W5.map V.str)) h1
    have n1 := hB.ne h1
    refine ⟨_, rfl, p, 5, n, rfl, hB.same w1, by omega, by decide, by decide, fun r G b1 hB1 r0 r1 => ?_⟩
    obtain ⟨k, rfl⟩ : ∃ k : Nat, r = (k : Int) := ⟨r.toNat, by omega⟩
    have k5 : k < 5 := by omega
    have hl1 : G l1 = some (.lst (W5.map V.str)) := b1 _ _ upd_same n1
    refine ⟨l1, _, _, .str (W5.getD k Str.empty), rfl, rfl, SqL.of hl1, atI_nat (by rw [List.getElem?_map, w5_some k5]; rfl), ?_⟩
    -- note
    refine ⟨_, rfl, p, 9973, n + 1, rfl, hB1, by omega, by decide, by decide, fun t1 G2 b2 hB2 t10 t11 => ?_⟩
    refine ⟨_, rfl, p, 3, n + 1 + 1, rfl, hB2, by omega, by decide, by decide, fun t2 G3 b3 hB3 t20 t21 => ?_⟩
    refine ⟨(by show 4 ≤ sizeLine; decide), fun l2 h2 => ?_⟩
    have w2 := same_new (o := .lst [.int t1, .int 0, .int 9972, .int t2]) h2
    have n2 := hB3.ne h2
    refine ⟨_, rfl, p, 4, n + 1 + 1 + 1, rfl, hB3.same w2, by omega, by decide, by decide, fun r2 G4 b4 hB4 r20 r21 => ?_⟩
    have hl2 := b4 l2 _ upd_same n2
    obtain ⟨v, ev, mv⟩ := atI_some (xs := [V.int t1, .int 0, .int 9972, .int t2]) r20 r21
    obtain ⟨t, rfl, tt0, tt1⟩ : ∃ t : Int, v = .int t ∧ 0 ≤ t ∧ t < 9973 := by
      simp only [List.mem_cons, List.mem_nil_iff, or_false] at mv
      rcases mv with rfl | rfl | rfl | rfl
      · exact ⟨_, rfl, t10, t11⟩
      · exact ⟨_, rfl, by decide, by decide⟩
      · exact ⟨_, rfl, by decide, by decide⟩
      · exact ⟨_, rfl, t20, by omega⟩
    refine ⟨l2, _, r2, _, rfl, rfl, SqL.of hl2, ev, ?_⟩
    -- the row
    refine ⟨_, rfl, _, rfl, p, m, n + 1 + 1 + 1 + 1, rfl, hB4, by omega, hm, by omega, fun b G5 b5 hB5 b0 bm => ?_⟩
    refine ⟨_, rfl, _, rfl, p, n + 5, rfl, hB5.mono (by omega), by omega, fun l G6 gl b6 hB6 => ?_⟩
    refine ⟨_, rfl, (by show 2 ≤ sizeLine; decide), fun tp htp => ?_⟩
    have w3 := same_new (o := .tup [.str (Str.ofString "end"), .str (Str.ofString "reset")]) htp
    refine ⟨tp, _, rfl, .inr (.inl (.inl upd_same)), rfl, rfl, _, rfl, ?_⟩
    have bb : But p H (upd G6 tp (.tup [.str (Str.ofString "end"), .str (Str.ofString "reset")])) := (But.of w1).trans (b1.trans (b2.trans (b3.trans ((But.of w2).trans (b4.trans (b5.trans (b6.trans (But.of w3))))))))
    have hB7 := hB6.same w3
    have fin : ∀ t' : Int, 0 ≤ t' → t' < 9973 → (k = 2 ∨ k = 4 → t' = 0) → ∀ q', (upd G6 tp (.tup [.str (Str.ofString "end"), .str (Str.ofString "reset")])) q' = none → Q (.ref q') (upd (upd G6 tp (.tup [.str (Str.ofString "end"), .str (Str.ofString "reset")])) q' (.tup [.int b, .str (W5.getD k Str.empty), .str (nm l), .int t'])) := fun t' h0 h9 hz q' hq' =>
      q q' b k l t' _ ⟨⟨_, w5_some k5, .inl (.inl upd_same)⟩, k5, gl⟩ (bb.trans (But.of (same_new hq'))) ((hB7.same (same_new hq')).mono (by omega)) b0 bm h0 h9 hz
    have ei : inV (.str (W5.getD k Str.empty)) [.str (Str.ofString "end"), .str (Str.ofString "reset")] = (k == 2 || k == 4) := w5_in k k5
    rw [ei]
    by_cases hk : k = 2 ∨ k = 4
    · have e : (k == 2 || k == 4) = true := by
        rcases hk with rfl | rfl <;> rfl
      rw [e]
      refine iteT ?_
      exact ⟨(by show 4 ≤ sizeLine; decide), fin 0 (by decide) (by decide) (fun _ => rfl)⟩
    · have e : (k == 2 || k == 4) = false := by
        have h1 : k ≠ 2 := fun z => hk (.inl z)
        have h2 : k ≠ 4 := fun z => hk (.inr z)
        simp [h1, h2]
      rw [e]
      refine iteF ?_
      exact ⟨_, rfl, (by show 4 ≤ sizeLine; decide), fin t tt0 tt1 (fun z => absurd z hk)⟩
theorem okLNumberOf (T : Tx K mg) : FnOk P w K mg base CX0 1 (He.ga K "_law_number_of") T.fdLNumberOf ["_law_row_here"] (spLNumberOf K) := by
  have B := T.B
  refine T.FLNumberOf.ok scLNumberOf (fun vs H Q E h => ?_) (fun cdv A outer s H vs Q E hr h => ?_)
  · obtain ⟨q, b, k, l, t, rfl, _⟩ := h
    rfl
  · obtain ⟨q, b, k, l, t, rfl, R, hq⟩ := h
    refine ⟨_, PSs.nox (pss_cons (ps_asg (pe_tup (pa_cons pe_int (pa_cons pe_str pa_nil))) (pg_tup rfl (pgs_cons (pg_name (i := 1) scLNumberOf.nd rfl (Or.inl rfl)) (pgs_cons (pg_name (i := 2) scLNumberOf.nd rfl (Or.inl rfl)) pgs_nil))))
        (pss_cons (ps_for PassesOwn.never rfl (pi_str (pe_ix ix_tup (pv 0) pe_int (fun _ _ => rfl))) (pg_name (i := 3) scLNumberOf.nd rfl (Or.inl rfl))
        (pss_one (ps_set (i := 1) scLNumberOf.nd rfl (.inl rfl) (pe_op op_add (pe_op op_add (pe_op op_mul (pv 1) pe_int) (pe_m1 PySem.F.slot_str_index PySem.F.type_str_index mt_sindex (pv 2) (pv 3))) pe_int))))
        (pss_one (ps_ret (pe_op op_add (pe_op op_mul (pe_op op_add (pe_op op_mul (pv 1) pe_int) (pe_bm PySem.F.plainAttrs_list PySem.F.slot_list_index PySem.F.type_list_index mt_index (pe_lst (pa_cons pe_str (pa_cons pe_str (pa_cons pe_str (pa_cons pe_str (pa_cons pe_str pa_nil)))))) (pa_cons (pe_ix ix_tup (pv 0) pe_int (fun _ _ => rfl)) pa_nil))) pe_int) (pe_ix ix_tup (pv 0) pe_int (fun _ _ => rfl))))))), ?_⟩
    obtain ⟨z, ez, hs⟩ := R.at_
    have ezz := w5_get ez
    subst ezz
    refine ⟨(by show 2 ≤ sizeLine; decide), fun T1 hT1 => ⟨T1, _, rfl, .inl (.inl upd_same), rfl, _, _, rfl, _, _, rfl, rfl, ?_⟩⟩
    have s1 := same_new (o := .tup [.int 0, .str LT]) hT1
    have hs1 := seqT_same s1 hs
    refine ⟨_, rfl, q, _, 2, .str (nm l), rfl, rfl, hs1, atI_nat (j := 2) rfl, nm l, rfl, for_it walk_str (fun i σ G => G = upd H T1 (.tup [.int 0, .str LT]) ∧ ∃ x, σ = [some (.ref q), some (.int (num (l.take i))), some (.str LT), x]) ⟨rfl, _, rfl⟩ (fun _ _ _ _ _ => trivial) ?_ ?_⟩
    · rintro i v σ G G1 hi ⟨rfl, x, rfl⟩ ⟨rfl, c, hc, rfl⟩
      obtain ⟨d, hd, rfl⟩ := nm_at hc
      have d26 := R.gd.lt d (List.mem_of_getElem? hd)
      refine ⟨_, rfl, _, _, rfl, rfl, .inr ⟨by decide, by decide⟩, _, rfl, ⟨_, rfl⟩, _, rfl, LT, sg d, d, [], rfl, rfl, occ_at d d26, _, _, rfl, rfl, _, _, rfl, rfl, ?_⟩
      exact ⟨rfl, _, by rw [num_take hd]; rfl⟩
    · rintro σ G ⟨rfl, x, rfl⟩
      rw [nm_size, List.take_length]
      refine ⟨_, rfl, _, _, rfl, rfl, .inr ⟨by decide, by decide⟩, (by show 5 ≤ sizeLine; decide), fun l1 h1 => ?_⟩
      have s2 := same_new (o := .lst (W5.map V.str)) h1
      have hs2 := seqT_same s2 hs1
      have hl1 : SqL K (upd (upd H T1 (.tup [.int 0, .str LT])) l1 (.lst (W5.map V.str))) l1 (W5.map V.str) := SqL.of upd_same
      refine ⟨.inl ⟨rfl, _, hl1⟩, _, rfl, q, _, 1, _, rfl, rfl, hs2, atI_nat (j := 1) rfl, l1, W5.map V.str, _, k, .str (W5.getD k Str.empty), rfl, rfl, hl1, rfl, rfl, by rw [List.getElem?_map, ez]; rfl, by rw [w5_eq k R.k5 k R.k5]; simp, fun m z' hm hz' => ?_, ?_⟩
      · rw [List.getElem?_map, w5_some (show m < 5 by have := R.k5; omega)] at hz'
        have e : V.str (W5.getD m Str.empty) = z' := Option.some.inj hz'
        rw [← e, w5_eq k R.k5 m (by have := R.k5; omega)]
        simp
        omega
      · refine ⟨_, _, rfl, rfl, _, _, rfl, rfl, .inr ⟨by decide, by decide⟩, _, rfl, q, _, 3, .int t, rfl, rfl, hs2, atI_nat (j := 3) rfl, _, _, rfl, rfl, ?_⟩
        exact hq _ (s1.trans s2)
theorem halve {a b : Int} (h0 : 0 < b) (h1 : b < a) : 2 * (a % b) ≤ a := by
  have e := Int.mul_ediv_add_emod a b
  have r := Int.emod_lt_of_pos a h0
  have r0 := Int.emod_nonneg a (b := b) (by omega)
  have d : 1 ≤ a / b := by
    have := Int.le_ediv_of_mul_le h0 (show 1 * b ≤ a by omega)
    exact this
  have : b * 1 ≤ b * (a / b) := Int.mul_le_mul_of_nonneg_left d (by omega)
  omega
theorem okLCommon (T : Tx K mg) : FnOk P w K mg base CX0 1 (He.ga K "_law_common") T.fdLCommon ["_law_one", "_law_other"] spLCommon := by
  have B := T.B
  refine T.FLCommon.ok scLCommon (fun vs H Q E h => ?_) (fun cdv A outer s H vs Q E hr h => ?_)
  · obtain ⟨a, b, rfl, _⟩ := h
    rfl
  · obtain ⟨a, b, rfl, ha, ha2, hb, hb2, q⟩ := h
    refine ⟨_, PSs.nox (pss_cons (ps_for PassesOwn.never rfl (pi_range1 (by rfl) B.b_range (pa_cons pe_int pa_nil)) (pg_name (i := 2) scLCommon.nd rfl (Or.inl rfl))
        (pss_one (ps_if (pt_cmpR op_gt (pv 1) pe_int (nomark _)) (pss_one (ps_par (i := 0) (j := 1) (by rfl) scLCommon.nd rfl rfl (by decide) rfl rfl (pa_cons (pv 1) (pa_cons (pe_op op_mod (pv 0) (pv 1)) pa_nil)) (by rfl))) pss_nil)))
        (pss_one (ps_ret (pe_cmpR op_gt (pv 0) pe_int (nomark _))))), ?_⟩
    refine ⟨64, rfl, by decide, by decide, for_range (lo := 0) (n := 64) (fun i σ G => G = H ∧ ∃ (x y : Int) (k : Option V), σ = [some (.int x), some (.int y), k] ∧ 0 < x ∧ 0 ≤ y ∧ (∀ c : Int, 0 < c → c ∣ a → c ∣ b → c ∣ x ∧ c ∣ y) ∧ ((i = 0 ∧ x = a ∧ y = b) ∨ y = 0 ∨ (y < x ∧ x * y * 2 ^ i ≤ 2 ^ 41))) ⟨rfl, a, b, _, rfl, ha, Int.le_of_lt hb, (fun c _ h1 h2 => ⟨h1, h2⟩), .inl ⟨rfl, rfl, rfl⟩⟩ ?_ ?_⟩
    · rintro i σ G hi ⟨rfl, x, y, k, rfl, hx, hy, hd, hm⟩
      refine ⟨_, rfl, _, _, rfl, rfl, _, rfl, ite2 (fun e => ?_) (fun e => ?_)⟩
      · have y0 : 0 < y := of_decide_eq_true e
        refine ⟨_, rfl, _, rfl, _, rfl, _, _, rfl, rfl, y0, _, _, rfl, ?_⟩
        have r0 := Int.emod_nonneg x (b := y) (by omega)
        have r1 := Int.emod_lt_of_pos x y0
        refine ⟨rfl, y, x % y, _, rfl, y0, r0, fun c hc h1 h2 => ?_, ?_⟩
        · obtain ⟨d1, d2⟩ := hd c hc h1 h2
          refine ⟨d2, ?_⟩
          have e3 := Int.mul_ediv_add_emod x y
          have e4 : x % y = x - y * (x / y) := by omega
          rw [e4]
          exact Int.dvd_sub d1 (Int.dvd_trans d2 (Int.dvd_mul_right _ _))
        · refine .inr (.inr ⟨r1, ?_⟩)
          rcases hm with ⟨rfl, rfl, rfl⟩ | h | ⟨h1, h2⟩
          · have e1 : y * (x % y) ≤ 1000000 * 1000000 := Int.mul_le_mul hb2 (by omega) r0 (by decide)
            show y * (x % y) * 2 ^ (0 + 1) ≤ 2 ^ 41
            have e5 : (2 : Int) ^ (0 + 1) = 2 := by decide
            have e6 : (2 : Int) ^ 41 = 2199023255552 := by decide
            rw [e5, e6]
            omega
          · omega
          · have hv := halve y0 h1
            have e1 : y * (2 * (x % y)) ≤ y * x := Int.mul_le_mul_of_nonneg_left hv hy
            have e2 : y * (x % y) * 2 ^ (i + 1) = y * (2 * (x % y)) * 2 ^ i := by
              rw [Int.pow_succ, Int.mul_comm (2 ^ i) 2, ← Int.mul_assoc, Int.mul_comm 2 (x % y), ← Int.mul_assoc]
            rw [e2]
            have e3 : y * (2 * (x % y)) * 2 ^ i ≤ y * x * 2 ^ i := Int.mul_le_mul_of_nonneg_right e1 (Int.le_of_lt (Int.pow_pos (by decide)))
            rw [Int.mul_comm y x] at e3
            exact Int.le_trans e3 h2
      · have y0 : y = 0 := by
          have : ¬ 0 < y := fun z => e (decide_eq_true z)
          omega
        exact ⟨rfl, x, y, _, rfl, hx, hy, hd, .inr (.inl y0)⟩
    · rintro σ G ⟨rfl, x, y, k, rfl, hx, hy, hd, hm⟩
      have y0 : y = 0 := by
        rcases hm with ⟨h, _⟩ | h | ⟨h1, h2⟩
        · cases h
        · exact h
        · by_cases hy0 : y = 0
          · exact hy0
          · have e1 : 1 * 1 ≤ x * y := Int.mul_le_mul (by omega) (by omega) (by decide) (by omega)
            have e2 : 1 * 2 ^ 64 ≤ x * y * 2 ^ 64 := Int.mul_le_mul_of_nonneg_right e1 (by decide)
            have e3 : (1 : Int) * 2 ^ 64 = 18446744073709551616 := by decide
            have e4 : (2 : Int) ^ 41 = 2199023255552 := by decide
            rw [e4] at h2
            rw [e3] at e2
            omega
      refine ⟨_, rfl, _, _, rfl, rfl, ?_⟩
      refine q _ fun hf => ?_
      have hx1 : ¬ 1 < x := of_decide_eq_false hf
      have hx2 : x = 1 := by omega
      intro c hc h1 h2
      have := (hd c hc h1 h2).1
      rw [hx2] at this
      exact Int.eq_one_of_dvd_one (Int.le_of_lt hc) this
end
section
variable {P : Program} {w : World} {K : PySem.W.Frag} {mg : Str → Option Value} {base : Heap}
theorem made_same {H G : Hp} {x dx : Addr} {o u : HO} (hx : H x = none) (hd : H dx = none) (b : But x (upd (upd H dx u) x o) G) : Same H G := fun c y e => by
  have h1 : c ≠ x := ne_of_none e hx
  have h2 : c ≠ dx := ne_of_none e hd
  exact b c y (by rw [upd_ne h1, upd_ne h2]; exact e) h1
theorem cop_one (n : Int) : Cop 1 n := fun c hc h _ => Int.eq_one_of_dvd_one (Int.le_of_lt hc) h
theorem div7919 (c : Nat) (h : c < 7920) (h2 : 7919 % c = 0) : c = 1 ∨ c = 7919 := by
  have a : (List.range 7920).all (fun c => 7919 % c != 0 || c == 1 || c == 7919) = true := by decide +kernel
  have b := List.all_eq_true.mp a c (List.mem_range.mpr h)
  rw [h2] at b
  simpa using b
theorem cop_7919 {n : Int} (h : 0 < n % 7919) : Cop 7919 n := fun c hc h1 h2 => by
  have hle : c ≤ 7919 := Int.le_of_dvd (by decide) h1
  obtain ⟨k, rfl⟩ : ∃ k : Nat, c = (k : Int) := ⟨c.toNat, by omega⟩
  have h3 : (k : Nat) ∣ 7919 := by
    have := h1
    exact Int.ofNat_dvd.mp this
  have h4 : 7919 % k = 0 := Nat.mod_eq_zero_of_dvd h3
  rcases div7919 k (by omega) h4 with e | e
  · omega
  · subst e
    have : n % 7919 = 0 := Int.emod_eq_zero_of_dvd h2
    omega
theorem okLFactor (T : Tx K mg) : FnOk P w K mg base CX0 2 (He.ga K "_law_factor") T.fdLFactor ["_law_box_here", "_law_width_here"] spLFactor := by
  have B := T.B
  have GLTake : FnOk P w K mg base CX0 1 (He.ga K "_law_take") T.fdLTake ["_law_box_here", "_law_many"] spLTake := okLTake T
  have bLTake := T.bLTake
  have GLCommon : FnOk P w K mg base CX0 1 (He.ga K "_law_common") T.fdLCommon ["_law_one", "_law_other"] spLCommon := okLCommon T
  have bLCommon := T.bLCommon
  refine T.FLFactor.ok scLFactor (fun vs H Q E h => ?_) (fun cdv A outer s H vs Q E hr h => ?_)
  · obtain ⟨p, m, n, rfl, _⟩ := h
    rfl
  · obtain ⟨p, m, n, rfl, hB, hn, hm, hm2, q⟩ := h
    refine ⟨_, PSs.nox (pss_cons (ps_set (i := 2) scLFactor.nd rfl (.inl rfl) (pe_lst (pa_cons pe_int (pa_cons pe_int (pa_cons pe_int (pa_cons (pe_op op_sub (pv 1) pe_int) (pa_cons (pe_op op_add (pv 1) pe_int) (pa_cons (pe_op op_add pe_int (pe_call GLTake (hr.mono (by decide)) (by rfl) T.gLTake T.FLTake.kp bLTake .nil pass0 (pa_cons (pv 0) (pa_cons (pe_op op_pow pe_int pe_int) pa_nil)))) pa_nil))))))))
        (pss_cons (ps_set (i := 3) scLFactor.nd rfl (.inl rfl) (pe_ix ix_list (pv 2) (pe_call GLTake (hr.mono (by decide)) (by rfl) T.gLTake T.FLTake.kp bLTake .nil pass0 (pa_cons (pv 0) (pa_cons pe_int pa_nil))) (fun _ _ => rfl)))
        (pss_one (ps_ret (pe_ifExp (PW.pt (pw_and (pt_chain op_le op_le pe_int (pv 3) (pe_op op_pow pe_int pe_int)) (pw_and1 (pt_not (pt_val (pe_call GLCommon (hr.mono (by decide)) (by rfl) T.gLCommon T.FLCommon.kp bLCommon .nil pass0 (pa_cons (pv 1) (pa_cons (pv 3) pa_nil)))))))) (pv 3) pe_int))))), ?_⟩
    refine ⟨_, rfl, _, _, rfl, rfl, _, rfl, _, _, rfl, rfl, _, rfl, _, _, rfl, rfl, ⟨by decide, by decide, by decide⟩, p, (10 : Int) ^ Int.toNat 6, n, rfl, hB, by omega, by decide, by decide, fun r G b1 hB1 r0 r1 => ?_⟩
    refine ⟨_, _, rfl, rfl, (by show 6 ≤ sizeLine; decide), fun l hl => ?_⟩
    have nl := hB1.ne hl
    have sl := same_new (o := .lst [.int 1, .int 2, .int 7919, .int (m - 1), .int (m + 1), .int (1 + r)]) hl
    refine ⟨_, rfl, _, rfl, p, 6, n + 1, rfl, hB1.same sl, by omega, by decide, by decide, fun r2 G2 b2 hB2 r20 r21 => ?_⟩
    have hl2 := b2 l _ upd_same nl
    have e10 : (10 : Int) ^ Int.toNat 6 = 1000000 := by decide
    rw [e10] at r1
    obtain ⟨v, ev, mv⟩ := atI_some (xs := [V.int 1, .int 2, .int 7919, .int (m - 1), .int (m + 1), .int (1 + r)]) r20 r21
    obtain ⟨y, rfl, y1, y2⟩ : ∃ y : Int, v = .int y ∧ 1 ≤ y ∧ y ≤ 1000001 := by
      simp only [List.mem_cons, List.mem_nil_iff, or_false] at mv
      rcases mv with rfl | rfl | rfl | rfl | rfl | rfl
      · exact ⟨_, rfl, by decide, by decide⟩
      · exact ⟨_, rfl, by decide, by decide⟩
      · exact ⟨_, rfl, by decide, by decide⟩
      · exact ⟨_, rfl, by omega, by omega⟩
      · exact ⟨_, rfl, by omega, by omega⟩
      · exact ⟨_, rfl, by omega, by omega⟩
    have bb : But p H G2 := b1.trans ((But.of sl).trans b2)
    refine ⟨l, _, r2, _, rfl, rfl, SqL.of hl2, ev, ?_⟩
    refine ⟨_, rfl, _, _, rfl, rfl, _, rfl, ?_⟩
    rw [decide_eq_true y1]
    refine iteT ?_
    refine ⟨_, _, rfl, rfl, ⟨by decide, by decide, by decide⟩, _, _, rfl, rfl, _, rfl, ?_⟩
    rw [e10]
    by_cases y3 : y ≤ 1000000
    · rw [decide_eq_true y3]
      refine iteT ?_
      refine ⟨_, rfl, _, rfl, m, y, rfl, by omega, by omega, by omega, y3, fun b hb => ⟨_, rfl, ?_⟩⟩
      cases b with
      | false =>
        refine iteT ?_
        exact ⟨_, rfl, q y G2 bb (hB2.mono (by omega)) y1 y3 (hb rfl).symm⟩
      | true =>
        refine iteF ?_
        exact q 1 G2 bb (hB2.mono (by omega)) (by decide) (by decide) (cop_one m)
    · rw [decide_eq_false y3]
      refine iteF (iteF ?_)
      exact q 1 G2 bb (hB2.mono (by omega)) (by decide) (by decide) (cop_one m)
theorem okLWidth (T : Tx K mg) : FnOk P w K mg base CX0 2 (He.ga K "_law_width") T.fdLWidth ["_law_box_here"] spLWidth := by
  have B := T.B
  have GLTake : FnOk P w K mg base CX0 1 (He.ga K "_law_take") T.fdLTake ["_law_box_here", "_law_many"] spLTake := okLTake T
  have bLTake := T.bLTake
  refine T.FLWidth.ok scLWidth (fun vs H Q E h => ?_) (fun cdv A outer s H vs Q E hr h => ?_)
  · obtain ⟨p, n, rfl, _⟩ := h
    rfl
  · obtain ⟨p, n, rfl, hB, hn, q⟩ := h
    refine ⟨_, PSs.nox (pss_one (ps_ret (pe_ix ix_list (pe_lst (pa_cons pe_int (pa_cons (pe_op op_pow pe_int pe_int) (pa_cons (pe_op op_add pe_int (pe_call GLTake (hr.mono (by decide)) (by rfl) T.gLTake T.FLTake.kp bLTake .nil pass0 (pa_cons (pv 0) (pa_cons pe_int pa_nil)))) (pa_cons (pe_op op_add pe_int (pe_call GLTake (hr.mono (by decide)) (by rfl) T.gLTake T.FLTake.kp bLTake .nil pass0 (pa_cons (pv 0) (pa_cons (pe_op op_sub (pe_op op_pow pe_int pe_int) pe_int) pa_nil)))) (pa_cons pe_int pa_nil)))))) (pe_call GLTake (hr.mono (by decide)) (by rfl) T.gLTake T.FLTake.kp bLTake .nil pass0 (pa_cons (pv 0) (pa_cons pe_int pa_nil))) (fun _ _ => rfl)))), ?_⟩
    refine ⟨_, _, rfl, rfl, ⟨by decide, by decide, by decide⟩, ?_⟩
    refine ⟨_, rfl, p, 30, n, rfl, hB, by omega, by decide, by decide, fun r1 G1 b1 hB1 r10 r11 => ⟨_, _, rfl, rfl, ?_⟩⟩
    have e10 : (10 : Int) ^ Int.toNat 6 = 1000000 := by decide
    refine ⟨_, rfl, _, _, rfl, rfl, ⟨by decide, by decide, by decide⟩, _, _, rfl, rfl, p, (10 : Int) ^ Int.toNat 6 - 3, n + 1, rfl, hB1, by omega, by decide, by decide, fun r2 G2 b2 hB2 r20 r21 => ⟨_, _, rfl, rfl, ?_⟩⟩
    rw [e10] at r21
    refine ⟨(by show 5 ≤ sizeLine; decide), fun l hl => ?_⟩
    have nl := hB2.ne hl
    have sl := same_new (o := .lst [.int 3, .int ((10 : Int) ^ Int.toNat 6), .int (3 + r1), .int (3 + r2), .int 7919]) hl
    refine ⟨_, rfl, p, 5, n + 1 + 1, rfl, hB2.same sl, by omega, by decide, by decide, fun r3 G3 b3 hB3 r30 r31 => ?_⟩
    have hl2 := b3 l _ upd_same nl
    obtain ⟨v, ev, mv⟩ := atI_some (xs := [V.int 3, .int ((10 : Int) ^ Int.toNat 6), .int (3 + r1), .int (3 + r2), .int 7919]) r30 r31
    obtain ⟨y, rfl, y1, y2⟩ : ∃ y : Int, v = .int y ∧ 3 ≤ y ∧ y ≤ 1000000 := by
      simp only [List.mem_cons, List.mem_nil_iff, or_false] at mv
      rcases mv with rfl | rfl | rfl | rfl | rfl
      · exact ⟨_, rfl, by decide, by decide⟩
      · exact ⟨_, rfl, by decide, by decide⟩
      · exact ⟨_, rfl, by omega, by omega⟩
      · exact ⟨_, rfl, by omega, by omega⟩
      · exact ⟨_, rfl, by decide, by decide⟩
    exact ⟨l, _, r3, _, rfl, rfl, SqL.of hl2, ev, q y G3 (b1.trans (b2.trans ((But.of sl).trans b3))) (hB3.mono (by omega)) y1 y2⟩
theorem okLMixing (T : Tx K mg) : FnOk P w K mg base CX0 5 (He.ga K "_law_mixing") T.fdLMixing ["_law_box_here"] (spLMixing K) := by
  have B := T.B
  have GLFactor : FnOk P w K mg base CX0 2 (He.ga K "_law_factor") T.fdLFactor ["_law_box_here", "_law_width_here"] spLFactor := okLFactor T
  have bLFactor := T.bLFactor
  have GLTake : FnOk P w K mg base CX0 1 (He.ga K "_law_take") T.fdLTake ["_law_box_here", "_law_many"] spLTake := okLTake T
  have bLTake := T.bLTake
  have GLWidth : FnOk P w K mg base CX0 2 (He.ga K "_law_width") T.fdLWidth ["_law_box_here"] spLWidth := okLWidth T
  have bLWidth := T.bLWidth
  have GMixingInit : FnOk P w K mg base CX0 3 (He.ma K (He.ga K "Mixing") "__init__") T.fdMixingInit ["self", "width", "factor"] (spMixingInit K) := okMixingInit T
  obtain ⟨d0, rMixingInit_2, bMixingInit_2⟩ := mk0 T
  obtain ⟨d1, rMixingInit_1, bMixingInit_1⟩ := mk1 T
  obtain ⟨_, _, kMixingInit_1_factor⟩ := mk2 T
  refine T.FLMixing.ok scLMixing (fun vs H Q E h => ?_) (fun cdv A outer s H vs Q E hr h => ?_)
  · obtain ⟨p, n, rfl, _⟩ := h
    rfl
  · obtain ⟨p, n, rfl, hB, hn, q⟩ := h
    refine ⟨_, PSs.nox (pss_cons (ps_par (i := 1) (j := 2) (by rfl) scLMixing.nd rfl rfl (by decide) rfl rfl (pa_cons (pe_call GLTake (hr.mono (by decide)) (by rfl) T.gLTake T.FLTake.kp bLTake .nil pass0 (pa_cons (pv 0) (pa_cons pe_int pa_nil))) (pa_cons (pe_call GLWidth (hr.mono (by decide)) (by rfl) T.gLWidth T.FLWidth.kp bLWidth .nil pass0 (pa_cons (pv 0) pa_nil)) pa_nil)) (by rfl))
        (pss_cons (ps_if (pt_cmpR op_eq (pv 1) pe_int (nomark _)) (pss_one (ps_ret (pe_tup (pa_cons (pe_make0 T.mkMixing GMixingInit (hr.mono (by decide)) (by rfl) T.gMixing bMixingInit_2 rMixingInit_2 pass0) (pa_cons pe_non (pa_cons pe_int pa_nil)))))) pss_nil)
        (pss_cons (ps_if (PW.pt (pw_and (pt_cmpR op_eq (pv 1) pe_int (nomark _)) (pw_and1 (pt_cmpR op_gt (pe_op op_mod (pv 2) pe_int) pe_int (nomark _))))) (pss_one (ps_ret (pe_tup (pa_cons (pe_make T.mkMixing GMixingInit (hr.mono (by decide)) (by rfl) T.gMixing bMixingInit_1 rMixingInit_1 pass0 (pa_cons (pv 2) pa_nil)) (pa_cons (pv 2) (pa_cons pe_int pa_nil)))))) pss_nil)
        (pss_cons (ps_set (i := 3) scLMixing.nd rfl (.inl rfl) (pe_call GLFactor (hr.mono (by decide)) (by rfl) T.gLFactor T.FLFactor.kp bLFactor .nil pass0 (pa_cons (pv 0) (pa_cons (pv 2) pa_nil))))
        (pss_one (ps_ret (pe_tup (pa_cons (pe_makeK T.mkMixing GMixingInit (hr.mono (by decide)) (by rfl) T.gMixing kMixingInit_1_factor pass0 (pa_cons (pv 2) pa_nil) (pk_cons (pv 3) pk_nil)) (pa_cons (pv 2) (pa_cons (pv 3) pa_nil)))))))))), ?_⟩
    refine ⟨_, rfl, p, 4, n, rfl, hB, by omega, by decide, by decide, fun r1 G1 b1 hB1 r10 r11 => ?_⟩
    refine ⟨_, rfl, p, n + 1, rfl, hB1, by omega, fun m G2 b2 hB2 m1 m2 => ⟨_, _, rfl, ?_⟩⟩
    have fin : ∀ (w : Option Int) (f : Int) (G3 : Hp) (nn : Int), But p H G3 → Box G3 p nn → nn ≤ n + 6 → OkMix w f → ∀ (x dx : Addr), G3 x = none → G3 dx = none → dx ≠ x → ∀ G4, MixAt K G4 x w f → But x (upd (upd G3 dx (.own x)) x (.ins (He.ga K "Mixing") dx [])) G4 → ∀ q', G4 q' = none → Q (.ref q') (upd G4 q' (.tup [.ref x, wV w, .int f])) := by
      intro w f G3 nn bG hB3 hnn ok x dx hx hdx ne G4 M bx q' hq'
      have s4 := made_same hx hdx bx
      have s5 := same_new (o := .tup [.ref x, wV w, .int f]) hq'
      exact q q' x w f _ upd_same (M.same s5) (bG.trans (But.of (s4.trans s5))) (((hB3.same s4).same s5).mono hnn)
    have bb := b1.trans b2
    refine ⟨_, rfl, rfl, _, rfl, ite2 (fun e => ?_) (fun e => ?_)⟩
    · have ok : OkMix none 7919 := ⟨by decide, by decide, fun n h => nomatch h⟩
      intro x dx hx hdx ne
      refine ⟨x, dx, none, 7919, rfl, upd_same, ok, fun G4 M bx => ⟨rfl, (by show 3 ≤ sizeLine; decide), fun q' hq' => ?_⟩⟩
      exact fin none 7919 G2 _ bb hB2 (by omega) ok x dx hx hdx ne G4 M bx q' hq'
    · have restw : ∀ C : Prop, (∀ f G3, But p G2 G3 → Box G3 p (n + 6) → OkMix (some m) f → True → True) → True := fun _ _ => trivial
      refine ⟨_, rfl, rfl, _, rfl, ite2 (fun e1 => ?_) (fun e1 => iteF ?_)⟩
      · refine ⟨_, rfl, _, _, rfl, rfl, (show (0 : Int) < 7919 by decide), _, _, rfl, rfl, _, rfl, ite2 (fun e2 => ?_) (fun e2 => ?_)⟩
        · have hm7 : 0 < m % 7919 := of_decide_eq_true e2
          have ok : OkMix (some m) 7919 := ⟨by decide, by decide, fun n h => by cases h; exact ⟨m1, m2, cop_7919 hm7⟩⟩
          refine ⟨_, rfl, fun x dx hx hdx ne => ?_⟩
          refine ⟨x, dx, some m, 7919, rfl, upd_same, ok, fun G4 M bx => ⟨rfl, _, rfl, (by show 3 ≤ sizeLine; decide), fun q' hq' => ?_⟩⟩
          exact fin (some m) 7919 G2 _ bb hB2 (by omega) ok x dx hx hdx ne G4 M bx q' hq'
        · refine ⟨_, rfl, _, rfl, p, m, n + 4, rfl, hB2.mono (by omega), by omega, m1, m2, fun f G3 b3 hB3 f1 f2 hc => ?_⟩
          have ok : OkMix (some m) f := ⟨f1, f2, fun n h => by cases h; exact ⟨m1, m2, hc⟩⟩
          refine ⟨_, rfl, _, rfl, rfl, rfl, fun x dx hx hdx ne => ?_⟩
          refine ⟨x, dx, some m, f, rfl, upd_same, ok, fun G4 M bx => ⟨rfl, _, rfl, _, rfl, (by show 3 ≤ sizeLine; decide), fun q' hq' => ?_⟩⟩
          exact fin (some m) f G3 _ (bb.trans b3) hB3 (by omega) ok x dx hx hdx ne G4 M bx q' hq'
      · refine ⟨_, rfl, _, rfl, p, m, n + 4, rfl, hB2.mono (by omega), by omega, m1, m2, fun f G3 b3 hB3 f1 f2 hc => ?_⟩
        have ok : OkMix (some m) f := ⟨f1, f2, fun n h => by cases h; exact ⟨m1, m2, hc⟩⟩
        refine ⟨_, rfl, _, rfl, rfl, rfl, fun x dx hx hdx ne => ?_⟩
        refine ⟨x, dx, some m, f, rfl, upd_same, ok, fun G4 M bx => ⟨rfl, _, rfl, _, rfl, (by show 3 ≤ sizeLine; decide), fun q' hq' => ?_⟩⟩
        exact fin (some m) f G3 _ (bb.trans b3) hB3 (by omega) ok x dx hx hdx ne G4 M bx q' hq'

end
section
variable {P : Program} {w : World} {K : PySem.W.Frag} {mg : Str → Option Value} {base : Heap}
theorem okInverse (T : Tx K mg) : FnOk P w K mg base CX0 1 (He.ga K "inverse") T.fdInverse ["number", "span"] spInverse := by
  have B := T.B
  refine T.FInverse.ok scInverse (fun vs H Q E h => ?_) (fun cdv A outer s H vs Q E hr h => ?_)
  · obtain ⟨a, m, rfl, _⟩ := h
    rfl
  · obtain ⟨a, m, rfl, hm, hm2, hc, q⟩ := h
    refine ⟨_, PSs.nox (pss_cons (ps_par (i := 2) (j := 3) (by rfl) scInverse.nd rfl rfl (by decide) rfl rfl (pa_cons (pv 1) (pa_cons (pe_op op_mod (pv 0) (pv 1)) pa_nil)) (by rfl))
        (pss_cons (ps_asg (pe_tup (pa_cons pe_int (pa_cons pe_int pa_nil))) (pg_tup rfl (pgs_cons (pg_name (i := 4) scInverse.nd rfl (Or.inl rfl)) (pgs_cons (pg_name (i := 5) scInverse.nd rfl (Or.inl rfl)) pgs_nil))))
        (pss_cons (ps_while PassesOwn.never (pt_cmpR op_gt (pv 3) pe_int (nomark _))
        (pss_cons (ps_set (i := 6) scInverse.nd rfl (.inl rfl) (pe_op op_fdiv (pv 2) (pv 3)))
        (pss_cons (ps_par (i := 2) (j := 3) (by rfl) scInverse.nd rfl rfl (by decide) rfl rfl (pa_cons (pv 3) (pa_cons (pe_op op_sub (pv 2) (pe_op op_mul (pv 6) (pv 3))) pa_nil)) (by rfl))
        (pss_one (ps_par (i := 4) (j := 5) (by rfl) scInverse.nd rfl rfl (by decide) rfl rfl (pa_cons (pv 5) (pa_cons (pe_op op_sub (pv 4) (pe_op op_mul (pv 6) (pv 5))) pa_nil)) (by rfl))))))
        (pss_one (ps_ret (pe_op op_mod (pv 5) (pv 1))))))), ?_⟩
    refine ⟨_, rfl, _, rfl, _, rfl, _, _, rfl, rfl, (show 0 < m by omega), _, _, rfl, (by show 2 ≤ sizeLine; decide), fun T hT => ⟨T, _, rfl, .inl (.inl upd_same), rfl, _, _, rfl, _, _, rfl, rfl, ?_⟩⟩
    have l1 := Int.emod_nonneg a (b := m) (by omega)
    have l2 := Int.emod_lt_of_pos a (b := m) (by omega)
    have hc0 := cop_mod hc
    refine while_by (fun σ G => Same H G ∧ ∃ (hi lo be fo : Int) (t : Option V), σ = [some (.int a), some (.int m), some (.int hi), some (.int lo), some (.int be), some (.int fo), t] ∧ 1 ≤ lo ∧ lo < hi ∧ hi ≤ m ∧ Cop hi lo ∧ m ∣ (fo * a - lo) ∧ m ∣ (be * a - hi))
      (fun σ _ => match σ with | [_, _, _, some (.int lo), _, _, _] => lo.toNat | _ => 0) ⟨same_new hT, m, a % m, 0, 1, none, rfl, cop_pos hc0 hm l1, l2, Int.le_refl _, hc0, ?_, ?_⟩ ?_ ?_
    · have e := Int.mul_ediv_add_emod a m
      have e2 : 1 * a - a % m = m * (a / m) := by omega
      rw [e2]
      exact Int.dvd_mul_right _ _
    · have e2 : 0 * a - m = m * (-1) := by omega
      rw [e2]
      exact Int.dvd_mul_right _ _
    · rintro σ G ⟨sG, hi, lo, be, fo, t, rfl, h1, h2, h3, h4, h5, h6⟩
      refine ⟨_, rfl, _, _, rfl, rfl, _, rfl, ite2 (fun e => ?_) (fun e => ?_)⟩
      · have elo : 1 < lo := of_decide_eq_true e
        have t1 : 0 ≤ hi / lo := Int.ediv_nonneg (by omega) (by omega)
        have t2 : hi / lo ≤ hi := Int.ediv_le_self _ (by omega)
        have r1 := Int.emod_nonneg hi (b := lo) (by omega)
        have r2 := Int.emod_lt_of_pos hi (b := lo) (by omega)
        have r3 := Int.mul_ediv_add_emod hi lo
        have r4 : hi - hi / lo * lo = hi % lo := by rw [Int.mul_comm]; omega
        have hcn := cop_mod h4
        have hb1 : -18446744073709551616 < hi / lo := by omega
        have hb2 : hi / lo < 18446744073709551616 := by omega
        have hb : -(2 ^ 64 : Int) < hi / lo ∧ hi / lo < 2 ^ 64 := ⟨hb1, hb2⟩
        refine ⟨_, rfl, _, rfl, _, _, rfl, rfl, ⟨by omega, by omega⟩, ?_⟩
        refine ⟨_, rfl, _, rfl, _, rfl, _, rfl, _, _, rfl, rfl, .inl hb, _, _, rfl, rfl, _, _, rfl, ?_⟩
        refine ⟨_, rfl, _, rfl, _, rfl, _, rfl, _, _, rfl, rfl, .inl hb, _, _, rfl, rfl, _, _, rfl, ?_⟩
        refine ⟨⟨sG, lo, hi - hi / lo * lo, fo, be - hi / lo * fo, _, rfl, ?_, ?_, by omega, ?_, ?_, h5⟩, ?_⟩
        · rw [r4]
          exact cop_pos hcn elo r1
        · omega
        · rw [r4]
          exact hcn
        · have e9 : (be - hi / lo * fo) * a - (hi - hi / lo * lo) = (be * a - hi) - (hi / lo) * (fo * a - lo) := by
            rw [Int.sub_mul, Int.mul_sub, Int.mul_assoc]
            omega
          rw [e9]
          exact Int.dvd_sub h6 (Int.dvd_trans h5 (Int.dvd_mul_left _ _))
        · show (hi - hi / lo * lo).toNat < lo.toNat
          omega
      · have elo : lo = 1 := by
          have : ¬ 1 < lo := fun z => e (decide_eq_true z)
          omega
        subst elo
        refine ⟨_, rfl, _, rfl, _, _, rfl, rfl, (show 0 < m by omega), ?_⟩
        refine q _ _ sG (Int.emod_nonneg _ (by omega)) (Int.emod_lt_of_pos _ (by omega)) ?_
        have e := Int.mul_ediv_add_emod fo m
        have e2 : fo % m * a - 1 = (fo * a - 1) - m * (fo / m * a) := by
          have e3 : fo % m = fo - m * (fo / m) := by omega
          rw [e3, Int.sub_mul, Int.mul_assoc]
          omega
        rw [e2]
        exact Int.dvd_sub h5 (Int.dvd_mul_right _ _)
    · intro σ G Q1 Q2 hq h
      obtain ⟨v, e1, i, j, e2, e3, k, e4, z⟩ := h
      exact ⟨v, e1, i, j, e2, e3, k, e4, hq _ _ z⟩

def oV : Option Int → V
  | none => .non
  | some n => .int n
/-- what unmixed tells -/
def UM (w : Option Int) (f v r : Int) (o : Option Int) : Prop := match w with
  | none => (0 ≤ v - r - 1 ∧ (v - r - 1) % 26500305465 = 0 ∧ o = some ((v - r - 1) / 26500305465)) ∨ (¬ (0 ≤ v - r - 1 ∧ (v - r - 1) % 26500305465 = 0) ∧ o = none)
  | some n => (¬ (0 ≤ v ∧ v < n) ∧ o = none) ∨ (0 ≤ v ∧ v < n ∧ ∃ x i : Int, o = some x ∧ 0 ≤ x ∧ x < n ∧ (x * f + (r + 1)) % n = v ∧ n ∣ (i * f - 1))
theorem um_one {w : Option Int} {f v r : Int} {o o2 : Option Int} (h : UM w f v r o) (h2 : UM w f v r o2) : o = o2 := by
  cases w with
  | none =>
    rcases h with ⟨a, b, c⟩ | ⟨a, b⟩ <;> rcases h2 with ⟨a2, b2, c2⟩ | ⟨a2, b2⟩
    · rw [c, c2]
    · exact absurd ⟨a, b⟩ a2
    · exact absurd ⟨a2, b2⟩ a
    · rw [b, b2]
  | some n =>
    rcases h with ⟨a, b⟩ | ⟨a, b, x, i, e, x0, x1, ex, hi⟩ <;> rcases h2 with ⟨a2, b2⟩ | ⟨a2, b2, y, i2, e2, y0, y1, ey, hi2⟩
    · rw [b, b2]
    · exact absurd ⟨a2, b2⟩ a
    · exact absurd ⟨a, b⟩ a2
    · rw [e, e2]
      congr 1
      have h3 : (x * f + (r + 1)) % n = (y * f + (r + 1)) % n := by rw [ex, ey]
      have h4 := Int.emod_eq_emod_iff_emod_sub_eq_zero.mp h3
      have h5 : n ∣ (x * f + (r + 1)) - (y * f + (r + 1)) := Int.dvd_of_emod_eq_zero h4
      have h6 : (x * f + (r + 1)) - (y * f + (r + 1)) = (x - y) * f := by rw [Int.sub_mul]; omega
      rw [h6] at h5
      have h7 : x - y = (x - y) * f * i - (x - y) * (i * f - 1) := by
        rw [Int.mul_sub, Int.mul_one, Int.mul_comm i f, Int.mul_assoc]
        omega
      have h8 : n ∣ x - y := by
        rw [h7]
        exact Int.dvd_sub (Int.dvd_trans h5 (Int.dvd_mul_right _ _)) (Int.dvd_trans hi (Int.dvd_mul_left _ _))
      obtain ⟨c, hc⟩ := h8
      have c0 : c = 0 := by
        rcases Int.lt_trichotomy c 0 with h | h | h
        · have : n * c ≤ n * (-1) := Int.mul_le_mul_of_nonneg_left (by omega) (by omega)
          omega
        · exact h
        · have : n * 1 ≤ n * c := Int.mul_le_mul_of_nonneg_left (by omega) (by omega)
          omega
      rw [c0, Int.mul_zero] at hc
      omega
def spMixingUnmixed (K : PySem.W.Frag) : Sp := fun vs H Q _ => ∃ (p q : Addr) (w : Option Int) (f v b : Int) (k : Nat) (l : List Nat) (t : Int), vs = [.ref p, .int v, .ref q] ∧ MixAt K H p w f ∧ RowAt K H q b k l t ∧ ∀ o G, UM w f v (rnum k l t) o → Same H G → Q (oV o) G
theorem okMixingUnmixed (T : Tx K mg) : FnOk P w K mg base CX0 3 (He.ma K (He.ga K "Mixing") "unmixed") T.fdMixingUnmixed ["self", "value", "row"] (spMixingUnmixed K) := by
  have B := T.B
  have GRowNumber : FnOk P w K mg base CX0 2 (He.ga K "row_number") T.fdRowNumber ["row"] (spRowNumber K) := okRowNumber T
  have bRowNumber := T.bRowNumber
  have GInverse : FnOk P w K mg base CX0 1 (He.ga K "inverse") T.fdInverse ["number", "span"] spInverse := okInverse T
  have bInverse := T.bInverse
  refine T.FMixingUnmixed.ok scMixingUnmixed (fun vs H Q E h => ?_) (fun cdv A outer s H vs Q E hr h => ?_)
  · obtain ⟨p, q, w, f, v, b, k, l, t, rfl, _⟩ := h
    rfl
  · obtain ⟨p, q, w, f, v, b, k, l, t, rfl, M, R, hq⟩ := h
    refine ⟨_, PSs.nox (pss_cons (ps_set (i := 3) scMixingUnmixed.nd rfl (.inl rfl) (pe_op op_sub (pe_op op_sub (pv 1) (pe_call GRowNumber (hr.mono (by decide)) (by rfl) T.gRowNumber T.FRowNumber.kp bRowNumber .nil pass0 (pa_cons (pv 2) pa_nil))) pe_int))
        (pss_cons (ps_if (pt_cmpR op_isN (pe_fld (pv 0) rfl) pe_non (nomark _)) (pss_one (ps_ret (pe_ifExp (PW.pt (pw_and (pt_cmpR op_ge (pv 3) pe_int (nomark _)) (pw_and1 (pt_cmpR op_eq (pe_op op_mod (pv 3) (pe_glob (v := .int 26500305465) (by rfl) T.c_SPAN.choose_spec ⟨_, rfl⟩)) pe_int (nomark _))))) (pe_op op_fdivW (pv 3) (pe_glob (v := .int 26500305465) (by rfl) T.c_SPAN.choose_spec ⟨_, rfl⟩)) pe_non))) pss_nil)
        (pss_cons (ps_if (pt_not (pt_chain op_le op_lt pe_int (pv 1) (pe_fld (pv 0) rfl))) (pss_one (ps_ret pe_non)) pss_nil)
        (pss_one (ps_ret (pe_op op_mod (pe_op op_mul (pv 3) (pe_call GInverse (hr.mono (by decide)) (by rfl) T.gInverse T.FInverse.kp bInverse .nil pass0 (pa_cons (pe_fld (pv 0) rfl) (pa_cons (pe_fld (pv 0) rfl) pa_nil)))) (pe_fld (pv 0) rfl))))))), ?_⟩
    obtain ⟨dx, hp⟩ := M.at_
    refine ⟨_, rfl, _, rfl, q, b, k, l, t, rfl, R, _, _, rfl, rfl, _, _, rfl, rfl, ?_⟩
    refine ⟨_, rfl, p, _, dx, _, _, rfl, hp, T.clMixing, T.nMixing_width, mxf_width _ _, rfl, _, rfl, ?_⟩
    cases w with
    | none =>
      refine iteT ?_
      refine ⟨_, rfl, _, _, rfl, rfl, _, rfl, ite2 (fun e => ?_) (fun e => ?_)⟩
      · have e1 : 0 ≤ (v - rnum k l t - 1) := of_decide_eq_true e
        refine ⟨_, rfl, _, _, rfl, rfl, (show (0 : Int) < 26500305465 by decide), rfl, _, rfl, ite2 (fun e2 => ?_) (fun e2 => ?_)⟩
        · have e3 : (v - rnum k l t - 1) % 26500305465 = 0 := V.int.inj (of_decide_eq_true e2)
          exact ⟨_, rfl, _, _, rfl, rfl, wide_div (b := 40) (by decide) (by decide) (by decide) (by decide), hq (some ((v - rnum k l t - 1) / 26500305465)) H (.inl ⟨e1, e3, rfl⟩) (Same.refl _)⟩
        · have e3 : ¬ (v - rnum k l t - 1) % 26500305465 = 0 := fun z => e2 (decide_eq_true (congrArg V.int z))
          exact hq none H (.inr ⟨fun z => e3 z.2, rfl⟩) (Same.refl _)
      · have e1 : ¬ 0 ≤ (v - rnum k l t - 1) := fun z => e (decide_eq_true z)
        exact iteF (hq none H (.inr ⟨fun z => e1 z.1, rfl⟩) (Same.refl _))
    | some n =>
      obtain ⟨h1, h2, h3⟩ := M.ok.w_ n rfl
      have g1 := M.ok.f1
      have g2 := M.ok.f2
      refine iteF ?_
      refine ⟨_, rfl, _, _, rfl, rfl, _, rfl, ite2 (fun e => ?_) (fun e => ?_)⟩
      · have e1 : 0 ≤ v := of_decide_eq_true e
        refine ⟨_, rfl, p, _, dx, _, _, rfl, hp, T.clMixing, T.nMixing_width, mxf_width _ _, _, _, rfl, rfl, _, rfl, ?_⟩
        by_cases e2 : v < n
        · rw [decide_eq_true e2]
          refine iteF ?_
          refine ⟨_, rfl, _, rfl, p, _, dx, _, _, rfl, hp, T.clMixing, T.nMixing_factor, mxf_factor _ _, _, rfl, p, _, dx, _, _, rfl, hp, T.clMixing, T.nMixing_width, mxf_width _ _, f, n, rfl, by omega, by omega, h3, fun i G sG i0 i1 hi => ?_⟩
          have x1 : -18446744073709551616 < i := by omega
          have x2 : i < 18446744073709551616 := by omega
          have hp2 := sG _ _ hp
          refine ⟨_, _, rfl, rfl, .inr ⟨x1, x2⟩, _, rfl, p, _, dx, _, _, rfl, hp2, T.clMixing, T.nMixing_width, mxf_width _ _, _, _, rfl, rfl, (show 0 < n by omega), ?_⟩
          refine hq (some ((v - rnum k l t - 1) * i % n)) G (.inr ⟨e1, e2, _, i, rfl, Int.emod_nonneg _ (by omega), Int.emod_lt_of_pos _ (by omega), ?_, hi⟩) sG
          have a1 : n ∣ (v - rnum k l t - 1) * i % n * f + (rnum k l t + 1) - v := by
            have b1 := Int.mul_ediv_add_emod ((v - rnum k l t - 1) * i) n
            have b2 : (v - rnum k l t - 1) * i % n = (v - rnum k l t - 1) * i - n * ((v - rnum k l t - 1) * i / n) := by omega
            have b3 : (v - rnum k l t - 1) * i % n * f + (rnum k l t + 1) - v = (v - rnum k l t - 1) * (i * f - 1) - n * ((v - rnum k l t - 1) * i / n * f) := by
              rw [b2, Int.sub_mul, Int.mul_sub, Int.mul_one, Int.mul_assoc, Int.mul_assoc]
              omega
            rw [b3]
            exact Int.dvd_sub (Int.dvd_trans hi (Int.dvd_mul_left _ _)) (Int.dvd_mul_right _ _)
          have a2 := Int.emod_eq_emod_iff_emod_sub_eq_zero.mpr (Int.emod_eq_zero_of_dvd a1)
          rw [a2]
          exact Int.emod_eq_of_lt e1 e2
        · rw [decide_eq_false e2]
          refine iteT ?_
          exact hq none H (.inl ⟨fun z => e2 z.2, rfl⟩) (Same.refl _)
      · have e1 : ¬ 0 ≤ v := fun z => e (decide_eq_true z)
        refine ⟨_, rfl, iteT ?_⟩
        exact hq none H (.inl ⟨fun z => e1 z.1, rfl⟩) (Same.refl _)
end
section
variable {P : Program} {w : World} {K : PySem.W.Frag} {mg : Str → Option Value} {base : Heap}
def spLIsRight (K : PySem.W.Frag) : Sp := fun vs H Q _ => ∃ (p q : Addr) (w : Option Int) (f v b : Int) (k : Nat) (l : List Nat) (t : Int) (o : Option Int), vs = [.ref p, wV w, .int f, .int v, .ref q, oV o] ∧ MixAt K H p w f ∧ RowAt K H q b k l t ∧ UM w f v (rnum k l t) o ∧ 0 ≤ v ∧ ∀ G, Same H G → Q (.bl true) G
theorem okLIsRight (T : Tx K mg) : FnOk P w K mg base CX0 4 (He.ga K "_law_is_right") T.fdLIsRight ["_law_mixing_here", "_law_width_here", "_law_by", "_law_value", "_law_row_here", "_law_found"] (spLIsRight K) := by
  have B := T.B
  have GLNumberOf : FnOk P w K mg base CX0 1 (He.ga K "_law_number_of") T.fdLNumberOf ["_law_row_here"] (spLNumberOf K) := okLNumberOf T
  have bLNumberOf := T.bLNumberOf
  have GMixingMixed : FnOk P w K mg base CX0 3 (He.ma K (He.ga K "Mixing") "mixed") T.fdMixingMixed ["self", "value", "row"] (spMixingMixed K) := okMixingMixed T
  have bMixingMixed := T.bMixingMixed
  refine T.FLIsRight.ok scLIsRight (fun vs H Q E h => ?_) (fun cdv A outer s H vs Q E hr h => ?_)
  · obtain ⟨p, q, w, f, v, b, k, l, t, o, rfl, _⟩ := h
    rfl
  · obtain ⟨p, q, w, f, v, b, k, l, t, o, rfl, M, R, U, v0, hq⟩ := h
    refine ⟨_, PSs.nox (pss_cons (ps_set (i := 6) scLIsRight.nd rfl (.inl rfl) (pe_op op_add (pe_call GLNumberOf (hr.mono (by decide)) (by rfl) T.gLNumberOf T.FLNumberOf.kp bLNumberOf .nil pass0 (pa_cons (pv 4) pa_nil)) pe_int))
        (pss_cons (ps_if (pt_cmpR op_isN (pv 1) pe_non (nomark _)) (pss_cons (ps_asg (pe_callB call_divmodW (by rfl) B.b_divmod (by decide +kernel) (pa_cons (pe_op op_sub (pv 3) (pv 6)) (pa_cons pe_int pa_nil))) (pg_tup rfl (pgs_cons (pg_name (i := 7) scLIsRight.nd rfl (Or.inl rfl)) (pgs_cons (pg_name (i := 8) scLIsRight.nd rfl (Or.inl rfl)) pgs_nil))))
        (pss_one (ps_ret (pe_ifExp (PW.pt (pw_and (pt_cmpR op_ge (pv 7) pe_int (nomark _)) (pw_and1 (pt_cmpR op_eq (pv 8) pe_int (nomark _))))) (pe_cmpR op_eq (pv 5) (pv 7) (nomark _)) (pe_cmpR op_isN (pv 5) pe_non (nomark _)))))) pss_nil)
        (pss_cons (ps_if (pt_cmpR op_ge (pv 3) (pv 1) (nomark _)) (pss_one (ps_ret (pe_cmpR op_isN (pv 5) pe_non (nomark _)))) pss_nil)
        (pss_cons (ps_if (PW.pt (pw_or (pt_not (pt_val (pe_callB call_isi (by rfl) B.b_isinstance boot_isinstance (pa_cons (pv 5) (pa_cons (pe_bltn (v := .ty "int") (by rfl) B.b_int PyProof.Rows.boot_int rfl) pa_nil))))) (pw_or (pt_val (pe_callB call_isi (by rfl) B.b_isinstance boot_isinstance (pa_cons (pv 5) (pa_cons (pe_bltn (v := .ty "bool") (by rfl) B.b_bool PyProof.Rows.boot_bool rfl) pa_nil)))) (pw_or1 (pt_not (pt_chain op_le op_lt pe_int (pv 5) (pv 1))))))) (pss_one (ps_ret pe_bl)) pss_nil)
        (pss_one (ps_ret (pe_and (pe_cmpR op_eq (pe_op op_mod (pe_op op_add (pe_op op_mul (pv 5) (pv 2)) (pv 6)) (pv 1)) (pv 3) (nomark _)) (pe_one (pe_cmpR op_eq (pe_meth (pv 0) T.clMixing T.mMixingMixed GMixingMixed (hr.mono (by decide)) bMixingMixed .nil pass0 (pa_cons (pv 5) (pa_cons (pv 4) pa_nil))) (pv 3) (nomark _)))))))))), ?_⟩
    refine ⟨_, rfl, q, b, k, l, t, rfl, R, fun G1 s1 => ⟨_, _, rfl, rfl, ?_⟩⟩
    have M1 := M.same s1
    have R1 := R.same s1
    refine ⟨_, rfl, rfl, _, rfl, ?_⟩
    cases w with
    | none =>
      refine iteT ?_
      refine ⟨_, rfl, _, rfl, _, _, rfl, rfl, _, _, rfl, ⟨by decide, PyProof.noPylong_of_log2 (by decide)⟩, fun T1 hT1 => ⟨T1, _, rfl, .inl (.inl upd_same), rfl, _, _, rfl, _, _, rfl, rfl, ?_⟩⟩
      have s2 := s1.trans (same_new (o := .tup [.int ((v - (rnum k l t + 1)) / 26500305465), .int ((v - (rnum k l t + 1)) % 26500305465)]) hT1)
      have eL : v - (rnum k l t + 1) = v - rnum k l t - 1 := by omega
      rcases U with ⟨a1, a2, rfl⟩ | ⟨a1, rfl⟩
      · refine ⟨_, rfl, _, _, rfl, rfl, _, rfl, ?_⟩
        rw [decide_eq_true (show (0 : Int) ≤ (v - (rnum k l t + 1)) / 26500305465 by omega)]
        refine iteT ?_
        refine ⟨_, rfl, rfl, _, rfl, ?_⟩
        rw [decide_eq_true (show V.int ((v - (rnum k l t + 1)) % 26500305465) = V.int 0 by congr 1; omega)]
        refine iteT ?_
        refine ⟨_, rfl, _, rfl, rfl, ?_⟩
        refine qt ?_ (hq _ s2)
        show V.int ((v - rnum k l t - 1) / 26500305465) = V.int ((v - (rnum k l t + 1)) / 26500305465)
        rw [eL]
      · refine ⟨_, rfl, _, _, rfl, rfl, _, rfl, ite2 (fun e => ?_) (fun e => ?_)⟩
        · have e1 : 0 ≤ (v - (rnum k l t + 1)) / 26500305465 := of_decide_eq_true e
          have e2 : ¬ (v - (rnum k l t + 1)) % 26500305465 = 0 := fun z => a1 ⟨by omega, by rw [← eL]; exact z⟩
          refine ⟨_, rfl, rfl, _, rfl, ?_⟩
          rw [decide_eq_false fun z => e2 (V.int.inj z)]
          refine iteF ?_
          exact ⟨_, rfl, rfl, hq _ s2⟩
        · refine iteF ?_
          exact ⟨_, rfl, rfl, hq _ s2⟩
    | some n =>
      refine iteF ?_
      rcases U with ⟨a1, rfl⟩ | ⟨_, a1, x, i, rfl, x0, x1, ex, hi⟩
      · refine ⟨_, rfl, _, rfl, _, _, rfl, rfl, _, rfl, ?_⟩
        rw [decide_eq_true (show n ≤ v by omega)]
        refine iteT ?_
        exact ⟨_, rfl, rfl, hq _ s1⟩
      · obtain ⟨h1, h2, h3⟩ := M.ok.w_ n rfl
        have g1 := M.ok.f1
        have g2 := M.ok.f2
        have y1 : -18446744073709551616 < f := by omega
        have y2 : f < 18446744073709551616 := by omega
        refine ⟨_, rfl, _, rfl, _, _, rfl, rfl, _, rfl, ?_⟩
        rw [decide_eq_false (show ¬ n ≤ v by omega)]
        refine iteF ?_
        refine ⟨_, rfl, _, _, _, _, _, rfl, .ty _, .base (.int x), kit_ty (r := true) (by decide +kernel), _, rfl, iteF ?_⟩
        refine ⟨_, rfl, _, _, _, _, _, rfl, .ty _, .base (.int x), kit_ty (r := false) (by decide +kernel), _, rfl, iteF ?_⟩
        refine ⟨_, rfl, _, _, rfl, rfl, _, rfl, ?_⟩
        rw [decide_eq_true x0]
        refine iteT ?_
        refine ⟨_, rfl, _, _, rfl, rfl, _, rfl, ?_⟩
        rw [decide_eq_true x1]
        refine iteF ?_
        refine ⟨_, rfl, _, rfl, _, _, rfl, rfl, .inr ⟨y1, y2⟩, _, rfl, _, _, rfl, rfl, _, rfl, _, _, rfl, rfl, (show 0 < n by omega), _, rfl, rfl, _, rfl, ?_⟩
        rw [decide_eq_true (congrArg V.int ex)]
        refine iteT ?_
        obtain ⟨dx, hx⟩ := M1.at_
        refine ⟨_, rfl, p, dx, _, rfl, hx, mxf_no _ _ (by decide +kernel) (by decide +kernel), _, rfl, _, rfl, p, q, some n, f, x, b, k, l, t, rfl, M1, R1, _, rfl, rfl, ?_⟩
        exact qt (congrArg V.int ex) (hq _ s1)
end
section
variable {P : Program} {w : World} {K : PySem.W.Frag} {mg : Str → Option Value} {base : Heap}
theorem or_w {w : Option Int} {c : Int} {H : Hp} {C : VK} (hw : ∀ n, w = some n → 3 ≤ n) (k : ∀ z : Int, (w = none ∧ z = c) ∨ w = some z → C (.int z) H) : ∃ kk, TruV K (wV w) H kk ∧ if kk = true then C (wV w) H else C (.int c) H := by
  cases w with
  | none => exact ⟨false, rfl, iteF (k c (.inl ⟨rfl, rfl⟩))⟩
  | some n =>
    refine ⟨true, ?_, iteT (k n (.inr rfl))⟩
    show true = (n != 0)
    have : n ≠ 0 := by have := hw n rfl; omega
    simp [this]
theorem or_r {w : Option Int} {c : Int} {H : Hp} {C : VK} {σ : L2.St} {i : Nat} (hs : σ[i]? = some (some (wV w))) (hw : ∀ n, w = some n → 3 ≤ n) (k : ∀ z : Int, (w = none ∧ z = c) ∨ w = some z → C (.int z) H) : tOrT K (tVar i) (tC (.int c)) σ H C :=
  ⟨_, hs, or_w hw k⟩
theorem um_fwd {w : Option Int} {f bf r : Int} {o : Option Int} (ok : OkMix w f) (h0 : 0 ≤ bf) (h1 : ∀ n, w = some n → bf < n) (U : UM w f (mxd w f bf r) r o) : o = some bf := by
  cases w with
  | none =>
    have e : mxd none f bf r - r - 1 = bf * 26500305465 := by
      show bf * 26500305465 + (r + 1) - r - 1 = _
      omega
    rcases U with ⟨a, b, c⟩ | ⟨a, b⟩
    · rw [c, e]
      congr 1
      omega
    · rw [e] at a
      exact absurd ⟨by omega, by omega⟩ a
  | some n =>
    have n3 := (ok.w_ n rfl).1
    have m0 : 0 ≤ mxd (some n) f bf r := Int.emod_nonneg _ (by omega)
    have m1 : mxd (some n) f bf r < n := Int.emod_lt_of_pos _ (by omega)
    have U2 := U
    rcases U with ⟨a, b⟩ | ⟨a, b, x, i, e, x0, x1, ex, hi⟩
    · exact absurd ⟨m0, m1⟩ a
    · exact um_one U2 (.inr ⟨m0, m1, bf, i, rfl, h0, h1 n rfl, rfl, hi⟩)
def spLRight : Sp := fun vs H Q _ => ∃ (p : Addr) (n : Int), vs = [.ref p] ∧ Box H p n ∧ n < 700000 ∧ ∀ G, But p H G → Box G p (n + 300) → Q (.bl true) G
theorem okLRight (T : Tx K mg) : FnOk P w K mg base CX0 6 (He.ga K "_law_right") T.fdLRight ["_law_box_here"] spLRight := by
  have B := T.B
  have GLMixing : FnOk P w K mg base CX0 5 (He.ga K "_law_mixing") T.fdLMixing ["_law_box_here"] (spLMixing K) := okLMixing T
  have bLMixing := T.bLMixing
  have GMixingMixed : FnOk P w K mg base CX0 3 (He.ma K (He.ga K "Mixing") "mixed") T.fdMixingMixed ["self", "value", "row"] (spMixingMixed K) := okMixingMixed T
  have bMixingMixed := T.bMixingMixed
  have GLRow : FnOk P w K mg base CX0 3 (He.ga K "_law_row") T.fdLRow ["_law_box_here", "_law_boards"] (spLRow K) := okLRow T
  have bLRow := T.bLRow
  have GLTake : FnOk P w K mg base CX0 1 (He.ga K "_law_take") T.fdLTake ["_law_box_here", "_law_many"] spLTake := okLTake T
  have bLTake := T.bLTake
  have GMixingUnmixed : FnOk P w K mg base CX0 3 (He.ma K (He.ga K "Mixing") "unmixed") T.fdMixingUnmixed ["self", "value", "row"] (spMixingUnmixed K) := okMixingUnmixed T
  have bMixingUnmixed := T.bMixingUnmixed
  have GLNumberOf : FnOk P w K mg base CX0 1 (He.ga K "_law_number_of") T.fdLNumberOf ["_law_row_here"] (spLNumberOf K) := okLNumberOf T
  have bLNumberOf := T.bLNumberOf
  have GLIsRight : FnOk P w K mg base CX0 4 (He.ga K "_law_is_right") T.fdLIsRight ["_law_mixing_here", "_law_width_here", "_law_by", "_law_value", "_law_row_here", "_law_found"] (spLIsRight K) := okLIsRight T
  have bLIsRight := T.bLIsRight
  refine T.FLRight.ok scLRight (fun vs H Q E h => ?_) (fun cdv A outer s H vs Q E hr h => ?_)
  · obtain ⟨p, n, rfl, _⟩ := h
    rfl
  · obtain ⟨p, n, rfl, hB, hn, q⟩ := h
    refine ⟨_, PSs.nox (pss_cons (ps_asg (pe_call GLMixing (hr.mono (by decide)) (by rfl) T.gLMixing T.FLMixing.kp bLMixing .nil pass0 (pa_cons (pv 0) pa_nil)) (pg_tup rfl (pgs_cons (pg_name (i := 1) scLRight.nd rfl (Or.inl rfl)) (pgs_cons (pg_name (i := 2) scLRight.nd rfl (Or.inl rfl)) (pgs_cons (pg_name (i := 3) scLRight.nd rfl (Or.inl rfl)) pgs_nil)))))
        (pss_cons (ps_for PassesOwn.never rfl (pi_range1 (by rfl) B.b_range (pa_cons pe_int pa_nil)) (pg_name (i := 4) scLRight.nd rfl (Or.inl rfl))
        (pss_cons (ps_par (i := 5) (j := 6) (by rfl) scLRight.nd rfl rfl (by decide) rfl rfl (pa_cons (pe_call GLRow (hr.mono (by decide)) (by rfl) T.gLRow T.FLRow.kp bLRow .nil pass0 (pa_cons (pv 0) (pa_cons pe_int pa_nil))) (pa_cons (pe_call GLTake (hr.mono (by decide)) (by rfl) T.gLTake T.FLTake.kp bLTake .nil pass0 (pa_cons (pv 0) (pa_cons (pe_ix ix_list (pe_lst (pa_cons pe_int (pa_cons (pe_op op_pow pe_int pe_int) (pa_cons (pe_op op_pow pe_int pe_int) pa_nil)))) (pe_call GLTake (hr.mono (by decide)) (by rfl) T.gLTake T.FLTake.kp bLTake .nil pass0 (pa_cons (pv 0) (pa_cons pe_int pa_nil))) (fun _ _ => rfl)) pa_nil))) pa_nil)) (by rfl))
        (pss_cons (ps_set (i := 6) scLRight.nd rfl (.inl rfl) (pe_ifExp (pt_cmpR op_isN (pv 2) pe_non (nomark _)) (pv 6) (pe_op op_mod (pv 6) (pv 2))))
        (pss_cons (ps_set (i := 7) scLRight.nd rfl (.inl rfl) (pe_meth (pv 1) T.clMixing T.mMixingMixed GMixingMixed (hr.mono (by decide)) bMixingMixed .nil pass0 (pa_cons (pv 6) (pa_cons (pv 5) pa_nil))))
        (pss_cons (ps_if (pt_cmpR op_ne (pe_meth (pv 1) T.clMixing T.mMixingUnmixed GMixingUnmixed (hr.mono (by decide)) bMixingUnmixed .nil pass0 (pa_cons (pv 7) (pa_cons (pv 5) pa_nil))) (pv 6) (nomark _)) (pss_one (ps_ret pe_bl)) pss_nil)
        (pss_cons (ps_set (i := 8) scLRight.nd rfl (.inl rfl) (pe_lst (pa_cons (pe_op op_add (pv 7) pe_int) (pa_cons (pe_op op_mul (pv 7) (pe_ifExp (pt_cmpR op_isN (pv 2) pe_non (nomark _)) pe_int pe_int)) (pa_cons pe_int (pa_cons pe_int (pa_cons (pe_op op_add (pe_call GLNumberOf (hr.mono (by decide)) (by rfl) T.gLNumberOf T.FLNumberOf.kp bLNumberOf .nil pass0 (pa_cons (pv 5) pa_nil)) pe_int) (pa_cons (pe_op op_fdiv (pv 7) pe_int) pa_nil))))))))
        (pss_cons (ps_set (i := 8) scLRight.nd rfl (.inl rfl) (pe_op op_cat (pv 8) (pe_lst (pa_cons (pe_call GLNumberOf (hr.mono (by decide)) (by rfl) T.gLNumberOf T.FLNumberOf.kp bLNumberOf .nil pass0 (pa_cons (pv 5) pa_nil)) (pa_cons (pe_op op_sub (pe_orT (pv 2) (pe_one pe_int)) pe_int) (pa_cons (pe_orT (pv 2) (pe_one pe_int)) (pa_cons (pe_op op_add (pe_orT (pv 2) (pe_one pe_int)) (pv 7)) (pa_cons (pe_op op_pow pe_int pe_int) pa_nil))))))))
        (pss_one (ps_for PassesOwn.never rfl (pi_list (pv 8)) (pg_name (i := 9) scLRight.nd rfl (Or.inl rfl))
        (pss_cons (ps_set (i := 10) scLRight.nd rfl (.inl rfl) (pe_meth (pv 1) T.clMixing T.mMixingUnmixed GMixingUnmixed (hr.mono (by decide)) bMixingUnmixed .nil pass0 (pa_cons (pv 9) (pa_cons (pv 5) pa_nil))))
        (pss_one (ps_if (PW.pt (pw_or (pt_not (pt_val (pe_call GLIsRight (hr.mono (by decide)) (by rfl) T.gLIsRight T.FLIsRight.kp bLIsRight .nil pass0 (pa_cons (pv 1) (pa_cons (pv 2) (pa_cons (pv 3) (pa_cons (pv 9) (pa_cons (pv 5) (pa_cons (pv 10) pa_nil))))))))) (pw_or1 (pt_cmpR op_ne (pe_meth (pv 1) T.clMixing T.mMixingUnmixed GMixingUnmixed (hr.mono (by decide)) bMixingUnmixed .nil pass0 (pa_cons (pv 9) (pa_cons (pv 5) pa_nil))) (pv 10) (nomark _))))) (pss_one (ps_ret pe_bl)) pss_nil))))))))))))
        (pss_one (ps_ret (pe_cmpR (op_eqD hr.units) (pe_lst (pa_cons (pe_fld (pv 1) rfl) (pa_cons (pe_fld (pv 1) rfl) pa_nil))) (pe_lst (pa_cons (pv 2) (pa_cons (pv 3) pa_nil))) (nomark _)))))), ?_⟩
    refine ⟨_, rfl, p, n, rfl, hB, by omega, fun q0 x w f G hq0 M b1 hB1 => ?_⟩
    refine ⟨q0, _, rfl, .inl (.inl hq0), rfl, _, _, rfl, _, _, rfl, _, _, rfl, rfl, ?_⟩
    have hw : ∀ m, w = some m → 3 ≤ m ∧ m ≤ 1000000 := fun m e => ⟨(M.ok.w_ m e).1, (M.ok.w_ m e).2.1⟩
    have hw3 : ∀ m, w = some m → 3 ≤ m := fun m e => (hw m e).1
    refine ⟨6, rfl, by decide, by decide, for_range (lo := 0) (n := 6) (fun i σ G => But p H G ∧ Box G p (n + 6 + 20 * i) ∧ MixAt K G x w f ∧ ∃ (y4 y5 y6 y7 y8 y9 y10 : Option V), σ = [some (.ref p), some (.ref x), some (wV w), some (.int f), y4, y5, y6, y7, y8, y9, y10]) ⟨b1, hB1.mono (by omega), M, _, _, _, _, _, _, _, rfl⟩ ?_ ?_⟩
    · rintro i σ G hi ⟨bG, hBG, MG, y4, y5, y6, y7, y8, y9, y10, rfl⟩
      refine ⟨_, rfl, p, 8, n + 6 + 20 * i, rfl, hBG, by omega, by decide, by decide, fun qr br k l t G1 R c1 hB1 _ _ t0 _ _ => ?_⟩
      refine ⟨_, rfl, _, _, rfl, rfl, ⟨by decide, by decide, by decide⟩, _, _, rfl, rfl, ⟨by decide, by decide, by decide⟩, (by show 3 ≤ sizeLine; decide), fun l0 hl0 => ?_⟩
      have nl := hB1.ne hl0
      have sl0 := same_new (o := .lst [.int 10, .int ((10 : Int) ^ Int.toNat 6), .int ((10 : Int) ^ Int.toNat 30)]) hl0
      refine ⟨_, rfl, p, 3, n + 6 + 20 * i + 12, rfl, hB1.same sl0, by omega, by decide, by decide, fun r2 G2 c2 hB2 r20 r21 => ?_⟩
      have hl2 := c2 l0 _ upd_same nl
      obtain ⟨v, ev, mv⟩ := atI_some (xs := [V.int 10, .int ((10 : Int) ^ Int.toNat 6), .int ((10 : Int) ^ Int.toNat 30)]) r20 r21
      obtain ⟨m, rfl, m0, m1⟩ : ∃ m : Int, v = .int m ∧ 0 < m ∧ m < 340282366920938463463374607431768211456 := by
        simp only [List.mem_cons, List.mem_nil_iff, or_false] at mv
        rcases mv with rfl | rfl | rfl
        · exact ⟨_, rfl, by decide, by decide⟩
        · exact ⟨_, rfl, by decide, by decide⟩
        · exact ⟨_, rfl, by decide, by decide⟩
      refine ⟨l0, _, r2, _, rfl, rfl, SqL.of hl2, ev, p, m, n + 6 + 20 * i + 12 + 1, rfl, hB2, by omega, m0, m1, fun bf0 G3 c3 hB3 bf00 bf01 => ⟨_, _, rfl, ?_⟩⟩
      have R3 := ((R.same sl0).but c2 (hB1.same sl0)).but c3 hB2
      have M3 := (((MG.but c1 hBG).same sl0).but c2 (hB1.same sl0)).but c3 hB2
      have cc3 : But p H G3 := bG.trans (c1.trans ((But.of sl0).trans (c2.trans c3)))
      refine ⟨_, rfl, rfl, _, rfl, ifx (fun v G => (∃ bf : Int, v = .int bf ∧ 0 ≤ bf ∧ ∀ n, w = some n → bf < n) ∧ G = G3) (fun e C kn => ?_) (fun e C kn => ?_) ?_⟩
      · cases w with
        | none => exact ⟨_, rfl, kn _ _ ⟨⟨bf0, rfl, bf00, fun n h => nomatch h⟩, rfl⟩⟩
        | some m => cases (of_decide_eq_true e : V.int m = .non)
      · cases w with
        | none => exact absurd (decide_eq_true rfl) e
        | some m =>
          have := hw3 m rfl
          exact ⟨_, rfl, _, rfl, _, _, rfl, rfl, (show 0 < m by omega), kn _ _ ⟨⟨bf0 % m, rfl, Int.emod_nonneg _ (by omega), fun n h => by cases h; exact Int.emod_lt_of_pos _ (by omega)⟩, rfl⟩⟩
      rintro v4 G4 ⟨⟨bf, rfl, bf1, bf2⟩, rfl⟩
      obtain ⟨dx, hx⟩ := M3.at_
      refine ⟨_, rfl, x, dx, _, rfl, hx, mxf_no _ _ (by decide +kernel) (by decide +kernel), _, rfl, _, rfl, x, qr, w, f, bf, br, k, l, t, rfl, M3, R3, ?_⟩
      refine ⟨_, rfl, x, dx, _, rfl, hx, mxf_no _ _ (by decide +kernel) (by decide +kernel), _, rfl, _, rfl, x, qr, w, f, mxd w f bf (rnum k l t), br, k, l, t, rfl, M3, R3, fun o G5 U s5 => ?_⟩
      have eo := um_fwd M3.ok bf1 bf2 U
      subst eo
      refine ⟨_, rfl, rfl, _, rfl, ?_⟩
      refine iteNS rfl ?_
      have rn0 : 0 ≤ rnum k l t := by
        have := num_nonneg l
        unfold rnum
        omega
      have vv0 : 0 ≤ mxd w f bf (rnum k l t) := by
        cases w with
        | none =>
          show 0 ≤ bf * 26500305465 + (rnum k l t + 1)
          omega
        | some m => exact Int.emod_nonneg _ (by have := hw3 m rfl; omega)
      obtain ⟨vv, hvv⟩ : ∃ vv, vv = mxd w f bf (rnum k l t) := ⟨_, rfl⟩
      rw [← hvv] at vv0
      have R5 := R3.same s5
      have M5 := M3.same s5
      have hB5 := hB3.same s5
      -- others
      refine ⟨_, rfl, _, _, rfl, rfl, _, rfl, _, rfl, rfl, _, rfl, ifx (fun v G => (∃ c : Int, v = .int c ∧ 0 ≤ c ∧ c < 18446744073709551616) ∧ G = G5) (fun e C kn => kn _ _ ⟨⟨_, rfl, by decide, by decide⟩, rfl⟩) (fun e C kn => kn _ _ ⟨⟨_, rfl, by decide, by decide⟩, rfl⟩) ?_⟩
      rintro v6 G6 ⟨⟨c6, rfl, c60, c61⟩, rfl⟩
      have c62 : -18446744073709551616 < c6 := by omega
      refine ⟨_, _, rfl, rfl, .inr ⟨c62, c61⟩, ?_⟩
      refine ⟨_, rfl, qr, br, k, l, t, rfl, R5, fun G7 s7 => ⟨_, _, rfl, rfl, ?_⟩⟩
      refine ⟨_, rfl, _, _, rfl, rfl, ⟨by decide, by decide⟩, (by show 6 ≤ sizeLine; decide), fun la hla => ?_⟩
      rw [← hvv]
      have ua := same_new (o := .lst ([vv + 1, vv * c6, 0, 1, rnum k l t + 1, vv / 2].map V.int)) hla
      refine ⟨_, rfl, _, rfl, qr, br, k, l, t, rfl, R5.same (s7.trans ua), fun G8 s8 => ?_⟩
      refine or_r (w := w) (c := 7) (i := 2) rfl hw3 (fun z1 hz1 => ⟨_, _, rfl, rfl, ?_⟩)
      refine or_r (w := w) (c := 9) (i := 2) rfl hw3 (fun z2 hz2 => ?_)
      refine or_r (w := w) (c := 1) (i := 2) rfl hw3 (fun z3 hz3 => ⟨_, rfl, _, _, rfl, rfl, ?_⟩)
      refine ⟨_, _, rfl, rfl, ⟨by decide, by decide, by decide⟩, (by show 5 ≤ sizeLine; decide), fun lb hlb => ?_⟩
      have zz : ∀ c z : Int, 1 ≤ c → (w = none ∧ z = c) ∨ w = some z → 1 ≤ z := by
        rintro c z hc (⟨_, rfl⟩ | h)
        · exact hc
        · have := hw3 z h
          omega
      have z10 := zz 7 z1 (by decide) hz1
      have z20 := zz 9 z2 (by decide) hz2
      have z30 := zz 1 z3 (by decide) hz3
      have ub := same_new (o := .lst ([rnum k l t, z1 - 1, z2, z3 + vv, (10 : Int) ^ Int.toNat 9].map V.int)) hlb
      refine ⟨la, lb, _, _, rfl, rfl, ub _ _ (s8 _ _ upd_same), upd_same, (by show 11 ≤ sizeLine; decide), fun lc hlc => ?_⟩
      have uc := same_new (o := .lst ([vv + 1, vv * c6, 0, 1, rnum k l t + 1, vv / 2].map V.int ++ [rnum k l t, z1 - 1, z2, z3 + vv, (10 : Int) ^ Int.toNat 9].map V.int)) hlc
      obtain ⟨os, hos, hos0⟩ : ∃ os : List Int, [vv + 1, vv * c6, 0, 1, rnum k l t + 1, vv / 2].map V.int ++ [rnum k l t, z1 - 1, z2, z3 + vv, (10 : Int) ^ Int.toNat 9].map V.int = os.map V.int ∧ ∀ z ∈ os, 0 ≤ z := by
        refine ⟨[vv + 1, vv * c6, 0, 1, rnum k l t + 1, vv / 2] ++ [rnum k l t, z1 - 1, z2, z3 + vv, (10 : Int) ^ Int.toNat 9], by rw [List.map_append], ?_⟩
        have h2 : 0 ≤ vv * c6 := Int.mul_nonneg vv0 c60
        have h9 : (0 : Int) ≤ 10 ^ Int.toNat 9 := by decide
        intro z hz
        simp only [List.cons_append, List.nil_append, List.mem_cons, List.mem_nil_iff, or_false] at hz
        rcases hz with rfl | rfl | rfl | rfl | rfl | rfl | rfl | rfl | rfl | rfl | rfl <;> first | omega | exact h2 | exact h9
      have sall : Same G6 _ := s7.trans (ua.trans (s8.trans (ub.trans uc)))
      refine ⟨_, rfl, lc, rfl, ⟨_, SqL.of upd_same⟩, for_it (walk_list (xs := os.map V.int)) (fun j σ G9 => Same G6 G9 ∧ SqL K G9 lc (os.map V.int) ∧ ∃ (y4 y6 y7 y8 y9 y10 : Option V), σ = [some (.ref p), some (.ref x), some (wV w), some (.int f), y4, some (.ref qr), y6, y7, y8, y9, y10]) ⟨sall, SqL.of (by rw [← hos]; exact upd_same), _, _, _, _, _, _, rfl⟩ (fun _ _ _ _ h => h.2.1) ?_ ?_⟩
      · rintro j v σ G9 G10 hj ⟨s9, hL, y4, y6, y7, y8, y9, y10, rfl⟩ ⟨rfl, hv⟩
        rw [List.getElem?_map] at hv
        obtain ⟨ov, rfl, ov0⟩ : ∃ ov, v = V.int ov ∧ 0 ≤ ov := by
          cases e : os[j]? with
          | none => rw [e] at hv; cases hv
          | some a => rw [e] at hv; exact ⟨a, (Option.some.inj hv).symm, hos0 a (List.mem_of_getElem? e)⟩
        have M9 := M5.same s9
        have R9 := R5.same s9
        obtain ⟨dx9, hx9⟩ := M9.at_
        refine ⟨_, rfl, x, dx9, _, rfl, hx9, mxf_no _ _ (by decide +kernel) (by decide +kernel), _, rfl, _, rfl, x, qr, w, f, ov, br, k, l, t, rfl, M9, R9, fun o Ga U sa => ?_⟩
        have Ma := M9.same sa
        have Ra := R9.same sa
        refine ⟨_, rfl, _, rfl, _, rfl, _, rfl, _, rfl, _, rfl, x, qr, w, f, ov, br, k, l, t, o, rfl, Ma, Ra, U, ov0, fun Gb sb => ⟨_, rfl, iteF ?_⟩⟩
        have Mb := Ma.same sb
        have Rb := Ra.same sb
        obtain ⟨dxb, hxb⟩ := Mb.at_
        refine ⟨_, rfl, x, dxb, _, rfl, hxb, mxf_no _ _ (by decide +kernel) (by decide +kernel), _, rfl, _, rfl, x, qr, w, f, ov, br, k, l, t, rfl, Mb, Rb, fun o2 Gc U2 sc => ?_⟩
        have eo := um_one U2 U
        subst eo
        refine ⟨_, rfl, by cases o2 <;> rfl, _, rfl, iteNS rfl ?_⟩
        have sabc := sa.trans (sb.trans sc)
        exact ⟨s9.trans sabc, sabc.seq hL, _, _, _, _, _, _, rfl⟩
      · rintro σ G9 ⟨s9, hL, y4, y6, y7, y8, y9, y10, rfl⟩
        have s59 := s5.trans s9
        exact ⟨cc3.trans (But.of s59), (hB3.same s59).mono (by omega), M3.same s59, _, _, _, _, _, _, _, rfl⟩
    · rintro σ G ⟨bG, hBG, MG, y4, y5, y6, y7, y8, y9, y10, rfl⟩
      obtain ⟨dx, hx2⟩ := MG.at_
      refine ⟨_, rfl, x, _, dx, _, _, rfl, hx2, T.clMixing, T.nMixing_width, mxf_width _ _, _, rfl, x, _, dx, _, _, rfl, hx2, T.clMixing, T.nMixing_factor, mxf_factor _ _, (by show 2 ≤ sizeLine; decide), fun l6 hl6 => ?_⟩
      refine ⟨_, rfl, _, rfl, (by show 2 ≤ sizeLine; decide), fun l7 hl7 => ?_⟩
      have u4 := same_new (o := .lst [wV w, .int f]) hl6
      have u5 := same_new (o := .lst [wV w, .int f]) hl7
      refine ⟨.list [wD w, .int f], .list [wD w, .int f], .lst (SqL.of (u5 _ _ upd_same)) (.cons (dp_w w) (.cons (.int _) .nil)), .lst (SqL.of upd_same) (.cons (dp_w w) (.cons (.int _) .nil)), wD_ok w f, wD_ok w f, ?_⟩
      rw [SeqAt.eqv_refl _ (wD_can w f)]
      exact q _ (bG.trans (But.of (u4.trans u5))) ((hBG.same (u4.trans u5)).mono (by omega))
end
section
variable {P : Program} {w : World} {K : PySem.W.Frag} {mg : Str → Option Value} {base : Heap}
theorem okLaw (T : Tx K mg) : FnOk P w K mg base CX0 7 (He.ga K "law") T.fdLaw ["_law_script"] (spLaw K) := by
  have B := T.B
  have GLBox : FnOk P w K mg base CX0 1 (He.ga K "_law_box") T.fdLBox ["_law_script", "_law_k"] (spLBox K) := okLBox T
  have bLBox := T.bLBox
  have GLRight : FnOk P w K mg base CX0 6 (He.ga K "_law_right") T.fdLRight ["_law_box_here"] spLRight := okLRight T
  have bLRight := T.bLRight
  refine T.FLaw.ok scLaw (fun vs H Q E h => ?_) (fun cdv A outer s H vs Q E hr h => ?_)
  · obtain ⟨a, ns, rfl, _⟩ := h
    rfl
  · obtain ⟨a, ns, rfl, hS, hlen, q⟩ := h
    refine ⟨_, PSs.nox (pss_cons (ps_for PassesOwn.never rfl (pi_range1 (by rfl) B.b_range (pa_cons (pe_callB (call_max2 rfl) (by rfl) B.b_max boot_max (pa_cons pe_int (pa_cons (pe_callB (call_min2 rfl) (by rfl) B.b_min boot_min (pa_cons pe_int (pa_cons (pe_callB call_len_seq (by rfl) B.b_len PySem.boot_len (pa_cons (pv 0) pa_nil)) pa_nil))) pa_nil))) pa_nil)) (pg_name (i := 1) scLaw.nd rfl (Or.inl rfl))
        (pss_cons (ps_set (i := 2) scLaw.nd rfl (.inr rfl) (pe_call GLBox (hr.mono (by decide)) (by rfl) T.gLBox T.FLBox.kp bLBox .nil pass0 (pa_cons (pv 0) (pa_cons (pv 1) pa_nil))))
        (pss_one (ps_if (pt_not (pt_val (pe_callB (cr_all rfl) (by rfl) B.b_all boot_all (pa_cons (pe_lc (own := [("_law_turn", 3)]) (g := gName 3) (tt := tYes) (by rfl) scLaw.nd (pi_range1 (by rfl) B.b_range (pa_cons pe_int pa_nil)) (blkOk_by (own := [("_law_turn", 3)]) (N := ["_law_script", "_law_k", "_law_box_here", "_law_turn"]) (sc := defScope sLaw) (by decide +kernel)) (fun _ _ _ _ _ => by exact (pg_name (i := 3) scLaw.nd rfl (Or.inl rfl))) (fun _ _ _ _ _ => pts_nil) (fun _ _ _ _ _ => (pe_call GLRight (hr.mono (by decide)) (by rfl) T.gLRight T.FLRight.kp bLRight .nil pass0 (pa_cons (pv 2) pa_nil)))) pa_nil)))) (pss_one (ps_ret pe_bl)) pss_nil))))
        (pss_one (ps_ret pe_bl))), ?_⟩
    refine ⟨_, rfl, a, _, rfl, .inl hS, _, _, rfl, _, _, rfl, _, rfl, ?_⟩
    have hR : ∃ N : Int, (if (if ((ns.map V.int).length : Int) < 6 then ((ns.map V.int).length : Int) else 6) > 1 then (if ((ns.map V.int).length : Int) < 6 then ((ns.map V.int).length : Int) else 6) else 1) = N ∧ 0 ≤ N ∧ N ≤ 6 := ⟨_, rfl, by split <;> split <;> omega, by split <;> split <;> omega⟩
    obtain ⟨N, eN, hN0, hN3⟩ := hR
    rw [eN]
    refine ⟨(by have : -4611686018427387904 ≤ N := by omega
                exact this), (by have : N < 4611686018427387904 := by omega
                                 exact this), ?_⟩
    refine for_range (lo := 0) (n := N.toNat) (fun i σ G => Same H G ∧ ∃ x1 x2 x3, σ = [some (.ref a), x1, x2, x3]) ⟨Same.refl _, _, _, _, rfl⟩ ?_ ?_
    · rintro i σ G hi ⟨sG, x1, x2, x3, rfl⟩
      have e0i : (0 : Int) + (i : Int) = ((i : Nat) : Int) := by omega
      rw [e0i]
      refine ⟨_, rfl, _, rfl, a, ns, i, rfl, sG.seq hS, by omega, fun p x y hp hx hy hy2 => ?_⟩
      have box0 : Box (upd G p (.lst [.int x, .int y, .int 0])) p 0 := ⟨x, y, 0, upd_same, hx, hy, hy2, Int.le_refl _, Int.le_refl _⟩
      refine ⟨3, rfl, by decide, by decide, fun D hD => ?_⟩
      have nD := box0.ne hD
      refine lc_range (lo := 0) (n := 3) (fun j G1 => But p (upd G p (.lst [.int x, .int y, .int 0])) G1 ∧ Box G1 p (300 * j) ∧ G1 D = some (.lst ((List.replicate j true).map V.bl))) ⟨But.of (same_new hD), (box0.same (same_new hD)).mono (by omega), upd_same⟩ ?_ ?_
      · rintro j G1 hj ⟨bG, hB, hDG⟩
        refine ⟨rfl, ?_⟩
        unfold tYes
        refine iteT ?_
        refine ⟨_, rfl, p, 300 * j, rfl, hB, by omega, fun G2 b2 hB2 => ?_⟩
        refine ⟨_, b2 _ _ hDG nD, ?_, ?_, ?_, ?_⟩
        · rw [List.length_map, List.length_replicate]
          exact small6 (by omega)
        · intro b o e hb
          have hbD : b ≠ D := ne_of_none e hD
          rw [upd_ne hbD]
          exact b2 _ _ (bG _ _ e hb) hb
        · obtain ⟨x, y, z, e, h1, h2, h3, h4, h5⟩ := hB2
          exact ⟨x, y, z, by rw [upd_ne nD.symm]; exact e, h1, h2, h3, h4, by omega⟩
        · rw [upd_same, List.replicate_succ', List.map_append]
          rfl
      · rintro G1 ⟨bG, hB, hDG⟩
        refine ⟨D, _, rfl, SqL.of hDG, _, rfl, iteF ?_⟩
        exact ⟨same_but (G1 := G) sG hp bG, _, _, _, rfl⟩
    · rintro σ G ⟨sG, _⟩
      exact q G
end
section
variable {P : Program} {w : World} {K : PySem.W.Frag} {mg : Str → Option Value} {base : Heap}
def ddWall : He.DefD := ⟨("_wall", none), "_wall", "_wall", defArgs sWall, defBody sWall, defScope sWall, [], []⟩
def ddNameNumber : He.DefD := ⟨("name_number", none), "name_number", "name_number", defArgs sNameNumber, defBody sNameNumber, defScope sNameNumber, [], []⟩
def ddIsNumber : He.DefD := ⟨("is_number", none), "is_number", "is_number", defArgs sIsNumber, defBody sIsNumber, defScope sIsNumber, [], []⟩
def ddCommonDivisor : He.DefD := ⟨("common_divisor", none), "common_divisor", "common_divisor", defArgs sCommonDivisor, defBody sCommonDivisor, defScope sCommonDivisor, [], []⟩
def ddInverse : He.DefD := ⟨("inverse", none), "inverse", "inverse", defArgs sInverse, defBody sInverse, defScope sInverse, [], []⟩
def ddRowNumber : He.DefD := ⟨("row_number", none), "row_number", "row_number", defArgs sRowNumber, defBody sRowNumber, defScope sRowNumber, [], []⟩
def ddIsWidth : He.DefD := ⟨("is_width", none), "is_width", "is_width", defArgs sIsWidth, defBody sIsWidth, defScope sIsWidth, [], []⟩
def ddIsFactor : He.DefD := ⟨("is_factor", none), "is_factor", "is_factor", defArgs sIsFactor, defBody sIsFactor, defScope sIsFactor, [], []⟩
def ddLBox : He.DefD := ⟨("_law_box", none), "_law_box", "_law_box", defArgs sLBox, defBody sLBox, defScope sLBox, [], []⟩
def ddLTake : He.DefD := ⟨("_law_take", none), "_law_take", "_law_take", defArgs sLTake, defBody sLTake, defScope sLTake, [], []⟩
def ddLName : He.DefD := ⟨("_law_name", none), "_law_name", "_law_name", defArgs sLName, defBody sLName, defScope sLName, [], []⟩
def ddLRow : He.DefD := ⟨("_law_row", none), "_law_row", "_law_row", defArgs sLRow, defBody sLRow, defScope sLRow, [], []⟩
def ddLNumberOf : He.DefD := ⟨("_law_number_of", none), "_law_number_of", "_law_number_of", defArgs sLNumberOf, defBody sLNumberOf, defScope sLNumberOf, [], []⟩
def ddLCommon : He.DefD := ⟨("_law_common", none), "_law_common", "_law_common", defArgs sLCommon, defBody sLCommon, defScope sLCommon, [], []⟩
def ddLFactor : He.DefD := ⟨("_law_factor", none), "_law_factor", "_law_factor", defArgs sLFactor, defBody sLFactor, defScope sLFactor, [], []⟩
def ddLWidth : He.DefD := ⟨("_law_width", none), "_law_width", "_law_width", defArgs sLWidth, defBody sLWidth, defScope sLWidth, [], []⟩
def ddLMixing : He.DefD := ⟨("_law_mixing", none), "_law_mixing", "_law_mixing", defArgs sLMixing, defBody sLMixing, defScope sLMixing, [], []⟩
def ddLIsRight : He.DefD := ⟨("_law_is_right", none), "_law_is_right", "_law_is_right", defArgs sLIsRight, defBody sLIsRight, defScope sLIsRight, [], []⟩
def ddLRight : He.DefD := ⟨("_law_right", none), "_law_right", "_law_right", defArgs sLRight, defBody sLRight, defScope sLRight, [], []⟩
def ddLaw : He.DefD := ⟨("law", none), "law", "law", defArgs sLaw, defBody sLaw, defScope sLaw, [], []⟩
def ddMixingInit : He.DefD := ⟨("Mixing", some "__init__"), "__init__", "Mixing.__init__", defArgs sMixingInit, defBody sMixingInit, defScope sMixingInit, [.non], [("factor", .int 7919)]⟩
def ddMixingMixed : He.DefD := ⟨("Mixing", some "mixed"), "mixed", "Mixing.mixed", defArgs sMixingMixed, defBody sMixingMixed, defScope sMixingMixed, [], []⟩
def ddMixingUnmixed : He.DefD := ⟨("Mixing", some "unmixed"), "unmixed", "Mixing.unmixed", defArgs sMixingUnmixed, defBody sMixingUnmixed, defScope sMixingUnmixed, [], []⟩
def ddMixingEq : He.DefD := ⟨("Mixing", some "__eq__"), "__eq__", "Mixing.__eq__", defArgs sMixingEq, defBody sMixingEq, defScope sMixingEq, [], []⟩
def ddMixingRepr : He.DefD := ⟨("Mixing", some "__repr__"), "__repr__", "Mixing.__repr__", defArgs sMixingRepr, defBody sMixingRepr, defScope sMixingRepr, [], []⟩
def ddMixingStr : He.DefD := ⟨("Mixing", some "__str__"), "__str__", "Mixing.__str__", defArgs sMixingStr, defBody sMixingStr, defScope sMixingStr, [], []⟩
def hfn : List He.DefD := [ddWall, ddNameNumber, ddIsNumber, ddCommonDivisor, ddInverse, ddRowNumber, ddIsWidth, ddIsFactor, ddLBox, ddLTake, ddLName, ddLRow, ddLNumberOf, ddLCommon, ddLFactor, ddLWidth, ddLMixing, ddLIsRight, ddLRight, ddLaw, ddMixingInit, ddMixingMixed, ddMixingUnmixed, ddMixingEq, ddMixingRepr, ddMixingStr]
def hfa : List He.Fa := [.free "len", .free "abs", .free "int", .free "isinstance", .free "list", .free "tuple", .free "str", .free "bool", .free "all", .free "zip", .free "range", .free "max", .free "min", .free "enumerate", .free "divmod", .glo "_wall", .glo "name_number", .glo "is_number", .glo "common_divisor", .glo "inverse", .glo "row_number", .glo "is_width", .glo "is_factor", .glo "_law_box", .glo "_law_take", .glo "_law_name", .glo "_law_row", .glo "_law_number_of", .glo "_law_common", .glo "_law_factor", .glo "_law_width", .glo "_law_mixing", .glo "_law_is_right", .glo "_law_right", .glo "law", .str "LETTERS" "abcdefghijklmnopqrstuvwxyz", .int "BASE" 27, .int "NOTES" 9973, .int "SPAN" 26500305465, .int "FACTOR" 7919, .int "LEAST_WIDTH" 3, .int "GREATEST" 1000000, .cls "Mixing", .glo "Mixing", .mkr "Mixing", .noat "Mixing" "width", .noat "Mixing" "factor", .meth "Mixing" "mixed", .meth "Mixing" "unmixed", .meth "Mixing" "__eq__", .meth "Mixing" "__repr__", .meth "Mixing" "__str__", .glo "WORDS"]
def hex (K : PySem.W.Frag) : Bool := tupD K "WORDS" [.str "load", .str "set", .str "end", .str "late", .str "reset"]
abbrev hR : PySem.W.OpenRow := PySem.W.OpenLaw.row PySem.Challenge.rw_startlog_k10_rows_unmixed
abbrev hk : PySem.W.Hook := hookE 5 hfa hfn hex
def hob (s : PySem.W.SharedT) : He.AlD × Bool := obsE 5 hfa hfn hex (HandSHeadRun.getT s)
theorem hob_eq (s : PySem.W.SharedT) : hob s = hk.obs s.abs := obsE_eq (HandSHeadRun.getT_eq s)
def hloose0 : List Str := ["LETTERS", "BASE", "WORDS", "NOTES", "SPAN", "FACTOR", "LEAST_WIDTH", "GREATEST", "StartError", "BadMixing", "Mixing", "_wall", "name_number", "is_number", "common_divisor", "inverse", "row_number", "is_width", "is_factor", "_law_box", "_law_take", "_law_name", "_law_row", "_law_number_of", "_law_common", "_law_factor", "_law_width", "_law_mixing", "_law_is_right", "_law_right"]
def hloose : List Str := hloose0
theorem hrun (w : World) : HandSHeadRun.RunEq hR (PySem.W.view hR.prog [36]) hk hob 8000 hloose w := by
  intro os
  kernel_rfl
theorem tx_of {K : PySem.W.Frag} {h : Heap} {mg : Str → Option Value} (X : K.In h) (G : h.Ns mainGlobals mg) (c : He.SaysD hfa hfn K) (cx : hex K = true) : ∃ T : Tx K mg, True := by
  obtain ⟨f0, F0⟩ := c.def_ 0 (d := ddWall) rfl
  obtain ⟨f1, F1⟩ := c.def_ 1 (d := ddNameNumber) rfl
  obtain ⟨f2, F2⟩ := c.def_ 2 (d := ddIsNumber) rfl
  obtain ⟨f3, F3⟩ := c.def_ 3 (d := ddCommonDivisor) rfl
  obtain ⟨f4, F4⟩ := c.def_ 4 (d := ddInverse) rfl
  obtain ⟨f5, F5⟩ := c.def_ 5 (d := ddRowNumber) rfl
  obtain ⟨f6, F6⟩ := c.def_ 6 (d := ddIsWidth) rfl
  obtain ⟨f7, F7⟩ := c.def_ 7 (d := ddIsFactor) rfl
  obtain ⟨f8, F8⟩ := c.def_ 8 (d := ddLBox) rfl
  obtain ⟨f9, F9⟩ := c.def_ 9 (d := ddLTake) rfl
  obtain ⟨f10, F10⟩ := c.def_ 10 (d := ddLName) rfl
  obtain ⟨f11, F11⟩ := c.def_ 11 (d := ddLRow) rfl
  obtain ⟨f12, F12⟩ := c.def_ 12 (d := ddLNumberOf) rfl
  obtain ⟨f13, F13⟩ := c.def_ 13 (d := ddLCommon) rfl
  obtain ⟨f14, F14⟩ := c.def_ 14 (d := ddLFactor) rfl
  obtain ⟨f15, F15⟩ := c.def_ 15 (d := ddLWidth) rfl
  obtain ⟨f16, F16⟩ := c.def_ 16 (d := ddLMixing) rfl
  obtain ⟨f17, F17⟩ := c.def_ 17 (d := ddLIsRight) rfl
  obtain ⟨f18, F18⟩ := c.def_ 18 (d := ddLRight) rfl
  obtain ⟨f19, F19⟩ := c.def_ 19 (d := ddLaw) rfl
  obtain ⟨f20, F20⟩ := c.def_ 20 (d := ddMixingInit) rfl
  obtain ⟨f21, F21⟩ := c.def_ 21 (d := ddMixingMixed) rfl
  obtain ⟨f22, F22⟩ := c.def_ 22 (d := ddMixingUnmixed) rfl
  obtain ⟨f23, F23⟩ := c.def_ 23 (d := ddMixingEq) rfl
  obtain ⟨f24, F24⟩ := c.def_ 24 (d := ddMixingRepr) rfl
  obtain ⟨f25, F25⟩ := c.def_ 25 (d := ddMixingStr) rfl
  have t0 := cx
  exact ⟨⟨⟨He.free_ok X G (c.fact 0 (f := .free "len") rfl), He.free_ok X G (c.fact 1 (f := .free "abs") rfl), He.free_ok X G (c.fact 2 (f := .free "int") rfl), He.free_ok X G (c.fact 3 (f := .free "isinstance") rfl), He.free_ok X G (c.fact 4 (f := .free "list") rfl), He.free_ok X G (c.fact 5 (f := .free "tuple") rfl), He.free_ok X G (c.fact 6 (f := .free "str") rfl), He.free_ok X G (c.fact 7 (f := .free "bool") rfl), He.free_ok X G (c.fact 8 (f := .free "all") rfl), He.free_ok X G (c.fact 9 (f := .free "zip") rfl), He.free_ok X G (c.fact 10 (f := .free "range") rfl), He.free_ok X G (c.fact 11 (f := .free "max") rfl), He.free_ok X G (c.fact 12 (f := .free "min") rfl), He.free_ok X G (c.fact 13 (f := .free "enumerate") rfl), He.free_ok X G (c.fact 14 (f := .free "divmod") rfl)⟩,
    He.str_ok X G (c.fact 35 (f := .str "LETTERS" "abcdefghijklmnopqrstuvwxyz") rfl),
    He.int_ok X G (c.fact 36 (f := .int "BASE" 27) rfl),
    He.int_ok X G (c.fact 37 (f := .int "NOTES" 9973) rfl),
    He.int_ok X G (c.fact 38 (f := .int "SPAN" 26500305465) rfl),
    He.int_ok X G (c.fact 39 (f := .int "FACTOR" 7919) rfl),
    He.int_ok X G (c.fact 40 (f := .int "LEAST_WIDTH" 3) rfl),
    He.int_ok X G (c.fact 41 (f := .int "GREATEST" 1000000) rfl),
    f0,
    F0,
    He.glo_ok X G (c.fact 15 (f := .glo "_wall") rfl),
    f1,
    F1,
    He.glo_ok X G (c.fact 16 (f := .glo "name_number") rfl),
    f2,
    F2,
    He.glo_ok X G (c.fact 17 (f := .glo "is_number") rfl),
    f3,
    F3,
    He.glo_ok X G (c.fact 18 (f := .glo "common_divisor") rfl),
    f4,
    F4,
    He.glo_ok X G (c.fact 19 (f := .glo "inverse") rfl),
    f5,
    F5,
    He.glo_ok X G (c.fact 20 (f := .glo "row_number") rfl),
    f6,
    F6,
    He.glo_ok X G (c.fact 21 (f := .glo "is_width") rfl),
    f7,
    F7,
    He.glo_ok X G (c.fact 22 (f := .glo "is_factor") rfl),
    f8,
    F8,
    He.glo_ok X G (c.fact 23 (f := .glo "_law_box") rfl),
    f9,
    F9,
    He.glo_ok X G (c.fact 24 (f := .glo "_law_take") rfl),
    f10,
    F10,
    He.glo_ok X G (c.fact 25 (f := .glo "_law_name") rfl),
    f11,
    F11,
    He.glo_ok X G (c.fact 26 (f := .glo "_law_row") rfl),
    f12,
    F12,
    He.glo_ok X G (c.fact 27 (f := .glo "_law_number_of") rfl),
    f13,
    F13,
    He.glo_ok X G (c.fact 28 (f := .glo "_law_common") rfl),
    f14,
    F14,
    He.glo_ok X G (c.fact 29 (f := .glo "_law_factor") rfl),
    f15,
    F15,
    He.glo_ok X G (c.fact 30 (f := .glo "_law_width") rfl),
    f16,
    F16,
    He.glo_ok X G (c.fact 31 (f := .glo "_law_mixing") rfl),
    f17,
    F17,
    He.glo_ok X G (c.fact 32 (f := .glo "_law_is_right") rfl),
    f18,
    F18,
    He.glo_ok X G (c.fact 33 (f := .glo "_law_right") rfl),
    f19,
    F19,
    He.glo_ok X G (c.fact 34 (f := .glo "law") rfl),
    f20,
    F20,
    He.mkr_ok (c.fact 44 (f := .mkr "Mixing") rfl),
    f21,
    F21,
    He.meth_ok (c.fact 47 (f := .meth "Mixing" "mixed") rfl),
    f22,
    F22,
    He.meth_ok (c.fact 48 (f := .meth "Mixing" "unmixed") rfl),
    f23,
    F23,
    He.meth_ok (c.fact 49 (f := .meth "Mixing" "__eq__") rfl),
    f24,
    F24,
    He.meth_ok (c.fact 50 (f := .meth "Mixing" "__repr__") rfl),
    f25,
    F25,
    He.meth_ok (c.fact 51 (f := .meth "Mixing" "__str__") rfl),
    He.cls_ok (c.fact 42 (f := .cls "Mixing") rfl),
    He.glo_ok X G (c.fact 43 (f := .glo "Mixing") rfl),
    He.noat_ok (c.fact 45 (f := .noat "Mixing" "width") rfl),
    He.noat_ok (c.fact 46 (f := .noat "Mixing" "factor") rfl),
    He.glo_ok X G (c.fact 52 (f := .glo "WORDS") rfl),
    t0⟩, trivial⟩


end
end Sl
open PySem PySem.W PySem.Calls PyProof.Rows
set_option maxRecDepth 100000 in
set_option maxHeartbeats 0 in
theorem PySem.Challenge.cw_startlog_k10_rows_unmixed_holds : PySem.Challenge.rw_startlog_k10_rows_unmixed.Holds := by
  w_on; o_law
  refine HandSHeadRun.head_any (r := OpenLaw.row PySem.Challenge.rw_startlog_k10_rows_unmixed) (q := view (OpenLaw.row PySem.Challenge.rw_startlog_k10_rows_unmixed).prog [36]) (H := Sl.hk) (ob := Sl.hob) (M := 8000) (loose := Sl.hloose) (d := HandSHeadRun.topDef (OpenLaw.row PySem.Challenge.rw_startlog_k10_rows_unmixed).prog 36) (kwd := []) Sl.hob_eq
    (by kernel_rfl) (fun s => by kernel_rfl) Sl.hrun (by kernel_rfl) (by kernel_rfl) (by kernel_rfl) (by rfl) (by first | assumption | decide +kernel) (by decide +kernel) ⟨rfl, rfl, rfl, rfl, rfl, by decide +kernel⟩ ?hw ?hc
  case hw => w_witness2
  case hc =>
    refine L2.walk_ofE (l := PySem.Challenge.rw_startlog_k10_rows_unmixed) (n := 63) (k := 7) (x := "_law_script") (CX := L2.CX0) rfl (by decide) (by kernel_rfl) ⟨rfl, by decide, by decide⟩ ?F (fun _ _ _ _ z => z)
    intro w mg fa h Y G hmg0
    obtain ⟨K, KX, c, cx⟩ := Y
    have hmg : mg ("law" : PySem.Str) = some (.ref fa) := by
      have e : (HandSHeadRun.topDef (OpenLaw.row PySem.Challenge.rw_startlog_k10_rows_unmixed).prog 36).name = ("law" : PySem.Str) := by kernel_rfl
      rw [← e]
      exact hmg0
    obtain ⟨T, _⟩ := Sl.tx_of KX G c cx
    have e := hmg.symm.trans T.gLaw
    cases e
    exact ⟨K, T.fdLaw, Sl.spLaw K, KX, fun s v => L2.FunD.bindsA (ps := ["_law_script"]) T.FLaw (fun _ _ _ _ _ _ us hl => match us, hl with | [_], _ => rfl) s [v] rfl, fun H a ns hl _ hS => ⟨a, ns, rfl, hS, hl, fun _ => rfl⟩, fun base _ _ => Sl.okLaw T⟩
