import PyProof.Rows.All
import Wide.All
import OpenK.AllK
import Wide.FinOn
import PyProof.EqAt
import PyProof.EqKinds
import PyProof.TupleCall
import PyProof.ReprRoads
import HandS.ForMost
import HandS.ForExc
import HandS.ExcInit
import HandS.ExcField
import HandS.IsInst
import HandS.Codes
import HandS.Conv
import HandS.Flow
import HandS.SortRule
import HandS.TupMul
import HandS.TupAny
import HandS.Walk
import PyProof.ReprLen
import HandS.TryMany
import HandS.ExcIs
import HandS.HotCalls
import KE.GoesEnum
import HandS.Iter
import HandS.Comp
import HandS.DictComp
import KE.SortData
import HandS.Strs
import HandS.SortKw
import KE.DataMinMax
import HandS.Style
import HandS.Deep
import HandS.Zip
import HandS.Dict
import PyProof.DictUpdate
import PySem.Challenge.RW_interline_k50_whole_days_as_flown
import HandS.Words
set_option Elab.async false
set_option linter.all false
set_option maxRecDepth 100000
set_option maxHeartbeats 4000000
namespace Ln
open PySem PySem.Spec PyProof.Rows L2
/-! ## contracts that know that no display is under way -/
structure FnG (P : Program) (w : World) (K : PySem.W.Frag) (mg : Str → Option Value) (base : Heap) (CX : CXT) (k : Nat) (f : Addr) (fd : FuncData) (ps : List Str) (sp : Sp) : Prop where
  len : ∀ vs H Q E, sp vs H Q E → vs.length = ps.length
  run : ∀ (A : Around) (outer : List Env) (s : Shared) (H : Hp) (args : Args) (us : List Value) (vs : List V) (Q : VK) (E : XK), A.guards = some [] → Room k A → Env0 P w K mg base A outer s H →
    BindsTo s fd args (ps.zip us) → Vals vs us → sp vs H Q E → codeAny (model P w) A (.call (.ref f) args) (CR CX outer P w H s Q E) s
section
variable {P : Program} {w : World} {K : PySem.W.Frag} {mg : Str → Option Value} {base : Heap} {CX : CXT}
theorem FnG.mono {j k : Nat} {f : Addr} {fd : FuncData} {ps : List Str} {sp : Sp} (F : FnG P w K mg base CX j f fd ps sp) (h : j ≤ k) : FnG P w K mg base CX k f fd ps sp :=
  ⟨F.len, fun A o s H args us vs Q E hG hr => F.run A o s H args us vs Q E hG (hr.mono h)⟩
/-- the body of a def, walked where nothing is being shown -/
theorem fnG_of {k : Nat} {f : Addr} {name qual : Str} {params : Arguments} {body : List Stmt} {scope : Scope} {dV kV doc pm cdv ct oc : Value} {an od : Option Addr} {osl : Array (Option Value)} {N ps : List Str} {sp : Sp}
    (lk : K.lookup f = some ⟨oc, od, .func (PySem.W.fnOf name qual params body scope dV kV doc pm an cdv ct), osl⟩) (hcd : PySem.W.codeIn K cdv qual = true) (S : FnScope N ps scope) (len : ∀ vs H Q E, sp vs H Q E → vs.length = ps.length)
    (hbody : ∀ (A : Around) (outer : List Env) (s : Shared) (H : Hp) (vs : List V) (Q : VK) (E : XK), A.guards = some [] → Room k (A.deeper (envOfC qual scope s.heap.objs.size f cdv)) → sp vs H Q E →
      ∃ t, PSs (cxOf CX P w K mg base N qual scope f cdv A outer s H E) body t ∧ t { nx := fun _ H' => Q .non H', rt := Q } (start N vs) H) :
    FnG P w K mg base CX (k + 1) f (PySem.W.fnOf name qual params body scope dV kV doc pm an cdv ct) ps sp := by
  constructor
  · exact len
  intro A outer s H args us vs Q E hG hr e0 hb r hsp
  have hl := len _ _ _ _ hsp
  have KX : K.In s.heap := e0.mod.kin.keeps fun b o e => (e0.bs b o e).1
  have lim : s.heap.NoLimit := e0.mod.nolimit.keeps fun b o e => (e0.bs b o e).1
  have hkind : ∀ y ∈ ps.zip us, scope.names.lookup y.1 = some .local ∨ (scope.names.lookup y.1 = some .cell ∧ ((cellsFrom (s.heap.objs.size + 1) scope.names []).lookup y.1).isSome = true) := by
    rintro ⟨n, v⟩ hy
    cases S.par n (List.of_mem_zip hy).1 with
    | inl q => exact .inl q
    | inr q => exact .inr ⟨q, PySem.W.cellsFrom_some _ _ _ (.inl q)⟩
  apply codeAny_call_function hr.depth (KX _ _ lk) rfl S.co S.gen rfl (PySem.W.codeRec_of KX hcd) (hb _ _ _ _ ?_)
  apply wpAny_newFunctionEnv_cells S.kind hkind
  intro env he s1 x
  subst he
  constructor
  · exact lim.keeps x.toInCall.keep
  apply codeAny_func
  obtain ⟨t, ht, hq⟩ := hbody A outer s H vs Q E hG (hr.deeper _) hsp
  have I : Inv (cxOf CX P w K mg base N qual scope f cdv A outer s H E) [] (start N vs) H s1 := inv_start S hr.hd e0 hl r x
  apply wpAny_mono (ht.run [] s1 (start N vs) H _ I hq) _ (fun e s' hs => hs)
  intro fl s' hs
  cases fl with
  | ret u =>
    obtain ⟨v, σ', H', J, rv, q⟩ := hs
    exact ⟨v, H', J.os, J.bare, J.base, J.hok, rv, q⟩
  | next =>
    obtain ⟨σ', H', J, q⟩ := hs
    exact ⟨V.non, H', J.os, J.bare, J.base, J.hok, rfl, q⟩
  | brk =>
    obtain ⟨_, _, _, q⟩ := hs
    cases q
  | cont =>
    obtain ⟨_, _, _, q⟩ := hs
    cases q
/-- a def of the text that lets nothing out -/
theorem okG {x qual : Str} {st : Stmt} {f : Addr} {fd : FuncData} {N ps : List Str} {k : Nat} {sp : Sp} (F : Fun K x qual st f fd) (S : FnScope N ps (defScope st)) (len : ∀ vs H Q E, sp vs H Q E → vs.length = ps.length)
    (hbody : ∀ (cdv : Value) (A : Around) (outer : List Env) (s : Shared) (H : Hp) (vs : List V) (Q : VK) (E : XK), A.guards = some [] → Room k (A.deeper (envOfC qual (defScope st) s.heap.objs.size f cdv)) → sp vs H Q E →
      ∃ t, PSs (cxOf CX0 P w K mg base N qual (defScope st) f cdv A outer s H E).nox (defBody st) t ∧ t { nx := fun _ H' => Q .non H', rt := Q } (start N vs) H) : FnG P w K mg base CX0 (k + 1) f fd ps sp := by
  obtain ⟨oc, od, kV, doc, pm, an, cdv, ct, osl, rfl, lk, hcd⟩ := F.ex
  apply fnG_of lk hcd S len
  intro A outer s H vs Q E hG hr hsp
  obtain ⟨t, h, q⟩ := hbody cdv A outer s H vs Q E hG hr hsp
  exact ⟨t, h.nox, q⟩
/-- one that may raise -/
theorem okX {x qual : Str} {st : Stmt} {f : Addr} {fd : FuncData} {N ps : List Str} {k : Nat} {sp : Sp} (F : Fun K x qual st f fd) (S : FnScope N ps (defScope st)) (len : ∀ vs H Q E, sp vs H Q E → vs.length = ps.length)
    (hbody : ∀ (cdv : Value) (A : Around) (outer : List Env) (s : Shared) (H : Hp) (vs : List V) (Q : VK) (E : XK), A.guards = some [] → Room k (A.deeper (envOfC qual (defScope st) s.heap.objs.size f cdv)) → sp vs H Q E →
      ∃ t, PSs (cxOf (L2.CX P w) P w K mg base N qual (defScope st) f cdv A outer s H E) (defBody st) t ∧ t { nx := fun _ H' => Q .non H', rt := Q } (start N vs) H) : FnG P w K mg base (L2.CX P w) (k + 1) f fd ps sp := by
  obtain ⟨oc, od, kV, doc, pm, an, cdv, ct, osl, rfl, lk, hcd⟩ := F.ex
  exact fnG_of lk hcd S len fun A outer s H vs Q E hG hr hsp => hbody cdv A outer s H vs Q E hG hr hsp
/-- a def that may be called by its name -/
structure Cg (P : Program) (w : World) (K : PySem.W.Frag) (mg : Str → Option Value) (base : Heap) (CX : CXT) (k : Nat) (x : Str) (sp : Sp) : Prop where
  ex : ∃ (f : Addr) (fd : FuncData) (ps : List Str), FnG P w K mg base CX k f fd ps sp ∧ mg x = some (.ref f) ∧ PySem.W.keepIn K (.ref f) = true ∧ Binds K fd ps []
end
section
variable {X : Cx} {CX : CXT} {j k : Nat} {f : Addr} {fd : FuncData} {ps : List Str} {sp : Sp} {E : XK} {ES : L2.St → XK} {x : Str} {p pos : Pos} {e : Expr} {es : List Expr} {t : TA}
theorem runG {pins : List (Addr × Obj)} {σ : L2.St} {H : Hp} {s : Shared} {Q : VK} {us : List Value} {vs : List V} (F : FnG X.prog X.w X.K X.mg X.base CX k f fd ps sp) (hr : Room k X.A) (hG : X.A.guards = some []) (hb : Binds X.K fd ps [])
    (hx : PassesAt CX X σ E) (I : Inv X pins σ H s) (r : Vals vs us) (h : sp vs H Q E) : wpAny (model X.prog X.w) X.A (call (.ref f) us) (EP X pins σ Q) X.xe s := by
  have hl : us.length = ps.length := by rw [← r.length]; exact F.len _ _ _ _ h
  apply wpAny_call (codeAny_mono (F.run X.A X.stack s H ⟨us, []⟩ us vs Q E hG hr I.env0 (by have q := hb s us I.kIn (by simpa using hl); simpa using q) r h) _)
  intro r s' hq
  cases r with
  | error e => exact hx pins H s e s' I hq
  | ok fl =>
    cases fl with
    | ret u => exact I.after hq
    | next => exact hq.elim
    | brk => exact hq.elim
    | cont => exact hq.elim
/-- the reading of a call -/
def tCg (sp : Sp) (E : L2.St → XK) (t : TA) : TE := fun σ H Q => t σ H fun vs H1 => sp vs H1 Q (E σ)
theorem pe_cgS (c : Cg X.prog X.w X.K X.mg X.base CX k x sp) (hr : Room j X.A) (hk : k ≤ j) (hG : X.A.guards = some []) (hx : ∀ σ, PassesAt CX X σ (ES σ)) (hg : Gl X x) (ha : PA X (e :: es) t)
    (hdb : (x == ("__debug__" : Str)) = false := by decide) (he : starEach (e :: es) X.env = (false, eval e X.env) :: starEach es X.env := by rfl) (hpl : (backTo pos (starEach es X.env)).any (·.1) = false := by rfl) :
    PE X (.Call (.Name x p) (e :: es) [] pos) (tCg sp ES t) := by
  constructor
  intro pins s σ H Q I h
  obtain ⟨f, fd, ps, F, hm, kp, b⟩ := c.ex
  apply wpAny_Call_Name_kw (ld_glob I hg hm ?_ hdb)
  apply PySem.W.callWith_K (h₀ := X.base) I.ok.mod.kin kp (thn (ha.run pos pins s σ H _ I h) _) he hpl
  rintro us s1 ⟨vs, H1, I1, r, q⟩
  exact ⟨I1.kIn, runG F (hr.mono hk) hG b (hx σ) I1 r q⟩
theorem pe_cgS0 (c : Cg X.prog X.w X.K X.mg X.base CX k x sp) (hr : Room j X.A) (hk : k ≤ j) (hG : X.A.guards = some []) (hx : ∀ σ, PassesAt CX X σ (ES σ)) (hg : Gl X x)
    (hdb : (x == ("__debug__" : Str)) = false := by decide) : PE X (.Call (.Name x p) [] [] pos) (tCg sp ES tNil) := by
  constructor
  intro pins s σ H Q I h
  obtain ⟨f, fd, ps, F, hm, kp, b⟩ := c.ex
  apply wpAny_Call_Name_kw (ld_glob I hg hm ?_ hdb)
  exact PySem.W.callWith_K0 I.kIn kp (runG (us := []) F (hr.mono hk) hG b (hx σ) I .nil h)
theorem passE (tk : Takes X (fun cls d _ H => E cls d H)) {σ : L2.St} : PassesAt (L2.CX X.prog X.w) X σ E := fun _ _ _ e s' I c => tk e s' (XE.of_call I (fun _ _ _ h => h) c)
theorem passAt0 (σ : L2.St) : PassesAt CX0 X σ E0 := fun _ _ _ _ _ _ h => h.elim
/-- a call of a def that lets nothing out -/
theorem pe_cg (c : Cg X.prog X.w X.K X.mg X.base CX0 k x sp) (hr : Room j X.A) (hk : k ≤ j) (hG : X.A.guards = some []) (hg : Gl X x) (ha : PA X (e :: es) t)
    (hdb : (x == ("__debug__" : Str)) = false := by decide) (he : starEach (e :: es) X.env = (false, eval e X.env) :: starEach es X.env := by rfl) (hpl : (backTo pos (starEach es X.env)).any (·.1) = false := by rfl) :
    PE X (.Call (.Name x p) (e :: es) [] pos) (tCg sp (fun _ => E0) t) := pe_cgS c hr hk hG passAt0 hg ha hdb he hpl
end
/-! ## repr of data -/
def Shw (d : PyData) : Prop := d.showable = true ∧ d.depth ≤ 60 ∧ d.shown.length ≤ sizeLine
theorem Dp.nodict {K : PySem.W.Frag} {H : Hp} : ∀ (d : PyData) (v : V), Dp K H v d → d.hasDict = false ∧ True
  | .none, _, _ => ⟨by simp only [PyData.hasDict], trivial⟩
  | .bool _, _, _ => ⟨by simp only [PyData.hasDict], trivial⟩
  | .int _, _, _ => ⟨by simp only [PyData.hasDict], trivial⟩
  | .str _, _, _ => ⟨by simp only [PyData.hasDict], trivial⟩
  | .list ds, _, h => by
    cases h with
    | lst _ ha =>
      have q := nodictAll ds _ ha
      exact ⟨by simp only [PyData.hasDict]; exact q, trivial⟩
  | .tuple ds, _, h => by
    cases h with
    | tup _ ha =>
      have q := nodictAll ds _ ha
      exact ⟨by simp only [PyData.hasDict]; exact q, trivial⟩
  | .dict _, _, h => by cases h
where
  nodictAll : ∀ (ds : List PyData) (vs : List V), DpAll K H vs ds → PyData.hasDictAll ds = false
    | [], _, _ => by simp only [PyData.hasDictAll]
    | d :: ds, _, h => by
      cases h with
      | cons h1 h2 =>
        simp only [PyData.hasDictAll, Bool.or_eq_false_iff]
        exact ⟨(Dp.nodict d _ h1).1, nodictAll ds _ h2⟩
section
variable {X : Cx}
theorem call_reprD (hG : X.A.guards = some []) (hu : X.A.units + 64 < cLine) : CallR X (.builtin "repr") (fun xs H Q => ∃ x d, xs = [x] ∧ Dp X.K H x d ∧ Shw d ∧ Q (.str d.shown) H) := by
  intro pins s σ H xs us Q I r h
  obtain ⟨x, d, rfl, hd, ⟨h1, h2, h3⟩, q⟩ := h
  obtain ⟨u, rfl, ru⟩ := vals1 r
  have nd := (Dp.nodict d x hd).1
  have ref : ∀ a, x = .ref a → wpAny (model X.prog X.w) X.A (call (.builtin "repr") [u]) (EP X pins σ Q) X.xe s := by
    rintro a rfl
    obtain rfl : u = Value.ref a := ru
    obtain ⟨as, hr⟩ := Dp.reads I d _ _ hd rfl
    apply repr_of_reads' hr h1 (PyData.noDict_hsm nd) hG (by omega) (fun _ _ e => e) _ h3
    intro h' u tk hk
    exact ⟨.str d.shown, H, I.kept (t' := tk) hk, ⟨u, rfl⟩, q⟩
  cases hd with
  | non => cases ru; exact PySem.P.repr_of_none ⟨.str _, H, I.tok _, ⟨_, rfl⟩, by simpa only [PyData.shown] using q⟩
  | bl b => cases ru; exact PySem.P.repr_of_bool ⟨.str _, H, I.tok _, ⟨_, rfl⟩, by simpa only [PyData.shown] using q⟩
  | int i =>
    obtain ⟨t, rfl⟩ := ru
    exact PySem.P.repr_of_int (by simpa [PyData.showable] using h1) ⟨.str _, H, I.tok _, ⟨_, rfl⟩, by simpa only [PyData.shown] using q⟩
  | str z =>
    obtain ⟨t, rfl⟩ := ru
    exact PySem.P.repr_of_str ⟨.str _, H, I.tok _, ⟨_, rfl⟩, by simpa only [PyData.shown] using q⟩ (by simpa only [PyData.shown] using h3)
  | lst _ _ => exact ref _ rfl
  | tup _ _ => exact ref _ rfl
/-- xs[i] with i from 0 on, read for a store that changes it -/
def rGetL (K : PySem.W.Frag) : V → V → Hp → VK → Prop := fun o i H Q => ∃ (p : Addr) (xs : List V) (k : Nat) (v : V), o = .ref p ∧ i = .int k ∧ SqL K H p xs ∧ xs[k]? = some v ∧ Q v H
theorem get_list : PGet X (rGetL X.K) := by
  intro pins s σ H o i ov iv Q I ro ri h
  obtain ⟨p, xs, k, v, rfl, rfl, hq, hk, q⟩ := h
  cases ro
  obtain ⟨t, rfl⟩ := ri
  obtain ⟨its, r, pl, hz⟩ := I.list hq
  obtain ⟨u, hu, ru⟩ := r.get hk
  have hn := line63
  have hl := r.length
  have hlt : k < xs.length := (List.getElem?_eq_some_iff.mp hk).1
  exact PySem.wpAny_getItem_list pl.isList (by omega) (by omega) (by simpa using hu) ⟨v, H, I, ru, q⟩
end
/-! ## the law's end, for a contract of this kind -/
theorem lawG {P : Program} {w : World} {K : PySem.W.Frag} {mg mb : Str → Option Value} {CX : CXT} {k : Nat} {fa a : Addr} {fd : FuncData} {x : Str} {sp : Sp} {s₁ : Shared} {vs : List Value} {ns : List Int}
    (KX : K.In s₁.heap) (hns : s₁.heap.Ns mainGlobals mg) (hb : s₁.heap.Ns builtinsNs mb) (hbb : ∀ x : Str, x ≠ "__name__" → mb x = bootBuiltins x) (hlim : s₁.heap.NoLimit) (hg : s₁.gens = #[])
    (ha : s₁.heap.get? a = some { cls := .type "list", data := .seq vs.toArray }) (hi : IntsAre vs ns) (hl : ns.length ≤ sizeLine) (hr : Room k callerA)
    (F : ∀ base : Heap, K.In base → base.Ns mainGlobals mg → FnG P w K mg base CX k fa fd [x] sp) (hbind : ∀ (s : Shared) (u : Value), BindsTo s fd ⟨[u], []⟩ [(x, u)])
    (hsp : ∀ H : Hp, Only H → SqL K H a (ns.map V.int) → sp [.ref a] H (fun v _ => v = .bl true) fun _ _ _ => False) (hCX : ∀ H e s', CX [] H s₁ (fun _ _ _ => False) e s' → False) :
    codeAny (model P w) callerA (.call (.ref fa) ⟨[.ref a], []⟩) (fun r s' => r = .ok (.ret (.bool true)) ∧ OldK s₁.heap s'.heap ∧ s'.os = s₁.os ∧ AllBare s'.gens) s₁ := by
  have rv := vals_ints hi
  have lenV := hi.length
  have core : ∀ H : Hp, Only H → SqL K H a (ns.map V.int) → HOk P w H s₁.heap → (∀ b, H b ≠ none → b = a) → (H a ≠ none → K.lookup a = none) →
      codeAny (model P w) callerA (.call (.ref fa) ⟨[.ref a], []⟩) (fun r s' => r = .ok (.ret (.bool true)) ∧ OldK s₁.heap s'.heap ∧ s'.os = s₁.os ∧ AllBare s'.gens) s₁ := by
    intro H hO hS hok hA hK
    have noA : ∀ {b : Addr} {o : Obj} {es : Array DictEntry} {ep : Nat}, s₁.heap.get? b = some o → o.data = .dict es ep → H b = none := by
      intro b o es ep e d
      by_cases q : H b = none
      · exact q
      · have e' := hA b q
        subst e'
        rw [ha] at e
        cases e
        cases (show Data.seq vs.toArray _ = Data.dict es ep from d)
    have nsK : ∀ {b : Addr} {m : Str → Option Value}, s₁.heap.Ns b m → (hidT s₁.heap H).Ns b m := by
      rintro b m ⟨o, es, ep, e, d, r⟩
      exact ⟨o, es, ep, hidT_get e (noA e d), d, r⟩
    have hKb : K.In (hidT s₁.heap H) := by
      intro b o e
      apply hidT_get (KX b o e)
      by_cases q : H b = none
      · exact q
      · have e' := hA b q
        subst e'
        rw [hK q] at e
        cases e
    have hM : Mod K mg (hidT s₁.heap H) := ⟨hKb, nsK hns, ⟨mb, nsK hb, hbb⟩, by obtain ⟨mc, h1, h2⟩ := hlim; exact ⟨mc, nsK h1, h2⟩⟩
    have e0 : Env0 P w K mg (hidT s₁.heap H) callerA [] s₁ H := ⟨rfl, hM, fun b o e => of_hidT e, Nat.le_of_eq (hidT_size _ _), trivial, fun b hb => absurd (show b ∈ ([] : List Addr) from hb) (by simp), hok, .of_eq hg⟩
    apply codeAny_mono ((F _ hKb (nsK hns)).run callerA [] s₁ H ⟨[.ref a], []⟩ [.ref a] [.ref a] _ _ rfl hr e0 (hbind s₁ (.ref a)) (.cons rfl .nil) (hsp H hO hS))
    intro r s' h
    cases r with
    | error e => exact (hCX H e s' h).elim
    | ok fl =>
      cases fl with
      | ret u =>
        obtain ⟨v, H', os, bare, un, hok', r', q⟩ := h
        obtain rfl : v = .bl true := q
        obtain rfl : u = Value.bool true := r'
        refine ⟨rfl, OldK.of_keep ?_, os, bare⟩
        intro b o e
        by_cases q : H b = none
        · exact un.keep b o e q (by intro z; exact absurd (show b ∈ ([] : List Addr) from z) (by simp)) (by simp)
        · rcases hO b with z | ⟨ob, xs, z⟩
          · exact absurd z q
          · obtain ⟨e1, _⟩ := hok b _ z
            obtain ⟨e2, _⟩ := hok' b _ (un.frzs b ob _ z)
            rw [e] at e1
            cases e1
            exact e2
      | next => exact h.elim
      | brk => exact h.elim
      | cont => exact h.elim
  cases hk : K.lookup a with
  | some o =>
    have e := KX a o hk
    rw [ha] at e
    cases e
    have hS : SqL K (fun _ => none) a (ns.map V.int) := .inr ⟨_, vs.toArray, _, hk, rfl, rfl, rfl, by rw [List.size_toArray, lenV]; exact hl, by simpa using rv⟩
    exact core (fun _ => none) (fun _ => .inl rfl) hS (fun b u z => nomatch (show (none : Option HO) = some u from z)) (fun b z => absurd rfl z) fun z => absurd rfl z
  | none =>
    have no : ∀ b, b ≠ a → (if b = a then some (HO.frz { cls := .type "list", data := .seq vs.toArray } (.lst (ns.map V.int))) else none) = none := fun b hb => if_neg hb
    apply core (fun b => if b = a then some (.frz { cls := .type "list", data := .seq vs.toArray } (.lst (ns.map V.int))) else none)
    · intro b
      by_cases hb : b = a
      · exact .inr ⟨_, _, if_pos hb⟩
      · exact .inl (if_neg hb)
    · exact .inl (.inr ⟨{ cls := .type "list", data := .seq vs.toArray }, if_pos rfl⟩)
    · intro b u z
      by_cases hb : b = a
      · subst hb
        have z' := (if_pos rfl).symm.trans z
        cases z'
        exact ⟨ha, by rw [List.length_map]; exact hl, vs, _, rv, ha⟩
      · exact nomatch (no b hb).symm.trans z
    · intro b z
      by_cases hb : b = a
      · exact hb
      · exact absurd (no b hb) z
    · exact fun _ => hk
theorem walkG {l : PySem.W.OpenLaw} {n k : Nat} {q : Program} {loose : List Str} {XP : (Str → Option Value) → Heap → Prop} {YP : World → Heap → Prop} {d : DefRec} {K : Params → PySem.W.Frag} {CX : World → CXT} {sp : World → Sp} {x : Str}
    (hn : l.most = some n) (hn2 : n ≤ sizeLine) (hdf : d.params.defaults = []) (hr : Room k callerA) (hY : ∀ (w : World) (h : Heap), YP w h → (K w.params).In h)
    (F : ∀ (w : World) (mg : Str → Option Value) (fa : Addr) (h : Heap), (K w.params).In h → h.Ns mainGlobals mg → mg d.name = some (.ref fa) →
      ∃ fd : FuncData, (∀ (s : Shared) (u : Value), BindsTo s fd ⟨[u], []⟩ [(x, u)]) ∧ ∀ base : Heap, (K w.params).In base → base.Ns mainGlobals mg → FnG l.prog w (K w.params) mg base (CX w) k fa fd [x] (sp w))
    (hsp : ∀ (w : World) (H : Hp) (a : Addr) (ns : List Int), ns.length ≤ n → Only H → SqL (K w.params) H a (ns.map V.int) → sp w [.ref a] H (fun v _ => v = .bl true) fun _ _ _ => False)
    (hCX : ∀ (w : World) (H : Hp) (s : Shared) (e : Value) (s' : Shared), CX w [] H s (fun _ _ _ => False) e s' → False) :
    PySem.W.WalkO q loose XP YP l.row.toRowW d [] (fun f vs => PySem.call f vs) := by
  apply Att.attach_call hn hdf
  intro w s₀ s₁ mg mb fa o pm cd doc a vs ns G Y ho hd hcd hmg hobj hints hlen hg
  have KX := hY w _ Y
  obtain ⟨fd, hb, hF⟩ := F w mg fa _ KX G.T.g hmg
  exact lawG KX G.T.g G.T.b G.T.builtins G.T.nolimit hg hobj hints (Nat.le_trans hlen hn2) hr hF hb (fun H hO hS => hsp w H a ns hlen hO hS) fun H e s' => hCX w H s₁ e s'
end Ln
set_option Elab.async false
set_option linter.all false
set_option maxRecDepth 100000
set_option maxHeartbeats 4000000
namespace Ln
open PySem PySem.Spec PyProof.Rows L2
section
variable {prog : Program} {w : World} {A : Around} {E : Value → Shared → Prop} {s : Shared} {l : Addr} {xs : Array (Int × Tok)} {its : List Value} {ns : List Int}
theorem sum_tupG {Q : Value → Shared → Prop} (hh : A.handled = none) (hl : s.heap.IsTuple l (intItems xs))
    (h : ∀ h' tk t', (∀ b o, s.heap.get? b = some o → h'.get? b = some o) → Q (.int (preSum (numAt xs) xs.size) t') { s with heap := h', toks := tk }) :
    wpAny (model prog w) A (call (.builtin "sum") [.ref l]) Q E s := by
  have hlt : l < s.heap.objs.size := by obtain ⟨_, e, _⟩ := hl; exact Heap.lt_size e
  apply call_sum_walkG
  apply wpAny_pyIter_tuple hl
  refine ⟨_, _, _, _, _, _, numAt xs, rfl, Walks.tuple (A := A.in1) hh s.heap.objs.size l (Nat.ne_of_lt hlt) (intItems xs), ⟨⟨_, Heap.get?_push_size _ rfl, rfl, rfl⟩, hl.push _⟩, ?_, (fun _ _ => intItems_at), ?_⟩
  · intro b hb
    show b < (s.heap.push _).objs.size
    rw [Heap.size_push]
    have hb' : b = s.heap.objs.size ∨ b = l := by simpa using hb
    rcases hb' with e | e
    · rw [e]; exact Nat.lt_succ_self _
    · rw [e]; exact Nat.lt_succ_of_lt hlt
  · intro h' tk t' hk
    have old : ∀ b o, s.heap.get? b = some o → h'.get? b = some o := by
      intro b o e
      refine hk b o ?_ (Heap.get?_push_of_some _ e)
      intro hm
      have hb := Heap.lt_size e
      have e1 : b = s.heap.objs.size := by simpa using hm
      rw [e1] at hb
      exact absurd hb (Nat.lt_irrefl _)
    have := h h' tk t' old
    simpa [intItems] using this
theorem sum_rawT (hh : A.handled = none) (hl : s.heap.IsTuple l its.toArray) (hi : IntsAre its ns) {Q : Value → Shared → Prop}
    (h : ∀ h' tk t', (∀ b o, s.heap.get? b = some o → h'.get? b = some o) → Q (.int ns.sum t') { s with heap := h', toks := tk }) : wpAny (model prog w) A (call (.builtin "sum") [.ref l]) Q E s := by
  obtain ⟨xs, e⟩ := hi.allInts.items
  have hn : numsOf (intItems xs).toList = ns := by rw [← e]; exact hi.numsOf
  rw [nums_intItems] at hn
  rw [e] at hl
  apply sum_tupG hh hl
  intro h' tk t' hk
  have := h h' tk t' hk
  rw [preSum_eq, List.take_of_length_le (by simp), hn]
  exact this
end
section
variable {X : Cx}
/-- sum(t) of a tuple of ints -/
def rSumT (K : PySem.W.Frag) : List V → Hp → VK → Prop := fun vs H Q => ∃ (a : Addr) (ns : List Int), vs = [V.ref a] ∧ SqT K H a (ns.map V.int) ∧ Q (.int ns.sum) H
theorem cr_sumT (hc : X.calm = true) : CallR X (.builtin "sum") (rSumT X.K) := by
  intro pins s σ H vs us Q I r h
  obtain ⟨a, ns, rfl, hs, q⟩ := h
  obtain ⟨its, rv, hl, _⟩ := I.tuple hs
  obtain ⟨u, rfl, ru⟩ := vals1 r
  obtain rfl : u = Value.ref a := ru
  exact sum_rawT (I.ok.hd hc) hl rv.ints fun h' tk t' hk => ⟨.int _, H, I.kept hk, ⟨_, rfl⟩, q⟩
end
end Ln
set_option Elab.async false
set_option linter.all false
set_option maxRecDepth 100000
set_option maxHeartbeats 4000000
namespace Ln
open PySem PySem.Spec PyProof.Rows L2
/-! ## plain values and what isinstance says of them -/
section
variable {K : PySem.W.Frag} {H H' : Hp} {x : V}
inductive Plain (K : PySem.W.Frag) (H : Hp) : V → Prop where
  | non : Plain K H .non
  | bl (b : Bool) : Plain K H (.bl b)
  | int (i : Int) : Plain K H (.int i)
  | str (s : Str) : Plain K H (.str s)
  | tup {a : Addr} {xs : List V} (h : SqT K H a xs) : Plain K H (.ref a)
def isI : V → Bool | .int _ => true | _ => false
def isB : V → Bool | .bl _ => true | _ => false
def isS : V → Bool | .str _ => true | _ => false
def isR : V → Bool | .ref _ => true | _ => false
theorem tyx_tup {a : Addr} {xs : List V} (h : SqT K H a xs) : TyX K H (.ref a) (.type "tuple") := by
  rcases h with h | h
  · rcases h with h | ⟨o, h⟩
    · exact .base (.tup h)
    · exact .fTuple h
  · obtain ⟨o, _, _, hk, hc, _⟩ := h
    exact .kTuple hk hc
theorem Plain.kit (h : Plain K H x) : ∃ t, TyX K H x t ∧ PySem.W.kitOne K t (.type "int") = some (isI x || isB x) ∧ PySem.W.kitOne K t (.type "bool") = some (isB x) ∧
    PySem.W.kitOne K t (.type "str") = some (isS x) ∧ PySem.W.kitOne K t (.type "tuple") = some (isR x) := by
  cases h with
  | non => exact ⟨_, .base .non, kit_ty (r := false) (by decide +kernel), kit_ty (r := false) (by decide +kernel), kit_ty (r := false) (by decide +kernel), kit_ty (r := false) (by decide +kernel)⟩
  | bl b => exact ⟨_, .base (.bl b), kit_ty (r := true) (by decide +kernel), kit_ty (r := true) (by decide +kernel), kit_ty (r := false) (by decide +kernel), kit_ty (r := false) (by decide +kernel)⟩
  | int i => exact ⟨_, .base (.int i), kit_ty (r := true) (by decide +kernel), kit_ty (r := false) (by decide +kernel), kit_ty (r := false) (by decide +kernel), kit_ty (r := false) (by decide +kernel)⟩
  | str s => exact ⟨_, .base (.str s), kit_ty (r := false) (by decide +kernel), kit_ty (r := false) (by decide +kernel), kit_ty (r := true) (by decide +kernel), kit_ty (r := false) (by decide +kernel)⟩
  | tup hs => exact ⟨_, tyx_tup hs, kit_ty (r := false) (by decide +kernel), kit_ty (r := false) (by decide +kernel), kit_ty (r := false) (by decide +kernel), kit_ty (r := true) (by decide +kernel)⟩
theorem Same.tup {a : Addr} {xs : List V} (e : Same H H') (h : SqT K H a xs) : SqT K H' a xs := by
  rcases h with (h | ⟨o, h⟩) | h
  · exact .inl (.inl (e _ _ h))
  · exact .inl (.inr ⟨o, e _ _ h⟩)
  · exact .inr h
theorem Plain.same (e : Same H H') (h : Plain K H x) : Plain K H' x := by
  cases h with
  | non => exact .non
  | bl b => exact .bl b
  | int i => exact .int i
  | str s => exact .str s
  | tup h => exact .tup (Same.tup e h)
end
theorem same_upd {H : Hp} {p : Addr} {o : HO} (h : H p = none) : Same H (upd H p o) := by
  intro b x e
  rw [upd_ne (ne_of_none e h)]
  exact e
/-- all that stands but at one place stays -/
def But (at_ : Addr) (H H' : Hp) : Prop := ∀ b o, b ≠ at_ → H b = some o → H' b = some o
theorem But.refl (a : Addr) (H : Hp) : But a H H := fun _ _ _ h => h
theorem But.trans {a : Addr} {H H1 H2 : Hp} (h : But a H H1) (k : But a H1 H2) : But a H H2 := fun b o n e => k b o n (h b o n e)
theorem Same.but {a : Addr} {H H' : Hp} (h : Same H H') : But a H H' := fun b o _ e => h b o e
theorem But.upd (a : Addr) (H : Hp) (o : HO) : But a H (upd H a o) := fun b x n e => by rw [upd_ne n]; exact e
theorem But.new {a p : Addr} {H : Hp} {o : HO} (h : H p = none) : But a H (L2.upd H p o) := Same.but (same_upd h)
theorem But.tup {K : PySem.W.Frag} {a b : Addr} {H H' : Hp} {xs ys : List V} (h : But a H H') (ha : H a = some (.lst ys)) (t : SqT K H b xs) : SqT K H' b xs := by
  rcases t with (t | ⟨o, t⟩) | t
  · exact .inl (.inl (h b _ (fun z => by subst z; rw [ha] at t; cases t) t))
  · exact .inl (.inr ⟨o, h b _ (fun z => by subst z; rw [ha] at t; cases t) t⟩)
  · exact .inr t
theorem same_at {H H' : Hp} {p : Addr} {o : HO} (h : Same H H') (n : H p = none) : Same H (upd H' p o) := by
  intro b x e
  rw [upd_ne (ne_of_none e n)]
  exact h b x e
theorem small1 {n : Nat} (h : n ≤ 100000) : n < sizeLine := Nat.lt_of_le_of_lt h (by decide)
theorem small2 {n : Nat} (h : n ≤ 100000) : n ≤ sizeLine := Nat.le_of_lt (small1 h)
theorem getI {ms : List Int} {i : Nat} {x : V} (h : (ms.map V.int)[i]? = some x) : ∃ z, ms[i]? = some z ∧ x = .int z := by
  rw [List.getElem?_map] at h
  cases e : ms[i]? with
  | none => rw [e] at h; cases h
  | some z => rw [e] at h; exact ⟨z, rfl, (Option.some.inj h).symm⟩
theorem app1 (ds : List Int) (d : Int) : ds.map V.int ++ [V.int d] = (ds ++ [d]).map V.int := by rw [List.map_append]; rfl
theorem atInt {ds : List Int} {j : Nat} (h : j < ds.length) : atI (ds.map V.int) (j : Int) = some (.int ds[j]) := atI_nat (by rw [List.getElem?_map, List.getElem?_eq_getElem h]; rfl)
theorem modIx (x : Int) {n : Nat} (h : 0 < n) : ∃ j : Nat, j < n ∧ x % (n : Int) = (j : Int) := by
  have a := Int.emod_nonneg x (show (n : Int) ≠ 0 by omega)
  have b := Int.emod_lt_of_pos x (show (0 : Int) < n by omega)
  exact ⟨(x % (n : Int)).toNat, by omega, by omega⟩
/-! ## lists of pairs of ints -/
def Tp (H H' : Hp) : Prop := ∀ t xs, H t = some (.tup xs) → H' t = some (.tup xs)
theorem Same.tp {H H' : Hp} (h : Same H H') : Tp H H' := fun t xs e => h t _ e
theorem Tp.trans {H H1 H2 : Hp} (a : Tp H H1) (b : Tp H1 H2) : Tp H H2 := fun t xs e => b t xs (a t xs e)
theorem Tp.lst {H : Hp} {D : Addr} {xs ys : List V} (h : H D = some (.lst xs)) : Tp H (upd H D (.lst ys)) := fun t zs e => by
  rw [upd_ne (fun z => by subst z; rw [h] at e; cases e)]
  exact e
theorem Tp.new {H : Hp} {D : Addr} {o : HO} (h : H D = none) : Tp H (upd H D o) := Same.tp (same_upd h)
abbrev PairL (H : Hp) (xs : List V) (L : List (Int × Int)) : Prop := Paired (fun (x : V) (p : Int × Int) => ∃ t, x = V.ref t ∧ H t = some (.tup [.int p.1, .int p.2])) xs L
theorem PairL.mono {H H' : Hp} {xs : List V} {L : List (Int × Int)} (h : PairL H xs L) (k : Tp H H') : PairL H' xs L := Paired.mono (fun _ _ ⟨t, e, q⟩ => ⟨t, e, k t _ q⟩) h
theorem PairL.get {H : Hp} : ∀ {xs : List V} {L : List (Int × Int)} (h : PairL H xs L) {i : Nat} {x : V}, xs[i]? = some x → ∃ t p, L[i]? = some p ∧ x = V.ref t ∧ H t = some (.tup [.int p.1, .int p.2])
  | _, _, .nil, _, _, e => by simp at e
  | _, _, .cons ⟨t, r, q⟩ _, 0, x, e => by
    have e' := Option.some.inj e
    exact ⟨t, _, rfl, by rw [← e']; exact r, q⟩
  | _, _, .cons _ s, i + 1, x, e => PairL.get (i := i) s (by simpa using e)
theorem PairL.len {H : Hp} {xs : List V} {L : List (Int × Int)} (h : PairL H xs L) : xs.length = L.length := Paired.length h
/-- what stands in such a pair -/
def keyOf (H : Hp) : V → Int × Int
  | .ref t => match H t with
    | some (.tup [.int a, .int b]) => (a, b)
    | _ => (0, 0)
  | _ => (0, 0)
theorem PairL.keys {H : Hp} : ∀ {xs : List V} {L : List (Int × Int)}, PairL H xs L → xs.map (keyOf H) = L ∧ ∀ x ∈ xs, ∃ t, x = V.ref t ∧ H t = some (.tup [.int (keyOf H x).1, .int (keyOf H x).2])
  | _, _, .nil => ⟨rfl, by simp⟩
  | _, _, .cons (a := x) (b := p) ⟨t, r, q⟩ s => by
    obtain ⟨h1, h2⟩ := PairL.keys s
    have e : keyOf H x = p := by
      subst r
      show (match H t with | some (.tup [.int a, .int b]) => (a, b) | _ => (0, 0)) = p
      rw [q]
    refine ⟨by rw [List.map_cons, e, h1], fun y hy => ?_⟩
    rcases List.mem_cons.mp hy with z | hy
    · subst z
      exact ⟨t, r, by rw [e]; exact q⟩
    · exact h2 y hy
theorem takeS {α : Type} {l : List α} {i : Nat} {x : α} (h : l[i]? = some x) : l.take (i + 1) = l.take i ++ [x] := by rw [List.take_add_one, h]; rfl
section
variable {X : Cx}
/-- a module's constant -/
theorem pe_gl {x : Str} {pos : Pos} {v : V} (hg : Gl X x) (h : ∃ u, X.mg x = some u ∧ RelV v u) (hd : (x == ("__debug__" : Str)) = false := by decide) : PE X (.Name x pos) (tC v) := by
  obtain ⟨u, hu, r⟩ := h
  exact pe_glob hg hu r hd
end
section
variable {X : Cx}
def rLen (K : PySem.W.Frag) : List V → Hp → VK → Prop := fun xs H Q => ∃ x n, xs = [x] ∧ LenV K x H n ∧ Q (.int (n : Nat)) H
theorem c_len : CallR X (.builtin "len") (rLen X.K) := call_len
def rTupOf (K : PySem.W.Frag) : List V → Hp → VK → Prop := fun xs H Q => ∃ p ys, xs = [.ref p] ∧ ((SqL K H p ys ∧ ∀ l, H l = none → Q (.ref l) (upd H l (.tup ys))) ∨ (SqT K H p ys ∧ Q (.ref p) H))
theorem c_tuple : CallR X (.type "tuple") (rTupOf X.K) := call_tuple_of
def rListOf (K : PySem.W.Frag) : List V → Hp → VK → Prop := fun xs H Q => ∃ p ys, xs = [.ref p] ∧ (SqL K H p ys ∨ SqT K H p ys) ∧ ∀ l, H l = none → Q (.ref l) (upd H l (.lst ys))
theorem c_list : CallR X (.type "list") (rListOf X.K) := call_list_of
def rReprD (K : PySem.W.Frag) : List V → Hp → VK → Prop := fun xs H Q => ∃ x d, xs = [x] ∧ Dp K H x d ∧ Shw d ∧ Q (.str d.shown) H
theorem c_repr (hG : X.A.guards = some []) (hu : X.A.units + 64 < cLine) : CallR X (.builtin "repr") (rReprD X.K) := call_reprD hG hu
def tTruK (K : PySem.W.Frag) (ta : TE) : TT := fun σ H Q => ta σ H fun x H' => ∃ k, TruV K x H' k ∧ Q k H'
theorem pt_truthK {a : Expr} {ta : TE} (ha : PE X a ta) (he : ∀ whole, isTrue a X.env whole = (do let v ← whole; standAt a.pos; holding [v] (truthy v))) : PT X a (tTruK X.K ta) := pt_truth ha he
end
section
variable {X : Cx}
/-- t + u of tuples, told by what stands there behind it -/
def rCatS (K : PySem.W.Frag) : R2 := fun x y H Q => ∃ a b xs ys, x = .ref a ∧ y = .ref b ∧ SqT K H a xs ∧ SqT K H b ys ∧ xs.length + ys.length ≤ sizeLine ∧ ∀ c H', Same H H' → SqT K H' c (xs ++ ys) → Q (.ref c) H'
theorem op_catS : OpR X (binaryOp .Add) (rCatS X.K) := by
  intro pins s σ H x y v u Q I rx ry h
  obtain ⟨a, b, xs, ys, e1, e2, ha, hb, hz, q⟩ := h
  refine op_catA pins s σ H x y v u Q I rx ry ⟨a, b, xs, ys, e1, e2, ha, hb, hz, fun e => ?_, fun _ e => ?_, fun _ _ p np => q p _ (same_upd np) (SqT.of upd_same)⟩
  · exact q b H (Same.refl H) (by rw [e, List.nil_append]; exact hb)
  · exact q a H (Same.refl H) (by rw [e, List.append_nil]; exact ha)
def rSlS (K : PySem.W.Frag) : V → Option Int → Option Int → Hp → VK → Prop := fun x lo hi H Q => ∃ a xs, x = .ref a ∧ SqT K H a xs ∧ ∀ c H', Same H H' → SqT K H' c (cutV xs lo hi) → Q (.ref c) H'
theorem sl_tupS : SlR X (rSlS X.K) := by
  intro pins s σ H x v vl vu lo hi sl Q I rx hs pl pu h
  obtain ⟨a, xs, e, ha, q⟩ := h
  refine sl_tupA pins s σ H x v vl vu lo hi sl Q I rx hs pl pu ⟨a, xs, e, ha, fun w => ?_, fun _ p np => q p _ (same_upd np) (SqT.of upd_same)⟩
  refine q a H (Same.refl H) ?_
  have e : cutV xs lo hi = xs := by
    unfold cutV
    rw [w.1, w.2, List.drop_zero, Nat.sub_zero, List.take_length]
  rw [e]
  exact ha
end
end Ln
set_option Elab.async false
set_option linter.all false
set_option maxRecDepth 100000
set_option maxHeartbeats 4000000
namespace Ln
open PySem PySem.Spec PyProof.Rows L2
/-! ## small data can be shown -/
structure Sm (d : PyData) (k m : Nat) : Prop where
  sh : d.showable = true
  dp : d.depth ≤ k
  lv : d.leavesShort 13 = true
  wt : d.weight ≤ m
  cl : d.canLay0 = true
theorem Sm.shw {d : PyData} {k m : Nat} (h : Sm d k m) (hk : k ≤ 60) (hm : m ≤ 1000000) : Shw d :=
  ⟨h.sh, Nat.le_trans h.dp hk, PyData.shown_fits (B := 13) (by decide) (by decide) h.lv (Nat.le_trans h.wt (Nat.le_trans hm (by decide)))⟩
theorem Sm.mono {d : PyData} {k m k' m' : Nat} (h : Sm d k m) (hk : k ≤ k') (hm : m ≤ m') : Sm d k' m' := ⟨h.sh, Nat.le_trans h.dp hk, h.lv, Nat.le_trans h.wt hm, h.cl⟩
theorem log2_small {n : Nat} (h : n < 10 ^ 12) : n.log2 < 40 := by
  by_cases h0 : n = 0
  · subst h0
    decide
  · exact (Nat.log2_lt h0).mpr (Nat.lt_of_lt_of_le h (by decide))
theorem Sm.int {i : Int} (h : i.natAbs < 10 ^ 12) : Sm (.int i) 0 41 := by
  have hl := log2_small h
  refine ⟨?_, ?_, ?_, ?_, rfl⟩
  · simp only [PyData.showable, decide_eq_true_eq]
    omega
  · simp only [PyData.depth]
    exact Nat.le_refl _
  · simp only [PyData.leavesShort, decide_eq_true_eq]
    exact PyData.shown_int_le h
  · simp only [PyData.weight]
    split <;> omega
theorem Sm.none : Sm .none 0 0 := ⟨by simp only [PyData.showable], by simp only [PyData.depth]; exact Nat.le_refl _, by simp only [PyData.leavesShort], by simp only [PyData.weight]; exact Nat.le_refl _, rfl⟩
theorem Sm.bool (b : Bool) : Sm (.bool b) 0 0 := ⟨by simp only [PyData.showable], by simp only [PyData.depth]; exact Nat.le_refl _, by simp only [PyData.leavesShort], by simp only [PyData.weight]; exact Nat.le_refl _, rfl⟩
theorem Sm.str {x : Str} {m : Nat} (h : x.length ≤ m) (ha : (x.cps.toList.all fun c => decide (c < 16 ^ 8)) = true) (hk : PyData.canLay0 (.str x) = true) : Sm (.str x) 0 m :=
  ⟨by simp only [PyData.showable], by simp only [PyData.depth]; exact Nat.zero_le _, by simp only [PyData.leavesShort]; exact ha, by simp only [PyData.weight]; exact h, hk⟩
theorem Sm.all {k m : Nat} : ∀ {ds : List PyData}, (∀ d ∈ ds, Sm d k m) → PyData.showableAll ds = true ∧ PyData.depthAll ds ≤ k ∧ PyData.leavesShortAll 13 ds = true ∧ PyData.weightAll ds ≤ (m + 1) * ds.length ∧ PyData.canLayAll0 ds = true
  | [], _ => ⟨by simp only [PyData.showableAll], by simp only [PyData.depthAll]; exact Nat.zero_le _, by simp only [PyData.leavesShortAll], by simp only [PyData.weightAll]; exact Nat.zero_le _, rfl⟩
  | d :: ds, h => by
    obtain ⟨a1, a2, a3, a4, a5⟩ := h d List.mem_cons_self
    obtain ⟨b1, b2, b3, b4, b5⟩ := Sm.all (ds := ds) fun x hx => h x (List.mem_cons_of_mem _ hx)
    refine ⟨?_, ?_, ?_, ?_, by simp only [PyData.canLayAll0, a5, b5, Bool.and_self]⟩
    · simp only [PyData.showableAll, a1, b1, Bool.and_self]
    · simp only [PyData.depthAll]
      exact Nat.max_le.mpr ⟨a2, b2⟩
    · simp only [PyData.leavesShortAll, a3, b3, Bool.and_self]
    · simp only [PyData.weightAll, List.length_cons]
      rw [Nat.mul_succ]
      omega
theorem Sm.tup {k m n : Nat} {ds : List PyData} (h : ∀ d ∈ ds, Sm d k m) (hn : ds.length ≤ n) : Sm (.tuple ds) (k + 1) ((m + 1) * n) := by
  obtain ⟨b1, b2, b3, b4, b5⟩ := Sm.all h
  exact ⟨by simp only [PyData.showable]; exact b1, by simp only [PyData.depth]; omega, by simp only [PyData.leavesShort]; exact b3, by simp only [PyData.weight]; exact Nat.le_trans b4 (Nat.mul_le_mul_left _ hn), by simp only [PyData.canLay0]; exact b5⟩
theorem Sm.lst {k m n : Nat} {ds : List PyData} (h : ∀ d ∈ ds, Sm d k m) (hn : ds.length ≤ n) : Sm (.list ds) (k + 1) ((m + 1) * n) := by
  obtain ⟨b1, b2, b3, b4, b5⟩ := Sm.all h
  exact ⟨by simp only [PyData.showable]; exact b1, by simp only [PyData.depth]; omega, by simp only [PyData.leavesShort]; exact b3, by simp only [PyData.weight]; exact Nat.le_trans b4 (Nat.mul_le_mul_left _ hn), by simp only [PyData.canLay0]; exact b5⟩
/-! ## a tuple of ints as data -/
theorem dp_ints {K : PySem.W.Frag} {H : Hp} : ∀ (ns : List Int), DpAll K H (ns.map V.int) (ns.map PyData.int)
  | [] => .nil
  | n :: r => .cons (.int n) (dp_ints r)
theorem Sm.shaped {d : PyData} {k m : Nat} (h : Sm d k m) (hk : k ≤ 60) : SeqAt.shaped d = true := by
  unfold SeqAt.shaped
  rw [h.cl, Bool.true_and, decide_eq_true_eq]
  exact Nat.le_trans h.dp (Nat.le_trans hk (by decide))
theorem Sm.eqv {d : PyData} {k m : Nat} (h : Sm d k m) : PyData.eqv d d = true := SeqAt.eqv_refl d h.cl
theorem Sm.ints {ns : List Int} {n : Nat} (h : ∀ i ∈ ns, i.natAbs < 10 ^ 12) (hn : ns.length ≤ n) : Sm (.tuple (ns.map PyData.int)) 1 (42 * n) := by
  apply Sm.tup (k := 0) (m := 41)
  · intro d hd
    obtain ⟨i, hi, rfl⟩ := List.mem_map.mp hd
    exact Sm.int (h i hi)
  · rw [List.length_map]
    exact hn
end Ln
set_option Elab.async false
set_option linter.all false
set_option maxRecDepth 100000
set_option maxHeartbeats 4000000
namespace Ln
open PySem PySem.Spec PyProof.Rows L2
/-! ## several clauses, each with a name of its own -/
abbrev Suite1 : Type := Addr → Value → Option Addr → TS
/-- behind a suite the name's slot is empty -/
def freed (i : Nat) (D : Ends) : Ends where
  nx := fun τ G => D.nx (τ.set i none) G
  rt := D.rt
  bk := fun τ G => D.bk (τ.set i none) G
  ct := fun τ G => D.ct (τ.set i none) G
/-- what the clauses wish of an error of the body -/
def wNam (K : PySem.W.Frag) (Wo : WX) (D : Ends) : List (Value × Nat × Suite1) → WX
  | [] => Wo
  | (c, i, ts) :: more => fun cls d τ G => ∃ hit : Bool, PySem.W.exmOne K cls c = some hit ∧ (hit = true → ∀ a : Addr, G a = none → ts a cls d (freed i D) (τ.set i (some (.ref a))) G) ∧ (hit = false → wNam K Wo D more cls d τ G)
inductive Clauses (X : Cx) : List ExceptHandler → List (Value × Nat × Suite1) → Prop
  | done : Clauses X [] []
  | more {n x : Str} {i : Nat} {c : Value} {ts : Suite1} {s₀ : Stmt} {ss : List Stmt} {p q : Pos} {hds : List ExceptHandler} {l : List (Value × Nat × Suite1)} (at_ : X.N[i]? = some n) (loc : X.env.kindOf n = some .local) (nam : Names X x c)
      (run : ∀ (a : Addr) (oe : Obj) (cls : Value) (d : Option Addr) (pn : List (Addr × Obj)), Zc cls d oe → (∃ vs, oe.data = .fields vs) → PSs (X.suite a ((a, oe) :: pn)) (s₀ :: ss) (ts a cls d)) (rest : Clauses X hds l) :
      Clauses X (.ExceptHandler (some (.Name x p)) (some n) (s₀ :: ss) q :: hds) ((c, i, ts) :: l)
section
variable {X : Cx} {body : List Stmt} {e₀ : ExceptHandler} {es : List ExceptHandler} {l : List (Value × Nat × Suite1)} {pos : Pos} {tb : WX → TS} {Wo : WX}
/-- THE RULE: try with clauses that all have a name -/
theorem ps_try_named (stk : X.stack = X.env :: X.outer) (frm : X.env.frame = some X.env.locals) (nod : X.N.Nodup) (tk : Takes X Wo)
    (bodyOk : ∀ (W : WX) (pn : List (Addr × Obj)) (xe : Value → Shared → Prop), Takes (X.tr pn xe) W → PassesOwn (model X.prog X.w) X.A X.env xe → PSs (X.tr pn xe) body (tb W))
    (cl : Clauses X (e₀ :: es) l) : PS X (.Try body (e₀ :: es) [] [] pos) (fun D σ H => tb (wNam X.K Wo D l) D σ H) := by
  constructor
  intro pins s σ H D I want
  have oks := I.ok
  have frames : X.A.frames = some (X.env :: X.outer) := stk ▸ oks.frames
  refine wpAny_Try_except (wpAny_mono ((bodyOk (wNam X.K Wo D l) (X.pn ++ pins)
    (fun er s₁ => wpAny (model X.prog X.w) X.A (noteFrame er X.env)
      (fun _ s₂ => wpAny (model X.prog X.w) X.A (setFlight er none)
        (fun _ s₃ => wpAny (model X.prog X.w) X.A (handleBy er X.env (e₀ :: es)) (SP X pins D) X.xe s₃) X.xe s₂) X.xe s₁)
    ?caught PassesOwn.looking).run [] s σ H D (I.toTry _) want) ?calm fun _ _ z => z)
  case calm =>
    intro f s1 q
    cases f with
    | ret u => exact q.elim fun v q => q.elim fun τ q => q.elim fun G q => ⟨v, τ, G, q.1.ofTry oks, q.2⟩
    | next => exact q.elim fun τ q => q.elim fun G q => wpAny_execs_nil ⟨τ, G, q.1.ofTry oks, q.2⟩
    | brk => exact q.elim fun τ q => q.elim fun G q => ⟨τ, G, q.1.ofTry oks, q.2⟩
    | cont => exact q.elim fun τ q => q.elim fun G q => ⟨τ, G, q.1.ofTry oks, q.2⟩
  case caught =>
    rintro u s' ⟨a, B, sI, pins', τ, G, cls, d, rfl, It, nb, up, sky, na, os, ag, w⟩
    have J : Inv X pins τ G sI := It.ofTry oks
    have sk : Sky B (X.env :: X.outer) a (Zc cls d) X.env.locals s'.heap := stk ▸ sky
    refine Sky.land Zc.steady frames frm sk fun h3 fl up3 => ?_
    have upA := up.trans up3
    have J3 := (J.landed nb fl.1 upA os ag : Inv X pins τ G { s' with heap := h3 })
    obtain ⟨oe3, vs3, he3, hz3, hd3⟩ := fl.there
    have nfr : a ∉ frs (X.env :: X.outer) := fun m => by
      obtain ⟨_, o', q, nof⟩ := fl.2.2.1.mem m
      rw [he3] at q
      cases q
      exact nof _ hd3
    have nL : a ≠ X.env.locals := by
      intro z
      refine nfr (List.mem_filterMap.mpr ⟨X.env, List.mem_cons_self, ?_⟩)
      rw [frm, z]
    have nF : a ∉ X.fs := by
      intro m
      obtain ⟨e, he, q⟩ := List.mem_filterMap.mp m
      exact nfr (List.mem_filterMap.mpr ⟨e, .tail _ he, q⟩)
    have S3 := J3.suite he3 hd3 na nL nF
    refine (show ∀ {hs : List ExceptHandler} {k : List (Value × Nat × Suite1)}, Clauses X hs k → wNam X.K Wo D k cls d τ G →
      wpAny (model X.prog X.w) X.A (handleBy (.ref a) X.env hs) (SP X pins D) X.xe { s' with heap := h3 } from ?_) cl w
    intro hs k c
    induction c with
    | done =>
      intro out
      refine wpAny_handleBy_nil ?_
      obtain ⟨_, _, _, oe, vs, T, oT, ts', he, _, hd, h1, _⟩ := id fl
      unfold PySem.passOn
      refine wpAny_bind (wpAny_field he hd h1 ?_)
      have notNone : ¬ ((Value.ref T == Value.none) = true) := by simp
      rw [if_neg notNone]
      have fin : wpAny (model X.prog X.w) X.A (setFlight (.ref a) X.env.frame) (fun _ s4 => wpAny (model X.prog X.w) X.A (throw (.ref a) : Sem Flow) (SP X pins D) X.xe s4) X.xe { s' with heap := h3 } := by
        rw [frm]
        refine HandSPX.setFlight_upZ fl fun h4 hh4 up4 => wpAny_throw (tk _ _ ?_)
        exact ⟨a, B, sI, pins, τ, G, cls, d, rfl, J, nb, upA.trans up4, .inr (.inr (stk.symm ▸ hh4)), na, os, ag, out⟩
      first
        | exact wpAny_bind fin
        | exact wpAny_bind (wpAny_pure (wpAny_bind fin))
    | @more n x i c ts s₀ ss p q hds k2 at_ loc nam run rest ih =>
      rintro ⟨hit, isHit, yes, no⟩
      refine wpAny_handleBy_cons (codeAny_handlers_test ?_) (by intro q; cases q)
      have looks := PySem.W.exm_one (M := model X.prog X.w) J3.kIn (fun A Q E s k q => wpAny_typeOf_ref (k _ _ he3) (by rw [hz3.1]; exact q) : PySem.W.Looks (model X.prog X.w) h3 (typeOf (.ref a)) cls) isHit
      have test : ∀ {Q E : Value → Shared → Prop}, Q c { s' with heap := h3 } → wpAny (model X.prog X.w) (X.A.mark (some (.ref a))) (eval (.Name x p) X.env) Q E { s' with heap := h3 } := by
        intro Q E q
        obtain ⟨glo, dbg, there | ⟨gone, boot, nn⟩⟩ := nam
        · exact ld_glob (X := X.suite a ((a, oe3) :: (X.pn ++ pins))) S3 glo there q dbg
        · exact ld_blt (X := X.suite a ((a, oe3) :: (X.pn ++ pins))) S3 glo gone boot q nn dbg
      refine test (looks.here ?_)
      cases hit with
      | false => exact ih (no rfl)
      | true =>
        refine codeAny_handlers_suite_as ?_
        refine HandSPX.lands_againZ fl fun h4 fl4 up4 => ?_
        have J4 := (J.landed nb fl4.1 (upA.trans up4) os ag : Inv X pins τ G { s' with heap := h4 })
        obtain ⟨oe4, vs4, he4, hz4, hd4⟩ := fl4.there
        refine store_ok (X := X.suite a ((a, oe4) :: (X.pn ++ pins))) (v := .ref a) (J4.suite he4 hd4 na nL nF) nod at_ (.inl loc) rfl (fun s5 S5 => ?_) (.inr loc)
        refine wpAny_mono ((run a oe4 cls d (X.pn ++ pins) hz4 ⟨_, hd4⟩).run [] s5 _ G _ S5 (yes rfl a na)) (fun f s6 r => ?_) (fun _ _ z => z.elim)
        have leave : ∀ {υ : L2.St} {G6 : Hp} {Q : Shared → Prop}, Inv (X.suite a ((a, oe4) :: (X.pn ++ pins))) [] υ G6 s6 → (∀ s7, Inv X pins (υ.set i none) G6 s7 → Q s7) →
            wpAny (model X.prog X.w) X.A (do bindName X.env n .none; unbindBehindTheSuite X.env n q) (fun _ s7 => Q s7) X.xe s6 := by
          intro υ G6 Q S6 hq
          exact gone_ok (S6.unsuite oks) nod at_ loc hq
        cases f with
        | ret u =>
          obtain ⟨v6, τ6, G6, S6, r6, q6⟩ := r
          exact leave S6 fun s7 J7 => ⟨v6, _, _, J7, r6, q6⟩
        | next =>
          obtain ⟨τ6, G6, S6, q6⟩ := r
          exact leave S6 fun s7 J7 => ⟨_, _, J7, q6⟩
        | brk =>
          obtain ⟨τ6, G6, S6, q6⟩ := r
          exact leave S6 fun s7 J7 => ⟨_, _, J7, q6⟩
        | cont =>
          obtain ⟨τ6, G6, S6, q6⟩ := r
          exact leave S6 fun s7 J7 => ⟨_, _, J7, q6⟩
end
end Ln
set_option Elab.async false
set_option linter.all false
set_option maxRecDepth 100000
set_option maxHeartbeats 4000000
/-! ## isinstance of a caught error with fields -/
namespace PySem.W
open PySem PySem.Spec PySem.Calls PyProof.Rows
theorem exc_class {prog : Program} {w : World} {A : Around} {E : Value → Shared → Prop} {s : Shared} {K : Frag} {x D : Addr} {ox od : Obj} {Q : Option Value → Shared → Prop} (C : L2.ExcC K D) (X : K.In s.heap) (I : InstAt s.heap x ox D (some od))
    (want : Q (some (.ref D)) { s with toks := s.toks + 1 }) : wpAny (model prog w) A (getAttr? (.ref x) "__class__") Q E s := by
  obtain ⟨cdD, isD, _⟩ := any_some C.hd
  have found := findObj_data (od := od) (show (clsIn K D).isSome = true by rw [isD]; rfl) C.ha C.hn C.ht
  obtain ⟨hp, g, d, t, os⟩ := s
  have M0 := I.type (M := model prog w)
  have M1 := looks_findIn (M := model prog w) X C.hg
  have M2 := looks_findIn (M := model prog w) X C.hk
  have M3 := looks_find (M := model prog w) X I found
  have inst := (M0.andThen (looks_subIn X C.hs) : Looks (model prog w) hp (isInstance (.ref x) (.type "BaseException")) true)
  have b2 : (Value.builtin "BaseException.__getattribute__" == Value.builtin "object.__getattribute__") = false := by decide +kernel
  have b1 : (onTheHeap (Value.ref D) && Value.builtin "BaseException.__getattribute__" == Value.builtin "object.__getattribute__") = false := by
    rw [b2]
    rfl
  unfold getAttr? getAttrBy? getAttrBy
  refine wpAny_bind (wpAny_mkText (wpAny_bind (wpAny_attempt (wpAny_holding (wpAny_bind (M0.at (wpAny_bind (M1.at ?_))))))))
  show wpAny _ _ (ite ((onTheHeap (Value.ref D) && Value.builtin "BaseException.__getattribute__" == Value.builtin "object.__getattribute__") = true) _ _) _ _ _
  rw [b1, if_neg Bool.false_ne_true]
  unfold getAttrByItsOwn hookBefore
  apply wpAny_bind
  rw [if_pos (show onTheHeap (Value.ref D) = true from rfl)]
  apply M2.at
  apply wpAny_bind
  apply wpAny_attempt
  apply wpAny_holding
  unfold callGetattribute
  have b0 : (false && onTheHeap (Value.builtin "BaseException.__getattribute__")) = false := rfl
  rw [b0, if_neg Bool.false_ne_true]
  unfold boundAndCalled
  rw [PySem.F.excAttr_ValueError.ga.bind (.ref x)]
  apply wpAny_bind
  apply wpAny_pure
  show wpAny _ _ (call (.builtin "BaseException.__getattribute__") [.ref x, .str "__class__" t]) _ _ _
  refine wpAny_call (codeAny_call_builtin PySem.F.excAttr_ValueError.ga.plain PySem.F.entry_bexc_ga
    (@check_slot (model prog w) _ _ ⟨hp, g, d, t + 1, os⟩ "BaseException.__getattribute__" "BaseException" "__getattribute__" (.ref x) [.str "__class__" t] [] _ (by decide +kernel) (by decide +kernel) inst (PySem.F.args_bexc_ga (.ref x) (.str "__class__" t)) ?_))
  unfold Builtin.«object.__getattribute__»
  refine wpAny_bind (wpAny_of_eq (a := ((Value.ref x : Value), [Value.str "__class__" t])) (by first | (simp only [slotArgs]; rfl) | rfl) ?_)
  refine wpAny_bind (wpAny_pure (wpAny_bind (M0.at (wpAny_bind (M3.at ?_)))))
  show wpAny _ _ (holding [Value.builtin "object.__class__"] (call (.builtin "getset_descriptor.__get__") [.builtin "object.__class__", .ref x, .ref D]) >>= ret) _ _ _
  refine wpAny_bind (wpAny_holding (wpAny_call (class_get (s := ⟨hp, g, d, t + 1, os⟩) (ox := ox) (od := some od) X I C.hm (wpAny_pure ?_))))
  show wpAny _ _ (handedOut (.ref D)) _ _ _
  rw [handedOut_of (v := .ref D) rfl]
  first
    | exact wpAny_pure want
    | exact wpAny_pure (wpAny_pure want)
    | exact wpAny_pure (wpAny_bind (wpAny_pure (wpAny_pure want)))
theorem kit_exc {K : Frag} {x D : Addr} {ox : Obj} (C : L2.ExcC K D) : KitX K (.ref x) (.ref D) (fun h => ∃ od, InstAt h x ox D (some od)) where
  ty := fun _ _ _ ⟨_, I⟩ => I.type
  it := fun _ h X _ => by
    obtain ⟨cdD, isD, _⟩ := any_some C.hd
    unfold clsIn at isD
    split at isD
    · rename_i q
      intro A' Q' E' s' k want
      unfold isType loadHead
      exact wpAny_bind (wpAny_loadPart (k _ _ (X _ _ q)) (wpAny_pure want))
    · cases isD
  ne := fun h tp dd its n sl X at_ => by
    obtain ⟨cdD, isD, _⟩ := any_some C.hd
    cases e : (Value.ref D == Value.ref tp) with
    | false => rfl
    | true =>
      obtain rfl : D = tp := Value.ref.inj (beq_iff_eq.mp e)
      unfold clsIn at isD
      split at isD
      · rename_i q
        have z := (X _ _ q).symm.trans at_
        cases z
      · cases isD
  ca := fun X ⟨_, I⟩ want => exc_class C X I want
end PySem.W
namespace Ln
open PySem PySem.Spec PyProof.Rows L2 L2H
/-- isinstance(e, c): the pinned error p, of the class at D, its fields in a tracked dict -/
def rIsF (K : PySem.W.Frag) (a : Addr) (cls : Value) (d : Option Addr) : List V → Hp → VK → Prop := fun xs H Q => ∃ (c : V) (cv : Value) (b : Bool) (D dd : Addr) (fs : List (Str × V)), xs = [.ref a, c] ∧ ExcC K D ∧ cls = .ref D ∧ d = some dd ∧ H dd = some (.xd fs) ∧
  (∀ u, RelV c u → u = cv) ∧ PySem.W.kitOne K (.ref D) cv = some b ∧ Q (.bl b) H
theorem call_isF {X : Cx} {p : Addr × Obj} {cls : Value} {d : Option Addr} (hp : p ∈ X.pn) (hz : Zc cls d p.2) (hf : ∃ vs, p.2.data = .fields vs) : CallR X (.builtin "isinstance") (rIsF X.K p.1 cls d) := by
  intro pins s σ H xs us Q I r h
  obtain ⟨c, cv, b, D, dd, fs, rfl, C, rfl, rfl, hd, hcv, e, q⟩ := h
  obtain ⟨vs, hv⟩ := hf
  obtain ⟨u1, u2, rfl, r1, r2⟩ : ∃ u1 u2, us = [u1, u2] ∧ RelV (.ref p.1) u1 ∧ RelV c u2 := by
    cases r with
    | cons a b => cases b with
      | cons b c => cases c with
        | nil => exact ⟨_, _, rfl, a, b⟩
  cases r1
  obtain rfl := hcv _ r2
  obtain ⟨hget, _⟩ := I.pin p (List.mem_append_left _ hp)
  obtain ⟨mA, hns, _⟩ : ObjOk X.prog X.w H s.heap dd (.xd fs) := I.hok dd _ hd
  obtain ⟨od, ho, _⟩ := lookIn_ns hns
  have J : PySem.W.InstAt s.heap p.1 p.2 D (some od) := ⟨hget, hz.1, by unfold PySem.W.notCls; rw [hv] <;> rfl, by rw [hz.2]; exact ho⟩
  exact PySem.W.kia_one (PySem.W.kit_exc C) I.kIn ⟨od, J⟩ e (fun z => nomatch z) fun tk => ⟨.bl b, H, I.kept (t' := tk) fun _ _ z => z, rfl, q⟩
/-! ## a def that is called with the handled error at hand -/
structure FnE (P : Program) (w : World) (K : PySem.W.Frag) (mg : Str → Option Value) (base : Heap) (k : Nat) (f : Addr) (fd : FuncData) (ps : List Str) (sp : Addr → Value → Option Addr → Sp) : Prop where
  len : ∀ a cls d vs H Q E, sp a cls d vs H Q E → vs.length = ps.length
  run : ∀ (A : Around) (outer : List Env) (s : Shared) (H : Hp) (args : Args) (us : List Value) (vs : List V) (Q : VK) (p : Addr × Obj) (cls : Value) (d : Option Addr), Zc cls d p.2 → (∃ vs, p.2.data = .fields vs) → RoomH k A → PinOk outer H s p → Env0 P w K mg base A outer s H →
    BindsTo s fd args (ps.zip us) → Vals vs us → sp p.1 cls d vs H Q E0 → codeAny (model P w) A (.call (.ref f) args) (CR CX0 outer P w H s Q E0) s
theorem okE {P : Program} {w : World} {K : PySem.W.Frag} {mg : Str → Option Value} {base : Heap} {x qual : Str} {st : Stmt} {f : Addr} {fd : FuncData} {N ps : List Str} {k : Nat} {sp : Addr → Value → Option Addr → Sp} (F : Fun K x qual st f fd) (S : FnScope N ps (defScope st))
    (len : ∀ a cls d vs H Q E, sp a cls d vs H Q E → vs.length = ps.length)
    (hbody : ∀ (cdv : Value) (A : Around) (outer : List Env) (s : Shared) (H : Hp) (vs : List V) (Q : VK) (p : Addr × Obj) (cls : Value) (d : Option Addr), Zc cls d p.2 → (∃ vs, p.2.data = .fields vs) → RoomH k (A.deeper (envOfC qual (defScope st) s.heap.objs.size f cdv)) → sp p.1 cls d vs H Q E0 →
      ∃ t, PSs (cxH CX0 P w K mg base N qual (defScope st) f cdv A outer s H E0 p) (defBody st) t ∧ t { nx := fun _ H' => Q .non H', rt := Q } (start N vs) H) : FnE P w K mg base (k + 1) f fd ps sp := by
  obtain ⟨oc, od, kV, doc, pm, an, cdv, ct, osl, rfl, lk, hcd⟩ := F.ex
  constructor
  · exact len
  intro A outer s H args us vs Q p cls d hz hf hr pin e0 hb r hsp
  have hl := len _ _ _ _ _ _ _ hsp
  have same := fun b o (e : base.get? b = some o) => (e0.bs b o e).1
  have KX : K.In s.heap := e0.mod.kin.keeps same
  have kinds : ∀ y ∈ ps.zip us, (defScope st).names.lookup y.1 = some .local ∨ ((defScope st).names.lookup y.1 = some .cell ∧ ((cellsFrom (s.heap.objs.size + 1) (defScope st).names []).lookup y.1).isSome = true) := by
    intro y hy
    rcases S.par y.1 (List.of_mem_zip (a := y.1) (b := y.2) hy).1 with q | q
    · exact Or.inl q
    · exact Or.inr ⟨q, PySem.W.cellsFrom_some _ _ _ (Or.inl q)⟩
  apply codeAny_call_function hr.depth (KX _ _ lk) rfl S.co S.gen rfl (PySem.W.codeRec_of KX hcd) (hb _ _ _ _ ?_)
  refine wpAny_newFunctionEnv_cells S.kind kinds ?_
  rintro env rfl s1 c
  refine ⟨(e0.mod.nolimit.keeps same).keeps c.toInCall.keep, codeAny_func ?_⟩
  obtain ⟨t, ht, hq⟩ := hbody cdv A outer s H vs Q p cls d hz hf (hr.deeper _) hsp
  apply wpAny_mono (ht.run [] s1 (start N vs) H _ (inv_startH S pin e0 hl r c) hq) _ fun _ _ z => z
  intro fl s' z
  cases fl with
  | ret u => exact z.elim fun v z => z.elim fun τ z => z.elim fun G z => ⟨v, G, z.1.os, z.1.bare, z.1.base, z.1.hok, z.2.1, z.2.2⟩
  | next => exact z.elim fun τ z => z.elim fun G z => ⟨V.non, G, z.1.os, z.1.bare, z.1.base, z.1.hok, rfl, z.2⟩
  | brk => exact z.elim fun τ z => z.elim fun G z => z.2.elim
  | cont => exact z.elim fun τ z => z.elim fun G z => z.2.elim
structure CgE (P : Program) (w : World) (K : PySem.W.Frag) (mg : Str → Option Value) (base : Heap) (k : Nat) (x : Str) (sp : Addr → Value → Option Addr → Sp) : Prop where
  ex : ∃ (f : Addr) (fd : FuncData) (ps : List Str), FnE P w K mg base k f fd ps sp ∧ mg x = some (.ref f) ∧ PySem.W.keepIn K (.ref f) = true ∧ Binds K fd ps []
theorem pe_cgE {X : Cx} {j k : Nat} {a : Addr} {oe : Obj} {x : Str} {np pos : Pos} {e : Expr} {es : List Expr} {t : TA} {sp : Addr → Value → Option Addr → Sp} {cls : Value} {d : Option Addr} (c : CgE X.prog X.w X.K X.mg X.base k x sp) (hp : (a, oe) ∈ X.pn) (hz : Zc cls d oe) (hf : ∃ vs, oe.data = .fields vs) (hr : RoomH j X.A) (hk : k ≤ j) (hg : Gl X x) (ha : PA X (e :: es) t)
    (hdb : (x == ("__debug__" : Str)) = false := by decide) (he : starEach (e :: es) X.env = (false, eval e X.env) :: starEach es X.env := by rfl) (hpl : (backTo pos (starEach es X.env)).any (·.1) = false := by rfl) :
    PE X (.Call (.Name x np) (e :: es) [] pos) (tCg (sp a cls d) (fun _ => E0) t) := by
  constructor
  intro pins s σ H Q I h
  obtain ⟨f, fd, ps, F, hm, kp, b⟩ := c.ex
  apply wpAny_Call_Name_kw (ld_glob I hg hm ?_ hdb)
  apply PySem.W.callWith_K (h₀ := X.base) I.ok.mod.kin kp (thn (ha.run pos pins s σ H _ I h) _) he hpl
  rintro us s1 ⟨vs, H1, I1, r, q⟩
  refine ⟨I1.kIn, ?_⟩
  have hl : us.length = ps.length := r.length ▸ F.len _ _ _ _ _ _ _ q
  have pin := I1.pin (a, oe) (List.mem_append_left _ hp)
  have ok : PinOk X.stack H1 s1 (a, oe) := ⟨pin.1, pin.2.1, fun m => (List.mem_cons.mp (I1.stkSub a m)).elim pin.2.2.1 pin.2.2.2.1, pin.2.2.2.2⟩
  have bb := b s1 us I1.kIn (by simpa using hl)
  refine wpAny_call (codeAny_mono (F.run X.A X.stack s1 H1 ⟨us, []⟩ us vs Q (a, oe) cls d hz hf (hr.mono hk) ok I1.env0 (by simpa using bb) r q) ?_)
  intro res s' z
  cases res with
  | error _ => exact z.elim
  | ok fl => cases fl with
    | ret u => exact I1.after z
    | next => exact z.elim
    | brk => exact z.elim
    | cont => exact z.elim
end Ln
set_option Elab.async false
set_option linter.all false
set_option maxRecDepth 100000
set_option maxHeartbeats 4000000
/-! ## enumerate over a tuple -/
namespace PySem
open Sem (wp)
theorem meets_enum1 {v : Value} {o : Obj} {H : Heap → Prop} (B : Begins v o H) :
    Meets (Builtin.«enumerate.__new__» ⟨[.type "enumerate", v], []⟩) (fun _ R s => H s.heap ∧
      R (.ok (.ret (.ref (s.heap.push o).objs.size))) { s with heap := (s.heap.push o).push { cls := .type "enumerate", data := .fields #[.none, .bool false, .ref s.heap.objs.size, rawInt 0, .none, .none] } }) := by
  refine .of_wp fun prog w A R s h => ?_
  obtain ⟨hp, g, d, tk, os⟩ := s
  obtain ⟨h1, want⟩ := h
  have sub := sub_enumerate
  have begins : ∀ {A' : Around} {E Q : Value → Shared → Prop}, Q (.ref hp.objs.size) ⟨hp.push o, g, d, tk, os⟩ → wpAny (model prog w) A' (pyIter v) Q E ⟨hp, g, d, tk, os⟩ := by
    intro A' E Q q
    exact B.iter prog w _ _ ⟨hp, g, d, tk, os⟩ _ h1 q
  wp_walk using begins
  refine wpAny_stack_any fun st => wpAny_pure ?_
  split
  case h_1 =>
    rename_i c _ _ _ _ _
    cases (c == Value.type "enumerate") <;> (wp_walk using begins; exact ⟨_, rfl, want⟩)
  case h_2 =>
    wp_walk using begins
    exact ⟨_, rfl, want⟩
section
variable {prog : Program} {w : World} {A : Around} {E : Value → Shared → Prop} {s : Shared}
theorem call_enum_tuple {a : Addr} {items : Array Value} {Q : Value → Shared → Prop} (ht : s.heap.IsTuple a items)
    (want : ∀ h', IsEnum h' (s.heap.objs.size + 1) s.heap.objs.size 0 .none → h'.IsTupleIter s.heap.objs.size a 0 → h'.objs.size = s.heap.objs.size + 2 → (∀ b o, s.heap.get? b = some o → h'.get? b = some o) → Q (.ref (s.heap.objs.size + 1)) { s with heap := h' }) :
    wpAny (model prog w) A (call (.type "enumerate") [.ref a]) Q E s := by
  refine callType_new F.called_enumerate (by decide) (F.typeCall_enumerate_1 _) (F.newCall_enumerate_1 _) (fun obj => F.args_object_init_2 obj _) F.entry_enumerate_new (meets_enum1 (begins_tuple a items)) ⟨ht, ?_⟩
  have two : (s.heap.push { cls := .type "tuple_iterator", data := .fields #[.ref a, .int 0 0] }).objs.size = s.heap.objs.size + 1 := Heap.size_push ..
  show _ ∧ _
  rw [two]
  have it : IsEnum ((s.heap.push { cls := .type "tuple_iterator", data := .fields #[.ref a, .int 0 0] }).push { cls := .type "enumerate", data := .fields #[.none, .bool false, .ref s.heap.objs.size, rawInt 0, .none, .none] }) (s.heap.objs.size + 1) s.heap.objs.size 0 .none := by
    have g := Heap.get?_push_size (s.heap.push { cls := .type "tuple_iterator", data := .fields #[.ref a, .int 0 0] }) (o := { cls := .type "enumerate", data := .fields #[.none, .bool false, .ref s.heap.objs.size, rawInt 0, .none, .none] }) rfl
    rw [two] at g
    exact g
  refine ⟨⟨_, it, rfl⟩, want _ it ?_ (by rw [Heap.size_push, two]) fun b o x => Heap.get?_push_of_some _ (Heap.get?_push_of_some _ x)⟩
  exact ⟨_, Heap.get?_push_of_some _ (Heap.get?_push_size _ rfl), rfl, rfl⟩
end
end PySem
namespace Ln
open PySem PySem.Spec PyProof.Rows L2
def IteT (K : PySem.W.Frag) (a : Addr) : It where
  go := fun i H => ∃ (xs : List V) (x : V), SqT K H a xs ∧ xs[i]? = some x
  yld := fun i H v H' => ∃ T x, v = .ref T ∧ H T = none ∧ H' = upd H T (.tup [.int (i : Nat), x]) ∧ ∀ xs, SqT K H a xs → xs[i]? = some x
  stop := fun i H => ∃ xs : List V, SqT K H a xs ∧ xs.length = i
theorem turn_enumT {P : Program} {w : World} {K : PySem.W.Frag} {elts : List Expr} {kk : Nat} {tpos : Pos} (a e it : Addr) (hae : a ≠ e) (hai : a ≠ it) :
    Turn P w K (.Tuple elts kk tpos) (IteT K a) [e, it] e (fun i h => (∃ old, IsEnum h e it ((i : Nat) : Int) old) ∧ h.IsTupleIter it a i ∧ e ≠ it) where
  mem := by simp
  obj := by
    rintro i h ⟨⟨old, he⟩, ⟨o, ho, hc, hd⟩, _⟩ b hb
    simp only [List.mem_cons, List.not_mem_nil, or_false] at hb
    rcases hb with z | z
    · rw [z]
      exact ⟨_, he, fun v q => nomatch q⟩
    · rw [z]
      exact ⟨o, ho, fun v q => by rw [hd] at q; cases q⟩
  keep := by
    rintro i h h' ⟨⟨old, he⟩, hi, hne⟩ k
    exact ⟨⟨old, k e (by simp) _ he⟩, hi.at fun o q => k it (by simp) o q, hne⟩
  item := by
    intro X hP hw hK hc i pins s σ H E I hf st hg
    subst hP hw hK
    obtain ⟨⟨old, he⟩, hit, hne⟩ := st
    obtain ⟨xs, x, hq, hx⟩ := hg
    obtain ⟨its, rv, p, hz⟩ := I.tuple hq
    obtain ⟨u, hu, ru⟩ := rv.get hx
    have hT : s.heap.IsTuple a its.toArray := p
    have hel : e < s.heap.objs.size := Heap.lt_size he
    have hil : it < s.heap.objs.size := by
      obtain ⟨_, q, _⟩ := hit
      exact Heap.lt_size q
    have hlt : i < its.toArray.size := by
      rw [List.size_toArray, ← rv.length]
      exact (List.getElem?_eq_some_iff.mp hx).1
    refine wpAny_pyNext_enum_itemD (Draws.tuple (show X.A.in1.handled = none from I.ok.hd hc) it a hai its.toArray) he ⟨hit, hT⟩ hlt hne (by simp; exact ⟨hne, fun z => hae z.symm⟩) fun x' h' tk hx' ho hit' hTp hsz hk => ?_
    have eu : x' = u := by
      have z : (its.toArray)[i]? = some u := by simpa using hu
      rw [z] at hx'
      exact (Option.some.inj hx').symm
    subst eu
    refine ⟨_, rfl, wpAny_letOwnedTupleGo_enum (s := { s with heap := h', toks := tk + 1 }) ho fun h'' he' sb => ?_⟩
    have hT2 : h''.get? s.heap.objs.size = some { cls := .type "tuple", data := .seq #[.int i tk, x'] } := (sb.2 _ (Nat.ne_of_gt hel)).trans hTp
    have new : ObjOk X.prog X.w (upd H s.heap.objs.size (.tup [.int (i : Nat), x])) h'' s.heap.objs.size (.tup [.int (i : Nat), x]) :=
      ⟨by show 2 ≤ sizeLine; decide, [.int i tk, x'], .cons ⟨_, rfl⟩ (.cons ru .nil), ⟨_, hT2, rfl, _, rfl⟩⟩
    have far : ∀ b, b ∉ [e, it] → b ≠ e ∧ b ≠ it := fun b hb => ⟨fun z => hb (by simp [z]), fun z => hb (by simp [z])⟩
    have J := I.turnedNew (ch := [e, it]) (fun b ob hb q => (sb.2 b (far b hb).1).trans (hk b ob (far b hb).1 (far b hb).2 q)) hf (Nat.le_refl _) new (t' := tk + 1)
    refine ⟨.ref s.heap.objs.size, _, J, rfl, ⟨_, x, rfl, I.hok.fresh (Nat.le_refl _), rfl, fun ys hy => by rw [I.tuple_inj hy hq]; exact hx⟩, ⟨⟨x', ?_⟩, hit'.1.at fun o q => (sb.2 it (Ne.symm hne)).trans q, hne⟩, fun b hb => ?_⟩
    · have e1 : ((i + 1 : Nat) : Int) = (i : Int) + 1 := by omega
      rw [e1]
      exact he'
    · have hb' : b < s.heap.objs.size := by
        simp only [List.mem_cons, List.not_mem_nil, or_false] at hb
        rcases hb with z | z
        · rw [z]; exact hel
        · rw [z]; exact hil
      rw [upd_ne (Nat.ne_of_lt hb')]
      exact (hf b hb).1
  done := by
    intro X hP hw hK hc i pins s σ H E I hf st hg
    subst hP hw hK
    obtain ⟨⟨old, he⟩, hit, hne⟩ := st
    obtain ⟨xs, hq, hx⟩ := hg
    obtain ⟨its, rv, p, hz⟩ := I.tuple hq
    have hT : s.heap.IsTuple a its.toArray := p
    obtain ⟨f0, f1, f2, f3, f4, f5⟩ := hf it (by simp)
    have hlt : i = its.toArray.size := by rw [List.size_toArray, ← rv.length, hx]
    subst hlt
    exact wpAny_pyNext_enum_endD (Draws.tuple (show X.A.in1.handled = none from I.ok.hd hc) it a hai its.toArray) he ⟨hit, hT⟩ fun h' eb => ⟨rfl, I.turned (t' := s.toks) (fun b o hb q => eb b o hb q) f0 f1 f3 f4 f5⟩
  self := fun A i s Q E st want => by
    obtain ⟨⟨_, he⟩, _⟩ := st
    exact wpAny_pyIter_enum he want
theorem walk_enumT {K : PySem.W.Frag} {a : Addr} {xs : List V} : Walk (IteT K a) xs.length (fun H => SqT K H a xs) (YPair (fun i => some (.int (i : Nat))) (fun i => xs[i]?)) where
  goes := fun i H hi q => ⟨xs, xs[i], q, List.getElem?_eq_getElem hi⟩
  stops := fun H q => ⟨xs, q, rfl⟩
  yields := by
    rintro i H v H' _ q ⟨T, x, h1, h2, h3, h4⟩
    exact ⟨T, .int (i : Nat), x, h1, h2, h3, rfl, h4 xs q⟩
/-- enumerate(t), t a tuple -/
def iEnumT (K : PySem.W.Frag) (ta : TA) : TI := fun σ H R => ta σ H fun vs H1 => ∃ a xs, vs = [.ref a] ∧ SqT K H1 a xs ∧ R (IteT K a) H1
theorem pi_enumT {X : Cx} {e : Expr} {ta : TA} {p pos tpos : Pos} {elts : List Expr} {kk : Nat} (hg : Gl X "enumerate") (hm : X.mg "enumerate" = none) (ha : PA X [e] ta) (hs : starEach [e] X.env = [(false, eval e X.env)] := by rfl) :
    PI X (.Tuple elts kk tpos) (.Call (.Name "enumerate" p) [e] [] pos) (iEnumT X.K ta) := by
  constructor
  intro pins s σ H R I h
  refine Call_ (ld_blt I hg hm boot_enumerate (PyProof.Rows.callWith_type1 (thn (ha.run pos pins s σ H _ I h) ?_) hs rfl))
  rintro us s1 ⟨vs, H1, I1, r1, a, xs, rfl, hq, q⟩
  obtain ⟨u1, rfl, r⟩ := vals1 r1
  cases r
  obtain ⟨its, rv, p', hz⟩ := I1.tuple hq
  have hal : a < s1.heap.objs.size := by
    obtain ⟨o, ho, _⟩ := id p'
    exact Heap.lt_size ho
  refine call_enum_tuple (show s1.heap.IsTuple a its.toArray from p') fun h' he hit hsz hk => wpAny_pyIter_enum he ?_
  have I2 : Inv X pins σ H1 { s1 with heap := h' } := I1.kept (t' := s1.toks) hk
  refine ⟨s1.heap.objs.size + 1, [s1.heap.objs.size + 1, s1.heap.objs.size], _, _, H1, rfl, I2, turn_enumT a (s1.heap.objs.size + 1) s1.heap.objs.size (Nat.ne_of_lt (Nat.lt_succ_of_lt hal)) (Nat.ne_of_lt hal), ⟨⟨.none, he⟩, hit, Nat.succ_ne_self _⟩, fun b hb => ?_, q⟩
  have hle : s1.heap.objs.size ≤ b := by
    simp only [List.mem_cons, List.not_mem_nil, or_false] at hb
    rcases hb with z | z
    · rw [z]; exact Nat.le_add_right _ _
    · rw [z]; exact Nat.le_refl _
  exact I1.fpOk hle (I1.hok.fresh hle)
/-! ## three comparisons in one -/
section
variable {X : Cx} {CX : CXT} {E0' : XK}
/-- a def at an address, guard-aware -/
structure CgA (P : Program) (w : World) (K : PySem.W.Frag) (mg : Str → Option Value) (base : Heap) (k : Nat) (f : Addr) (sp : Sp) : Prop where
  ex : ∃ (fd : FuncData) (ps : List Str), FnG P w K mg base CX0 k f fd ps sp ∧ PySem.W.keepIn K (.ref f) = true ∧ Binds K fd ps []
def tCgL (P : Program) (w : World) (K : PySem.W.Frag) (mg : Str → Option Value) (base : Heap) (k i : Nat) (t : TA) : TE := fun σ H Q => ∃ f sp, σ[i]? = some (some (.ref f)) ∧ CgA P w K mg base k f sp ∧ t σ H fun vs H1 => sp vs H1 Q E0
theorem pe_cgL {i j k : Nat} {x : Str} {p pos : Pos} {e : Expr} {es : List Expr} {t : TA} (hr : Room j X.A) (hk : k ≤ j) (hG : X.A.guards = some []) (hN : X.N[i]? = some x) (hv : Vis X.env.scope x) (ha : PA X (e :: es) t)
    (hdb : (x == ("__debug__" : Str)) = false := by decide) (hcd : (x == ("__classdict__" : Str)) = false := by decide)
    (he : starEach (e :: es) X.env = (false, eval e X.env) :: starEach es X.env := by rfl) (hpl : (backTo pos (starEach es X.env)).any (·.1) = false := by rfl) :
    PE X (.Call (.Name x p) (e :: es) [] pos) (tCgL X.prog X.w X.K X.mg X.base k i t) := by
  constructor
  rintro pins s σ H Q I ⟨f, sp, hs, ⟨fd, ps, F, kp, b⟩, ht⟩
  refine wpAny_Call_Name_kw (thn ((pe_var (pos := p) hN hv hdb hcd).run pins s σ H (fun v H1 => v = .ref f ∧ H1 = H) I ⟨.ref f, hs, rfl, rfl⟩) ?_)
  rintro u s1 ⟨v, H1, I1, r1, rfl, rfl⟩
  cases r1
  apply PySem.W.callWith_K (h₀ := X.base) I.ok.mod.kin kp (thn (ha.run pos pins s1 σ _ _ I1 ht) _) he hpl
  rintro us s2 ⟨vs, H2, I2, r, q⟩
  exact ⟨I2.kIn, runG F (hr.mono hk) hG b (passAt0 σ) I2 r q⟩
end
end Ln
set_option Elab.async false
set_option linter.all false
set_option maxRecDepth 100000
set_option maxHeartbeats 4000000
namespace Ln
open PySem PySem.Spec PyProof.Rows L2
section
variable {X : Cx} {a b c d : Expr} {ta tb tc td : TE} {pos : Pos}
/-- a op1 b op2 c op3 d -/
def tChain3 (r r' r'' : R2) (ta tb tc td : TE) : TE := fun σ H Q => ta σ H fun x H1 => tb σ H1 fun y H2 => r x y H2 fun z H3 => ∃ k, z = .bl k ∧
  (if k = true then tc σ H3 fun w' H4 => r' y w' H4 fun z2 H5 => ∃ k2, z2 = .bl k2 ∧ (if k2 = true then td σ H5 fun v H6 => r'' w' v H6 Q else Q (.bl false) H5) else Q (.bl false) H3)
theorem pt_chain3 {op op' op2 : CmpOp} {r r' r'' : R2} (ho : OpR X (compareOp op) r) (ho' : OpR X (compareOp op') r') (ho2 : OpR X (compareOp op2) r'') (ha : PE X a ta) (hb : PE X b tb) (hc : PE X c tc) (hd : PE X d td)
    (hm : lastMarks [op, op', op2] [b, c, d] = false := by with_unfolding_all rfl) : PT X (.Compare a [op, op', op2] [b, c, d] pos) (tTest (tChain3 r r' r'' ta tb tc td)) := by
  constructor
  intro pins s σ H Q I h
  refine isTrue_chain (thn (ha.run pins s σ H _ I h) fun v s1 ⟨x, H1, I1, r1, q1⟩ => test_link (thn (hb.run pins s1 σ H1 _ I1 q1) fun u s2 ⟨y, H2, I2, r2, q2⟩ =>
    thn (ho pins s2 σ H2 x y v u _ I2 r1 r2 q2) ?_)) hm
  rintro d1 s3 ⟨z, H3, I3, r3, k, rfl, q3⟩
  cases r3
  refine wpAny_truthy_bool ?_
  cases k with
  | false =>
    obtain ⟨k', e', q'⟩ := q3
    cases e'
    exact ite_ff ⟨H3, I3, q'⟩
  | true =>
    refine ite_tt (test_link (thn (hc.run pins s3 σ H3 _ I3 q3) fun w' s4 ⟨z', H4, I4, r4, q4⟩ => thn (ho' pins s4 σ H4 y z' u w' _ I4 r2 r4 q4) ?_))
    rintro d2 s5 ⟨z2, H5, I5, r5, k2, rfl, q5⟩
    cases r5
    refine wpAny_truthy_bool ?_
    cases k2 with
    | false =>
      obtain ⟨k', e', q'⟩ := q5
      cases e'
      exact ite_ff ⟨H5, I5, q'⟩
    | true =>
      refine ite_tt (test_last (thn (hd.run pins s5 σ H5 _ I5 q5) fun w3 s6 ⟨z3, H6, I6, r6, q6⟩ => thn (ho2 pins s6 σ H6 z' z3 w' w3 _ I6 r4 r6 q6) ?_))
      rintro d3 s7 ⟨z4, H7, I7, r7, k3, rfl, q7⟩
      cases r7
      exact wpAny_truthy_bool ⟨H7, I7, q7⟩
end
end Ln
set_option Elab.async false
set_option linter.all false
set_option maxRecDepth 100000
set_option maxHeartbeats 4000000
namespace Ln
open PySem PySem.Spec PyProof.Rows L2
/-! ## a comprehension with two fors -/
section
variable {J J1 : It} {n n1 : Nat} {G G1 : Hp → Prop} {Y Y1 : Nat → Hp → V → Hp → Prop}
theorem lc2_it (w : Walk J n G Y) {g g1 : TG} {tt tt1 : TT} {wi1 : TI} {te : TE} {vs vs1 : List Nat} {σ : L2.St} {H1 : Hp} {D : Addr} {Qd : Hp → Prop} (Pv : Nat → Hp → Prop) (h0 : Pv 0 (upd H1 D (.lst []))) (hG : ∀ i H, i ≤ n → Pv i H → G H)
    (hs : ∀ i x H H', i < n → Pv i H → Y i H x H' → g x (wipe σ vs) H' fun σ2 H2 => wipe σ2 vs = wipe σ vs ∧ tt σ2 H2 fun b H3 =>
      if b = true then wi1 σ2 H3 fun J1 H4 => ∃ W1 : Nat → Nat → Hp → Prop, (∃ m, W1 0 m H4) ∧ ∀ j k H, W1 j k H →
        (J1.stop j H ∧ Pv (i + 1) H) ∨ (J1.go j H ∧ ∃ Nx1 : Hp → Prop, (∀ H', Nx1 H' → ∃ k', k' < k ∧ W1 (j + 1) k' H') ∧ ∀ x H', J1.yld j H x H' → g1 x (wipe σ2 vs1) H' fun σ3 H5 => wipe σ3 vs1 = wipe σ2 vs1 ∧ tt1 σ3 H5 fun b H6 =>
          if b = true then te σ3 H6 fun y H7 => ∃ acc, H7 D = some (.lst acc) ∧ acc.length < sizeLine ∧ Nx1 (upd H7 D (.lst (acc ++ [y]))) else Nx1 H6)
      else Pv (i + 1) H3) (hd : ∀ H, Pv n H → Qd H) :
    ∃ W : Nat → Nat → Hp → Prop, (∃ m, W 0 m (upd H1 D (.lst []))) ∧ ∀ i m H, W i m H →
      (J.stop i H ∧ Qd H) ∨ (J.go i H ∧ ∃ Nx : Hp → Prop, (∀ H', Nx H' → ∃ m', m' < m ∧ W (i + 1) m' H') ∧ ∀ x H', J.yld i H x H' → g x (wipe σ vs) H' fun σ2 H2 => wipe σ2 vs = wipe σ vs ∧ tt σ2 H2 fun b H3 =>
        if b = true then wi1 σ2 H3 fun J1 H4 => ∃ W1 : Nat → Nat → Hp → Prop, (∃ m, W1 0 m H4) ∧ ∀ j k H, W1 j k H →
          (J1.stop j H ∧ Nx H) ∨ (J1.go j H ∧ ∃ Nx1 : Hp → Prop, (∀ H', Nx1 H' → ∃ k', k' < k ∧ W1 (j + 1) k' H') ∧ ∀ x H', J1.yld j H x H' → g1 x (wipe σ2 vs1) H' fun σ3 H5 => wipe σ3 vs1 = wipe σ2 vs1 ∧ tt1 σ3 H5 fun b H6 =>
            if b = true then te σ3 H6 fun y H7 => ∃ acc, H7 D = some (.lst acc) ∧ acc.length < sizeLine ∧ Nx1 (upd H7 D (.lst (acc ++ [y]))) else Nx1 H6)
        else Nx H3) := by
  refine ⟨fun i m H => m = n - i ∧ i ≤ n ∧ Pv i H, ⟨n, by simp, Nat.zero_le _, h0⟩, ?_⟩
  rintro i m H ⟨rfl, hi, p⟩
  have q := hG i H hi p
  rcases Nat.lt_or_eq_of_le hi with lt | e
  · refine .inr ⟨w.goes i H lt q, Pv (i + 1), fun H' p' => ⟨n - (i + 1), by omega, rfl, lt, p'⟩, fun x H' y => ?_⟩
    exact hs i x H H' lt p (w.yields i H x H' lt q y)
  · subst e
    exact .inl ⟨w.stops H q, hd H p⟩
theorem inner_it (w1 : Walk J1 n1 G1 Y1) {g1 : TG} {tt1 : TT} {te : TE} {vs1 : List Nat} {σ2 : L2.St} {H4 : Hp} {D : Addr} {Done : Hp → Prop} (Pv : Nat → Hp → Prop) (h0 : Pv 0 H4) (hG : ∀ i H, i ≤ n1 → Pv i H → G1 H)
    (hs : ∀ j x H H', j < n1 → Pv j H → Y1 j H x H' → g1 x (wipe σ2 vs1) H' fun σ3 H5 => wipe σ3 vs1 = wipe σ2 vs1 ∧ tt1 σ3 H5 fun b H6 =>
      if b = true then te σ3 H6 fun y H7 => ∃ acc, H7 D = some (.lst acc) ∧ acc.length < sizeLine ∧ Pv (j + 1) (upd H7 D (.lst (acc ++ [y]))) else Pv (j + 1) H6) (hd : ∀ H, Pv n1 H → Done H) :
    ∃ W1 : Nat → Nat → Hp → Prop, (∃ m, W1 0 m H4) ∧ ∀ j k H, W1 j k H →
      (J1.stop j H ∧ Done H) ∨ (J1.go j H ∧ ∃ Nx1 : Hp → Prop, (∀ H', Nx1 H' → ∃ k', k' < k ∧ W1 (j + 1) k' H') ∧ ∀ x H', J1.yld j H x H' → g1 x (wipe σ2 vs1) H' fun σ3 H5 => wipe σ3 vs1 = wipe σ2 vs1 ∧ tt1 σ3 H5 fun b H6 =>
        if b = true then te σ3 H6 fun y H7 => ∃ acc, H7 D = some (.lst acc) ∧ acc.length < sizeLine ∧ Nx1 (upd H7 D (.lst (acc ++ [y]))) else Nx1 H6) := by
  refine ⟨fun i m H => m = n1 - i ∧ i ≤ n1 ∧ Pv i H, ⟨n1, by simp, Nat.zero_le _, h0⟩, ?_⟩
  rintro i m H ⟨rfl, hi, p⟩
  have q := hG i H hi p
  rcases Nat.lt_or_eq_of_le hi with lt | e
  · refine .inr ⟨w1.goes i H lt q, Pv (i + 1), fun H' p' => ⟨n1 - (i + 1), by omega, rfl, lt, p'⟩, fun x H' y => ?_⟩
    exact hs i x H H' lt p (w1.yields i H x H' lt q y)
  · subst e
    exact .inl ⟨w1.stops H q, hd H p⟩
end
end Ln
set_option Elab.async false
set_option linter.all false
set_option maxRecDepth 100000
set_option maxHeartbeats 4000000
namespace Ln
open PySem PySem.Spec PyProof.Rows L2
section
variable {X : Cx}
/-- name = {..: .. for ..} on one line, the name a local -/
theorem ps_setDc {i : Nat} {y : Str} {py : Pos} {kx vx tg iter : Expr} {ifs : List Expr} {scope : Scope} {own : List (Str × Nat)} {pos spos : Pos} {wi : TI} {g : TG} {tt : TT} {tk tv : TE} (calm : X.calm = true) (nod : X.N.Nodup) (at_ : X.N[i]? = some y) (loc : X.env.scope.names.lookup y = some .local)
    (sw : swapsWith (.DictComp kx vx [⟨tg, iter, ifs, 0⟩] scope pos) (some (.Name y py)) spos.line X.env = pure true) (hi : PI X tg iter wi) (ok : BlkOk X.N X.env.scope scope own)
    (hg : ∀ (s : Shared) (H : Hp) (C : Addr) (cl : List (Str × Addr)) (fp : List Addr), PG (X.blk s H scope (compEnvC scope cl C X.env) fp) tg g)
    (ht : ∀ (s : Shared) (H : Hp) (C : Addr) (cl : List (Str × Addr)) (fp : List Addr), PTs (X.blk s H scope (compEnvC scope cl C X.env) fp) ifs tt)
    (hk : ∀ (s : Shared) (H : Hp) (C : Addr) (cl : List (Str × Addr)) (fp : List Addr), PE (X.blk s H scope (compEnvC scope cl C X.env) fp) kx tk)
    (he : ∀ (s : Shared) (H : Hp) (C : Addr) (cl : List (Str × Addr)) (fp : List Addr), PE (X.blk s H scope (compEnvC scope cl C X.env) fp) vx tv) (hs : ∀ x, foldedSetIterable iter X.env x = pure x := by intro _; rfl) :
    PS X (.Assign [.Name y py] (.DictComp kx vx [⟨tg, iter, ifs, 0⟩] scope pos) spos) (tAsg (tDc wi g tt tk tv (own.map (·.2))) (gName i)) := by
  constructor
  intro pins s σ H D I h
  rw [exec_Assign_Name_used _ _ _ _ sw]
  refine wpAny_bind (wpAny_standAt (wpAny_bind ?_))
  show wpAny _ X.A (do let _ ← comprehension (.DictComp kx vx [⟨tg, iter, ifs, 0⟩] scope pos) scope X.env (firstIterPos [⟨tg, iter, ifs, 0⟩] pos) newDict false (eval iter X.env) (some (assign (.Name y py) X.env))) _ _ s
  have want : tDc wi g tt tk tv (own.map (·.2)) σ H (fun x H1 => gName i x σ H1 D.nx) := h
  refine wpAny_bind (thn (dc_core (Qf := fun _ s' => SP X pins D .next s') calm nod I hi ok hg ht hk he hs want ?_) fun _ s' hq => wpAny_pure (wpAny_pure hq))
  intro L C s' m H' I' q hn fp
  show wpAny _ _ (assign (.Name y py) X.env (.ref L)) _ _ _
  refine wpAny_assign_Name (store_ok2 (v := V.ref L) I' nod at_ (.inl loc) rfl ?_ (.inr loc))
  rintro s2 I2 ⟨a, sb, ha⟩
  obtain ⟨f0, f1, f2, f3, f4, f5⟩ := fp
  have haC : C ≠ a := ha.elim (fun z => z ▸ f1) fun z e => f4 y a z e.symm
  refine ⟨m, hn.sameBut sb haC, fun h3 sb3 => ?_⟩
  exact ⟨_, H', I2.turned (t' := s2.toks) (fun b o hb e => (sb3.2 b hb).trans e) f0 f1 f3 f4 f5, q⟩
theorem sw_trueD {kx vx : Expr} {gs : List Comprehension} {scope : Scope} {pos py : Pos} {y : Str} {l : Nat} {env : Env} (hk : env.scope.kind = .function) (hy : env.scope.names.lookup y = some .local) (hl : (py.line == pos.line) = true)
    (ha : (scope.names.any fun (n, k) => n == y && (k == .local || k == .cell)) = false) : swapsWith (.DictComp kx vx gs scope pos) (some (.Name y py)) l env = pure true := by
  have ky : env.kindOf y = some .local := hy
  have hb : env.blockKind = .function := by
    unfold Env.blockKind
    rw [hk]
    rfl
  unfold swapsWith
  simp only [hb, ky, ha, Expr.pos, hl]
  rfl
end
end Ln
set_option Elab.async false
set_option linter.all false
set_option maxRecDepth 100000
set_option maxHeartbeats 4000000
namespace Ln
open PySem PySem.Spec PyProof.Rows L2
/-- a dict comprehension over a walk -/
theorem dc_it {J : It} {n : Nat} {G : Hp → Prop} {Y : Nat → Hp → V → Hp → Prop} (w : Walk J n G Y) {g : TG} {tt : TT} {tk tv : TE} {vs : List Nat} {σ : L2.St} {H1 : Hp} {D : Addr} {Qd : Hp → Prop} (Pv : Nat → Hp → Prop) (h0 : Pv 0 (upd H1 D (.dK []))) (hG : ∀ i H, i ≤ n → Pv i H → G H)
    (hs : ∀ i x H H', i < n → Pv i H → Y i H x H' → g x (wipe σ vs) H' fun σ2 H2 => wipe σ2 vs = wipe σ vs ∧ tt σ2 H2 fun b H3 =>
      if b = true then tk σ2 H3 fun y H4 => tv σ2 H4 fun z H5 => ∃ kvs k, y = kV k ∧ H5 D = some (.dK kvs) ∧ kvs.length < sizeLine ∧ Pv (i + 1) (upd H5 D (.dK (putK kvs k z))) else Pv (i + 1) H3) (hd : ∀ H, Pv n H → Qd H) :
    ∃ W : Nat → Nat → Hp → Prop, (∃ m, W 0 m (upd H1 D (.dK []))) ∧ ∀ i m H, W i m H →
      (J.stop i H ∧ Qd H) ∨ (J.go i H ∧ ∃ Nx : Hp → Prop, (∀ H', Nx H' → ∃ m', m' < m ∧ W (i + 1) m' H') ∧ ∀ x H', J.yld i H x H' → g x (wipe σ vs) H' fun σ2 H2 => wipe σ2 vs = wipe σ vs ∧ tt σ2 H2 fun b H3 =>
        if b = true then tk σ2 H3 fun y H4 => tv σ2 H4 fun z H5 => ∃ kvs k, y = kV k ∧ H5 D = some (.dK kvs) ∧ kvs.length < sizeLine ∧ Nx (upd H5 D (.dK (putK kvs k z))) else Nx H3) := by
  refine ⟨fun i m H => m = n - i ∧ i ≤ n ∧ Pv i H, ⟨n, by simp, Nat.zero_le _, h0⟩, ?_⟩
  rintro i m H ⟨rfl, hi, p⟩
  have q := hG i H hi p
  rcases Nat.lt_or_eq_of_le hi with lt | e
  · refine .inr ⟨w.goes i H lt q, Pv (i + 1), fun H' p' => ⟨n - (i + 1), by omega, rfl, lt, p'⟩, fun x H' y => ?_⟩
    exact hs i x H H' lt p (w.yields i H x H' lt q y)
  · subst e
    exact .inl ⟨w.stops H q, hd H p⟩
/-- a class that may be made by its name; sp: its own __init__ -/
structure MakG (P : Program) (w : World) (K : PySem.W.Frag) (mg : Str → Option Value) (base : Heap) (k : Nat) (x : Str) (C : Addr) (sp : Sp) : Prop where
  ex : ∃ (f : Addr) (fd : FuncData) (ps : List Str), Mk K C f ∧ FnOk P w K mg base CX0 k f fd ps sp ∧ mg x = some (.ref C) ∧ Binds K fd ps []
theorem pe_mkG {X : Cx} {j k : Nat} {C : Addr} {x : Str} {sp : Sp} {p pos : Pos} {e : Expr} {es : List Expr} {t : TA} (c : MakG X.prog X.w X.K X.mg X.base k x C sp) (hr : Room j X.A) (hk : k + 1 ≤ j) (hg : Gl X x) (ha : PA X (e :: es) t)
    (hdb : (x == ("__debug__" : Str)) = false := by decide) (he : starEach (e :: es) X.env = (false, eval e X.env) :: starEach es X.env := by rfl) (hpl : (backTo pos (starEach es X.env)).any (·.1) = false := by rfl) :
    PE X (.Call (.Name x p) (e :: es) [] pos) (tMake C sp [] E0 t) := by
  obtain ⟨f, fd, ps, M, F, hm, b⟩ := c.ex
  exact pe_make M F (hr.mono hk) hg hm b .nil pass0 ha hdb he hpl
end Ln
set_option Elab.async false
set_option linter.all false
set_option maxRecDepth 100000
set_option maxHeartbeats 4000000
namespace Ln
open PySem PySem.Spec PyProof.Rows L2
theorem each_eq {α : Type} : ∀ l : List α, PySem.W.EachIs (fun a b => a = b) l l
  | [] => .nil
  | _ :: l => .cons rfl (each_eq l)
theorem eq_each {α : Type} : ∀ {l m : List α}, PySem.W.EachIs (fun a b => a = b) l m → l = m
  | _, _, .nil => rfl
  | _, _, .cons e t => by rw [e, eq_each t]
theorem each_self {α : Type} {R : α → α → Prop} : ∀ {l : List α}, (∀ a ∈ l, R a a) → PySem.W.EachIs R l l
  | [], _ => .nil
  | a :: l, h => .cons (h a (by simp)) (each_self fun b hb => h b (by simp [hb]))
/-- a number and two texts in a tuple -/
def t3 (k : Int × PySem.Str × PySem.Str) : PyData := .tuple [.int k.1, .str k.2.1, .str k.2.2]
theorem t3_depth (k : Int × PySem.Str × PySem.Str) : (t3 k).depth = 1 := by simp [t3, PyData.depth, PyData.depthAll]
abbrev leT3 (k : V → Int × PySem.Str × PySem.Str) : V → V → Bool := PySem.W.dataLe false fun x => t3 (k x)
/-- sorted(xs), xs a list of tuples of a number and two texts -/
def rSorted3 (K : PySem.W.Frag) : List V → Hp → VK → Prop := fun vs H Q => ∃ (a : Addr) (xs : List V) (k : V → Int × PySem.Str × PySem.Str), vs = [V.ref a] ∧ SqL K H a xs ∧
  (∀ x ∈ xs, ∃ t, x = V.ref t ∧ H t = some (.tup [.int (k x).1, .str (k x).2.1, .str (k x).2.2])) ∧ ∀ p, H p = none → Q (.ref p) (upd H p (.lst (xs.mergeSort (leT3 k))))
variable {X : Cx}
theorem cr_sorted3 (hu : X.A.units + 8 < cLine) : CallR X (.builtin "sorted") (rSorted3 X.K) := by
  intro pins s σ H vs us Q I r h
  obtain ⟨a, xs, k, rfl, hs, hx, q⟩ := h
  obtain ⟨its, rv, hl, hz⟩ := I.list hs
  obtain ⟨u, rfl, ru⟩ := vals1 r
  obtain rfl : u = Value.ref a := ru
  obtain ⟨e1, e2⟩ := refs_back rv fun x m => by
    obtain ⟨t, e, _⟩ := hx x m
    exact ⟨t, e⟩
  have er : PySem.W.EachIs (fun v b => ∃ as, Reads s.heap v (t3 (k (backV b))) as) its its := each_self fun v hv => by
    obtain ⟨t, rfl⟩ := e2 v hv
    have hm : V.ref t ∈ xs := by rw [e1]; exact List.mem_map.mpr ⟨_, hv, rfl⟩
    obtain ⟨t', e, ht⟩ := hx _ hm
    cases e
    obtain ⟨_, its2, r2, o, ho, hc, n, hd⟩ := I.hok _ _ ht
    rcases r2 with _ | ⟨ri, r2⟩
    rcases r2 with _ | ⟨rj, r2⟩
    rcases r2 with _ | ⟨rk, r2⟩
    cases r2
    obtain ⟨t1, rfl⟩ := ri
    obtain ⟨t2, rfl⟩ := rj
    obtain ⟨t3, rfl⟩ := rk
    exact ⟨_, .tuple ho hc hd (.cons (.int _ _) (.cons (.str _ _) (.cons (.str _ _) .nil)))⟩
  refine PySem.W.sorted_data (R := fun a b => a = b) (enc := fun u => t3 (k (backV u))) hl.isList (each_eq its) er (PySem.W.AllAlike.of fun _ _ => by simp [PySem.W.alike, PySem.W.alikeAll, t3]) (PySem.W.Sortable.tuples fun _ => ⟨_, _, rfl⟩) (by rw [← rv.length]; exact hz) (fun b _ => by rw [t3_depth]; omega) fun out _ eo => ?_
  have eo := eq_each eo
  subst eo
  have em : (its.mergeSort (PySem.W.dataLe false fun u => t3 (k (backV u)))).map backV = xs.mergeSort (leT3 k) := by
    rw [e1]
    exact List.map_mergeSort fun _ _ _ _ => rfl
  obtain ⟨n, hn⟩ := sortedAll_at s.heap its (its.mergeSort (PySem.W.dataLe false fun u => t3 (k (backV u)))).toArray
  have h3 : ∀ u ∈ its.mergeSort (PySem.W.dataLe false fun u => t3 (k (backV u))), ∃ a, u = Value.ref a := fun u hu => e2 u ((List.mergeSort_perm _ _).mem_iff.mp hu)
  refine ⟨.ref _, upd H (s.heap.objs.size + 1) (.lst (xs.mergeSort (leT3 k))), I.laid (t' := s.toks) (fun b o e => sortedAll_old e) (Nat.le_succ _) ⟨?_, _, n, by rw [← em]; exact vals_back h3, hn⟩, rfl, q _ (I.hok.fresh (Nat.le_succ _))⟩
  rw [List.length_mergeSort]
  exact hz
end Ln
set_option Elab.async false
set_option linter.all false
set_option maxRecDepth 100000
set_option maxHeartbeats 4000000
namespace Ln
open PySem PySem.Spec PyProof.Rows L2 PySem.W
abbrev D3 := Int × PySem.Str × PySem.Str
/-- the order of such data -/
def leD : D3 → D3 → Bool := dataLe false t3
theorem dataLt_t3 (p q : D3) : dataLt (t3 p) (t3 q) = decide (p.1 < q.1 ∨ (p.1 = q.1 ∧ (p.2.1.cps.toList < q.2.1.cps.toList ∨ (p.2.1 = q.2.1 ∧ p.2.2.cps.toList < q.2.2.cps.toList)))) := by
  have e : PyProof.Rows.lexLt itemOrd (keyToksAll []) (keyToksAll []) = false := lex_irrefl _
  rw [t3, t3, dataLt_tuple, dataLt_cons (by simp [alike]), dataLt_cons (by simp [alike]), dataLt_cons (by simp [alike]), dataLt_int, dataLt_str, dataLt_str, e]
  simp only [PyData.eqv, beq_iff_eq]
  have hs : ∀ x : List Nat, ¬ x < x := fun x => List.lt_irrefl x
  by_cases h1 : p.1 = q.1 <;> by_cases h2 : p.2.1 = q.2.1 <;> by_cases h3 : p.2.2 = q.2.2 <;> simp [h1, h2, h3, hs]
theorem leD_eq (p q : D3) : leD p q = decide (p.1 < q.1 ∨ (p.1 = q.1 ∧ (p.2.1.cps.toList < q.2.1.cps.toList ∨ (p.2.1 = q.2.1 ∧ p.2.2.cps.toList ≤ q.2.2.cps.toList)))) := by
  show (!dataLt (t3 q) (t3 p)) = _
  rw [dataLt_t3, ← decide_not]
  refine decide_eq_decide.mpr ?_
  have t : ∀ x y : List Nat, ¬ x < y ↔ y ≤ x := fun x y => List.not_lt
  have u : ∀ x y : PySem.Str, x.cps.toList = y.cps.toList → x = y := fun x y h => by
    rcases x with ⟨⟨x⟩⟩; rcases y with ⟨⟨y⟩⟩; exact congrArg (fun l => (⟨⟨l⟩⟩ : PySem.Str)) h
  by_cases h1 : q.1 < p.1
  · simp [h1]; omega
  · by_cases h2 : q.1 = p.1
    · by_cases h3 : q.2.1 = p.2.1
      · simp [h1, h2, h3, List.lt_irrefl]
      · have h3' : ¬ p.2.1 = q.2.1 := fun h => h3 h.symm
        simp only [h2, h3, h3', Int.lt_irrefl, true_and, false_or, false_and, or_false, List.not_lt]
        constructor
        · intro h
          rcases List.le_iff_lt_or_eq.mp h with h | h
          · exact h
          · exact absurd (u _ _ h) h3'
        · exact fun h => List.le_of_lt h
    · have : p.1 < q.1 := by omega
      simp [h1, h2, this]
theorem leD_anti {p q : D3} (h1 : leD p q = true) (h2 : leD q p = true) : p = q := by
  rw [leD_eq] at h1 h2
  have h1 := of_decide_eq_true h1
  have h2 := of_decide_eq_true h2
  have u : ∀ x y : PySem.Str, x.cps.toList = y.cps.toList → x = y := fun x y h => by
    rcases x with ⟨⟨x⟩⟩; rcases y with ⟨⟨y⟩⟩; exact congrArg (fun l => (⟨⟨l⟩⟩ : PySem.Str)) h
  rcases p with ⟨a, b, c⟩
  rcases q with ⟨a', b', c'⟩
  simp only at h1 h2
  obtain rfl : a = a' := by omega
  have k1 := (h1.resolve_left (by omega)).2
  have k2 := (h2.resolve_left (by omega)).2
  rcases k1 with k1 | ⟨rfl, k1⟩
  · rcases k2 with k2 | ⟨e, _⟩
    · exact absurd k2 (List.lt_asymm k1)
    · subst e; exact absurd k1 (List.lt_irrefl _)
  · rcases k2 with k2 | ⟨_, k2⟩
    · exact absurd k2 (List.lt_irrefl _)
    · rw [u _ _ (List.le_antisymm k1 k2)]
theorem leD_total : TotalLe leD := sortLe_total (listOrd itemOrd) false _
/-- a list of such data in order -/
def srt3 (l : List D3) : List D3 := l.mergeSort leD
theorem srt3_pw (l : List D3) : (srt3 l).Pairwise fun a b => leD a b = true := List.pairwise_mergeSort (fun a b c => leD_total.trans a b c) (fun a b => by have := leD_total.total a b; simpa using this) l
theorem srt3_perm (l : List D3) : (srt3 l).Perm l := List.mergeSort_perm _ _
theorem srt3_one {l m : List D3} (h : l.Perm m) : srt3 l = srt3 m :=
  List.Perm.eq_of_pairwise (fun a b _ _ h1 h2 => leD_anti h1 h2) (srt3_pw l) (srt3_pw m) ((srt3_perm l).trans (h.trans (srt3_perm m).symm))
theorem srt3_srt3 (l : List D3) : srt3 (srt3 l) = srt3 l := srt3_one (srt3_perm l)
theorem srt3_map (k : V → D3) (xs : List V) : (xs.mergeSort (leT3 k)).map k = srt3 (xs.map k) := List.map_mergeSort fun _ _ _ _ => rfl
end Ln
set_option Elab.async false
set_option linter.all false
set_option maxRecDepth 100000
set_option maxHeartbeats 4000000
/-! len(set(names)), names a list of fewer than 63 texts, twice or not -/
namespace Ln
open PySem PySem.Spec PyProof.Rows L2
/-- one name more to those met so far -/
def meet (l : List PySem.Str) (x : PySem.Str) : List PySem.Str := if l.any (· == x) then l else l ++ [x]
def met (l : List PySem.Str) : List PySem.Str := l.foldl meet []
theorem met_snoc (l : List PySem.Str) (x : PySem.Str) : met (l ++ [x]) = meet (met l) x := by
  unfold met
  rw [List.foldl_append]
  rfl
theorem met_le : ∀ (n : Nat) (l : List PySem.Str), l.length = n → (met l).length ≤ n := by
  intro n
  induction n with
  | zero => intro l h; rw [List.eq_nil_of_length_eq_zero h]; exact Nat.le_refl _
  | succ n ih =>
    intro l h
    have ne : l ≠ [] := fun e => by rw [e] at h; cases h
    rw [← List.dropLast_concat_getLast ne, met_snoc]
    have := ih l.dropLast (by rw [List.length_dropLast]; omega)
    unfold meet
    split
    · omega
    · rw [List.length_append, List.length_singleton]; omega
theorem meet_any (l : List PySem.Str) (x k : PySem.Str) : (meet l x).any (· == k) = (l.any (· == k) || decide (k = x)) := by
  unfold meet
  by_cases h : l.any (· == x) = true
  · rw [if_pos h]
    by_cases e : k = x
    · rw [e, h]; rfl
    · rw [decide_eq_false e, Bool.or_false]
  · rw [if_neg h, List.any_append]
    by_cases e : k = x
    · rw [e, decide_eq_true rfl, List.any_cons, beq_self_eq_true, Bool.true_or]
    · rw [decide_eq_false e, List.any_cons, List.any_nil, Bool.or_false, beq_eq_false_iff_ne.mpr fun z => e z.symm]
theorem meet_len (l : List PySem.Str) (x : PySem.Str) : (meet l x).length = if l.any (· == x) then l.length else l.length + 1 := by
  unfold meet
  split
  · rfl
  · exact List.length_append
theorem met_mem (l : List PySem.Str) : ∀ k, (met l).any (· == k) = l.any (· == k) := by
  induction hn : l.length generalizing l with
  | zero => rw [List.eq_nil_of_length_eq_zero hn]; intro k; rfl
  | succ n ih =>
    intro k
    have ne : l ≠ [] := fun e => by rw [e] at hn; cases hn
    have e := List.dropLast_concat_getLast ne
    rw [← e, met_snoc, meet_any, ih l.dropLast (by rw [List.length_dropLast]; omega), List.any_append, List.any_cons, List.any_nil, Bool.or_false]
    congr 1
    by_cases c : k = l.getLast ne
    · rw [decide_eq_true c, ← c, beq_self_eq_true]
    · rw [decide_eq_false c, beq_eq_false_iff_ne.mpr fun z => c z.symm]
/-- as many as there are exactly if none stands twice -/
theorem met_all : ∀ l : List PySem.Str, ((met l).length = l.length ↔ l.Nodup) := by
  intro l
  induction hn : l.length generalizing l with
  | zero => rw [List.eq_nil_of_length_eq_zero hn]; simp [met]
  | succ n ih =>
    have ne : l ≠ [] := fun e => by rw [e] at hn; cases hn
    have e := List.dropLast_concat_getLast ne
    have ld : l.dropLast.length = n := by rw [List.length_dropLast]; omega
    have i2 := ih l.dropLast ld
    have le := met_le n l.dropLast ld
    have mm := met_mem l.dropLast (l.getLast ne)
    rw [← e, met_snoc, meet_len, mm, List.nodup_append]
    by_cases c : l.getLast ne ∈ l.dropLast
    · have h : l.dropLast.any (· == l.getLast ne) = true := List.any_eq_true.mpr ⟨_, c, beq_self_eq_true _⟩
      rw [if_pos h]
      constructor
      · intro z; omega
      · exact fun z => absurd rfl (z.2.2 _ c _ (List.mem_singleton.mpr rfl))
    · have h : ¬ l.dropLast.any (· == l.getLast ne) = true := fun z => by
        obtain ⟨y, hy, ey⟩ := List.any_eq_true.mp z
        rw [eq_of_beq ey] at hy
        exact c hy
      rw [if_neg h]
      constructor
      · intro z
        refine ⟨i2.mp (by omega), List.nodup_cons.mpr ⟨List.not_mem_nil, List.nodup_nil⟩, fun a ha b hb z => c ?_⟩
        rw [List.mem_singleton.mp hb] at z
        rw [← z]; exact ha
      · intro z
        have := i2.mpr z.1
        omega
section
variable {P : Program} {w : World} {A : Around} {Rr : Result → Shared → Prop} {It_ : Addr} {fp wr : List Addr} {G : Array GenState → Array GenState → Prop} {n : Nat} {Pw : Nat → Value → Prop} {Sw : Nat → Shared → Prop}
/-- the walk that puts the names into the set -/
theorem set_walk (W : WalksS P w A.in1 It_ fp wr G n Pw Sw) (a : Addr) (ha : a ∉ fp) (xs : List PySem.Str) (hl : xs.length = n) (hb : n + 1 < scanBound) (hv : ∀ j u, Pw j u → ∃ t, u = Value.str (xs.getD j Str.empty) t) (d : Nat) :
    ∀ (j : Nat) (s : Shared), n - j = d → j ≤ n → Sw j s → s.heap.SetOf (PySem.strKind P w) a (fun k => (met (xs.take j)).any (· == k)) (met (xs.take j)).length →
      (∀ s', Moved (a :: wr) G s s' → s'.heap.SetOf (PySem.strKind P w) a (fun k => (met xs).any (· == k)) (met xs).length → Rr (.ok (.ret .none)) s') →
      codeAny (model P w) A (.builtin "set.update.loop" ⟨[.ref a, .ref It_], []⟩) Rr s := by
  have aw : a ∉ wr := fun h => ha (W.sub _ h)
  induction d with
  | zero =>
    intro j s e1 e2 st hS fin
    obtain rfl : j = n := by omega
    refine codeAny_builtin PyProof.Rows.F.entry_set_update_loop ?_; rw [Around.under_plainId PyProof.Rows.F.plain_set_update_loop _]
    show wpAny _ A.in1 (pyNext (.ref It_) >>= _) _ _ s
    refine wpAny_bind (W.done s _ _ st fun s' mv => (?_ : wpAny _ A.in1 (ret Value.none) _ _ s'))
    rw [List.take_of_length_le (by omega)] at hS
    obtain ⟨o, es, ep, t, ho, more⟩ := hS
    exact wpAny_pure (fin s' (mv.mono fun b m => List.mem_cons_of_mem _ m) ⟨o, es, ep, t, mv.heap a _ aw ho, more⟩)
  | succ d ih =>
    intro j s e1 e2 st hS fin
    have lt : j < n := by omega
    refine codeAny_builtin PyProof.Rows.F.entry_set_update_loop ?_; rw [Around.under_plainId PyProof.Rows.F.plain_set_update_loop _]
    show wpAny _ A.in1 (pyNext (.ref It_) >>= _) _ _ s
    refine wpAny_bind (W.item j s _ _ lt st fun u s' pu st' mv => ?_)
    obtain ⟨t, rfl⟩ := hv j u pu
    obtain ⟨o, es, ep, tb, ho, more⟩ := hS
    show wpAny _ A.in1 (holding [Value.str (xs.getD j Str.empty) t] (setAdd a (.str (xs.getD j Str.empty) t)) >>= _) _ _ s'
    refine wpAny_bind (wpAny_holding (?_ : wpAny _ _ (setAdd a _) _ _ _))
    unfold setAdd
    refine wpAny_holding (wpAny_bind ((PySem.strKind P w).pyHash (k := xs.getD j Str.empty) (strKind_is _ _ _ _) ?_))
    have lm : (met (xs.take j)).length ≤ j := met_le _ _ (by rw [List.length_take]; omega)
    refine wpAny_setAddHashed_of (knd := PySem.strKind P w) (s := { s' with toks := s'.toks + 1 }) (strKind_is _ _ _ _) rfl ⟨o, es, ep, tb, mv.heap a _ aw ho, more⟩ (by omega) fun h' only hS2 => ?_
    have tk : xs.take (j + 1) = xs.take j ++ [xs.getD j Str.empty] := by
      rw [List.take_add_one, List.getElem?_eq_getElem (by omega), List.getD_eq_getElem?_getD, List.getElem?_eq_getElem (by omega)]; rfl
    have nx : h'.SetOf (PySem.strKind P w) a (fun k => (met (xs.take (j + 1))).any (· == k)) (met (xs.take (j + 1))).length := SetOf_congr hS2 (fun k => by rw [tk, met_snoc, meet_any]) (by rw [tk, met_snoc, meet_len])
    have fr : ∀ b ∈ fp, ∀ o, s'.heap.get? b = some o → h'.get? b = some o := fun b m o e => by rw [only.2 b fun z => ha (z ▸ m)]; exact e
    refine wpAny_pure ⟨plainId_quiet PyProof.Rows.F.plain_set_update_loop _, ih (j + 1) _ (by omega) lt (W.frame _ s' _ _ st' (Nat.le_succ _) fr) nx fun s2 mv2 hS3 => fin s2 (Moved.trans W.gtrans ((mv.mono fun b m => List.mem_cons_of_mem _ m).then_heap (Nat.le_succ _) fun b o nb e => ?_) mv2) hS3⟩
    rw [only.2 b fun z => nb (z ▸ List.mem_cons_self)]; exact e
end
section
variable {P : Program} {w : World} {A : Around} {E : Value → Shared → Prop} {s : Shared}
abbrev bare (led : Bool) : Obj := { cls := .type "set", dict := none, data := .set #[] 0 (.fresh 0 0 led) }
set_option maxHeartbeats 8000000 in
/-- set(l), l a list of texts -/
theorem call_set_names {l : Addr} {its : Array Value} {xs : List PySem.Str} {Q : Value → Shared → Prop} (hh : A.handled = none) (hl : s.heap.IsList l its) (hi : PyProof.Rows.StrsAre its.toList xs) (hb : its.size + 1 < scanBound)
    (fin : ∀ (h' : Heap) (tk : Nat), h'.SetOf (PySem.strKind P w) s.heap.objs.size (fun k => (met xs).any (· == k)) (met xs).length → (∀ b o, b < s.heap.objs.size → s.heap.get? b = some o → h'.get? b = some o) → Q (.ref s.heap.objs.size) { s with heap := h', toks := tk }) :
    wpAny (model P w) A (call (.type "set") [.ref l]) Q E s := by
  have hn : xs.length = its.size := by rw [← StrsAre.len_eq hi, Array.length_toList]
  obtain ⟨c, tl, k1⟩ := PySem.F.called_set.mro; have k2 := PySem.F.called_set.made; have k3 := PySem.F.called_set.sub
  refine wpAny_call (codeAny_of_tree (?_ : wpAny _ _ (callAny (.type "set") _) _ _ _))
  refine wpAny_pure ⟨Code.quiet_builtin _ (by decide +kernel), codeAny_builtin PySem.F.entry_type_call ?_⟩; rw [Around.under_plain (weight_type_call_type "set" [.ref l] []) rfl]
  have k4 := PySem.F.called_set.notType; have k5 := PySem.F.called_set.canCreate; have k6 := PySem.F.typeCall_set_1 (.ref l)
  repeat any_goals (first | assumption | wp_step)
  refine codeAny_mono (code_set_new_1 (.ref l) (E := E) (Q₁ := fun o t => ∃ led : Bool, o = .ref s.heap.objs.size ∧ t = { s with heap := s.heap.push (bare led) }) fun led => ⟨led, rfl, rfl⟩) fun r t hr => ?_
  rcases r with e | f
  · exact hr
  cases f with
  | ret o =>
    obtain ⟨led, rfl, rfl⟩ := hr
    have at0 : (s.heap.push (bare led)).get? s.heap.objs.size = some (bare led) := Heap.get?_push_size _ rfl
    have ty0 : Shared.TypeIs { s with heap := s.heap.push (bare led) } (.ref s.heap.objs.size) "set" := ⟨_, at0, rfl⟩
    have k7 := PySem.F.called_set.init.lookup; have k8 := PySem.F.called_set.init.bind (.ref s.heap.objs.size)
    repeat any_goals (first | assumption | wp_step)
    refine codeAny_mono (codeAny_call_builtin (R := wants (fun r t => r = .none ∧ ∃ h' tk, t = { s with heap := h', toks := tk } ∧ h'.SetOf (PySem.strKind P w) s.heap.objs.size (fun k => (met xs).any (· == k)) (met xs).length ∧ ∀ b o, b < s.heap.objs.size → s.heap.get? b = some o → h'.get? b = some o) E)
      PySem.F.called_set.init.plain PySem.F.entry_set_init (check_set_init_1 ty0 ?_)) fun r2 t2 hr2 => ?_
    · obtain ⟨⟨oc, od, ox, os⟩, ho, hc, nl, hd⟩ := hl
      simp only at hc hd; subst hc; subst hd
      have ho2 : (s.heap.push (bare led)).get? l = some { cls := .type "list", dict := od, data := .seq its nl, slots := os } := Heap.get?_push_of_some _ ho
      have l1 := PySem.F.sub_list_set; have l2 := PySem.F.sub_list_frozenset; have l3 : (Value.type "list" == Value.type "dict") = false := by decide
      have isl : (s.heap.push (bare led)).IsList l its := ⟨_, ho2, rfl, nl, rfl⟩
      unfold Builtin.«set.__init__» noKeywords Builtin.Frozenset.updateFrom; generalize hp : pyIter = pit; wp_walk; subst hp
      refine wpAny_pyIter_list isl (wpAny_bind (wpAny_runValue ?_))
      have lt : l < s.heap.objs.size := Heap.lt_size ho
      have ne1 : l ≠ (s.heap.push (bare led)).objs.size := by rw [Heap.size_push]; exact Nat.ne_of_lt (Nat.lt_succ_of_lt lt)
      have no1 : s.heap.objs.size ∉ [(s.heap.push (bare led)).objs.size, l] := by
        rw [Heap.size_push]; intro m; rcases List.mem_cons.mp m with e | m
        · exact Nat.ne_of_lt (Nat.lt_succ_self _) e
        · exact Nat.ne_of_gt lt (List.mem_singleton.mp m)
      refine set_walk ((Walks.list (by simp [hh] : A.in1.in1.in1.handled = none) _ l ne1 its).toS) s.heap.objs.size no1 xs hn hb (fun j u hu => SS.strs_at hi j u (by rw [Array.getElem?_toList]; exact hu)) (its.size - 0) 0 _ (by omega) (Nat.zero_le _) ⟨⟨_, Heap.get?_push_size _ rfl, rfl, rfl⟩, isl.push _⟩ ?_ fun t3 mv hS => ?_
      · exact SetOf_congr ((setObjOf_fresh (knd := PySem.strKind P w) led).setOf (Heap.get?_push_of_some _ at0) (by unfold scanBound; omega)) (fun _ => rfl) rfl
      · obtain ⟨h3, g3, d3, tk3, os3⟩ := t3
        have eg : g3 = s.gens := mv.gens; have ed : d3 = s.drawn := mv.drawn; have eo : os3 = s.os := mv.os
        subst eg; subst ed; subst eo
        show wpAny _ _ _ _ _ _; refine wpAny_pure ?_; show wpAny _ _ (ret Value.none) _ _ _; refine wpAny_pure ⟨rfl, h3, tk3, rfl, hS, fun b o hb e => ?_⟩
        refine mv.heap b o (fun m => ?_) (Heap.get?_push_of_some _ (Heap.get?_push_of_some _ e))
        rw [Heap.size_push] at m; rcases List.mem_cons.mp m with z | m
        · exact Nat.ne_of_lt hb z
        · exact Nat.ne_of_lt (Nat.lt_succ_of_lt hb) (List.mem_singleton.mp m)
    · rcases r2 with e | f2
      · exact hr2
      cases f2 with
      | ret r =>
        obtain ⟨rfl, h3, tk3, rfl, hS, old⟩ := hr2
        repeat any_goals (first | assumption | wp_step)
        exact fin _ _ hS old
      | _ => exact hr2.elim
  | _ => exact hr.elim
end
section
variable {X : Cx}
def tLenNames (K : PySem.W.Frag) (ta : TE) : TE := fun σ H Q => ta σ H fun x H1 => ∃ (l : Addr) (xs : List PySem.Str), x = .ref l ∧ SqL K H1 l (xs.map V.str) ∧ xs.length ≤ 60 ∧ Q (.int ((met xs).length : Nat)) H1
theorem pe_lenNames {a : Expr} {ta : TE} {p p2 q pos : Pos} (hc : X.calm = true) (hg : Gl X "len") (hm : X.mg "len" = none) (hg2 : Gl X "set") (hm2 : X.mg "set" = none) (ha : PE X a ta)
    (na : starEach [a] X.env = (false, eval a X.env) :: starEach [] X.env := by rfl) : PE X (.Call (.Name "len" p) [.Call (.Name "set" p2) [a] [] q] [] pos) (tLenNames X.K ta) := by
  refine ⟨fun pins s σ H Q I h => Call_ (ld_blt I hg hm boot_len (PyProof.Rows.callWith_builtin1 (PyProof.Rows.args_cons ?_ rfl) rfl rfl))⟩
  refine Call_ (ld_blt I hg2 hm2 boot_set (PyProof.Rows.callWith_type1 (PyProof.Rows.args_cons (thn (ha.run pins s σ H _ I h) fun v s1 ⟨x, H1, I1, r1, q1⟩ => PyProof.Rows.args_nil ?_) na) na rfl))
  obtain ⟨l, xs, rfl, hq, h1, q1⟩ := q1
  cases r1
  obtain ⟨its, r, pl, hz⟩ := I1.list hq
  have ln : its.toArray.size = xs.length := by rw [List.size_toArray, ← r.length, List.length_map]
  refine call_set_names (I1.ok.hd hc) pl.isList (by simpa using strsAre_of r) (by rw [ln]; unfold scanBound; omega) fun h' tk hS hk => PyProof.Rows.args_nil ?_
  obtain ⟨o, es, ep, t, ho, hex, hd, _, _, _, hf, hn⟩ := hS
  have le := met_le _ xs rfl
  exact call_len_set ho hex hd hf (by rw [hn]; omega) ⟨.int (met xs).length, H1, (I1.kept (t' := tk) fun b o e => hk b o (Heap.lt_size e) e).tok _, ⟨_, by rw [hn]⟩, q1⟩
end
end Ln
set_option Elab.async false
set_option linter.all false
set_option maxRecDepth 100000
set_option maxHeartbeats 4000000
/-! min(ns, default=None), ns a list of whole numbers, empty or not -/
namespace Ln
open PySem PySem.Spec PyProof.Rows L2 PySem.W
/-- the least of a list, none of an empty one -/
def least : List Int → Option Int
  | [] => none
  | n :: ns => some (ns.foldl min n)
def vOf : Option Int → V
  | none => .non
  | some m => .int m
def rMinD (K : PySem.W.Frag) : List V → List V → Hp → VK → Prop := fun vs zs H Q => ∃ (a : Addr) (ns : List Int), vs = [V.ref a] ∧ zs = [V.non] ∧ SqL K H a (ns.map V.int) ∧ Q (vOf (least ns)) H
theorem reads_vals {h : Heap} : ∀ {ns : List Int} {us : List Value}, Vals (ns.map V.int) us → ReadsAll h us (ns.map .int) []
  | [], _, .nil => .nil
  | n :: ns, _, .cons r t => by
    obtain ⟨k, rfl⟩ := r
    exact .cons (as := []) (.int n k) (reads_vals t)
theorem depth_ints : ∀ ns : List Int, PyData.depthAll (ns.map .int) = 0
  | [] => by simp only [List.map_nil, PyData.depthAll]
  | n :: ns => by simp only [List.map_cons, PyData.depthAll, PyData.depth, depth_ints ns, Nat.max_self]
theorem alike_ints (ns : List Int) : AlikeAll (ns.map PyData.int) :=
  ⟨fun x hx y hy => by
    obtain ⟨i, _, rfl⟩ := List.mem_map.mp hx
    obtain ⟨j, _, rfl⟩ := List.mem_map.mp hy
    simp [alike], fun x hx => by
    obtain ⟨i, _, rfl⟩ := List.mem_map.mp hx
    exact nofun⟩
theorem cr_minD {X : Cx} (hc : X.calm = true) (hu : X.A.units + 8 < cLine) : CallRK X (.builtin "min") [Str.ofString "default"] (rMinD X.K) := by
  intro pins s σ H vs zs us ws Q I r rz h
  obtain ⟨a, ns, rfl, rfl, hs, q⟩ := h
  obtain rfl := Vals.ref1 r
  obtain ⟨w1, rfl, e1⟩ := vals1 rz
  obtain rfl : w1 = Value.none := e1
  obtain ⟨its, rv, pl, hz⟩ := I.list hs
  refine min_list_default (xs := ns.map .int) (as := []) (I.ok.hd hc) pl.isList (by simpa using reads_vals rv) (alike_ints ns) (by rw [depth_ints]; omega) (fun e h' tk hk => ?_) fun y ys i v h' tk bs e hv hr hk => ?_
  · obtain rfl : ns = [] := List.map_eq_nil_iff.mp e
    exact ⟨.non, H, I.kept (t' := tk) fun b o e => hk b o e, rfl, q⟩
  · cases ns with
    | nil => cases e
    | cons n ns =>
      rw [List.map_cons] at e
      injection e with e1 e2
      subst e1; subst e2
      rw [minD_ints] at hr
      cases hr with
      | int _ t => exact ⟨.int (ns.foldl min n), H, I.kept (t' := tk) fun b o e => hk b o e, ⟨t, rfl⟩, q⟩
theorem foldl_min : ∀ (ns : List Int) (n : Int), (∀ m ∈ ns, ns.foldl min n ≤ m) ∧ ns.foldl min n ≤ n ∧ (ns.foldl min n = n ∨ ns.foldl min n ∈ ns)
  | [], n => ⟨nofun, Int.le_refl _, .inl rfl⟩
  | k :: ns, n => by
    obtain ⟨h1, h2, h3⟩ := foldl_min ns (min n k)
    rw [List.foldl_cons]
    refine ⟨fun m hm => ?_, by omega, ?_⟩
    · rcases List.mem_cons.mp hm with rfl | hm
      · omega
      · exact h1 m hm
    · rcases h3 with h3 | h3
      · rw [h3]
        rcases Int.le_total n k with c | c
        · exact .inl (by omega)
        · exact .inr (List.mem_cons.mpr (.inl (by omega)))
      · exact .inr (List.mem_cons_of_mem _ h3)
end Ln
set_option Elab.async false
set_option linter.all false
set_option maxRecDepth 100000
set_option maxHeartbeats 4000000
/-! t[::-1], t a tuple -/
namespace HT
open PySem PySem.Spec PyProof.Rows
section
variable {P : Program} {w : World} {A : Around} {E : Value → Shared → Prop} {s : Shared}
theorem applied_back {sl : Addr} {t : Tok} {n : Nat} {Q : Int × Int × Nat → Shared → Prop} (hs : s.heap.IsSliceOf sl .none .none (.int (-1) t)) (h : Q ((n : Int) - 1, -1, n) s) : wpAny (model P w) A (Builtin.Slice.sliceApplied (.ref sl) (pure (n : Int))) Q E s := by
  obtain ⟨os, hos, hcs, hds⟩ := id hs
  unfold Builtin.Slice.sliceApplied Builtin.Slice.sliceFields
  refine wpAny_bind (wpAny_bind (wpAny_field hos hds (x := .none) rfl (wpAny_bind (wpAny_field hos hds (x := .none) rfl (wpAny_bind (wpAny_field hos hds (x := .int (-1) t) rfl (wpAny_pure ?_)))))))
  refine wpAny_bind (slicePart_int ?_)
  show wpAny _ _ (if ((-1 : Int) == 0) = true then _ else _) _ _ s
  rw [if_neg (by decide)]
  refine wpAny_bind (slicePart_none (wpAny_bind (slicePart_none (wpAny_bind (wpAny_pure ?_)))))
  show wpAny _ _ (match Builtin.Slice.sliceAdjust none none (-1) (n : Int) with | (lo, hi) => pure (lo, (-1 : Int), Builtin.Slice.slicePlaces lo hi (-1))) _ _ s
  have e1 : Builtin.Slice.sliceAdjust none none (-1) (n : Int) = ((n : Int) - 1, -1) := by
    unfold Builtin.Slice.sliceAdjust
    simp
  have e2 : Builtin.Slice.slicePlaces ((n : Int) - 1) (-1) (-1) = n := by
    unfold Builtin.Slice.slicePlaces
    simp
    try omega
  rw [e1]
  show wpAny _ _ (pure ((n : Int) - 1, (-1 : Int), Builtin.Slice.slicePlaces ((n : Int) - 1) (-1) (-1))) _ _ s
  rw [e2]
  exact wpAny_pure h
theorem fm_map {α β : Type} {f : α → Option β} {g : α → β} : ∀ l : List α, (∀ x ∈ l, f x = some (g x)) → l.filterMap f = l.map g
  | [], _ => rfl
  | x :: l, h => by
    rw [List.filterMap_cons, h x List.mem_cons_self, List.map_cons, fm_map l fun y hy => h y (List.mem_cons_of_mem _ hy)]
theorem pick_back (xs : Array Value) : ((List.range xs.size).filterMap fun (k : Nat) => xs[(((xs.size : Nat) : Int) - 1 + (k : Int) * (-1)).toNat]?).toArray = xs.toList.reverse.toArray := by
  congr 1
  refine List.ext_getElem? fun i => ?_
  have e : ((List.range xs.size).filterMap fun (k : Nat) => xs[(((xs.size : Nat) : Int) - 1 + (k : Int) * (-1)).toNat]?) = (List.range xs.size).map fun k => xs.getD (xs.size - 1 - k) .none := by
    refine fm_map _ fun k hk => ?_
    have hk := List.mem_range.mp hk
    rw [show (((xs.size : Nat) : Int) - 1 + (k : Int) * (-1)).toNat = xs.size - 1 - k by omega]
    have hlt : xs.size - 1 - k < xs.size := by omega
    rw [Array.getElem?_eq_getElem hlt, Array.getD_eq_getD_getElem?, Array.getElem?_eq_getElem hlt]
    rfl
  rw [e]
  by_cases c : i < xs.size
  · rw [List.getElem?_map, List.getElem?_range c, List.getElem?_reverse (by simpa using c)]
    have hlt : xs.size - 1 - i < xs.size := by omega
    rw [Array.length_toList, Array.getElem?_toList, Array.getElem?_eq_getElem hlt]
    show some (xs.getD (xs.size - 1 - i) .none) = _
    rw [Array.getD_eq_getD_getElem?, Array.getElem?_eq_getElem hlt]
    rfl
  · rw [List.getElem?_eq_none (by simp; omega), List.getElem?_eq_none (by simp; omega)]
theorem getItem_back {t sl : Addr} {items : Array Value} {u : Tok} {Q : Value → Shared → Prop} (ht : IsTup s.heap t items) (hs : s.heap.IsSliceOf sl .none .none (.int (-1) u)) (hsz : items.size ≤ sizeLine)
    (h : Q (.ref s.heap.objs.size) { s with heap := s.heap.push { cls := .type "tuple", data := .seq items.toList.reverse.toArray } }) : wpAny (model P w) A (getItem (.ref t) (.ref sl)) Q E s := by
  obtain ⟨os, hos, hcs, hds⟩ := id hs
  have tys : s.TypeIs (.ref sl) "slice" := ⟨os, hos, hcs⟩
  have fit : sizeOk (.seq items.toList.reverse.toArray) := by
    show items.toList.reverse.toArray.size ≤ sizeLine
    rw [List.size_toArray, List.length_reverse, Array.length_toList]; exact hsz
  unfold getItem
  try with_reducible refine wpAny_holding ?_
  first | refine wpAny_bind (wpAny_pure ?_) | skip
  refine wpAny_bind (wpAny_sequenceKey ht.typeIs (by decide) (wpAny_bind (wpAny_callSpecial?_slot (name := Str.ofString "__getitem__") ht.typeIs PyProof.Rows.slot_tuple_getitem (wpAny_call_entry PyProof.Rows.slot_tuple_getitem ht.typeIs entry_tuple_getitem ?_ (args_tuple_getitem _ _)))))
  show wpAny _ _ (Builtin.Tuple.tupleItemsOf (.ref t) >>= _) _ _ s
  refine wpAny_bind (tupleItemsOf_ ht (wpAny_bind (wpAny_typeOf tys ?_)))
  rw [if_pos (by decide)]
  refine wpAny_bind (applied_back hs ?_)
  have no : ¬ ((((items.size : Nat) : Int) - 1 == 0 && (-1 : Int) == 1 && items.size == items.size) = true) := by
    rw [show ((-1 : Int) == 1) = false by decide, Bool.and_false, Bool.false_and]
    exact Bool.false_ne_true
  show wpAny _ _ (if (((items.size : Nat) : Int) - 1 == 0 && (-1 : Int) == 1 && items.size == items.size) = true then _ else _) _ _ s
  rw [if_neg no, pick_back]
  first
    | exact wpAny_bind (m := Builtin.Tuple.tupleExact _) (wpAny_newObj_type (wpAny_pure ⟨_, rfl, wpAny_pure h⟩) fit)
    | exact wpAny_bind (m := Builtin.Tuple.tupleExact _) (wpAny_newObj_type (wpAny_bind (wpAny_pure (wpAny_pure ⟨_, rfl, wpAny_pure h⟩))) fit)
    | exact wpAny_bind (wpAny_bind (m := Builtin.Tuple.tupleExact _) (wpAny_newObj_type (wpAny_pure (wpAny_pure ⟨_, rfl, wpAny_pure h⟩)) fit))
    | exact wpAny_bind (wpAny_bind (m := Builtin.Tuple.tupleExact _) (wpAny_newObj_type (wpAny_pure ⟨_, rfl, wpAny_pure h⟩) fit))
end
end HT
namespace Ln
open PySem PySem.Spec PyProof.Rows L2
section
variable {X : Cx}
def tRevT (K : PySem.W.Frag) (te : TE) : TE := fun σ H Q => te σ H fun x H1 => ∃ a xs, x = .ref a ∧ SqT K H1 a xs ∧ ∀ p, H1 p = none → Q (.ref p) (upd H1 p (.tup xs.reverse))
theorem pe_revT {e : Expr} {te : TE} {k : Nat} {p1 p2 p3 pos : Pos} (he : PE X e te) : PE X (.Subscript e (.Slice none none (some (.UnaryOp .USub (.Constant (.int 1) k p1) p2)) p3) pos) (tRevT X.K te) := by
  refine ⟨fun pins s σ H Q I h => Subscript_ (thn (he.run pins s σ H _ I h) fun v s1 ⟨x, H1, I1, r1, q1⟩ => ?_)⟩
  obtain ⟨a, xs, ex, hx, q⟩ := q1
  subst ex
  cases r1
  have stp : PO X (some (.UnaryOp .USub (.Constant (.int 1) k p1) p2)) (tPart (tUn (rU fun i => .int (-i)) (tC (.int 1)))) := po_some (pe_un un_neg pe_int)
  refine wpAny_Slice (thn (po_none.run pins s1 σ H1 (fun o H2 => o = none ∧ H2 = H1) I1 ⟨rfl, rfl⟩) fun vl s2 ⟨l, H2, I2, pl, el, e2⟩ => ?_)
  subst el e2
  refine thn (po_none.run pins s2 σ H2 (fun o H3 => o = none ∧ H3 = H2) I2 ⟨rfl, rfl⟩) fun vu s3 ⟨u, H3, I3, pu, eu, e3⟩ => ?_
  subst eu e3
  refine thn (stp.run pins s3 σ H3 (fun o H4 => o = some (-1) ∧ H4 = H3) I3 ⟨1, rfl, -1, rfl, rfl, rfl⟩) fun vs s4 ⟨o, H4, I4, ps, eo, e4⟩ => ?_
  subst eo e4
  obtain rfl : vl = Value.none := by cases pl; rfl
  obtain rfl : vu = Value.none := by cases pu; rfl
  obtain ⟨tk, rfl⟩ : ∃ tk, vs = Value.int (-1) tk := by cases ps; exact ⟨_, rfl⟩
  have I5 : L2.Inv X pins σ H4 { s4 with heap := s4.heap.push { cls := .type "slice", data := .fields #[.none, .none, .int (-1) tk] } } := I4.kept (t' := s4.toks) fun b ob q => Heap.get?_push_of_some _ q
  obtain ⟨its, r, ht, hz⟩ := I5.tuple hx
  have hlen := r.length
  show wpAny (model X.prog X.w) X.A (subscriptTail e (.Slice none none (some (.UnaryOp .USub (.Constant (.int 1) k p1) p2)) p3) (.ref a) (.ref s4.heap.objs.size)) (EP X pins σ Q) X.xe { s4 with heap := s4.heap.push { cls := .type "slice", data := .fields #[.none, .none, .int (-1) tk] } }
  refine tail_any (ops := [.ref a, .ref s4.heap.objs.size]) ht.typeIs (PyProof.Rows.slot_tuple_getitem.lookup) (HT.getItem_back ht (Heap.IsSliceOf.new _ _ _ _) (by rw [List.size_toArray]; omega) ?_) (by with_unfolding_all rfl)
  refine ⟨.ref _, _, I5.laid (t' := s4.toks) (o := .tup xs.reverse) (fun b ob q => Heap.get?_push_of_some _ q) (Nat.le_refl _) ?_, rfl, q _ (I5.hok.fresh (Nat.le_refl _))⟩
  exact ⟨by rw [List.length_reverse]; exact hz, _, r.reverse, IsTup.new _ _⟩
end
end Ln
set_option Elab.async false
set_option linter.all false
set_option maxRecDepth 100000
set_option maxHeartbeats 4000000
/-! x in y, x and the items data, y a list or a tuple -/
namespace Ln
open PySem PySem.Spec PyProof.Rows L2
theorem Room.un65 {k : Nat} {A : Around} (r : Room k A) : A.units + 65 < cLine := by have := r.un; omega
section
variable {X : Cx}
def rInDT (K : PySem.W.Frag) (neg : Bool) : R2 := fun x y H Q => ∃ d ds, Dp K H x d ∧ (Dp K H y (.list ds) ∨ Dp K H y (.tuple ds)) ∧ SeqAt.shaped d = true ∧ PyData.canLayAll0 ds = true ∧ Q (.bl (if neg then !ds.any (fun z => PyData.eqv z d) else ds.any fun z => PyData.eqv z d)) H
theorem op_inDT (hu : X.A.units + 65 < cLine) : OpR X (compareOp .In) (rInDT X.K false) := by
  intro pins s σ H x y v u Q I rx ry h
  obtain ⟨d, ds, hd, he, sd, se, q⟩ := h
  obtain ⟨as, r1⟩ := Dp.reads I d x v hd rx
  rcases he with he | he
  · obtain ⟨bs, r2⟩ := Dp.reads I (.list ds) y u he ry
    exact SeqAt.in_list_reads r2 r1 se (SeqAt.canLay_of_shaped sd) (room_in_shaped sd hu) ⟨.bl _, H, I, rfl, q⟩
  · obtain ⟨bs, r2⟩ := Dp.reads I (.tuple ds) y u he ry
    exact SeqAt.in_tuple_reads r2 r1 se (SeqAt.canLay_of_shaped sd) (room_in_shaped sd hu) ⟨.bl _, H, I, rfl, q⟩
theorem op_notInDT (hu : X.A.units + 65 < cLine) : OpR X (compareOp .NotIn) (rInDT X.K true) := by
  intro pins s σ H x y v u Q I rx ry h
  obtain ⟨d, ds, hd, he, sd, se, q⟩ := h
  obtain ⟨as, r1⟩ := Dp.reads I d x v hd rx
  rcases he with he | he
  · obtain ⟨bs, r2⟩ := Dp.reads I (.list ds) y u he ry
    exact SeqAt.notIn_list_reads r2 r1 se (SeqAt.canLay_of_shaped sd) (room_in_shaped sd hu) ⟨.bl _, H, I, rfl, q⟩
  · obtain ⟨bs, r2⟩ := Dp.reads I (.tuple ds) y u he ry
    exact SeqAt.notIn_tuple_reads r2 r1 se (SeqAt.canLay_of_shaped sd) (room_in_shaped sd hu) ⟨.bl _, H, I, rfl, q⟩
end
end Ln
set_option Elab.async false
set_option linter.all false
set_option maxRecDepth 100000
set_option maxHeartbeats 4000000
/-! walks inside a comprehension: the fragment named -/
namespace Ln
open PySem PySem.Spec PyProof.Rows L2
section
variable {X : Cx} {K : PySem.W.Frag} {tg : Expr}
theorem pi_tupK {l : Expr} {tl : TE} (hl : PE X l tl) (hk : X.K = K := by rfl) : PI X tg l (iTup K tl) := by
  subst hk
  exact pi_tup hl
theorem pe_fldK {e : Expr} {ta : TE} {f : Str} {pos : Pos} (he : PE X e ta) (hb : attributeBase e f X.env (eval e X.env) = eval e X.env) (hk : X.K = K := by rfl) : PE X (.Attribute e f pos) (tFld K ta f) := by
  subst hk
  exact pe_fld he hb
theorem pe_bmK {T : String} {name : Str} {id : String} {r : V → List V → Hp → VK → Prop} {o e : Expr} {es : List Expr} {to : TE} {t : TA} {apos cpos : Pos} (pa : PlainAttrs T) (slot : Slot T name id) (hty : typeOf (.builtin id) = pure (.type "method_descriptor")) (hm : MtR X id r) (ho : PE X o to) (ha : PA X (e :: es) t)
    (hbase : attributeBase o name X.env (eval o X.env) = eval o X.env := by rfl)
    (hfew : ((backTo cpos (starEach (e :: es) X.env)).all (fun x => !x.1) && (backToKw cpos (keywordEach [] X.env)).all (fun x => x.1.isSome)
      && decide ((e :: es).length + ([] : List Keyword).length + (if ([] : List Keyword).isEmpty then 0 else 1) < 30)) = true := by rfl)
    (hline : (apos.endLine == cpos.line) = true := by rfl) (hs : starEach (e :: es) X.env = (false, eval e X.env) :: starEach es X.env := by rfl) (hplain : (backTo cpos (starEach es X.env)).any (·.1) = false := by rfl) (hk : X.K = K := by rfl) :
    PE X (.Call (.Attribute o name apos) (e :: es) [] cpos) (tBM K T r to t) := by
  subst hk
  exact pe_bm pa slot hty hm ho ha hbase hfew hline hs hplain
theorem mt_indexK (hk : X.K = K := by rfl) : MtR X "list.index" (rIndex K) := by
  subst hk
  exact mt_index
theorem pi_listK {l : Expr} {tl : TE} (hl : PE X l tl) (hk : X.K = K := by rfl) : PI X tg l (iList K tl) := by
  subst hk
  exact pi_list hl
theorem pi_enumTK {e : Expr} {ta : TA} {p pos tpos : Pos} {elts : List Expr} {kk : Nat} (hg : Gl X "enumerate") (hm : X.mg "enumerate" = none) (ha : PA X [e] ta) (hs : starEach [e] X.env = [(false, eval e X.env)] := by rfl) (hk : X.K = K := by rfl) :
    PI X (.Tuple elts kk tpos) (.Call (.Name "enumerate" p) [e] [] pos) (iEnumT K ta) := by
  subst hk
  exact pi_enumT hg hm ha hs
theorem pi_enumK {e : Expr} {ta : TA} {p pos tpos : Pos} {elts : List Expr} {kk : Nat} (hg : Gl X "enumerate") (hm : X.mg "enumerate" = none) (ha : PA X [e] ta) (hs : starEach [e] X.env = [(false, eval e X.env)] := by rfl) (hk : X.K = K := by rfl) :
    PI X (.Tuple elts kk tpos) (.Call (.Name "enumerate" p) [e] [] pos) (iEnum K ta) := by
  subst hk
  exact pi_enum hg hm ha hs
end
end Ln
set_option Elab.async false
set_option linter.all false
set_option maxRecDepth 100000
set_option maxHeartbeats 4000000
/-! written values: tuples of tuples and of what stands -/
namespace Ln
open PySem PySem.Spec PyProof.Rows L2
section
variable {K : PySem.W.Frag} {σ : L2.St} {H0 : Hp}
/-- an expression that gives this data, whatever was made before it -/
structure LitE (K : PySem.W.Frag) (σ : L2.St) (H0 : Hp) (te : TE) (d : PyData) : Prop where
  st : ∀ H H' v, Same H H' → Dp K H v d → Dp K H' v d
  run : ∀ H Q, Same H0 H → (∀ v H', Same H H' → Dp K H' v d → Q v H') → te σ H Q
structure LitA (K : PySem.W.Frag) (σ : L2.St) (H0 : Hp) (ta : TA) (ds : List PyData) : Prop where
  st : ∀ H H' vs, Same H H' → DpAll K H vs ds → DpAll K H' vs ds
  run : ∀ H Q, Same H0 H → (∀ vs H', Same H H' → DpAll K H' vs ds → Q vs H') → ta σ H Q
theorem LitE.non : LitE K σ H0 (tC .non) .none := ⟨fun _ _ _ _ h => by cases h; exact .non, fun H Q _ q => q _ H (Same.refl H) .non⟩
theorem LitE.int (i : Int) : LitE K σ H0 (tC (.int i)) (.int i) := ⟨fun _ _ _ _ h => by cases h; exact .int i, fun H Q _ q => q _ H (Same.refl H) (.int i)⟩
theorem LitE.bl (i : Bool) : LitE K σ H0 (tC (.bl i)) (.bool i) := ⟨fun _ _ _ _ h => by cases h; exact .bl i, fun H Q _ q => q _ H (Same.refl H) (.bl i)⟩
theorem LitE.str (i : Str) : LitE K σ H0 (tC (.str i)) (.str i) := ⟨fun _ _ _ _ h => by cases h; exact .str i, fun H Q _ q => q _ H (Same.refl H) (.str i)⟩
theorem LitE.var {i : Nat} {v : V} {d : PyData} (e : σ[i]? = some (some v)) (h : Dp K H0 v d) (st : ∀ H H' v, Same H H' → Dp K H v d → Dp K H' v d) : LitE K σ H0 (tVar i) d :=
  ⟨st, fun H Q s q => ⟨v, e, q v H (Same.refl H) (st _ _ _ s h)⟩⟩
theorem LitA.nil : LitA K σ H0 tNil [] := ⟨fun _ _ _ _ h => by cases h; exact .nil, fun H Q _ q => q _ H (Same.refl H) .nil⟩
theorem LitA.cons {te : TE} {ta : TA} {d : PyData} {ds : List PyData} (a : LitE K σ H0 te d) (b : LitA K σ H0 ta ds) : LitA K σ H0 (tCons te ta) (d :: ds) :=
  ⟨fun H H' vs s h => by cases h with | cons x y => exact .cons (a.st _ _ _ s x) (b.st _ _ _ s y),
   fun H Q s q => a.run H _ s fun v H1 s1 h1 => b.run H1 _ (s.trans s1) fun vs H2 s2 h2 => q _ H2 (s1.trans s2) (.cons (a.st _ _ _ s2 h1) h2)⟩
theorem DpAll.lenL {H : Hp} : ∀ {xs : List V} {ds : List PyData}, DpAll K H xs ds → xs.length = ds.length
  | _, [], h => by cases h; rfl
  | _, d :: ds, h => by cases h with | cons a b => simp [DpAll.lenL b]
theorem LitE.tup {ta : TA} {ds : List PyData} (h : LitA K σ H0 ta ds) (l : ds.length ≤ 1000) : LitE K σ H0 (tTup ta) (.tuple ds) :=
  ⟨fun H H' v s k => by cases k with | tup a b => exact .tup (Same.tup s a) (h.st _ _ _ s b),
   fun H Q s q => h.run H _ s fun vs H1 s1 h1 => ⟨by rw [DpAll.lenL h1]; exact Nat.le_trans l (by decide), fun p np => q (.ref p) _ (s1.trans (Ln.same_upd np)) (.tup (SqT.of upd_same) (h.st _ _ _ (Ln.same_upd np) h1))⟩⟩
/-- a written list -/
theorem LitA.lst {ta : TA} {ds : List PyData} (h : LitA K σ H0 ta ds) (l : ds.length ≤ 1000) {H : Hp} {Q : VK} (s : Same H0 H) (q : ∀ p us H', Same H H' → H p = none → H' p = some (.lst us) → DpAll K H' us ds → Q (.ref p) H') : tLst ta σ H Q :=
  h.run H _ s fun vs H1 s1 h1 => ⟨by rw [DpAll.lenL h1]; exact Nat.le_trans l (by decide), fun p np => q p vs _ (s1.trans (Ln.same_upd np)) (s1.free np) upd_same (h.st _ _ _ (Ln.same_upd np) h1)⟩
end
end Ln
set_option Elab.async false
set_option linter.all false
set_option maxRecDepth 100000
set_option maxHeartbeats 4000000
/-! d.update(e) -/
namespace Ln
open PySem PySem.Spec PyProof.Rows L2
section
variable {X : Cx}
def rDUpd : V → List V → Hp → VK → Prop := fun x xs H Q => ∃ (a b : Addr) (kvs more : List (Key × V)), x = .ref a ∧ xs = [.ref b] ∧ a ≠ b ∧ H a = some (.dK kvs) ∧ H b = some (.dK more) ∧ kvs.length + more.length ≤ sizeLine ∧ Q .non (upd H a (.dK (mergeK kvs more)))
theorem mt_dupdate : MtR X "dict.update" rDUpd := by
  intro pins s σ H x xs v us Q I rx rxs h
  obtain ⟨a, b, kvs, more, rfl, rfl, ne, ha, hb, hz, q⟩ := h
  obtain rfl : v = Value.ref a := rx
  cases rxs with
  | cons ry rt =>
    rename_i uy ut
    cases rt
    obtain rfl : uy = Value.ref b := ry
    obtain ⟨z1, hd1, vs1, rel1, dd1⟩ := dk_of I.hok ha
    obtain ⟨z2, hd2, vs2, rel2, dd2⟩ := dk_of I.hok hb
    refine call_meetsIn PySem.F.slot_dict_update dd1.typeIs PySem.F.entry_dict_update (PySem.F.args_dict_update_2 _ _) (meets_dict_update (mixKind X.prog X.w) a b ne hd2) ⟨vs1, vs2, dd1, dd2, by rw [← rel1.length, ← rel2.length]; exact hz, fun h' dd' _ hs => ?_⟩
    have he : ∃ q, h'.get? a = some q := let ⟨q, _, _, hq, _⟩ := dd'; ⟨q, hq⟩
    refine ⟨.non, _, ?_, rfl, q⟩
    exact d_write (t' := s.toks) I (by rw [ha]; exact True.intro) hs he (dk_new (Nat.le_trans (length_mergeK more kvs) hz) hd1 (rel2.merge rel1) dd')
end
end Ln
set_option Elab.async false
set_option linter.all false
set_option maxRecDepth 100000
set_option maxHeartbeats 4000000
/-! xs == [], the items anything -/
namespace Ln
open PySem PySem.Spec PyProof.Rows L2
section
variable {X : Cx}
def rEqE (K : PySem.W.Frag) : R2 := fun x y H Q => ∃ (a b : Addr) (xs : List V), x = .ref a ∧ y = .ref b ∧ SqL K H a xs ∧ SqL K H b [] ∧ Q (.bl xs.isEmpty) H
theorem op_eqE (hu : X.A.units < cLine) : OpR X (compareOp .Eq) (rEqE X.K) := by
  intro pins s σ H x y v u Q I rx ry h
  obtain ⟨a, b, xs, rfl, rfl, ha, hb, q⟩ := h
  obtain rfl : v = Value.ref a := rx
  obtain rfl : u = Value.ref b := ry
  obtain ⟨its, r, pl, hz⟩ := I.list ha
  obtain ⟨its2, r2, pl2, hz2⟩ := I.list hb
  have l1 := r.length
  have l2 := r2.length
  by_cases c : xs = []
  · subst c
    have q : Q (.bl true) H := q
    obtain rfl : its = [] := List.length_eq_zero_iff.mp l1.symm
    obtain rfl : its2 = [] := List.length_eq_zero_iff.mp l2.symm
    exact SeqAt.eq_listAt (e := fun _ => true) pl.isList pl2.isList rfl hu (fun i h1 _ => absurd h1 (Nat.not_lt_zero _)) ⟨.bl true, H, I, rfl, q⟩
  · have e : xs.isEmpty = false := by
      cases xs with
      | nil => exact absurd rfl c
      | cons a b => rfl
    rw [e] at q
    refine SeqAt.eq_list_lengthsAt pl.isList pl2.isList ?_ hu ⟨.bl false, H, I, rfl, q⟩
    rw [List.size_toArray, List.size_toArray, ← l1, ← l2]
    cases xs with
    | nil => exact absurd rfl c
    | cons a b => rfl
end
end Ln
set_option Elab.async false
namespace Mine
open PySem
def topS (i : Nat) : Stmt := PySem.Challenge.pw_interline_k50_whole_days_as_flown.main.body.getD i (.Pass ⟨0, 0, 0, 0⟩)
/-- a promise that is not looked into where two are compared -/
structure Hide (sp : L2.Sp) (vs : List L2.V) (H : L2.Hp) (Q : L2.VK) (E : L2.XK) : Prop where
  h : sp vs H Q E
def hid (sp : L2.Sp) : L2.Sp := fun vs H Q E => Hide sp vs H Q E
end Mine
set_option Elab.async false
set_option linter.all false
set_option maxRecDepth 100000
set_option maxHeartbeats 4000000
namespace Mine
open PySem PySem.Spec PyProof.Rows L2 Ln
abbrev s_law_draws : Stmt := topS 79
abbrev N_law_draws : List Str := ["script", "draws", "cell", "rest", "k", "mixed"]
theorem sc_law_draws : FnScope N_law_draws ["script"] (defScope s_law_draws) := ⟨rfl, rfl, rfl, by decide +kernel, rfl, by decide +kernel, by decide +kernel⟩
-- slots: 0 script, 1 draws, 2 cell, 3 rest, 4 k, 5 mixed
abbrev s_law_more : Stmt := topS 80
abbrev N_law_more : List Str := ["draws", "place", "mixed", "k"]
theorem sc_law_more : FnScope N_law_more ["draws", "place"] (defScope s_law_more) := ⟨rfl, rfl, rfl, by decide +kernel, rfl, by decide +kernel, by decide +kernel⟩
-- slots: 0 draws, 1 place, 2 mixed, 3 k
abbrev s_law_take : Stmt := topS 81
abbrev N_law_take : List Str := ["draws", "at", "many", "place"]
theorem sc_law_take : FnScope N_law_take ["draws", "at", "many"] (defScope s_law_take) := ⟨rfl, rfl, rfl, by decide +kernel, rfl, by decide +kernel, by decide +kernel⟩
-- slots: 0 draws, 1 at, 2 many, 3 place
abbrev s_law_one : Stmt := topS 82
abbrev N_law_one : List Str := ["rows", "draws", "at"]
theorem sc_law_one : FnScope N_law_one ["rows", "draws", "at"] (defScope s_law_one) := ⟨rfl, rfl, rfl, by decide +kernel, rfl, by decide +kernel, by decide +kernel⟩
-- slots: 0 rows, 1 draws, 2 at
structure LawTxt (mg : Str → Option Value) : Prop where
  z_len : mg "len" = none
  z_abs : mg "abs" = none
  z_int : mg "int" = none
  z_str : mg "str" = none
  z_tuple : mg "tuple" = none
  z_range : mg "range" = none
  z_min : mg "min" = none
  z_max : mg "max" = none
  z_sorted : mg "sorted" = none
section
variable {P : Program} {w : World} {K : PySem.W.Frag} {mg : Str → Option Value} {base : Heap}
/-! ## the draws -/
def Good (ds : List Int) : Prop := ds.length ≤ 3780 ∧ ∀ d ∈ ds, 0 ≤ d ∧ d < 4294967296
def spDraws (K : PySem.W.Frag) : Sp := fun vs H Q _ => ∃ (a : Addr) (ns : List Int), vs = [.ref a] ∧ SqL K H a (ns.map V.int) ∧ ns.length ≤ 63 ∧
  ∀ H' p ds, Same H H' → H p = none → H' p = some (.lst (ds.map V.int)) → Good ds → Q (.ref p) H'
theorem cut63 (ns : List Int) : ∃ ms : List Int, cutV (ns.map V.int) none (some 63) = ms.map V.int ∧ ms.length ≤ 63 := by
  refine ⟨(ns.drop 0).take (HT.sIx ns.length ns.length (some 63) - 0), ?_, ?_⟩
  · unfold cutV
    rw [List.length_map, List.map_take, List.map_drop]
    rfl
  · rw [List.length_take]
    have e : HT.sIx ns.length ns.length (some ((63 : Nat) : Int)) = min 63 ns.length := HT.sIx_nat ns.length ns.length 63
    have e' : HT.sIx ns.length ns.length (some 63) = min 63 ns.length := e
    rw [e']
    omega
theorem good_app {ds : List Int} {d : Int} (h : ∀ x ∈ ds, 0 ≤ x ∧ x < 4294967296) (h1 : 0 ≤ d) (h2 : d < 4294967296) : ∀ x ∈ ds ++ [d], 0 ≤ x ∧ x < 4294967296 := by
  intro x hx
  rcases List.mem_append.mp hx with hx | hx
  · exact h x hx
  · have e : x = d := by simpa using hx
    subst e
    exact ⟨h1, h2⟩
theorem ok_draws {f : Addr} {fd : FuncData} (F : Fun K "_law_draws" "_law_draws" s_law_draws f fd) (T : LawTxt mg) : FnG P w K mg base CX0 1 f fd ["script"] (spDraws K) := by
  refine okG F sc_law_draws (fun vs H Q E h => ?_) (fun cdv A outer s H vs Q E hG hr h => ?_)
  · obtain ⟨a, ns, rfl, _⟩ := h
    rfl
  · obtain ⟨a, ns, rfl, hS, hlen, q⟩ := h
    refine ⟨_, (pss_cons (ps_set (i := 1) sc_law_draws.nd rfl (.inl rfl) (pe_lst pa_nil))
    (pss_cons (ps_for PassesOwn.never rfl (pi_list (pe_slice (r := rSlL K) sl_list (pv 0) po_none (po_some pe_int))) (pg_name (i := 2) sc_law_draws.nd rfl (.inl rfl))
    (pss_cons (ps_set (i := 3) sc_law_draws.nd rfl (.inl rfl) (pe_callB (id := "abs") call_abs (by rfl) T.z_abs (by decide +kernel) (pa_cons (pv 2) pa_nil)))
    (pss_one (ps_if (pt_cmpR op_ge (pv 3) (pe_op op_pow pe_int pe_int) (nomark _))
    (pss_one (ps_for PassesOwn.never rfl (pi_range1 (by rfl) T.z_range (pa_cons pe_int pa_nil)) (pg_name (i := 4) sc_law_draws.nd rfl (.inl rfl))
    (pss_one (ps_if (pt_cmpR op_gt (pv 3) pe_int (nomark _))
    (pss_cons (ps_expr (pe_bm PySem.F.plainAttrs_list PySem.F.slot_list_append PySem.F.type_list_append mt_append (pv 1) (pa_cons (pe_op op_mod (pe_callTy (T := "int") call_int1 (by rfl) T.z_int (by decide +kernel) (pa_cons (pv 3) pa_nil)) pe_int) pa_nil)))
    (pss_one (ps_set (i := 3) sc_law_draws.nd rfl (.inl rfl) (pe_op op_fdiv (pv 3) pe_int))))
    pss_nil))))
    (pss_cons (ps_set (i := 5) sc_law_draws.nd rfl (.inl rfl) (pe_op op_mod (pe_callTy (T := "int") call_int1 (by rfl) T.z_int (by decide +kernel) (pa_cons (pe_op op_add (pe_op op_mul (pv 3) pe_int) pe_int) pa_nil)) pe_int))
    (pss_one (ps_for PassesOwn.never rfl (pi_range1 (by rfl) T.z_range (pa_cons pe_int pa_nil)) (pg_name (i := 4) sc_law_draws.nd rfl (.inl rfl))
    (pss_cons (ps_set (i := 5) sc_law_draws.nd rfl (.inl rfl) (pe_op op_mod (pe_callTy (T := "int") call_int1 (by rfl) T.z_int (by decide +kernel) (pa_cons (pe_op op_add (pe_op op_add (pe_op op_mul (pv 5) pe_int) (pe_op op_mul pe_int (pv 4))) pe_int) pa_nil)) pe_int))
    (pss_one (ps_expr (pe_bm PySem.F.plainAttrs_list PySem.F.slot_list_append PySem.F.type_list_append mt_append (pv 1) (pa_cons (pe_op op_fdiv (pv 5) pe_int) pa_nil))))))))))))
    (pss_one (ps_ret (pv 1))))), ?_⟩
    refine ⟨Nat.zero_le _, fun D nD => ?_⟩
    have s1 : Same H (upd H D (.lst [])) := Ln.same_upd nD
    refine ⟨_, rfl, 63, rfl, a, ns.map V.int, rfl, s1.seq hS, fun c nc => ?_⟩
    obtain ⟨ms, ems, hms⟩ := cut63 ns
    rw [ems]
    have ncD : c ≠ D := fun e => by rw [e, upd_same] at nc; cases nc
    refine ⟨c, rfl, ⟨_, SqL.of upd_same⟩, for_list (K := K) (a := c) (xs := ms.map V.int) (fun i σ H' => ∃ (v2 v3 v4 v5 : Option V) (ds : List Int), σ = [some (.ref a), some (.ref D), v2, v3, v4, v5] ∧ Same H H' ∧ H' c = some (.lst (ms.map V.int)) ∧
        H' D = some (.lst (ds.map V.int)) ∧ ds.length ≤ 60 * i ∧ ∀ d ∈ ds, 0 ≤ d ∧ d < 4294967296) ?_ ?_ ?_ ?_⟩
    · refine ⟨none, none, none, none, [], rfl, s1.trans (Ln.same_upd nc), upd_same, ?_, Nat.zero_le _, by simp⟩
      rw [upd_ne ncD.symm]
      exact upd_same
    · rintro i σ H' hi ⟨_, _, _, _, _, _, _, hc, _⟩
      exact SqL.of hc
    · rintro i x σ H1 hx ⟨v2, v3, v4, v5, ds, rfl, sm, hc, hD, hl, hb⟩
      obtain ⟨z, hz, rfl⟩ := getI hx
      have hi : i < ms.length := (List.getElem?_eq_some_iff.mp hz).1
      -- rest = abs(cell)
      refine ⟨_, rfl, z, rfl, ?_⟩
      -- if rest >= 10 ** 18
      refine ⟨_, rfl, 10, 18, rfl, rfl, ⟨by decide, by decide, by decide⟩, _, _, rfl, rfl, _, rfl, ?_⟩
      have hnn : (0 : Int) ≤ (if z < 0 then -z else z) := by split <;> omega
      generalize (if z < 0 then -z else z) = r0 at hnn ⊢
      refine ite2 (fun _ => ?_) (fun _ => ?_)
      · -- the great ones
        refine ⟨60, rfl, by decide, by decide, for_range (lo := 0) (n := 60) (fun k σ H' => ∃ (r : Int) (v4 : Option V) (ds : List Int), σ = [some (.ref a), some (.ref D), some (.int z), some (.int r), v4, v5] ∧ 0 ≤ r ∧ Same H H' ∧ H' c = some (.lst (ms.map V.int)) ∧
          H' D = some (.lst (ds.map V.int)) ∧ ds.length ≤ 60 * i + k ∧ ∀ d ∈ ds, 0 ≤ d ∧ d < 4294967296) ?_ ?_ ?_⟩
        · exact ⟨r0, v4, ds, rfl, hnn, sm, hc, hD, by omega, hb⟩
        · rintro k σ H' hk ⟨r, u4, ds, rfl, hr0, sm, hc, hD, hl, hb⟩
          refine ⟨_, rfl, _, _, rfl, rfl, _, rfl, ite2 (fun _ => ?_) (fun _ => ?_)⟩
          · refine ⟨.ref D, rfl, .inl ⟨rfl, _, SqL.of hD⟩, _, rfl, .inl ⟨r, rfl, _, _, rfl, rfl, by show (0 : Int) < 1009; decide, D, _, _, rfl, rfl, hD, ?_, ?_⟩⟩
            · rw [List.length_map]; exact small1 (by omega)
            · rw [app1]
              refine ⟨_, rfl, _, _, rfl, rfl, ⟨by decide, by decide⟩, r / 1009, _, ds ++ [r % 1009], rfl, by omega, same_at sm nD, ?_, upd_same, by rw [List.length_append, List.length_singleton]; omega, good_app hb (by omega) (by omega)⟩
              rw [upd_ne ncD]
              exact hc
          · exact ⟨r, _, ds, rfl, hr0, sm, hc, hD, by omega, hb⟩
        · rintro σ H' ⟨r, u4, ds, rfl, hr0, sm, hc, hD, hl, hb⟩
          exact ⟨_, _, _, _, ds, rfl, sm, hc, hD, by omega, hb⟩
      · -- the small ones
        refine ⟨_, rfl, _, _, rfl, rfl, .inr ⟨by decide, by decide⟩, _, _, rfl, rfl, .inl ⟨_, rfl, _, _, rfl, rfl, by show (0 : Int) < 2147483647; decide, ?_⟩⟩
        refine ⟨12, rfl, by decide, by decide, for_range (lo := 0) (n := 12) (fun k σ H' => ∃ (m : Int) (v4 : Option V) (ds : List Int), σ = [some (.ref a), some (.ref D), some (.int z), some (.int r0), v4, some (.int m)] ∧ Same H H' ∧ H' c = some (.lst (ms.map V.int)) ∧
          H' D = some (.lst (ds.map V.int)) ∧ ds.length ≤ 60 * i + k ∧ ∀ d ∈ ds, 0 ≤ d ∧ d < 4294967296) ?_ ?_ ?_⟩
        · exact ⟨_, v4, ds, rfl, sm, hc, hD, by omega, hb⟩
        · rintro k σ H' hk ⟨m, u4, ds, rfl, sm, hc, hD, hl, hb⟩
          refine ⟨_, rfl, _, _, rfl, rfl, .inr ⟨by decide, by decide⟩, _, rfl, _, _, rfl, rfl, .inl ⟨by decide, by decide⟩, _, _, rfl, rfl, _, _, rfl, rfl, .inl ⟨_, rfl, _, _, rfl, rfl, by show (0 : Int) < 2147483629; decide, ?_⟩⟩
          have b0 := Int.emod_nonneg (m * 16807 + 69621 * (0 + (k : Int)) + 5) (show (2147483629 : Int) ≠ 0 by decide)
          have b1 := Int.emod_lt_of_pos (m * 16807 + 69621 * (0 + (k : Int)) + 5) (show (0 : Int) < 2147483629 by decide)
          refine ⟨.ref D, rfl, .inl ⟨rfl, _, SqL.of hD⟩, _, rfl, _, _, rfl, rfl, ⟨by decide, by decide⟩, D, _, _, rfl, rfl, hD, ?_, ?_⟩
          · rw [List.length_map]; exact small1 (by omega)
          · rw [app1]
            refine ⟨_, _, ds ++ [(m * 16807 + 69621 * (0 + (k : Int)) + 5) % 2147483629 / 1009], rfl, same_at sm nD, ?_, upd_same, by rw [List.length_append, List.length_singleton]; omega, good_app hb (by omega) (by omega)⟩
            rw [upd_ne ncD]
            exact hc
        · rintro σ H' ⟨r, u4, ds, rfl, sm, hc, hD, hl, hb⟩
          exact ⟨_, _, _, _, ds, rfl, sm, hc, hD, by omega, hb⟩
    · rintro σ H' ⟨v2, v3, v4, v5, ds, rfl, sm, hc, hD, hl, hb⟩
      rw [List.length_map] at hl
      exact ⟨_, rfl, q H' D ds sm nD hD ⟨by omega, hb⟩⟩
/-- where the draws stand -/
def Drw (dr at_ : Addr) (H : Hp) : Prop := ∃ (ds : List Int) (p : Int), H dr = some (.lst (ds.map V.int)) ∧ H at_ = some (.lst [.int p]) ∧ dr ≠ at_ ∧ Good ds ∧ 0 ≤ p
def spMore (K : PySem.W.Frag) : Sp := fun vs H Q _ => ∃ (dr : Addr) (ds : List Int) (p : Int), vs = [.ref dr, .int p] ∧ H dr = some (.lst (ds.map V.int)) ∧ Good ds ∧ ∀ v, Q (.int v) H
theorem ok_more {f : Addr} {fd : FuncData} (F : Fun K "_law_more" "_law_more" s_law_more f fd) (T : LawTxt mg) : FnG P w K mg base CX0 1 f fd ["draws", "place"] (spMore K) := by
  refine okG F sc_law_more (fun vs H Q E h => ?_) (fun cdv A outer s H vs Q E hG hr h => ?_)
  · obtain ⟨a, ds, p, rfl, _⟩ := h
    rfl
  · obtain ⟨a, ds, p, rfl, hd, ⟨hl, hb⟩, q⟩ := h
    refine ⟨_, (pss_cons (ps_set (i := 2) sc_law_more.nd rfl (.inl rfl) (pe_op op_mod (pe_callTy (T := "int") call_int1 (by rfl) T.z_int (by decide +kernel) (pa_cons (pe_op op_add (pe_op op_add (pe_op op_mul (pv 1) pe_int) (pe_callB (r := Ln.rLen K) (id := "len") c_len (by rfl) T.z_len (by decide +kernel) (pa_cons (pv 0) pa_nil))) pe_int) pa_nil)) pe_int))
    (pss_cons (ps_for PassesOwn.never rfl (pi_range1 (by rfl) T.z_range (pa_cons pe_int pa_nil)) (pg_name (i := 3) sc_law_more.nd rfl (.inl rfl))
    (pss_cons (ps_if (pt_truthK (pv 0) (by intro _; rfl))
    (pss_one (ps_set (i := 2) sc_law_more.nd rfl (.inl rfl) (pe_op op_add (pv 2) (pe_ix (r := rIxL K) ix_list (pv 0) (pe_op op_mod (pe_callTy (T := "int") call_int1 (by rfl) T.z_int (by decide +kernel) (pa_cons (pe_op op_add (pe_op op_mul (pv 1) (pe_op op_add (pv 3) pe_int)) (pv 3)) pa_nil)) (pe_callB (r := Ln.rLen K) (id := "len") c_len (by rfl) T.z_len (by decide +kernel) (pa_cons (pv 0) pa_nil))) (fun _ _ => rfl)))))
    pss_nil)
    (pss_one (ps_set (i := 2) sc_law_more.nd rfl (.inl rfl) (pe_op op_mod (pe_callTy (T := "int") call_int1 (by rfl) T.z_int (by decide +kernel) (pa_cons (pe_op op_add (pe_op op_add (pe_op op_mul (pv 2) pe_int) (pe_op op_mul pe_int (pv 3))) pe_int) pa_nil)) pe_int)))))
    (pss_one (ps_ret (pe_op op_fdiv (pv 2) pe_int))))), ?_⟩
    have hS : SqL K H a (ds.map V.int) := SqL.of hd
    refine ⟨_, rfl, _, _, rfl, rfl, .inr ⟨by decide, by decide⟩, .ref a, rfl, .ref a, ds.length, rfl, .inl ⟨_, hS, by rw [List.length_map]⟩, _, _, rfl, rfl, _, _, rfl, rfl, .inl ⟨_, rfl, _, _, rfl, rfl, by show (0 : Int) < 2147483629; decide, ?_⟩⟩
    refine ⟨3, rfl, by decide, by decide, for_range (lo := 0) (n := 3) (fun k σ H' => ∃ (m : Int) (v3 : Option V), σ = [some (.ref a), some (.int p), some (.int m), v3] ∧ H' = H) ?_ ?_ ?_⟩
    · exact ⟨_, none, rfl, rfl⟩
    · rintro k σ H' hk ⟨m, v3, rfl, rfl⟩
      have fin : ∀ m2 : Int, (fun σ' H'' => ∃ (m : Int) (v3 : Option V), σ' = [some (.ref a), some (.int p), some (.int m), v3] ∧ H'' = H') [some (.ref a), some (.int p), some (.int m2), some (.int (0 + (k : Int)))] H' := fun m2 => ⟨m2, _, rfl, rfl⟩
      refine ⟨.ref a, rfl, !ds.isEmpty, .inl ⟨_, hS, by rw [List.isEmpty_map]⟩, ite2 (fun hne => ?_) (fun _ => ?_)⟩
      · have hpos : 0 < ds.length := by
          cases ds with
          | nil => cases hne
          | cons x r => exact Nat.succ_pos _
        refine ⟨_, rfl, .ref a, rfl, _, rfl, _, rfl, _, _, rfl, rfl, _, _, rfl, rfl, .inr ⟨by omega, by omega⟩, _, rfl, _, _, rfl, rfl, .inl ⟨_, rfl, .ref a, rfl, .ref a, ds.length, rfl, .inl ⟨_, hS, by rw [List.length_map]⟩, _, _, rfl, rfl, by omega, ?_⟩⟩
        obtain ⟨j', hj, he⟩ := modIx (p * (0 + (k : Int) + 5) + (0 + (k : Int))) hpos
        refine ⟨a, _, _, .int ds[j'], rfl, rfl, hS, by rw [he]; exact atInt hj, _, _, rfl, rfl, ?_⟩
        refine ⟨_, rfl, _, _, rfl, rfl, .inr ⟨by decide, by decide⟩, _, rfl, _, _, rfl, rfl, .inl ⟨by decide, by decide⟩, _, _, rfl, rfl, _, _, rfl, rfl, .inl ⟨_, rfl, _, _, rfl, rfl, by show (0 : Int) < 2147483629; decide, ?_⟩⟩
        exact fin _
      · refine ⟨_, rfl, _, _, rfl, rfl, .inr ⟨by decide, by decide⟩, _, rfl, _, _, rfl, rfl, .inl ⟨by decide, by decide⟩, _, _, rfl, rfl, _, _, rfl, rfl, .inl ⟨_, rfl, _, _, rfl, rfl, by show (0 : Int) < 2147483629; decide, ?_⟩⟩
        exact fin _
    · rintro σ H' ⟨m, v3, rfl, rfl⟩
      exact ⟨_, rfl, _, _, rfl, rfl, ⟨by decide, by decide⟩, q _⟩
def spTake (K : PySem.W.Frag) : Sp := hid fun vs H Q _ => ∃ (dr at_ : Addr) (m : Int), vs = [.ref dr, .ref at_, .int m] ∧ Drw dr at_ H ∧ 0 < m ∧ ∀ v H', 0 ≤ v → v < m → But at_ H H' → Drw dr at_ H' → Q (.int v) H'
theorem ok_take {f : Addr} {fd : FuncData} (F : Fun K "_law_take" "_law_take" s_law_take f fd) (T : LawTxt mg) (c__law_more : Cg P w K mg base CX0 1 "_law_more" (spMore K)) : FnG P w K mg base CX0 2 f fd ["draws", "at", "many"] (spTake K) := by
  refine okG F sc_law_take (fun vs H Q E h => ?_) (fun cdv A outer s H vs Q E hG hr h => ?_)
  · obtain ⟨a, b, m, rfl, _⟩ := h
    rfl
  · obtain ⟨dr, at_, m, rfl, ⟨ds, p, hd, ha, ne, hgood, hp⟩, hm, q⟩ := h
    refine ⟨_, (pss_cons (ps_set (i := 3) sc_law_take.nd rfl (.inl rfl) (pe_ix (r := rIxL K) ix_list (pv 1) pe_int (fun _ _ => rfl)))
    (pss_cons (ps_asg (pe_op op_add (pv 3) pe_int) (pg_sub (pv 1) pe_int set_list))
    (pss_one (ps_ret (pe_op op_mod (pe_callTy (T := "int") call_int1 (by rfl) T.z_int (by decide +kernel) (pa_cons (pe_ifExp (pt_cmpR op_lt (pv 3) (pe_callB (r := Ln.rLen K) (id := "len") c_len (by rfl) T.z_len (by decide +kernel) (pa_cons (pv 0) pa_nil)) (nomark _)) (pe_ix (r := rIxL K) ix_list (pv 0) (pv 3) (fun _ _ => rfl)) (pe_cg c__law_more hr (by decide) hG (by rfl) (pa_cons (pv 0) (pa_cons (pv 3) pa_nil)))) pa_nil)) (pv 2)))))), ?_⟩
    refine ⟨_, rfl, at_, _, 0, .int p, rfl, rfl, SqL.of ha, atI_nat (j := 0) rfl, ?_⟩
    refine ⟨_, rfl, _, _, rfl, rfl, .ref at_, rfl, at_, _, 0, 0, rfl, rfl, ha, rfl, ?_⟩
    have hd' : (upd H at_ (.lst [.int (p + 1)])) dr = some (.lst (ds.map V.int)) := by rw [upd_ne ne]; exact hd
    have hS := SqL.of (K := K) hd'
    have fin : ∀ x : Int, Q (.int (x % m)) (upd H at_ (.lst [.int (p + 1)])) := fun x =>
      q _ _ (Int.emod_nonneg _ (by omega)) (Int.emod_lt_of_pos _ hm) (But.upd _ _ _) ⟨ds, p + 1, hd', upd_same, ne, hgood, by omega⟩
    refine ⟨_, rfl, .ref dr, rfl, .ref dr, ds.length, rfl, .inl ⟨_, hS, by rw [List.length_map]⟩, _, _, rfl, rfl, _, rfl, ite2 (fun hlt => ?_) (fun _ => ?_)⟩
    · have hlt' := of_decide_eq_true hlt
      obtain ⟨j, rfl⟩ : ∃ j : Nat, p = j := ⟨p.toNat, by omega⟩
      have hj : j < ds.length := by omega
      exact ⟨_, rfl, _, rfl, dr, _, _, .int ds[j], rfl, rfl, hS, atInt hj, .inl ⟨_, rfl, _, rfl, _, _, rfl, rfl, hm, fin _⟩⟩
    · exact ⟨_, rfl, _, rfl, dr, ds, p, rfl, hd', hgood, fun v => .inl ⟨_, rfl, _, rfl, _, _, rfl, rfl, hm, fin _⟩⟩
/-- one of a list's items -/
def spOne (K : PySem.W.Frag) : Sp := hid fun vs H Q _ => ∃ (r dr at_ : Addr) (xs : List V), vs = [.ref r, .ref dr, .ref at_] ∧ ((∀ H', But at_ H H' → SqL K H' r xs) ∨ SqT K H r xs) ∧ Drw dr at_ H ∧ 0 < xs.length ∧ ∀ x ∈ xs, ∀ H', But at_ H H' → Drw dr at_ H' → Q x H'
theorem ok_one {f : Addr} {fd : FuncData} (F : Fun K "_law_one" "_law_one" s_law_one f fd) (T : LawTxt mg) (c__law_take : Cg P w K mg base CX0 2 "_law_take" (spTake K)) : FnG P w K mg base CX0 3 f fd ["rows", "draws", "at"] (spOne K) := by
  refine okG F sc_law_one (fun vs H Q E h => ?_) (fun cdv A outer s H vs Q E hG hr h => ?_)
  · obtain ⟨a, b, m, xs, rfl, _⟩ := h
    rfl
  · obtain ⟨r, dr, at_, xs, rfl, hS, hD, hpos, q⟩ := h
    refine ⟨_, (pss_one (ps_ret (pe_ix (r := rIx K) ix_seq (pv 0) (pe_cg c__law_take hr (by decide) hG (by rfl) (pa_cons (pv 1) (pa_cons (pv 2) (pa_cons (pe_callB (r := Ln.rLen K) (id := "len") c_len (by rfl) T.z_len (by decide +kernel) (pa_cons (pv 0) pa_nil)) pa_nil)))) (fun _ _ => rfl)))), ?_⟩
    have hl : LenV K (.ref r) H xs.length := hS.elim (fun h => .inl ⟨_, h _ (But.refl _ _), rfl⟩) fun h => .inr ⟨_, h, rfl⟩
    refine ⟨.ref r, rfl, .ref dr, rfl, .ref at_, rfl, .ref r, rfl, .ref r, xs.length, rfl, hl, dr, at_, _, rfl, hD, by omega, fun v H' v0 v1 hB hD' => ?_⟩
    obtain ⟨j, rfl⟩ : ∃ j : Nat, v = j := ⟨v.toNat, by omega⟩
    have hj : j < xs.length := by omega
    have fin := q _ (List.getElem_mem hj) _ hB hD'
    have hat := atI_nat (List.getElem?_eq_getElem hj)
    rcases hS with hS | hS
    · exact .inl ⟨r, xs, _, xs[j], rfl, rfl, hS _ hB, hat, fin⟩
    · obtain ⟨ds, p, _, ha, _⟩ := hD
      exact .inr (.inl ⟨r, xs, _, xs[j], rfl, rfl, But.tup hB ha hS, hat, fin⟩)
end
end Mine
set_option Elab.async false
set_option linter.all false
set_option maxRecDepth 100000
set_option maxHeartbeats 4000000
namespace Mine
open PySem PySem.Spec PyProof.Rows L2 Ln
section
variable {K : PySem.W.Frag}
/-! ## data without lists -/
mutual
def noL : PyData → Bool
  | .list _ => false
  | .dict _ => false
  | .tuple ds => noLs ds
  | _ => true
def noLs : List PyData → Bool
  | [] => true
  | d :: ds => noL d && noLs ds
end
theorem noLs_app {ds : List PyData} {d : PyData} (h : noLs ds = true) (k : noL d = true) : noLs (ds ++ [d]) = true := by
  induction ds with
  | nil => simpa [noLs] using k
  | cons x r ih =>
    simp only [noLs, Bool.and_eq_true] at h
    simp only [List.cons_append, noLs, Bool.and_eq_true]
    exact ⟨h.1, ih h.2⟩
theorem noLs_mem {ds : List PyData} (h : noLs ds = true) : ∀ d ∈ ds, noL d = true := by
  induction ds with
  | nil => simp
  | cons x r ih =>
    simp only [noLs, Bool.and_eq_true] at h
    intro d hd
    rcases List.mem_cons.mp hd with e | hd
    · rw [e]; exact h.1
    · exact ih h.2 d hd
theorem noLs_of {ds : List PyData} (h : ∀ d ∈ ds, noL d = true) : noLs ds = true := by
  induction ds with
  | nil => simp [noLs]
  | cons x r ih =>
    simp only [noLs, Bool.and_eq_true]
    exact ⟨h x List.mem_cons_self, ih fun d hd => h d (List.mem_cons_of_mem _ hd)⟩
/-- tuples stay -/
def TpF (H H' : Hp) : Prop := ∀ a xs, Rd H a (.tup xs) → Rd H' a (.tup xs)
theorem TpF.tup {H H' : Hp} (h : TpF H H') {a : Addr} {xs : List V} (t : SqT K H a xs) : SqT K H' a xs := by
  rcases t with t | t
  · exact .inl (h _ _ t)
  · exact .inr t
theorem TpF.trans {H H1 H2 : Hp} (a : TpF H H1) (b : TpF H1 H2) : TpF H H2 := fun x xs h => b x xs (a x xs h)
theorem TpF.same {H H' : Hp} (h : Same H H') : TpF H H' := by
  rintro a xs (t | ⟨o, t⟩)
  · exact .inl (h _ _ t)
  · exact .inr ⟨o, h _ _ t⟩
theorem TpF.but {H H' : Hp} {b : Addr} {ys : List V} (h : But b H H') (hb : H b = some (.lst ys)) : TpF H H' := by
  rintro a xs (t | ⟨o, t⟩)
  · exact .inl (h _ _ (fun z => by subst z; rw [hb] at t; cases t) t)
  · exact .inr ⟨o, h _ _ (fun z => by subst z; rw [hb] at t; cases t) t⟩
theorem TpF.upd {H : Hp} {b : Addr} {ys zs : List V} (hb : H b = some (.lst ys)) : TpF H (upd H b (.lst zs)) := TpF.but (But.upd b H _) hb
mutual
theorem Dp.tpf {H H' : Hp} (sm : TpF H H') : ∀ (d : PyData) (v : V), noL d = true → Dp K H v d → Dp K H' v d
  | .none, _, _, h => by cases h; exact .non
  | .bool b, _, _, h => by cases h; exact .bl b
  | .int b, _, _, h => by cases h; exact .int b
  | .str b, _, _, h => by cases h; exact .str b
  | .list _, _, q, _ => by simp [noL] at q
  | .dict _, _, q, _ => by simp [noL] at q
  | .tuple ds, _, q, h => by
    cases h with
    | tup a b => exact .tup (TpF.tup sm a) (Dp.tpfAll sm ds _ (by simpa only [noL] using q) b)
theorem Dp.tpfAll {H H' : Hp} (sm : TpF H H') : ∀ (ds : List PyData) (vs : List V), noLs ds = true → DpAll K H vs ds → DpAll K H' vs ds
  | [], _, _, h => by cases h; exact .nil
  | d :: ds, _, q, h => by
    cases h with
    | cons a b =>
      have q' : (noL d && noLs ds) = true := by simpa only [noLs] using q
      obtain ⟨q1, q2⟩ := Bool.and_eq_true_iff.mp q'
      exact .cons (Dp.tpf sm d _ q1 a) (Dp.tpfAll sm ds _ q2 b)
end
theorem DpAll.app {H : Hp} {xs : List V} {ds : List PyData} {v : V} {d : PyData} (h : DpAll K H xs ds) (k : Dp K H v d) : DpAll K H (xs ++ [v]) (ds ++ [d]) := by
  induction ds generalizing xs with
  | nil => cases h; exact .cons k .nil
  | cons x r ih =>
    cases h with
    | cons a b => exact .cons a (ih b)
theorem DpAll.len {H : Hp} {xs : List V} {ds : List PyData} (h : DpAll K H xs ds) : xs.length = ds.length := by
  induction ds generalizing xs with
  | nil => cases h; rfl
  | cons x r ih =>
    cases h with
    | cons a b => simp [ih b]
theorem DpAll.get {H : Hp} {xs : List V} {ds : List PyData} (h : DpAll K H xs ds) {i : Nat} {x : V} (e : xs[i]? = some x) : ∃ d, ds[i]? = some d ∧ Dp K H x d := by
  induction ds generalizing xs i with
  | nil => cases h; simp at e
  | cons y r ih =>
    cases h with
    | cons a b =>
      cases i with
      | zero =>
        have e' := Option.some.inj e
        exact ⟨y, rfl, by rw [← e']; exact a⟩
      | succ i => exact ih b (by simpa using e)
theorem DpAll.mem {H : Hp} {xs : List V} {ds : List PyData} (h : DpAll K H xs ds) {x : V} (m : x ∈ xs) : ∃ d ∈ ds, Dp K H x d := by
  obtain ⟨i, hi, e⟩ := List.mem_iff_getElem.mp m
  obtain ⟨d, hd, q⟩ := DpAll.get h (i := i) (x := x) (by rw [List.getElem?_eq_getElem hi, e])
  exact ⟨d, List.mem_of_getElem? hd, q⟩
theorem dp_strs {H : Hp} : ∀ (ns : List Str), DpAll K H (ns.map V.str) (ns.map PyData.str)
  | [] => .nil
  | n :: r => .cons (.str n) (dp_strs r)
theorem noLs_strs (ns : List Str) : noLs (ns.map PyData.str) = true := noLs_of fun d hd => by
  obtain ⟨n, _, e⟩ := List.mem_map.mp hd
  rw [← e]; rfl
theorem noLs_ints (ns : List Int) : noLs (ns.map PyData.int) = true := noLs_of fun d hd => by
  obtain ⟨n, _, e⟩ := List.mem_map.mp hd
  rw [← e]; rfl
/-! ## a situation: the draws, own lists with their data, data that stands -/
abbrev Own := Addr × List V × List PyData
structure Sit (K : PySem.W.Frag) (dr at_ : Addr) (H0 : Hp) (ps : List Own) (qs : List (V × PyData)) (H : Hp) : Prop where
  d0 : Drw dr at_ H0
  dw : Drw dr at_ H
  bt : But at_ H0 H
  nd : (ps.map (·.1)).Nodup
  li : ∀ p ∈ ps, H p.1 = some (.lst p.2.1) ∧ DpAll K H p.2.1 p.2.2 ∧ noLs p.2.2 = true ∧ H0 p.1 = none
  da : ∀ q ∈ qs, Dp K H q.1 q.2 ∧ noL q.2 = true
variable {dr at_ : Addr} {H0 H : Hp} {ps : List Own} {qs : List (V × PyData)}
theorem Sit.start (h : Drw dr at_ H) : Sit K dr at_ H [] [] H := ⟨h, h, But.refl _ _, List.nodup_nil, by simp, by simp⟩
theorem Drw.atL (h : Drw dr at_ H) : ∃ p, H at_ = some (.lst [.int p]) := by
  obtain ⟨ds, p, h1, h2, _⟩ := h
  exact ⟨p, h2⟩
theorem Drw.drL (h : Drw dr at_ H) : ∃ ds : List Int, H dr = some (.lst (ds.map V.int)) := by
  obtain ⟨ds, p, h1, h2, _⟩ := h
  exact ⟨ds, h1⟩
theorem Sit.old (h : Sit K dr at_ H0 ps qs H) {a : Addr} (n : H a = none) : H0 a = none := by
  cases e : H0 a with
  | none => rfl
  | some o =>
    by_cases z : a = at_
    · subst z
      obtain ⟨p, q⟩ := h.dw.atL
      rw [q] at n
      cases n
    · rw [h.bt _ _ z e] at n
      cases n
theorem Sit.ne (h : Sit K dr at_ H0 ps qs H) {p : Own} (m : p ∈ ps) : p.1 ≠ at_ ∧ p.1 ≠ dr := by
  obtain ⟨_, _, _, n⟩ := h.li p m
  constructor
  · intro z
    obtain ⟨k, q⟩ := h.d0.atL
    rw [z, q] at n
    cases n
  · intro z
    obtain ⟨k, q⟩ := h.d0.drL
    rw [z, q] at n
    cases n
theorem Sit.step (h : Sit K dr at_ H0 ps qs H) {H' : Hp} (t : TpF H H') (d : Drw dr at_ H') (b : But at_ H0 H') (k : ∀ p ∈ ps, H' p.1 = some (.lst p.2.1)) : Sit K dr at_ H0 ps qs H' where
  d0 := h.d0
  dw := d
  bt := b
  nd := h.nd
  li := fun p m => by
    obtain ⟨_, h2, h3, h4⟩ := h.li p m
    exact ⟨k p m, Dp.tpfAll t _ _ h3 h2, h3, h4⟩
  da := fun q m => by
    obtain ⟨h1, h2⟩ := h.da q m
    exact ⟨Dp.tpf t _ _ h2 h1, h2⟩
theorem Sit.but (h : Sit K dr at_ H0 ps qs H) {H' : Hp} (b : But at_ H H') (d : Drw dr at_ H') : Sit K dr at_ H0 ps qs H' := by
  obtain ⟨p, q⟩ := h.dw.atL
  exact h.step (TpF.but b q) d (h.bt.trans b) fun p m => b _ _ (h.ne m).1 (h.li p m).1
theorem Drw.news (h : Drw dr at_ H) {a : Addr} {o : HO} (n : H a = none) : Drw dr at_ (upd H a o) := by
  obtain ⟨ds, p, h1, h2, h3⟩ := h
  exact ⟨ds, p, same_upd n _ _ h1, same_upd n _ _ h2, h3⟩
theorem Sit.new (h : Sit K dr at_ H0 ps qs H) {a : Addr} {o : HO} (n : H a = none) : Sit K dr at_ H0 ps qs (upd H a o) :=
  h.step (TpF.same (Ln.same_upd n)) (h.dw.news n) (h.bt.trans (But.new n)) fun p m => Ln.same_upd n _ _ (h.li p m).1
theorem Sit.push (h : Sit K dr at_ H0 ps qs H) {a : Addr} {xs : List V} {ds : List PyData} (n : H a = none) (k : DpAll K H xs ds) (l : noLs ds = true) : Sit K dr at_ H0 ((a, xs, ds) :: ps) qs (upd H a (.lst xs)) := by
  have g := h.new (o := .lst xs) n
  refine ⟨g.d0, g.dw, g.bt, ?_, ?_, g.da⟩
  · rw [List.map_cons, List.nodup_cons]
    refine ⟨fun m => ?_, h.nd⟩
    obtain ⟨p, m', e⟩ := List.mem_map.mp m
    have q := (h.li p m').1
    rw [e, n] at q
    cases q
  · intro p m
    rcases List.mem_cons.mp m with e | m
    · rw [e]
      exact ⟨upd_same, Dp.tpfAll (TpF.same (Ln.same_upd n)) _ _ l k, l, h.old n⟩
    · exact g.li p m
theorem Sit.tupN (h : Sit K dr at_ H0 ps qs H) {a : Addr} {xs : List V} {ds : List PyData} (n : H a = none) (k : DpAll K H xs ds) (l : noLs ds = true) : Sit K dr at_ H0 ps ((.ref a, .tuple ds) :: qs) (upd H a (.tup xs)) := by
  have g := h.new (o := .tup xs) n
  refine ⟨g.d0, g.dw, g.bt, g.nd, g.li, ?_⟩
  intro q m
  rcases List.mem_cons.mp m with e | m
  · rw [e]
    exact ⟨.tup (SqT.of upd_same) (Dp.tpfAll (TpF.same (Ln.same_upd n)) _ _ l k), by simpa only [noL] using l⟩
  · exact g.da q m
theorem Sit.data (h : Sit K dr at_ H0 ps qs H) {v : V} {d : PyData} (k : Dp K H v d) (l : noL d = true) : Sit K dr at_ H0 ps ((v, d) :: qs) H := by
  refine ⟨h.d0, h.dw, h.bt, h.nd, h.li, ?_⟩
  intro q m
  rcases List.mem_cons.mp m with e | m
  · rw [e]; exact ⟨k, l⟩
  · exact h.da q m
theorem Sit.app {pre post : List Own} {a : Addr} {xs : List V} {ds : List PyData} (h : Sit K dr at_ H0 (pre ++ (a, xs, ds) :: post) qs H) {v : V} {d : PyData} (k : Dp K H v d) (l : noL d = true) :
    Sit K dr at_ H0 (pre ++ (a, xs ++ [v], ds ++ [d]) :: post) qs (upd H a (.lst (xs ++ [v]))) := by
  have m0 : (a, xs, ds) ∈ pre ++ (a, xs, ds) :: post := by simp
  obtain ⟨q1, q2, q3, q4⟩ := h.li _ m0
  have hne := h.ne m0
  have tp : TpF H (upd H a (.lst (xs ++ [v]))) := TpF.upd q1
  obtain ⟨es, p, e1, e2, e3⟩ := h.dw
  refine ⟨h.d0, ⟨es, p, by rw [upd_ne hne.2.symm]; exact e1, by rw [upd_ne hne.1.symm]; exact e2, e3⟩, ?_, ?_, ?_, ?_⟩
  · intro b o nb eb
    have z : b ≠ a := fun z => by
      rw [z, q4] at eb
      cases eb
    rw [upd_ne z]
    exact h.bt b o nb eb
  · have := h.nd
    simpa using this
  · intro y m
    have nd := h.nd
    rw [List.map_append, List.map_cons] at nd
    have same : ∀ y : Own, y ∈ pre ∨ y ∈ post → y.1 ≠ a := by
      intro y my z
      rw [List.nodup_append] at nd
      obtain ⟨n1, n2, n3⟩ := nd
      rw [List.nodup_cons] at n2
      rcases my with my | my
      · exact n3 y.1 (List.mem_map.mpr ⟨y, my, rfl⟩) a List.mem_cons_self z
      · exact n2.1 (by rw [← z]; exact List.mem_map.mpr ⟨y, my, rfl⟩)
    have rest : y ∈ pre ∨ y ∈ post → (upd H a (.lst (xs ++ [v]))) y.1 = some (.lst y.2.1) ∧ DpAll K (upd H a (.lst (xs ++ [v]))) y.2.1 y.2.2 ∧ noLs y.2.2 = true ∧ H0 y.1 = none := by
      intro my
      obtain ⟨r1, r2, r3, r4⟩ := h.li y (by rcases my with my | my <;> simp [my])
      exact ⟨by rw [upd_ne (same y my)]; exact r1, Dp.tpfAll tp _ _ r3 r2, r3, r4⟩
    rcases List.mem_append.mp m with m | m
    · exact rest (.inl m)
    · rcases List.mem_cons.mp m with e | m
      · rw [e]
        exact ⟨upd_same, Dp.tpfAll tp _ _ (noLs_app q3 l) (DpAll.app q2 k), noLs_app q3 l, q4⟩
      · exact rest (.inr m)
  · intro q m
    obtain ⟨r1, r2⟩ := h.da q m
    exact ⟨Dp.tpf tp _ _ r2 r1, r2⟩
/-- fewer things -/
theorem Sit.less {ps' : List Own} {qs' : List (V × PyData)} (h : Sit K dr at_ H0 ps qs H) (a : ps'.Sublist ps) (b : ∀ q ∈ qs', q ∈ qs) : Sit K dr at_ H0 ps' qs' H :=
  ⟨h.d0, h.dw, h.bt, h.nd.sublist (a.map _), fun p m => h.li p (a.subset m), fun q m => h.da q (b q m)⟩
theorem Sit.seqL (h : Sit K dr at_ H0 ps qs H) {p : Own} (m : p ∈ ps) : SqL K H p.1 p.2.1 := SqL.of (h.li p m).1
/-- a drawn number -/
theorem Sit.butL (h : Sit K dr at_ H0 ps qs H) {p : Own} (m : p ∈ ps) : ∀ H', But at_ H H' → SqL K H' p.1 p.2.1 := fun H' b => SqL.of (b _ _ (h.ne m).1 (h.li p m).1)
end
end Mine
set_option Elab.async false
set_option linter.all false
set_option maxRecDepth 100000
set_option maxHeartbeats 4000000
namespace Mine
open PySem PySem.Spec PyProof.Rows L2 Ln
/-! ## nets -/
structure Flt where
  name : Str
  start : Str
  fin : Str
  dep : Int
  arr : Int
  kind : Str
  dist : Int
  lims : List Int
structure Far where
  name : Str
  start : Str
  fin : Str
  cab : Str
  price : Int
  stops : Int
  fee : Int
  back : Int
abbrev Tri := Str × Int × Int
structure Net where
  st : List Tri
  ty : List Tri
  cl : List Str
  fl : List Flt
  tl : List (Str × Str × List Str)
  fa : List Far
def trD (s : Tri) : PyData := .tuple [.str s.1, .int s.2.1, .int s.2.2]
def flD (f : Flt) : PyData := .tuple [.str f.name, .str f.start, .str f.fin, .int f.dep, .int f.arr, .str f.kind, .int f.dist, .tuple (f.lims.map .int)]
def tlD (t : Str × Str × List Str) : PyData := .tuple [.str t.1, .str t.2.1, .tuple (t.2.2.map .str)]
def faD (f : Far) : PyData := .tuple [.str f.name, .str f.start, .str f.fin, .str f.cab, .int f.price, .int f.stops, .int f.fee, .int f.back]
def netD (N : Net) : PyData := .tuple [.tuple (N.st.map trD), .tuple (N.ty.map trD), .tuple (N.cl.map .str), .tuple (N.fl.map flD), .tuple (N.tl.map tlD), .tuple (N.fa.map faD)]
def six : List Str := ["AAA", "BB", "C_1", "Dd", "E", "FFFFFFFFFFFF"]
def four : List Str := ["Y", "B", "K", "Q"]
def dig (k : Nat) : Str := toString ((0 : Int) + (k : Int))
def tnm (k : Nat) : Str := "T" ++ dig k
def nnm (k : Nat) : Str := "N" ++ dig k
def rnm (k : Nat) : Str := "r" ++ dig k
def fnm (k j : Nat) : Str := "f" ++ dig k ++ dig j
structure LimsOk (n : Nat) (ls : List Int) : Prop where
  len : ls.length = n
  rg : ∀ x ∈ ls, 0 ≤ x ∧ x ≤ 999
  ds : ls.Pairwise (· ≥ ·)
structure FltOk (ns : List Str) (c : Nat) (f : Flt) : Prop where
  s : f.start ∈ ns
  e : f.fin ∈ ns
  ne : f.start ≠ f.fin
  t0 : 0 ≤ f.dep
  t1 : f.dep < f.arr
  t2 : f.arr ≤ 8000
  d0 : 1 ≤ f.dist
  d1 : f.dist ≤ 900
  lm : LimsOk c f.lims
def Chain (turn : Int) (l : List Flt) : Prop := ∀ i f g, l[i]? = some f → l[i + 1]? = some g → g.start = f.fin ∧ f.arr + turn ≤ g.dep
theorem Chain.nil (turn : Int) : Chain turn [] := fun i f g h => by simp at h
theorem Chain.app {turn : Int} {l : List Flt} {g : Flt} (h : Chain turn l) (k : ∀ f, l.getLast? = some f → g.start = f.fin ∧ f.arr + turn ≤ g.dep) : Chain turn (l ++ [g]) := by
  intro i f x h1 h2
  by_cases c : i + 1 < l.length
  · rw [List.getElem?_append_left (by omega)] at h1
    rw [List.getElem?_append_left c] at h2
    exact h i f x h1 h2
  · have hi : i + 1 = l.length := by
      have := (List.getElem?_eq_some_iff.mp h2).1
      rw [List.length_append, List.length_singleton] at this
      omega
    rw [List.getElem?_append_left (by omega)] at h1
    rw [List.getElem?_append_right (by omega)] at h2
    have e : x = g := by
      have z : i + 1 - l.length = 0 := by omega
      rw [z] at h2
      exact (Option.some.inj h2).symm
    rw [e]
    apply k
    rw [List.getLast?_eq_getElem?]
    have z : l.length - 1 = i := by omega
    rw [z]
    exact h1
structure RowOk (ns : List Str) (c : Nat) (ty : List Tri) (k : Nat) (r : Tri × List Flt) : Prop where
  ty : r.1 ∈ ty
  len : r.2.length ≤ 5
  nm : r.2.map Flt.name = (List.range r.2.length).map (fnm k)
  ok : ∀ f ∈ r.2, FltOk ns c f ∧ f.kind = r.1.1
  ch : Chain r.1.2.2 r.2
structure FarOk (ns cl : List Str) (f : Far) : Prop where
  s : f.start ∈ ns
  e : f.fin ∈ ns
  ne : f.start ≠ f.fin
  c : f.cab ∈ cl
  p0 : 0 ≤ f.price
  p1 : f.price ≤ 1000000
  s0 : 0 ≤ f.stops
  s1 : f.stops ≤ 3
  f0 : 0 ≤ f.fee
  f1 : f.fee ≤ 199
  b0 : 0 ≤ f.back
  b1 : f.back ≤ 100
def tlOf (R : List (Tri × List Flt)) : List (Str × Str × List Str) := R.mapIdx fun k r => (nnm k, r.1.1, r.2.map Flt.name)
def flOf (R : List (Tri × List Flt)) : List Flt := R.flatMap (·.2)
theorem tlOf_app (R : List (Tri × List Flt)) (r : Tri × List Flt) : tlOf (R ++ [r]) = tlOf R ++ [(nnm R.length, r.1.1, r.2.map Flt.name)] := by
  unfold tlOf
  rw [List.mapIdx_concat]
theorem flOf_app (R : List (Tri × List Flt)) (r : Tri × List Flt) : flOf (R ++ [r]) = flOf R ++ r.2 := by
  unfold flOf
  rw [List.flatMap_append, List.flatMap_singleton]
structure StOk (l : List Tri) : Prop where
  l0 : 2 ≤ l.length
  l1 : l.length ≤ 6
  nm : l.map (·.1) = six.take l.length
  rg : ∀ s ∈ l, -720 ≤ s.2.1 ∧ s.2.1 ≤ 840 ∧ 0 ≤ s.2.2 ∧ s.2.2 ≤ 90
structure TyOk (l : List Tri) : Prop where
  l0 : 1 ≤ l.length
  l1 : l.length ≤ 3
  nm : l.map (·.1) = (List.range l.length).map tnm
  rg : ∀ s ∈ l, 1 ≤ s.2.1 ∧ s.2.1 ≤ 500 ∧ 0 ≤ s.2.2 ∧ s.2.2 ≤ 120
/-- what the laws' nets are -/
structure Right (N : Net) : Prop where
  st : StOk N.st
  ty : TyOk N.ty
  cl : ∃ c, 1 ≤ c ∧ c ≤ 4 ∧ N.cl = four.take c
  rows : ∃ R : List (Tri × List Flt), 1 ≤ R.length ∧ R.length ≤ 5 ∧ (∀ k r, R[k]? = some r → RowOk (N.st.map (·.1)) N.cl.length N.ty k r) ∧ N.tl = tlOf R ∧ N.fl.Perm (flOf R)
  fl : N.fa.length ≤ 8
  fn : N.fa.map Far.name = (List.range N.fa.length).map rnm
  fa : ∀ f ∈ N.fa, FarOk (N.st.map (·.1)) N.cl f
theorem noL_tr (s : Tri) : noL (trD s) = true := by simp [trD, noL, noLs]
theorem noL_fl (f : Flt) : noL (flD f) = true := by simp [flD, noL, noLs, noLs_ints]
theorem noL_tl (t : Str × Str × List Str) : noL (tlD t) = true := by simp [tlD, noL, noLs, noLs_strs]
theorem noL_fa (f : Far) : noL (faD f) = true := by simp [faD, noL, noLs]
theorem noLs_map {α : Type} {g : α → PyData} (h : ∀ x, noL (g x) = true) (l : List α) : noLs (l.map g) = true := noLs_of fun d hd => by
  obtain ⟨n, _, e⟩ := List.mem_map.mp hd
  rw [← e]; exact h n
theorem noL_net (N : Net) : noL (netD N) = true := by
  simp [netD, noL, noLs, noLs_map noL_tr, noLs_map noL_fl, noLs_map noL_tl, noLs_map noL_fa, noLs_strs]
theorem log2_of {i : Int} (h : i.natAbs < 10 ^ 12) : i.natAbs.log2 < 1920 := Nat.lt_trans (log2_small h) (by decide)
end Mine
set_option Elab.async false
set_option linter.all false
set_option maxRecDepth 100000
set_option maxHeartbeats 4000000
namespace Mine
open PySem PySem.Spec PyProof.Rows L2 Ln
abbrev s_law_limits : Stmt := topS 83
abbrev N_law_limits : List Str := ["seats", "count", "draws", "at", "limits", "most", "k"]
theorem sc_law_limits : FnScope N_law_limits ["seats", "count", "draws", "at"] (defScope s_law_limits) := ⟨rfl, rfl, rfl, by decide +kernel, rfl, by decide +kernel, by decide +kernel⟩
-- slots: 0 seats, 1 count, 2 draws, 3 at, 4 limits, 5 most, 6 k
section
variable {P : Program} {w : World} {K : PySem.W.Frag} {mg : Str → Option Value} {base : Heap}
theorem map1 {α β : Type} (f : α → β) (l : List α) (x : α) : l.map f ++ [f x] = (l ++ [x]).map f := by rw [List.map_append, List.map_singleton]
def spLimits (K : PySem.W.Frag) : Sp := hid fun vs H Q _ => ∃ (dr at_ : Addr) (s : Int) (c : Nat), vs = [.int s, .int (c : Int), .ref dr, .ref at_] ∧ 1 ≤ s ∧ s ≤ 500 ∧ c ≤ 4 ∧ Drw dr at_ H ∧
  ∀ t H' ls, But at_ H H' → Drw dr at_ H' → SqT K H' t (ls.map V.int) → LimsOk c ls → Q (.ref t) H'
theorem ok_limits {f : Addr} {fd : FuncData} (F : Fun K "_law_limits" "_law_limits" s_law_limits f fd) (T : LawTxt mg) (c__law_take : Cg P w K mg base CX0 2 "_law_take" (spTake K)) :
    FnG P w K mg base CX0 3 f fd ["seats", "count", "draws", "at"] (spLimits K) := by
  refine okG F sc_law_limits (fun vs H Q E h => ?_) (fun cdv A outer s H vs Q E hG hr h => ?_)
  · obtain ⟨dr, at_, s, c, rfl, _⟩ := h
    rfl
  · obtain ⟨dr, at_, s, c, rfl, s1, s2, hc, hD, q⟩ := h
    refine ⟨_, (pss_cons (ps_set (i := 4) sc_law_limits.nd rfl (.inl rfl) (pe_lst pa_nil))
    (pss_cons (ps_set (i := 5) sc_law_limits.nd rfl (.inl rfl) (pe_callB (id := "min") (call_min2 rfl) (by rfl) T.z_min (by decide +kernel) (pa_cons pe_int (pa_cons (pe_op op_add (pv 0) (pe_cg c__law_take hr (by decide) hG (by rfl) (pa_cons (pv 2) (pa_cons (pv 3) (pa_cons pe_int pa_nil))))) pa_nil))))
    (pss_cons (ps_for PassesOwn.never rfl (pi_range1 (by rfl) T.z_range (pa_cons (pv 1) pa_nil)) (pg_name (i := 6) sc_law_limits.nd rfl (.inl rfl))
    (pss_cons (ps_expr (pe_bm PySem.F.plainAttrs_list PySem.F.slot_list_append PySem.F.type_list_append mt_append (pv 4) (pa_cons (pv 5) pa_nil)))
    (pss_one (ps_set (i := 5) sc_law_limits.nd rfl (.inl rfl) (pe_callB (id := "max") (call_max2 rfl) (by rfl) T.z_max (by decide +kernel) (pa_cons pe_int (pa_cons (pe_op op_sub (pv 5) (pe_op op_fdiv (pe_cg c__law_take hr (by decide) hG (by rfl) (pa_cons (pv 2) (pa_cons (pv 3) (pa_cons (pe_op op_add pe_int (pe_callB (id := "max") (call_max2 rfl) (by rfl) T.z_max (by decide +kernel) (pa_cons pe_int (pa_cons (pv 5) pa_nil)))) pa_nil)))) pe_int)) pa_nil)))))))
    (pss_one (ps_ret (pe_callTy (r := Ln.rTupOf K) (T := "tuple") c_tuple (by rfl) T.z_tuple (by decide +kernel) (pa_cons (pv 4) pa_nil))))))), ?_⟩
    refine ⟨by show 0 ≤ sizeLine; decide, fun D nD => ?_⟩
    have S0 := (Sit.start (K := K) hD).push (xs := []) (ds := []) nD .nil (by simp [noLs])
    refine ⟨_, rfl, .ref dr, rfl, .ref at_, rfl, dr, at_, 3, rfl, S0.dw, by decide, fun v H1 v0 v1 hB1 hD1 => ?_⟩
    have S1 := S0.but hB1 hD1
    refine ⟨_, _, rfl, rfl, _, _, rfl, ?_⟩
    obtain ⟨m0, hm0, hm1, hm2, hm3⟩ : ∃ m : Int, (if s + v < 999 then s + v else 999) = m ∧ 0 ≤ m ∧ m ≤ 999 ∧ m ≤ s + 2 := ⟨_, rfl, by split <;> omega, by split <;> omega, by split <;> omega⟩
    rw [hm0]
    refine ⟨_, rfl, _, rfl, by omega, by omega, for_range (lo := 0) (n := c) (fun i σ H' => ∃ (ls : List Int) (m : Int) (v6 : Option V), σ = [some (.int s), some (.int (c : Int)), some (.ref dr), some (.ref at_), some (.ref D), some (.int m), v6] ∧
      Sit K dr at_ H [(D, ls.map V.int, ls.map PyData.int)] [] H' ∧ ls.length = i ∧ (∀ x ∈ ls, m ≤ x ∧ x ≤ 999) ∧ ls.Pairwise (· ≥ ·) ∧ 0 ≤ m ∧ m ≤ 999) ?_ ?_ ?_⟩
    · exact ⟨[], m0, _, rfl, S1, rfl, by simp, List.Pairwise.nil, hm1, hm2⟩
    · rintro i σ H' hi ⟨ls, m, v6, rfl, S, hl, hx, hp, h0, h9⟩
      have hDl := (S.li _ List.mem_cons_self).1
      refine ⟨.ref D, rfl, .inl ⟨rfl, _, SqL.of hDl⟩, _, rfl, D, _, _, rfl, rfl, hDl, ?_, ?_⟩
      · rw [List.length_map]; exact small1 (by omega)
      have S2 := Sit.app (pre := []) S (.int m) rfl
      refine ⟨_, rfl, .ref dr, rfl, .ref at_, rfl, _, rfl, _, _, rfl, _, _, rfl, rfl, dr, at_, _, rfl, S2.dw, by split <;> omega, fun v H3 v0 v1 hB3 hD3 => ?_⟩
      have S3 := S2.but hB3 hD3
      refine ⟨_, _, rfl, rfl, ⟨by decide, by decide⟩, _, _, rfl, rfl, _, _, rfl, ?_⟩
      have hv : 0 ≤ v / 2 := by omega
      refine ⟨ls ++ [m], _, _, rfl, by rw [← map1, ← map1]; exact S3, by rw [List.length_append, hl]; rfl, ?_, ?_, ?_, ?_⟩
      · intro x hx'
        rcases List.mem_append.mp hx' with hx' | hx'
        · have := hx x hx'
          split <;> omega
        · have e : x = m := by simpa using hx'
          split <;> omega
      · rw [List.pairwise_append]
        refine ⟨hp, List.pairwise_singleton _ _, fun a ha b hb => ?_⟩
        have e : b = m := by simpa using hb
        have := hx a ha
        omega
      · split <;> omega
      · split <;> omega
    · rintro σ H' ⟨ls, m, v6, rfl, S, hl, hx, hp, h0, h9⟩
      have hDl := (S.li _ List.mem_cons_self).1
      refine ⟨.ref D, rfl, D, _, rfl, .inl ⟨SqL.of hDl, fun t nt => ?_⟩⟩
      have S4 := S.tupN nt (S.li _ List.mem_cons_self).2.1 (S.li _ List.mem_cons_self).2.2.1
      exact q t _ ls S4.bt S4.dw (SqT.of upd_same) ⟨hl, fun x hx' => ⟨by have := hx x hx'; omega, (hx x hx').2⟩, hp⟩
end
end Mine
set_option Elab.async false
set_option linter.all false
set_option maxRecDepth 100000
set_option maxHeartbeats 16000000
namespace Mine
open PySem PySem.Spec PyProof.Rows L2 Ln
abbrev s_law_net : Stmt := topS 84
abbrev N_law_net : List Str := ["draws", "at", "small", "names", "stations", "name", "types", "k", "seats", "classes", "flights", "tails", "kind", "here", "time", "row", "j", "there", "depart", "arrive", "turn", "order", "fares", "start", "end", "price", "place"]
theorem sc_law_net : FnScope N_law_net ["draws", "at", "small"] (defScope s_law_net) := ⟨rfl, rfl, rfl, by decide +kernel, rfl, by decide +kernel, by decide +kernel⟩
-- slots: 0 draws*, 1 at*, 2 small, 3 names, 4 stations, 5 name, 6 types, 7 k, 8 seats, 9 classes, 10 flights*, 11 tails, 12 kind, 13 here*, 14 time, 15 row, 16 j, 17 there, 18 depart, 19 arrive, 20 turn*, 21 order, 22 fares, 23 start*, 24 end, 25 price, 26 place
section
variable {P : Program} {w : World} {K : PySem.W.Frag} {mg : Str → Option Value} {base : Heap}
theorem m1 {α : Type} {a b : α} {l : List α} : b ∈ a :: b :: l := .tail _ (.head _)
theorem m2 {α : Type} {a b c : α} {l : List α} : c ∈ a :: b :: c :: l := .tail _ m1
theorem m3 {α : Type} {a b c d : α} {l : List α} : d ∈ a :: b :: c :: d :: l := .tail _ m2
theorem m4 {α : Type} {a b c d e : α} {l : List α} : e ∈ a :: b :: c :: d :: e :: l := .tail _ m3
section
variable {dr at_ : Addr} {H0 H : Hp} {ps : List Own} {qs : List (V × PyData)} {Q : VK}
theorem Sit.take (S : Sit K dr at_ H0 ps qs H) {m : Int} (hm : 0 < m) (k : ∀ v H', 0 ≤ v → v < m → Sit K dr at_ H0 ps qs H' → Q (.int v) H') : spTake K [.ref dr, .ref at_, .int m] H Q E0 :=
  ⟨dr, at_, m, rfl, S.dw, hm, fun v H' v0 v1 hB hD => k v H' v0 v1 (S.but hB hD)⟩
theorem Sit.oneI (S : Sit K dr at_ H0 ps qs H) {r : Addr} (n : H r = none) {xs : List Int} (pos : 0 < xs.length) (k : ∀ i ∈ xs, ∀ H', Sit K dr at_ H0 ps qs H' → Q (.int i) H') :
    spOne K [.ref r, .ref dr, .ref at_] (upd H r (.lst (xs.map V.int))) Q E0 := by
  obtain ⟨p, hp⟩ := S.dw.atL
  have ne : r ≠ at_ := fun z => by rw [z, hp] at n; cases n
  refine ⟨r, dr, at_, xs.map V.int, rfl, .inl fun H' b => SqL.of (b _ _ ne upd_same), S.dw.news n, by rw [List.length_map]; exact pos, fun x hx H' hB hD => ?_⟩
  obtain ⟨i, hi, e⟩ := List.mem_map.mp hx
  rw [← e]
  exact k i hi H' ((S.new n).but hB hD)
theorem Sit.oneL (S : Sit K dr at_ H0 ps qs H) {p : Own} (m : p ∈ ps) (pos : 0 < p.2.1.length) (k : ∀ x d H', d ∈ p.2.2 → Dp K H' x d → noL d = true → Sit K dr at_ H0 ps qs H' → Q x H') : spOne K [.ref p.1, .ref dr, .ref at_] H Q E0 := by
  refine ⟨p.1, dr, at_, p.2.1, rfl, .inl (S.butL m), S.dw, pos, fun x hx H' hB hD => ?_⟩
  have S' := S.but hB hD
  obtain ⟨_, a2, a3, _⟩ := S'.li p m
  obtain ⟨d, hd, q⟩ := DpAll.mem a2 hx
  exact k x d H' hd q (noLs_mem a3 d hd) S'
/-- out of a tuple of data -/
theorem Sit.oneT (S : Sit K dr at_ H0 ps qs H) {t : Addr} {ds : List PyData} (m : (V.ref t, PyData.tuple ds) ∈ qs) (pos : 0 < ds.length) (k : ∀ x d H', d ∈ ds → Dp K H' x d → noL d = true → Sit K dr at_ H0 ps qs H' → Q x H') : spOne K [.ref t, .ref dr, .ref at_] H Q E0 := by
  obtain ⟨h1, h2⟩ := S.da _ m
  have h2' : noLs ds = true := by simpa only [noL] using h2
  cases h1 with
  | @tup _ xs _ a b =>
    refine ⟨t, dr, at_, xs, rfl, .inr a, S.dw, by rw [DpAll.len b]; exact pos, fun x hx H' hB hD => ?_⟩
    obtain ⟨d, hd, q⟩ := DpAll.mem b hx
    obtain ⟨p, hp⟩ := S.dw.atL
    exact k x d H' hd (Dp.tpf (TpF.but hB hp) _ _ (noLs_mem h2' d hd) q) (noLs_mem h2' d hd) (S.but hB hD)
/-- out of a list of names -/
theorem Sit.oneS (S : Sit K dr at_ H0 ps qs H) {a : Addr} {ns : List Str} (m : ((a, ns.map V.str, ns.map PyData.str) : Own) ∈ ps) (pos : 0 < ns.length) (k : ∀ x ∈ ns, ∀ H', Sit K dr at_ H0 ps qs H' → Q (.str x) H') : spOne K [.ref a, .ref dr, .ref at_] H Q E0 := by
  refine S.oneL m (by rw [List.length_map]; exact pos) fun x d H' hd hx _ S' => ?_
  obtain ⟨y, hy, rfl⟩ := List.mem_map.mp hd
  cases hx
  exact k y hy H' S'
end
theorem dig_len : ∀ i : Nat, i < 10 → (dig i).length = 1 := by decide +kernel
theorem str1 {x : Str} (hx : x.length ≤ 100) {i : Nat} (hi : i < 10) : x.length + (Str.ofString (toString ((0 : Int) + (i : Int)))).length ≤ sizeLine := by
  have e : (Str.ofString (toString ((0 : Int) + (i : Int)))).length = 1 := dig_len i hi
  rw [e]
  exact Nat.le_trans (Nat.add_le_add_right hx 1) (by decide)
theorem log1 {i : Nat} (hi : i < 10) : ((0 : Int) + (i : Int)).natAbs.log2 < 1920 := log2_of (by omega)
theorem Sit.same {K : PySem.W.Frag} {dr at_ : Addr} {H0 H H' : Hp} {ps : List Own} {qs : List (V × PyData)} (S : Sit K dr at_ H0 ps qs H) (s : Same H H') : Sit K dr at_ H0 ps qs H' := by
  refine S.step (TpF.same s) ?_ (S.bt.trans (Same.but s)) fun p m => s _ _ (S.li p m).1
  obtain ⟨ds, p, h1, h2, h3⟩ := S.dw
  exact ⟨ds, p, s _ _ h1, s _ _ h2, h3⟩
theorem Sit.limits {K : PySem.W.Frag} {dr at_ : Addr} {H0 H : Hp} {ps : List Own} {qs : List (V × PyData)} {Q : VK} (S : Sit K dr at_ H0 ps qs H) {s : Int} {c : Nat} (s1 : 1 ≤ s) (s2 : s ≤ 500) (hc : c ≤ 4)
    (k : ∀ t H' ls, LimsOk c ls → Sit K dr at_ H0 ps ((.ref t, .tuple (ls.map .int)) :: qs) H' → Q (.ref t) H') : spLimits K [.int s, .int (c : Int), .ref dr, .ref at_] H Q E0 :=
  ⟨dr, at_, s, c, rfl, s1, s2, hc, S.dw, fun t H' ls hB hD ht hl => k t H' ls hl ((S.but hB hD).data (.tup ht (dp_ints _)) (by simpa only [noL] using noLs_ints ls))⟩
theorem tr_at {K : PySem.W.Frag} {H : Hp} {v : V} {s : Tri} (h : Dp K H v (trD s)) : ∃ t, v = .ref t ∧ SqT K H t [.str s.1, .int s.2.1, .int s.2.2] := by
  unfold trD at h
  cases h with
  | @tup t xs ds h1 h2 =>
    cases h2 with
    | cons a b => cases b with
      | cons b c => cases c with
        | cons c d =>
          cases d
          cases a
          cases b
          cases c
          exact ⟨t, rfl, h1⟩
theorem other {ns : List Str} {n : Nat} (h2 : 2 ≤ n) (e : ns = six.take n) (x : Str) : 0 < (ns.filter fun y => y ≠ x).length := by
  have h : ∃ r : List Str, ns = ("AAA" : Str) :: ("BB" : Str) :: r := by
    match n, h2 with
    | n + 2, _ => exact ⟨_, e⟩
  obtain ⟨r, e⟩ := h
  apply List.length_pos_of_mem (a := if x = ("AAA" : Str) then ("BB" : Str) else ("AAA" : Str))
  rw [List.mem_filter, e]
  by_cases c : x = ("AAA" : Str)
  · rw [if_pos c, c]
    exact ⟨by simp, by decide⟩
  · rw [if_neg c]
    exact ⟨by simp, by simpa using fun z => c z.symm⟩
def prD (p : Int × Int) : PyData := .tuple [.int p.1, .int p.2]
theorem pr_at {K : PySem.W.Frag} {H : Hp} {v : V} {p : Int × Int} (h : Dp K H v (prD p)) : ∃ t, v = .ref t ∧ SqT K H t [.int p.1, .int p.2] := by
  unfold prD at h
  cases h with
  | @tup t xs ds h1 h2 =>
    cases h2 with
    | cons a b => cases b with
      | cons b c =>
        cases c
        cases a
        cases b
        exact ⟨t, rfl, h1⟩
theorem strs_at {K : PySem.W.Frag} {H : Hp} {t : Addr} {ns : List Str} (h : Dp K H (.ref t) (.tuple (ns.map PyData.str))) : SqT K H t (ns.map V.str) := by
  cases h with
  | @tup _ xs _ h1 h2 =>
    have e : xs = ns.map V.str := by
      clear h1
      induction ns generalizing xs with
      | nil => cases h2; rfl
      | cons n r ih =>
        cases h2 with
        | cons a b =>
          cases a
          rw [ih b]
          rfl
    rw [← e]
    exact h1
theorem flOf_len {ns : List Str} {c : Nat} {ty : List Tri} {R : List (Tri × List Flt)} (h : ∀ k r, R[k]? = some r → RowOk ns c ty k r) : (flOf R).length ≤ 5 * R.length := by
  have g : ∀ r ∈ R, r.2.length ≤ 5 := fun r hr => by
    obtain ⟨k, hk, e⟩ := List.mem_iff_getElem.mp hr
    exact (h k r (by rw [List.getElem?_eq_getElem hk, e])).len
  clear h
  unfold flOf
  induction R with
  | nil => simp
  | cons r l ih =>
    rw [List.flatMap_cons, List.length_append, List.length_cons]
    have h1 := g r List.mem_cons_self
    have h2 := ih fun x hx => g x (List.mem_cons_of_mem _ hx)
    omega
theorem dp_map {K : PySem.W.Frag} {H : Hp} (g : V → PyData) : ∀ (xs : List V), (∀ x ∈ xs, Dp K H x (g x)) → DpAll K H xs (xs.map g)
  | [], _ => .nil
  | x :: r, h => .cons (h x List.mem_cons_self) (dp_map g r fun y hy => h y (List.mem_cons_of_mem _ hy))
theorem noL_pr (p : Int × Int) : noL (prD p) = true := by simp [prD, noL, noLs]
theorem dp_at_map {K : PySem.W.Frag} {H : Hp} {xs : List V} {g : V → PyData} (h : DpAll K H xs (xs.map g)) {i : Nat} {x : V} (e : xs[i]? = some x) : Dp K H x (g x) := by
  obtain ⟨d, hd, q⟩ := DpAll.get h e
  rw [List.getElem?_map, e] at hd
  rw [Option.some.inj hd]
  exact q
def pickF (F : List Flt) (ks : List Nat) : List Flt := ks.filterMap fun k => F[k]?
theorem pick_range (F : List Flt) : pickF F (List.range F.length) = F := by
  have e : (List.range F.length).map (fun k => F[k]?) = F.map some := by
    apply List.ext_getElem?
    intro i
    rw [List.getElem?_map, List.getElem?_map]
    by_cases h : i < F.length
    · rw [List.getElem?_range h, List.getElem?_eq_getElem h]
      simp [List.getElem?_eq_getElem h]
    · rw [List.getElem?_eq_none (by simpa using h), List.getElem?_eq_none (by simpa using h)]
      rfl
  have e2 : pickF F (List.range F.length) = ((List.range F.length).map fun k => F[k]?).filterMap id := by
    unfold pickF
    rw [List.filterMap_map]
    rfl
  rw [e2, e, List.filterMap_map]
  exact List.filterMap_some
theorem pick_app (F : List Flt) (ks : List Nat) {k : Nat} {f : Flt} (h : F[k]? = some f) : pickF F (ks ++ [k]) = pickF F ks ++ [f] := by
  unfold pickF
  rw [List.filterMap_append]
  simp [h]
theorem fdig_len : ∀ i : Nat, i < 10 → (("f" : Str) ++ dig i).length ≤ 100 := by decide +kernel
theorem mem_one {xs : List Int} {x : V} (h : x ∈ xs.map V.int) : ∃ i ∈ xs, x = .int i := by
  obtain ⟨i, hi, e⟩ := List.mem_map.mp h
  exact ⟨i, hi, e.symm⟩
def spNet (K : PySem.W.Frag) : Sp := fun vs H Q _ => ∃ (dr at_ : Addr) (b : Bool), vs = [.ref dr, .ref at_, .bl b] ∧ Drw dr at_ H ∧
  ∀ a H' N, But at_ H H' → Drw dr at_ H' → Dp K H' (.ref a) (netD N) → Right N → (b = true → ∀ s ∈ N.ty, s.2.1 ≤ 4) → Q (.ref a) H'
theorem ok_net {f : Addr} {fd : FuncData} (F : Fun K "_law_net" "_law_net" s_law_net f fd) (T : LawTxt mg) (c__law_take : Cg P w K mg base CX0 2 "_law_take" (spTake K)) (c__law_one : Cg P w K mg base CX0 3 "_law_one" (spOne K))
    (c__law_limits : Cg P w K mg base CX0 3 "_law_limits" (spLimits K)) : FnG P w K mg base CX0 4 f fd ["draws", "at", "small"] (spNet K) := by
  refine okG F sc_law_net (fun vs H Q E h => ?_) (fun cdv A outer s H vs Q E hG hr h => ?_)
  · obtain ⟨dr, at_, b, rfl, _⟩ := h
    rfl
  · obtain ⟨dr, at_, b, rfl, hD, q⟩ := h
    refine ⟨_, (pss_cons (ps_set (i := 3) sc_law_net.nd rfl (.inl rfl) (pe_slice (r := rSlL K) sl_list (pe_lst (pa_cons pe_str (pa_cons pe_str (pa_cons pe_str (pa_cons pe_str (pa_cons pe_str (pa_cons pe_str pa_nil))))))) po_none (po_some (pe_op op_add pe_int (pe_cg c__law_take hr (by decide) hG (by rfl) (pa_cons (pv 0) (pa_cons (pv 1) (pa_cons pe_int pa_nil))))))))
    (pss_cons (ps_set (i := 4) sc_law_net.nd rfl (.inl rfl) (pe_callTy (r := Ln.rTupOf K) (T := "tuple") c_tuple (by rfl) T.z_tuple (by decide +kernel) (pa_cons (pe_lc (own := [("name", 5)]) rfl sc_law_net.nd (pi_list (pv 3)) (blkOk_by (own := [("name", 5)]) (N := N_law_net) (sc := defScope s_law_net) (by decide +kernel)) (fun _ _ _ _ _ => (pg_name (i := 5) sc_law_net.nd rfl (.inl rfl))) (fun _ _ _ _ _ => pts_nil) (fun _ _ _ _ _ => (pe_tup (pa_cons (pv 5) (pa_cons (pe_cg c__law_one hr (by decide) hG (by rfl) (pa_cons (pe_lst (pa_cons pe_int (pa_cons pe_int (pa_cons (pe_un un_neg pe_int) (pa_cons pe_int (pa_cons (pe_un un_neg pe_int) (pa_cons pe_int pa_nil))))))) (pa_cons (pv 0) (pa_cons (pv 1) pa_nil)))) (pa_cons (pe_cg c__law_one hr (by decide) hG (by rfl) (pa_cons (pe_lst (pa_cons pe_int (pa_cons pe_int (pa_cons pe_int (pa_cons pe_int (pa_cons pe_int pa_nil)))))) (pa_cons (pv 0) (pa_cons (pv 1) pa_nil)))) pa_nil)))))) pa_nil)))
    (pss_cons (ps_set (i := 6) sc_law_net.nd rfl (.inl rfl) (pe_lst pa_nil))
    (pss_cons (ps_for PassesOwn.never rfl (pi_range1 (by rfl) T.z_range (pa_cons (pe_op op_add pe_int (pe_cg c__law_take hr (by decide) hG (by rfl) (pa_cons (pv 0) (pa_cons (pv 1) (pa_cons pe_int pa_nil))))) pa_nil)) (pg_name (i := 7) sc_law_net.nd rfl (.inl rfl))
    (pss_cons (ps_set (i := 8) sc_law_net.nd rfl (.inl rfl) (pe_ifExp (pt_val (pv 2)) (pe_op op_add pe_int (pe_cg c__law_take hr (by decide) hG (by rfl) (pa_cons (pv 0) (pa_cons (pv 1) (pa_cons pe_int pa_nil))))) (pe_cg c__law_one hr (by decide) hG (by rfl) (pa_cons (pe_lst (pa_cons pe_int (pa_cons pe_int (pa_cons pe_int (pa_cons pe_int (pa_cons pe_int pa_nil)))))) (pa_cons (pv 0) (pa_cons (pv 1) pa_nil))))))
    (pss_one (ps_expr (pe_bm PySem.F.plainAttrs_list PySem.F.slot_list_append PySem.F.type_list_append mt_append (pv 6) (pa_cons (pe_tup (pa_cons (pe_op op_add_str pe_str (pe_callTy (T := "str") call_str_int (by rfl) T.z_str (by decide +kernel) (pa_cons (pv 7) pa_nil))) (pa_cons (pv 8) (pa_cons (pe_cg c__law_one hr (by decide) hG (by rfl) (pa_cons (pe_lst (pa_cons pe_int (pa_cons pe_int (pa_cons pe_int (pa_cons pe_int pa_nil))))) (pa_cons (pv 0) (pa_cons (pv 1) pa_nil)))) pa_nil)))) pa_nil))))))
    (pss_cons (ps_set (i := 9) sc_law_net.nd rfl (.inl rfl) (pe_slice (r := Ln.rSlS K) sl_tupS (pe_tup (pa_cons pe_str (pa_cons pe_str (pa_cons pe_str (pa_cons pe_str pa_nil))))) po_none (po_some (pe_op op_add pe_int (pe_cg c__law_take hr (by decide) hG (by rfl) (pa_cons (pv 0) (pa_cons (pv 1) (pa_cons pe_int pa_nil))))))))
    (pss_cons (ps_set (i := 10) sc_law_net.nd rfl (.inr rfl) (pe_lst pa_nil))
    (pss_cons (ps_set (i := 11) sc_law_net.nd rfl (.inl rfl) (pe_lst pa_nil))
    (pss_cons (ps_for PassesOwn.never rfl (pi_range1 (by rfl) T.z_range (pa_cons (pe_op op_add pe_int (pe_cg c__law_take hr (by decide) hG (by rfl) (pa_cons (pv 0) (pa_cons (pv 1) (pa_cons pe_int pa_nil))))) pa_nil)) (pg_name (i := 7) sc_law_net.nd rfl (.inl rfl))
    (pss_cons (ps_set (i := 12) sc_law_net.nd rfl (.inl rfl) (pe_cg c__law_one hr (by decide) hG (by rfl) (pa_cons (pv 6) (pa_cons (pv 0) (pa_cons (pv 1) pa_nil)))))
    (pss_cons (ps_set (i := 13) sc_law_net.nd rfl (.inr rfl) (pe_cg c__law_one hr (by decide) hG (by rfl) (pa_cons (pv 3) (pa_cons (pv 0) (pa_cons (pv 1) pa_nil)))))
    (pss_cons (ps_set (i := 14) sc_law_net.nd rfl (.inl rfl) (pe_cg c__law_take hr (by decide) hG (by rfl) (pa_cons (pv 0) (pa_cons (pv 1) (pa_cons pe_int pa_nil)))))
    (pss_cons (ps_set (i := 15) sc_law_net.nd rfl (.inl rfl) (pe_lst pa_nil))
    (pss_cons (ps_for PassesOwn.never rfl (pi_range1 (by rfl) T.z_range (pa_cons (pe_ix (r := rIxL K) ix_list (pe_lst (pa_cons pe_int (pa_cons pe_int (pa_cons pe_int (pa_cons pe_int (pa_cons pe_int (pa_cons pe_int pa_nil))))))) (pe_cg c__law_take hr (by decide) hG (by rfl) (pa_cons (pv 0) (pa_cons (pv 1) (pa_cons pe_int pa_nil)))) (fun _ _ => rfl)) pa_nil)) (pg_name (i := 16) sc_law_net.nd rfl (.inl rfl))
    (pss_cons (ps_set (i := 17) sc_law_net.nd rfl (.inl rfl) (pe_cg c__law_one hr (by decide) hG (by rfl) (pa_cons (pe_lc (own := [("name", 5)]) rfl sc_law_net.nd (pi_list (pv 3)) (blkOk_by (own := [("name", 5)]) (N := N_law_net) (sc := defScope s_law_net) (by decide +kernel)) (fun _ _ _ _ _ => (pg_name (i := 5) sc_law_net.nd rfl (.inl rfl))) (fun _ _ _ _ _ => (pts_one (pt_cmpR op_ne (pv 5) (pv 13) (nomark _)))) (fun _ _ _ _ _ => (pv 5))) (pa_cons (pv 0) (pa_cons (pv 1) pa_nil)))))
    (pss_cons (ps_set (i := 18) sc_law_net.nd rfl (.inl rfl) (pe_op op_add (pv 14) (pe_cg c__law_one hr (by decide) hG (by rfl) (pa_cons (pe_lst (pa_cons pe_int (pa_cons pe_int (pa_cons pe_int (pa_cons pe_int (pa_cons pe_int (pa_cons pe_int (pa_cons pe_int pa_nil)))))))) (pa_cons (pv 0) (pa_cons (pv 1) pa_nil))))))
    (pss_cons (ps_set (i := 19) sc_law_net.nd rfl (.inl rfl) (pe_op op_add (pv 18) (pe_cg c__law_one hr (by decide) hG (by rfl) (pa_cons (pe_lst (pa_cons pe_int (pa_cons pe_int (pa_cons pe_int (pa_cons pe_int (pa_cons pe_int pa_nil)))))) (pa_cons (pv 0) (pa_cons (pv 1) pa_nil))))))
    (pss_cons (ps_set (i := 5) sc_law_net.nd rfl (.inl rfl) (pe_op op_add_str (pe_op op_add_str pe_str (pe_callTy (T := "str") call_str_int (by rfl) T.z_str (by decide +kernel) (pa_cons (pv 7) pa_nil))) (pe_callTy (T := "str") call_str_int (by rfl) T.z_str (by decide +kernel) (pa_cons (pv 16) pa_nil))))
    (pss_cons (ps_expr (pe_bm PySem.F.plainAttrs_list PySem.F.slot_list_append PySem.F.type_list_append mt_append (pv 10) (pa_cons (pe_tup (pa_cons (pv 5) (pa_cons (pv 13) (pa_cons (pv 17) (pa_cons (pv 18) (pa_cons (pv 19) (pa_cons (pe_ix (r := rIxT K) ix_tup (pv 12) pe_int (fun _ _ => rfl)) (pa_cons (pe_op op_add pe_int (pe_cg c__law_take hr (by decide) hG (by rfl) (pa_cons (pv 0) (pa_cons (pv 1) (pa_cons pe_int pa_nil))))) (pa_cons (pe_cg c__law_limits hr (by decide) hG (by rfl) (pa_cons (pe_ix (r := rIxT K) ix_tup (pv 12) pe_int (fun _ _ => rfl)) (pa_cons (pe_callB (r := Ln.rLen K) (id := "len") c_len (by rfl) T.z_len (by decide +kernel) (pa_cons (pv 9) pa_nil)) (pa_cons (pv 0) (pa_cons (pv 1) pa_nil))))) pa_nil))))))))) pa_nil)))
    (pss_cons (ps_expr (pe_bm PySem.F.plainAttrs_list PySem.F.slot_list_append PySem.F.type_list_append mt_append (pv 15) (pa_cons (pv 5) pa_nil)))
    (pss_cons (ps_set (i := 13) sc_law_net.nd rfl (.inr rfl) (pv 17))
    (pss_one (ps_set (i := 14) sc_law_net.nd rfl (.inl rfl) (pe_op op_add (pv 19) (pe_ix (r := rIxT K) ix_tup (pv 12) pe_int (fun _ _ => rfl)))))))))))))
    (pss_one (ps_expr (pe_bm PySem.F.plainAttrs_list PySem.F.slot_list_append PySem.F.type_list_append mt_append (pv 11) (pa_cons (pe_tup (pa_cons (pe_op op_add_str pe_str (pe_callTy (T := "str") call_str_int (by rfl) T.z_str (by decide +kernel) (pa_cons (pv 7) pa_nil))) (pa_cons (pe_ix (r := rIxT K) ix_tup (pv 12) pe_int (fun _ _ => rfl)) (pa_cons (pe_callTy (r := Ln.rTupOf K) (T := "tuple") c_tuple (by rfl) T.z_tuple (by decide +kernel) (pa_cons (pv 15) pa_nil)) pa_nil)))) pa_nil))))))))))
    (pss_cons (ps_set (i := 20) sc_law_net.nd rfl (.inr rfl) (pe_cg c__law_take hr (by decide) hG (by rfl) (pa_cons (pv 0) (pa_cons (pv 1) (pa_cons pe_int pa_nil)))))
    (pss_cons (ps_set (i := 21) sc_law_net.nd rfl (.inl rfl) (pe_callB (r := rSortedPO K) (id := "sorted") cr_sortedPO (by rfl) T.z_sorted (by decide +kernel) (pa_cons (pe_lc (own := [("k", 7)]) rfl sc_law_net.nd (pi_range1 (by rfl) T.z_range (pa_cons (pe_callB (r := Ln.rLen K) (id := "len") c_len (by rfl) T.z_len (by decide +kernel) (pa_cons (pv 10) pa_nil)) pa_nil)) (blkOk_by (own := [("k", 7)]) (N := N_law_net) (sc := defScope s_law_net) (by decide +kernel)) (fun _ _ _ _ _ => (pg_name (i := 7) sc_law_net.nd rfl (.inl rfl))) (fun _ _ _ _ _ => pts_nil) (fun _ _ _ _ _ => (pe_tup (pa_cons (pe_op op_mod (pe_callTy (T := "int") call_int1 (by rfl) T.z_int (by decide +kernel) (pa_cons (pe_op op_add (pe_op op_mul (pv 7) (pe_op op_add (pv 20) pe_int)) (pv 20)) pa_nil)) pe_int) (pa_cons (pv 7) pa_nil))))) pa_nil)))
    (pss_cons (ps_set (i := 22) sc_law_net.nd rfl (.inl rfl) (pe_lst pa_nil))
    (pss_cons (ps_for PassesOwn.never rfl (pi_range1 (by rfl) T.z_range (pa_cons (pe_cg c__law_take hr (by decide) hG (by rfl) (pa_cons (pv 0) (pa_cons (pv 1) (pa_cons pe_int pa_nil)))) pa_nil)) (pg_name (i := 7) sc_law_net.nd rfl (.inl rfl))
    (pss_cons (ps_set (i := 23) sc_law_net.nd rfl (.inr rfl) (pe_cg c__law_one hr (by decide) hG (by rfl) (pa_cons (pv 3) (pa_cons (pv 0) (pa_cons (pv 1) pa_nil)))))
    (pss_cons (ps_set (i := 24) sc_law_net.nd rfl (.inl rfl) (pe_cg c__law_one hr (by decide) hG (by rfl) (pa_cons (pe_lc (own := [("name", 5)]) rfl sc_law_net.nd (pi_list (pv 3)) (blkOk_by (own := [("name", 5)]) (N := N_law_net) (sc := defScope s_law_net) (by decide +kernel)) (fun _ _ _ _ _ => (pg_name (i := 5) sc_law_net.nd rfl (.inl rfl))) (fun _ _ _ _ _ => (pts_one (pt_cmpR op_ne (pv 5) (pv 23) (nomark _)))) (fun _ _ _ _ _ => (pv 5))) (pa_cons (pv 0) (pa_cons (pv 1) pa_nil)))))
    (pss_cons (ps_set (i := 25) sc_law_net.nd rfl (.inl rfl) (pe_cg c__law_one hr (by decide) hG (by rfl) (pa_cons (pe_lst (pa_cons pe_int (pa_cons pe_int (pa_cons pe_int (pa_cons pe_int (pa_cons pe_int (pa_cons pe_int pa_nil))))))) (pa_cons (pv 0) (pa_cons (pv 1) pa_nil)))))
    (pss_one (ps_expr (pe_bm PySem.F.plainAttrs_list PySem.F.slot_list_append PySem.F.type_list_append mt_append (pv 22) (pa_cons (pe_tup (pa_cons (pe_op op_add_str pe_str (pe_callTy (T := "str") call_str_int (by rfl) T.z_str (by decide +kernel) (pa_cons (pv 7) pa_nil))) (pa_cons (pv 23) (pa_cons (pv 24) (pa_cons (pe_cg c__law_one hr (by decide) hG (by rfl) (pa_cons (pv 9) (pa_cons (pv 0) (pa_cons (pv 1) pa_nil)))) (pa_cons (pv 25) (pa_cons (pe_cg c__law_take hr (by decide) hG (by rfl) (pa_cons (pv 0) (pa_cons (pv 1) (pa_cons pe_int pa_nil)))) (pa_cons (pe_cg c__law_take hr (by decide) hG (by rfl) (pa_cons (pv 0) (pa_cons (pv 1) (pa_cons pe_int pa_nil)))) (pa_cons (pe_cg c__law_one hr (by decide) hG (by rfl) (pa_cons (pe_lst (pa_cons pe_int (pa_cons pe_int (pa_cons pe_int (pa_cons pe_int pa_nil))))) (pa_cons (pv 0) (pa_cons (pv 1) pa_nil)))) pa_nil))))))))) pa_nil))))))))
    (pss_one (ps_ret (pe_tup (pa_cons (pv 4) (pa_cons (pe_callTy (r := Ln.rTupOf K) (T := "tuple") c_tuple (by rfl) T.z_tuple (by decide +kernel) (pa_cons (pv 6) pa_nil)) (pa_cons (pv 9) (pa_cons (pe_callTy (r := Ln.rTupOf K) (T := "tuple") c_tuple (by rfl) T.z_tuple (by decide +kernel) (pa_cons (pe_lc (own := [("place", 26), ("k", 7)]) (g := (gTup K 2 (gCons (gName 26) (gCons (gName 7) gNil)))) rfl sc_law_net.nd (pi_list (pv 21)) (blkOk_by (own := [("place", 26), ("k", 7)]) (N := N_law_net) (sc := defScope s_law_net) (by decide +kernel)) (fun _ _ _ _ _ => (pg_tup (by rfl) (pgs_cons (pg_name (i := 26) sc_law_net.nd rfl (.inl rfl)) (pgs_cons (pg_name (i := 7) sc_law_net.nd rfl (.inl rfl)) pgs_nil)))) (fun _ _ _ _ _ => pts_nil) (fun _ _ _ _ _ => (pe_ix (r := rIxL K) ix_list (pv 10) (pv 7) (fun _ _ => rfl)))) pa_nil)) (pa_cons (pe_callTy (r := Ln.rTupOf K) (T := "tuple") c_tuple (by rfl) T.z_tuple (by decide +kernel) (pa_cons (pv 11) pa_nil)) (pa_cons (pe_callTy (r := Ln.rTupOf K) (T := "tuple") c_tuple (by rfl) T.z_tuple (by decide +kernel) (pa_cons (pv 22) pa_nil)) pa_nil))))))))))))))))))))), ?_⟩
    -- names
    refine ⟨by show 6 ≤ sizeLine; decide, fun r1 n1 => ?_⟩
    have S0 := (Sit.start (K := K) hD).push (xs := six.map V.str) (ds := six.map PyData.str) n1 (dp_strs _) (noLs_strs _)
    refine ⟨.ref dr, rfl, .ref at_, rfl, S0.take (m := 5) (by decide) fun v H1 v0 v1 S1 => ?_⟩
    refine ⟨_, _, rfl, rfl, _, rfl, r1, six.map V.str, rfl, S1.seqL List.mem_cons_self, fun nm hnm => ?_⟩
    obtain ⟨n, hn2, hn6, ecut⟩ : ∃ n : Nat, 2 ≤ n ∧ n ≤ 6 ∧ cutV (six.map V.str) none (some (2 + v)) = (six.take n).map V.str := by
      have hv : v = 0 ∨ v = 1 ∨ v = 2 ∨ v = 3 ∨ v = 4 := by omega
      rcases hv with e | e | e | e | e <;> subst e
      · exact ⟨2, by decide, by decide, rfl⟩
      · exact ⟨3, by decide, by decide, rfl⟩
      · exact ⟨4, by decide, by decide, rfl⟩
      · exact ⟨5, by decide, by decide, rfl⟩
      · exact ⟨6, by decide, by decide, rfl⟩
    rw [ecut]
    obtain ⟨ns, ens⟩ : ∃ ns, ns = six.take n := ⟨_, rfl⟩
    rw [← ens]
    have lns : ns.length = n := by rw [ens, List.length_take]; show min n 6 = n; omega
    have S2 := (S1.less (ps' := []) (List.nil_sublist _) (fun _ h => h)).push (xs := ns.map V.str) (ds := ns.map PyData.str) hnm (dp_strs _) (noLs_strs _)
    -- stations
    refine ⟨_, rfl, nm, rfl, ⟨_, S2.seqL List.mem_cons_self⟩, fun D nD => lc_list (K := K) (a := nm) (xs := ns.map V.str) (fun i H' => ∃ (xs : List V) (l : List Tri), Sit K dr at_ H [(D, xs, l.map trD), (nm, ns.map V.str, ns.map PyData.str)] [] H' ∧
      l.map (·.1) = ns.take i ∧ ∀ s ∈ l, -720 ≤ s.2.1 ∧ s.2.1 ≤ 840 ∧ 0 ≤ s.2.2 ∧ s.2.2 ≤ 90) ?_ ?_ ?_ ?_⟩
    · exact ⟨[], [], S2.push nD .nil (by simp [noLs]), rfl, by simp⟩
    · rintro i H' _ ⟨xs, l, S, _⟩
      exact S.seqL m1
    · rintro i y H' hy ⟨xs, l, S, hl, hx⟩
      rw [List.getElem?_map] at hy
      obtain ⟨x, hxi, rfl⟩ := Option.map_eq_some_iff.mp hy
      refine ⟨rfl, ?_⟩
      refine ⟨_, rfl, 300, rfl, 720, rfl, by show 6 ≤ sizeLine; decide, fun ra na => ⟨.ref dr, rfl, .ref at_, rfl, S.oneI na (xs := [0, 60, -300, 840, -720, 345]) (by decide) fun z hz Ha Sa => ?_⟩⟩
      refine ⟨by show 5 ≤ sizeLine; decide, fun rb nb => ⟨.ref dr, rfl, .ref at_, rfl, Sa.oneI nb (xs := [0, 20, 45, 30, 90]) (by decide) fun y hy Hb Sb => ?_⟩⟩
      refine ⟨by show 3 ≤ sizeLine; decide, fun tt nt => ?_⟩
      have Sc := Sb.tupN (xs := [.str x, .int z, .int y]) (ds := [.str x, .int z, .int y]) nt (.cons (.str _) (.cons (.int _) (.cons (.int _) .nil))) (by simp [noLs, noL])
      have hDl := (Sc.li _ List.mem_cons_self).1
      refine ⟨xs, hDl, ?_, xs ++ [.ref tt], l ++ [(x, z, y)], ?_, ?_, ?_⟩
      · have : xs.length = (l.map trD).length := DpAll.len (Sc.li _ List.mem_cons_self).2.1
        rw [List.length_map] at this
        have l2 := congrArg List.length hl
        rw [List.length_map, List.length_take] at l2
        exact small1 (by omega)
      · have := Sit.app (pre := []) Sc (v := .ref tt) (d := trD (x, z, y)) (Sc.da _ List.mem_cons_self).1 (noL_tr _)
        rw [List.map_append, List.map_singleton]
        exact this.less (List.Sublist.refl _) (by simp)
      · rw [List.map_append, hl, takeS hxi]
        rfl
      · intro s hs
        rcases List.mem_append.mp hs with hs | hs
        · exact hx s hs
        · have e : s = (x, z, y) := by simpa using hs
          rw [e]
          have hz' : -720 ≤ z ∧ z ≤ 840 := by
            simp only [List.mem_cons, List.not_mem_nil, or_false] at hz
            omega
          have hy' : 0 ≤ y ∧ y ≤ 90 := by
            simp only [List.mem_cons, List.not_mem_nil, or_false] at hy
            omega
          exact ⟨hz'.1, hz'.2, hy'.1, hy'.2⟩
    rintro H2 ⟨xs, l, S, hl, hx⟩
    rw [List.length_map, List.take_of_length_le (Nat.le_refl _)] at hl
    refine ⟨D, xs, rfl, .inl ⟨S.seqL List.mem_cons_self, fun st nst => ?_⟩⟩
    have S3 : Sit K dr at_ H [(nm, ns.map V.str, ns.map PyData.str)] [(.ref st, .tuple (l.map trD))] (upd H2 st (.tup xs)) := (S.tupN nst (S.li _ List.mem_cons_self).2.1 (S.li _ List.mem_cons_self).2.2.1).less (ps' := [(nm, ns.map V.str, ns.map PyData.str)]) (List.sublist_cons_self _ _) (fun _ h => h)
    obtain ⟨stl, est⟩ : ∃ stl, stl = l := ⟨_, rfl⟩
    rw [← est] at S3 hl hx
    -- types
    refine ⟨by show 0 ≤ sizeLine; decide, fun ty nty => ?_⟩
    have S4 := S3.push (xs := []) (ds := []) nty .nil (by simp [noLs])
    refine ⟨.ref dr, rfl, .ref at_, rfl, S4.take (m := 3) (by decide) fun v H4 v0 v1 S5 => ?_⟩
    refine ⟨_, _, rfl, rfl, _, rfl, by omega, by omega, for_range (lo := 0) (n := (1 + v).toNat) (fun i σ H' => ∃ (xs : List V) (l : List Tri) (v7 v8 : Option V),
      σ = [some (.ref dr), some (.ref at_), some (.bl b), some (.ref nm), some (.ref st), none, some (.ref ty), v7, v8, none, none, none, none, none, none, none, none, none, none, none, none, none, none, none, none, none, none] ∧
      Sit K dr at_ H [(ty, xs, l.map trD), (nm, ns.map V.str, ns.map PyData.str)] [(.ref st, .tuple (stl.map trD))] H' ∧ l.length = i ∧ l.map (·.1) = (List.range i).map tnm ∧ (∀ s ∈ l, 1 ≤ s.2.1 ∧ s.2.1 ≤ 500 ∧ 0 ≤ s.2.2 ∧ s.2.2 ≤ 120) ∧ (b = true → ∀ s ∈ l, s.2.1 ≤ 4)) ?_ ?_ ?_⟩
    · exact ⟨[], [], _, _, rfl, S5, rfl, rfl, by simp, by simp⟩
    · rintro i σ H' hi ⟨xs, l, v7, v8, rfl, S, hli, hln, hr1, hr2⟩
      have hi3 : i < 3 := by omega
      refine ⟨_, rfl, b, rfl, ite2 (fun hb => ?_) (fun hb => ?_)⟩
      · refine ⟨.ref dr, rfl, .ref at_, rfl, S.take (m := 4) (by decide) fun u Hz u0 u1 Sz => ⟨_, _, rfl, rfl, ?_⟩⟩
        obtain ⟨z, ez⟩ : ∃ z, z = 1 + u := ⟨_, rfl⟩
        have z1 : 1 ≤ z := by omega
        have z2 : z ≤ 500 := by omega
        have z3 : b = true → z ≤ 4 := fun _ => by omega
        show gName 8 (V.int (1 + u)) _ _ _
        rw [← ez]
        refine ⟨.ref ty, rfl, .inl ⟨rfl, _, Sz.seqL List.mem_cons_self⟩, ?_⟩
        refine ⟨_, rfl, _, rfl, log1 (by omega), _, _, rfl, rfl, str1 (by decide) (by omega), _, rfl, ?_⟩
        refine ⟨by show 4 ≤ sizeLine; decide, fun ra na => ⟨.ref dr, rfl, .ref at_, rfl, Sz.oneI na (xs := [0, 15, 40, 120]) (by decide) fun y hy Ha Sa => ?_⟩⟩
        refine ⟨by show 3 ≤ sizeLine; decide, fun tt nt => ?_⟩
        have Sc := Sa.tupN (xs := [.str (tnm i), .int z, .int y]) (ds := [.str (tnm i), .int z, .int y]) nt (.cons (.str _) (.cons (.int _) (.cons (.int _) .nil))) (by simp [noLs, noL])
        have hDl := (Sc.li _ List.mem_cons_self).1
        have hlx : xs.length = (l.map trD).length := DpAll.len (Sc.li _ List.mem_cons_self).2.1
        rw [List.length_map] at hlx
        refine ⟨ty, xs, _, rfl, rfl, hDl, small1 (by omega), ?_⟩
        have Sd := Sit.app (pre := []) Sc (v := .ref tt) (d := trD (tnm i, z, y)) (Sc.da _ List.mem_cons_self).1 (noL_tr _)
        have Se := Sd.less (qs' := [(.ref st, .tuple (stl.map trD))]) (List.Sublist.refl _) (fun q m => .tail _ m)
        have hy' : 0 ≤ y ∧ y ≤ 120 := by
          simp only [List.mem_cons, List.not_mem_nil, or_false] at hy
          omega
        refine ⟨xs ++ [.ref tt], l ++ [(tnm i, z, y)], _, _, rfl, by rw [List.map_append, List.map_singleton]; exact Se, by rw [List.length_append, hli]; rfl, ?_, ?_, ?_⟩
        · rw [List.map_append, hln, List.range_succ, List.map_append]
          rfl
        · intro s hs
          rcases List.mem_append.mp hs with hs | hs
          · exact hr1 s hs
          · have e : s = (tnm i, z, y) := by simpa using hs
            rw [e]
            exact ⟨z1, z2, hy'.1, hy'.2⟩
        · intro hb s hs
          rcases List.mem_append.mp hs with hs | hs
          · exact hr2 hb s hs
          · have e : s = (tnm i, z, y) := by simpa using hs
            rw [e]
            exact z3 hb
      · refine ⟨by show 5 ≤ sizeLine; decide, fun rz nz => ⟨.ref dr, rfl, .ref at_, rfl, S.oneI nz (xs := [1, 2, 40, 150, 500]) (by decide) fun z hz Hz Sz => ?_⟩⟩
        have z1 : 1 ≤ z := by
          simp only [List.mem_cons, List.not_mem_nil, or_false] at hz
          omega
        have z2 : z ≤ 500 := by
          simp only [List.mem_cons, List.not_mem_nil, or_false] at hz
          omega
        have z3 : b = true → z ≤ 4 := fun c => absurd c hb
        refine ⟨.ref ty, rfl, .inl ⟨rfl, _, Sz.seqL List.mem_cons_self⟩, ?_⟩
        refine ⟨_, rfl, _, rfl, log1 (by omega), _, _, rfl, rfl, str1 (by decide) (by omega), _, rfl, ?_⟩
        refine ⟨by show 4 ≤ sizeLine; decide, fun ra na => ⟨.ref dr, rfl, .ref at_, rfl, Sz.oneI na (xs := [0, 15, 40, 120]) (by decide) fun y hy Ha Sa => ?_⟩⟩
        refine ⟨by show 3 ≤ sizeLine; decide, fun tt nt => ?_⟩
        have Sc := Sa.tupN (xs := [.str (tnm i), .int z, .int y]) (ds := [.str (tnm i), .int z, .int y]) nt (.cons (.str _) (.cons (.int _) (.cons (.int _) .nil))) (by simp [noLs, noL])
        have hDl := (Sc.li _ List.mem_cons_self).1
        have hlx : xs.length = (l.map trD).length := DpAll.len (Sc.li _ List.mem_cons_self).2.1
        rw [List.length_map] at hlx
        refine ⟨ty, xs, _, rfl, rfl, hDl, small1 (by omega), ?_⟩
        have Sd := Sit.app (pre := []) Sc (v := .ref tt) (d := trD (tnm i, z, y)) (Sc.da _ List.mem_cons_self).1 (noL_tr _)
        have Se := Sd.less (qs' := [(.ref st, .tuple (stl.map trD))]) (List.Sublist.refl _) (fun q m => .tail _ m)
        have hy' : 0 ≤ y ∧ y ≤ 120 := by
          simp only [List.mem_cons, List.not_mem_nil, or_false] at hy
          omega
        refine ⟨xs ++ [.ref tt], l ++ [(tnm i, z, y)], _, _, rfl, by rw [List.map_append, List.map_singleton]; exact Se, by rw [List.length_append, hli]; rfl, ?_, ?_, ?_⟩
        · rw [List.map_append, hln, List.range_succ, List.map_append]
          rfl
        · intro s hs
          rcases List.mem_append.mp hs with hs | hs
          · exact hr1 s hs
          · have e : s = (tnm i, z, y) := by simpa using hs
            rw [e]
            exact ⟨z1, z2, hy'.1, hy'.2⟩
        · intro hb s hs
          rcases List.mem_append.mp hs with hs | hs
          · exact hr2 hb s hs
          · have e : s = (tnm i, z, y) := by simpa using hs
            rw [e]
            exact z3 hb
    rintro σ H5 ⟨xs, tyl, v7, v8, rfl, S, hli, htn, hr1, hr2⟩
    -- classes
    refine ⟨by show 4 ≤ sizeLine; decide, fun r2 n2 => ?_⟩
    have S6 := S.tupN (xs := four.map V.str) (ds := four.map PyData.str) n2 (dp_strs _) (noLs_strs _)
    refine ⟨.ref dr, rfl, .ref at_, rfl, S6.take (m := 4) (by decide) fun v H6 v0 v1 S7 => ?_⟩
    have hsq2 : SqT K H6 r2 (four.map V.str) := by
      cases (S7.da _ List.mem_cons_self).1 with
      | @tup _ xs _ h1 h2 => exact (show xs = four.map V.str from by cases h2 with | cons a b => cases a; cases b with | cons a b => cases a; cases b with | cons a b => cases a; cases b with | cons a b => cases a; cases b; rfl) ▸ h1
    refine ⟨_, _, rfl, rfl, _, rfl, r2, _, rfl, hsq2, fun cl H7 sm7 hcl => ?_⟩
    obtain ⟨c, hc1, hc4, ecl⟩ : ∃ c : Nat, 1 ≤ c ∧ c ≤ 4 ∧ cutV (four.map V.str) none (some (1 + v)) = (four.take c).map V.str := by
      have hv : v = 0 ∨ v = 1 ∨ v = 2 ∨ v = 3 := by omega
      rcases hv with e | e | e | e <;> subst e
      · exact ⟨1, by decide, by decide, rfl⟩
      · exact ⟨2, by decide, by decide, rfl⟩
      · exact ⟨3, by decide, by decide, rfl⟩
      · exact ⟨4, by decide, by decide, rfl⟩
    rw [ecl] at hcl
    obtain ⟨cs, ecs⟩ : ∃ cs, cs = four.take c := ⟨_, rfl⟩
    rw [← ecs] at hcl
    have lcs : cs.length = c := by rw [ecs, List.length_take]; show min c 4 = c; omega
    have S8 : Sit K dr at_ H [(ty, xs, tyl.map trD), (nm, ns.map V.str, ns.map PyData.str)] [(.ref cl, .tuple (cs.map .str)), (.ref st, .tuple (stl.map trD))] H7 :=
      ((S7.same sm7).data (.tup hcl (dp_strs _)) (by simpa only [noL] using noLs_strs cs)).less (List.Sublist.refl _) (fun q m => (List.mem_cons.mp m).elim (fun e => e ▸ List.mem_cons_self) (fun m => .tail _ (.tail _ m)))
    -- flights, tails
    refine ⟨by show 0 ≤ sizeLine; decide, fun fl nfl => ?_⟩
    have S9 := S8.push (xs := []) (ds := []) nfl .nil (by simp [noLs])
    refine ⟨by show 0 ≤ sizeLine; decide, fun tl ntl => ?_⟩
    have S10 := S9.push (xs := []) (ds := []) ntl .nil (by simp [noLs])
    refine ⟨.ref dr, rfl, .ref at_, rfl, S10.take (m := 5) (by decide) fun v H8 v0 v1 S11 => ?_⟩
    have tpos : 0 < xs.length := by
      have e : xs.length = (tyl.map trD).length := DpAll.len (S11.li _ m2).2.1
      rw [e, List.length_map]
      omega
    refine ⟨_, _, rfl, rfl, _, rfl, by omega, by omega, for_range (lo := 0) (n := (1 + v).toNat) (fun i σ H' => ∃ (R : List (Tri × List Flt)) (x1 x2 : List V) (v5 v7 v8 v12 v13 v14 v15 v16 v17 v18 v19 : Option V),
      σ = [some (.ref dr), some (.ref at_), some (.bl b), some (.ref nm), some (.ref st), v5, some (.ref ty), v7, v8, some (.ref cl), some (.ref fl), some (.ref tl), v12, v13, v14, v15, v16, v17, v18, v19, none, none, none, none, none, none, none] ∧
      Sit K dr at_ H [(tl, x1, (tlOf R).map tlD), (fl, x2, (flOf R).map flD), (ty, xs, tyl.map trD), (nm, ns.map V.str, ns.map PyData.str)] [(.ref cl, .tuple (cs.map .str)), (.ref st, .tuple (stl.map trD))] H' ∧
      R.length = i ∧ ∀ k r, R[k]? = some r → RowOk ns c tyl k r) ?_ ?_ ?_⟩
    · exact ⟨[], [], [], _, _, _, _, _, _, _, _, _, _, _, rfl, S11, rfl, fun k r h => by simp at h⟩
    · rintro i σ H' hi ⟨R, x1, x2, v5, v7, v8, v12, v13, v14, v15, v16, v17, v18, v19, rfl, S, hRl, hR⟩
      -- kind
      refine ⟨.ref ty, rfl, .ref dr, rfl, .ref at_, rfl, S.oneL m2 tpos fun x d Ha hd hx hl Sa => ?_⟩
      obtain ⟨kd, hkd, rfl⟩ := List.mem_map.mp hd
      obtain ⟨kt, rfl, _⟩ := tr_at hx
      have Sa := Sa.data hx hl
      -- here
      refine ⟨.ref nm, rfl, .ref dr, rfl, .ref at_, rfl, Sa.oneS m3 (by omega) fun h0 hh0 Hb Sb => ?_⟩
      -- time
      refine ⟨.ref dr, rfl, .ref at_, rfl, Sb.take (m := 300) (by decide) fun t0 Hc t00 t01 Sc => ?_⟩
      refine ⟨by show 0 ≤ sizeLine; decide, fun rw_ nrw => ?_⟩
      have Sd := Sc.push (xs := []) (ds := []) nrw .nil (by simp [noLs])
      refine ⟨by show 6 ≤ sizeLine; decide, fun rr nrr => ?_⟩
      have Se := Sd.push (xs := [0, 2, 3, 4, 5, 5].map V.int) (ds := [0, 2, 3, 4, 5, 5].map PyData.int) nrr (dp_ints _) (noLs_ints _)
      refine ⟨.ref dr, rfl, .ref at_, rfl, Se.take (m := 6) (by decide) fun u Hd u0 u1 Sf => ?_⟩
      obtain ⟨J, hJ, eJ⟩ : ∃ J : Nat, J ≤ 5 ∧ atI ([0, 2, 3, 4, 5, 5].map V.int) u = some (.int (J : Int)) := by
        have hu : u = 0 ∨ u = 1 ∨ u = 2 ∨ u = 3 ∨ u = 4 ∨ u = 5 := by omega
        rcases hu with e | e | e | e | e | e <;> subst e
        · exact ⟨0, by decide, rfl⟩
        · exact ⟨2, by decide, rfl⟩
        · exact ⟨3, by decide, rfl⟩
        · exact ⟨4, by decide, rfl⟩
        · exact ⟨5, by decide, rfl⟩
        · exact ⟨5, by decide, rfl⟩
      refine ⟨rr, _, _, _, rfl, rfl, Sf.seqL List.mem_cons_self, eJ, ?_⟩
      have Sg : Sit K dr at_ H [(rw_, [], []), (tl, x1, (tlOf R).map tlD), (fl, x2, (flOf R).map flD), (ty, xs, tyl.map trD), (nm, ns.map V.str, ns.map PyData.str)] [(.ref kt, trD kd), (.ref cl, .tuple (cs.map .str)), (.ref st, .tuple (stl.map trD))] Hd :=
        Sf.less (List.sublist_cons_self _ _) (fun _ h => h)
      have kd1 := hr1 kd hkd
      refine ⟨_, rfl, by omega, by omega, for_range (lo := 0) (n := J) (fun j σ H' => ∃ (rl : List Flt) (x3 x4 : List V) (h1 : Str) (t1 : Int) (v5 v16 v17 v18 v19 : Option V),
        σ = [some (.ref dr), some (.ref at_), some (.bl b), some (.ref nm), some (.ref st), v5, some (.ref ty), some (.int (0 + (i : Int))), v8, some (.ref cl), some (.ref fl), some (.ref tl), some (.ref kt), some (.str h1), some (.int t1), some (.ref rw_), v16, v17, v18, v19,
          none, none, none, none, none, none, none] ∧
        Sit K dr at_ H [(rw_, x4, (rl.map Flt.name).map PyData.str), (tl, x1, (tlOf R).map tlD), (fl, x3, (flOf R ++ rl).map flD), (ty, xs, tyl.map trD), (nm, ns.map V.str, ns.map PyData.str)] [(.ref kt, trD kd), (.ref cl, .tuple (cs.map .str)), (.ref st, .tuple (stl.map trD))] H' ∧
        rl.length = j ∧ rl.map Flt.name = (List.range j).map (fnm i) ∧ (∀ f ∈ rl, FltOk ns c f ∧ f.kind = kd.1) ∧ Chain kd.2.2 rl ∧ (∀ f, rl.getLast? = some f → h1 = f.fin ∧ t1 = f.arr + kd.2.2) ∧ h1 ∈ ns ∧ 0 ≤ t1 ∧ t1 ≤ 299 + 1420 * (j : Int)) ?_ ?_ ?_⟩
      · exact ⟨[], x2, [], h0, t0, _, _, _, _, _, rfl, by rw [List.append_nil]; exact Sg, rfl, rfl, by simp, Chain.nil _, fun f h => by simp at h, hh0, t00, by omega⟩
      · rintro j σ H' hj ⟨rl, x3, x4, h1, t1, w5, v16, v17, v18, v19, rfl, S, hlj, hnj, hok, hch, hla, hh1, t10, t11⟩
        refine ⟨_, rfl, nm, rfl, ⟨_, S.seqL m4⟩, fun D nD => lc_list (K := K) (a := nm) (xs := ns.map V.str) (fun k H' => Sit K dr at_ H [(D, ((ns.take k).filter fun y => y ≠ h1).map V.str, ((ns.take k).filter fun y => y ≠ h1).map PyData.str),
          (rw_, x4, (rl.map Flt.name).map PyData.str), (tl, x1, (tlOf R).map tlD), (fl, x3, (flOf R ++ rl).map flD), (ty, xs, tyl.map trD), (nm, ns.map V.str, ns.map PyData.str)] [(.ref kt, trD kd), (.ref cl, .tuple (cs.map .str)), (.ref st, .tuple (stl.map trD))] H') ?_ ?_ ?_ ?_⟩
        · exact S.push nD .nil (by simp [noLs])
        · rintro k H' _ S
          exact S.seqL (.tail _ m4)
        · rintro k y H' hy S
          rw [List.getElem?_map] at hy
          obtain ⟨x, hxi, rfl⟩ := Option.map_eq_some_iff.mp hy
          refine ⟨rfl, _, rfl, _, rfl, rfl, _, rfl, ?_⟩
          rw [takeS hxi, List.filter_append]
          by_cases e : x = h1
          · have eb : (!decide (V.str x = V.str h1)) = false := by rw [e, decide_eq_true rfl]; rfl
            have ef : ([x].filter fun y => y ≠ h1) = [] := by rw [e]; simp
            rw [eb, ef, List.append_nil]
            exact S
          · have eb : (!decide (V.str x = V.str h1)) = true := by
              rw [decide_eq_false fun z => e (V.str.inj z)]
              rfl
            have ef : ([x].filter fun y => y ≠ h1) = [x] := by simp [e]
            rw [eb, ef]
            have lk : ((ns.take k).filter fun y => y ≠ h1).length ≤ 6 := Nat.le_trans (List.length_filter_le _ _) (by rw [List.length_take]; omega)
            refine ⟨_, rfl, _, (S.li _ List.mem_cons_self).1, ?_, ?_⟩
            · rw [List.length_map]
              exact small1 (by omega)
            · rw [List.map_append, List.map_append]
              exact Sit.app (pre := []) S (.str x) rfl
        rintro H5 S5
        rw [List.length_map, List.take_of_length_le (Nat.le_refl _)] at S5
        refine ⟨.ref dr, rfl, .ref at_, rfl, S5.oneS List.mem_cons_self (other hn2 ens h1) fun th hth He Se => ?_⟩
        obtain ⟨hth1, hth2⟩ := List.mem_filter.mp hth
        have hth3 : h1 ≠ th := fun z => by simp [z] at hth2
        have Se := Se.less (List.sublist_cons_self _ _) (fun _ h => h)
        -- depart, arrive
        refine ⟨_, rfl, by show 7 ≤ sizeLine; decide, fun ra na => ⟨.ref dr, rfl, .ref at_, rfl, Se.oneI na (xs := [0, 0, 10, 35, 60, 200, 900]) (by decide) fun dz hdz Hf Sf => ⟨_, _, rfl, rfl, ?_⟩⟩⟩
        have hdz' : 0 ≤ dz ∧ dz ≤ 900 := by
          simp only [List.mem_cons, List.not_mem_nil, or_false] at hdz
          omega
        refine ⟨_, rfl, by show 5 ≤ sizeLine; decide, fun rb nb => ⟨.ref dr, rfl, .ref at_, rfl, Sf.oneI nb (xs := [30, 60, 100, 45, 400]) (by decide) fun az haz Hg Sg => ⟨_, _, rfl, rfl, ?_⟩⟩⟩
        have haz' : 30 ≤ az ∧ az ≤ 400 := by
          simp only [List.mem_cons, List.not_mem_nil, or_false] at haz
          omega
        -- name
        have hi5 : i < 5 := by omega
        have hj5 : j < 5 := by omega
        refine ⟨_, rfl, _, rfl, log1 (by omega), _, _, rfl, rfl, str1 (by decide) (by omega), _, rfl, _, rfl, log1 (by omega), _, _, rfl, rfl, str1 (fdig_len i (by omega)) (by omega), ?_⟩
        -- the flight
        refine ⟨.ref fl, rfl, .inl ⟨rfl, _, Sg.seqL m2⟩, ?_⟩
        obtain ⟨kt', ek, hkt⟩ := tr_at (Sg.da _ List.mem_cons_self).1
        cases ek
        refine ⟨_, rfl, _, rfl, _, rfl, _, rfl, _, rfl, _, rfl, kt, _, 0, _, rfl, rfl, hkt, atI_nat (j := 0) rfl, ?_⟩
        refine ⟨.ref dr, rfl, .ref at_, rfl, Sg.take (m := 900) (by decide) fun dd Hh dd0 dd1 Sh => ⟨_, _, rfl, rfl, ?_⟩⟩
        obtain ⟨kt', ek, hkt⟩ := tr_at (Sh.da _ List.mem_cons_self).1
        cases ek
        have hcl' := strs_at (Sh.da _ m1).1
        refine ⟨_, rfl, kt, _, 1, _, rfl, rfl, hkt, atI_nat (j := 1) rfl, .ref cl, rfl, .ref cl, c, rfl, .inr ⟨_, hcl', by rw [List.length_map, lcs]⟩, .ref dr, rfl, .ref at_, rfl, Sh.limits kd1.1 kd1.2.1 hc4 fun lt Hi ls hls Si => ?_⟩
        obtain ⟨nf, enf⟩ : ∃ f : Flt, f = ⟨fnm i j, h1, th, t1 + dz, t1 + dz + az, kd.1, 1 + dd, ls⟩ := ⟨_, rfl⟩
        refine ⟨by show 8 ≤ sizeLine; decide, fun ft nft => ?_⟩
        have Sj := Si.tupN (xs := [.str (fnm i j), .str h1, .str th, .int (t1 + dz), .int (t1 + dz + az), .str kd.1, .int (1 + dd), .ref lt]) (ds := [.str (fnm i j), .str h1, .str th, .int (t1 + dz), .int (t1 + dz + az), .str kd.1, .int (1 + dd), .tuple (ls.map .int)]) nft
          (.cons (.str _) (.cons (.str _) (.cons (.str _) (.cons (.int _) (.cons (.int _) (.cons (.str _) (.cons (.int _) (.cons (Si.da _ List.mem_cons_self).1 .nil)))))))) (by simp [noLs, noL, noLs_ints])
        have hfl := (Sj.li _ m2).1
        have lfl : x3.length = ((flOf R ++ rl).map flD).length := DpAll.len (Sj.li _ m2).2.1
        rw [List.length_map, List.length_append, hlj] at lfl
        have lR := flOf_len hR
        refine ⟨fl, x3, _, rfl, rfl, hfl, small1 (by omega), ?_⟩
        have Sk := Sit.app (pre := [_, _]) Sj (v := .ref ft) (d := flD nf) (by rw [enf]; exact (Sj.da _ List.mem_cons_self).1) (noL_fl _)
        -- row
        have hrw := (Sk.li _ List.mem_cons_self).1
        have lrw : x4.length = ((rl.map Flt.name).map PyData.str).length := DpAll.len (Sk.li _ List.mem_cons_self).2.1
        rw [List.length_map, List.length_map, hlj] at lrw
        refine ⟨.ref rw_, rfl, .inl ⟨rfl, _, SqL.of hrw⟩, _, rfl, rw_, _, _, rfl, rfl, hrw, small1 (by show x4.length ≤ 100000; omega), ?_⟩
        have Sl := Sit.app (pre := []) Sk (.str (fnm i j)) rfl
        have hkt' := Sl.less (qs' := [(.ref kt, trD kd), (.ref cl, .tuple (cs.map .str)), (.ref st, .tuple (stl.map trD))]) (List.Sublist.refl _) (fun q m => .tail _ (.tail _ m))
        obtain ⟨kt', ek, hkt⟩ := tr_at (hkt'.da _ List.mem_cons_self).1
        cases ek
        refine ⟨_, rfl, _, rfl, _, rfl, kt, _, 2, _, rfl, rfl, hkt, atI_nat (j := 2) rfl, _, _, rfl, rfl, ?_⟩
        have en : nf.name = fnm i j := by rw [enf]
        have ea : nf.arr = t1 + dz + az := by rw [enf]
        have ed : nf.dep = t1 + dz := by rw [enf]
        have eg : nf.start = h1 := by rw [enf]
        have eh : nf.fin = th := by rw [enf]
        refine ⟨rl ++ [nf], x3 ++ [.ref ft], x4 ++ [.str (fnm i j)], th, t1 + dz + az + kd.2.2, _, _, _, _, _, rfl, ?_, by rw [List.length_append, hlj]; rfl, ?_, ?_, ?_, ?_, hth1, by omega, by omega⟩
        · have e1 : ((rl ++ [nf]).map Flt.name).map PyData.str = (rl.map Flt.name).map PyData.str ++ [.str (fnm i j)] := by
            rw [List.map_append, List.map_append, List.map_singleton, List.map_singleton, en]
          have e2 : (flOf R ++ (rl ++ [nf])).map flD = (flOf R ++ rl).map flD ++ [flD nf] := by
            rw [← List.append_assoc, List.map_append, List.map_singleton]
          rw [e1, e2]
          exact hkt'
        · rw [List.map_append, hnj, List.range_succ, List.map_append, List.map_singleton, List.map_singleton, en]
        · intro f hf
          rcases List.mem_append.mp hf with hf | hf
          · exact hok f hf
          · have e : f = nf := by simpa using hf
            rw [e, enf]
            exact ⟨⟨hh1, hth1, hth3, by show 0 ≤ t1 + dz; omega, by show t1 + dz < t1 + dz + az; omega, by show t1 + dz + az ≤ 8000; omega, by show 1 ≤ 1 + dd; omega, by show 1 + dd ≤ 900; omega, hls⟩, rfl⟩
        · refine hch.app fun f hf => ?_
          obtain ⟨p1, p2⟩ := hla f hf
          rw [eg, ed]
          exact ⟨p1, by omega⟩
        · intro f hf
          have e : f = nf := by simpa using hf.symm
          rw [e, eh, ea]
          exact ⟨rfl, rfl⟩
      · -- the tail
        rintro σ H9 ⟨rl, x3, x4, h1, t1, w5, v16, v17, v18, v19, rfl, S, hlj, hnj, hok, hch, hla, hh1, t10, t11⟩
        refine ⟨.ref tl, rfl, .inl ⟨rfl, _, S.seqL m1⟩, _, rfl, _, rfl, log1 (by omega), _, _, rfl, rfl, str1 (by decide) (by omega), ?_⟩
        obtain ⟨kt', ek, hkt⟩ := tr_at (S.da _ List.mem_cons_self).1
        cases ek
        refine ⟨_, rfl, kt, _, 0, _, rfl, rfl, hkt, atI_nat (j := 0) rfl, .ref rw_, rfl, rw_, _, rfl, .inl ⟨S.seqL List.mem_cons_self, fun rt nrt => ?_⟩⟩
        have Sa := (S.tupN nrt (S.li _ List.mem_cons_self).2.1 (S.li _ List.mem_cons_self).2.2.1).less (ps' := [(tl, x1, (tlOf R).map tlD), (fl, x3, (flOf R ++ rl).map flD), (ty, xs, tyl.map trD), (nm, ns.map V.str, ns.map PyData.str)]) (List.sublist_cons_self _ _) (fun _ h => h)
        refine ⟨by show 3 ≤ sizeLine; decide, fun tt ntt => ?_⟩
        have Sb := Sa.tupN (xs := [.str (nnm i), .str kd.1, .ref rt]) (ds := [.str (nnm i), .str kd.1, .tuple ((rl.map Flt.name).map PyData.str)]) ntt (.cons (.str _) (.cons (.str _) (.cons (Sa.da _ List.mem_cons_self).1 .nil))) (by simp only [noLs, noL, noLs_strs, Bool.and_self])
        have htl := (Sb.li _ List.mem_cons_self).1
        have ltl : x1.length = ((tlOf R).map tlD).length := DpAll.len (Sb.li _ List.mem_cons_self).2.1
        have ltl2 : (tlOf R).length = R.length := by unfold tlOf; rw [List.length_mapIdx]
        rw [List.length_map, ltl2] at ltl
        refine ⟨tl, _, _, rfl, rfl, htl, small1 (by show x1.length ≤ 100000; omega), ?_⟩
        have Sc := Sit.app (pre := []) Sb (v := .ref tt) (d := tlD (nnm i, kd.1, rl.map Flt.name)) (Sb.da _ List.mem_cons_self).1 (noL_tl _)
        have Sd := Sc.less (qs' := [(.ref cl, .tuple (cs.map .str)), (.ref st, .tuple (stl.map trD))]) (List.Sublist.refl _) (fun q m => .tail _ (.tail _ (.tail _ m)))
        refine ⟨R ++ [(kd, rl)], x1 ++ [.ref tt], x3, _, _, _, _, _, _, _, _, _, _, _, rfl, ?_, by rw [List.length_append, hRl]; rfl, ?_⟩
        · rw [tlOf_app, flOf_app, List.map_append, List.map_singleton, hRl]
          exact Sd
        · intro k r hk
          by_cases hkl : k < R.length
          · rw [List.getElem?_append_left hkl] at hk
            exact hR k r hk
          · rw [List.getElem?_append_right (by omega)] at hk
            have hk0 : k - R.length = 0 := by
              have := (List.getElem?_eq_some_iff.mp hk).1
              simp at this
              omega
            rw [hk0] at hk
            have e : r = (kd, rl) := (Option.some.inj hk).symm
            have ek : k = i := by omega
            rw [e, ek]
            exact ⟨hkd, by show rl.length ≤ 5; omega, by show rl.map Flt.name = (List.range rl.length).map (fnm i); rw [hnj, hlj], hok, hch⟩
    rintro σ H9 ⟨R, x1, x2, w5, v7, v8, v12, v13, v14, v15, v16, v17, v18, v19, rfl, S, hRl, hR⟩
    -- the order
    refine ⟨.ref dr, rfl, .ref at_, rfl, S.take (m := 7) (by decide) fun u Ha u0 u1 Sa => ?_⟩
    obtain ⟨m, hm⟩ : ∃ m, m = (flOf R).length := ⟨_, rfl⟩
    have hmR := flOf_len hR
    have lx2 : x2.length = ((flOf R).map flD).length := DpAll.len (Sa.li _ m1).2.1
    rw [List.length_map, ← hm] at lx2
    have hm25 : m ≤ 25 := by omega
    obtain ⟨pk, epk⟩ : ∃ pk : Nat → Int × Int, pk = fun k : Nat => (((0 + (k : Int)) * (u + 3) + u) % 31, 0 + (k : Int)) := ⟨_, rfl⟩
    refine ⟨.ref fl, rfl, .ref fl, m, rfl, .inl ⟨_, Sa.seqL m1, lx2.symm⟩, _, rfl, by omega, by omega, fun D nD => ?_⟩
    refine lc_range (lo := 0) (n := m) (fun k H' => ∃ zs, Sit K dr at_ H [(D, zs, ((List.range k).map pk).map prD), (tl, x1, (tlOf R).map tlD), (fl, x2, (flOf R).map flD), (ty, xs, tyl.map trD), (nm, ns.map V.str, ns.map PyData.str)]
      [(.ref cl, .tuple (cs.map .str)), (.ref st, .tuple (stl.map trD))] H' ∧ PairL H' zs ((List.range k).map pk)) ?_ ?_ ?_
    · exact ⟨[], Sa.push nD .nil (by simp [noLs]), .nil⟩
    · rintro k H' hk ⟨zs, S, hZ⟩
      refine ⟨rfl, ?_⟩
      refine ⟨_, rfl, _, rfl, _, _, rfl, rfl, _, _, rfl, rfl, .inl ⟨by omega, by omega⟩, _, rfl, _, _, rfl, rfl, .inl ⟨_, rfl, _, _, rfl, rfl, by show (0 : Int) < 31; decide, ?_⟩⟩
      refine ⟨_, rfl, by show 2 ≤ sizeLine; decide, fun tp ntp => ?_⟩
      have Sb := S.tupN (xs := [.int (pk k).1, .int (pk k).2]) (ds := [.int (pk k).1, .int (pk k).2]) ntp (.cons (.int _) (.cons (.int _) .nil)) (by simp [noLs, noL])
      have hDl := (Sb.li _ List.mem_cons_self).1
      have lz := hZ.len
      rw [List.length_map, List.length_range] at lz
      have ev : [V.int (pk k).1, V.int (pk k).2] = [V.int (((0 + (k : Int)) * (u + 3) + u) % 31), V.int (0 + (k : Int))] := by rw [epk]
      rw [ev] at hDl Sb
      refine ⟨zs, hDl, small1 (by omega), zs ++ [.ref tp], ?_, ?_⟩
      · have Sc := (Sit.app (pre := []) Sb (v := .ref tp) (d := prD (pk k)) (Sb.da _ List.mem_cons_self).1 (noL_pr _)).less (qs' := [(.ref cl, .tuple (cs.map .str)), (.ref st, .tuple (stl.map trD))]) (List.Sublist.refl _) (fun q m => .tail _ m)
        rw [List.range_succ, List.map_append, List.map_append]
        exact Sc
      · rw [List.range_succ, List.map_append]
        refine Paired.snoc (PairL.mono hZ ((Tp.new ntp).trans (Tp.lst hDl))) ⟨tp, rfl, ?_⟩
        rw [upd_ne (fun z => by rw [z] at ntp; rw [(S.li _ List.mem_cons_self).1] at ntp; cases ntp), upd_same, epk]
    rintro H10 ⟨zs, S, hZ⟩
    refine ⟨D, zs, keyOf H10, rfl, S.seqL List.mem_cons_self, hZ.keys.2, fun ys o s1 s2 no => ?_⟩
    have hperm : ys.Perm zs := s2.perm
    have hkz := hZ.keys
    have hky : ∀ y ∈ ys, ∃ t, y = V.ref t ∧ H10 t = some (.tup [.int (keyOf H10 y).1, .int (keyOf H10 y).2]) := fun y hy => hkz.2 y (hperm.mem_iff.mp hy)
    have Sb := (S.less (List.sublist_cons_self _ _) (fun _ h => h)).push (xs := ys) (ds := ys.map fun y => prD (keyOf H10 y)) no
      (dp_map _ ys fun y hy => by
        obtain ⟨t, e, ht⟩ := hky y hy
        rw [e] at ht ⊢
        exact .tup (SqT.of ht) (.cons (.int _) (.cons (.int _) .nil))) (noLs_map (fun y => noL_pr _) ys)
    -- the places
    obtain ⟨ix, eix⟩ : ∃ ix : List Nat, ix = ys.map fun y => (keyOf H10 y).2.toNat := ⟨_, rfl⟩
    have pix : ix.Perm (List.range m) := by
      rw [eix]
      refine (hperm.map _).trans (List.Perm.of_eq ?_)
      have e : zs.map (fun y => (keyOf H10 y).2.toNat) = (zs.map (keyOf H10)).map fun p => p.2.toNat := by rw [List.map_map]; rfl
      rw [e, hkz.1, List.map_map, epk]
      apply List.ext_getElem?
      intro i
      rw [List.getElem?_map]
      cases h : (List.range m)[i]? with
      | none => rfl
      | some z => simp
    have pfl : (pickF (flOf R) ix).Perm (flOf R) := by
      have e := pick_range (flOf R)
      rw [← hm] at e
      have z : (pickF (flOf R) ix).Perm (pickF (flOf R) (List.range m)) := pix.filterMap _
      rwa [e] at z
    -- fares
    refine ⟨by show 0 ≤ sizeLine; decide, fun fa nfa => ?_⟩
    have Sc := Sb.push (xs := []) (ds := []) nfa .nil (by simp [noLs])
    refine ⟨.ref dr, rfl, .ref at_, rfl, Sc.take (m := 9) (by decide) fun v Hb v0 v1 Sd => ?_⟩
    refine ⟨_, rfl, by omega, by omega, for_range (lo := 0) (n := v.toNat) (fun i σ H' => ∃ (fr : List Far) (x5 : List V) (w5 v7 v23 v24 v25 : Option V),
      σ = [some (.ref dr), some (.ref at_), some (.bl b), some (.ref nm), some (.ref st), w5, some (.ref ty), v7, v8, some (.ref cl), some (.ref fl), some (.ref tl), v12, v13, v14, v15, v16, v17, v18, v19, some (.int u), some (.ref o), some (.ref fa), v23, v24, v25, none] ∧
      Sit K dr at_ H [(fa, x5, fr.map faD), (o, ys, ys.map fun y => prD (keyOf H10 y)), (tl, x1, (tlOf R).map tlD), (fl, x2, (flOf R).map flD), (ty, xs, tyl.map trD), (nm, ns.map V.str, ns.map PyData.str)]
        [(.ref cl, .tuple (cs.map .str)), (.ref st, .tuple (stl.map trD))] H' ∧ fr.length = i ∧ fr.map Far.name = (List.range i).map rnm ∧ ∀ f ∈ fr, FarOk ns cs f) ?_ ?_ ?_⟩
    · exact ⟨[], [], _, _, _, _, _, rfl, Sd, rfl, rfl, by simp⟩
    · rintro i σ H' hi ⟨fr, x5, w5, v7, v23, v24, v25, rfl, S, hlf, hnf, hof⟩
      refine ⟨.ref nm, rfl, .ref dr, rfl, .ref at_, rfl, S.oneS (.tail _ m4) (by omega) fun h1 hh1 Ha Sa => ?_⟩
      refine ⟨_, rfl, nm, rfl, ⟨_, Sa.seqL (.tail _ m4)⟩, fun D2 nD2 => lc_list (K := K) (a := nm) (xs := ns.map V.str) (fun k H' => Sit K dr at_ H [(D2, ((ns.take k).filter fun y => y ≠ h1).map V.str, ((ns.take k).filter fun y => y ≠ h1).map PyData.str),
          (fa, x5, fr.map faD), (o, ys, ys.map fun y => prD (keyOf H10 y)), (tl, x1, (tlOf R).map tlD), (fl, x2, (flOf R).map flD), (ty, xs, tyl.map trD), (nm, ns.map V.str, ns.map PyData.str)] [(.ref cl, .tuple (cs.map .str)), (.ref st, .tuple (stl.map trD))] H') ?_ ?_ ?_ ?_⟩
      · exact Sa.push nD2 .nil (by simp [noLs])
      · rintro k H' _ S
        exact S.seqL (.tail _ (.tail _ m4))
      · rintro k y H' hy S
        rw [List.getElem?_map] at hy
        obtain ⟨x, hxi, rfl⟩ := Option.map_eq_some_iff.mp hy
        refine ⟨rfl, _, rfl, _, rfl, rfl, _, rfl, ?_⟩
        rw [takeS hxi, List.filter_append]
        by_cases e : x = h1
        · have eb : (!decide (V.str x = V.str h1)) = false := by rw [e, decide_eq_true rfl]; rfl
          have ef : ([x].filter fun y => y ≠ h1) = [] := by rw [e]; simp
          rw [eb, ef, List.append_nil]
          exact S
        · have eb : (!decide (V.str x = V.str h1)) = true := by
            rw [decide_eq_false fun z => e (V.str.inj z)]
            rfl
          have ef : ([x].filter fun y => y ≠ h1) = [x] := by simp [e]
          rw [eb, ef]
          have lk : ((ns.take k).filter fun y => y ≠ h1).length ≤ 6 := Nat.le_trans (List.length_filter_le _ _) (by rw [List.length_take]; omega)
          refine ⟨_, rfl, _, (S.li _ List.mem_cons_self).1, ?_, ?_⟩
          · rw [List.length_map]
            exact small1 (by omega)
          · rw [List.map_append, List.map_append]
            exact Sit.app (pre := []) S (.str x) rfl
      rintro H5 S5
      rw [List.length_map, List.take_of_length_le (Nat.le_refl _)] at S5
      refine ⟨.ref dr, rfl, .ref at_, rfl, S5.oneS List.mem_cons_self (other hn2 ens h1) fun th hth He Se => ?_⟩
      obtain ⟨hth1, hth2⟩ := List.mem_filter.mp hth
      have hth3 : h1 ≠ th := fun z => by simp [z] at hth2
      have Se := Se.less (List.sublist_cons_self _ _) (fun _ h => h)
      refine ⟨by show 6 ≤ sizeLine; decide, fun ra na => ⟨.ref dr, rfl, .ref at_, rfl, Se.oneI na (xs := [0, 99, 100, 1000, 12345, 1000000]) (by decide) fun pz hpz Hf Sf => ?_⟩⟩
      have hpz' : 0 ≤ pz ∧ pz ≤ 1000000 := by
        simp only [List.mem_cons, List.not_mem_nil, or_false] at hpz
        omega
      -- the fare
      refine ⟨.ref fa, rfl, .inl ⟨rfl, _, Sf.seqL List.mem_cons_self⟩, _, rfl, _, rfl, log1 (by omega), _, _, rfl, rfl, str1 (by decide) (by omega), _, rfl, _, rfl, ?_⟩
      -- the class
      refine ⟨.ref cl, rfl, .ref dr, rfl, .ref at_, rfl, Sf.oneT List.mem_cons_self (by rw [List.length_map, lcs]; omega) fun x d Hg hd hx _ Sg => ?_⟩
      obtain ⟨cb, hcb, rfl⟩ := List.mem_map.mp hd
      cases hx
      refine ⟨_, rfl, .ref dr, rfl, .ref at_, rfl, Sg.take (m := 4) (by decide) fun sz Hh s0 s1 Sh => ⟨.ref dr, rfl, .ref at_, rfl, Sh.take (m := 200) (by decide) fun fz Hi f0 f1 Si => ?_⟩⟩
      refine ⟨by show 4 ≤ sizeLine; decide, fun rb nb => ⟨.ref dr, rfl, .ref at_, rfl, Si.oneI nb (xs := [0, 50, 100, 33]) (by decide) fun bz hbz Hj Sj => ?_⟩⟩
      have hbz' : 0 ≤ bz ∧ bz ≤ 100 := by
        simp only [List.mem_cons, List.not_mem_nil, or_false] at hbz
        omega
      refine ⟨by show 8 ≤ sizeLine; decide, fun ft nft => ?_⟩
      have Sk := Sj.tupN (xs := [.str (rnm i), .str h1, .str th, .str cb, .int pz, .int sz, .int fz, .int bz]) (ds := [.str (rnm i), .str h1, .str th, .str cb, .int pz, .int sz, .int fz, .int bz]) nft
        (.cons (.str _) (.cons (.str _) (.cons (.str _) (.cons (.str _) (.cons (.int _) (.cons (.int _) (.cons (.int _) (.cons (.int _) .nil)))))))) (by simp [noLs, noL])
      have hfa := (Sk.li _ List.mem_cons_self).1
      have lfa : x5.length = (fr.map faD).length := DpAll.len (Sk.li _ List.mem_cons_self).2.1
      rw [List.length_map, hlf] at lfa
      refine ⟨fa, x5, _, rfl, rfl, hfa, small1 (by omega), ?_⟩
      have Sl := (Sit.app (pre := []) Sk (v := .ref ft) (d := faD ⟨rnm i, h1, th, cb, pz, sz, fz, bz⟩) (Sk.da _ List.mem_cons_self).1 (noL_fa _)).less (qs' := [(.ref cl, .tuple (cs.map .str)), (.ref st, .tuple (stl.map trD))]) (List.Sublist.refl _) (fun q m => .tail _ m)
      refine ⟨fr ++ [⟨rnm i, h1, th, cb, pz, sz, fz, bz⟩], x5 ++ [.ref ft], _, _, _, _, _, rfl, by rw [List.map_append, List.map_singleton]; exact Sl, by rw [List.length_append, hlf]; rfl, ?_, ?_⟩
      · rw [List.map_append, hnf, List.range_succ, List.map_append]
        rfl
      · intro f hf
        rcases List.mem_append.mp hf with hf | hf
        · exact hof f hf
        · have e : f = ⟨rnm i, h1, th, cb, pz, sz, fz, bz⟩ := by simpa using hf
          rw [e]
          exact ⟨hh1, hth1, hth3, hcb, hpz'.1, hpz'.2, s0, by show sz ≤ 3; omega, f0, by show fz ≤ 199; omega, hbz'.1, hbz'.2⟩
    rintro σ H11 ⟨fr, x5, w5, w7, v23, v24, v25, rfl, S, hlf, hnf, hof⟩
    -- the end
    refine ⟨_, rfl, .ref ty, rfl, ty, _, rfl, .inl ⟨S.seqL m4, fun t1 nt1 => ?_⟩⟩
    have Sb := S.tupN nt1 (S.li _ m4).2.1 (S.li _ m4).2.2.1
    have hkz2 : ∀ y ∈ ys, (keyOf H10 y).2 = ((keyOf H10 y).2.toNat : Int) := by
      intro y hy
      have hm1 : keyOf H10 y ∈ zs.map (keyOf H10) := List.mem_map_of_mem (hperm.mem_iff.mp hy)
      rw [hkz.1, epk] at hm1
      obtain ⟨k, _, e⟩ := List.mem_map.mp hm1
      rw [← e]
      show 0 + (k : Int) = ((0 + (k : Int)).toNat : Int)
      omega
    refine ⟨_, rfl, _, rfl, o, rfl, ⟨_, Sb.seqL m1⟩, fun D3 nD3 => lc_list (K := K) (a := o) (xs := ys) (fun k H' => ∃ es, Sit K dr at_ H [(D3, es, (pickF (flOf R) (ix.take k)).map flD), (fa, x5, fr.map faD), (o, ys, ys.map fun y => prD (keyOf H10 y)), (tl, x1, (tlOf R).map tlD), (fl, x2, (flOf R).map flD), (ty, xs, tyl.map trD), (nm, ns.map V.str, ns.map PyData.str)]
      [(.ref t1, .tuple (tyl.map trD)), (.ref cl, .tuple (cs.map .str)), (.ref st, .tuple (stl.map trD))] H' ∧ es.length = k) ?_ ?_ ?_ ?_⟩
    · exact ⟨[], Sb.push nD3 .nil (by simp [noLs, pickF]), rfl⟩
    · rintro k H' _ ⟨es, S, _⟩
      exact S.seqL m2
    · rintro k y H' hy ⟨es, S, hes⟩
      obtain ⟨t, rfl, ht⟩ := pr_at ((dp_at_map (S.li _ m2).2.1 hy))
      have hyy := List.mem_of_getElem? hy
      have hz : ix[k]? = some (keyOf H10 (.ref t)).2.toNat := by rw [eix, List.getElem?_map, hy]; rfl
      have hzm : (keyOf H10 (.ref t)).2.toNat < m := List.mem_range.mp (pix.mem_iff.mp (List.mem_of_getElem? hz))
      have e2 := hkz2 _ hyy
      obtain ⟨z, ez⟩ : ∃ z, z = (keyOf H10 (.ref t)).2.toNat := ⟨_, rfl⟩
      rw [← ez] at hz hzm e2
      rw [e2] at ht
      have hF : (flOf R)[z]? = some ((flOf R)[z]'(by omega)) := List.getElem?_eq_getElem _
      obtain ⟨f, ef⟩ : ∃ f, f = (flOf R)[z]'(by omega) := ⟨_, rfl⟩
      rw [← ef] at hF
      have hx2 : x2[z]? = some (x2[z]'(by omega)) := List.getElem?_eq_getElem _
      obtain ⟨fv, efv⟩ : ∃ fv, fv = x2[z]'(by omega) := ⟨_, rfl⟩
      rw [← efv] at hx2
      obtain ⟨d, hd, hdv⟩ := DpAll.get (S.li _ m4).2.1 hx2
      have ed : d = flD f := by
        rw [List.getElem?_map, hF] at hd
        exact (Option.some.inj hd).symm
      rw [ed] at hdv
      refine ⟨t, _, rfl, ht, rfl, _, _, rfl, _, _, rfl, rfl, rfl, ?_⟩
      refine ⟨_, rfl, _, rfl, fl, _, _, fv, rfl, rfl, S.seqL m4, atI_nat hx2, es, (S.li _ List.mem_cons_self).1, small1 ?_, es ++ [fv], ?_, by rw [List.length_append, hes]; rfl⟩
      · have := (List.getElem?_eq_some_iff.mp hz).1
        rw [pix.length_eq, List.length_range] at this
        omega
      · rw [takeS hz, pick_app _ _ hF, List.map_append, List.map_singleton]
        exact Sit.app (pre := []) S hdv (noL_fl f)
    rintro H12 ⟨es, S, hes⟩
    have elen : ys.length = ix.length := by rw [eix, List.length_map]
    rw [elen, List.take_of_length_le (Nat.le_refl _)] at S
    refine ⟨D3, es, rfl, .inl ⟨S.seqL List.mem_cons_self, fun t2 nt2 => ?_⟩⟩
    have Sc := S.tupN nt2 (S.li _ List.mem_cons_self).2.1 (S.li _ List.mem_cons_self).2.2.1
    refine ⟨.ref tl, rfl, tl, _, rfl, .inl ⟨Sc.seqL m3, fun t3 nt3 => ?_⟩⟩
    have Sd := Sc.tupN nt3 (Sc.li _ m3).2.1 (Sc.li _ m3).2.2.1
    refine ⟨.ref fa, rfl, fa, _, rfl, .inl ⟨Sd.seqL m1, fun t4 nt4 => ?_⟩⟩
    have Se := Sd.tupN nt4 (Sd.li _ m1).2.1 (Sd.li _ m1).2.2.1
    refine ⟨by show 6 ≤ sizeLine; decide, fun r nr => ?_⟩
    have hd0 := (Se.da _ List.mem_cons_self).1
    have hd1 := (Se.da _ m1).1
    have hd2 := (Se.da _ m2).1
    have hd3 := (Se.da _ m3).1
    have hd4 := (Se.da _ m4).1
    have hd5 := (Se.da _ (.tail _ m4)).1
    have Sf := Se.tupN (xs := [.ref st, .ref t1, .ref cl, .ref t2, .ref t3, .ref t4]) (ds := [.tuple (stl.map trD), .tuple (tyl.map trD), .tuple (cs.map .str), .tuple ((pickF (flOf R) ix).map flD), .tuple ((tlOf R).map tlD), .tuple (fr.map faD)]) nr
      (.cons hd5 (.cons hd3 (.cons hd4 (.cons hd2 (.cons hd1 (.cons hd0 .nil)))))) (by
        simp only [noLs, noL, noLs_map noL_tr, noLs_map noL_fl, noLs_map noL_tl, noLs_map noL_fa, noLs_strs, Bool.and_self])
    have lst : stl.length = n := by
      have := congrArg List.length hl
      rw [List.length_map, lns] at this
      exact this
    refine q r _ ⟨stl, tyl, cs, pickF (flOf R) ix, tlOf R, fr⟩ Sf.bt Sf.dw (Sf.da _ List.mem_cons_self).1 ?_ hr2
    refine ⟨⟨by show 2 ≤ stl.length; omega, by show stl.length ≤ 6; omega, by show stl.map (·.1) = six.take stl.length; rw [hl, ens, lst], hx⟩, ⟨by show 1 ≤ tyl.length; omega, by show tyl.length ≤ 3; omega, by show tyl.map (·.1) = (List.range tyl.length).map tnm; rw [htn, hli], hr1⟩,
      ⟨c, hc1, hc4, ecs⟩, ⟨R, by omega, by omega, ?_, rfl, pfl⟩, by show fr.length ≤ 8; omega, by show fr.map Far.name = (List.range fr.length).map rnm; rw [hnf, hlf], ?_⟩
    · intro k r h
      show RowOk (stl.map (·.1)) cs.length tyl k r
      rw [hl, lcs]
      exact hR k r h
    · intro f hf
      show FarOk (stl.map (·.1)) cs f
      rw [hl]
      exact hof f hf
end
end Mine
set_option Elab.async false
set_option linter.all false
set_option maxRecDepth 100000
set_option maxHeartbeats 8000000
namespace Mine
open PySem PySem.Spec PyProof.Rows L2 Ln
abbrev s_is_integer : Stmt := topS 6
abbrev N_is_integer : List Str := ["value"]
theorem sc_is_integer : FnScope N_is_integer ["value"] (defScope s_is_integer) := ⟨rfl, rfl, rfl, by decide +kernel, rfl, by decide +kernel, by decide +kernel⟩
-- slots: 0 value
abbrev s_is_row : Stmt := topS 8
abbrev N_is_row : List Str := ["value", "size"]
theorem sc_is_row : FnScope N_is_row ["value", "size"] (defScope s_is_row) := ⟨rfl, rfl, rfl, by decide +kernel, rfl, by decide +kernel, by decide +kernel⟩
-- slots: 0 value, 1 size
abbrev s_are_strings : Stmt := topS 11
abbrev N_are_strings : List Str := ["value", "part"]
theorem sc_are_strings : FnScope N_are_strings ["value"] (defScope s_are_strings) := ⟨rfl, rfl, rfl, by decide +kernel, rfl, by decide +kernel, by decide +kernel⟩
-- slots: 0 value, 1 part
abbrev s_are_integers : Stmt := topS 12
abbrev N_are_integers : List Str := ["value", "part"]
theorem sc_are_integers : FnScope N_are_integers ["value"] (defScope s_are_integers) := ⟨rfl, rfl, rfl, by decide +kernel, rfl, by decide +kernel, by decide +kernel⟩
-- slots: 0 value, 1 part
abbrev s_in_name : Stmt := topS 37
abbrev N_in_name : List Str := ["sign"]
theorem sc_in_name : FnScope N_in_name ["sign"] (defScope s_in_name) := ⟨rfl, rfl, rfl, by decide +kernel, rfl, by decide +kernel, by decide +kernel⟩
-- slots: 0 sign
abbrev s_is_name : Stmt := topS 38
abbrev N_is_name : List Str := ["word", "sign"]
theorem sc_is_name : FnScope N_is_name ["word"] (defScope s_is_name) := ⟨rfl, rfl, rfl, by decide +kernel, rfl, by decide +kernel, by decide +kernel⟩
-- slots: 0 word, 1 sign
abbrev s_check : Stmt := topS 40
abbrev N_check : List Str := ["net", "part", "rows", "place", "reason", "flown", "flight"]
theorem sc_check : FnScope N_check ["net"] (defScope s_check) := ⟨rfl, rfl, rfl, by decide +kernel, rfl, by decide +kernel, by decide +kernel⟩
-- slots: 0 net, 1 part, 2 rows, 3 place, 4 reason, 5 flown, 6 flight
abbrev s_check_numbers : Stmt := topS 41
abbrev N_check_numbers : List Str := ["net", "most", "part", "rows"]
theorem sc_check_numbers : FnScope N_check_numbers ["net"] (defScope s_check_numbers) := ⟨rfl, rfl, rfl, by decide +kernel, rfl, by decide +kernel, by decide +kernel⟩
-- slots: 0 net, 1 most, 2 part, 3 rows
abbrev s_has_shape : Stmt := topS 42
abbrev N_has_shape : List Str := ["net", "part", "rows"]
theorem sc_has_shape : FnScope N_has_shape ["net"] (defScope s_has_shape) := ⟨rfl, rfl, rfl, by decide +kernel, rfl, by decide +kernel, by decide +kernel⟩
-- slots: 0 net, 1 part, 2 rows
abbrev s_part_has_shape : Stmt := topS 43
abbrev N_part_has_shape : List Str := ["part", "rows", "row"]
theorem sc_part_has_shape : FnScope N_part_has_shape ["part", "rows"] (defScope s_part_has_shape) := ⟨rfl, rfl, rfl, by decide +kernel, rfl, by decide +kernel, by decide +kernel⟩
-- slots: 0 part*, 1 rows, 2 row
abbrev s_row_has_shape : Stmt := topS 44
abbrev N_row_has_shape : List Str := ["fields", "row", "field", "value"]
theorem sc_row_has_shape : FnScope N_row_has_shape ["fields", "row"] (defScope s_row_has_shape) := ⟨rfl, rfl, rfl, by decide +kernel, rfl, by decide +kernel, by decide +kernel⟩
-- slots: 0 fields, 1 row, 2 field, 3 value
abbrev s_fits_field : Stmt := topS 45
abbrev N_fits_field : List Str := ["field", "value"]
theorem sc_fits_field : FnScope N_fits_field ["field", "value"] (defScope s_fits_field) := ⟨rfl, rfl, rfl, by decide +kernel, rfl, by decide +kernel, by decide +kernel⟩
-- slots: 0 field, 1 value
abbrev s_row_names : Stmt := topS 46
abbrev N_row_names : List Str := ["net", "part", "row"]
theorem sc_row_names : FnScope N_row_names ["net", "part"] (defScope s_row_names) := ⟨rfl, rfl, rfl, by decide +kernel, rfl, by decide +kernel, by decide +kernel⟩
-- slots: 0 net, 1 part, 2 row
abbrev s_row_fault : Stmt := topS 47
abbrev N_row_fault : List Str := ["net", "part", "place", "names", "name", "fault"]
theorem sc_row_fault : FnScope N_row_fault ["net", "part", "place"] (defScope s_row_fault) := ⟨rfl, rfl, rfl, by decide +kernel, rfl, by decide +kernel, by decide +kernel⟩
-- slots: 0 net, 1 part, 2 place, 3 names, 4 name, 5 fault
abbrev s_station_fault : Stmt := topS 48
abbrev N_station_fault : List Str := ["net", "place", "_", "zone", "least"]
theorem sc_station_fault : FnScope N_station_fault ["net", "place"] (defScope s_station_fault) := ⟨rfl, rfl, rfl, by decide +kernel, rfl, by decide +kernel, by decide +kernel⟩
-- slots: 0 net, 1 place, 2 _, 3 zone, 4 least
abbrev s_type_fault : Stmt := topS 49
abbrev N_type_fault : List Str := ["net", "place", "_", "seats", "turn"]
theorem sc_type_fault : FnScope N_type_fault ["net", "place"] (defScope s_type_fault) := ⟨rfl, rfl, rfl, by decide +kernel, rfl, by decide +kernel, by decide +kernel⟩
-- slots: 0 net, 1 place, 2 _, 3 seats, 4 turn
abbrev s_class_fault : Stmt := topS 50
abbrev N_class_fault : List Str := ["net", "place"]
theorem sc_class_fault : FnScope N_class_fault ["net", "place"] (defScope s_class_fault) := ⟨rfl, rfl, rfl, by decide +kernel, rfl, by decide +kernel, by decide +kernel⟩
-- slots: 0 net, 1 place
abbrev s_ends_fault : Stmt := topS 51
abbrev N_ends_fault : List Str := ["net", "start", "end", "stations"]
theorem sc_ends_fault : FnScope N_ends_fault ["net", "start", "end"] (defScope s_ends_fault) := ⟨rfl, rfl, rfl, by decide +kernel, rfl, by decide +kernel, by decide +kernel⟩
-- slots: 0 net, 1 start, 2 end, 3 stations
abbrev s_flight_fault : Stmt := topS 52
abbrev N_flight_fault : List Str := ["net", "place", "_", "start", "end", "depart", "arrive", "kind", "distance", "limits", "reason"]
theorem sc_flight_fault : FnScope N_flight_fault ["net", "place"] (defScope s_flight_fault) := ⟨rfl, rfl, rfl, by decide +kernel, rfl, by decide +kernel, by decide +kernel⟩
-- slots: 0 net, 1 place, 2 _, 3 start, 4 end, 5 depart, 6 arrive, 7 kind, 8 distance, 9 limits, 10 reason
abbrev s_are_limits : Stmt := topS 53
abbrev N_are_limits : List Str := ["limits", "many", "limit", "lower"]
theorem sc_are_limits : FnScope N_are_limits ["limits", "many"] (defScope s_are_limits) := ⟨rfl, rfl, rfl, by decide +kernel, rfl, by decide +kernel, by decide +kernel⟩
-- slots: 0 limits, 1 many, 2 limit, 3 lower
abbrev s_tail_fault : Stmt := topS 54
abbrev N_tail_fault : List Str := ["net", "place", "_", "kind", "names", "turns", "word", "turn", "flights", "flight", "flown", "before", "reason"]
theorem sc_tail_fault : FnScope N_tail_fault ["net", "place"] (defScope s_tail_fault) := ⟨rfl, rfl, rfl, by decide +kernel, rfl, by decide +kernel, by decide +kernel⟩
-- slots: 0 net, 1 place, 2 _, 3 kind, 4 names, 5 turns, 6 word, 7 turn, 8 flights, 9 flight, 10 flown, 11 before, 12 reason
abbrev s_flown_before : Stmt := topS 55
abbrev N_flown_before : List Str := ["net", "place", "tail", "flight"]
theorem sc_flown_before : FnScope N_flown_before ["net", "place"] (defScope s_flown_before) := ⟨rfl, rfl, rfl, by decide +kernel, rfl, by decide +kernel, by decide +kernel⟩
-- slots: 0 net, 1 place, 2 tail, 3 flight
abbrev s_leg_fault : Stmt := topS 56
abbrev N_leg_fault : List Str := ["flight", "before", "kind", "turn", "_", "start", "depart", "needed"]
theorem sc_leg_fault : FnScope N_leg_fault ["flight", "before", "kind", "turn"] (defScope s_leg_fault) := ⟨rfl, rfl, rfl, by decide +kernel, rfl, by decide +kernel, by decide +kernel⟩
-- slots: 0 flight, 1 before, 2 kind, 3 turn, 4 _, 5 start, 6 depart, 7 needed
abbrev s_fare_fault : Stmt := topS 57
abbrev N_fare_fault : List Str := ["net", "place", "_", "start", "end", "cabin", "price", "stops", "fee", "back", "reason"]
theorem sc_fare_fault : FnScope N_fare_fault ["net", "place"] (defScope s_fare_fault) := ⟨rfl, rfl, rfl, by decide +kernel, rfl, by decide +kernel, by decide +kernel⟩
-- slots: 0 net, 1 place, 2 _, 3 start, 4 end, 5 cabin, 6 price, 7 stops, 8 fee, 9 back, 10 reason
/-- what the checks take from the module -/
structure ChkTxt (mg : Str → Option Value) : Prop where
  z_len : mg "len" = none
  z_int : mg "int" = none
  z_bool : mg "bool" = none
  z_str : mg "str" = none
  z_tuple : mg "tuple" = none
  z_list : mg "list" = none
  z_range : mg "range" = none
  z_all : mg "all" = none
  z_zip : mg "zip" = none
  z_isinstance : mg "isinstance" = none
  z_enumerate : mg "enumerate" = none
  g_STATIONS : ∃ u, mg "STATIONS" = some u ∧ RelV (.int 0) u
  g_TYPES : ∃ u, mg "TYPES" = some u ∧ RelV (.int 1) u
  g_CLASSES : ∃ u, mg "CLASSES" = some u ∧ RelV (.int 2) u
  g_FLIGHTS : ∃ u, mg "FLIGHTS" = some u ∧ RelV (.int 3) u
  g_TAILS : ∃ u, mg "TAILS" = some u ∧ RelV (.int 4) u
  g_FARES : ∃ u, mg "FARES" = some u ∧ RelV (.int 5) u
  g_MAX_TIME : ∃ u, mg "MAX_TIME" = some u ∧ RelV (.int 20160) u
  g_MAX_STATIONS : ∃ u, mg "MAX_STATIONS" = some u ∧ RelV (.int 12) u
  g_MAX_TYPES : ∃ u, mg "MAX_TYPES" = some u ∧ RelV (.int 4) u
  g_MAX_CLASSES : ∃ u, mg "MAX_CLASSES" = some u ∧ RelV (.int 6) u
  g_MAX_FLIGHTS : ∃ u, mg "MAX_FLIGHTS" = some u ∧ RelV (.int 40) u
  g_MAX_TAILS : ∃ u, mg "MAX_TAILS" = some u ∧ RelV (.int 12) u
  g_MAX_FARES : ∃ u, mg "MAX_FARES" = some u ∧ RelV (.int 40) u
  g_MAX_STOPS : ∃ u, mg "MAX_STOPS" = some u ∧ RelV (.int 3) u
  g_MAX_COIN : ∃ u, mg "MAX_COIN" = some u ∧ RelV (.int 1000000) u
  g_MAX_NAME : ∃ u, mg "MAX_NAME" = some u ∧ RelV (.int 12) u
  g_LETTERS : ∃ u, mg "LETTERS" = some u ∧ RelV (.str "abcdefghijklmnopqrstuvwxyzABCDEFGHIJKLMNOPQRSTUVWXYZ") u
  g_DIGITS : ∃ u, mg "DIGITS" = some u ∧ RelV (.str "0123456789") u
section
variable {P : Program} {w : World} {K : PySem.W.Frag} {mg : Str → Option Value} {base : Heap}
/-! ## shapes -/
def spIsInt (K : PySem.W.Frag) : Sp := hid fun vs H Q _ => ∃ x, vs = [x] ∧ Plain K H x ∧ Q (.bl (isI x)) H
theorem ok_isint {f : Addr} {fd : FuncData} (F : Fun K "is_integer" "is_integer" s_is_integer f fd) (T : ChkTxt mg) : FnG P w K mg base CX0 1 f fd ["value"] (spIsInt K) := by
  refine okG F sc_is_integer (fun vs H Q E h => ?_) (fun cdv A outer s H vs Q E hG hr h => ?_)
  · obtain ⟨x, rfl, _⟩ := h
    rfl
  · obtain ⟨x, rfl, hp, q⟩ := h
    refine ⟨_, (pss_one (ps_ret (pe_and (pe_callB (r := rIsi K) (id := "isinstance") call_isi (by rfl) T.z_isinstance (by decide +kernel) (pa_cons (pv 0) (pa_cons (pe_bltn (v := .ty "int") (u := .type "int") (by rfl) T.z_int (by decide +kernel) rfl) pa_nil))) (pe_one (pe_not (pe_callB (r := rIsi K) (id := "isinstance") call_isi (by rfl) T.z_isinstance (by decide +kernel) (pa_cons (pv 0) (pa_cons (pe_bltn (v := .ty "bool") (u := .type "bool") (by rfl) T.z_bool (by decide +kernel) rfl) pa_nil)))))))), ?_⟩
    obtain ⟨t, ty, k1, k2, _, _⟩ := hp.kit
    refine ⟨x, rfl, x, _, t, _, _, rfl, .ty "int", ty, k1, _, rfl, ?_⟩
    cases x with
    | int i => exact iteT ⟨_, rfl, _, _, t, _, _, rfl, .ty "bool", ty, k2, _, rfl, q⟩
    | bl b => exact iteT ⟨_, rfl, _, _, t, _, _, rfl, .ty "bool", ty, k2, _, rfl, q⟩
    | _ => exact iteF q
def spIsRow (K : PySem.W.Frag) : Sp := fun vs H Q _ => ∃ (a : Addr) (xs : List V) (n : Int), vs = [.ref a, .int n] ∧ SqT K H a xs ∧ n = (xs.length : Int) ∧ Q (.bl true) H
theorem ok_isrow {f : Addr} {fd : FuncData} (F : Fun K "is_row" "is_row" s_is_row f fd) (T : ChkTxt mg) : FnG P w K mg base CX0 1 f fd ["value", "size"] (spIsRow K) := by
  refine okG F sc_is_row (fun vs H Q E h => ?_) (fun cdv A outer s H vs Q E hG hr h => ?_)
  · obtain ⟨a, xs, n, rfl, _⟩ := h
    rfl
  · obtain ⟨a, xs, n, rfl, hS, hn, q⟩ := h
    refine ⟨_, (pss_one (ps_ret (pe_and (pe_callB (r := rIsi K) (id := "isinstance") call_isi (by rfl) T.z_isinstance (by decide +kernel) (pa_cons (pv 0) (pa_cons (pe_bltn (v := .ty "tuple") (u := .type "tuple") (by rfl) T.z_tuple (by decide +kernel) rfl) pa_nil))) (pe_one (pe_cmpR op_eq (pe_callB (r := Ln.rLen K) (id := "len") c_len (by rfl) T.z_len (by decide +kernel) (pa_cons (pv 0) pa_nil)) (pv 1) (nomark _)))))), ?_⟩
    obtain ⟨t, ty, _, _, k3, k4⟩ := (Plain.tup hS : Plain K H (.ref a)).kit
    refine ⟨.ref a, rfl, .ref a, _, t, _, _, rfl, .ty "tuple", ty, k4, _, rfl, iteT ⟨.ref a, rfl, .ref a, xs.length, rfl, .inr ⟨_, hS, rfl⟩, _, rfl, rfl, ?_⟩⟩
    rw [hn, decide_eq_true rfl]
    exact q
theorem all_true {α : Type} (l : List α) : ((l.map fun _ => true).all id) = true := by
  induction l with
  | nil => rfl
  | cons x r ih => simp
/-- [True, ..] of all items, in a comprehension -/
theorem trues (n : Nat) : ((List.replicate n true).map V.bl) ++ [V.bl true] = (List.replicate (n + 1) true).map V.bl := by
  rw [List.replicate_succ', List.map_append, List.map_singleton]
theorem all_rep (n : Nat) : (List.replicate n true).all id = true := by
  induction n with
  | zero => rfl
  | succ n ih => rw [List.replicate_succ, List.all_cons, ih]; rfl
def spStrings (K : PySem.W.Frag) : Sp := fun vs H Q _ => ∃ (a : Addr) (ns : List Str), vs = [.ref a] ∧ SqT K H a (ns.map V.str) ∧ ns.length ≤ 1000 ∧ ∀ H', Same H H' → Q (.bl true) H'
theorem ok_strings {f : Addr} {fd : FuncData} (F : Fun K "are_strings" "are_strings" s_are_strings f fd) (T : ChkTxt mg) : FnG P w K mg base CX0 1 f fd ["value"] (spStrings K) := by
  refine okG F sc_are_strings (fun vs H Q E h => ?_) (fun cdv A outer s H vs Q E hG hr h => ?_)
  · obtain ⟨a, ns, rfl, _⟩ := h
    rfl
  · obtain ⟨a, ns, rfl, hS, hl, q⟩ := h
    refine ⟨_, (pss_one (ps_ret (pe_and (pe_callB (r := rIsi K) (id := "isinstance") call_isi (by rfl) T.z_isinstance (by decide +kernel) (pa_cons (pv 0) (pa_cons (pe_bltn (v := .ty "tuple") (u := .type "tuple") (by rfl) T.z_tuple (by decide +kernel) rfl) pa_nil))) (pe_one (pe_callB (r := rAll K) (id := "all") (cr_all rfl) (by rfl) T.z_all (by decide +kernel) (pa_cons (pe_lc (own := [("part", 1)]) rfl sc_are_strings.nd (pi_tup (pv 0)) (blkOk_by (own := [("part", 1)]) (N := N_are_strings) (sc := defScope s_are_strings) (by decide +kernel)) (fun _ _ _ _ _ => (pg_name (i := 1) sc_are_strings.nd rfl (.inl rfl))) (fun _ _ _ _ _ => pts_nil) (fun _ _ _ _ _ => (pe_callB (r := rIsi K) (id := "isinstance") call_isi (by rfl) T.z_isinstance (by decide +kernel) (pa_cons (pv 1) (pa_cons (pe_bltn (v := .ty "str") (u := .type "str") (by rfl) T.z_str (by decide +kernel) rfl) pa_nil))))) pa_nil)))))), ?_⟩
    obtain ⟨t, ty, _, _, _, k4⟩ := (Plain.tup hS : Plain K H (.ref a)).kit
    refine ⟨.ref a, rfl, .ref a, _, t, _, _, rfl, .ty "tuple", ty, k4, _, rfl, iteT ?_⟩
    refine ⟨.ref a, rfl, a, rfl, ⟨_, hS⟩, fun D nD => lc_tup (K := K) (a := a) (xs := ns.map V.str) (fun i H' => Same H H' ∧ H' D = some (.lst ((List.replicate i true).map V.bl))) ?_ ?_ ?_ ?_⟩
    · exact ⟨Ln.same_upd nD, upd_same⟩
    · rintro i H' _ ⟨sm, _⟩
      exact Same.tup sm hS
    · rintro i x H' hx ⟨sm, hD⟩
      obtain ⟨y, _, rfl⟩ := List.mem_map.mp (List.mem_of_getElem? hx)
      have hi := (List.getElem?_eq_some_iff.mp hx).1
      rw [List.length_map] at hi
      obtain ⟨t, ty, _, _, k3, _⟩ := (Plain.str y : Plain K H' (.str y)).kit
      refine ⟨rfl, ?_⟩
      refine ⟨_, rfl, _, _, t, _, _, rfl, .ty "str", ty, k3, _, hD, ?_, same_at sm nD, ?_⟩
      · rw [List.length_map, List.length_replicate]
        exact small1 (by omega)
      · rw [upd_same, ← trues]
        rfl
    · rintro H' ⟨sm, hD⟩
      refine ⟨_, _, rfl, SqL.of hD, ?_⟩
      rw [all_rep]
      exact q H' sm
def spInts (K : PySem.W.Frag) : Sp := fun vs H Q _ => ∃ (a : Addr) (ns : List Int), vs = [.ref a] ∧ SqT K H a (ns.map V.int) ∧ ns.length ≤ 1000 ∧ ∀ H', Same H H' → Q (.bl true) H'
theorem ok_integers {f : Addr} {fd : FuncData} (F : Fun K "are_integers" "are_integers" s_are_integers f fd) (T : ChkTxt mg) (c_is_integer : Cg P w K mg base CX0 1 "is_integer" (spIsInt K)) : FnG P w K mg base CX0 2 f fd ["value"] (spInts K) := by
  refine okG F sc_are_integers (fun vs H Q E h => ?_) (fun cdv A outer s H vs Q E hG hr h => ?_)
  · obtain ⟨a, ns, rfl, _⟩ := h
    rfl
  · obtain ⟨a, ns, rfl, hS, hl, q⟩ := h
    refine ⟨_, (pss_one (ps_ret (pe_and (pe_callB (r := rIsi K) (id := "isinstance") call_isi (by rfl) T.z_isinstance (by decide +kernel) (pa_cons (pv 0) (pa_cons (pe_bltn (v := .ty "tuple") (u := .type "tuple") (by rfl) T.z_tuple (by decide +kernel) rfl) pa_nil))) (pe_one (pe_callB (r := rAll K) (id := "all") (cr_all rfl) (by rfl) T.z_all (by decide +kernel) (pa_cons (pe_lc (own := [("part", 1)]) rfl sc_are_integers.nd (pi_tup (pv 0)) (blkOk_by (own := [("part", 1)]) (N := N_are_integers) (sc := defScope s_are_integers) (by decide +kernel)) (fun _ _ _ _ _ => (pg_name (i := 1) sc_are_integers.nd rfl (.inl rfl))) (fun _ _ _ _ _ => pts_nil) (fun _ _ _ _ _ => (pe_cg c_is_integer hr (by decide) hG (by rfl) (pa_cons (pv 1) pa_nil)))) pa_nil)))))), ?_⟩
    obtain ⟨t, ty, _, _, _, k4⟩ := (Plain.tup hS : Plain K H (.ref a)).kit
    refine ⟨.ref a, rfl, .ref a, _, t, _, _, rfl, .ty "tuple", ty, k4, _, rfl, iteT ?_⟩
    refine ⟨.ref a, rfl, a, rfl, ⟨_, hS⟩, fun D nD => lc_tup (K := K) (a := a) (xs := ns.map V.int) (fun i H' => Same H H' ∧ H' D = some (.lst ((List.replicate i true).map V.bl))) ?_ ?_ ?_ ?_⟩
    · exact ⟨Ln.same_upd nD, upd_same⟩
    · rintro i H' _ ⟨sm, _⟩
      exact Same.tup sm hS
    · rintro i x H' hx ⟨sm, hD⟩
      obtain ⟨y, _, rfl⟩ := List.mem_map.mp (List.mem_of_getElem? hx)
      have hi := (List.getElem?_eq_some_iff.mp hx).1
      rw [List.length_map] at hi
      refine ⟨rfl, ?_⟩
      refine ⟨_, rfl, _, rfl, .int y, _, hD, ?_, same_at sm nD, ?_⟩
      · rw [List.length_map, List.length_replicate]
        exact small1 (by omega)
      · rw [upd_same, ← trues]
        rfl
    · rintro H' ⟨sm, hD⟩
      refine ⟨_, _, rfl, SqL.of hD, ?_⟩
      rw [all_rep]
      exact q H' sm
/-- what stands in a field -/
inductive Fits : Str → PyData → Prop
  | name (x : Str) : Fits "name" (.str x)
  | number (i : Int) : Fits "number" (.int i)
  | limits {ls : List Int} (h : ls.length ≤ 1000) : Fits "limits" (.tuple (ls.map .int))
  | names {ns : List Str} (h : ns.length ≤ 1000) : Fits "names" (.tuple (ns.map .str))
theorem ints_at {H : Hp} {t : Addr} {ns : List Int} (h : Dp K H (.ref t) (.tuple (ns.map PyData.int))) : SqT K H t (ns.map V.int) := by
  cases h with
  | @tup _ xs _ h1 h2 =>
    have e : xs = ns.map V.int := by
      clear h1
      induction ns generalizing xs with
      | nil => cases h2; rfl
      | cons n r ih =>
        cases h2 with
        | cons a b =>
          cases a
          rw [ih b]
          rfl
    rw [← e]
    exact h1
theorem ref_of {H : Hp} {v : V} {ds : List PyData} (h : Dp K H v (.tuple ds)) : ∃ t, v = .ref t := by
  cases h
  exact ⟨_, rfl⟩
def spFits (K : PySem.W.Frag) : Sp := fun vs H Q _ => ∃ (x : Str) (v : V) (d : PyData), vs = [.str x, v] ∧ Fits x d ∧ Dp K H v d ∧ ∀ H', Same H H' → Q (.bl true) H'
theorem ok_fits {f : Addr} {fd : FuncData} (F : Fun K "fits_field" "fits_field" s_fits_field f fd) (T : ChkTxt mg) (c_is_integer : Cg P w K mg base CX0 1 "is_integer" (spIsInt K)) (c_are_integers : Cg P w K mg base CX0 2 "are_integers" (spInts K))
    (c_are_strings : Cg P w K mg base CX0 1 "are_strings" (spStrings K)) : FnG P w K mg base CX0 3 f fd ["field", "value"] (spFits K) := by
  refine okG F sc_fits_field (fun vs H Q E h => ?_) (fun cdv A outer s H vs Q E hG hr h => ?_)
  · obtain ⟨x, v, d, rfl, _⟩ := h
    rfl
  · obtain ⟨x, v, d, rfl, hf, hd, q⟩ := h
    refine ⟨_, (pss_cons (ps_if (pt_cmpR op_eq (pv 0) pe_str (nomark _))
    (pss_one (ps_ret (pe_callB (r := rIsi K) (id := "isinstance") call_isi (by rfl) T.z_isinstance (by decide +kernel) (pa_cons (pv 1) (pa_cons (pe_bltn (v := .ty "str") (u := .type "str") (by rfl) T.z_str (by decide +kernel) rfl) pa_nil)))))
    pss_nil)
    (pss_cons (ps_if (pt_cmpR op_eq (pv 0) pe_str (nomark _))
    (pss_one (ps_ret (pe_cg c_is_integer hr (by decide) hG (by rfl) (pa_cons (pv 1) pa_nil))))
    pss_nil)
    (pss_cons (ps_if (pt_cmpR op_eq (pv 0) pe_str (nomark _))
    (pss_one (ps_ret (pe_cg c_are_integers hr (by decide) hG (by rfl) (pa_cons (pv 1) pa_nil))))
    pss_nil)
    (pss_one (ps_ret (pe_cg c_are_strings hr (by decide) hG (by rfl) (pa_cons (pv 1) pa_nil))))))), ?_⟩
    have q0 := q H fun _ _ e => e
    cases hf with
    | name y =>
      cases hd
      obtain ⟨t, ty, _, _, k3, _⟩ := (Plain.str y : Plain K H (.str y)).kit
      refine ⟨_, rfl, rfl, _, rfl, ?_⟩
      rw [decide_eq_true rfl]
      exact iteT ⟨_, rfl, _, _, t, _, _, rfl, .ty "str", ty, k3, q0⟩
    | number i =>
      cases hd
      refine ⟨_, rfl, rfl, _, rfl, ?_⟩
      refine iteF ?_
      refine ⟨_, rfl, rfl, _, rfl, ?_⟩
      rw [decide_eq_true rfl]
      exact iteT ⟨_, rfl, _, rfl, .int i, q0⟩
    | @limits ls h =>
      obtain ⟨t, rfl⟩ := ref_of hd
      refine ⟨_, rfl, rfl, _, rfl, iteF ⟨_, rfl, rfl, _, rfl, iteF ⟨_, rfl, rfl, _, rfl, ?_⟩⟩⟩
      rw [decide_eq_true rfl]
      exact iteT ⟨_, rfl, t, ls, rfl, ints_at hd, h, q⟩
    | @names ns h =>
      obtain ⟨t, rfl⟩ := ref_of hd
      exact ⟨_, rfl, rfl, _, rfl, iteF ⟨_, rfl, rfl, _, rfl, iteF ⟨_, rfl, rfl, _, rfl, iteF ⟨_, rfl, t, ns, rfl, strs_at hd, h, q⟩⟩⟩⟩
end
end Mine
set_option Elab.async false
set_option linter.all false
set_option maxRecDepth 100000
set_option maxHeartbeats 8000000
namespace Mine
open PySem PySem.Spec PyProof.Rows L2 Ln RZ
def flds : List (List Str) := [["name", "number", "number"], ["name", "number", "number"], [], ["name", "name", "name", "number", "number", "name", "number", "limits"], ["name", "name", "names"], ["name", "name", "name", "name", "number", "number", "number", "number"]]
def fieldsD : PyData := .tuple (flds.map fun l => .tuple (l.map .str))
structure ChkTxtF (K : PySem.W.Frag) (mg : Str → Option Value) (F : Addr) : Prop extends ChkTxt mg where
  g_FIELDS : ∃ u, mg "FIELDS" = some u ∧ RelV (.ref F) u
  dF : ∀ H, Dp K H (.ref F) fieldsD
section
variable {P : Program} {w : World} {K : PySem.W.Frag} {mg : Str → Option Value} {base : Heap} {FA : Addr}
/-! ## what a right net has -/
theorem Right.flt {N : Net} (h : Right N) {f : Flt} (m : f ∈ N.fl) : FltOk (N.st.map (·.1)) N.cl.length f := by
  obtain ⟨R, _, _, hR, _, hp⟩ := h.rows
  obtain ⟨r, hr, hf⟩ := List.mem_flatMap.mp (hp.mem_iff.mp m)
  obtain ⟨k, hk, e⟩ := List.mem_iff_getElem.mp hr
  exact ((hR k r (by rw [List.getElem?_eq_getElem hk, e])).ok f hf).1
theorem Right.fl25 {N : Net} (h : Right N) : N.fl.length ≤ 25 := by
  obtain ⟨R, _, h5, hR, _, hp⟩ := h.rows
  have := flOf_len hR
  rw [hp.length_eq]
  omega
theorem Right.tl5 {N : Net} (h : Right N) : N.tl.length ≤ 5 := by
  obtain ⟨R, _, h5, hR, e, _⟩ := h.rows
  rw [e]
  unfold tlOf
  rw [List.length_mapIdx]
  exact h5
theorem Right.cl4 {N : Net} (h : Right N) : 1 ≤ N.cl.length ∧ N.cl.length ≤ 4 := by
  obtain ⟨c, h1, h4, e⟩ := h.cl
  rw [e, List.length_take]
  show 1 ≤ min c 4 ∧ min c 4 ≤ 4
  omega
theorem Right.tlm {N : Net} (h : Right N) {t : Str × Str × List Str} (m : t ∈ N.tl) : t.2.2.length ≤ 5 := by
  obtain ⟨R, _, _, hR, e, _⟩ := h.rows
  rw [e] at m
  obtain ⟨k, hk, q⟩ := List.mem_iff_getElem.mp m
  unfold tlOf at hk q
  rw [List.getElem_mapIdx] at q
  rw [List.length_mapIdx] at hk
  rw [← q]
  show ((R[k]).2.map Flt.name).length ≤ 5
  rw [List.length_map]
  exact (hR k _ (List.getElem?_eq_getElem hk)).len
/-- the parts of a net's data -/
theorem net_at {H : Hp} {a : Addr} {N : Net} (h : Dp K H (.ref a) (netD N)) : ∃ s t c f l r : Addr, SqT K H a [.ref s, .ref t, .ref c, .ref f, .ref l, .ref r] ∧ Dp K H (.ref s) (.tuple (N.st.map trD)) ∧ Dp K H (.ref t) (.tuple (N.ty.map trD)) ∧
    Dp K H (.ref c) (.tuple (N.cl.map .str)) ∧ Dp K H (.ref f) (.tuple (N.fl.map flD)) ∧ Dp K H (.ref l) (.tuple (N.tl.map tlD)) ∧ Dp K H (.ref r) (.tuple (N.fa.map faD)) := by
  unfold netD at h
  cases h with
  | @tup _ xs _ h1 h2 =>
    cases h2 with
    | cons a1 h2 => cases h2 with
      | cons a2 h2 => cases h2 with
        | cons a3 h2 => cases h2 with
          | cons a4 h2 => cases h2 with
            | cons a5 h2 => cases h2 with
              | cons a6 h2 =>
                cases h2
                obtain ⟨s, rfl⟩ := ref_of a1
                obtain ⟨t, rfl⟩ := ref_of a2
                obtain ⟨c, rfl⟩ := ref_of a3
                obtain ⟨f, rfl⟩ := ref_of a4
                obtain ⟨l, rfl⟩ := ref_of a5
                obtain ⟨r, rfl⟩ := ref_of a6
                exact ⟨s, t, c, f, l, r, h1, a1, a2, a3, a4, a5, a6⟩
theorem tup_at {H : Hp} {t : Addr} {ds : List PyData} (h : Dp K H (.ref t) (.tuple ds)) : ∃ xs, SqT K H t xs ∧ DpAll K H xs ds := by
  cases h with
  | tup h1 h2 => exact ⟨_, h1, h2⟩
theorem Same.dp {H H' : Hp} (s : Same H H') {v : V} {d : PyData} (l : noL d = true) (h : Dp K H v d) : Dp K H' v d := Dp.tpf (TpF.same s) _ _ l h
theorem walk_zipT {a b : Addr} {xs ys : List V} {n : Nat} (h1 : xs.length = n) (h2 : ys.length = n) : Walk (ItzT K a b) n (fun H => SqT K H a xs ∧ SqT K H b ys) (YPair (fun i => xs[i]?) (fun i => ys[i]?)) where
  goes := fun i H hi q => ⟨xs, ys, xs[i], ys[i], q.1, q.2, List.getElem?_eq_getElem _, List.getElem?_eq_getElem _⟩
  stops := fun H q => ⟨xs, ys, q.1, q.2, by omega⟩
  yields := by
    rintro i H v H' _ q ⟨T, x, y, h1, h2, h3, h4, h5⟩
    exact ⟨T, x, y, h1, h2, h3, h4 xs q.1, h5 ys q.2⟩
theorem paired_at {α β : Type} {F : α → β → Prop} {xs : List α} {ys : List β} (h : Paired F xs ys) {i : Nat} {x : α} {y : β} (hx : xs[i]? = some x) (hy : ys[i]? = some y) : F x y := by
  induction h generalizing i with
  | nil => simp at hx
  | cons a _ ih =>
    cases i with
    | zero =>
      cases hx
      cases hy
      exact a
    | succ i => exact ih (by simpa using hx) (by simpa using hy)
def spRowShape (K : PySem.W.Frag) : Sp := fun vs H Q _ => ∃ (fa ra : Addr) (fs : List Str) (ds : List PyData), vs = [.ref fa, .ref ra] ∧ SqT K H fa (fs.map V.str) ∧ Dp K H (.ref ra) (.tuple ds) ∧ Paired Fits fs ds ∧ ds.length ≤ 100 ∧ noLs ds = true ∧ ∀ H', Same H H' → Q (.bl true) H'
theorem ok_rowshape {f : Addr} {fd : FuncData} (F : Fun K "row_has_shape" "row_has_shape" s_row_has_shape f fd) (T : ChkTxt mg) (c_is_row : Cg P w K mg base CX0 1 "is_row" (spIsRow K)) (c_fits_field : Cg P w K mg base CX0 3 "fits_field" (spFits K)) :
    FnG P w K mg base CX0 4 f fd ["fields", "row"] (spRowShape K) := by
  refine okG F sc_row_has_shape (fun vs H Q E h => ?_) (fun cdv A outer s H vs Q E hG hr h => ?_)
  · obtain ⟨fa, ra, fs, ds, rfl, _⟩ := h
    rfl
  · obtain ⟨fa, ra, fs, ds, rfl, hF, hR, hp, hl, hn, q⟩ := h
    refine ⟨_, (pss_cons (ps_if (pt_not (pt_val (pe_cg c_is_row hr (by decide) hG (by rfl) (pa_cons (pv 1) (pa_cons (pe_callB (r := Ln.rLen K) (id := "len") c_len (by rfl) T.z_len (by decide +kernel) (pa_cons (pv 0) pa_nil)) pa_nil)))))
    (pss_one (ps_ret pe_bl))
    pss_nil)
    (pss_one (ps_ret (pe_callB (r := rAll K) (id := "all") (cr_all rfl) (by rfl) T.z_all (by decide +kernel) (pa_cons (pe_lc (own := [("field", 2), ("value", 3)]) (g := (gTup K 2 (gCons (gName 2) (gCons (gName 3) gNil)))) rfl sc_row_has_shape.nd (pi_zipA (by rfl) T.z_zip (pa_cons (pv 0) (pa_cons (pv 1) pa_nil))) (blkOk_by (own := [("field", 2), ("value", 3)]) (N := N_row_has_shape) (sc := defScope s_row_has_shape) (by decide +kernel)) (fun _ _ _ _ _ => (pg_tup (by rfl) (pgs_cons (pg_name (i := 2) sc_row_has_shape.nd rfl (.inl rfl)) (pgs_cons (pg_name (i := 3) sc_row_has_shape.nd rfl (.inl rfl)) pgs_nil)))) (fun _ _ _ _ _ => pts_nil) (fun _ _ _ _ _ => (pe_cg c_fits_field hr (by decide) hG (by rfl) (pa_cons (pv 2) (pa_cons (pv 3) pa_nil))))) pa_nil))))), ?_⟩
    obtain ⟨xs, hX, hD⟩ := tup_at hR
    have lx : xs.length = ds.length := DpAll.len hD
    have lf : fs.length = ds.length := hp.length
    refine ⟨_, rfl, .ref fa, rfl, .ref fa, fs.length, rfl, .inr ⟨_, hF, by rw [List.length_map]⟩, ra, xs, _, rfl, hX, by omega, _, rfl, ?_⟩
    refine iteF ?_
    refine ⟨_, rfl, _, rfl, fa, ra, _, xs, rfl, .inr ⟨hF, hX, fun D nD => lc_it (walk_zipT (K := K) (a := fa) (b := ra) (xs := fs.map V.str) (ys := xs) (n := ds.length) (by rw [List.length_map]; exact lf) lx)
      (fun i H' => Same H H' ∧ H' D = some (.lst ((List.replicate i true).map V.bl))) ?_ ?_ ?_ ?_⟩⟩
    · exact ⟨Ln.same_upd nD, upd_same⟩
    · rintro i H' _ ⟨sm, _⟩
      exact ⟨Same.tup sm hF, Same.tup sm hX⟩
    · rintro i v H1 H' hi ⟨sm, hDD⟩ ⟨T', x, y, rfl, nT, rfl, hx, hy⟩
      have hx' : (fs.map V.str)[i]? = some x := hx
      rw [List.getElem?_map] at hx'
      obtain ⟨z, hz, rfl⟩ := Option.map_eq_some_iff.mp hx'
      obtain ⟨d, hd, hdy⟩ := DpAll.get hD (show xs[i]? = some y from hy)
      have ld := noLs_mem hn d (List.mem_of_getElem? hd)
      have sT := Ln.same_upd (o := .tup [.str z, y]) nT
      refine ⟨T', _, rfl, SqT.of upd_same, rfl, _, _, rfl, _, _, rfl, rfl, rfl, ?_⟩
      refine ⟨_, rfl, _, rfl, z, y, d, rfl, paired_at hp hz hd, Same.dp (sm.trans sT) ld hdy, fun H3 sm3 => ?_⟩
      refine ⟨_, sm3 _ _ (sT _ _ hDD), ?_, same_at ((sm.trans sT).trans sm3) nD, ?_⟩
      · rw [List.length_map, List.length_replicate]
        exact small1 (by omega)
      · rw [upd_same, ← trues]
    · rintro H' ⟨sm, hDD⟩
      refine ⟨_, _, rfl, SqL.of hDD, ?_⟩
      rw [all_rep]
      exact q H' sm
def spPartShape (K : PySem.W.Frag) : Sp := fun vs H Q _ => ∃ (i : Nat) (ra : Addr) (ds : List PyData) (fs : List Str), vs = [.int (i : Int), .ref ra] ∧ Dp K H (.ref ra) (.tuple ds) ∧ noLs ds = true ∧ ds.length ≤ 1000 ∧ flds[i]? = some fs ∧
  ((i = 2 ∧ ∃ ns : List Str, ds = ns.map .str) ∨ (i ≠ 2 ∧ ∀ d ∈ ds, ∃ es, d = .tuple es ∧ Paired Fits fs es ∧ es.length ≤ 100)) ∧ ∀ H', Same H H' → Q (.bl true) H'
theorem ok_partshape {f : Addr} {fd : FuncData} (F : Fun K "part_has_shape" "part_has_shape" s_part_has_shape f fd) (T : ChkTxtF K mg FA) (c_are_strings : Cg P w K mg base CX0 1 "are_strings" (spStrings K)) (c_row_has_shape : Cg P w K mg base CX0 4 "row_has_shape" (spRowShape K)) :
    FnG P w K mg base CX0 5 f fd ["part", "rows"] (spPartShape K) := by
  refine okG F sc_part_has_shape (fun vs H Q E h => ?_) (fun cdv A outer s H vs Q E hG hr h => ?_)
  · obtain ⟨i, ra, ds, fs, rfl, _⟩ := h
    rfl
  · obtain ⟨i, ra, ds, fs, rfl, hR, hn, hl, hfs, hc, q⟩ := h
    refine ⟨_, (pss_cons (ps_if (pt_cmpR op_eq (pv 0) (pe_gl (by rfl) T.g_CLASSES) (nomark _))
    (pss_one (ps_ret (pe_cg c_are_strings hr (by decide) hG (by rfl) (pa_cons (pv 1) pa_nil))))
    pss_nil)
    (pss_one (ps_ret (pe_and (pe_callB (r := rIsi K) (id := "isinstance") call_isi (by rfl) T.z_isinstance (by decide +kernel) (pa_cons (pv 1) (pa_cons (pe_bltn (v := .ty "tuple") (u := .type "tuple") (by rfl) T.z_tuple (by decide +kernel) rfl) pa_nil))) (pe_one (pe_callB (r := rAll K) (id := "all") (cr_all rfl) (by rfl) T.z_all (by decide +kernel) (pa_cons (pe_lc (own := [("row", 2)]) rfl sc_part_has_shape.nd (pi_tup (pv 1)) (blkOk_by (own := [("row", 2)]) (N := N_part_has_shape) (sc := defScope s_part_has_shape) (by decide +kernel)) (fun _ _ _ _ _ => (pg_name (i := 2) sc_part_has_shape.nd rfl (.inl rfl))) (fun _ _ _ _ _ => pts_nil) (fun _ _ _ _ _ => (pe_cg c_row_has_shape hr (by decide) hG (by rfl) (pa_cons (pe_ix (r := rIxT K) ix_tup (pe_gl (by rfl) T.g_FIELDS) (pv 0) (fun _ _ => rfl)) (pa_cons (pv 2) pa_nil))))) pa_nil))))))), ?_⟩
    rcases hc with ⟨rfl, ns, rfl⟩ | ⟨hi, hd⟩
    · refine ⟨_, rfl, rfl, _, rfl, ?_⟩
      rw [decide_eq_true (show V.int ((2 : Nat) : Int) = V.int 2 by decide)]
      exact iteT ⟨_, rfl, ra, ns, rfl, strs_at hR, by rw [List.length_map] at hl; exact hl, q⟩
    · refine ⟨_, rfl, rfl, _, rfl, ?_⟩
      rw [decide_eq_false (show ¬ V.int (i : Int) = V.int 2 from fun z => hi (by injection z; omega))]
      refine iteF ?_
      obtain ⟨xs, hX, hD⟩ := tup_at hR
      have lx : xs.length = ds.length := DpAll.len hD
      obtain ⟨t, ty, _, _, _, k4⟩ := (Plain.tup hX : Plain K H (.ref ra)).kit
      refine ⟨.ref ra, rfl, .ref ra, _, t, _, _, rfl, .ty "tuple", ty, k4, _, rfl, iteT ?_⟩
      refine ⟨.ref ra, rfl, ra, rfl, ⟨_, hX⟩, fun D nD => lc_tup (K := K) (a := ra) (xs := xs) (fun i H' => Same H H' ∧ H' D = some (.lst ((List.replicate i true).map V.bl))) ?_ ?_ ?_ ?_⟩
      · exact ⟨Ln.same_upd nD, upd_same⟩
      · rintro i H' _ ⟨sm, _⟩
        exact Same.tup sm hX
      · rintro k x H' hx ⟨sm, hDD⟩
        obtain ⟨d, hdk, hdx⟩ := DpAll.get hD hx
        have md := List.mem_of_getElem? hdk
        have ld := noLs_mem hn d md
        obtain ⟨es, rfl, hp, he⟩ := hd d md
        obtain ⟨ra2, rfl⟩ := ref_of hdx
        have hk := (List.getElem?_eq_some_iff.mp hx).1
        obtain ⟨fx, hfx, hfd⟩ := tup_at (T.dF H')
        have hf2 : (flds.map fun l => PyData.tuple (l.map PyData.str))[i]? = some (.tuple (fs.map .str)) := by rw [List.getElem?_map, hfs]; rfl
        have lfx : fx.length = (flds.map fun l => PyData.tuple (l.map PyData.str)).length := DpAll.len hfd
        have hix : i < fx.length := by rw [lfx]; exact (List.getElem?_eq_some_iff.mp hf2).1
        obtain ⟨d2, hd2, hdd2⟩ := DpAll.get hfd (List.getElem?_eq_getElem hix)
        rw [hf2] at hd2
        cases hd2
        obtain ⟨fa, efa⟩ := ref_of hdd2
        rw [efa] at hdd2
        refine ⟨rfl, ?_⟩
        refine ⟨_, rfl, FA, fx, _, _, rfl, rfl, hfx, atI_nat (List.getElem?_eq_getElem hix), ?_⟩
        rw [efa]
        refine ⟨_, rfl, fa, ra2, fs, es, rfl, strs_at hdd2, Same.dp sm ld hdx, hp, he, by simpa only [noL] using ld, fun H3 sm3 => ?_⟩
        refine ⟨_, sm3 _ _ hDD, ?_, same_at (sm.trans sm3) nD, ?_⟩
        · rw [List.length_map, List.length_replicate]
          exact small1 (by omega)
        · rw [upd_same, ← trues]
      · rintro H' ⟨sm, hDD⟩
        refine ⟨_, _, rfl, SqL.of hDD, ?_⟩
        rw [all_rep]
        exact q H' sm
end
end Mine
set_option Elab.async false
set_option linter.all false
set_option maxRecDepth 100000
set_option maxHeartbeats 8000000
namespace Mine
open PySem PySem.Spec PyProof.Rows L2 Ln RZ
section
variable {P : Program} {w : World} {K : PySem.W.Frag} {mg : Str → Option Value} {base : Heap} {FA : Addr}
theorem fits_tr (s : Tri) : ∃ es, trD s = .tuple es ∧ Paired Fits (["name", "number", "number"] : List Str) es ∧ es.length ≤ 100 :=
  ⟨_, rfl, .cons (.name _) (.cons (.number _) (.cons (.number _) .nil)), by show 3 ≤ 100; decide⟩
theorem fits_fl (f : Flt) (h : f.lims.length ≤ 1000) : ∃ es, flD f = .tuple es ∧ Paired Fits (["name", "name", "name", "number", "number", "name", "number", "limits"] : List Str) es ∧ es.length ≤ 100 :=
  ⟨_, rfl, .cons (.name _) (.cons (.name _) (.cons (.name _) (.cons (.number _) (.cons (.number _) (.cons (.name _) (.cons (.number _) (.cons (.limits h) .nil))))))), by show 8 ≤ 100; decide⟩
theorem fits_tl (t : Str × Str × List Str) (h : t.2.2.length ≤ 1000) : ∃ es, tlD t = .tuple es ∧ Paired Fits (["name", "name", "names"] : List Str) es ∧ es.length ≤ 100 :=
  ⟨_, rfl, .cons (.name _) (.cons (.name _) (.cons (.names h) .nil)), by show 3 ≤ 100; decide⟩
theorem fits_fa (f : Far) : ∃ es, faD f = .tuple es ∧ Paired Fits (["name", "name", "name", "name", "number", "number", "number", "number"] : List Str) es ∧ es.length ≤ 100 :=
  ⟨_, rfl, .cons (.name _) (.cons (.name _) (.cons (.name _) (.cons (.name _) (.cons (.number _) (.cons (.number _) (.cons (.number _) (.cons (.number _) .nil))))))), by show 8 ≤ 100; decide⟩
theorem all_map {α : Type} {g : α → PyData} {p : PyData → Prop} {l : List α} (h : ∀ x ∈ l, p (g x)) : ∀ d ∈ l.map g, p d := fun d hd => by
  obtain ⟨x, hx, e⟩ := List.mem_map.mp hd
  rw [← e]
  exact h x hx
/-- the i-th part of a right net -/
structure PartAt (K : PySem.W.Frag) (H : Hp) (i : Nat) (v : V) : Prop where
  ex : ∃ (ra : Addr) (ds : List PyData) (fs : List Str), v = .ref ra ∧ Dp K H (.ref ra) (.tuple ds) ∧ noLs ds = true ∧ ds.length ≤ 25 ∧ flds[i]? = some fs ∧
    ((i = 2 ∧ ∃ ns : List Str, ds = ns.map .str) ∨ (i ≠ 2 ∧ ∀ d ∈ ds, ∃ es, d = .tuple es ∧ Paired Fits fs es ∧ es.length ≤ 100))
theorem parts_at {H : Hp} {a : Addr} {N : Net} (h : Dp K H (.ref a) (netD N)) (R : Right N) : ∃ xs, SqT K H a xs ∧ xs.length = 6 ∧ ∀ i v, xs[i]? = some v → PartAt K H i v := by
  obtain ⟨s, t, c, f, l, r, h0, h1, h2, h3, h4, h5, h6⟩ := net_at h
  refine ⟨_, h0, rfl, fun i v hv => ?_⟩
  match i, hv with
  | 0, hv =>
    cases hv
    exact ⟨s, _, _, rfl, h1, noLs_map noL_tr _, by rw [List.length_map]; have := R.st.l1; omega, rfl, .inr ⟨by decide, all_map fun x _ => fits_tr x⟩⟩
  | 1, hv =>
    cases hv
    exact ⟨t, _, _, rfl, h2, noLs_map noL_tr _, by rw [List.length_map]; have := R.ty.l1; omega, rfl, .inr ⟨by decide, all_map fun x _ => fits_tr x⟩⟩
  | 2, hv =>
    cases hv
    exact ⟨c, _, _, rfl, h3, noLs_strs _, by rw [List.length_map]; have := R.cl4; omega, rfl, .inl ⟨rfl, _, rfl⟩⟩
  | 3, hv =>
    cases hv
    exact ⟨f, _, _, rfl, h4, noLs_map noL_fl _, by rw [List.length_map]; exact R.fl25, rfl, .inr ⟨by decide, all_map fun x hx => fits_fl x (by rw [(R.flt hx).lm.len]; have := R.cl4; omega)⟩⟩
  | 4, hv =>
    cases hv
    exact ⟨l, _, _, rfl, h5, noLs_map noL_tl _, by rw [List.length_map]; have := R.tl5; omega, rfl, .inr ⟨by decide, all_map fun x hx => fits_tl x (by have := R.tlm hx; omega)⟩⟩
  | 5, hv =>
    cases hv
    exact ⟨r, _, _, rfl, h6, noLs_map noL_fa _, by rw [List.length_map]; have := R.fl; omega, rfl, .inr ⟨by decide, all_map fun x _ => fits_fa x⟩⟩
  | i + 6, hv => simp at hv
theorem PartAt.same {H H' : Hp} {i : Nat} {v : V} (h : PartAt K H i v) (s : Same H H') : PartAt K H' i v := by
  obtain ⟨ra, ds, fs, h1, h2, h3, h4, h5, h6⟩ := h.ex
  exact ⟨ra, ds, fs, h1, Same.dp s (by simpa only [noL] using h3) h2, h3, h4, h5, h6⟩
def spShape (K : PySem.W.Frag) : Sp := fun vs H Q _ => ∃ (a : Addr) (N : Net), vs = [.ref a] ∧ Dp K H (.ref a) (netD N) ∧ Right N ∧ ∀ H', Same H H' → Q (.bl true) H'
theorem ok_shape {f : Addr} {fd : FuncData} (F : Fun K "has_shape" "has_shape" s_has_shape f fd) (T : ChkTxtF K mg FA) (c_is_row : Cg P w K mg base CX0 1 "is_row" (spIsRow K)) (c_part_has_shape : Cg P w K mg base CX0 5 "part_has_shape" (spPartShape K)) :
    FnG P w K mg base CX0 6 f fd ["net"] (spShape K) := by
  refine okG F sc_has_shape (fun vs H Q E h => ?_) (fun cdv A outer s H vs Q E hG hr h => ?_)
  · obtain ⟨a, N, rfl, _⟩ := h
    rfl
  · obtain ⟨a, N, rfl, hN, R, q⟩ := h
    refine ⟨_, (pss_cons (ps_if (pt_not (pt_val (pe_cg c_is_row hr (by decide) hG (by rfl) (pa_cons (pv 0) (pa_cons (pe_callB (r := Ln.rLen K) (id := "len") c_len (by rfl) T.z_len (by decide +kernel) (pa_cons (pe_gl (by rfl) T.g_FIELDS) pa_nil)) pa_nil)))))
    (pss_one (ps_ret pe_bl))
    pss_nil)
    (pss_one (ps_ret (pe_callB (r := rAll K) (id := "all") (cr_all rfl) (by rfl) T.z_all (by decide +kernel) (pa_cons (pe_lc (own := [("part", 1), ("rows", 2)]) (g := (gTup K 2 (gCons (gName 1) (gCons (gName 2) gNil)))) rfl sc_has_shape.nd (pi_enumT (by rfl) T.z_enumerate (pa_cons (pv 0) pa_nil)) (blkOk_by (own := [("part", 1), ("rows", 2)]) (N := N_has_shape) (sc := defScope s_has_shape) (by decide +kernel)) (fun _ _ _ _ _ => (pg_tup (by rfl) (pgs_cons (pg_name (i := 1) sc_has_shape.nd rfl (.inl rfl)) (pgs_cons (pg_name (i := 2) sc_has_shape.nd rfl (.inl rfl)) pgs_nil)))) (fun _ _ _ _ _ => pts_nil) (fun _ _ _ _ _ => (pe_cg c_part_has_shape hr (by decide) hG (by rfl) (pa_cons (pv 1) (pa_cons (pv 2) pa_nil))))) pa_nil))))), ?_⟩
    obtain ⟨xs, hX, l6, hP⟩ := parts_at hN R
    obtain ⟨fx, hfx, hfd⟩ := tup_at (T.dF H)
    have lfx : fx.length = 6 := (DpAll.len hfd).trans rfl
    refine ⟨_, rfl, .ref FA, 6, rfl, .inr ⟨fx, hfx, lfx.symm⟩, a, xs, _, rfl, hX, by rw [l6], _, rfl, iteF ?_⟩
    refine ⟨_, rfl, a, xs, rfl, hX, fun D nD => lc_it (walk_enumT (K := K) (a := a) (xs := xs)) (fun i H' => Same H H' ∧ H' D = some (.lst ((List.replicate i true).map V.bl))) ?_ ?_ ?_ ?_⟩
    · exact ⟨Ln.same_upd nD, upd_same⟩
    · rintro i H' _ ⟨sm, _⟩
      exact Same.tup sm hX
    · rintro i v H1 H' hi ⟨sm, hDD⟩ ⟨T', x, y, rfl, nT, rfl, hx, hy⟩
      have hx' : x = .int (i : Nat) := (Option.some.inj hx).symm
      subst hx'
      have sT := Ln.same_upd (o := .tup [.int (i : Nat), y]) nT
      obtain ⟨ra, ds, fs, rfl, g2, g3, g4, g5, g6⟩ := ((hP i y hy).same (sm.trans sT)).ex
      refine ⟨T', _, rfl, SqT.of upd_same, rfl, _, _, rfl, _, _, rfl, rfl, rfl, ?_⟩
      refine ⟨_, rfl, _, rfl, i, ra, ds, fs, rfl, g2, g3, by omega, g5, g6, fun H3 sm3 => ?_⟩
      refine ⟨_, sm3 _ _ (sT _ _ hDD), ?_, same_at ((sm.trans sT).trans sm3) nD, ?_⟩
      · rw [List.length_map, List.length_replicate]
        exact small1 (by omega)
      · rw [upd_same, ← trues]
    · rintro H' ⟨sm, hDD⟩
      refine ⟨_, _, rfl, SqL.of hDD, ?_⟩
      rw [all_rep]
      exact q H' sm
/-! ## names -/
def lettersS : Str := "abcdefghijklmnopqrstuvwxyzABCDEFGHIJKLMNOPQRSTUVWXYZ"
def digitsS : Str := "0123456789"
def okSign (c : Nat) : Bool := decide (c ∈ lettersS.cps.toList) || (decide (c ∈ digitsS.cps.toList) || decide (V.str ⟨#[c]⟩ = V.str "_"))
def spInName : Sp := fun vs H Q _ => ∃ c : Nat, vs = [.str ⟨#[c]⟩] ∧ okSign c = true ∧ Q (.bl true) H
theorem ok_inname {f : Addr} {fd : FuncData} (F : Fun K "in_name" "in_name" s_in_name f fd) (T : ChkTxt mg) : FnG P w K mg base CX0 1 f fd ["sign"] spInName := by
  refine okG F sc_in_name (fun vs H Q E h => ?_) (fun cdv A outer s H vs Q E hG hr h => ?_)
  · obtain ⟨c, rfl, _⟩ := h
    rfl
  · obtain ⟨c, rfl, hc, q⟩ := h
    refine ⟨_, (pss_one (ps_ret (pe_or (pe_cmpR op_in_sign (pv 0) (pe_gl (by rfl) T.g_LETTERS) (by rfl)) (pe_or (pe_cmpR op_in_sign (pv 0) (pe_gl (by rfl) T.g_DIGITS) (by rfl)) (pe_one (pe_cmpR op_eq (pv 0) pe_str (nomark _))))))), ?_⟩
    refine ⟨_, rfl, c, lettersS, rfl, rfl, _, rfl, ?_⟩
    unfold okSign at hc
    by_cases h1 : decide (c ∈ lettersS.cps.toList) = true
    · rw [h1]
      exact iteT q
    · rw [Bool.eq_false_iff.mpr h1] at hc ⊢
      refine iteF ⟨_, rfl, c, digitsS, rfl, rfl, _, rfl, ?_⟩
      by_cases h2 : decide (c ∈ digitsS.cps.toList) = true
      · rw [h2]
        exact iteT q
      · rw [Bool.eq_false_iff.mpr h2] at hc ⊢
        rw [Bool.false_or, Bool.false_or] at hc
        refine iteF ⟨_, rfl, rfl, ?_⟩
        rw [hc]
        exact q
/-- a name of the document -/
def isName (x : Str) : Bool := match x.cps.toList with
  | [] => false
  | c :: r => decide (c ∈ lettersS.cps.toList) && (c :: r).all okSign
def spIsName : Sp := fun vs H Q _ => ∃ x : Str, vs = [.str x] ∧ isName x = true ∧ x.length ≤ 1000 ∧ ∀ H', Same H H' → Q (.bl true) H'
theorem ok_isname {f : Addr} {fd : FuncData} (F : Fun K "is_name" "is_name" s_is_name f fd) (T : ChkTxt mg) (c_in_name : Cg P w K mg base CX0 1 "in_name" spInName) : FnG P w K mg base CX0 2 f fd ["word"] spIsName := by
  refine okG F sc_is_name (fun vs H Q E h => ?_) (fun cdv A outer s H vs Q E hG hr h => ?_)
  · obtain ⟨x, rfl, _⟩ := h
    rfl
  · obtain ⟨x, rfl, hx, hl, q⟩ := h
    refine ⟨_, (pss_one (ps_ret (pe_and (pe_cmpR op_ne (pv 0) pe_str (nomark _)) (pe_and (pe_cmpR op_in_sign (pe_ix ix_str (pv 0) pe_int (fun _ _ => rfl)) (pe_gl (by rfl) T.g_LETTERS) (by rfl)) (pe_one (pe_callB (r := rAll K) (id := "all") (cr_all rfl) (by rfl) T.z_all (by decide +kernel) (pa_cons (pe_lc (own := [("sign", 1)]) rfl sc_is_name.nd (pi_str (pv 0)) (blkOk_by (own := [("sign", 1)]) (N := N_is_name) (sc := defScope s_is_name) (by decide +kernel)) (fun _ _ _ _ _ => (pg_name (i := 1) sc_is_name.nd rfl (.inl rfl))) (fun _ _ _ _ _ => pts_nil) (fun _ _ _ _ _ => (pe_cg c_in_name hr (by decide) hG (by rfl) (pa_cons (pv 1) pa_nil)))) pa_nil))))))), ?_⟩
    refine ⟨_, rfl, rfl, ?_⟩
    cases e : x.cps.toList with
    | nil =>
      unfold isName at hx
      rw [e] at hx
      cases hx
    | cons c r =>
      unfold isName at hx
      rw [e] at hx
      obtain ⟨hc, hall⟩ := Bool.and_eq_true_iff.mp (show (decide (c ∈ lettersS.cps.toList) && (c :: r).all okSign) = true from hx)
      have ne : (!decide (V.str x = V.str "")) = true := by
        rw [decide_eq_false]
        · rfl
        · intro z
          have z' : x = ("" : Str) := V.str.inj z
          rw [z'] at e
          cases e
      have sz : x.cps.size = (c :: r).length := by rw [← e, Array.length_toList]
      have hl' : x.cps.size ≤ 1000 := hl
      refine ⟨_, rfl, ?_⟩
      rw [ne]
      refine iteT ?_
      refine ⟨_, rfl, x, 0, c, rfl, rfl, Nat.le_trans hl (by decide), by rw [e]; exact atI_nat (j := 0) rfl, c, lettersS, rfl, rfl, _, rfl, ?_⟩
      rw [hc]
      refine iteT ?_
      refine ⟨_, rfl, x, rfl, fun D nD => lc_it (walk_str (z := x)) (fun i H' => Same H H' ∧ H' D = some (.lst ((List.replicate i true).map V.bl))) ?_ ?_ ?_ ?_⟩
      · exact ⟨Ln.same_upd nD, upd_same⟩
      · intro i H' _ _
        trivial
      · rintro i v H1 H' hi ⟨sm, hDD⟩ ⟨rfl, d, hd, rfl⟩
        have md : d ∈ (c :: r) := by
          rw [← e]
          have := Array.mem_of_getElem? hd
          exact Array.mem_toList_iff.mpr this
        refine ⟨rfl, ?_⟩
        refine ⟨_, rfl, d, rfl, List.all_eq_true.mp hall d md, _, hDD, ?_, same_at sm nD, ?_⟩
        · rw [List.length_map, List.length_replicate]
          exact small1 (by omega)
        · rw [upd_same, ← trues]
      · rintro H' ⟨sm, hDD⟩
        refine ⟨_, _, rfl, SqL.of hDD, ?_⟩
        rw [all_rep]
        exact q H' sm
/-! ## the names of a part -/
/-- a row that begins with its name -/
def headOf : PyData → Option Str
  | .str x => some x
  | .tuple (.str x :: _) => some x
  | _ => none
def spRowNames (K : PySem.W.Frag) : Sp := hid fun vs H Q _ => ∃ (a : Addr) (xs : List V) (i : Nat) (ra : Addr) (ds : List PyData) (ns : List Str), vs = [.ref a, .int (i : Int)] ∧ SqT K H a xs ∧ xs[i]? = some (.ref ra) ∧ Dp K H (.ref ra) (.tuple ds) ∧ noLs ds = true ∧ ds.length ≤ 25 ∧ ns.length = ds.length ∧
  ((i = 2 ∧ ds = ns.map .str) ∨ (i ≠ 2 ∧ ∀ (j : Nat) (x : Str), ns[j]? = some x → ∃ r, ds[j]? = some (PyData.tuple (PyData.str x :: r)))) ∧ ∀ l H', Same H H' → H l = none → H' l = some (.lst (ns.map V.str)) → Q (.ref l) H'
theorem ok_rownames {f : Addr} {fd : FuncData} (F : Fun K "row_names" "row_names" s_row_names f fd) (T : ChkTxt mg) : FnG P w K mg base CX0 1 f fd ["net", "part"] (spRowNames K) := by
  refine okG F sc_row_names (fun vs H Q E h => ?_) (fun cdv A outer s H vs Q E hG hr h => ?_)
  · obtain ⟨a, xs, i, ra, ds, ns, rfl, _⟩ := h
    rfl
  · obtain ⟨a, xs, i, ra, ds, ns, rfl, hX, hxi, hR, hn, hl, hln, hc, q⟩ := h
    refine ⟨_, (pss_cons (ps_if (pt_cmpR op_eq (pv 1) (pe_gl (by rfl) T.g_CLASSES) (nomark _))
    (pss_one (ps_ret (pe_callTy (r := Ln.rListOf K) (T := "list") c_list (by rfl) T.z_list (by decide +kernel) (pa_cons (pe_ix (r := rIxT K) ix_tup (pv 0) (pv 1) (fun _ _ => rfl)) pa_nil))))
    pss_nil)
    (pss_one (ps_ret (pe_lc (own := [("row", 2)]) rfl sc_row_names.nd (pi_tup (pe_ix (r := rIxT K) ix_tup (pv 0) (pv 1) (fun _ _ => rfl))) (blkOk_by (own := [("row", 2)]) (N := N_row_names) (sc := defScope s_row_names) (by decide +kernel)) (fun _ _ _ _ _ => (pg_name (i := 2) sc_row_names.nd rfl (.inl rfl))) (fun _ _ _ _ _ => pts_nil) (fun _ _ _ _ _ => (pe_ix (r := rIxT K) ix_tup (pv 2) pe_int (fun _ _ => rfl))))))), ?_⟩
    rcases hc with ⟨rfl, rfl⟩ | ⟨hi, hd⟩
    · refine ⟨_, rfl, rfl, _, rfl, ?_⟩
      rw [decide_eq_true (show V.int ((2 : Nat) : Int) = V.int 2 by decide)]
      refine iteT ?_
      refine ⟨_, rfl, _, rfl, a, xs, _, _, rfl, rfl, hX, atI_nat (j := 2) hxi, ra, _, rfl, .inr (strs_at hR), fun l nl => q l _ (Ln.same_upd nl) nl upd_same⟩
    · refine ⟨_, rfl, rfl, _, rfl, ?_⟩
      rw [decide_eq_false (show ¬ V.int (i : Int) = V.int 2 from fun z => hi (by injection z; omega))]
      refine iteF ?_
      obtain ⟨ys, hY, hD⟩ := tup_at hR
      have ly : ys.length = ds.length := DpAll.len hD
      refine ⟨_, rfl, _, rfl, a, xs, _, _, rfl, rfl, hX, atI_nat hxi, ra, rfl, ⟨_, hY⟩, fun D nD => lc_tup (K := K) (a := ra) (xs := ys) (fun k H' => Same H H' ∧ H' D = some (.lst ((ns.take k).map V.str))) ?_ ?_ ?_ ?_⟩
      · exact ⟨Ln.same_upd nD, upd_same⟩
      · rintro k H' _ ⟨sm, _⟩
        exact Same.tup sm hY
      · rintro k v H' hv ⟨sm, hDD⟩
        obtain ⟨d, hdk, hdv⟩ := DpAll.get hD hv
        have hk := (List.getElem?_eq_some_iff.mp hv).1
        have hnk : ns[k]? = some (ns[k]'(by omega)) := List.getElem?_eq_getElem _
        obtain ⟨r, hr'⟩ := hd k _ hnk
        rw [hdk] at hr'
        cases hr'
        obtain ⟨t, rfl⟩ := ref_of hdv
        obtain ⟨zs, hZ, hZd⟩ := tup_at hdv
        cases hZd with
        | cons z1 z2 =>
          cases z1
          refine ⟨rfl, ?_⟩
          refine ⟨_, rfl, t, _, 0, _, rfl, rfl, Same.tup sm hZ, atI_nat (j := 0) rfl, _, hDD, ?_, same_at sm nD, ?_⟩
          · rw [List.length_map, List.length_take]
            exact small1 (by omega)
          · rw [upd_same, takeS hnk, List.map_append]
            rfl
      · rintro H' ⟨sm, hDD⟩
        rw [ly, ← hln, List.take_length] at hDD
        exact q D H' sm nD hDD
end
end Mine
set_option Elab.async false
set_option linter.all false
set_option maxRecDepth 100000
set_option maxHeartbeats 8000000
namespace Mine
open PySem PySem.Spec PyProof.Rows L2 Ln RZ
section
variable {P : Program} {w : World} {K : PySem.W.Frag} {mg : Str → Option Value} {base : Heap} {FA : Addr}
/-- a row of a part is right -/
def spFault (K : PySem.W.Frag) (len : Net → Nat) : Sp := fun vs H Q _ => ∃ (a : Addr) (N : Net) (j : Nat), vs = [.ref a, .int (j : Int)] ∧ Dp K H (.ref a) (netD N) ∧ Right N ∧ j < len N ∧ ∀ H', Same H H' → Q (.str "") H'
/-- the j-th row -/
theorem row_at {α : Type} {H : Hp} {s : Addr} {l : List α} {g : α → PyData} (h : Dp K H (.ref s) (.tuple (l.map g))) {j : Nat} (hj : j < l.length) : ∃ xs v, SqT K H s xs ∧ xs.length = l.length ∧ xs[j]? = some v ∧ Dp K H v (g l[j]) := by
  obtain ⟨xs, h1, h2⟩ := tup_at h
  have hl : xs.length = l.length := by rw [DpAll.len h2, List.length_map]
  have hx : xs[j]? = some (xs[j]'(by omega)) := List.getElem?_eq_getElem _
  obtain ⟨d, hd, q⟩ := DpAll.get h2 hx
  rw [List.getElem?_map, List.getElem?_eq_getElem hj] at hd
  cases hd
  exact ⟨xs, _, h1, hl, hx, q⟩
theorem ok_stfault {f : Addr} {fd : FuncData} (F : Fun K "station_fault" "station_fault" s_station_fault f fd) (T : ChkTxt mg) : FnG P w K mg base CX0 1 f fd ["net", "place"] (spFault K fun N => N.st.length) := by
  refine okG F sc_station_fault (fun vs H Q E h => ?_) (fun cdv A outer s H vs Q E hG hr h => ?_)
  · obtain ⟨a, N, j, rfl, _⟩ := h
    rfl
  · obtain ⟨a, N, j, rfl, hN, R, hj, q⟩ := h
    refine ⟨_, (pss_cons (ps_asg (pe_ix (r := rIxT K) ix_tup (pe_ix (r := rIxT K) ix_tup (pv 0) (pe_gl (by rfl) T.g_STATIONS) (fun _ _ => rfl)) (pv 1) (fun _ _ => rfl)) (pg_tup (by rfl) (pgs_cons (pg_name (i := 2) sc_station_fault.nd rfl (.inl rfl)) (pgs_cons (pg_name (i := 3) sc_station_fault.nd rfl (.inl rfl)) (pgs_cons (pg_name (i := 4) sc_station_fault.nd rfl (.inl rfl)) pgs_nil)))))
    (pss_cons (ps_if (PW.pt (pw_and (pt_chain op_le op_le (pe_un un_neg pe_int) (pv 3) pe_int) (pw_and1 (pt_chain op_le op_le pe_int (pv 4) pe_int))))
    (pss_one (ps_ret pe_str))
    pss_nil)
    (pss_one (ps_ret pe_str)))), ?_⟩
    obtain ⟨s, t, c, f, l, r, h0, h1, h2, h3, h4, h5, h6⟩ := net_at hN
    obtain ⟨ss, v, hS, _, hv, hd⟩ := row_at h1 hj
    obtain ⟨b1, b2, b3, b4⟩ := R.st.rg N.st[j] (List.getElem_mem hj)
    obtain ⟨tt, rfl, ht⟩ := tr_at hd
    refine ⟨_, rfl, a, _, _, _, rfl, rfl, h0, atI_nat (j := 0) rfl, _, rfl, s, ss, _, _, rfl, rfl, hS, atI_nat hv, ?_⟩
    refine ⟨tt, _, rfl, ht, rfl, _, _, rfl, _, _, rfl, _, _, rfl, rfl, ?_⟩
    refine ⟨720, rfl, _, rfl, _, _, rfl, rfl, _, rfl, ?_⟩
    rw [decide_eq_true b1]
    refine iteT ⟨_, _, rfl, rfl, _, rfl, ?_⟩
    rw [decide_eq_true b2]
    refine iteT ⟨_, rfl, _, _, rfl, rfl, _, rfl, ?_⟩
    rw [decide_eq_true b3]
    refine iteT ⟨_, _, rfl, rfl, _, rfl, ?_⟩
    rw [decide_eq_true (show N.st[j].2.2 ≤ 600 by omega)]
    exact iteT (q H fun _ _ e => e)
theorem ok_tyfault {f : Addr} {fd : FuncData} (F : Fun K "type_fault" "type_fault" s_type_fault f fd) (T : ChkTxt mg) : FnG P w K mg base CX0 1 f fd ["net", "place"] (spFault K fun N => N.ty.length) := by
  refine okG F sc_type_fault (fun vs H Q E h => ?_) (fun cdv A outer s H vs Q E hG hr h => ?_)
  · obtain ⟨a, N, j, rfl, _⟩ := h
    rfl
  · obtain ⟨a, N, j, rfl, hN, R, hj, q⟩ := h
    refine ⟨_, (pss_cons (ps_asg (pe_ix (r := rIxT K) ix_tup (pe_ix (r := rIxT K) ix_tup (pv 0) (pe_gl (by rfl) T.g_TYPES) (fun _ _ => rfl)) (pv 1) (fun _ _ => rfl)) (pg_tup (by rfl) (pgs_cons (pg_name (i := 2) sc_type_fault.nd rfl (.inl rfl)) (pgs_cons (pg_name (i := 3) sc_type_fault.nd rfl (.inl rfl)) (pgs_cons (pg_name (i := 4) sc_type_fault.nd rfl (.inl rfl)) pgs_nil)))))
    (pss_cons (ps_if (PW.pt (pw_and (pt_chain op_le op_le pe_int (pv 3) pe_int) (pw_and1 (pt_chain op_le op_le pe_int (pv 4) pe_int))))
    (pss_one (ps_ret pe_str))
    pss_nil)
    (pss_one (ps_ret pe_str)))), ?_⟩
    obtain ⟨s, t, c, f, l, r, h0, h1, h2, h3, h4, h5, h6⟩ := net_at hN
    obtain ⟨ss, v, hS, _, hv, hd⟩ := row_at h2 hj
    obtain ⟨b1, b2, b3, b4⟩ := R.ty.rg N.ty[j] (List.getElem_mem hj)
    obtain ⟨tt, rfl, ht⟩ := tr_at hd
    refine ⟨_, rfl, a, _, _, _, rfl, rfl, h0, atI_nat (j := 1) rfl, _, rfl, t, ss, _, _, rfl, rfl, hS, atI_nat hv, ?_⟩
    refine ⟨tt, _, rfl, ht, rfl, _, _, rfl, _, _, rfl, _, _, rfl, rfl, ?_⟩
    refine ⟨_, rfl, _, _, rfl, rfl, _, rfl, ?_⟩
    rw [decide_eq_true b1]
    refine iteT ⟨_, _, rfl, rfl, _, rfl, ?_⟩
    rw [decide_eq_true b2]
    refine iteT ⟨_, rfl, _, _, rfl, rfl, _, rfl, ?_⟩
    rw [decide_eq_true b3]
    refine iteT ⟨_, _, rfl, rfl, _, rfl, ?_⟩
    rw [decide_eq_true (show N.ty[j].2.2 ≤ 600 by omega)]
    exact iteT (q H fun _ _ e => e)
theorem ok_clfault {f : Addr} {fd : FuncData} (F : Fun K "class_fault" "class_fault" s_class_fault f fd) (T : ChkTxt mg) : FnG P w K mg base CX0 1 f fd ["net", "place"] (spFault K fun N => N.cl.length) := by
  refine okG F sc_class_fault (fun vs H Q E h => ?_) (fun cdv A outer s H vs Q E hG hr h => ?_)
  · obtain ⟨a, N, j, rfl, _⟩ := h
    rfl
  · obtain ⟨a, N, j, rfl, hN, R, hj, q⟩ := h
    exact ⟨_, (pss_one (ps_ret pe_str)), q H fun _ _ e => e⟩
/-! ## ends -/
theorem inV_strs {ns : List Str} {x : Str} : inV (.str x) (ns.map V.str) = decide (x ∈ ns) := by
  unfold inV
  rw [List.any_map]
  apply Bool.eq_iff_iff.mpr
  rw [List.any_eq_true, decide_eq_true_eq]
  constructor
  · rintro ⟨y, hy, e⟩
    have z : y = x := by simpa [eqV] using e
    rw [← z]
    exact hy
  · intro h
    exact ⟨x, h, by simp [eqV]⟩
theorem flat_strs (ns : List Str) : (ns.map V.str).all flatV = true := by
  rw [List.all_map, List.all_eq_true]
  intro x _
  rfl
theorem stNames {H : Hp} {a s t c f l r : Addr} {N : Net} (h0 : SqT K H a [.ref s, .ref t, .ref c, .ref f, .ref l, .ref r]) (h1 : Dp K H (.ref s) (.tuple (N.st.map trD))) (R : Right N) {Q : VK}
    (q : ∀ l H', Same H H' → H l = none → H' l = some (.lst ((N.st.map (·.1)).map V.str)) → Q (.ref l) H') : spRowNames K [.ref a, .int 0] H Q E0 := by
  refine ⟨a, _, 0, s, _, N.st.map (·.1), rfl, h0, rfl, h1, noLs_map noL_tr _, by rw [List.length_map]; have := R.st.l1; omega, by rw [List.length_map, List.length_map], .inr ⟨by decide, fun j x hx => ?_⟩, q⟩
  rw [List.getElem?_map] at hx ⊢
  obtain ⟨z, hz, e⟩ := Option.map_eq_some_iff.mp hx
  rw [hz, ← e]
  exact ⟨_, rfl⟩
def spEnds (K : PySem.W.Frag) : Sp := fun vs H Q _ => ∃ (a : Addr) (N : Net) (x y : Str), vs = [.ref a, .str x, .str y] ∧ Dp K H (.ref a) (netD N) ∧ Right N ∧ x ∈ N.st.map (·.1) ∧ y ∈ N.st.map (·.1) ∧ x ≠ y ∧ ∀ H', Same H H' → Q (.str "") H'
theorem ok_ends {f : Addr} {fd : FuncData} (F : Fun K "ends_fault" "ends_fault" s_ends_fault f fd) (T : ChkTxt mg) (c_row_names : Cg P w K mg base CX0 1 "row_names" (spRowNames K)) : FnG P w K mg base CX0 2 f fd ["net", "start", "end"] (spEnds K) := by
  refine okG F sc_ends_fault (fun vs H Q E h => ?_) (fun cdv A outer s H vs Q E hG hr h => ?_)
  · obtain ⟨a, N, x, y, rfl, _⟩ := h
    rfl
  · obtain ⟨a, N, x, y, rfl, hN, R, hx, hy, ne, q⟩ := h
    refine ⟨_, (pss_cons (ps_set (i := 3) sc_ends_fault.nd rfl (.inl rfl) (pe_cg c_row_names hr (by decide) hG (by rfl) (pa_cons (pv 0) (pa_cons (pe_gl (by rfl) T.g_STATIONS) pa_nil))))
    (pss_cons (ps_if (PW.pt (pw_or (pt_cmpR (r := rIn K true) op_notIn_seq (pv 1) (pv 3) (by rfl)) (pw_or1 (pt_cmpR (r := rIn K true) op_notIn_seq (pv 2) (pv 3) (by rfl)))))
    (pss_one (ps_ret pe_str))
    pss_nil)
    (pss_cons (ps_if (pt_cmpR op_eq (pv 1) (pv 2) (nomark _))
    (pss_one (ps_ret pe_str))
    pss_nil)
    (pss_one (ps_ret pe_str))))), ?_⟩
    obtain ⟨s, t, c, f, l, r, h0, h1, h2, h3, h4, h5, h6⟩ := net_at hN
    refine ⟨_, rfl, stNames h0 h1 R fun l H1 sm nl hl => ?_⟩
    refine ⟨_, rfl, _, rfl, l, _, rfl, .inl (SqL.of hl), rfl, flat_strs _, _, rfl, ?_⟩
    rw [inV_strs, decide_eq_true hx]
    refine iteF ⟨_, rfl, _, rfl, l, _, rfl, .inl (SqL.of hl), rfl, flat_strs _, _, rfl, ?_⟩
    rw [inV_strs, decide_eq_true hy]
    refine iteF ⟨_, rfl, _, rfl, rfl, _, rfl, ?_⟩
    rw [decide_eq_false (fun z => ne (V.str.inj z))]
    exact iteF (q H1 sm)
end
end Mine
set_option Elab.async false
set_option linter.all false
set_option maxRecDepth 100000
set_option maxHeartbeats 8000000
namespace Mine
open PySem PySem.Spec PyProof.Rows L2 Ln RZ
section
variable {P : Program} {w : World} {K : PySem.W.Frag} {mg : Str → Option Value} {base : Heap} {FA : Addr}
theorem walk_zipM {a b : Addr} {xs ys : List V} {n : Nat} (h : n = min xs.length ys.length) : Walk (ItzT K a b) n (fun H => SqT K H a xs ∧ SqT K H b ys) (YPair (fun i => xs[i]?) (fun i => ys[i]?)) where
  goes := fun i H hi q => ⟨xs, ys, xs[i]'(by omega), ys[i]'(by omega), q.1, q.2, List.getElem?_eq_getElem _, List.getElem?_eq_getElem _⟩
  stops := fun H q => ⟨xs, ys, q.1, q.2, by omega⟩
  yields := by
    rintro i H v H' _ q ⟨T, x, y, h1, h2, h3, h4, h5⟩
    exact ⟨T, x, y, h1, h2, h3, h4 xs q.1, h5 ys q.2⟩
theorem cut1 (xs : List V) : cutV xs (some 1) none = xs.drop 1 := by
  have e1 : HT.sIx xs.length 0 (some 1) = min 1 xs.length := HT.sIx_nat xs.length 0 1
  have e2 : HT.sIx xs.length xs.length none = xs.length := rfl
  unfold cutV
  rw [e1, e2]
  cases xs with
  | nil => rfl
  | cons x r =>
    have e3 : min 1 (x :: r).length = 1 := by rw [List.length_cons]; omega
    rw [e3, List.take_of_length_le]
    rw [List.length_drop]
    exact Nat.le_refl _
def spAreLimits (K : PySem.W.Frag) : Sp := fun vs H Q _ => ∃ (ta : Addr) (ls : List Int) (n : Nat), vs = [.ref ta, .int (n : Int)] ∧ SqT K H ta (ls.map V.int) ∧ LimsOk n ls ∧ n ≤ 100 ∧ ∀ H', Same H H' → Q (.bl true) H'
theorem ok_arelimits {f : Addr} {fd : FuncData} (F : Fun K "are_limits" "are_limits" s_are_limits f fd) (T : ChkTxt mg) : FnG P w K mg base CX0 1 f fd ["limits", "many"] (spAreLimits K) := by
  refine okG F sc_are_limits (fun vs H Q E h => ?_) (fun cdv A outer s H vs Q E hG hr h => ?_)
  · obtain ⟨ta, ls, n, rfl, _⟩ := h
    rfl
  · obtain ⟨ta, ls, n, rfl, hT, hL, hn, q⟩ := h
    refine ⟨_, (pss_cons (ps_if (PW.pt (pw_or (pt_cmpR op_ne (pe_callB (r := Ln.rLen K) (id := "len") c_len (by rfl) T.z_len (by decide +kernel) (pa_cons (pv 0) pa_nil)) (pv 1) (nomark _)) (pw_or1 (pt_not (pt_val (pe_callB (r := rAll K) (id := "all") (cr_all rfl) (by rfl) T.z_all (by decide +kernel) (pa_cons (pe_lc (own := [("limit", 2)]) rfl sc_are_limits.nd (pi_tup (pv 0)) (blkOk_by (own := [("limit", 2)]) (N := N_are_limits) (sc := defScope s_are_limits) (by decide +kernel)) (fun _ _ _ _ _ => (pg_name (i := 2) sc_are_limits.nd rfl (.inl rfl))) (fun _ _ _ _ _ => pts_nil) (fun _ _ _ _ _ => (pe_chain op_le op_le pe_int (pv 2) pe_int))) pa_nil)))))))
    (pss_one (ps_ret pe_bl))
    pss_nil)
    (pss_one (ps_ret (pe_callB (r := rAll K) (id := "all") (cr_all rfl) (by rfl) T.z_all (by decide +kernel) (pa_cons (pe_lc (own := [("limit", 2), ("lower", 3)]) (g := (gTup K 2 (gCons (gName 2) (gCons (gName 3) gNil)))) rfl sc_are_limits.nd (pi_zipA (by rfl) T.z_zip (pa_cons (pv 0) (pa_cons (pe_slice (r := Ln.rSlS K) sl_tupS (pv 0) (po_some pe_int) po_none) pa_nil))) (blkOk_by (own := [("limit", 2), ("lower", 3)]) (N := N_are_limits) (sc := defScope s_are_limits) (by decide +kernel)) (fun _ _ _ _ _ => (pg_tup (by rfl) (pgs_cons (pg_name (i := 2) sc_are_limits.nd rfl (.inl rfl)) (pgs_cons (pg_name (i := 3) sc_are_limits.nd rfl (.inl rfl)) pgs_nil)))) (fun _ _ _ _ _ => pts_nil) (fun _ _ _ _ _ => (pe_cmpR op_ge (pv 2) (pv 3) (nomark _)))) pa_nil))))), ?_⟩
    refine ⟨.ref ta, rfl, .ref ta, ls.length, rfl, .inr ⟨_, hT, by rw [List.length_map]⟩, _, rfl, rfl, _, rfl, ?_⟩
    rw [decide_eq_true (show V.int ((ls.length : Nat) : Int) = V.int (n : Int) by rw [hL.len])]
    refine iteF ?_
    refine ⟨_, rfl, ta, rfl, ⟨_, hT⟩, fun D nD => lc_tup (K := K) (a := ta) (xs := ls.map V.int) (fun i H' => Same H H' ∧ H' D = some (.lst ((List.replicate i true).map V.bl))) ?_ ?_ ?_ ?_⟩
    · exact ⟨Ln.same_upd nD, upd_same⟩
    · rintro i H' _ ⟨sm, _⟩
      exact Same.tup sm hT
    · rintro i v H' hv ⟨sm, hDD⟩
      obtain ⟨z, hz, rfl⟩ := getI hv
      obtain ⟨z0, z9⟩ := hL.rg z (List.mem_of_getElem? hz)
      have hi := (List.getElem?_eq_some_iff.mp hz).1
      refine ⟨rfl, ?_⟩
      refine ⟨_, rfl, _, _, rfl, rfl, _, rfl, ?_⟩
      rw [decide_eq_true z0]
      refine iteT ⟨_, _, rfl, rfl, _, hDD, ?_, same_at sm nD, ?_⟩
      · rw [List.length_map, List.length_replicate]
        have := hL.len
        exact small1 (by omega)
      · rw [upd_same]
        show some (HO.lst ((List.replicate i true).map V.bl ++ [V.bl (decide (z ≤ 999))])) = _
        rw [decide_eq_true z9, trues]
    · rintro H1 ⟨sm1, hDD⟩
      refine ⟨_, _, rfl, SqL.of hDD, _, rfl, ?_⟩
      rw [all_rep]
      refine iteF ?_
      have hT1 := Same.tup sm1 hT
      refine ⟨_, rfl, _, rfl, 1, rfl, ta, _, rfl, hT1, fun t2 H2 sm2 hT2 => ?_⟩
      rw [cut1, ← List.map_drop] at hT2
      have hT1' := Same.tup sm2 hT1
      have ld : (ls.drop 1).length = ls.length - 1 := List.length_drop
      refine ⟨ta, t2, _, _, rfl, .inr ⟨hT1', hT2, fun D2 nD2 => lc_it (walk_zipM (K := K) (a := ta) (b := t2) (xs := ls.map V.int) (ys := (ls.drop 1).map V.int) (n := ls.length - 1) (by rw [List.length_map, List.length_map, ld]; omega))
        (fun i H' => Same H2 H' ∧ H' D2 = some (.lst ((List.replicate i true).map V.bl))) ?_ ?_ ?_ ?_⟩⟩
      · exact ⟨Ln.same_upd nD2, upd_same⟩
      · rintro i H' _ ⟨sm, _⟩
        exact ⟨Same.tup sm hT1', Same.tup sm hT2⟩
      · rintro i v H3 H' hi ⟨sm, hDD2⟩ ⟨T', x, y, rfl, nT, rfl, hx, hy⟩
        obtain ⟨z1, hz1, rfl⟩ := getI (show (ls.map V.int)[i]? = some x from hx)
        obtain ⟨z2, hz2, rfl⟩ := getI (show ((ls.drop 1).map V.int)[i]? = some y from hy)
        rw [List.getElem?_drop] at hz2
        have hge : z1 ≥ z2 := by
          obtain ⟨p1, q1⟩ := List.getElem?_eq_some_iff.mp hz1
          obtain ⟨p2, q2⟩ := List.getElem?_eq_some_iff.mp hz2
          rw [← q1, ← q2]
          exact List.pairwise_iff_getElem.mp hL.ds i (1 + i) p1 p2 (by omega)
        have sT := Ln.same_upd (o := .tup [.int z1, .int z2]) nT
        refine ⟨T', _, rfl, SqT.of upd_same, rfl, _, _, rfl, _, _, rfl, rfl, rfl, ?_⟩
        refine ⟨_, rfl, _, rfl, _, _, rfl, rfl, _, sT _ _ hDD2, ?_, same_at (sm.trans sT) nD2, ?_⟩
        · rw [List.length_map, List.length_replicate]
          have := hL.len
          exact small1 (by omega)
        · rw [upd_same]
          show some (HO.lst ((List.replicate i true).map V.bl ++ [V.bl (decide (z1 ≥ z2))])) = _
          rw [decide_eq_true hge, trues]
      · rintro H3 ⟨sm, hDD2⟩
        refine ⟨_, _, rfl, SqL.of hDD2, ?_⟩
        rw [all_rep]
        exact q H3 ((sm1.trans sm2).trans sm)
end
end Mine
set_option Elab.async false
set_option linter.all false
set_option maxRecDepth 100000
set_option maxHeartbeats 8000000
namespace Mine
open PySem PySem.Spec PyProof.Rows L2 Ln RZ
section
variable {P : Program} {w : World} {K : PySem.W.Frag} {mg : Str → Option Value} {base : Heap} {FA : Addr}
theorem Right.kindOf {N : Net} (h : Right N) {f : Flt} (m : f ∈ N.fl) : f.kind ∈ N.ty.map (·.1) := by
  obtain ⟨R, _, _, hR, _, hp⟩ := h.rows
  obtain ⟨r, hr, hf⟩ := List.mem_flatMap.mp (hp.mem_iff.mp m)
  obtain ⟨k, hk, e⟩ := List.mem_iff_getElem.mp hr
  have ok := hR k r (by rw [List.getElem?_eq_getElem hk, e])
  rw [(ok.ok f hf).2]
  exact List.mem_map_of_mem ok.ty
theorem fl_at {H : Hp} {v : V} {f : Flt} (h : Dp K H v (flD f)) : ∃ t lt : Addr, v = .ref t ∧ SqT K H t [.str f.name, .str f.start, .str f.fin, .int f.dep, .int f.arr, .str f.kind, .int f.dist, .ref lt] ∧ SqT K H lt (f.lims.map V.int) := by
  unfold flD at h
  cases h with
  | @tup t xs ds h1 h2 =>
    cases h2 with
    | cons a1 h2 => cases h2 with
      | cons a2 h2 => cases h2 with
        | cons a3 h2 => cases h2 with
          | cons a4 h2 => cases h2 with
            | cons a5 h2 => cases h2 with
              | cons a6 h2 => cases h2 with
                | cons a7 h2 => cases h2 with
                  | cons a8 h2 =>
                    cases h2
                    cases a1
                    cases a2
                    cases a3
                    cases a4
                    cases a5
                    cases a6
                    cases a7
                    obtain ⟨lt, rfl⟩ := ref_of a8
                    exact ⟨t, lt, rfl, h1, ints_at a8⟩
theorem fa_at {H : Hp} {v : V} {f : Far} (h : Dp K H v (faD f)) : ∃ t : Addr, v = .ref t ∧ SqT K H t [.str f.name, .str f.start, .str f.fin, .str f.cab, .int f.price, .int f.stops, .int f.fee, .int f.back] := by
  unfold faD at h
  cases h with
  | @tup t xs ds h1 h2 =>
    cases h2 with
    | cons a1 h2 => cases h2 with
      | cons a2 h2 => cases h2 with
        | cons a3 h2 => cases h2 with
          | cons a4 h2 => cases h2 with
            | cons a5 h2 => cases h2 with
              | cons a6 h2 => cases h2 with
                | cons a7 h2 => cases h2 with
                  | cons a8 h2 =>
                    cases h2
                    cases a1
                    cases a2
                    cases a3
                    cases a4
                    cases a5
                    cases a6
                    cases a7
                    cases a8
                    exact ⟨t, rfl, h1⟩
theorem tl_at {H : Hp} {v : V} {x : Str × Str × List Str} (h : Dp K H v (tlD x)) : ∃ t rt : Addr, v = .ref t ∧ SqT K H t [.str x.1, .str x.2.1, .ref rt] ∧ SqT K H rt (x.2.2.map V.str) := by
  unfold tlD at h
  cases h with
  | @tup t xs ds h1 h2 =>
    cases h2 with
    | cons a1 h2 => cases h2 with
      | cons a2 h2 => cases h2 with
        | cons a3 h2 =>
          cases h2
          cases a1
          cases a2
          obtain ⟨rt, rfl⟩ := ref_of a3
          exact ⟨t, rt, rfl, h1, strs_at a3⟩
theorem tyNames {H : Hp} {a s t c f l r : Addr} {N : Net} (h0 : SqT K H a [.ref s, .ref t, .ref c, .ref f, .ref l, .ref r]) (h1 : Dp K H (.ref t) (.tuple (N.ty.map trD))) (R : Right N) {Q : VK}
    (q : ∀ l H', Same H H' → H l = none → H' l = some (.lst ((N.ty.map (·.1)).map V.str)) → Q (.ref l) H') : spRowNames K [.ref a, .int 1] H Q E0 := by
  refine ⟨a, _, 1, t, _, N.ty.map (·.1), rfl, h0, rfl, h1, noLs_map noL_tr _, by rw [List.length_map]; have := R.ty.l1; omega, by rw [List.length_map, List.length_map], .inr ⟨by decide, fun j x hx => ?_⟩, q⟩
  rw [List.getElem?_map] at hx ⊢
  obtain ⟨z, hz, e⟩ := Option.map_eq_some_iff.mp hx
  rw [hz, ← e]
  exact ⟨_, rfl⟩
theorem ok_flfault {f : Addr} {fd : FuncData} (F : Fun K "flight_fault" "flight_fault" s_flight_fault f fd) (T : ChkTxt mg) (c_row_names : Cg P w K mg base CX0 1 "row_names" (spRowNames K)) (c_ends_fault : Cg P w K mg base CX0 2 "ends_fault" (spEnds K))
    (c_are_limits : Cg P w K mg base CX0 1 "are_limits" (spAreLimits K)) : FnG P w K mg base CX0 3 f fd ["net", "place"] (spFault K fun N => N.fl.length) := by
  refine okG F sc_flight_fault (fun vs H Q E h => ?_) (fun cdv A outer s H vs Q E hG hr h => ?_)
  · obtain ⟨a, N, j, rfl, _⟩ := h
    rfl
  · obtain ⟨a, N, j, rfl, hN, R, hj, q⟩ := h
    refine ⟨_, (pss_cons (ps_asg (pe_ix (r := rIxT K) ix_tup (pe_ix (r := rIxT K) ix_tup (pv 0) (pe_gl (by rfl) T.g_FLIGHTS) (fun _ _ => rfl)) (pv 1) (fun _ _ => rfl)) (pg_tup (by rfl) (pgs_cons (pg_name (i := 2) sc_flight_fault.nd rfl (.inl rfl)) (pgs_cons (pg_name (i := 3) sc_flight_fault.nd rfl (.inl rfl)) (pgs_cons (pg_name (i := 4) sc_flight_fault.nd rfl (.inl rfl)) (pgs_cons (pg_name (i := 5) sc_flight_fault.nd rfl (.inl rfl)) (pgs_cons (pg_name (i := 6) sc_flight_fault.nd rfl (.inl rfl)) (pgs_cons (pg_name (i := 7) sc_flight_fault.nd rfl (.inl rfl)) (pgs_cons (pg_name (i := 8) sc_flight_fault.nd rfl (.inl rfl)) (pgs_cons (pg_name (i := 9) sc_flight_fault.nd rfl (.inl rfl)) pgs_nil))))))))))
    (pss_cons (ps_set (i := 10) sc_flight_fault.nd rfl (.inl rfl) (pe_cg c_ends_fault hr (by decide) hG (by rfl) (pa_cons (pv 0) (pa_cons (pv 3) (pa_cons (pv 4) pa_nil)))))
    (pss_cons (ps_if (pt_cmpR op_ne (pv 10) pe_str (nomark _))
    (pss_one (ps_ret (pv 10)))
    pss_nil)
    (pss_cons (ps_if (pt_not (pt_chain3 op_le op_lt op_le pe_int (pv 5) (pv 6) (pe_gl (by rfl) T.g_MAX_TIME)))
    (pss_one (ps_ret pe_str))
    pss_nil)
    (pss_cons (ps_if (pt_cmpR (r := rIn K true) op_notIn_seq (pv 7) (pe_cg c_row_names hr (by decide) hG (by rfl) (pa_cons (pv 0) (pa_cons (pe_gl (by rfl) T.g_TYPES) pa_nil))) (by rfl))
    (pss_one (ps_ret pe_str))
    pss_nil)
    (pss_cons (ps_if (pt_not (pt_chain op_le op_le pe_int (pv 8) pe_int))
    (pss_one (ps_ret pe_str))
    pss_nil)
    (pss_cons (ps_if (pt_not (pt_val (pe_cg c_are_limits hr (by decide) hG (by rfl) (pa_cons (pv 9) (pa_cons (pe_callB (r := Ln.rLen K) (id := "len") c_len (by rfl) T.z_len (by decide +kernel) (pa_cons (pe_ix (r := rIxT K) ix_tup (pv 0) (pe_gl (by rfl) T.g_CLASSES) (fun _ _ => rfl)) pa_nil)) pa_nil)))))
    (pss_one (ps_ret pe_str))
    pss_nil)
    (pss_one (ps_ret pe_str))))))))), ?_⟩
    obtain ⟨s, t, c, f, l, r, h0, h1, h2, h3, h4, h5, h6⟩ := net_at hN
    obtain ⟨ss, v, hS, _, hv, hd⟩ := row_at h4 hj
    have mf : N.fl[j] ∈ N.fl := List.getElem_mem hj
    have ok := R.flt mf
    have hk := R.kindOf mf
    obtain ⟨fl, efl⟩ : ∃ fl, fl = N.fl[j] := ⟨_, rfl⟩
    rw [← efl] at ok hk hd
    obtain ⟨tt, lt, rfl, ht, hlt⟩ := fl_at hd
    refine ⟨_, rfl, a, _, _, _, rfl, rfl, h0, atI_nat (j := 3) rfl, _, rfl, f, ss, _, _, rfl, rfl, hS, atI_nat hv, ?_⟩
    refine ⟨tt, _, rfl, ht, rfl, _, _, rfl, _, _, rfl, _, _, rfl, _, _, rfl, _, _, rfl, _, _, rfl, _, _, rfl, _, _, rfl, rfl, ?_⟩
    refine ⟨_, rfl, _, rfl, _, rfl, a, N, fl.start, fl.fin, rfl, hN, R, ok.s, ok.e, ok.ne, fun H1 sm1 => ?_⟩
    refine ⟨_, rfl, rfl, _, rfl, ?_⟩
    rw [decide_eq_true rfl]
    refine iteF ?_
    refine ⟨_, rfl, _, _, rfl, rfl, _, rfl, ?_⟩
    rw [decide_eq_true ok.t0]
    refine iteT ⟨_, rfl, _, _, rfl, rfl, _, rfl, ?_⟩
    rw [decide_eq_true ok.t1]
    refine iteT ⟨_, _, rfl, rfl, _, rfl, ?_⟩
    rw [decide_eq_true (show fl.arr ≤ 20160 by have := ok.t2; omega)]
    refine iteF ?_
    have hN1 := Same.dp sm1 (noL_net N) hN
    have g0 := Same.tup sm1 h0
    refine ⟨_, rfl, _, rfl, tyNames g0 (Same.dp sm1 (by simpa only [noL] using noLs_map noL_tr N.ty) h2) R fun l2 H2 sm2 nl2 hl2 => ?_⟩
    refine ⟨l2, _, rfl, .inl (SqL.of hl2), rfl, flat_strs _, _, rfl, ?_⟩
    rw [inV_strs, decide_eq_true hk]
    refine iteF ?_
    refine ⟨_, rfl, _, _, rfl, rfl, _, rfl, ?_⟩
    rw [decide_eq_true ok.d0]
    refine iteT ⟨_, _, rfl, rfl, _, rfl, ?_⟩
    rw [decide_eq_true (show fl.dist ≤ 20000 by have := ok.d1; omega)]
    refine iteF ?_
    have g2 := Same.tup (sm1.trans sm2) h0
    have g3 := strs_at (Same.dp (sm1.trans sm2) (by simpa only [noL] using noLs_strs N.cl) h3)
    refine ⟨_, rfl, _, rfl, a, _, _, _, rfl, rfl, g2, atI_nat (j := 2) rfl, .ref c, N.cl.length, rfl, .inr ⟨_, g3, by rw [List.length_map]⟩, lt, fl.lims, N.cl.length, rfl, Same.tup (sm1.trans sm2) hlt, ok.lm, by have := R.cl4; omega, fun H3 sm3 => ?_⟩
    exact ⟨_, rfl, iteF (q H3 ((sm1.trans sm2).trans sm3))⟩
theorem ok_fafault {f : Addr} {fd : FuncData} (F : Fun K "fare_fault" "fare_fault" s_fare_fault f fd) (T : ChkTxt mg) (c_ends_fault : Cg P w K mg base CX0 2 "ends_fault" (spEnds K)) : FnG P w K mg base CX0 3 f fd ["net", "place"] (spFault K fun N => N.fa.length) := by
  refine okG F sc_fare_fault (fun vs H Q E h => ?_) (fun cdv A outer s H vs Q E hG hr h => ?_)
  · obtain ⟨a, N, j, rfl, _⟩ := h
    rfl
  · obtain ⟨a, N, j, rfl, hN, R, hj, q⟩ := h
    refine ⟨_, (pss_cons (ps_asg (pe_ix (r := rIxT K) ix_tup (pe_ix (r := rIxT K) ix_tup (pv 0) (pe_gl (by rfl) T.g_FARES) (fun _ _ => rfl)) (pv 1) (fun _ _ => rfl)) (pg_tup (by rfl) (pgs_cons (pg_name (i := 2) sc_fare_fault.nd rfl (.inl rfl)) (pgs_cons (pg_name (i := 3) sc_fare_fault.nd rfl (.inl rfl)) (pgs_cons (pg_name (i := 4) sc_fare_fault.nd rfl (.inl rfl)) (pgs_cons (pg_name (i := 5) sc_fare_fault.nd rfl (.inl rfl)) (pgs_cons (pg_name (i := 6) sc_fare_fault.nd rfl (.inl rfl)) (pgs_cons (pg_name (i := 7) sc_fare_fault.nd rfl (.inl rfl)) (pgs_cons (pg_name (i := 8) sc_fare_fault.nd rfl (.inl rfl)) (pgs_cons (pg_name (i := 9) sc_fare_fault.nd rfl (.inl rfl)) pgs_nil))))))))))
    (pss_cons (ps_set (i := 10) sc_fare_fault.nd rfl (.inl rfl) (pe_cg c_ends_fault hr (by decide) hG (by rfl) (pa_cons (pv 0) (pa_cons (pv 3) (pa_cons (pv 4) pa_nil)))))
    (pss_cons (ps_if (pt_cmpR op_ne (pv 10) pe_str (nomark _))
    (pss_one (ps_ret (pv 10)))
    pss_nil)
    (pss_cons (ps_if (pt_cmpR (r := rIn K true) op_notIn_seq (pv 5) (pe_ix (r := rIxT K) ix_tup (pv 0) (pe_gl (by rfl) T.g_CLASSES) (fun _ _ => rfl)) (by rfl))
    (pss_one (ps_ret pe_str))
    pss_nil)
    (pss_cons (ps_if (PW.pt (pw_or (pt_not (pt_chain op_le op_le pe_int (pv 6) (pe_gl (by rfl) T.g_MAX_COIN))) (pw_or1 (pt_not (pt_chain op_le op_le pe_int (pv 8) (pe_gl (by rfl) T.g_MAX_COIN))))))
    (pss_one (ps_ret pe_str))
    pss_nil)
    (pss_cons (ps_if (PW.pt (pw_or (pt_not (pt_chain op_le op_le pe_int (pv 7) (pe_gl (by rfl) T.g_MAX_STOPS))) (pw_or1 (pt_not (pt_chain op_le op_le pe_int (pv 9) pe_int)))))
    (pss_one (ps_ret pe_str))
    pss_nil)
    (pss_one (ps_ret pe_str)))))))), ?_⟩
    obtain ⟨s, t, c, f, l, r, h0, h1, h2, h3, h4, h5, h6⟩ := net_at hN
    obtain ⟨ss, v, hS, _, hv, hd⟩ := row_at h6 hj
    have ok := R.fa N.fa[j] (List.getElem_mem hj)
    obtain ⟨fl, efl⟩ : ∃ fl, fl = N.fa[j] := ⟨_, rfl⟩
    rw [← efl] at ok hd
    obtain ⟨tt, rfl, ht⟩ := fa_at hd
    refine ⟨_, rfl, a, _, _, _, rfl, rfl, h0, atI_nat (j := 5) rfl, _, rfl, r, ss, _, _, rfl, rfl, hS, atI_nat hv, ?_⟩
    refine ⟨tt, _, rfl, ht, rfl, _, _, rfl, _, _, rfl, _, _, rfl, _, _, rfl, _, _, rfl, _, _, rfl, _, _, rfl, _, _, rfl, rfl, ?_⟩
    refine ⟨_, rfl, _, rfl, _, rfl, a, N, fl.start, fl.fin, rfl, hN, R, ok.s, ok.e, ok.ne, fun H1 sm1 => ?_⟩
    refine ⟨_, rfl, rfl, _, rfl, ?_⟩
    rw [decide_eq_true rfl]
    refine iteF ?_
    have g0 := Same.tup sm1 h0
    have g3 := strs_at (Same.dp sm1 (by simpa only [noL] using noLs_strs N.cl) h3)
    refine ⟨_, rfl, _, rfl, a, _, _, _, rfl, rfl, g0, atI_nat (j := 2) rfl, c, _, rfl, .inr g3, rfl, flat_strs _, _, rfl, ?_⟩
    rw [inV_strs, decide_eq_true ok.c]
    refine iteF ?_
    refine ⟨_, rfl, _, _, rfl, rfl, _, rfl, ?_⟩
    rw [decide_eq_true ok.p0]
    refine iteT ⟨_, _, rfl, rfl, _, rfl, ?_⟩
    rw [decide_eq_true ok.p1]
    refine iteF ⟨_, rfl, _, _, rfl, rfl, _, rfl, ?_⟩
    rw [decide_eq_true ok.f0]
    refine iteT ⟨_, _, rfl, rfl, _, rfl, ?_⟩
    rw [decide_eq_true (show fl.fee ≤ 1000000 by have := ok.f1; omega)]
    refine iteF ?_
    refine ⟨_, rfl, _, _, rfl, rfl, _, rfl, ?_⟩
    rw [decide_eq_true ok.s0]
    refine iteT ⟨_, _, rfl, rfl, _, rfl, ?_⟩
    rw [decide_eq_true ok.s1]
    refine iteF ⟨_, rfl, _, _, rfl, rfl, _, rfl, ?_⟩
    rw [decide_eq_true ok.b0]
    refine iteT ⟨_, _, rfl, rfl, _, rfl, ?_⟩
    rw [decide_eq_true ok.b1]
    exact iteF (q H1 sm1)
end
end Mine
set_option Elab.async false
set_option linter.all false
set_option maxRecDepth 100000
set_option maxHeartbeats 8000000
namespace Mine
open PySem PySem.Spec PyProof.Rows L2 Ln RZ
section
variable {P : Program} {w : World} {K : PySem.W.Frag} {mg : Str → Option Value} {base : Heap} {FA : Addr}
theorem cutN (xs : List V) (k : Nat) : cutV xs none (some (k : Int)) = xs.take k := by
  have e1 : HT.sIx xs.length 0 none = 0 := rfl
  have e2 : HT.sIx xs.length xs.length (some (k : Int)) = min k xs.length := HT.sIx_nat xs.length xs.length k
  unfold cutV
  rw [e1, e2, List.drop_zero, Nat.sub_zero, List.take_eq_take_iff]
  omega
def flown (N : Net) (j : Nat) : List Str := (N.tl.take j).flatMap fun t => t.2.2
def spFlown (K : PySem.W.Frag) : Sp := hid fun vs H Q _ => ∃ (a : Addr) (N : Net) (j : Nat), vs = [.ref a, .int (j : Int)] ∧ Dp K H (.ref a) (netD N) ∧ Right N ∧ ∀ l H', Same H H' → H l = none → H' l = some (.lst ((flown N j).map V.str)) → Q (.ref l) H'
theorem ok_flown {f : Addr} {fd : FuncData} (F : Fun K "flown_before" "flown_before" s_flown_before f fd) (T : ChkTxt mg) : FnG P w K mg base CX0 1 f fd ["net", "place"] (spFlown K) := by
  refine okG F sc_flown_before (fun vs H Q E h => ?_) (fun cdv A outer s H vs Q E hG hr h => ?_)
  · obtain ⟨a, N, j, rfl, _⟩ := h
    rfl
  · obtain ⟨a, N, j, rfl, hN, R, q⟩ := h
    refine ⟨_, (pss_one (ps_ret (pe_lc2 (own := [("tail", 2), ("flight", 3)]) (vs1 := [3]) (wi1 := iTup K (tOp (rIxT K) (tVar 2) (tC (.int 2)))) rfl sc_flown_before.nd (pi_tup (pe_slice (r := Ln.rSlS K) sl_tupS (pe_ix (r := rIxT K) ix_tup (pv 0) (pe_gl (by rfl) T.g_TAILS) (fun _ _ => rfl)) po_none (po_some (pv 1)))) (blkOk_by (own := [("tail", 2), ("flight", 3)]) (N := N_flown_before) (sc := defScope s_flown_before) (by decide +kernel)) (by decide)
      (fun _ _ _ _ _ => (pg_name (i := 2) sc_flown_before.nd rfl (.inl rfl))) (fun _ _ _ _ _ => pts_nil) (fun _ _ _ _ _ => (pi_tup (pe_ix (r := rIxT K) ix_tup (pv 2) pe_int (fun _ _ => rfl)))) (fun _ _ _ _ _ => (pg_name (i := 3) sc_flown_before.nd rfl (.inl rfl))) (fun _ _ _ _ _ => pts_nil) (fun _ _ _ _ _ => (pv 3))))), ?_⟩
    obtain ⟨s, t, c, f, l, r, h0, h1, h2, h3, h4, h5, h6⟩ := net_at hN
    obtain ⟨xs, hX, hD⟩ := tup_at h5
    refine ⟨_, rfl, a, _, _, _, rfl, rfl, h0, atI_nat (j := 4) rfl, ?_⟩
    have lx : xs.length = N.tl.length := by rw [DpAll.len hD, List.length_map]
    have l5 := R.tl5
    refine ⟨_, rfl, _, rfl, l, xs, rfl, hX, fun t1 H1 sm1 ht1 => ?_⟩
    rw [cutN] at ht1
    refine ⟨t1, rfl, ⟨_, ht1⟩, fun D nD => lc2_it (walk_tup (K := K) (a := t1) (xs := xs.take j)) (fun i H' => Same H1 H' ∧ H' D = some (.lst ((flown N i).map V.str)) ∧ (flown N i).length ≤ 5 * i) ?_ ?_ ?_ ?_⟩
    · exact ⟨Ln.same_upd nD, by rw [upd_same]; rfl, by unfold flown; simp⟩
    · rintro i H' _ ⟨sm, _⟩
      exact Same.tup sm ht1
    · rintro i x H2 H' hi ⟨sm, hDD, hfl⟩ ⟨rfl, hx⟩
      rw [List.length_take] at hi
      have hx1 : xs[i]? = some x := by
        rw [List.getElem?_take] at hx
        split at hx
        · exact hx
        · cases hx
      obtain ⟨d, hd, hdx⟩ := DpAll.get hD hx1
      rw [List.getElem?_map] at hd
      obtain ⟨y, hy, rfl⟩ := Option.map_eq_some_iff.mp hd
      have hy5 := R.tlm (List.mem_of_getElem? hy)
      have more : flown N (i + 1) = flown N i ++ y.2.2 := by
        unfold flown
        rw [takeS hy, List.flatMap_append, List.flatMap_singleton]
      obtain ⟨tt, rt, rfl, htt, hrt⟩ := tl_at hdx
      have s2 := sm1.trans sm
      refine ⟨rfl, ?_⟩
      refine ⟨_, rfl, tt, _, _, _, rfl, rfl, Same.tup s2 htt, atI_nat (j := 2) rfl, rt, rfl, ⟨_, Same.tup s2 hrt⟩, ?_⟩
      refine inner_it (walk_tup (K := K) (a := rt) (xs := y.2.2.map V.str)) (fun k H' => Same H1 H' ∧ H' D = some (.lst ((flown N i ++ y.2.2.take k).map V.str))) ?_ ?_ ?_ ?_
      · exact ⟨sm, by rw [List.take_zero, List.append_nil]; exact hDD⟩
      · rintro k H' _ ⟨sm, _⟩
        exact Same.tup (sm1.trans sm) hrt
      · rintro k v H3 H' hk ⟨sm3, hD3⟩ ⟨rfl, hv⟩
        rw [List.getElem?_map] at hv
        obtain ⟨z, hz, rfl⟩ := Option.map_eq_some_iff.mp hv
        refine ⟨rfl, ?_⟩
        refine ⟨_, rfl, _, hD3, ?_, same_at sm3 nD, ?_⟩
        · rw [List.length_map, List.length_append, List.length_take]
          exact small1 (by omega)
        · rw [upd_same, takeS hz, ← List.append_assoc, List.map_append (l₁ := flown N i ++ y.2.2.take k)]
          rfl
      · rintro H3 ⟨sm3, hD3⟩
        rw [List.length_map, List.take_of_length_le (Nat.le_refl _), ← more] at hD3
        exact ⟨sm3, hD3, by rw [more, List.length_append]; omega⟩
    · rintro H2 ⟨sm, hDD, _⟩
      have e : flown N (xs.take j).length = flown N j := by
        unfold flown
        rw [List.length_take, lx]
        congr 1
        rw [List.take_eq_take_iff]
        omega
      rw [e] at hDD
      exact q D H2 (sm1.trans sm) (sm1.free nD) hDD
/-! ## a leg -/
def spLeg (K : PySem.W.Frag) : Sp := fun vs H Q _ => ∃ (fv bv : V) (f : Flt) (u : Int), vs = [fv, bv, .str f.kind, .int u] ∧ Dp K H fv (flD f) ∧ (bv = .non ∨ ∃ g, Dp K H bv (flD g) ∧ f.start = g.fin ∧ g.arr + u ≤ f.dep) ∧ Q (.str "") H
theorem ok_leg {f : Addr} {fd : FuncData} (F : Fun K "leg_fault" "leg_fault" s_leg_fault f fd) (T : ChkTxt mg) : FnG P w K mg base CX0 1 f fd ["flight", "before", "kind", "turn"] (spLeg K) := by
  refine okG F sc_leg_fault (fun vs H Q E h => ?_) (fun cdv A outer s H vs Q E hG hr h => ?_)
  · obtain ⟨fv, bv, fl, u, rfl, _⟩ := h
    rfl
  · obtain ⟨fv, bv, fl, u, rfl, hf, hb, q⟩ := h
    refine ⟨_, (pss_cons (ps_asg (pv 0) (pg_tup (by rfl) (pgs_cons (pg_name (i := 4) sc_leg_fault.nd rfl (.inl rfl)) (pgs_cons (pg_name (i := 5) sc_leg_fault.nd rfl (.inl rfl)) (pgs_cons (pg_name (i := 4) sc_leg_fault.nd rfl (.inl rfl)) (pgs_cons (pg_name (i := 6) sc_leg_fault.nd rfl (.inl rfl)) (pgs_cons (pg_name (i := 4) sc_leg_fault.nd rfl (.inl rfl)) (pgs_cons (pg_name (i := 7) sc_leg_fault.nd rfl (.inl rfl)) (pgs_cons (pg_name (i := 4) sc_leg_fault.nd rfl (.inl rfl)) (pgs_cons (pg_name (i := 4) sc_leg_fault.nd rfl (.inl rfl)) pgs_nil))))))))))
    (pss_cons (ps_if (pt_cmpR op_ne (pv 7) (pv 2) (nomark _))
    (pss_one (ps_ret pe_str))
    pss_nil)
    (pss_cons (ps_if (pt_cmpR op_isN (pv 1) pe_non (nomark _))
    (pss_one (ps_ret pe_str))
    pss_nil)
    (pss_cons (ps_if (pt_cmpR op_ne (pv 5) (pe_ix (r := rIxT K) ix_tup (pv 1) pe_int (fun _ _ => rfl)) (nomark _))
    (pss_one (ps_ret pe_str))
    pss_nil)
    (pss_cons (ps_if (pt_cmpR op_lt (pv 6) (pe_op op_add (pe_ix (r := rIxT K) ix_tup (pv 1) pe_int (fun _ _ => rfl)) (pv 3)) (nomark _))
    (pss_one (ps_ret pe_str))
    pss_nil)
    (pss_one (ps_ret pe_str))))))), ?_⟩
    obtain ⟨tt, lt, rfl, ht, hlt⟩ := fl_at hf
    refine ⟨_, rfl, ?_⟩
    refine ⟨tt, _, rfl, ht, rfl, _, _, rfl, _, _, rfl, _, _, rfl, _, _, rfl, _, _, rfl, _, _, rfl, _, _, rfl, _, _, rfl, rfl, ?_⟩
    refine ⟨_, rfl, _, rfl, rfl, _, rfl, ?_⟩
    rw [decide_eq_true rfl]
    refine iteF ?_
    rcases hb with rfl | ⟨g, hg, e1, e2⟩
    · refine ⟨_, rfl, rfl, _, rfl, ?_⟩
      rw [decide_eq_true rfl]
      exact iteT q
    · obtain ⟨bt, lt2, rfl, hbt, _⟩ := fl_at hg
      refine ⟨_, rfl, rfl, _, rfl, ?_⟩
      rw [decide_eq_false (fun z => nomatch z)]
      refine iteF ?_
      refine ⟨_, rfl, _, rfl, bt, _, _, _, rfl, rfl, hbt, atI_nat (j := 2) rfl, rfl, _, rfl, ?_⟩
      rw [decide_eq_true (show V.str fl.start = V.str g.fin by rw [e1])]
      refine iteF ?_
      refine ⟨_, rfl, _, rfl, bt, _, _, _, rfl, rfl, hbt, atI_nat (j := 4) rfl, _, rfl, _, _, rfl, rfl, _, _, rfl, rfl, _, rfl, ?_⟩
      rw [decide_eq_false (show ¬ fl.dep < g.arr + u by omega)]
      exact iteF q
end
end Mine
set_option Elab.async false
set_option linter.all false
set_option maxRecDepth 100000
set_option maxHeartbeats 8000000
namespace Mine
open PySem PySem.Spec PyProof.Rows L2 Ln RZ
/-! ## names are told apart -/
theorem fnm_inj0 : ∀ a : Nat, a < 25 → ∀ b : Nat, b < 25 → fnm (a / 5) (a % 5) = fnm (b / 5) (b % 5) → a = b := by decide +kernel
theorem fnm_inj (k : Nat) (hk : k < 5) (j : Nat) (hj : j < 5) (k' : Nat) (hk' : k' < 5) (j' : Nat) (hj' : j' < 5) (e : fnm k j = fnm k' j') : k = k' ∧ j = j' := by
  have := fnm_inj0 (5 * k + j) (by omega) (5 * k' + j') (by omega) (by
    rw [show (5 * k + j) / 5 = k by omega, show (5 * k + j) % 5 = j by omega, show (5 * k' + j') / 5 = k' by omega, show (5 * k' + j') % 5 = j' by omega]
    exact e)
  omega
theorem tnm_inj : ∀ k : Nat, k < 3 → ∀ j : Nat, j < 3 → tnm k = tnm j → k = j := by decide +kernel
theorem nodup_map_range {α : Type} [DecidableEq α] {f : Nat → α} {n : Nat} (h : ∀ i j, i < n → j < n → f i = f j → i = j) : ((List.range n).map f).Nodup := by
  rw [List.nodup_iff_pairwise_ne, List.pairwise_map]
  refine List.Pairwise.imp_of_mem ?_ List.nodup_range
  intro a b ha hb ne e
  exact ne (h a b (List.mem_range.mp ha) (List.mem_range.mp hb) e)
theorem rows_nodup : ∀ (R : List (Tri × List Flt)) (off : Nat), off + R.length ≤ 5 → (∀ k r, R[k]? = some r → r.2.map Flt.name = (List.range r.2.length).map (fnm (off + k)) ∧ r.2.length ≤ 5) →
    ((flOf R).map Flt.name).Nodup ∧ ∀ x ∈ (flOf R).map Flt.name, ∃ k j, off ≤ k ∧ k < 5 ∧ j < 5 ∧ x = fnm k j
  | [], off, _, _ => by
    unfold flOf
    exact ⟨List.nodup_nil, by simp⟩
  | r :: R, off, ho, h => by
    rw [List.length_cons] at ho
    obtain ⟨h1, h2⟩ := h 0 r rfl
    rw [Nat.add_zero] at h1
    obtain ⟨i1, i2⟩ := rows_nodup R (off + 1) (by omega) fun k s hs => by
      have := h (k + 1) s (by simpa using hs)
      rw [show off + (k + 1) = off + 1 + k by omega] at this
      exact this
    have e : (flOf (r :: R)).map Flt.name = r.2.map Flt.name ++ (flOf R).map Flt.name := by
      unfold flOf
      rw [List.flatMap_cons, List.map_append]
    have m1 : ∀ x ∈ r.2.map Flt.name, ∃ j, j < 5 ∧ x = fnm off j := by
      intro x hx
      rw [h1] at hx
      obtain ⟨j, hj, e⟩ := List.mem_map.mp hx
      exact ⟨j, by have := List.mem_range.mp hj; omega, e.symm⟩
    rw [e]
    constructor
    · rw [List.nodup_append]
      refine ⟨?_, i1, ?_⟩
      · rw [h1]
        exact nodup_map_range fun i j hi hj e => (fnm_inj off (by omega) i (by omega) off (by omega) j (by omega) e).2
      · intro x hx y hy e
        obtain ⟨j, hj, rfl⟩ := m1 x hx
        obtain ⟨k, j', q1, q2, q3, rfl⟩ := i2 y hy
        have := (fnm_inj off (by omega) j hj k q2 j' q3 e).1
        omega
    · intro x hx
      rcases List.mem_append.mp hx with hx | hx
      · obtain ⟨j, hj, rfl⟩ := m1 x hx
        exact ⟨off, j, Nat.le_refl _, by omega, hj, rfl⟩
      · obtain ⟨k, j, q1, q2, q3, e⟩ := i2 x hx
        exact ⟨k, j, by omega, q2, q3, e⟩
theorem Right.flNodup {N : Net} (h : Right N) : (N.fl.map Flt.name).Nodup := by
  obtain ⟨R, _, h5, hR, _, hp⟩ := h.rows
  have := (rows_nodup R 0 (by omega) fun k r hr => ⟨by rw [Nat.zero_add]; exact (hR k r hr).nm, (hR k r hr).len⟩).1
  exact (hp.map Flt.name).nodup_iff.mpr this
theorem Right.tyNodup {N : Net} (h : Right N) : (N.ty.map (·.1)).Nodup := by
  rw [h.ty.nm]
  exact nodup_map_range fun i j hi hj e => tnm_inj i (by have := h.ty.l1; omega) j (by have := h.ty.l1; omega) e
theorem Right.tail {N : Net} (h : Right N) {j : Nat} (hj : j < N.tl.length) : ∃ r : Tri × List Flt, N.tl[j] = (nnm j, r.1.1, r.2.map Flt.name) ∧ r.1 ∈ N.ty ∧ (∀ f ∈ r.2, f ∈ N.fl ∧ f.kind = r.1.1) ∧ Chain r.1.2.2 r.2 ∧
    (flown N j ++ r.2.map Flt.name).Nodup ∧ r.2.length ≤ 5 := by
  obtain ⟨R, _, h5, hR, e, hp⟩ := h.rows
  have hjR : j < R.length := by
    rw [e] at hj
    unfold tlOf at hj
    rw [List.length_mapIdx] at hj
    exact hj
  have ok := hR j _ (List.getElem?_eq_getElem hjR)
  refine ⟨R[j], ?_, ok.ty, fun f hf => ⟨hp.mem_iff.mpr (List.mem_flatMap.mpr ⟨_, List.getElem_mem hjR, hf⟩), (ok.ok f hf).2⟩, ok.ch, ?_, ok.len⟩
  · have : N.tl[j]? = some (nnm j, R[j].1.1, R[j].2.map Flt.name) := by
      rw [e]
      unfold tlOf
      rw [List.getElem?_mapIdx, List.getElem?_eq_getElem hjR]
      rfl
    rw [List.getElem?_eq_getElem hj] at this
    exact Option.some.inj this
  · have nd := (rows_nodup R 0 (by omega) fun k r hr => ⟨by rw [Nat.zero_add]; exact (hR k r hr).nm, (hR k r hr).len⟩).1
    have e1 : flown N j ++ R[j].2.map Flt.name = (flOf (R.take (j + 1))).map Flt.name := by
      unfold flown flOf
      rw [e, List.take_add_one, List.getElem?_eq_getElem hjR, List.flatMap_append, List.map_append]
      congr 1
      · unfold tlOf
        rw [List.map_flatMap]
        have : (List.mapIdx (fun k (r : Tri × List Flt) => (nnm k, r.1.1, r.2.map Flt.name)) R).map (fun t => t.2.2) = R.map fun r => r.2.map Flt.name := by
          apply List.ext_getElem?
          intro i
          rw [List.getElem?_map, List.getElem?_mapIdx, List.getElem?_map]
          cases R[i]? <;> rfl
        rw [List.flatMap_def, List.flatMap_def, List.map_take, List.map_take, this]
      · simp
    rw [e1]
    refine nd.sublist (List.Sublist.map _ ?_)
    have e2 : flOf R = flOf (R.take (j + 1)) ++ flOf (R.drop (j + 1)) := by
      unfold flOf
      rw [← List.flatMap_append, List.take_append_drop]
    rw [e2]
    exact List.sublist_append_left _ _
end Mine
set_option Elab.async false
set_option linter.all false
set_option maxRecDepth 100000
set_option maxHeartbeats 16000000
namespace Mine
open PySem PySem.Spec PyProof.Rows L2 Ln RZ
section
variable {P : Program} {w : World} {K : PySem.W.Frag} {mg : Str → Option Value} {base : Heap} {FA : Addr}
theorem nodup_at {α : Type} {l : List α} (h : l.Nodup) {i j : Nat} {x : α} (hi : l[i]? = some x) (hj : l[j]? = some x) : i = j := by
  obtain ⟨p, e⟩ := List.getElem?_eq_some_iff.mp hi
  obtain ⟨q, e'⟩ := List.getElem?_eq_some_iff.mp hj
  rw [List.nodup_iff_pairwise_ne, List.pairwise_iff_getElem] at h
  rcases Nat.lt_trichotomy i j with c | c | c
  · exact absurd (e.trans e'.symm) (h i j p q c)
  · exact c
  · exact absurd (e'.trans e.symm) (h j i q p c)
theorem flownC {H : Hp} {a : Addr} {N : Net} {j : Nat} (hN : Dp K H (.ref a) (netD N)) (R : Right N) {Q : VK} (q : ∀ l H', Same H H' → H l = none → H' l = some (.lst ((flown N j).map V.str)) → Q (.ref l) H') : spFlown K [.ref a, .int (j : Int)] H Q E0 := ⟨a, N, j, rfl, hN, R, q⟩
theorem ok_tlfault {f : Addr} {fd : FuncData} (F : Fun K "tail_fault" "tail_fault" s_tail_fault f fd) (T : ChkTxt mg) (c_flown_before : Cg P w K mg base CX0 1 "flown_before" (spFlown K)) (c_leg_fault : Cg P w K mg base CX0 1 "leg_fault" (spLeg K)) :
    FnG P w K mg base CX0 2 f fd ["net", "place"] (spFault K fun N => N.tl.length) := by
  refine okG F sc_tail_fault (fun vs H Q E h => ?_) (fun cdv A outer s H vs Q E hG hr h => ?_)
  · obtain ⟨a, N, j, rfl, _⟩ := h
    rfl
  · obtain ⟨a, N, j, rfl, hN, R, hj, q⟩ := h
    refine ⟨_, (pss_cons (ps_asg (pe_ix (r := rIxT K) ix_tup (pe_ix (r := rIxT K) ix_tup (pv 0) (pe_gl (by rfl) T.g_TAILS) (fun _ _ => rfl)) (pv 1) (fun _ _ => rfl)) (pg_tup (by rfl) (pgs_cons (pg_name (i := 2) sc_tail_fault.nd rfl (.inl rfl)) (pgs_cons (pg_name (i := 3) sc_tail_fault.nd rfl (.inl rfl)) (pgs_cons (pg_name (i := 4) sc_tail_fault.nd rfl (.inl rfl)) pgs_nil)))))
    (pss_cons (ps_setDc (i := 5) (own := [("word", 6), ("_", 2), ("turn", 7)]) (g := (gTup K 3 (gCons (gName 6) (gCons (gName 2) (gCons (gName 7) gNil))))) rfl sc_tail_fault.nd rfl rfl (sw_trueD rfl rfl rfl (by decide +kernel)) (pi_tup (pe_ix (r := rIxT K) ix_tup (pv 0) (pe_gl (by rfl) T.g_TYPES) (fun _ _ => rfl))) (blkOk_by (own := [("word", 6), ("_", 2), ("turn", 7)]) (N := N_tail_fault) (sc := defScope s_tail_fault) (by decide +kernel)) (fun _ _ _ _ _ => (pg_tup (by rfl) (pgs_cons (pg_name (i := 6) sc_tail_fault.nd rfl (.inl rfl)) (pgs_cons (pg_name (i := 2) sc_tail_fault.nd rfl (.inl rfl)) (pgs_cons (pg_name (i := 7) sc_tail_fault.nd rfl (.inl rfl)) pgs_nil))))) (fun _ _ _ _ _ => pts_nil) (fun _ _ _ _ _ => (pv 6)) (fun _ _ _ _ _ => (pv 7)))
    (pss_cons (ps_if (pt_cmp (pc_dnotin (hu_of hr) (pv 3) (pv 5)))
    (pss_one (ps_ret pe_str))
    pss_nil)
    (pss_cons (ps_setDc (i := 8) (own := [("flight", 9)]) rfl sc_tail_fault.nd rfl rfl (sw_trueD rfl rfl rfl (by decide +kernel)) (pi_tup (pe_ix (r := rIxT K) ix_tup (pv 0) (pe_gl (by rfl) T.g_FLIGHTS) (fun _ _ => rfl))) (blkOk_by (own := [("flight", 9)]) (N := N_tail_fault) (sc := defScope s_tail_fault) (by decide +kernel)) (fun _ _ _ _ _ => (pg_name (i := 9) sc_tail_fault.nd rfl (.inl rfl))) (fun _ _ _ _ _ => pts_nil) (fun _ _ _ _ _ => (pe_ix (r := rIx K) ix_seq (pv 9) pe_int (fun _ _ => rfl))) (fun _ _ _ _ _ => (pv 9)))
    (pss_cons (ps_set (i := 10) sc_tail_fault.nd rfl (.inl rfl) (pe_cg c_flown_before hr (by decide) hG (by rfl) (pa_cons (pv 0) (pa_cons (pv 1) pa_nil))))
    (pss_cons (ps_set (i := 11) sc_tail_fault.nd rfl (.inl rfl) pe_non)
    (pss_cons (ps_for PassesOwn.never rfl (pi_tup (pv 4)) (pg_name (i := 9) sc_tail_fault.nd rfl (.inl rfl))
    (pss_cons (ps_if (pt_cmp (pc_dnotin (hu_of hr) (pv 9) (pv 8)))
    (pss_one (ps_ret pe_str))
    pss_nil)
    (pss_cons (ps_if (pt_cmpR (r := rIn K false) op_in_seq (pv 9) (pv 10) (by rfl))
    (pss_one (ps_ret pe_str))
    pss_nil)
    (pss_cons (ps_set (i := 12) sc_tail_fault.nd rfl (.inl rfl) (pe_cg c_leg_fault hr (by decide) hG (by rfl) (pa_cons (pe_dget (by exact hu_of hr) (pv 8) (pv 9) (fun _ _ => rfl)) (pa_cons (pv 11) (pa_cons (pv 3) (pa_cons (pe_dget (by exact hu_of hr) (pv 5) (pv 3) (fun _ _ => rfl)) pa_nil))))))
    (pss_cons (ps_if (pt_cmpR op_ne (pv 12) pe_str (nomark _))
    (pss_one (ps_ret (pv 12)))
    pss_nil)
    (pss_cons (ps_expr (pe_bm PySem.F.plainAttrs_list PySem.F.slot_list_append PySem.F.type_list_append mt_append (pv 10) (pa_cons (pv 9) pa_nil)))
    (pss_one (ps_set (i := 11) sc_tail_fault.nd rfl (.inl rfl) (pe_dget (by exact hu_of hr) (pv 8) (pv 9) (fun _ _ => rfl))))))))))
    (pss_one (ps_ret pe_str))))))))), ?_⟩
    obtain ⟨s, t, c, f, l, r, h0, h1, h2, h3, h4, h5, h6⟩ := net_at hN
    obtain ⟨ts, v, hS, _, hv, hd⟩ := row_at h5 hj
    obtain ⟨⟨kd, rl⟩, er, hkd, hfl, hch, hnd, hl5⟩ := R.tail hj
    rw [er] at hd
    obtain ⟨tt, rt, rfl, htt, hrt⟩ := tl_at hd
    have tyN := R.tyNodup
    have flN := R.flNodup
    have fl25 := R.fl25
    refine ⟨_, rfl, a, _, _, _, rfl, rfl, h0, atI_nat (j := 4) rfl, _, rfl, l, ts, _, _, rfl, rfl, hS, atI_nat hv, ?_⟩
    refine ⟨tt, _, rfl, htt, rfl, _, _, rfl, _, _, rfl, _, _, rfl, rfl, ?_⟩
    -- turns
    obtain ⟨tys, hT, hTd⟩ := tup_at h2
    have lty : tys.length = N.ty.length := by rw [DpAll.len hTd, List.length_map]
    refine ⟨_, rfl, a, _, _, _, rfl, rfl, h0, atI_nat (j := 1) rfl, t, rfl, ⟨_, hT⟩, fun D nD => dc_tup (K := K) (a := t) (xs := tys) (fun i H' => Same H H' ∧ ∃ kvs : List (Key × V), H' D = some (.dK kvs) ∧ kvs.length ≤ i ∧
      ∀ p sx, p < i → N.ty[p]? = some sx → valV kvs (.inr sx.1) = some (.int sx.2.2)) ?_ ?_ ?_ ?_⟩
    · exact ⟨Ln.same_upd nD, [], upd_same, Nat.le_refl _, fun p sx h => absurd h (Nat.not_lt_zero _)⟩
    · rintro i H' _ ⟨sm, _⟩
      exact Same.tup sm hT
    · rintro i x H' hx ⟨sm, kvs, hD, hlen, hall⟩
      obtain ⟨d, hd, hdx⟩ := DpAll.get hTd hx
      rw [List.getElem?_map] at hd
      obtain ⟨y, hy, rfl⟩ := Option.map_eq_some_iff.mp hd
      obtain ⟨yt, rfl, hyt⟩ := tr_at hdx
      have hi := (List.getElem?_eq_some_iff.mp hx).1
      have l3 := R.ty.l1
      refine ⟨yt, _, rfl, Same.tup sm hyt, rfl, _, _, rfl, _, _, rfl, _, _, rfl, rfl, rfl, ?_⟩
      refine ⟨_, rfl, _, rfl, kvs, .inr y.1, rfl, hD, small1 (by omega), same_at sm nD, _, upd_same, ?_, fun p sx hp hsx => ?_⟩
      · exact Nat.le_trans (length_putK _ _ _) (by omega)
      · rw [valV_put]
        by_cases e : p = i
        · subst e
          rw [hy] at hsx
          cases hsx
          rw [if_pos rfl]
        · rw [if_neg]
          · exact hall p sx (by omega) hsx
          · intro z
            have z' : sx.1 = y.1 := by injection z
            exact e (nodup_at tyN (i := p) (j := i) (by rw [List.getElem?_map, hsx]; rfl) (by rw [List.getElem?_map, hy]; exact congrArg some z'.symm))
    rintro H1 ⟨sm1, kv1, hD1, _, hturn⟩
    rw [lty] at hturn
    obtain ⟨pk, hpk, epk⟩ := List.mem_iff_getElem.mp hkd
    have hturn1 : valV kv1 (.inr kd.1) = some (.int kd.2.2) := hturn pk kd hpk (by rw [List.getElem?_eq_getElem hpk, epk])
    refine ⟨_, rfl, _, rfl, D, _, rfl, .inl ⟨kv1, .inr kd.1, .inl hD1, rfl, hturn1.symm⟩, _, rfl, iteF ?_⟩
    -- flights
    obtain ⟨fls, hF, hFd⟩ := tup_at (Same.dp sm1 (by simpa only [noL] using noLs_map noL_fl N.fl) h4)
    have lfl : fls.length = N.fl.length := by rw [DpAll.len hFd, List.length_map]
    have g0 := Same.tup sm1 h0
    refine ⟨_, rfl, a, _, _, _, rfl, rfl, g0, atI_nat (j := 3) rfl, f, rfl, ⟨_, hF⟩, fun D2 nD2 => dc_tup (K := K) (a := f) (xs := fls) (fun i H' => Same H1 H' ∧ ∃ kvs : List (Key × V), H' D2 = some (.dK kvs) ∧ kvs.length ≤ i ∧
      ∀ (p : Nat) (sx : Flt) (v : V), p < i → N.fl[p]? = some sx → fls[p]? = some v → valV kvs (.inr sx.name) = some v) ?_ ?_ ?_ ?_⟩
    · exact ⟨Ln.same_upd nD2, [], upd_same, Nat.le_refl _, fun p sx v h => absurd h (Nat.not_lt_zero _)⟩
    · rintro i H' _ ⟨sm, _⟩
      exact Same.tup sm hF
    · rintro i x H' hx ⟨sm, kvs, hD, hlen, hall⟩
      obtain ⟨d, hd, hdx⟩ := DpAll.get hFd hx
      rw [List.getElem?_map] at hd
      obtain ⟨y, hy, rfl⟩ := Option.map_eq_some_iff.mp hd
      obtain ⟨yt, lt, rfl, hyt, _⟩ := fl_at hdx
      have hi := (List.getElem?_eq_some_iff.mp hx).1
      refine ⟨rfl, ?_⟩
      refine ⟨_, rfl, .inr (.inl ⟨yt, _, 0, _, rfl, rfl, Same.tup sm hyt, atI_nat (j := 0) rfl, ?_⟩)⟩
      refine ⟨_, rfl, kvs, .inr y.name, rfl, hD, small1 (by omega), same_at sm nD2, _, upd_same, ?_, fun p sx v hp hsx hvx => ?_⟩
      · exact Nat.le_trans (length_putK _ _ _) (by omega)
      · rw [valV_put]
        by_cases e : p = i
        · subst e
          rw [hy] at hsx
          cases hsx
          rw [hx] at hvx
          cases hvx
          rw [if_pos rfl]
        · rw [if_neg]
          · exact hall p sx v (by omega) hsx hvx
          · intro z
            have z' : sx.name = y.name := by injection z
            exact e (nodup_at flN (i := p) (j := i) (by rw [List.getElem?_map, hsx]; rfl) (by rw [List.getElem?_map, hy]; exact congrArg some z'.symm))
    rintro H2 ⟨sm2, kv2, hD2, _, hflt⟩
    rw [lfl] at hflt
    have s12 := sm1.trans sm2
    -- what a flight's name finds
    have find : ∀ (i : Nat) (g : Flt), rl[i]? = some g → ∃ v, valV kv2 (.inr g.name) = some v ∧ ∀ H', Same H2 H' → Dp K H' v (flD g) := by
      intro i g hg
      obtain ⟨p, hp, ep⟩ := List.mem_iff_getElem.mp (hfl g (List.mem_of_getElem? hg)).1
      have hvp : fls[p]? = some (fls[p]'(by omega)) := List.getElem?_eq_getElem _
      obtain ⟨d, hd, hdx⟩ := DpAll.get hFd hvp
      rw [List.getElem?_map, List.getElem?_eq_getElem hp, ep] at hd
      cases hd
      exact ⟨_, hflt p g _ hp (by rw [List.getElem?_eq_getElem hp, ep]) hvp, fun H' s => Same.dp (sm2.trans s) (noL_fl g) hdx⟩
    refine ⟨_, rfl, _, rfl, flownC (Same.dp s12 (noL_net N) hN) R fun L H3 sm3 nL hL => ?_⟩
    have hD1' := sm3 _ _ (sm2 _ _ hD1)
    have hD2' := sm3 _ _ hD2
    have neD1 : D ≠ L := ne_of_none (sm2 _ _ hD1) nL
    have neD2 : D2 ≠ L := ne_of_none hD2 nL
    have hrt3 := Same.tup (s12.trans sm3) hrt
    refine ⟨_, rfl, rt, rfl, ⟨_, hrt3⟩, for_tup (K := K) (a := rt) (xs := (rl.map Flt.name).map V.str) (fun i σ H' => ∃ (bv : V) (v6 v7 v9 v12 : Option V),
      σ = [some (.ref a), some (.int (j : Int)), some (.str (nnm j)), some (.str kd.1), some (.ref rt), some (.ref D), v6, v7, some (.ref D2), v9, some (.ref L), some bv, v12] ∧ But L H3 H' ∧ H' L = some (.lst ((flown N j ++ (rl.map Flt.name).take i).map V.str)) ∧
      ((i = 0 ∧ bv = .non) ∨ ∃ (k : Nat) (g : Flt), i = k + 1 ∧ rl[k]? = some g ∧ Dp K H' bv (flD g))) ?_ ?_ ?_ ?_⟩
    · exact ⟨.non, _, _, _, _, rfl, But.refl _ _, by rw [List.take_zero, List.append_nil]; exact hL, .inl ⟨rfl, rfl⟩⟩
    · rintro i σ H' _ ⟨bv, v6, v7, v9, v12, rfl, hB, hLl, hb⟩
      exact But.tup hB hL hrt3
    · rintro i x σ H' hx ⟨bv, v6, v7, v9, v12, rfl, hB, hLl, hb⟩
      rw [List.getElem?_map, List.getElem?_map] at hx
      obtain ⟨y, hy, rfl⟩ := Option.map_eq_some_iff.mp hx
      obtain ⟨g, hg, rfl⟩ := Option.map_eq_some_iff.mp hy
      obtain ⟨gv, hgv, hgd⟩ := find i g hg
      have hD1x := hB _ _ neD1 hD1'
      have hD2x := hB _ _ neD2 hD2'
      have hgH : Dp K H' gv (flD g) := Dp.tpf (TpF.but hB hL) _ _ (noL_fl g) (hgd H3 sm3)
      have hkg := (hfl g (List.mem_of_getElem? hg)).2
      -- known, not flown
      refine ⟨_, rfl, _, rfl, D2, _, rfl, .inl ⟨kv2, .inr g.name, .inl hD2x, rfl, hgv.symm⟩, _, rfl, iteF ?_⟩
      have hnotin : ¬ g.name ∈ flown N j ++ (rl.map Flt.name).take i := by
        intro m
        have e : flown N j ++ rl.map Flt.name = (flown N j ++ (rl.map Flt.name).take i) ++ (rl.map Flt.name).drop i := by
          rw [List.append_assoc, List.take_append_drop]
        rw [e, List.nodup_append] at hnd
        have md : g.name ∈ (rl.map Flt.name).drop i := by
          apply List.mem_of_getElem? (i := 0)
          rw [List.getElem?_drop, Nat.add_zero, List.getElem?_map, hg]
          rfl
        exact hnd.2.2 g.name m g.name md rfl
      refine ⟨_, rfl, _, rfl, L, _, rfl, .inl (SqL.of hLl), rfl, flat_strs _, _, rfl, ?_⟩
      rw [show (if (false : Bool) = true then !inV (V.str g.name) ((flown N j ++ (rl.map Flt.name).take i).map V.str) else inV (V.str g.name) ((flown N j ++ (rl.map Flt.name).take i).map V.str)) = false from inV_strs.trans (decide_eq_false hnotin)]
      refine iteF ?_
      -- the leg
      refine ⟨_, rfl, _, rfl, D2, gv, rfl, .inl ⟨kv2, .inr g.name, .inl hD2x, rfl, hgv.symm⟩, _, rfl, _, rfl, _, rfl, _, rfl, D, .int kd.2.2, rfl, .inl ⟨kv1, .inr kd.1, .inl hD1x, rfl, hturn1.symm⟩, ?_⟩
      have hcond : bv = .non ∨ ∃ g', Dp K H' bv (flD g') ∧ g.start = g'.fin ∧ g'.arr + kd.2.2 ≤ g.dep := by
        rcases hb with ⟨_, e⟩ | ⟨k, g', ek, hk, hd⟩
        · exact .inl e
        · rw [ek] at hg
          obtain ⟨c1, c2⟩ := hch k g' g hk hg
          exact .inr ⟨g', hd, c1, c2⟩
      refine ⟨gv, bv, g, kd.2.2, by rw [hkg], hgH, hcond, ?_⟩
      refine ⟨_, rfl, rfl, _, rfl, ?_⟩
      rw [decide_eq_true rfl]
      refine iteF ?_
      -- behind it
      have hlf : (flown N j ++ rl.map Flt.name).length ≤ 1000 := by
        have l5 := R.tl5
        have h1 : (flown N j).length ≤ 5 * N.tl.length := by
          have : ∀ (l : List (Str × Str × List Str)), (∀ t ∈ l, t.2.2.length ≤ 5) → (l.flatMap fun t => t.2.2).length ≤ 5 * l.length := by
            intro l
            induction l with
            | nil => simp
            | cons t r ih =>
              intro h
              rw [List.flatMap_cons, List.length_append, List.length_cons]
              have q1 := h t List.mem_cons_self
              have q2 := ih fun x hx => h x (List.mem_cons_of_mem _ hx)
              omega
          unfold flown
          refine Nat.le_trans (this _ fun t ht => R.tlm (List.mem_of_mem_take ht)) ?_
          rw [List.length_take]
          omega
        rw [List.length_append, List.length_map]
        have h5 : rl.length ≤ 5 := hl5
        omega
      have hlt : (flown N j ++ (rl.map Flt.name).take i).length ≤ 1000 := by
        refine Nat.le_trans ?_ hlf
        rw [List.length_append, List.length_append, List.length_take]
        omega
      refine ⟨.ref L, rfl, .inl ⟨rfl, _, SqL.of hLl⟩, _, rfl, L, _, _, rfl, rfl, hLl, small1 (by rw [List.length_map]; omega), ?_⟩
      have hupd : But L H3 (upd H' L (.lst ((flown N j ++ (rl.map Flt.name).take i).map V.str ++ [.str g.name]))) := hB.trans (But.upd L H' _)
      refine ⟨_, rfl, _, rfl, D2, gv, rfl, .inl ⟨kv2, .inr g.name, .inl (by rw [upd_ne neD2]; exact hD2x), rfl, hgv.symm⟩, ?_⟩
      refine ⟨gv, _, _, _, _, rfl, hupd, ?_, .inr ⟨i, g, rfl, hg, Dp.tpf (TpF.upd hLl) _ _ (noL_fl g) hgH⟩⟩
      rw [upd_same, takeS (by rw [List.getElem?_map, hg]; rfl : (rl.map Flt.name)[i]? = some g.name), ← List.append_assoc, List.map_append (l₁ := flown N j ++ (rl.map Flt.name).take i)]
      rfl
    · rintro σ H' ⟨bv, v6, v7, v9, v12, rfl, hB, hLl, hb⟩
      refine q H' ?_
      intro b o e
      refine hB b o ?_ (((s12.trans sm3) b o) e)
      intro z
      rw [z] at e
      have := s12 _ _ e
      rw [nL] at this
      cases this
end
end Mine
set_option Elab.async false
set_option linter.all false
set_option maxRecDepth 100000
set_option maxHeartbeats 16000000
namespace Mine
open PySem PySem.Spec PyProof.Rows L2 Ln RZ
/-! ## names of the parts -/
def pnames (N : Net) : Nat → List Str
  | 0 => N.st.map (·.1)
  | 1 => N.ty.map (·.1)
  | 2 => N.cl
  | 3 => N.fl.map Flt.name
  | 4 => N.tl.map (·.1)
  | _ => N.fa.map Far.name
def goodName (x : Str) : Bool := isName x && decide (x.length ≤ 12)
theorem good_six : ∀ x ∈ six, goodName x = true := by decide +kernel
theorem good_four : ∀ x ∈ four, goodName x = true := by decide +kernel
theorem good_t : ∀ k : Nat, k < 3 → goodName (tnm k) = true := by decide +kernel
theorem good_n : ∀ k : Nat, k < 5 → goodName (nnm k) = true := by decide +kernel
theorem good_r : ∀ k : Nat, k < 8 → goodName (rnm k) = true := by decide +kernel
theorem good_f : ∀ a : Nat, a < 25 → goodName (fnm (a / 5) (a % 5)) = true := by decide +kernel
theorem nnm_inj : ∀ k : Nat, k < 5 → ∀ j : Nat, j < 5 → nnm k = nnm j → k = j := by decide +kernel
theorem rnm_inj : ∀ k : Nat, k < 8 → ∀ j : Nat, j < 8 → rnm k = rnm j → k = j := by decide +kernel
theorem Right.tlNames {N : Net} (h : Right N) : N.tl.map (·.1) = (List.range N.tl.length).map nnm := by
  obtain ⟨R, _, _, _, e, _⟩ := h.rows
  rw [e]
  unfold tlOf
  apply List.ext_getElem?
  intro i
  rw [List.getElem?_map, List.getElem?_mapIdx, List.getElem?_map, List.length_mapIdx]
  by_cases c : i < R.length
  · rw [List.getElem?_eq_getElem c, List.getElem?_range c]
    rfl
  · rw [List.getElem?_eq_none (by omega), List.getElem?_eq_none (by rw [List.length_range]; omega)]
    rfl
theorem Right.names {N : Net} (h : Right N) {i : Nat} (hi : i < 6) : (pnames N i).Nodup ∧ ∀ x ∈ pnames N i, goodName x = true := by
  match i, hi with
  | 0, _ =>
    show (N.st.map (·.1)).Nodup ∧ ∀ x ∈ N.st.map (·.1), goodName x = true
    rw [h.st.nm]
    exact ⟨(by decide +kernel : six.Nodup).sublist (List.take_sublist _ _), fun x hx => good_six x (List.mem_of_mem_take hx)⟩
  | 1, _ =>
    refine ⟨h.tyNodup, ?_⟩
    show ∀ x ∈ N.ty.map (·.1), goodName x = true
    rw [h.ty.nm]
    intro x hx
    obtain ⟨k, hk, e⟩ := List.mem_map.mp hx
    rw [← e]
    exact good_t k (by have := List.mem_range.mp hk; have := h.ty.l1; omega)
  | 2, _ =>
    obtain ⟨c, _, _, e⟩ := h.cl
    show N.cl.Nodup ∧ ∀ x ∈ N.cl, goodName x = true
    rw [e]
    exact ⟨(by decide +kernel : four.Nodup).sublist (List.take_sublist _ _), fun x hx => good_four x (List.mem_of_mem_take hx)⟩
  | 3, _ =>
    refine ⟨h.flNodup, ?_⟩
    intro x hx
    obtain ⟨R, _, h5, hR, _, hp⟩ := h.rows
    have hx' : x ∈ (flOf R).map Flt.name := (hp.map Flt.name).mem_iff.mp hx
    obtain ⟨k, j, _, hk, hj, e⟩ := (rows_nodup R 0 (by omega) fun k r hr => ⟨by rw [Nat.zero_add]; exact (hR k r hr).nm, (hR k r hr).len⟩).2 x hx'
    have g := good_f (5 * k + j) (by omega)
    rw [show (5 * k + j) / 5 = k by omega, show (5 * k + j) % 5 = j by omega] at g
    rw [e]
    exact g
  | 4, _ =>
    show (N.tl.map (·.1)).Nodup ∧ ∀ x ∈ N.tl.map (·.1), goodName x = true
    rw [h.tlNames]
    have l5 := h.tl5
    refine ⟨nodup_map_range fun i j hi hj e => nnm_inj i (by omega) j (by omega) e, fun x hx => ?_⟩
    obtain ⟨k, hk, e⟩ := List.mem_map.mp hx
    rw [← e]
    exact good_n k (by have := List.mem_range.mp hk; omega)
  | 5, _ =>
    show (N.fa.map Far.name).Nodup ∧ ∀ x ∈ N.fa.map Far.name, goodName x = true
    rw [h.fn]
    have l8 := h.fl
    refine ⟨nodup_map_range fun i j hi hj e => rnm_inj i (by omega) j (by omega) e, fun x hx => ?_⟩
    obtain ⟨k, hk, e⟩ := List.mem_map.mp hx
    rw [← e]
    exact good_r k (by have := List.mem_range.mp hk; omega)
section
variable {P : Program} {w : World} {K : PySem.W.Frag} {mg : Str → Option Value} {base : Heap} {FA : Addr}
theorem heads {α : Type} {g : α → PyData} {nm : α → Str} {r : α → List PyData} (hg : ∀ x, g x = .tuple (.str (nm x) :: r x)) (l : List α) (j : Nat) (x : Str) (h : (l.map nm)[j]? = some x) : ∃ s, (l.map g)[j]? = some (PyData.tuple (PyData.str x :: s)) := by
  rw [List.getElem?_map] at h ⊢
  obtain ⟨y, hy, e⟩ := Option.map_eq_some_iff.mp h
  rw [hy, ← e]
  exact ⟨r y, congrArg some (hg y)⟩
theorem rowNamesC {H : Hp} {a : Addr} {N : Net} (hN : Dp K H (.ref a) (netD N)) (R : Right N) {i : Nat} (hi : i < 6) {Q : VK} (q : ∀ l H', Same H H' → H l = none → H' l = some (.lst ((pnames N i).map V.str)) → Q (.ref l) H') : spRowNames K [.ref a, .int (i : Int)] H Q E0 := by
  obtain ⟨s, t, c, f, l, r, h0, h1, h2, h3, h4, h5, h6⟩ := net_at hN
  match i, hi, q with
  | 0, _, q => exact ⟨a, _, 0, s, _, N.st.map Prod.fst, rfl, h0, rfl, h1, noLs_map noL_tr _, by rw [List.length_map]; have := R.st.l1; omega, by rw [List.length_map, List.length_map], .inr ⟨by decide, heads (fun _ => rfl) _⟩, q⟩
  | 1, _, q => exact ⟨a, _, 1, t, _, N.ty.map Prod.fst, rfl, h0, rfl, h2, noLs_map noL_tr _, by rw [List.length_map]; have := R.ty.l1; omega, by rw [List.length_map, List.length_map], .inr ⟨by decide, heads (fun _ => rfl) _⟩, q⟩
  | 2, _, q => exact ⟨a, _, 2, c, _, N.cl, rfl, h0, rfl, h3, noLs_strs _, by rw [List.length_map]; have := R.cl4; omega, by rw [List.length_map], .inl ⟨rfl, rfl⟩, q⟩
  | 3, _, q => exact ⟨a, _, 3, f, _, N.fl.map Flt.name, rfl, h0, rfl, h4, noLs_map noL_fl _, by rw [List.length_map]; exact R.fl25, by rw [List.length_map, List.length_map], .inr ⟨by decide, heads (fun _ => rfl) _⟩, q⟩
  | 4, _, q => exact ⟨a, _, 4, l, _, N.tl.map Prod.fst, rfl, h0, rfl, h5, noLs_map noL_tl _, by rw [List.length_map]; have := R.tl5; omega, by rw [List.length_map, List.length_map], .inr ⟨by decide, heads (fun _ => rfl) _⟩, q⟩
  | 5, _, q => exact ⟨a, _, 5, r, _, N.fa.map Far.name, rfl, h0, rfl, h6, noLs_map noL_fa _, by rw [List.length_map]; have := R.fl; omega, by rw [List.length_map, List.length_map], .inr ⟨by decide, heads (fun _ => rfl) _⟩, q⟩
end
end Mine
set_option Elab.async false
set_option linter.all false
set_option maxRecDepth 100000
set_option maxHeartbeats 16000000
namespace Mine
open PySem PySem.Spec PyProof.Rows L2 Ln RZ
structure ChkTxtU (P : Program) (w : World) (K : PySem.W.Frag) (mg : Str → Option Value) (base : Heap) (FA FU : Addr) : Prop extends ChkTxtF K mg FA where
  g_FAULTS : ∃ u, mg "FAULTS" = some u ∧ RelV (.ref FU) u
  dU : ∃ fs : List Addr, (∀ H, SqT K H FU (fs.map V.ref)) ∧ ∀ i, i < 6 → ∃ f, fs[i]? = some f ∧ CgA P w K mg base 3 f (spFault K fun N => (pnames N i).length)
section
variable {P : Program} {w : World} {K : PySem.W.Frag} {mg : Str → Option Value} {base : Heap} {FA FU : Addr}
def spRowFault (K : PySem.W.Frag) : Sp := fun vs H Q _ => ∃ (a : Addr) (N : Net) (i j : Nat), vs = [.ref a, .int (i : Int), .int (j : Int)] ∧ Dp K H (.ref a) (netD N) ∧ Right N ∧ i < 6 ∧ j < (pnames N i).length ∧ ∀ H', Same H H' → Q (.str "") H'
theorem ok_rowfault {f : Addr} {fd : FuncData} (F : Fun K "row_fault" "row_fault" s_row_fault f fd) (T : ChkTxtU P w K mg base FA FU) (c_row_names : Cg P w K mg base CX0 1 "row_names" (spRowNames K)) (c_is_name : Cg P w K mg base CX0 2 "is_name" spIsName) :
    FnG P w K mg base CX0 4 f fd ["net", "part", "place"] (spRowFault K) := by
  refine okG F sc_row_fault (fun vs H Q E h => ?_) (fun cdv A outer s H vs Q E hG hr h => ?_)
  · obtain ⟨a, N, i, j, rfl, _⟩ := h
    rfl
  · obtain ⟨a, N, i, j, rfl, hN, R, hi, hj, q⟩ := h
    refine ⟨_, (pss_cons (ps_set (i := 3) sc_row_fault.nd rfl (.inl rfl) (pe_cg c_row_names hr (by decide) hG (by rfl) (pa_cons (pv 0) (pa_cons (pv 1) pa_nil))))
    (pss_cons (ps_set (i := 4) sc_row_fault.nd rfl (.inl rfl) (pe_ix (r := rIxL K) ix_list (pv 3) (pv 2) (fun _ _ => rfl)))
    (pss_cons (ps_if (PW.pt (pw_or (pt_cmpR op_gt (pe_callB (r := Ln.rLen K) (id := "len") c_len (by rfl) T.z_len (by decide +kernel) (pa_cons (pv 4) pa_nil)) (pe_gl (by rfl) T.g_MAX_NAME) (nomark _)) (pw_or1 (pt_not (pt_val (pe_cg c_is_name hr (by decide) hG (by rfl) (pa_cons (pv 4) pa_nil)))))))
    (pss_one (ps_ret pe_str))
    pss_nil)
    (pss_cons (ps_if (pt_cmpR (r := rIn K false) op_in_seq (pv 4) (pe_slice (r := rSlL K) sl_list (pv 3) po_none (po_some (pv 2))) (by rfl))
    (pss_one (ps_ret pe_str))
    pss_nil)
    (pss_cons (ps_set (i := 5) sc_row_fault.nd rfl (.inl rfl) (pe_ix (r := rIxT K) ix_tup (pe_gl (by rfl) T.g_FAULTS) (pv 1) (fun _ _ => rfl)))
    (pss_one (ps_ret (pe_cgL (k := 3) (i := 5) hr (by decide) hG rfl (.inl rfl) (pa_cons (pv 0) (pa_cons (pv 2) pa_nil)))))))))), ?_⟩
    obtain ⟨hnd, hgood⟩ := R.names hi
    obtain ⟨x, hx⟩ : ∃ x, (pnames N i)[j]? = some x := ⟨_, List.getElem?_eq_getElem hj⟩
    have gx := hgood x (List.mem_of_getElem? hx)
    obtain ⟨g1, g2⟩ := Bool.and_eq_true_iff.mp (show (isName x && decide (x.length ≤ 12)) = true from gx)
    have g2 := of_decide_eq_true g2
    refine ⟨_, rfl, _, rfl, rowNamesC hN R hi fun l H1 sm1 nl hl => ?_⟩
    have hlx : ((pnames N i).map V.str)[j]? = some (.str x) := by rw [List.getElem?_map, hx]; rfl
    refine ⟨_, rfl, _, rfl, l, _, _, _, rfl, rfl, SqL.of hl, atI_nat hlx, ?_⟩
    refine ⟨_, rfl, .str x, x.length, rfl, ⟨Nat.le_trans g2 (by decide), rfl⟩, _, _, rfl, rfl, _, rfl, ?_⟩
    rw [decide_eq_false (show ¬ ((x.length : Int) > 12) by omega)]
    refine iteF ⟨_, rfl, x, rfl, g1, by omega, fun H2 sm2 => ⟨_, rfl, iteF ?_⟩⟩
    refine ⟨_, rfl, _, rfl, _, rfl, _, rfl, l, _, rfl, SqL.of (sm2 _ _ hl), fun l2 nl2 => ?_⟩
    rw [cutN, ← List.map_take]
    have nin : ¬ x ∈ (pnames N i).take j := by
      intro m
      obtain ⟨k, hk, e⟩ := List.mem_iff_getElem.mp m
      rw [List.length_take] at hk
      have : (pnames N i)[k]? = some x := by
        have q1 := List.getElem?_eq_getElem (l := (pnames N i).take j) (i := k) (by rw [List.length_take]; exact hk)
        rw [List.getElem?_take, if_pos (by omega), e] at q1
        exact q1
      have := nodup_at hnd this hx
      omega
    refine ⟨l2, _, rfl, .inl (SqL.of upd_same), rfl, flat_strs _, _, rfl, ?_⟩
    rw [show (if (false : Bool) = true then !inV (V.str x) (((pnames N i).take j).map V.str) else inV (V.str x) (((pnames N i).take j).map V.str)) = false from inV_strs.trans (decide_eq_false nin)]
    refine iteF ?_
    have s3 := (sm1.trans sm2).trans (Ln.same_upd (o := .lst (((pnames N i).take j).map V.str)) nl2)
    obtain ⟨fs, hU, hfs⟩ := T.dU
    obtain ⟨ff, hff, cA⟩ := hfs i hi
    refine ⟨_, rfl, FU, _, _, _, rfl, rfl, hU _, atI_nat (by rw [List.getElem?_map, hff]; rfl), ?_⟩
    exact ⟨ff, _, rfl, cA, _, rfl, _, rfl, a, N, j, rfl, Same.dp s3 (noL_net N) hN, R, hj, fun H4 sm4 => q H4 (s3.trans sm4)⟩
/-! ## the numbers -/
theorem parts_len {H : Hp} {a : Addr} {N : Net} (h : Dp K H (.ref a) (netD N)) : ∃ xs, SqT K H a xs ∧ xs.length = 6 ∧ ∀ (i : Nat) (v : V), xs[i]? = some v → ∃ (ra : Addr) (ys : List V), v = .ref ra ∧ SqT K H ra ys ∧ ys.length = (pnames N i).length := by
  obtain ⟨s, t, c, f, l, r, h0, h1, h2, h3, h4, h5, h6⟩ := net_at h
  refine ⟨_, h0, rfl, fun i v hv => ?_⟩
  match i, hv with
  | 0, hv =>
    cases hv
    obtain ⟨ys, p, q⟩ := tup_at h1
    exact ⟨s, ys, rfl, p, by rw [DpAll.len q]; show (N.st.map trD).length = (N.st.map (·.1)).length; rw [List.length_map, List.length_map]⟩
  | 1, hv =>
    cases hv
    obtain ⟨ys, p, q⟩ := tup_at h2
    exact ⟨t, ys, rfl, p, by rw [DpAll.len q]; show (N.ty.map trD).length = (N.ty.map (·.1)).length; rw [List.length_map, List.length_map]⟩
  | 2, hv =>
    cases hv
    obtain ⟨ys, p, q⟩ := tup_at h3
    exact ⟨c, ys, rfl, p, by rw [DpAll.len q, List.length_map]; rfl⟩
  | 3, hv =>
    cases hv
    obtain ⟨ys, p, q⟩ := tup_at h4
    exact ⟨f, ys, rfl, p, by rw [DpAll.len q]; show (N.fl.map flD).length = (N.fl.map Flt.name).length; rw [List.length_map, List.length_map]⟩
  | 4, hv =>
    cases hv
    obtain ⟨ys, p, q⟩ := tup_at h5
    exact ⟨l, ys, rfl, p, by rw [DpAll.len q]; show (N.tl.map tlD).length = (N.tl.map (·.1)).length; rw [List.length_map, List.length_map]⟩
  | 5, hv =>
    cases hv
    obtain ⟨ys, p, q⟩ := tup_at h6
    exact ⟨r, ys, rfl, p, by rw [DpAll.len q]; show (N.fa.map faD).length = (N.fa.map Far.name).length; rw [List.length_map, List.length_map]⟩
  | i + 6, hv => simp at hv
def mosts : List Int := [12, 4, 6, 40, 12, 40]
theorem Right.most {N : Net} (h : Right N) {i : Nat} (hi : i < 6) : ∃ m, mosts[i]? = some m ∧ ((pnames N i).length : Int) ≤ m ∧ (i = 2 → 0 < (pnames N i).length) := by
  match i, hi with
  | 0, _ => exact ⟨12, rfl, by show (((N.st.map (·.1)).length : Nat) : Int) ≤ 12; rw [List.length_map]; have := h.st.l1; omega, fun z => absurd z (by decide)⟩
  | 1, _ => exact ⟨4, rfl, by show (((N.ty.map (·.1)).length : Nat) : Int) ≤ 4; rw [List.length_map]; have := h.ty.l1; omega, fun z => absurd z (by decide)⟩
  | 2, _ => exact ⟨6, rfl, by show ((N.cl.length : Nat) : Int) ≤ 6; have := h.cl4; omega, fun _ => by show 0 < N.cl.length; have := h.cl4; omega⟩
  | 3, _ => exact ⟨40, rfl, by show (((N.fl.map Flt.name).length : Nat) : Int) ≤ 40; rw [List.length_map]; have := h.fl25; omega, fun z => absurd z (by decide)⟩
  | 4, _ => exact ⟨12, rfl, by show (((N.tl.map (·.1)).length : Nat) : Int) ≤ 12; rw [List.length_map]; have := h.tl5; omega, fun z => absurd z (by decide)⟩
  | 5, _ => exact ⟨40, rfl, by show (((N.fa.map Far.name).length : Nat) : Int) ≤ 40; rw [List.length_map]; have := h.fl; omega, fun z => absurd z (by decide)⟩

structure NetErr (K : PySem.W.Frag) (mg : Str → Option Value) (C fI : Addr) : Prop where
  m_NetError : mg "NetError" = some (.ref C)
  o_NetError : OexC K C
  i_NetError : PySem.W.findIn K (.ref C) "__init__" = some (some (.ref fI))
  t_NetError : PySem.W.typeIn K (.ref fI) = some (.type "function")
structure ChkTxtE (P : Program) (w : World) (K : PySem.W.Frag) (mg : Str → Option Value) (base : Heap) (FA FU C fI : Addr) : Prop extends ChkTxtU P w K mg base FA FU, NetErr K mg C fI
def spCheck (K : PySem.W.Frag) : Sp := fun vs H Q _ => ∃ (a : Addr) (N : Net), vs = [.ref a] ∧ Dp K H (.ref a) (netD N) ∧ Right N ∧ ∀ H', Same H H' → Q .non H'
variable {C fI : Addr} {fdI : FuncData} {spI : Sp}
theorem ok_numbers {f : Addr} {fd : FuncData} (F : Fun K "check_numbers" "check_numbers" s_check_numbers f fd) (T : ChkTxtE P w K mg base FA FU C fI) (fi_NetError : FnOk P w K mg base CX0 1 fI fdI ["self", "path", "reason"] spI) (fb_NetError : Binds K fdI ["self", "path", "reason"] []) :
    FnG P w K mg base (L2.CX P w) 3 f fd ["net"] (spCheck K) := by
  refine okX F sc_check_numbers (fun vs H Q E h => ?_) (fun cdv A outer s H vs Q E hG hr h => ?_)
  · obtain ⟨a, N, rfl, _⟩ := h
    rfl
  · obtain ⟨a, N, rfl, hN, R, q⟩ := h
    have tk0 : Takes (cxOf (L2.CX P w) P w K mg base N_check_numbers "check_numbers" (defScope s_check_numbers) f cdv A outer s H E) (fun cls d _ H => E cls d H) := takes_of rfl rfl rfl rfl
    refine ⟨_, (pss_cons (ps_set (i := 1) sc_check_numbers.nd rfl (.inl rfl) (pe_tup (pa_cons (pe_gl (by rfl) T.g_MAX_STATIONS) (pa_cons (pe_gl (by rfl) T.g_MAX_TYPES) (pa_cons (pe_gl (by rfl) T.g_MAX_CLASSES) (pa_cons (pe_gl (by rfl) T.g_MAX_FLIGHTS) (pa_cons (pe_gl (by rfl) T.g_MAX_TAILS) (pa_cons (pe_gl (by rfl) T.g_MAX_FARES) pa_nil))))))))
    (pss_one (ps_for (passes_of rfl) rfl (pi_enumT (by rfl) T.z_enumerate (pa_cons (pv 0) pa_nil)) (pg_tup (by rfl) (pgs_cons (pg_name (i := 2) sc_check_numbers.nd rfl (.inl rfl)) (pgs_cons (pg_name (i := 3) sc_check_numbers.nd rfl (.inl rfl)) pgs_nil)))
    (pss_one (ps_if (PW.pt (pw_or (pt_cmpR op_gt (pe_callB (r := Ln.rLen K) (id := "len") c_len (by rfl) T.z_len (by decide +kernel) (pa_cons (pv 3) pa_nil)) (pe_ix (r := rIxT K) ix_tup (pv 1) (pv 2) (fun _ _ => rfl)) (nomark _)) (pw_or1 (PW.pt (pw_and (pt_cmpR op_eq (pv 2) (pe_gl (by rfl) T.g_CLASSES) (nomark _)) (pw_and1 (pt_cmpR op_eq (pe_callB (r := Ln.rLen K) (id := "len") c_len (by rfl) T.z_len (by decide +kernel) (pa_cons (pv 3) pa_nil)) pe_int (nomark _))))))))
    (pss_one (ps_raise rfl tk0 (pmk_oex T.o_NetError T.i_NetError T.t_NetError fi_NetError (hr.mono (by decide)) fb_NetError .nil pass0 (by rfl) T.m_NetError (pa_cons (pe_tup (pa_cons (pv 2) pa_nil)) (pa_cons pe_str pa_nil)))))
    pss_nil))))), ?_⟩
    refine ⟨by show 6 ≤ sizeLine; decide, fun mt nmt => ?_⟩
    have s0 := Ln.same_upd (o := .tup [.int 12, .int 4, .int 6, .int 40, .int 12, .int 40]) nmt
    obtain ⟨xs, hX, l6, hP⟩ := parts_len hN
    have hM : SqT K (upd H mt (.tup [.int 12, .int 4, .int 6, .int 40, .int 12, .int 40])) mt (mosts.map V.int) := SqT.of upd_same
    refine ⟨_, rfl, a, xs, rfl, Same.tup s0 hX, for_it (walk_enumT (K := K) (a := a) (xs := xs)) (fun i σ H' => Same (upd H mt (.tup [.int 12, .int 4, .int 6, .int 40, .int 12, .int 40])) H' ∧ ∃ v2 v3, σ = [some (.ref a), some (.ref mt), v2, v3]) ?_ ?_ ?_ ?_⟩
    · exact ⟨fun _ _ e => e, _, _, rfl⟩
    · rintro i σ H' _ ⟨sm, _⟩
      exact Same.tup (s0.trans sm) hX
    · rintro i v σ H1 H' hi ⟨sm, v2, v3, rfl⟩ ⟨T', x, y, rfl, nT, rfl, hx, hy⟩
      have hx' : x = .int (i : Nat) := (Option.some.inj hx).symm
      subst hx'
      have sT := Ln.same_upd (o := .tup [.int (i : Nat), y]) nT
      obtain ⟨ra, ys, rfl, hY, ly⟩ := hP i y hy
      obtain ⟨m, hm, hm1, hm2⟩ := R.most (show i < 6 by omega)
      refine ⟨T', _, rfl, SqT.of upd_same, rfl, _, _, rfl, _, _, rfl, rfl, ?_⟩
      have hY' := Same.tup (s0.trans (sm.trans sT)) hY
      refine ⟨_, rfl, .ref ra, ys.length, rfl, .inr ⟨_, hY', rfl⟩, _, rfl, _, rfl, mt, _, _, _, rfl, rfl, Same.tup (sm.trans sT) hM, atI_nat (by rw [List.getElem?_map, hm]; rfl), _, _, rfl, rfl, _, rfl, ?_⟩
      rw [decide_eq_false (show ¬ ((ys.length : Int) > m) by rw [ly]; omega)]
      refine iteF ⟨_, rfl, rfl, _, rfl, ?_⟩
      by_cases e : i = 2
      · rw [decide_eq_true (show V.int ((i : Nat) : Int) = V.int 2 by rw [e]; rfl)]
        refine iteT ⟨_, rfl, .ref ra, ys.length, rfl, .inr ⟨_, hY', rfl⟩, rfl, _, rfl, ?_⟩
        rw [decide_eq_false (show ¬ V.int ((ys.length : Nat) : Int) = V.int 0 from fun z => by injection z; have := hm2 e; omega)]
        exact iteF ⟨sm.trans sT, _, _, rfl⟩
      · rw [decide_eq_false (show ¬ V.int ((i : Nat) : Int) = V.int 2 from fun z => e (by injection z; omega))]
        exact iteF (iteF ⟨sm.trans sT, _, _, rfl⟩)
    · rintro σ H' ⟨sm, v2, v3, rfl⟩
      exact q H' (s0.trans sm)
end
end Mine
set_option Elab.async false
set_option linter.all false
set_option maxRecDepth 100000
set_option maxHeartbeats 16000000
namespace Mine
open PySem PySem.Spec PyProof.Rows L2 Ln RZ
section
variable {P : Program} {w : World} {K : PySem.W.Frag} {mg : Str → Option Value} {base : Heap} {FA FU C fI : Addr} {fdI : FuncData} {spI : Sp}
theorem Right.allFlown {N : Net} (h : Right N) {f : Flt} (m : f ∈ N.fl) : f.name ∈ flown N N.tl.length := by
  obtain ⟨R, _, _, _, e, hp⟩ := h.rows
  obtain ⟨r, hr, hf⟩ := List.mem_flatMap.mp (hp.mem_iff.mp m)
  obtain ⟨k, hk, er⟩ := List.mem_iff_getElem.mp hr
  unfold flown
  rw [List.take_length, e, List.mem_flatMap]
  refine ⟨(nnm k, r.1.1, r.2.map Flt.name), ?_, List.mem_map_of_mem hf⟩
  unfold tlOf
  rw [List.mem_mapIdx]
  exact ⟨k, hk, by rw [er]⟩
theorem ok_check {f : Addr} {fd : FuncData} (F : Fun K "check" "check" s_check f fd) (T : ChkTxtE P w K mg base FA FU C fI) (fi_NetError : FnOk P w K mg base CX0 1 fI fdI ["self", "path", "reason"] spI) (fb_NetError : Binds K fdI ["self", "path", "reason"] [])
    (c_has_shape : Cg P w K mg base CX0 6 "has_shape" (spShape K)) (c_check_numbers : Cg P w K mg base (L2.CX P w) 3 "check_numbers" (spCheck K)) (c_row_fault : Cg P w K mg base CX0 4 "row_fault" (spRowFault K)) (c_flown_before : Cg P w K mg base CX0 1 "flown_before" (spFlown K)) :
    FnG P w K mg base (L2.CX P w) 7 f fd ["net"] (spCheck K) := by
  refine okX F sc_check (fun vs H Q E h => ?_) (fun cdv A outer s H vs Q E hG hr h => ?_)
  · obtain ⟨a, N, rfl, _⟩ := h
    rfl
  · obtain ⟨a, N, rfl, hN, R, q⟩ := h
    have tk0 : Takes (cxOf (L2.CX P w) P w K mg base N_check "check" (defScope s_check) f cdv A outer s H E) (fun cls d _ H => E cls d H) := takes_of rfl rfl rfl rfl
    refine ⟨_, (pss_cons (ps_if (pt_not (pt_val (pe_cg c_has_shape hr (by decide) hG (by rfl) (pa_cons (pv 0) pa_nil))))
    (pss_one (ps_raise rfl tk0 (pmk_oex T.o_NetError T.i_NetError T.t_NetError fi_NetError (hr.mono (by decide)) fb_NetError .nil pass0 (by rfl) T.m_NetError (pa_cons (pe_tup pa_nil) (pa_cons pe_str pa_nil)))))
    pss_nil)
    (pss_cons (ps_expr (pe_cgS c_check_numbers hr (by decide) hG (fun _ => passE tk0) (by rfl) (pa_cons (pv 0) pa_nil)))
    (pss_cons (ps_for (passes_of rfl) rfl (pi_enumT (by rfl) T.z_enumerate (pa_cons (pv 0) pa_nil)) (pg_tup (by rfl) (pgs_cons (pg_name (i := 1) sc_check.nd rfl (.inl rfl)) (pgs_cons (pg_name (i := 2) sc_check.nd rfl (.inl rfl)) pgs_nil)))
    (pss_one (ps_for (passes_of rfl) rfl (pi_range1 (by rfl) T.z_range (pa_cons (pe_callB (r := Ln.rLen K) (id := "len") c_len (by rfl) T.z_len (by decide +kernel) (pa_cons (pv 2) pa_nil)) pa_nil)) (pg_name (i := 3) sc_check.nd rfl (.inl rfl))
    (pss_cons (ps_set (i := 4) sc_check.nd rfl (.inl rfl) (pe_cg c_row_fault hr (by decide) hG (by rfl) (pa_cons (pv 0) (pa_cons (pv 1) (pa_cons (pv 3) pa_nil)))))
    (pss_one (ps_if (pt_cmpR op_ne (pv 4) pe_str (nomark _))
    (pss_one (ps_raise rfl tk0 (pmk_oex T.o_NetError T.i_NetError T.t_NetError fi_NetError (hr.mono (by decide)) fb_NetError .nil pass0 (by rfl) T.m_NetError (pa_cons (pe_tup (pa_cons (pv 1) (pa_cons (pv 3) pa_nil))) (pa_cons (pv 4) pa_nil)))))
    pss_nil))))))
    (pss_cons (ps_set (i := 5) sc_check.nd rfl (.inl rfl) (pe_cg c_flown_before hr (by decide) hG (by rfl) (pa_cons (pv 0) (pa_cons (pe_callB (r := Ln.rLen K) (id := "len") c_len (by rfl) T.z_len (by decide +kernel) (pa_cons (pe_ix (r := rIxT K) ix_tup (pv 0) (pe_gl (by rfl) T.g_TAILS) (fun _ _ => rfl)) pa_nil)) pa_nil))))
    (pss_one (ps_for (passes_of rfl) rfl (pi_enumT (by rfl) T.z_enumerate (pa_cons (pe_ix (r := rIxT K) ix_tup (pv 0) (pe_gl (by rfl) T.g_FLIGHTS) (fun _ _ => rfl)) pa_nil)) (pg_tup (by rfl) (pgs_cons (pg_name (i := 3) sc_check.nd rfl (.inl rfl)) (pgs_cons (pg_name (i := 6) sc_check.nd rfl (.inl rfl)) pgs_nil)))
    (pss_one (ps_if (pt_cmpR (r := rIn K true) op_notIn_seq (pe_ix (r := rIxT K) ix_tup (pv 6) pe_int (fun _ _ => rfl)) (pv 5) (by rfl))
    (pss_one (ps_raise rfl tk0 (pmk_oex T.o_NetError T.i_NetError T.t_NetError fi_NetError (hr.mono (by decide)) fb_NetError .nil pass0 (by rfl) T.m_NetError (pa_cons (pe_tup (pa_cons (pe_gl (by rfl) T.g_FLIGHTS) (pa_cons (pv 3) pa_nil))) (pa_cons pe_str pa_nil)))))
    pss_nil)))))))), ?_⟩
    obtain ⟨xs, hX, l6, hP⟩ := parts_len hN
    refine ⟨_, rfl, a, N, rfl, hN, R, fun H1 sm1 => ⟨_, rfl, iteF ?_⟩⟩
    refine ⟨_, rfl, a, N, rfl, Same.dp sm1 (noL_net N) hN, R, fun H2 sm2 => ?_⟩
    have s12 := sm1.trans sm2
    refine ⟨_, rfl, a, xs, rfl, Same.tup s12 hX, for_it (walk_enumT (K := K) (a := a) (xs := xs)) (fun i σ H' => Same H2 H' ∧ ∃ v1 v2 v3 v4, σ = [some (.ref a), v1, v2, v3, v4, none, none]) ?_ ?_ ?_ ?_⟩
    · exact ⟨fun _ _ e => e, _, _, _, _, rfl⟩
    · rintro i σ H' _ ⟨sm, _⟩
      exact Same.tup (s12.trans sm) hX
    · rintro i v σ H3 H' hi ⟨sm, v1, v2, v3, v4, rfl⟩ ⟨T', x, y, rfl, nT, rfl, hx, hy⟩
      have hx' : x = .int (i : Nat) := (Option.some.inj hx).symm
      subst hx'
      have sT := Ln.same_upd (o := .tup [.int (i : Nat), y]) nT
      obtain ⟨ra, ys, rfl, hY, ly⟩ := hP i y hy
      have s3 := (s12.trans sm).trans sT
      refine ⟨T', _, rfl, SqT.of upd_same, rfl, _, _, rfl, _, _, rfl, rfl, ?_⟩
      have hlen : ys.length < 100 := by
        obtain ⟨m, hm, h1, _⟩ := R.most (show i < 6 by omega)
        have h2 : m ≤ 40 := by
          have : ∀ x ∈ mosts, x ≤ 40 := by decide
          exact this m (List.mem_of_getElem? hm)
        omega
      refine ⟨_, rfl, .ref ra, ys.length, rfl, .inr ⟨_, Same.tup s3 hY, rfl⟩, _, rfl, by omega, by omega, for_range (lo := 0) (n := ys.length) (fun j σ H' => Same H2 H' ∧ ∃ v3 v4, σ = [some (.ref a), some (.int (i : Nat)), some (.ref ra), v3, v4, none, none]) ?_ ?_ ?_⟩
      · exact ⟨sm.trans sT, _, _, rfl⟩
      · rintro j σ H' hj ⟨sm4, v3, v4, rfl⟩
        have ej : (0 : Int) + (j : Int) = ((j : Nat) : Int) := by omega
        refine ⟨_, rfl, _, rfl, _, rfl, a, N, i, j, by rw [ej], Same.dp (s12.trans sm4) (noL_net N) hN, R, by omega, by rw [← ly]; exact hj, fun H5 sm5 => ?_⟩
        refine ⟨_, rfl, rfl, _, rfl, ?_⟩
        rw [decide_eq_true rfl]
        exact iteF ⟨sm4.trans sm5, _, _, rfl⟩
      · rintro σ H' ⟨sm4, v3, v4, rfl⟩
        exact ⟨sm4, _, _, _, _, rfl⟩
    · rintro σ H3 ⟨sm, v1, v2, v3, v4, rfl⟩
      have s3 := s12.trans sm
      obtain ⟨s_, t, c, f_, l, r, h0, h1, h2, h3, h4, h5, h6⟩ := net_at (Same.dp s3 (noL_net N) hN)
      obtain ⟨tls, hTl, hTd⟩ := tup_at h5
      have ltl : tls.length = N.tl.length := by rw [DpAll.len hTd, List.length_map]
      refine ⟨_, rfl, _, rfl, a, _, _, _, rfl, rfl, h0, atI_nat (j := 4) rfl, .ref l, N.tl.length, rfl, .inr ⟨tls, hTl, ltl.symm⟩, flownC (Same.dp s3 (noL_net N) hN) R fun L H4 sm4 nL hL => ?_⟩
      obtain ⟨fls, hF, hFd⟩ := tup_at (Same.dp sm4 (by simpa only [noL] using noLs_map noL_fl N.fl) h4)
      refine ⟨_, rfl, a, _, _, _, rfl, rfl, Same.tup sm4 h0, atI_nat (j := 3) rfl, f_, fls, rfl, hF, for_it (walk_enumT (K := K) (a := f_) (xs := fls)) (fun i σ H' => Same H4 H' ∧ ∃ v1 v2 v3 v4 v6, σ = [some (.ref a), v1, v2, v3, v4, some (.ref L), v6]) ?_ ?_ ?_ ?_⟩
      · exact ⟨fun _ _ e => e, _, _, _, _, _, rfl⟩
      · rintro i σ H' _ ⟨sm, _⟩
        exact Same.tup sm hF
      · rintro i v σ H5 H' hi ⟨sm5, w1, w2, w3, w4, w6, rfl⟩ ⟨T', x, y, rfl, nT, rfl, hx, hy⟩
        have sT := Ln.same_upd (o := .tup [x, y]) nT
        obtain ⟨d, hd, hdy⟩ := DpAll.get hFd (show fls[i]? = some y from hy)
        rw [List.getElem?_map] at hd
        obtain ⟨g, hg, rfl⟩ := Option.map_eq_some_iff.mp hd
        obtain ⟨gt, lt, rfl, hgt, _⟩ := fl_at hdy
        refine ⟨T', _, rfl, SqT.of upd_same, rfl, _, _, rfl, _, _, rfl, rfl, ?_⟩
        refine ⟨_, rfl, gt, _, _, _, rfl, rfl, Same.tup (sm5.trans sT) hgt, atI_nat (j := 0) rfl, _, rfl, L, _, rfl, .inl (SqL.of ((sm5.trans sT) _ _ hL)), rfl, flat_strs _, _, rfl, ?_⟩
        rw [show (if (true : Bool) = true then !inV (V.str g.name) ((flown N N.tl.length).map V.str) else inV (V.str g.name) ((flown N N.tl.length).map V.str)) = false from by rw [inV_strs, decide_eq_true (R.allFlown (List.mem_of_getElem? hg))]; rfl]
        exact iteF ⟨sm5.trans sT, _, _, _, _, _, rfl⟩
      · rintro σ H' ⟨sm5, w1, w2, w3, w4, w6, rfl⟩
        exact q H' ((s3.trans sm4).trans sm5)
end
end Mine
set_option Elab.async false
set_option linter.all false
set_option maxRecDepth 100000
set_option maxHeartbeats 16000000
namespace Mine
open PySem PySem.Spec PyProof.Rows L2 Ln RZ
abbrev s_StationD_initD : Stmt := inClass (topS 60) 0
abbrev N_StationD_initD : List Str := ["self", "row"]
theorem sc_StationD_initD : FnScope N_StationD_initD ["self", "row"] (defScope s_StationD_initD) := ⟨rfl, rfl, rfl, by decide +kernel, rfl, by decide +kernel, by decide +kernel⟩
-- slots: 0 self, 1 row
abbrev s_KindD_initD : Stmt := inClass (topS 61) 0
abbrev N_KindD_initD : List Str := ["self", "row"]
theorem sc_KindD_initD : FnScope N_KindD_initD ["self", "row"] (defScope s_KindD_initD) := ⟨rfl, rfl, rfl, by decide +kernel, rfl, by decide +kernel, by decide +kernel⟩
-- slots: 0 self, 1 row
abbrev s_FlightD_initD : Stmt := inClass (topS 62) 0
abbrev N_FlightD_initD : List Str := ["self", "row"]
theorem sc_FlightD_initD : FnScope N_FlightD_initD ["self", "row"] (defScope s_FlightD_initD) := ⟨rfl, rfl, rfl, by decide +kernel, rfl, by decide +kernel, by decide +kernel⟩
-- slots: 0 self, 1 row
abbrev s_TailD_initD : Stmt := inClass (topS 63) 0
abbrev N_TailD_initD : List Str := ["self", "row"]
theorem sc_TailD_initD : FnScope N_TailD_initD ["self", "row"] (defScope s_TailD_initD) := ⟨rfl, rfl, rfl, by decide +kernel, rfl, by decide +kernel, by decide +kernel⟩
-- slots: 0 self, 1 row
abbrev s_FareD_initD : Stmt := inClass (topS 64) 0
abbrev N_FareD_initD : List Str := ["self", "row"]
theorem sc_FareD_initD : FnScope N_FareD_initD ["self", "row"] (defScope s_FareD_initD) := ⟨rfl, rfl, rfl, by decide +kernel, rfl, by decide +kernel, by decide +kernel⟩
-- slots: 0 self, 1 row
section
variable {P : Program} {w : World} {K : PySem.W.Frag} {mg : Str → Option Value} {base : Heap} {FA FU C fI : Addr}
theorem upd_upd {H : Hp} {a : Addr} {o u : HO} : upd (upd H a o) a u = upd H a u := by
  funext b
  by_cases e : b = a
  · rw [e, upd_same, upd_same]
  · rw [upd_ne e, upd_ne e, upd_ne e]
/-- an object is made of a row: its fields in the row's order -/
def spRowObj (K : PySem.W.Frag) (C : Addr) (fs : List Str) : Sp := fun vs H Q _ => ∃ (x dx rt : Addr) (zs : List V), vs = [.ref x, .ref rt] ∧ H x = some (.ins C dx []) ∧ SqT K H rt zs ∧ zs.length = fs.length ∧ Q .non (upd H x (.ins C dx (fs.zip zs)))
/-- what a row's class has -/
structure RowCls (K : PySem.W.Frag) (C : Addr) (fs : List Str) : Prop where
  cls : Cls K C
  no : ∀ f ∈ fs, NoAttr K C f
theorem ok_station {f : Addr} {fd : FuncData} (F : Fun K "__init__" "Station.__init__" s_StationD_initD f fd) (cC : RowCls K C ["name", "zone", "least"]) : FnOk P w K mg base CX0 1 f fd ["self", "row"] (spRowObj K C ["name", "zone", "least"]) := by
  refine F.ok sc_StationD_initD (fun vs H Q E h => ?_) (fun cdv A outer s H vs Q E hr h => ?_)
  · obtain ⟨x, dx, rt, zs, rfl, _⟩ := h
    rfl
  · obtain ⟨x, dx, rt, zs, rfl, hx, hz, hl, q⟩ := h
    refine ⟨_, (pss_cons (ps_fld (pv 0) (pe_ix (r := rIxT K) ix_tup (pv 1) pe_int (fun _ _ => rfl)) rfl)
    (pss_cons (ps_fld (pv 0) (pe_ix (r := rIxT K) ix_tup (pv 1) pe_int (fun _ _ => rfl)) rfl)
    (pss_one (ps_fld (pv 0) (pe_ix (r := rIxT K) ix_tup (pv 1) pe_int (fun _ _ => rfl)) rfl)))), ?_⟩
    match zs, hl, hz, q with
    | [z0, z1, z2], _, hz, q =>
      have s1 : ∀ o, SqT K (upd H x o) rt [z0, z1, z2] := fun o => by
        rcases hz with (z | ⟨u, z⟩) | z
        · exact .inl (.inl (by rw [upd_ne (fun e => by rw [e, hx] at z; cases z)]; exact z))
        · exact .inl (.inr ⟨u, by rw [upd_ne (fun e => by rw [e, hx] at z; cases z)]; exact z⟩)
        · exact .inr z
      refine ⟨_, rfl, rt, _, _, _, rfl, rfl, hz, atI_nat (j := 0) rfl, _, rfl, x, C, dx, _, rfl, hx, cC.cls, cC.no _ (by simp), by show 0 < 1000; decide, ?_⟩
      refine ⟨_, rfl, rt, _, _, _, rfl, rfl, s1 _, atI_nat (j := 1) rfl, _, rfl, x, C, dx, _, rfl, upd_same, cC.cls, cC.no _ (by simp), by show 1 < 1000; decide, ?_⟩
      rw [upd_upd]
      refine ⟨_, rfl, rt, _, _, _, rfl, rfl, s1 _, atI_nat (j := 2) rfl, _, rfl, x, C, dx, _, rfl, upd_same, cC.cls, cC.no _ (by simp), by show 2 < 1000; decide, ?_⟩
      rw [upd_upd]
      exact q
theorem ok_kind {f : Addr} {fd : FuncData} (F : Fun K "__init__" "Kind.__init__" s_KindD_initD f fd) (cC : RowCls K C ["name", "seats", "turn"]) : FnOk P w K mg base CX0 1 f fd ["self", "row"] (spRowObj K C ["name", "seats", "turn"]) := by
  refine F.ok sc_KindD_initD (fun vs H Q E h => ?_) (fun cdv A outer s H vs Q E hr h => ?_)
  · obtain ⟨x, dx, rt, zs, rfl, _⟩ := h
    rfl
  · obtain ⟨x, dx, rt, zs, rfl, hx, hz, hl, q⟩ := h
    refine ⟨_, (pss_cons (ps_fld (pv 0) (pe_ix (r := rIxT K) ix_tup (pv 1) pe_int (fun _ _ => rfl)) rfl)
    (pss_cons (ps_fld (pv 0) (pe_ix (r := rIxT K) ix_tup (pv 1) pe_int (fun _ _ => rfl)) rfl)
    (pss_one (ps_fld (pv 0) (pe_ix (r := rIxT K) ix_tup (pv 1) pe_int (fun _ _ => rfl)) rfl)))), ?_⟩
    match zs, hl, hz, q with
    | [z0, z1, z2], _, hz, q =>
      have s1 : ∀ o, SqT K (upd H x o) rt [z0, z1, z2] := fun o => by
        rcases hz with (z | ⟨u, z⟩) | z
        · exact .inl (.inl (by rw [upd_ne (fun e => by rw [e, hx] at z; cases z)]; exact z))
        · exact .inl (.inr ⟨u, by rw [upd_ne (fun e => by rw [e, hx] at z; cases z)]; exact z⟩)
        · exact .inr z
      refine ⟨_, rfl, rt, _, _, _, rfl, rfl, hz, atI_nat (j := 0) rfl, _, rfl, x, C, dx, _, rfl, hx, cC.cls, cC.no _ (by simp), by show 0 < 1000; decide, ?_⟩
      refine ⟨_, rfl, rt, _, _, _, rfl, rfl, s1 _, atI_nat (j := 1) rfl, _, rfl, x, C, dx, _, rfl, upd_same, cC.cls, cC.no _ (by simp), by show 1 < 1000; decide, ?_⟩
      rw [upd_upd]
      refine ⟨_, rfl, rt, _, _, _, rfl, rfl, s1 _, atI_nat (j := 2) rfl, _, rfl, x, C, dx, _, rfl, upd_same, cC.cls, cC.no _ (by simp), by show 2 < 1000; decide, ?_⟩
      rw [upd_upd]
      exact q
theorem ok_flight {f : Addr} {fd : FuncData} (F : Fun K "__init__" "Flight.__init__" s_FlightD_initD f fd) (cC : RowCls K C ["name", "start", "end", "depart", "arrive", "kind", "distance", "limits"]) : FnOk P w K mg base CX0 1 f fd ["self", "row"] (spRowObj K C ["name", "start", "end", "depart", "arrive", "kind", "distance", "limits"]) := by
  refine F.ok sc_FlightD_initD (fun vs H Q E h => ?_) (fun cdv A outer s H vs Q E hr h => ?_)
  · obtain ⟨x, dx, rt, zs, rfl, _⟩ := h
    rfl
  · obtain ⟨x, dx, rt, zs, rfl, hx, hz, hl, q⟩ := h
    refine ⟨_, (pss_cons (ps_fld (pv 0) (pe_ix (r := rIxT K) ix_tup (pv 1) pe_int (fun _ _ => rfl)) rfl)
    (pss_cons (ps_fld (pv 0) (pe_ix (r := rIxT K) ix_tup (pv 1) pe_int (fun _ _ => rfl)) rfl)
    (pss_cons (ps_fld (pv 0) (pe_ix (r := rIxT K) ix_tup (pv 1) pe_int (fun _ _ => rfl)) rfl)
    (pss_cons (ps_fld (pv 0) (pe_ix (r := rIxT K) ix_tup (pv 1) pe_int (fun _ _ => rfl)) rfl)
    (pss_cons (ps_fld (pv 0) (pe_ix (r := rIxT K) ix_tup (pv 1) pe_int (fun _ _ => rfl)) rfl)
    (pss_cons (ps_fld (pv 0) (pe_ix (r := rIxT K) ix_tup (pv 1) pe_int (fun _ _ => rfl)) rfl)
    (pss_cons (ps_fld (pv 0) (pe_ix (r := rIxT K) ix_tup (pv 1) pe_int (fun _ _ => rfl)) rfl)
    (pss_one (ps_fld (pv 0) (pe_ix (r := rIxT K) ix_tup (pv 1) pe_int (fun _ _ => rfl)) rfl))))))))), ?_⟩
    match zs, hl, hz, q with
    | [z0, z1, z2, z3, z4, z5, z6, z7], _, hz, q =>
      have s1 : ∀ o, SqT K (upd H x o) rt [z0, z1, z2, z3, z4, z5, z6, z7] := fun o => by
        rcases hz with (z | ⟨u, z⟩) | z
        · exact .inl (.inl (by rw [upd_ne (fun e => by rw [e, hx] at z; cases z)]; exact z))
        · exact .inl (.inr ⟨u, by rw [upd_ne (fun e => by rw [e, hx] at z; cases z)]; exact z⟩)
        · exact .inr z
      refine ⟨_, rfl, rt, _, _, _, rfl, rfl, hz, atI_nat (j := 0) rfl, _, rfl, x, C, dx, _, rfl, hx, cC.cls, cC.no _ (by simp), by show 0 < 1000; decide, ?_⟩
      refine ⟨_, rfl, rt, _, _, _, rfl, rfl, s1 _, atI_nat (j := 1) rfl, _, rfl, x, C, dx, _, rfl, upd_same, cC.cls, cC.no _ (by simp), by show 1 < 1000; decide, ?_⟩
      rw [upd_upd]
      refine ⟨_, rfl, rt, _, _, _, rfl, rfl, s1 _, atI_nat (j := 2) rfl, _, rfl, x, C, dx, _, rfl, upd_same, cC.cls, cC.no _ (by simp), by show 2 < 1000; decide, ?_⟩
      rw [upd_upd]
      refine ⟨_, rfl, rt, _, _, _, rfl, rfl, s1 _, atI_nat (j := 3) rfl, _, rfl, x, C, dx, _, rfl, upd_same, cC.cls, cC.no _ (by simp), by show 3 < 1000; decide, ?_⟩
      rw [upd_upd]
      refine ⟨_, rfl, rt, _, _, _, rfl, rfl, s1 _, atI_nat (j := 4) rfl, _, rfl, x, C, dx, _, rfl, upd_same, cC.cls, cC.no _ (by simp), by show 4 < 1000; decide, ?_⟩
      rw [upd_upd]
      refine ⟨_, rfl, rt, _, _, _, rfl, rfl, s1 _, atI_nat (j := 5) rfl, _, rfl, x, C, dx, _, rfl, upd_same, cC.cls, cC.no _ (by simp), by show 5 < 1000; decide, ?_⟩
      rw [upd_upd]
      refine ⟨_, rfl, rt, _, _, _, rfl, rfl, s1 _, atI_nat (j := 6) rfl, _, rfl, x, C, dx, _, rfl, upd_same, cC.cls, cC.no _ (by simp), by show 6 < 1000; decide, ?_⟩
      rw [upd_upd]
      refine ⟨_, rfl, rt, _, _, _, rfl, rfl, s1 _, atI_nat (j := 7) rfl, _, rfl, x, C, dx, _, rfl, upd_same, cC.cls, cC.no _ (by simp), by show 7 < 1000; decide, ?_⟩
      rw [upd_upd]
      exact q
theorem ok_tail {f : Addr} {fd : FuncData} (F : Fun K "__init__" "Tail.__init__" s_TailD_initD f fd) (cC : RowCls K C ["name", "kind", "flights"]) : FnOk P w K mg base CX0 1 f fd ["self", "row"] (spRowObj K C ["name", "kind", "flights"]) := by
  refine F.ok sc_TailD_initD (fun vs H Q E h => ?_) (fun cdv A outer s H vs Q E hr h => ?_)
  · obtain ⟨x, dx, rt, zs, rfl, _⟩ := h
    rfl
  · obtain ⟨x, dx, rt, zs, rfl, hx, hz, hl, q⟩ := h
    refine ⟨_, (pss_cons (ps_fld (pv 0) (pe_ix (r := rIxT K) ix_tup (pv 1) pe_int (fun _ _ => rfl)) rfl)
    (pss_cons (ps_fld (pv 0) (pe_ix (r := rIxT K) ix_tup (pv 1) pe_int (fun _ _ => rfl)) rfl)
    (pss_one (ps_fld (pv 0) (pe_ix (r := rIxT K) ix_tup (pv 1) pe_int (fun _ _ => rfl)) rfl)))), ?_⟩
    match zs, hl, hz, q with
    | [z0, z1, z2], _, hz, q =>
      have s1 : ∀ o, SqT K (upd H x o) rt [z0, z1, z2] := fun o => by
        rcases hz with (z | ⟨u, z⟩) | z
        · exact .inl (.inl (by rw [upd_ne (fun e => by rw [e, hx] at z; cases z)]; exact z))
        · exact .inl (.inr ⟨u, by rw [upd_ne (fun e => by rw [e, hx] at z; cases z)]; exact z⟩)
        · exact .inr z
      refine ⟨_, rfl, rt, _, _, _, rfl, rfl, hz, atI_nat (j := 0) rfl, _, rfl, x, C, dx, _, rfl, hx, cC.cls, cC.no _ (by simp), by show 0 < 1000; decide, ?_⟩
      refine ⟨_, rfl, rt, _, _, _, rfl, rfl, s1 _, atI_nat (j := 1) rfl, _, rfl, x, C, dx, _, rfl, upd_same, cC.cls, cC.no _ (by simp), by show 1 < 1000; decide, ?_⟩
      rw [upd_upd]
      refine ⟨_, rfl, rt, _, _, _, rfl, rfl, s1 _, atI_nat (j := 2) rfl, _, rfl, x, C, dx, _, rfl, upd_same, cC.cls, cC.no _ (by simp), by show 2 < 1000; decide, ?_⟩
      rw [upd_upd]
      exact q
theorem ok_fare {f : Addr} {fd : FuncData} (F : Fun K "__init__" "Fare.__init__" s_FareD_initD f fd) (cC : RowCls K C ["name", "start", "end", "cabin", "price", "stops", "fee", "back"]) : FnOk P w K mg base CX0 1 f fd ["self", "row"] (spRowObj K C ["name", "start", "end", "cabin", "price", "stops", "fee", "back"]) := by
  refine F.ok sc_FareD_initD (fun vs H Q E h => ?_) (fun cdv A outer s H vs Q E hr h => ?_)
  · obtain ⟨x, dx, rt, zs, rfl, _⟩ := h
    rfl
  · obtain ⟨x, dx, rt, zs, rfl, hx, hz, hl, q⟩ := h
    refine ⟨_, (pss_cons (ps_fld (pv 0) (pe_ix (r := rIxT K) ix_tup (pv 1) pe_int (fun _ _ => rfl)) rfl)
    (pss_cons (ps_fld (pv 0) (pe_ix (r := rIxT K) ix_tup (pv 1) pe_int (fun _ _ => rfl)) rfl)
    (pss_cons (ps_fld (pv 0) (pe_ix (r := rIxT K) ix_tup (pv 1) pe_int (fun _ _ => rfl)) rfl)
    (pss_cons (ps_fld (pv 0) (pe_ix (r := rIxT K) ix_tup (pv 1) pe_int (fun _ _ => rfl)) rfl)
    (pss_cons (ps_fld (pv 0) (pe_ix (r := rIxT K) ix_tup (pv 1) pe_int (fun _ _ => rfl)) rfl)
    (pss_cons (ps_fld (pv 0) (pe_ix (r := rIxT K) ix_tup (pv 1) pe_int (fun _ _ => rfl)) rfl)
    (pss_cons (ps_fld (pv 0) (pe_ix (r := rIxT K) ix_tup (pv 1) pe_int (fun _ _ => rfl)) rfl)
    (pss_one (ps_fld (pv 0) (pe_ix (r := rIxT K) ix_tup (pv 1) pe_int (fun _ _ => rfl)) rfl))))))))), ?_⟩
    match zs, hl, hz, q with
    | [z0, z1, z2, z3, z4, z5, z6, z7], _, hz, q =>
      have s1 : ∀ o, SqT K (upd H x o) rt [z0, z1, z2, z3, z4, z5, z6, z7] := fun o => by
        rcases hz with (z | ⟨u, z⟩) | z
        · exact .inl (.inl (by rw [upd_ne (fun e => by rw [e, hx] at z; cases z)]; exact z))
        · exact .inl (.inr ⟨u, by rw [upd_ne (fun e => by rw [e, hx] at z; cases z)]; exact z⟩)
        · exact .inr z
      refine ⟨_, rfl, rt, _, _, _, rfl, rfl, hz, atI_nat (j := 0) rfl, _, rfl, x, C, dx, _, rfl, hx, cC.cls, cC.no _ (by simp), by show 0 < 1000; decide, ?_⟩
      refine ⟨_, rfl, rt, _, _, _, rfl, rfl, s1 _, atI_nat (j := 1) rfl, _, rfl, x, C, dx, _, rfl, upd_same, cC.cls, cC.no _ (by simp), by show 1 < 1000; decide, ?_⟩
      rw [upd_upd]
      refine ⟨_, rfl, rt, _, _, _, rfl, rfl, s1 _, atI_nat (j := 2) rfl, _, rfl, x, C, dx, _, rfl, upd_same, cC.cls, cC.no _ (by simp), by show 2 < 1000; decide, ?_⟩
      rw [upd_upd]
      refine ⟨_, rfl, rt, _, _, _, rfl, rfl, s1 _, atI_nat (j := 3) rfl, _, rfl, x, C, dx, _, rfl, upd_same, cC.cls, cC.no _ (by simp), by show 3 < 1000; decide, ?_⟩
      rw [upd_upd]
      refine ⟨_, rfl, rt, _, _, _, rfl, rfl, s1 _, atI_nat (j := 4) rfl, _, rfl, x, C, dx, _, rfl, upd_same, cC.cls, cC.no _ (by simp), by show 4 < 1000; decide, ?_⟩
      rw [upd_upd]
      refine ⟨_, rfl, rt, _, _, _, rfl, rfl, s1 _, atI_nat (j := 5) rfl, _, rfl, x, C, dx, _, rfl, upd_same, cC.cls, cC.no _ (by simp), by show 5 < 1000; decide, ?_⟩
      rw [upd_upd]
      refine ⟨_, rfl, rt, _, _, _, rfl, rfl, s1 _, atI_nat (j := 6) rfl, _, rfl, x, C, dx, _, rfl, upd_same, cC.cls, cC.no _ (by simp), by show 6 < 1000; decide, ?_⟩
      rw [upd_upd]
      refine ⟨_, rfl, rt, _, _, _, rfl, rfl, s1 _, atI_nat (j := 7) rfl, _, rfl, x, C, dx, _, rfl, upd_same, cC.cls, cC.no _ (by simp), by show 7 < 1000; decide, ?_⟩
      rw [upd_upd]
      exact q
end
end Mine

set_option Elab.async false
set_option linter.all false
set_option maxRecDepth 100000
set_option maxHeartbeats 16000000
namespace Mine
open PySem PySem.Spec PyProof.Rows L2 Ln RZ
abbrev s_ChartD_initD : Stmt := inClass (topS 65) 0
abbrev N_ChartD_initD : List Str := ["self", "net", "row", "rank", "name"]
theorem sc_ChartD_initD : FnScope N_ChartD_initD ["self", "net"] (defScope s_ChartD_initD) := ⟨rfl, rfl, rfl, by decide +kernel, rfl, by decide +kernel, by decide +kernel⟩
-- slots: 0 self, 1 net, 2 row, 3 rank, 4 name
section
variable {P : Program} {w : World} {K : PySem.W.Frag} {mg : Str → Option Value} {base : Heap} {FA FU C fI : Addr}
/-- a dict of a part: a row's object by the row's name -/
def PartD (K : PySem.W.Frag) (H0 H : Hp) (D C : Addr) (fs : List Str) (ds : List PyData) : Prop := H0 D = none ∧ ∃ kvs : List (Key × V), H D = some (.dK kvs) ∧ kvs.length = ds.length ∧ ∀ (i : Nat) (x : Str) (es : List PyData), ds[i]? = some (.tuple (.str x :: es)) →
  ∃ (o dx : Addr) (zs : List V), H0 o = none ∧ kvs[i]? = some (.inr x, .ref o) ∧ H o = some (.ins C dx (fs.zip zs)) ∧ DpAll K H zs (.str x :: es) ∧ zs.length = fs.length
theorem valV_none {kvs : List (Key × V)} {ns : List Str} {x : Str} (h : kvs.map (·.1) = ns.map Sum.inr) (n : x ∉ ns) : valV kvs (.inr x) = none := by
  unfold valV
  rw [Option.map_eq_none_iff, List.find?_eq_none]
  intro p hp e
  have e' : p.1 = Sum.inr x := of_decide_eq_true e
  have m : (Sum.inr x : Key) ∈ ns.map Sum.inr := by
    rw [← h, ← e']
    exact List.mem_map_of_mem hp
  obtain ⟨y, hy, q⟩ := List.mem_map.mp m
  have : y = x := by injection q
  exact n (this ▸ hy)
theorem nodup_take {α : Type} {l : List α} (h : l.Nodup) {i : Nat} {x : α} (hx : l[i]? = some x) : x ∉ l.take i := by
  intro m
  obtain ⟨k, hk, e⟩ := List.mem_iff_getElem.mp m
  rw [List.length_take] at hk
  have q1 := List.getElem?_eq_getElem (l := l.take i) (i := k) (by rw [List.length_take]; exact hk)
  rw [List.getElem?_take, if_pos (by omega), e] at q1
  have := nodup_at h q1 hx
  omega
theorem part_dc {H : Hp} {ra : Addr} {ys : List V} {ds : List PyData} {fs names : List Str} (hY : SqT K H ra ys) (hDs : DpAll K H ys ds) (hn : noLs ds = true) (hs : ds.length ≤ 100) (nd : names.Nodup) (hl : names.length = ds.length)
    (hh : ∀ (i : Nat) (x : Str), names[i]? = some x → ∃ es, ds[i]? = some (.tuple (.str x :: es)) ∧ es.length + 1 = fs.length) {v0 v1 v2 v3 v4 : Option V} {D : Addr} (nD : H D = none) {Qd : Hp → Prop} (q : ∀ H', Same H H' → PartD K H H' D C fs ds → Qd H') :
    ∃ W : Nat → Nat → Hp → Prop, (∃ m, W 0 m (upd H D (.dK []))) ∧ ∀ i m H, W i m H →
      ((Itt K ra).stop i H ∧ Qd H) ∨ ((Itt K ra).go i H ∧ ∃ Nx : Hp → Prop, (∀ H', Nx H' → ∃ m', m' < m ∧ W (i + 1) m' H') ∧ ∀ x H', (Itt K ra).yld i H x H' → gName 2 x (wipe [v0, v1, v2, v3, v4] [2]) H' fun σ2 H2 => wipe σ2 [2] = wipe [v0, v1, v2, v3, v4] [2] ∧ tYes σ2 H2 fun b H3 =>
        if b = true then tOp (rIxT K) (tVar 2) (tC (.int 0)) σ2 H3 fun y H4 => tMake C (spRowObj K C fs) [] E0 (tCons (tVar 2) tNil) σ2 H4 fun z H5 => ∃ kvs k, y = kV k ∧ H5 D = some (.dK kvs) ∧ kvs.length < sizeLine ∧ Nx (upd H5 D (.dK (putK kvs k z))) else Nx H3) := by
  have lys : ys.length = ds.length := DpAll.len hDs
  refine dc_tup (K := K) (a := ra) (xs := ys) (fun i H' => Same H H' ∧ ∃ kvs : List (Key × V), H' D = some (.dK kvs) ∧ kvs.map (·.1) = (names.take i).map Sum.inr ∧ ∀ (j : Nat) (x : Str) (es : List PyData), j < i → ds[j]? = some (.tuple (.str x :: es)) →
    ∃ (o dx : Addr) (zs : List V), H o = none ∧ kvs[j]? = some (.inr x, .ref o) ∧ H' o = some (.ins C dx (fs.zip zs)) ∧ DpAll K H' zs (.str x :: es) ∧ zs.length = fs.length) ?_ ?_ ?_ ?_
  · exact ⟨Ln.same_upd nD, [], upd_same, rfl, fun j x es h => absurd h (Nat.not_lt_zero _)⟩
  · rintro i H' _ ⟨sm, _⟩
    exact Same.tup sm hY
  · rintro i v H1 hv ⟨sm, kvs, hD, hk, hall⟩
    obtain ⟨d, hd, hdv⟩ := DpAll.get hDs hv
    have hi := (List.getElem?_eq_some_iff.mp hv).1
    obtain ⟨nm, hnm⟩ : ∃ nm, names[i]? = some nm := ⟨_, List.getElem?_eq_getElem (by omega)⟩
    obtain ⟨es, he, hlen⟩ := hh i nm hnm
    have ed : d = .tuple (.str nm :: es) := by
      rw [hd] at he
      exact Option.some.inj he
    rw [ed] at hdv
    obtain ⟨rt, rfl⟩ := ref_of hdv
    have hl2 : noL (.tuple (.str nm :: es)) = true := by rw [← ed]; exact noLs_mem hn d (List.mem_of_getElem? hd)
    obtain ⟨zs, hZ, hZd⟩ := tup_at (Same.dp sm hl2 hdv)
    obtain ⟨z0, zr, rfl⟩ : ∃ z0 zr, zs = z0 :: zr := by
      cases hZd with
      | cons a b => exact ⟨_, _, rfl⟩
    have ez : z0 = .str nm := by
      cases hZd with
      | cons a b => cases a; rfl
    subst ez
    have lz : (V.str nm :: zr).length = fs.length := by
      have := DpAll.len hZd
      rw [this, List.length_cons, hlen]
    have lk : kvs.length = i := by
      have := congrArg List.length hk
      rw [List.length_map, List.length_map, List.length_take] at this
      omega
    refine ⟨rfl, ?_⟩
    refine ⟨_, rfl, rt, _, 0, _, rfl, rfl, hZ, atI_nat (j := 0) rfl, ?_⟩
    refine ⟨_, rfl, fun o dx no nd' ne => ?_⟩
    have sO : Same H1 (upd (upd H1 dx (.own o)) o (.ins C dx (fs.zip (V.str nm :: zr)))) := by
      intro b u e
      rw [upd_ne (ne_of_none e no), upd_ne (ne_of_none e nd')]
      exact e
    have sB : ∀ u, Same H1 (upd (upd H1 dx (.own o)) o u) := fun u b w' e => by
      rw [upd_ne (ne_of_none e no), upd_ne (ne_of_none e nd')]
      exact e
    refine ⟨o, dx, rt, _, rfl, upd_same, Same.tup (sB _) hZ, lz, rfl, kvs, .inr nm, rfl, ?_, small1 (by omega), ?_⟩
    · rw [upd_upd]
      exact sO _ _ hD
    rw [upd_upd, putK_new _ (valV_none hk (nodup_take nd hnm))]
    refine ⟨same_at (sm.trans sO) nD, _, upd_same, ?_, fun j x es' hj hdj => ?_⟩
    · rw [List.map_append, hk, takeS hnm, List.map_append]
      rfl
    · have keep : ∀ b u, H1 b = some u → b ≠ D → (upd (upd (upd H1 dx (.own o)) o (.ins C dx (fs.zip (V.str nm :: zr)))) D (.dK (kvs ++ [(.inr nm, .ref o)]))) b = some u := fun b u e n => by
        rw [upd_ne n]
        exact sO _ _ e
      have tp : TpF H1 (upd (upd (upd H1 dx (.own o)) o (.ins C dx (fs.zip (V.str nm :: zr)))) D (.dK (kvs ++ [(.inr nm, .ref o)]))) := by
        rintro b zs' (e | ⟨u, e⟩)
        · exact .inl (keep b _ e (fun z => by rw [z, hD] at e; cases e))
        · exact .inr ⟨u, keep b _ e (fun z => by rw [z, hD] at e; cases e)⟩
      by_cases e : j = i
      · subst e
        rw [he] at hdj
        cases hdj
        refine ⟨o, dx, _, sm.free no, ?_, ?_, Dp.tpfAll tp _ _ (by simpa only [noL] using hl2) hZd, lz⟩
        · rw [List.getElem?_append_right (by omega), lk, Nat.sub_self]
          rfl
        · have oD : o ≠ D := fun z => by
            rw [z, hD] at no
            cases no
          rw [upd_ne oD, upd_same]
      · obtain ⟨o2, dx2, zs2, k0, k1, k2, k3, k4⟩ := hall j x es' (by omega) hdj
        have ld : noL (.tuple (.str x :: es')) = true := noLs_mem hn _ (List.mem_of_getElem? hdj)
        exact ⟨o2, dx2, zs2, k0, by rw [List.getElem?_append_left (by omega)]; exact k1, keep _ _ k2 (fun z => by rw [z, hD] at k2; cases k2), Dp.tpfAll tp _ _ (by simpa only [noL] using ld) k3, k4⟩
  · rintro H' ⟨sm, kvs, hD, hk, hall⟩
    refine q H' sm ⟨nD, kvs, hD, ?_, fun i x es he => hall i x es (by have := (List.getElem?_eq_some_iff.mp he).1; omega) he⟩
    have := congrArg List.length hk
    rw [List.length_map, List.length_map, List.length_take] at this
    omega
theorem PartD.keep {H0 H H' : Hp} {x D C : Addr} {fs : List Str} {ds : List PyData} (h : PartD K H0 H D C fs ds) (hn : noLs ds = true) (hx : ∃ u, H0 x = some u) (hi : ∃ c dx l, H x = some (.ins c dx l)) (b : But x H H') : PartD K H0 H' D C fs ds := by
  obtain ⟨nD, kvs, hD, hl, hall⟩ := h
  obtain ⟨u, hu⟩ := hx
  obtain ⟨c, dx, l, hi⟩ := hi
  have ne : ∀ y, H0 y = none → y ≠ x := fun y hy z => by rw [z, hu] at hy; cases hy
  have tp : TpF H H' := by
    rintro y zs (e | ⟨o, e⟩)
    · exact .inl (b y _ (fun z => by rw [z, hi] at e; cases e) e)
    · exact .inr ⟨o, b y _ (fun z => by rw [z, hi] at e; cases e) e⟩
  refine ⟨nD, kvs, b _ _ (ne _ nD) hD, hl, fun i nm es he => ?_⟩
  obtain ⟨o, dx2, zs, k0, k1, k2, k3, k4⟩ := hall i nm es he
  have ld := noLs_mem hn _ (List.mem_of_getElem? he)
  exact ⟨o, dx2, zs, k0, k1, b _ _ (ne _ k0) k2, Dp.tpfAll tp _ _ (by simpa only [noL] using ld) k3, k4⟩
/-- taken earlier -/
theorem PartD.older {H0 H1 H : Hp} {D C : Addr} {fs : List Str} {ds : List PyData} (h : PartD K H1 H D C fs ds) (o : ∀ b u, H0 b = some u → ∃ u', H1 b = some u') : PartD K H0 H D C fs ds := by
  have no : ∀ b, H1 b = none → H0 b = none := fun b e => by
    cases q : H0 b with
    | none => rfl
    | some u =>
      obtain ⟨u', z⟩ := o b u q
      rw [e] at z
      cases z
  obtain ⟨nD, kvs, hD, hl, hall⟩ := h
  refine ⟨no _ nD, kvs, hD, hl, fun i nm es he => ?_⟩
  obtain ⟨o, dx2, zs, k0, k⟩ := hall i nm es he
  exact ⟨o, dx2, zs, no _ k0, k⟩
/-- the ranks of the classes -/
def RankD (H0 H : Hp) (D : Addr) (cs : List Str) : Prop := H0 D = none ∧ ∃ kvs : List (Key × V), H D = some (.dK kvs) ∧ kvs.length = cs.length ∧ ∀ (i : Nat) (x : Str), cs[i]? = some x → kvs[i]? = some (.inr x, .int (i : Nat))
theorem rank_dc {H : Hp} {ra : Addr} {cs : List Str} (hY : SqT K H ra (cs.map V.str)) (hs : cs.length ≤ 100) (nd : cs.Nodup) {v0 v1 v2 v3 v4 : Option V} {D : Addr} (nD : H D = none) {Qd : Hp → Prop} (q : ∀ H', Same H H' → RankD H H' D cs → Qd H') :
    ∃ W : Nat → Nat → Hp → Prop, (∃ m, W 0 m (upd H D (.dK []))) ∧ ∀ i m H, W i m H →
      ((IteT K ra).stop i H ∧ Qd H) ∨ ((IteT K ra).go i H ∧ ∃ Nx : Hp → Prop, (∀ H', Nx H' → ∃ m', m' < m ∧ W (i + 1) m' H') ∧ ∀ x H', (IteT K ra).yld i H x H' → gTup K 2 (gCons (gName 3) (gCons (gName 4) gNil)) x (wipe [v0, v1, v2, v3, v4] [3, 4]) H' fun σ2 H2 => wipe σ2 [3, 4] = wipe [v0, v1, v2, v3, v4] [3, 4] ∧ tYes σ2 H2 fun b H3 =>
        if b = true then tVar 4 σ2 H3 fun y H4 => tVar 3 σ2 H4 fun z H5 => ∃ kvs k, y = kV k ∧ H5 D = some (.dK kvs) ∧ kvs.length < sizeLine ∧ Nx (upd H5 D (.dK (putK kvs k z))) else Nx H3) := by
  refine dc_it (walk_enumT (K := K) (a := ra) (xs := cs.map V.str)) (fun i H' => Same H H' ∧ ∃ kvs : List (Key × V), H' D = some (.dK kvs) ∧ kvs.map (·.1) = (cs.take i).map Sum.inr ∧ ∀ (j : Nat) (x : Str), j < i → cs[j]? = some x → kvs[j]? = some (.inr x, .int (j : Nat))) ?_ ?_ ?_ ?_
  · exact ⟨Ln.same_upd nD, [], upd_same, rfl, fun j x h => absurd h (Nat.not_lt_zero _)⟩
  · rintro i H' _ ⟨sm, _⟩
    exact Same.tup sm hY
  · rintro i v H1 H' hi ⟨sm, kvs, hD, hk, hall⟩ ⟨T', x, y, rfl, nT, rfl, hx, hy⟩
    have hx' : x = .int (i : Nat) := (Option.some.inj hx).symm
    subst hx'
    have hy' : (cs.map V.str)[i]? = some y := hy
    rw [List.getElem?_map] at hy'
    obtain ⟨nm, hnm, rfl⟩ := Option.map_eq_some_iff.mp hy'
    have sT := Ln.same_upd (o := .tup [.int (i : Nat), .str nm]) nT
    have lk : kvs.length = i := by
      have := congrArg List.length hk
      rw [List.length_map, List.length_map, List.length_take] at this
      have := (List.getElem?_eq_some_iff.mp hnm).1
      omega
    refine ⟨T', _, rfl, SqT.of upd_same, rfl, _, _, rfl, _, _, rfl, rfl, rfl, ?_⟩
    refine ⟨_, rfl, _, rfl, kvs, .inr nm, rfl, sT _ _ hD, small1 (by have := (List.getElem?_eq_some_iff.mp hnm).1; omega), ?_⟩
    rw [putK_new _ (valV_none hk (nodup_take nd hnm))]
    refine ⟨same_at (sm.trans sT) nD, _, upd_same, ?_, fun j x hj hdj => ?_⟩
    · rw [List.map_append, hk, takeS hnm, List.map_append]
      rfl
    · by_cases e : j = i
      · subst e
        rw [hnm] at hdj
        cases hdj
        rw [List.getElem?_append_right (by omega), lk, Nat.sub_self]
        rfl
      · rw [List.getElem?_append_left (by omega)]
        exact hall j x (by omega) hdj
  · rintro H' ⟨sm, kvs, hD, hk, hall⟩
    rw [List.length_map] at hk hall
    refine q H' sm ⟨nD, kvs, hD, ?_, fun i x he => hall i x (List.getElem?_eq_some_iff.mp he).1 he⟩
    have := congrArg List.length hk
    rw [List.length_map, List.length_map, List.length_take] at this
    omega
end
end Mine
set_option Elab.async false
set_option linter.all false
set_option maxRecDepth 100000
set_option maxHeartbeats 16000000
namespace Mine
open PySem PySem.Spec PyProof.Rows L2 Ln RZ
/-- the classes of a chart's rows -/
structure Clss where
  st : Addr
  ki : Addr
  fl : Addr
  ta : Addr
  fa : Addr
/-- a chart's dicts -/
structure Dcts where
  d1 : Addr
  d2 : Addr
  d3 : Addr
  d4 : Addr
  d5 : Addr
  d6 : Addr
def chFs (d : Dcts) : List (Str × V) := [("stations", .ref d.d1), ("kinds", .ref d.d2), ("ranks", .ref d.d3), ("flights", .ref d.d4), ("tails", .ref d.d5), ("fares", .ref d.d6)]
structure Charted (K : PySem.W.Frag) (H0 H : Hp) (N : Net) (c : Clss) (d : Dcts) : Prop where
  p1 : PartD K H0 H d.d1 c.st ["name", "zone", "least"] (N.st.map trD)
  p2 : PartD K H0 H d.d2 c.ki ["name", "seats", "turn"] (N.ty.map trD)
  p3 : RankD H0 H d.d3 N.cl
  p4 : PartD K H0 H d.d4 c.fl ["name", "start", "end", "depart", "arrive", "kind", "distance", "limits"] (N.fl.map flD)
  p5 : PartD K H0 H d.d5 c.ta ["name", "kind", "flights"] (N.tl.map tlD)
  p6 : PartD K H0 H d.d6 c.fa ["name", "start", "end", "cabin", "price", "stops", "fee", "back"] (N.fa.map faD)
section
variable {P : Program} {w : World} {K : PySem.W.Frag} {mg : Str → Option Value} {base : Heap} {FA FU CC : Addr} {cl : Clss}
def spChart (K : PySem.W.Frag) (CC : Addr) (cl : Clss) : Sp := fun vs H Q _ => ∃ (x dx a : Addr) (N : Net), vs = [.ref x, .ref a] ∧ H x = some (.ins CC dx []) ∧ Dp K H (.ref a) (netD N) ∧ Right N ∧ ∀ H' d, But x H H' → H' x = some (.ins CC dx (chFs d)) → Charted K H H' N cl d → Q .non H'
theorem RankD.keep {H0 H H' : Hp} {x D : Addr} {cs : List Str} (h : RankD H0 H D cs) (hx : ∃ u, H0 x = some u) (b : But x H H') : RankD H0 H' D cs := by
  obtain ⟨nD, kvs, hD, h⟩ := h
  obtain ⟨u, hu⟩ := hx
  exact ⟨nD, kvs, b _ _ (fun z => by rw [z, hu] at nD; cases nD) hD, h⟩
theorem RankD.older {H0 H1 H : Hp} {D : Addr} {cs : List Str} (h : RankD H1 H D cs) (o : ∀ b u, H0 b = some u → ∃ u', H1 b = some u') : RankD H0 H D cs := by
  obtain ⟨nD, h⟩ := h
  refine ⟨?_, h⟩
  cases q : H0 D with
  | none => rfl
  | some u =>
    obtain ⟨u', z⟩ := o D u q
    rw [nD] at z
    cases z
theorem But.ins {H H' : Hp} {x : Addr} {c dx : Addr} {l : List (Str × V)} (b : But x H H') (h : H x = some (.ins c dx l)) : TpF H H' := by
  rintro y zs (e | ⟨o, e⟩)
  · exact .inl (b y _ (fun z => by rw [z, h] at e; cases e) e)
  · exact .inr ⟨o, b y _ (fun z => by rw [z, h] at e; cases e) e⟩
theorem heads1 {α : Type} {g : α → PyData} {nm : α → Str} {r : α → List PyData} {n : Nat} (hg : ∀ x, g x = .tuple (.str (nm x) :: r x)) (hr : ∀ x, (r x).length + 1 = n) (l : List α) (j : Nat) (x : Str) (h : (l.map nm)[j]? = some x) : ∃ s, (l.map g)[j]? = some (PyData.tuple (PyData.str x :: s)) ∧ s.length + 1 = n := by
  rw [List.getElem?_map] at h ⊢
  obtain ⟨y, hy, e⟩ := Option.map_eq_some_iff.mp h
  rw [hy, ← e]
  exact ⟨r y, congrArg some (hg y), hr y⟩
/-- the module's side of a chart's making -/
structure ChaTxt (mg : Str → Option Value) (K : PySem.W.Frag) (CC : Addr) : Prop where
  cls : Cls K CC
  no : ∀ f ∈ (["stations", "kinds", "ranks", "flights", "tails", "fares"] : List Str), NoAttr K CC f
theorem ok_chart {f : Addr} {fd : FuncData} (F : Fun K "__init__" "Chart.__init__" s_ChartD_initD f fd) (T : ChkTxt mg) (cC : ChaTxt mg K CC)
    (k_Station : MakG P w K mg base 1 "Station" cl.st (spRowObj K cl.st ["name", "zone", "least"]))
    (k_Kind : MakG P w K mg base 1 "Kind" cl.ki (spRowObj K cl.ki ["name", "seats", "turn"]))
    (k_Flight : MakG P w K mg base 1 "Flight" cl.fl (spRowObj K cl.fl ["name", "start", "end", "depart", "arrive", "kind", "distance", "limits"]))
    (k_Tail : MakG P w K mg base 1 "Tail" cl.ta (spRowObj K cl.ta ["name", "kind", "flights"]))
    (k_Fare : MakG P w K mg base 1 "Fare" cl.fa (spRowObj K cl.fa ["name", "start", "end", "cabin", "price", "stops", "fee", "back"]))
    : FnOk P w K mg base CX0 3 f fd ["self", "net"] (spChart K CC cl) := by
  refine F.ok sc_ChartD_initD (fun vs H Q E h => ?_) (fun cdv A outer s H vs Q E hr h => ?_)
  · obtain ⟨x, dx, a, N, rfl, _⟩ := h
    rfl
  · obtain ⟨x, dx, a, N, rfl, hx, hN, R, q⟩ := h
    refine ⟨_, (pss_cons (ps_fld (pv 0) (pe_dc (own := [("row", 2)]) rfl sc_ChartD_initD.nd (pi_tup (pe_ix (r := rIxT K) ix_tup (pv 1) (pe_gl (by rfl) T.g_STATIONS) (fun _ _ => rfl))) (blkOk_by (own := [("row", 2)]) (N := N_ChartD_initD) (sc := defScope s_ChartD_initD) (by decide +kernel)) (fun _ _ _ _ _ => (pg_name (i := 2) sc_ChartD_initD.nd rfl (.inl rfl))) (fun _ _ _ _ _ => pts_nil) (fun _ _ _ _ _ => (pe_ix (r := rIxT K) ix_tup (pv 2) pe_int (fun _ _ => rfl))) (fun _ _ _ _ _ => (pe_mkG k_Station hr (by decide) (by rfl) (pa_cons (pv 2) pa_nil)))) rfl)
    (pss_cons (ps_fld (pv 0) (pe_dc (own := [("row", 2)]) rfl sc_ChartD_initD.nd (pi_tup (pe_ix (r := rIxT K) ix_tup (pv 1) (pe_gl (by rfl) T.g_TYPES) (fun _ _ => rfl))) (blkOk_by (own := [("row", 2)]) (N := N_ChartD_initD) (sc := defScope s_ChartD_initD) (by decide +kernel)) (fun _ _ _ _ _ => (pg_name (i := 2) sc_ChartD_initD.nd rfl (.inl rfl))) (fun _ _ _ _ _ => pts_nil) (fun _ _ _ _ _ => (pe_ix (r := rIxT K) ix_tup (pv 2) pe_int (fun _ _ => rfl))) (fun _ _ _ _ _ => (pe_mkG k_Kind hr (by decide) (by rfl) (pa_cons (pv 2) pa_nil)))) rfl)
    (pss_cons (ps_fld (pv 0) (pe_dc (own := [("rank", 3), ("name", 4)]) (g := (gTup K 2 (gCons (gName 3) (gCons (gName 4) gNil)))) rfl sc_ChartD_initD.nd (pi_enumT (by rfl) T.z_enumerate (pa_cons (pe_ix (r := rIxT K) ix_tup (pv 1) (pe_gl (by rfl) T.g_CLASSES) (fun _ _ => rfl)) pa_nil)) (blkOk_by (own := [("rank", 3), ("name", 4)]) (N := N_ChartD_initD) (sc := defScope s_ChartD_initD) (by decide +kernel)) (fun _ _ _ _ _ => (pg_tup (by rfl) (pgs_cons (pg_name (i := 3) sc_ChartD_initD.nd rfl (.inl rfl)) (pgs_cons (pg_name (i := 4) sc_ChartD_initD.nd rfl (.inl rfl)) pgs_nil)))) (fun _ _ _ _ _ => pts_nil) (fun _ _ _ _ _ => (pv 4)) (fun _ _ _ _ _ => (pv 3))) rfl)
    (pss_cons (ps_fld (pv 0) (pe_dc (own := [("row", 2)]) rfl sc_ChartD_initD.nd (pi_tup (pe_ix (r := rIxT K) ix_tup (pv 1) (pe_gl (by rfl) T.g_FLIGHTS) (fun _ _ => rfl))) (blkOk_by (own := [("row", 2)]) (N := N_ChartD_initD) (sc := defScope s_ChartD_initD) (by decide +kernel)) (fun _ _ _ _ _ => (pg_name (i := 2) sc_ChartD_initD.nd rfl (.inl rfl))) (fun _ _ _ _ _ => pts_nil) (fun _ _ _ _ _ => (pe_ix (r := rIxT K) ix_tup (pv 2) pe_int (fun _ _ => rfl))) (fun _ _ _ _ _ => (pe_mkG k_Flight hr (by decide) (by rfl) (pa_cons (pv 2) pa_nil)))) rfl)
    (pss_cons (ps_fld (pv 0) (pe_dc (own := [("row", 2)]) rfl sc_ChartD_initD.nd (pi_tup (pe_ix (r := rIxT K) ix_tup (pv 1) (pe_gl (by rfl) T.g_TAILS) (fun _ _ => rfl))) (blkOk_by (own := [("row", 2)]) (N := N_ChartD_initD) (sc := defScope s_ChartD_initD) (by decide +kernel)) (fun _ _ _ _ _ => (pg_name (i := 2) sc_ChartD_initD.nd rfl (.inl rfl))) (fun _ _ _ _ _ => pts_nil) (fun _ _ _ _ _ => (pe_ix (r := rIxT K) ix_tup (pv 2) pe_int (fun _ _ => rfl))) (fun _ _ _ _ _ => (pe_mkG k_Tail hr (by decide) (by rfl) (pa_cons (pv 2) pa_nil)))) rfl)
    (pss_one (ps_fld (pv 0) (pe_dc (own := [("row", 2)]) rfl sc_ChartD_initD.nd (pi_tup (pe_ix (r := rIxT K) ix_tup (pv 1) (pe_gl (by rfl) T.g_FARES) (fun _ _ => rfl))) (blkOk_by (own := [("row", 2)]) (N := N_ChartD_initD) (sc := defScope s_ChartD_initD) (by decide +kernel)) (fun _ _ _ _ _ => (pg_name (i := 2) sc_ChartD_initD.nd rfl (.inl rfl))) (fun _ _ _ _ _ => pts_nil) (fun _ _ _ _ _ => (pe_ix (r := rIxT K) ix_tup (pv 2) pe_int (fun _ _ => rfl))) (fun _ _ _ _ _ => (pe_mkG k_Fare hr (by decide) (by rfl) (pa_cons (pv 2) pa_nil)))) rfl))))))), ?_⟩
    obtain ⟨s, t, c, f_, l, r, h0, h1, h2, h3, h4, h5, h6⟩ := net_at hN
    have n0 : ∃ u, H x = some u := ⟨_, hx⟩
    have ex0 : But x H H := But.refl _ _
    have hx0 := hx
    -- stations
    have tp0 := But.ins ex0 hx
    have g0 := TpF.tup tp0 h0
    have m0 := Dp.tpf tp0 _ _ (by simpa only [noL] using noLs_map noL_tr N.st) h1
    obtain ⟨ys0, hY0, hYd0⟩ := tup_at m0
    refine ⟨_, rfl, a, _, _, _, rfl, rfl, g0, atI_nat (j := 0) rfl, s, rfl, ⟨_, hY0⟩, fun D0 nD0 => part_dc (fs := ["name", "zone", "least"]) hY0 hYd0 (noLs_map noL_tr N.st) (by rw [List.length_map]; have := R.st.l1; omega) (R.names (i := 0) (by decide)).1 (by show (List.map _ _).length = _; rw [List.length_map, List.length_map]) (heads1 (g := trD) (nm := Prod.fst) (r := fun s => [.int s.2.1, .int s.2.2]) (fun _ => rfl) (fun _ => rfl) N.st) nD0 fun G0 sm0 pd0 => ?_⟩
    have hy0 := sm0 _ _ hx0
    refine ⟨_, rfl, x, CC, dx, _, rfl, hy0, cC.cls, cC.no _ (by simp), by show 0 < 1000; decide, ?_⟩
    have by0 : But x G0 (upd G0 x (.ins CC dx [("stations", .ref D0)])) := But.upd x G0 _
    have ex1 : But x H (upd G0 x (.ins CC dx [("stations", .ref D0)])) := (ex0.trans (Same.but sm0)).trans by0
    have hx1 : (upd G0 x (.ins CC dx [("stations", .ref D0)])) x = some (.ins CC dx [("stations", .ref D0)]) := upd_same
    -- kinds
    have tp1 := But.ins ex1 hx
    have g1 := TpF.tup tp1 h0
    have m1 := Dp.tpf tp1 _ _ (by simpa only [noL] using noLs_map noL_tr N.ty) h2
    obtain ⟨ys1, hY1, hYd1⟩ := tup_at m1
    refine ⟨_, rfl, a, _, _, _, rfl, rfl, g1, atI_nat (j := 1) rfl, t, rfl, ⟨_, hY1⟩, fun D1 nD1 => part_dc (fs := ["name", "seats", "turn"]) hY1 hYd1 (noLs_map noL_tr N.ty) (by rw [List.length_map]; have := R.ty.l1; omega) (R.names (i := 1) (by decide)).1 (by show (List.map _ _).length = _; rw [List.length_map, List.length_map]) (heads1 (g := trD) (nm := Prod.fst) (r := fun s => [.int s.2.1, .int s.2.2]) (fun _ => rfl) (fun _ => rfl) N.ty) nD1 fun G1 sm1 pd1 => ?_⟩
    have hy1 := sm1 _ _ hx1
    refine ⟨_, rfl, x, CC, dx, _, rfl, hy1, cC.cls, cC.no _ (by simp), by show 1 < 1000; decide, ?_⟩
    have by1 : But x G1 (upd G1 x (.ins CC dx [("stations", .ref D0), ("kinds", .ref D1)])) := But.upd x G1 _
    have ex2 : But x H (upd G1 x (.ins CC dx [("stations", .ref D0), ("kinds", .ref D1)])) := (ex1.trans (Same.but sm1)).trans by1
    have hx2 : (upd G1 x (.ins CC dx [("stations", .ref D0), ("kinds", .ref D1)])) x = some (.ins CC dx [("stations", .ref D0), ("kinds", .ref D1)]) := upd_same
    -- ranks
    have tp2 := But.ins ex2 hx
    have g2 := TpF.tup tp2 h0
    have m2 := strs_at (Dp.tpf tp2 _ _ (by simpa only [noL] using noLs_strs N.cl) h3)
    refine ⟨_, rfl, a, _, _, _, rfl, rfl, g2, atI_nat (j := 2) rfl, c, _, rfl, m2, fun D2 nD2 => rank_dc m2 (by have := R.cl4; omega) (R.names (i := 2) (by decide)).1 nD2 fun G2 sm2 pd2 => ?_⟩
    have hy2 := sm2 _ _ hx2
    refine ⟨_, rfl, x, CC, dx, _, rfl, hy2, cC.cls, cC.no _ (by simp), by show 2 < 1000; decide, ?_⟩
    have by2 : But x G2 (upd G2 x (.ins CC dx [("stations", .ref D0), ("kinds", .ref D1), ("ranks", .ref D2)])) := But.upd x G2 _
    have ex3 : But x H (upd G2 x (.ins CC dx [("stations", .ref D0), ("kinds", .ref D1), ("ranks", .ref D2)])) := (ex2.trans (Same.but sm2)).trans by2
    have hx3 : (upd G2 x (.ins CC dx [("stations", .ref D0), ("kinds", .ref D1), ("ranks", .ref D2)])) x = some (.ins CC dx [("stations", .ref D0), ("kinds", .ref D1), ("ranks", .ref D2)]) := upd_same
    -- flights
    have tp3 := But.ins ex3 hx
    have g3 := TpF.tup tp3 h0
    have m3 := Dp.tpf tp3 _ _ (by simpa only [noL] using noLs_map noL_fl N.fl) h4
    obtain ⟨ys3, hY3, hYd3⟩ := tup_at m3
    refine ⟨_, rfl, a, _, _, _, rfl, rfl, g3, atI_nat (j := 3) rfl, f_, rfl, ⟨_, hY3⟩, fun D3 nD3 => part_dc (fs := ["name", "start", "end", "depart", "arrive", "kind", "distance", "limits"]) hY3 hYd3 (noLs_map noL_fl N.fl) (by rw [List.length_map]; have := R.fl25; omega) (R.names (i := 3) (by decide)).1 (by show (List.map _ _).length = _; rw [List.length_map, List.length_map]) (heads1 (g := flD) (nm := Flt.name) (r := fun f => [.str f.start, .str f.fin, .int f.dep, .int f.arr, .str f.kind, .int f.dist, .tuple (f.lims.map .int)]) (fun _ => rfl) (fun _ => rfl) N.fl) nD3 fun G3 sm3 pd3 => ?_⟩
    have hy3 := sm3 _ _ hx3
    refine ⟨_, rfl, x, CC, dx, _, rfl, hy3, cC.cls, cC.no _ (by simp), by show 3 < 1000; decide, ?_⟩
    have by3 : But x G3 (upd G3 x (.ins CC dx [("stations", .ref D0), ("kinds", .ref D1), ("ranks", .ref D2), ("flights", .ref D3)])) := But.upd x G3 _
    have ex4 : But x H (upd G3 x (.ins CC dx [("stations", .ref D0), ("kinds", .ref D1), ("ranks", .ref D2), ("flights", .ref D3)])) := (ex3.trans (Same.but sm3)).trans by3
    have hx4 : (upd G3 x (.ins CC dx [("stations", .ref D0), ("kinds", .ref D1), ("ranks", .ref D2), ("flights", .ref D3)])) x = some (.ins CC dx [("stations", .ref D0), ("kinds", .ref D1), ("ranks", .ref D2), ("flights", .ref D3)]) := upd_same
    -- tails
    have tp4 := But.ins ex4 hx
    have g4 := TpF.tup tp4 h0
    have m4 := Dp.tpf tp4 _ _ (by simpa only [noL] using noLs_map noL_tl N.tl) h5
    obtain ⟨ys4, hY4, hYd4⟩ := tup_at m4
    refine ⟨_, rfl, a, _, _, _, rfl, rfl, g4, atI_nat (j := 4) rfl, l, rfl, ⟨_, hY4⟩, fun D4 nD4 => part_dc (fs := ["name", "kind", "flights"]) hY4 hYd4 (noLs_map noL_tl N.tl) (by rw [List.length_map]; have := R.tl5; omega) (R.names (i := 4) (by decide)).1 (by show (List.map _ _).length = _; rw [List.length_map, List.length_map]) (heads1 (g := tlD) (nm := Prod.fst) (r := fun t => [.str t.2.1, .tuple (t.2.2.map .str)]) (fun _ => rfl) (fun _ => rfl) N.tl) nD4 fun G4 sm4 pd4 => ?_⟩
    have hy4 := sm4 _ _ hx4
    refine ⟨_, rfl, x, CC, dx, _, rfl, hy4, cC.cls, cC.no _ (by simp), by show 4 < 1000; decide, ?_⟩
    have by4 : But x G4 (upd G4 x (.ins CC dx [("stations", .ref D0), ("kinds", .ref D1), ("ranks", .ref D2), ("flights", .ref D3), ("tails", .ref D4)])) := But.upd x G4 _
    have ex5 : But x H (upd G4 x (.ins CC dx [("stations", .ref D0), ("kinds", .ref D1), ("ranks", .ref D2), ("flights", .ref D3), ("tails", .ref D4)])) := (ex4.trans (Same.but sm4)).trans by4
    have hx5 : (upd G4 x (.ins CC dx [("stations", .ref D0), ("kinds", .ref D1), ("ranks", .ref D2), ("flights", .ref D3), ("tails", .ref D4)])) x = some (.ins CC dx [("stations", .ref D0), ("kinds", .ref D1), ("ranks", .ref D2), ("flights", .ref D3), ("tails", .ref D4)]) := upd_same
    -- fares
    have tp5 := But.ins ex5 hx
    have g5 := TpF.tup tp5 h0
    have m5 := Dp.tpf tp5 _ _ (by simpa only [noL] using noLs_map noL_fa N.fa) h6
    obtain ⟨ys5, hY5, hYd5⟩ := tup_at m5
    refine ⟨_, rfl, a, _, _, _, rfl, rfl, g5, atI_nat (j := 5) rfl, r, rfl, ⟨_, hY5⟩, fun D5 nD5 => part_dc (fs := ["name", "start", "end", "cabin", "price", "stops", "fee", "back"]) hY5 hYd5 (noLs_map noL_fa N.fa) (by rw [List.length_map]; have := R.fl; omega) (R.names (i := 5) (by decide)).1 (by show (List.map _ _).length = _; rw [List.length_map, List.length_map]) (heads1 (g := faD) (nm := Far.name) (r := fun f => [.str f.start, .str f.fin, .str f.cab, .int f.price, .int f.stops, .int f.fee, .int f.back]) (fun _ => rfl) (fun _ => rfl) N.fa) nD5 fun G5 sm5 pd5 => ?_⟩
    have hy5 := sm5 _ _ hx5
    refine ⟨_, rfl, x, CC, dx, _, rfl, hy5, cC.cls, cC.no _ (by simp), by show 5 < 1000; decide, ?_⟩
    have by5 : But x G5 (upd G5 x (.ins CC dx [("stations", .ref D0), ("kinds", .ref D1), ("ranks", .ref D2), ("flights", .ref D3), ("tails", .ref D4), ("fares", .ref D5)])) := But.upd x G5 _
    have ex6 : But x H (upd G5 x (.ins CC dx [("stations", .ref D0), ("kinds", .ref D1), ("ranks", .ref D2), ("flights", .ref D3), ("tails", .ref D4), ("fares", .ref D5)])) := (ex5.trans (Same.but sm5)).trans by5
    have hx6 : (upd G5 x (.ins CC dx [("stations", .ref D0), ("kinds", .ref D1), ("ranks", .ref D2), ("flights", .ref D3), ("tails", .ref D4), ("fares", .ref D5)])) x = some (.ins CC dx [("stations", .ref D0), ("kinds", .ref D1), ("ranks", .ref D2), ("flights", .ref D3), ("tails", .ref D4), ("fares", .ref D5)]) := upd_same
    have old : ∀ (H1 : Hp), But x H H1 → (∃ u, H1 x = some u) → ∀ b u, H b = some u → ∃ u', H1 b = some u' := by
      intro H1 bt hu b u e
      by_cases z : b = x
      · rw [z]; exact hu
      · exact ⟨u, bt b u z e⟩
    have e5 : But x G5 _ := by5
    have e4 : But x G4 _ := by4.trans ((Same.but sm5).trans e5)
    have e3 : But x G3 _ := by3.trans ((Same.but sm4).trans e4)
    have e2 : But x G2 _ := by2.trans ((Same.but sm3).trans e3)
    have e1 : But x G1 _ := by1.trans ((Same.but sm2).trans e2)
    have e0 : But x G0 _ := by0.trans ((Same.but sm1).trans e1)
    refine q _ ⟨D0, D1, D2, D3, D4, D5⟩ ex6 hx6 ⟨?_, ?_, ?_, ?_, ?_, ?_⟩
    · exact (pd0.older (old _ ex0 ⟨_, hx0⟩)).keep (noLs_map noL_tr N.st) n0 ⟨_, _, _, hy0⟩ e0
    · exact (pd1.older (old _ ex1 ⟨_, hx1⟩)).keep (noLs_map noL_tr N.ty) n0 ⟨_, _, _, hy1⟩ e1
    · exact (RankD.older pd2 (old _ ex2 ⟨_, hx2⟩)).keep n0 e2
    · exact (pd3.older (old _ ex3 ⟨_, hx3⟩)).keep (noLs_map noL_fl N.fl) n0 ⟨_, _, _, hy3⟩ e3
    · exact (pd4.older (old _ ex4 ⟨_, hx4⟩)).keep (noLs_map noL_tl N.tl) n0 ⟨_, _, _, hy4⟩ e4
    · exact (pd5.older (old _ ex5 ⟨_, hx5⟩)).keep (noLs_map noL_fa N.fa) n0 ⟨_, _, _, hy5⟩ e5
end
end Mine
set_option Elab.async false
set_option linter.all false
set_option maxRecDepth 100000
set_option maxHeartbeats 16000000
namespace Mine
open PySem PySem.Spec PyProof.Rows L2 Ln RZ
abbrev s_checked_chart : Stmt := topS 66
abbrev N_checked_chart : List Str := ["net"]
theorem sc_checked_chart : FnScope N_checked_chart ["net"] (defScope s_checked_chart) := ⟨rfl, rfl, rfl, by decide +kernel, rfl, by decide +kernel, by decide +kernel⟩
-- slots: 0 net
section
variable {P : Program} {w : World} {K : PySem.W.Frag} {mg : Str → Option Value} {base : Heap} {FA FU CC : Addr} {cl : Clss}
theorem Charted.older {H0 H1 H : Hp} {N : Net} {c : Clss} {d : Dcts} (h : Charted K H1 H N c d) (o : ∀ b u, H0 b = some u → ∃ u', H1 b = some u') : Charted K H0 H N c d :=
  ⟨h.p1.older o, h.p2.older o, h.p3.older o, h.p4.older o, h.p5.older o, h.p6.older o⟩
def spCChart (K : PySem.W.Frag) (CC : Addr) (cl : Clss) : Sp := hid fun vs H Q _ => ∃ (a : Addr) (N : Net), vs = [.ref a] ∧ Dp K H (.ref a) (netD N) ∧ Right N ∧ ∀ H' ch dx d, Same H H' → H ch = none → H' ch = some (.ins CC dx (chFs d)) → Charted K H H' N cl d → Q (.ref ch) H'
theorem ok_cchart {f : Addr} {fd : FuncData} (F : Fun K "checked_chart" "checked_chart" s_checked_chart f fd) (c_check : Cg P w K mg base (L2.CX P w) 7 "check" (spCheck K)) (k_Chart : MakG P w K mg base 3 "Chart" CC (spChart K CC cl)) :
    FnG P w K mg base (L2.CX P w) 8 f fd ["net"] (spCChart K CC cl) := by
  refine okX F sc_checked_chart (fun vs H Q E h => ?_) (fun cdv A outer s H vs Q E hG hr h => ?_)
  · obtain ⟨a, N, rfl, _⟩ := h
    rfl
  · obtain ⟨a, N, rfl, hN, R, q⟩ := h
    have tk0 : Takes (cxOf (L2.CX P w) P w K mg base N_checked_chart "checked_chart" (defScope s_checked_chart) f cdv A outer s H E) (fun cls d _ H => E cls d H) := takes_of rfl rfl rfl rfl
    refine ⟨_, (pss_cons (ps_expr (pe_cgS c_check hr (by decide) hG (fun _ => passE tk0) (by rfl) (pa_cons (pv 0) pa_nil)))
    (pss_one (ps_ret (pe_mkG k_Chart hr (by decide) (by rfl) (pa_cons (pv 0) pa_nil))))), ?_⟩
    refine ⟨_, rfl, a, N, rfl, hN, R, fun H1 sm1 => ?_⟩
    refine ⟨_, rfl, fun x dx nx nd ne => ?_⟩
    have sB : Same H1 (upd (upd H1 dx (.own x)) x (.ins CC dx [])) := fun b u e => by
      rw [upd_ne (ne_of_none e nx), upd_ne (ne_of_none e nd)]
      exact e
    have s2 := sm1.trans sB
    refine ⟨x, dx, a, N, rfl, upd_same, Same.dp s2 (noL_net N) hN, R, fun H' d bt hx ch => ⟨rfl, ?_⟩⟩
    refine q H' x dx d ?_ (sm1.free nx) hx (ch.older fun b u e => ⟨u, s2 _ _ e⟩)
    intro b u e
    exact bt b u (ne_of_none (sm1 _ _ e) nx) (s2 _ _ e)
end
end Mine
set_option Elab.async false
set_option linter.all false
set_option maxRecDepth 100000
set_option maxHeartbeats 16000000
namespace Mine
open PySem PySem.Spec PyProof.Rows L2 Ln RZ
abbrev s_ArgumentErrorD_initD : Stmt := inClass (topS 3) 0
abbrev N_ArgumentErrorD_initD : List Str := ["self", "reason"]
theorem sc_ArgumentErrorD_initD : FnScope N_ArgumentErrorD_initD ["self", "reason"] (defScope s_ArgumentErrorD_initD) := ⟨rfl, rfl, rfl, by decide +kernel, rfl, by decide +kernel, by decide +kernel⟩
-- slots: 0 self, 1 reason
abbrev s_is_known : Stmt := topS 10
abbrev N_is_known : List Str := ["value", "table"]
theorem sc_is_known : FnScope N_is_known ["value", "table"] (defScope s_is_known) := ⟨rfl, rfl, rfl, by decide +kernel, rfl, by decide +kernel, by decide +kernel⟩
-- slots: 0 value, 1 table
abbrev s_require : Stmt := topS 15
abbrev N_require : List Str := ["holds", "reason"]
theorem sc_require : FnScope N_require ["holds", "reason"] (defScope s_require) := ⟨rfl, rfl, rfl, by decide +kernel, rfl, by decide +kernel, by decide +kernel⟩
-- slots: 0 holds, 1 reason
section
variable {P : Program} {w : World} {K : PySem.W.Frag} {mg : Str → Option Value} {base : Heap} {FA FU CC C fI : Addr} {cl : Clss}
/-- the names of a dict of a part -/
theorem PartD.keys {H0 H : Hp} {D C : Addr} {fs names : List Str} {ds : List PyData} (h : PartD K H0 H D C fs ds) (hl : names.length = ds.length) (hh : ∀ (i : Nat) (x : Str), names[i]? = some x → ∃ es, ds[i]? = some (.tuple (.str x :: es))) :
    ∃ kvs : List (Key × V), H D = some (.dK kvs) ∧ kvs.map (·.1) = names.map Sum.inr := by
  obtain ⟨_, kvs, hD, hk, hall⟩ := h
  refine ⟨kvs, hD, ?_⟩
  apply List.ext_getElem?
  intro i
  rw [List.getElem?_map, List.getElem?_map]
  by_cases c : i < names.length
  · have hn := List.getElem?_eq_getElem c
    obtain ⟨es, he⟩ := hh i _ hn
    obtain ⟨o, dx, zs, _, k1, _⟩ := hall i _ es he
    rw [k1, hn]
    rfl
  · rw [List.getElem?_eq_none (by omega), List.getElem?_eq_none (by omega)]
    rfl
theorem valV_names {kvs : List (Key × V)} {ns : List Str} {x : Str} (h : kvs.map (·.1) = ns.map Sum.inr) : (valV kvs (.inr x)).isSome = decide (x ∈ ns) := by
  by_cases m : x ∈ ns
  · rw [decide_eq_true m]
    unfold valV
    rw [Option.isSome_map, List.find?_isSome]
    have : (Sum.inr x : Key) ∈ kvs.map (·.1) := by
      rw [h]
      exact List.mem_map_of_mem m
    obtain ⟨p, hp, e⟩ := List.mem_map.mp this
    exact ⟨p, hp, decide_eq_true e⟩
  · rw [decide_eq_false m, valV_none h m]
    rfl
/-- is x one of these names? -/
def knownB (x : V) (ns : List Str) : Bool := match x with | .str y => decide (y ∈ ns) | _ => false
def spKnown (K : PySem.W.Frag) : Sp := fun vs H Q _ => ∃ (x : V) (D : Addr) (kvs : List (Key × V)) (ns : List Str), vs = [x, .ref D] ∧ Plain K H x ∧ H D = some (.dK kvs) ∧ kvs.map (·.1) = ns.map Sum.inr ∧ Q (.bl (knownB x ns)) H
theorem ok_known {f : Addr} {fd : FuncData} (F : Fun K "is_known" "is_known" s_is_known f fd) (T : ChkTxt mg) : FnG P w K mg base CX0 1 f fd ["value", "table"] (spKnown K) := by
  refine okG F sc_is_known (fun vs H Q E h => ?_) (fun cdv A outer s H vs Q E hG hr h => ?_)
  · obtain ⟨x, D, kvs, ns, rfl, _⟩ := h
    rfl
  · obtain ⟨x, D, kvs, ns, rfl, hp, hD, hk, q⟩ := h
    refine ⟨_, (pss_one (ps_ret (pe_and (pe_callB (r := rIsi K) (id := "isinstance") call_isi (by rfl) T.z_isinstance (by decide +kernel) (pa_cons (pv 0) (pa_cons (pe_bltn (v := .ty "str") (u := .type "str") (by rfl) T.z_str (by decide +kernel) rfl) pa_nil))) (pe_one (pe_cmp (pc_din (hu_of hr) (pv 0) (pv 1)) rfl))))), ?_⟩
    obtain ⟨t, ty, _, _, k3, _⟩ := hp.kit
    refine ⟨x, rfl, x, _, t, _, _, rfl, .ty "str", ty, k3, _, rfl, ?_⟩
    cases x with
    | str y =>
      refine iteT ⟨_, rfl, _, rfl, D, _, rfl, .inl ⟨kvs, .inr y, .inl hD, rfl, rfl⟩, ?_⟩
      rw [valV_names hk]
      exact q
    | _ => exact iteF q
/-! ## what is required -/
structure ArgErr (K : PySem.W.Frag) (mg : Str → Option Value) (C fI : Addr) : Prop where
  m_ArgumentError : mg "ArgumentError" = some (.ref C)
  o_ArgumentError : OexC K C
  x_ArgumentError : XfC K C
  n_ArgumentError_reason : PySem.W.findIn K (.ref C) "reason" = some none
  i_ArgumentError : PySem.W.findIn K (.ref C) "__init__" = some (some (.ref fI))
  t_ArgumentError : PySem.W.typeIn K (.ref fI) = some (.type "function")
def spInit (C : Addr) : Sp := fun vs H Q _ => ∃ (a : Addr) (v : V), vs = [.ref a, v] ∧ H a = some (exo a C none) ∧ ∀ dx, H dx = none → dx ≠ a → Q .non (upd (upd H dx (exd dx [("reason", v)])) a (exo a C (some dx)))
theorem ok_init {f : Addr} {fd : FuncData} (F : Fun K "__init__" "ArgumentError.__init__" s_ArgumentErrorD_initD f fd) (T : ArgErr K mg C fI) : FnOk P w K mg base CX0 1 f fd ["self", "reason"] (spInit C) := by
  refine F.ok sc_ArgumentErrorD_initD (fun vs H Q E h => ?_) (fun cdv A outer s H vs Q E hr h => ?_)
  · obtain ⟨a, v, rfl, _⟩ := h
    rfl
  · obtain ⟨a, v, rfl, ha, q⟩ := h
    refine ⟨_, (pss_one (ps_ost (pv 0) (pv 1))), ?_⟩
    exact ⟨v, rfl, .ref a, rfl, a, C, rfl, T.o_ArgumentError, T.n_ArgumentError_reason, .inl ⟨ha, fun dx n1 n2 => q dx n1 n2⟩⟩
/-- an ArgumentError with this reason leaves -/
def Rz (C : Addr) (x : Str) (H : Hp) (E : XK) : Prop := ∀ d H', Same H H' → H d = none → H' d = some (.xd [("reason", .str x)]) → E (.ref C) (some d) H'
theorem Rz.later {x : Str} {H H1 : Hp} {E : XK} (h : Rz C x H E) (s : Same H H1) : Rz C x H1 E := fun d H' s' n e => h d H' (s.trans s') (s.free n) e
def spRequire (C : Addr) : Sp := hid fun vs H Q E => ∃ (b : Bool) (x : Str), vs = [.bl b, .str x] ∧ (b = true → Q .non H) ∧ (b = false → Rz C x H E)
theorem ok_require {f : Addr} {fd fdI : FuncData} (F : Fun K "require" "require" s_require f fd) (T : ArgErr K mg C fI) (fi_ArgumentError : FnOk P w K mg base CX0 1 fI fdI ["self", "reason"] (spInit C)) (fb_ArgumentError : Binds K fdI ["self", "reason"] []) :
    FnG P w K mg base (L2.CX P w) 3 f fd ["holds", "reason"] (spRequire C) := by
  refine okX F sc_require (fun vs H Q E h => ?_) (fun cdv A outer s H vs Q E hG hr h => ?_)
  · obtain ⟨b, x, rfl, _⟩ := h
    rfl
  · obtain ⟨b, x, rfl, qt, qf⟩ := h
    have tk0 : Takes (cxOf (L2.CX P w) P w K mg base N_require "require" (defScope s_require) f cdv A outer s H E) (fun cls d _ H => E cls d H) := takes_of rfl rfl rfl rfl
    refine ⟨_, (pss_one (ps_if (pt_not (pt_val (pv 0)))
    (pss_one (ps_raise rfl tk0 (pmk_oex T.o_ArgumentError T.i_ArgumentError T.t_ArgumentError fi_ArgumentError (hr.mono (by decide)) fb_ArgumentError .nil pass0 (by rfl) T.m_ArgumentError (pa_cons (pv 1) pa_nil))))
    pss_nil)), ?_⟩
    refine ⟨_, rfl, b, rfl, ?_⟩
    cases b with
    | true => exact iteF (qt rfl)
    | false =>
      refine iteT ?_
      refine ⟨_, rfl, by show 1 ≤ 1000; decide, fun a na => ⟨a, _, rfl, upd_same, fun dx n1 n2 => ⟨rfl, dx, [("reason", .str x)], upd_same, ?_, ?_, ?_⟩⟩⟩
      · rw [upd_ne n2]
        exact upd_same
      · rw [upd_ne n2] at n1
        exact n1
      · have nd : H dx = none := by rw [upd_ne n2] at n1; exact n1
        refine qf rfl dx _ ?_ nd upd_same
        intro b o e
        have b1 : b ≠ dx := ne_of_none e nd
        have b2 : b ≠ a := ne_of_none e na
        rw [upd_ne b1, del_ne b2, upd_ne b2, upd_ne b1, upd_ne b2]
        exact e
end
end Mine

set_option Elab.async false
set_option linter.all false
set_option maxRecDepth 100000
set_option maxHeartbeats 8000000
namespace Mine
open PySem PySem.Spec PyProof.Rows L2 Ln RZ
abbrev s_is_smaller : Stmt := topS 71
abbrev N_is_smaller : List Str := ["chart", "kind", "value"]
theorem sc_is_smaller : FnScope N_is_smaller ["chart", "kind", "value"] (defScope s_is_smaller) := ⟨rfl, rfl, rfl, by decide +kernel, rfl, by decide +kernel, by decide +kernel⟩
-- slots: 0 chart, 1 kind, 2 value
theorem find_keyN {α β : Type} [DecidableEq α] {l : List (α × β)} {i : Nat} {k : α} {v : β} (nd : (l.map (·.1)).Nodup) (e : l[i]? = some (k, v)) : l.find? (fun p => decide (p.1 = k)) = some (k, v) := by
  induction l generalizing i with
  | nil => cases e
  | cons p l ih =>
    rw [List.map_cons, List.nodup_cons] at nd
    cases i with
    | zero =>
      have e : p = (k, v) := by simpa using e
      rw [e]
      exact List.find?_cons_of_pos (p := fun p : α × β => decide (p.1 = k)) (decide_eq_true rfl)
    | succ i =>
      have e : l[i]? = some (k, v) := by simpa using e
      have m : k ∈ l.map (·.1) := List.mem_map.mpr ⟨(k, v), List.mem_of_getElem? e, rfl⟩
      rw [List.find?_cons_of_neg (by intro z; exact nd.1 (of_decide_eq_true z ▸ m))]
      exact ih nd.2 e
section
variable {P : Program} {w : World} {K : PySem.W.Frag} {mg : Str → Option Value} {base : Heap} {CC C fI : Addr} {cl : Clss}
/-- an object of a part by its row's name -/
theorem PartD.look {H0 H : Hp} {D C : Addr} {fs names : List Str} {ds : List PyData} (h : PartD K H0 H D C fs ds) (nd : names.Nodup) (hl : names.length = ds.length) (hh : ∀ (i : Nat) (x : Str), names[i]? = some x → ∃ es, ds[i]? = some (.tuple (.str x :: es))) {i : Nat} {x : Str} {es : List PyData} (e : ds[i]? = some (.tuple (.str x :: es))) :
    ∃ (kvs : List (Key × V)) (o dx : Addr) (zs : List V), H D = some (.dK kvs) ∧ kvs.map (·.1) = names.map Sum.inr ∧ valV kvs (.inr x) = some (.ref o) ∧ H o = some (.ins C dx (fs.zip zs)) ∧ DpAll K H zs (.str x :: es) := by
  obtain ⟨kvs', hD', hks⟩ := h.keys hl hh
  obtain ⟨_, kvs, hD, lk, all⟩ := h
  rw [hD] at hD'
  cases hD'
  obtain ⟨o, dx, zs, _, e1, ho, hz, _⟩ := all i x es e
  refine ⟨_, o, dx, zs, hD, hks, ?_, ho, hz⟩
  unfold valV
  rw [find_keyN (by rw [hks]; exact List.Pairwise.map Sum.inr (fun a b h e => h (Sum.inr.inj e)) nd) e1]
  rfl
theorem tri_names {l : List Tri} : ∀ (i : Nat) (x : Str), (l.map (·.1))[i]? = some x → ∃ es, (l.map trD)[i]? = some (.tuple (.str x :: es)) := fun i x h => by
  rw [List.getElem?_map] at h
  obtain ⟨r, hr, rfl⟩ := Option.map_eq_some_iff.mp h
  exact ⟨_, by rw [List.getElem?_map, hr]; rfl⟩
/-- the seats of a type -/
def seatsOf (N : Net) (k : Str) : Int := ((N.ty.find? fun t => decide (t.1 = k)).map fun t => t.2.1).getD 0
def tnames (N : Net) : List Str := N.ty.map (·.1)
theorem kind_look {H0 H : Hp} {N : Net} {D Ck : Addr} {k : Str} (h : PartD K H0 H D Ck ["name", "seats", "turn"] (N.ty.map trD)) (nd : (tnames N).Nodup) (hk : k ∈ tnames N) :
    ∃ (kvs : List (Key × V)) (o dx : Addr) (fs : List (Str × V)), H D = some (.dK kvs) ∧ kvs.map (·.1) = (tnames N).map Sum.inr ∧ valV kvs (.inr k) = some (.ref o) ∧ H o = some (.ins Ck dx fs) ∧ fs.lookup ("seats" : Str) = some (V.int (seatsOf N k)) := by
  obtain ⟨j, hj⟩ := List.mem_iff_getElem?.mp hk
  unfold tnames at hj
  rw [List.getElem?_map] at hj
  obtain ⟨⟨k', s, t⟩, hr, e⟩ := Option.map_eq_some_iff.mp hj
  cases e
  obtain ⟨kvs, o, dx, zs, a, b, c, ho, hz⟩ := h.look (names := tnames N) nd (by unfold tnames; rw [List.length_map, List.length_map]) tri_names (i := j) (x := k') (es := [.int s, .int t]) (by rw [List.getElem?_map, hr]; rfl)
  refine ⟨kvs, o, dx, _, a, b, c, ho, ?_⟩
  have es : seatsOf N k' = s := by
    unfold seatsOf
    rw [find_keyN nd hr]
    rfl
  cases hz with
  | cons a hz => cases a; cases hz with
    | cons a hz => cases a; cases hz with
      | cons a hz => cases a; cases hz; rw [es]; rfl
structure EvtTxt (K : PySem.W.Frag) (CC : Addr) (c : Clss) : Prop where
  o_CC : Cls K CC
  a_kinds : NoAttr K CC "kinds"
  a_flights : NoAttr K CC "flights"
  o_ki : Cls K c.ki
  a_seats : NoAttr K c.ki "seats"
  o_fl : Cls K c.fl
  a_kind : NoAttr K c.fl "kind"
/-- fewer seats than the type's -/
def smallB (N : Net) (k : Str) (v : V) : Bool := match v with | .str x => decide (x ∈ tnames N) && decide (seatsOf N x < seatsOf N k) | _ => false
def spSmall (K : PySem.W.Frag) (CC : Addr) (cl : Clss) : Sp := hid fun vs H Q _ => ∃ (H0 : Hp) (ch dx : Addr) (N : Net) (d : Dcts) (k : Str) (v : V), vs = [.ref ch, .str k, v] ∧ H ch = some (.ins CC dx (chFs d)) ∧ Charted K H0 H N cl d ∧ Right N ∧ k ∈ tnames N ∧ Plain K H v ∧ Q (.bl (smallB N k v)) H
theorem ok_small {f : Addr} {fd : FuncData} (F : Fun K "is_smaller" "is_smaller" s_is_smaller f fd) (T : EvtTxt K CC cl) (c_is_known : Cg P w K mg base CX0 1 "is_known" (spKnown K)) : FnG P w K mg base CX0 2 f fd ["chart", "kind", "value"] (spSmall K CC cl) := by
  refine okG F sc_is_smaller (fun vs H Q E h => ?_) (fun cdv A outer s H vs Q E hG hr h => ?_)
  · obtain ⟨H0, ch, dx, N, d, k, v, rfl, _⟩ := h
    rfl
  · obtain ⟨H0, ch, dx, N, d, k, v, rfl, hch, cd, R, hk, hp, q⟩ := h
    have hu_of : ∀ {k : Nat}, Room k (A.deeper (envOfC "is_smaller" (defScope s_is_smaller) s.heap.objs.size f cdv)) → (cxOf CX0 P w K mg base N_is_smaller "is_smaller" (defScope s_is_smaller) f cdv A outer s H E).A.units + 1 < cLine := fun hr => by
      have := hr.un
      show (A.deeper _).units + 1 < cLine
      omega
    refine ⟨_, (pss_one (ps_ret (pe_and (pe_cg c_is_known hr (by decide) hG (by rfl) (pa_cons (pv 2) (pa_cons (pe_fld (pv 0) rfl) pa_nil))) (pe_one (pe_cmpR op_lt (pe_fld (pe_dget (by exact hu_of hr) (pe_fld (pv 0) rfl) (pv 2) (fun _ _ => rfl)) rfl) (pe_fld (pe_dget (by exact hu_of hr) (pe_fld (pv 0) rfl) (pv 1) (fun _ _ => rfl)) rfl) (nomark _)))))), ?_⟩
    have nd : (tnames N).Nodup := (R.names (i := 1) (by decide)).1
    obtain ⟨kvs, o, ox, fs, hD, hks, hv, ho, hl⟩ := kind_look cd.p2 nd hk
    refine ⟨_, rfl, _, rfl, ch, CC, dx, chFs d, _, rfl, hch, T.o_CC, T.a_kinds, rfl, v, d.d2, kvs, tnames N, rfl, hp, hD, hks, _, rfl, ?_⟩
    cases v with
    | str x =>
      by_cases m : x ∈ tnames N
      · obtain ⟨kvs', o', ox', fs', hD', _, hv', ho', hl'⟩ := kind_look cd.p2 nd m
        rw [hD] at hD'
        cases hD'
        have e : knownB (.str x) (tnames N) = true := decide_eq_true m
        rw [e]
        refine iteT ?_
        refine ⟨_, rfl, ch, CC, dx, chFs d, _, rfl, hch, T.o_CC, T.a_kinds, rfl, _, rfl, d.d2, .ref o', rfl, .inl ⟨kvs, .inr x, .inl hD, rfl, hv'.symm⟩, o', cl.ki, ox', fs', _, rfl, ho', T.o_ki, T.a_seats, hl', ?_⟩
        refine ⟨_, rfl, ch, CC, dx, chFs d, _, rfl, hch, T.o_CC, T.a_kinds, rfl, _, rfl, d.d2, .ref o, rfl, .inl ⟨kvs, .inr k, .inl hD, rfl, hv.symm⟩, o, cl.ki, ox, fs, _, rfl, ho, T.o_ki, T.a_seats, hl, _, _, rfl, rfl, ?_⟩
        have e2 : smallB N k (.str x) = decide (seatsOf N x < seatsOf N k) := by
          show (decide (x ∈ tnames N) && _) = _
          rw [decide_eq_true m, Bool.true_and]
        rw [e2] at q
        exact q
      · have e : knownB (.str x) (tnames N) = false := decide_eq_false m
        have e2 : smallB N k (.str x) = false := by
          show (decide (x ∈ tnames N) && _) = _
          rw [decide_eq_false m, Bool.false_and]
        rw [e]
        rw [e2] at q
        exact iteF q
    | _ => exact iteF q
end
end Mine
set_option Elab.async false
set_option linter.all false
set_option maxRecDepth 100000
set_option maxHeartbeats 8000000
namespace Mine
open PySem PySem.Spec PyProof.Rows L2 Ln RZ
structure Evt2Txt (K : PySem.W.Frag) (mg : Str → Option Value) (CC : Addr) (c : Clss) : Prop extends EvtTxt K CC c where
  g_MAX_LATE : ∃ u, mg "MAX_LATE" = some u ∧ RelV (.int 1440) u
def fnamesN (N : Net) : List Str := N.fl.map (·.name)
def kindOf (N : Net) (x : Str) : Str := ((N.fl.find? fun f => decide (f.name = x)).map (·.kind)).getD ""
def knownD (d : PyData) (ns : List Str) : Bool := match d with | .str x => decide (x ∈ ns) | _ => false
def lateB (d : PyData) : Bool := match d with | .int i => decide (1 ≤ i) && decide (i ≤ 1440) | _ => false
def smallD (N : Net) (k : Str) (d : PyData) : Bool := match d with | .str x => decide (x ∈ tnames N) && decide (seatsOf N x < seatsOf N k) | _ => false
def strD : PyData → Str | .str x => x | _ => ""
/-- an event of the net; rows of two and three begin with a text -/
def evB (N : Net) : PyData → Bool
  | .tuple [.str s, b] => decide (s = "cancel") && knownD b (fnamesN N)
  | .tuple [.str s, b, c] => knownD b (fnamesN N) && (if s = "late" then lateB c else decide (s = "smaller") && smallD N (kindOf N (strD b)) c)
  | _ => false
/-- rows of two and of three begin with a text -/
def Heads : PyData → Prop
  | .tuple [a, _] => ∃ s, a = .str s
  | .tuple [a, _, _] => ∃ s, a = .str s
  | _ => True
section
variable {P : Program} {w : World} {K : PySem.W.Frag} {mg : Str → Option Value} {base : Heap} {CC C fI : Addr} {cl : Clss}
theorem known_dp {H : Hp} {x : V} {d : PyData} {ns : List Str} (h : Dp K H x d) (nl : noL d = true) : knownB x ns = knownD d ns := by
  cases h <;> first | rfl | simp [noL] at nl
theorem small_dp {H : Hp} {x : V} {d : PyData} {N : Net} {k : Str} (h : Dp K H x d) (nl : noL d = true) : smallB N k x = smallD N k d := by
  cases h <;> first | rfl | simp [noL] at nl
theorem flt_look {H0 H : Hp} {N : Net} {D Cf : Addr} {x : Str} (h : PartD K H0 H D Cf ["name", "start", "end", "depart", "arrive", "kind", "distance", "limits"] (N.fl.map flD)) (nd : (fnamesN N).Nodup) (hx : x ∈ fnamesN N) :
    ∃ (kvs : List (Key × V)) (o dx : Addr) (fs : List (Str × V)), H D = some (.dK kvs) ∧ kvs.map (·.1) = (fnamesN N).map Sum.inr ∧ valV kvs (.inr x) = some (.ref o) ∧ H o = some (.ins Cf dx fs) ∧ fs.lookup ("kind" : Str) = some (V.str (kindOf N x)) := by
  obtain ⟨j, hj⟩ := List.mem_iff_getElem?.mp hx
  unfold fnamesN at hj
  rw [List.getElem?_map] at hj
  obtain ⟨f, hr, rfl⟩ := Option.map_eq_some_iff.mp hj
  obtain ⟨kvs, o, dx, zs, a, b, c, ho, hz⟩ := h.look (names := fnamesN N) nd (by unfold fnamesN; rw [List.length_map, List.length_map]) (fun i x h => by
    unfold fnamesN at h
    rw [List.getElem?_map] at h
    obtain ⟨r, hr, rfl⟩ := Option.map_eq_some_iff.mp h
    exact ⟨_, by rw [List.getElem?_map, hr]; rfl⟩) (i := j) (x := f.name) (es := [.str f.start, .str f.fin, .int f.dep, .int f.arr, .str f.kind, .int f.dist, .tuple (f.lims.map .int)]) (by rw [List.getElem?_map, hr]; rfl)
  refine ⟨kvs, o, dx, _, a, b, c, ho, ?_⟩
  have es : kindOf N f.name = f.kind := by
    unfold kindOf
    have : ∀ (l : List Flt) (j : Nat), (l.map (·.name)).Nodup → l[j]? = some f → l.find? (fun g => decide (g.name = f.name)) = some f := fun l => by
      induction l with
      | nil => intro j _ h; cases h
      | cons g l ih =>
        intro j nd h
        rw [List.map_cons, List.nodup_cons] at nd
        cases j with
        | zero =>
          have e : g = f := by simpa using h
          rw [e]
          exact List.find?_cons_of_pos (p := fun g : Flt => decide (g.name = f.name)) (decide_eq_true rfl)
        | succ j =>
          have h : l[j]? = some f := by simpa using h
          have m : f.name ∈ l.map (·.name) := List.mem_map.mpr ⟨f, List.mem_of_getElem? h, rfl⟩
          rw [List.find?_cons_of_neg (by intro z; exact nd.1 (of_decide_eq_true z ▸ m))]
          exact ih j nd.2 h
    rw [this N.fl j nd hr]
    rfl
  obtain ⟨lt, rfl⟩ : ∃ lt, zs = [.str f.name, .str f.start, .str f.fin, .int f.dep, .int f.arr, .str f.kind, .int f.dist, .ref lt] := by
    cases hz with
    | cons a h => cases a; cases h with
      | cons a h => cases a; cases h with
        | cons a h => cases a; cases h with
          | cons a h => cases a; cases h with
            | cons a h => cases a; cases h with
              | cons a h => cases a; cases h with
                | cons a h => cases a; cases h with
                  | cons a h => cases a; cases h; exact ⟨_, rfl⟩
  rw [es]
  rfl
end
end Mine
set_option Elab.async false
set_option linter.all false
set_option maxRecDepth 100000
set_option maxHeartbeats 8000000
namespace Mine
open PySem PySem.Spec PyProof.Rows L2 Ln RZ
abbrev s_is_within : Stmt := topS 7
abbrev N_is_within : List Str := ["value", "low", "high"]
theorem sc_is_within : FnScope N_is_within ["value", "low", "high"] (defScope s_is_within) := ⟨rfl, rfl, rfl, by decide +kernel, rfl, by decide +kernel, by decide +kernel⟩
-- slots: 0 value, 1 low, 2 high
abbrev s_is_event : Stmt := topS 70
abbrev N_is_event : List Str := ["chart", "value"]
theorem sc_is_event : FnScope N_is_event ["chart", "value"] (defScope s_is_event) := ⟨rfl, rfl, rfl, by decide +kernel, rfl, by decide +kernel, by decide +kernel⟩
-- slots: 0 chart, 1 value
section
variable {P : Program} {w : World} {K : PySem.W.Frag} {mg : Str → Option Value} {base : Heap} {CC C fI : Addr} {cl : Clss}
def inV2 (x : V) (lo hi : Int) : Bool := match x with | .int i => decide (lo ≤ i) && decide (i ≤ hi) | _ => false
def spWithin (K : PySem.W.Frag) : Sp := fun vs H Q _ => ∃ x lo hi, vs = [x, .int lo, .int hi] ∧ Plain K H x ∧ Q (.bl (inV2 x lo hi)) H
theorem ok_within {f : Addr} {fd : FuncData} (F : Fun K "is_within" "is_within" s_is_within f fd) (T : ChkTxt mg) (c_is_integer : Cg P w K mg base CX0 1 "is_integer" (spIsInt K)) : FnG P w K mg base CX0 2 f fd ["value", "low", "high"] (spWithin K) := by
  refine okG F sc_is_within (fun vs H Q E h => ?_) (fun cdv A outer s H vs Q E hG hr h => ?_)
  · obtain ⟨x, lo, hi, rfl, _⟩ := h
    rfl
  · obtain ⟨x, lo, hi, rfl, hp, q⟩ := h
    refine ⟨_, (pss_one (ps_ret (pe_and (pe_cg c_is_integer hr (by decide) hG (by rfl) (pa_cons (pv 0) pa_nil)) (pe_one (pe_chain op_le op_le (pv 1) (pv 0) (pv 2)))))), ?_⟩
    refine ⟨x, rfl, x, rfl, hp, _, rfl, ?_⟩
    cases x with
    | int i =>
      refine iteT ⟨_, rfl, _, rfl, _, _, rfl, rfl, _, rfl, ite2 (fun h1 => ?_) (fun h1 => ?_)⟩
      · refine ⟨_, rfl, _, _, rfl, rfl, ?_⟩
        have e : inV2 (.int i) lo hi = decide (i ≤ hi) := by
          show (decide (lo ≤ i) && decide (i ≤ hi)) = _
          rw [h1, Bool.true_and]
        rw [e] at q
        exact q
      · have e : inV2 (.int i) lo hi = false := by
          show (decide (lo ≤ i) && decide (i ≤ hi)) = _
          rw [Bool.eq_false_iff.mpr h1, Bool.false_and]
        rw [e] at q
        exact q
    | _ => exact iteF q
theorem Dp.same {H H' : Hp} (sm : Same H H') (d : PyData) (v : V) (n : noL d = true) (h : Dp K H v d) : Dp K H' v d := Dp.tpf (TpF.same sm) d v n h
theorem Dp.plain {H : Hp} {v : V} {d : PyData} (h : Dp K H v d) (n : noL d = true) : Plain K H v := by
  cases h with
  | non => exact .non
  | bl b => exact .bl b
  | int i => exact .int i
  | str s => exact .str s
  | tup t _ => exact .tup t
  | lst _ _ => simp [noL] at n
def isT : PyData → Bool | .tuple _ => true | _ => false
theorem Dp.isR {H : Hp} {v : V} {d : PyData} (h : Dp K H v d) (n : noL d = true) : Ln.isR v = isT d := by
  cases h <;> first | rfl | simp [noL] at n
def rowB (d : PyData) (n : Int) : Bool := match d with | .tuple ds => decide ((ds.length : Int) = n) | _ => false
def shortB (d : PyData) (n : Int) : Bool := match d with | .tuple ds => decide ((ds.length : Int) ≤ n) | _ => false
def spIsRowG (K : PySem.W.Frag) : Sp := fun vs H Q _ => ∃ (v : V) (d : PyData) (n : Int), vs = [v, .int n] ∧ Dp K H v d ∧ noL d = true ∧ Q (.bl (rowB d n)) H
/-- a row of so many parts, or no row at all -/
def spIsRowV (K : PySem.W.Frag) : Sp := fun vs H Q _ => ∃ (v : V) (n : Int) (b : Bool), vs = [v, .int n] ∧ ((∃ a xs, v = .ref a ∧ SqT K H a xs ∧ b = decide ((xs.length : Int) = n)) ∨ (Plain K H v ∧ Ln.isR v = false ∧ b = false)) ∧ Q (.bl b) H
theorem ok_isrowV {f : Addr} {fd : FuncData} (F : Fun K "is_row" "is_row" s_is_row f fd) (T : ChkTxt mg) : FnG P w K mg base CX0 1 f fd ["value", "size"] (spIsRowV K) := by
  refine okG F sc_is_row (fun vs H Q E h => ?_) (fun cdv A outer s H vs Q E hG hr h => ?_)
  · obtain ⟨v, n, b, rfl, _⟩ := h
    rfl
  · obtain ⟨v, n, b, rfl, hv, q⟩ := h
    refine ⟨_, (pss_one (ps_ret (pe_and (pe_callB (r := rIsi K) (id := "isinstance") call_isi (by rfl) T.z_isinstance (by decide +kernel) (pa_cons (pv 0) (pa_cons (pe_bltn (v := .ty "tuple") (u := .type "tuple") (by rfl) T.z_tuple (by decide +kernel) rfl) pa_nil))) (pe_one (pe_cmpR op_eq (pe_callB (r := Ln.rLen K) (id := "len") c_len (by rfl) T.z_len (by decide +kernel) (pa_cons (pv 0) pa_nil)) (pv 1) (nomark _)))))), ?_⟩
    rcases hv with ⟨a, xs, rfl, ht, rfl⟩ | ⟨hp, hn, rfl⟩
    · obtain ⟨t, ty, _, _, _, k4⟩ := (Plain.tup ht : Plain K H (.ref a)).kit
      refine ⟨.ref a, rfl, .ref a, _, t, _, _, rfl, .ty "tuple", ty, k4, _, rfl, iteT ⟨_, rfl, .ref a, xs.length, rfl, .inr ⟨_, ht, rfl⟩, _, rfl, rfl, ?_⟩⟩
      rw [dec_int]
      exact q
    · obtain ⟨t, ty, _, _, _, k4⟩ := hp.kit
      rw [hn] at k4
      exact ⟨v, rfl, v, _, t, _, _, rfl, .ty "tuple", ty, k4, _, rfl, iteF q⟩
theorem cgWeak {CX : CXT} {k : Nat} {x : Str} {sp sp' : Sp} (h : ∀ vs H Q E, sp' vs H Q E → sp vs H Q E) (c : Cg P w K mg base CX k x sp) : Cg P w K mg base CX k x sp' := by
  obtain ⟨f, fd, ps, F, a, b, d⟩ := c.ex
  exact ⟨f, fd, ps, ⟨fun vs H Q E z => F.len vs H Q E (h _ _ _ _ z), fun A outer s H args us vs Q E hG hr e0 hb r z => F.run A outer s H args us vs Q E hG hr e0 hb r (h _ _ _ _ z)⟩, a, b, d⟩
theorem isrow1 {CX : CXT} {k : Nat} (c : Cg P w K mg base CX k "is_row" (spIsRowV K)) : Cg P w K mg base CX k "is_row" (spIsRow K) := cgWeak (c := c) fun vs H Q E z => by
  obtain ⟨a, xs, n, e, h, hn, q⟩ := z
  exact ⟨.ref a, n, true, e, .inl ⟨a, xs, rfl, h, by rw [hn]; exact (decide_eq_true rfl).symm⟩, q⟩
theorem isrow2 {CX : CXT} {k : Nat} (c : Cg P w K mg base CX k "is_row" (spIsRowV K)) : Cg P w K mg base CX k "is_row" (spIsRowG K) := cgWeak (c := c) fun vs H Q E z => by
  obtain ⟨v, d, n, e, h, nl, q⟩ := z
  refine ⟨v, n, rowB d n, e, ?_, q⟩
  cases h with
  | @tup a xs ds h1 h2 => exact .inl ⟨a, xs, rfl, h1, by rw [DpAll.len h2]; rfl⟩
  | lst _ _ => simp [noL] at nl
  | non => exact .inr ⟨.non, rfl, rfl⟩
  | bl b => exact .inr ⟨.bl b, rfl, rfl⟩
  | int i => exact .inr ⟨.int i, rfl, rfl⟩
  | str s => exact .inr ⟨.str s, rfl, rfl⟩
theorem within_dp {H : Hp} {x : V} {d : PyData} (h : Dp K H x d) (nl : noL d = true) : inV2 x 1 1440 = lateB d := by
  cases h <;> first | rfl | simp [noL] at nl
def spEvent (K : PySem.W.Frag) (CC : Addr) (cl : Clss) : Sp := hid fun vs H Q _ => ∃ (H0 : Hp) (ch dx : Addr) (N : Net) (d : Dcts) (v : V) (e : PyData), vs = [.ref ch, v] ∧ H ch = some (.ins CC dx (chFs d)) ∧ Charted K H0 H N cl d ∧ Right N ∧ (∀ x ∈ fnamesN N, kindOf N x ∈ tnames N) ∧ Dp K H v e ∧ noL e = true ∧ Heads e ∧ Q (.bl (evB N e)) H
theorem ok_event {f : Addr} {fd : FuncData} (F : Fun K "is_event" "is_event" s_is_event f fd) (T : Evt2Txt K mg CC cl) (c_is_known : Cg P w K mg base CX0 1 "is_known" (spKnown K)) (c_is_row : Cg P w K mg base CX0 1 "is_row" (spIsRowG K)) (c_is_within : Cg P w K mg base CX0 2 "is_within" (spWithin K)) (c_is_smaller : Cg P w K mg base CX0 2 "is_smaller" (spSmall K CC cl)) :
    FnG P w K mg base CX0 3 f fd ["chart", "value"] (spEvent K CC cl) := by
  refine okG F sc_is_event (fun vs H Q E h => ?_) (fun cdv A outer s H vs Q E hG hr h => ?_)
  · obtain ⟨H0, ch, dx, N, d, v, e, rfl, _⟩ := h
    rfl
  · obtain ⟨H0, ch, dx, N, d, v, e, rfl, hch, cd, R, hkn, hd, nl, hh, q⟩ := h
    have hu_of : ∀ {k : Nat}, Room k (A.deeper (envOfC "is_event" (defScope s_is_event) s.heap.objs.size f cdv)) → (cxOf CX0 P w K mg base N_is_event "is_event" (defScope s_is_event) f cdv A outer s H E).A.units + 1 < cLine := fun hr => by
      have := hr.un
      show (A.deeper _).units + 1 < cLine
      omega
    refine ⟨_, (pss_cons (ps_if (pt_val (pe_cg c_is_row hr (by decide) hG (by rfl) (pa_cons (pv 1) (pa_cons pe_int pa_nil))))
    (pss_one (ps_ret (pe_and (pe_cmpR op_eq (pe_ix (r := rIxT K) ix_tup (pv 1) pe_int (fun _ _ => rfl)) pe_str (nomark _)) (pe_one (pe_cg c_is_known hr (by decide) hG (by rfl) (pa_cons (pe_ix (r := rIxT K) ix_tup (pv 1) pe_int (fun _ _ => rfl)) (pa_cons (pe_fld (pv 0) rfl) pa_nil)))))))
    pss_nil)
    (pss_cons (ps_if (PW.pt (pw_or (pt_not (pt_val (pe_cg c_is_row hr (by decide) hG (by rfl) (pa_cons (pv 1) (pa_cons pe_int pa_nil))))) (pw_or1 (pt_not (pt_val (pe_cg c_is_known hr (by decide) hG (by rfl) (pa_cons (pe_ix (r := rIxT K) ix_tup (pv 1) pe_int (fun _ _ => rfl)) (pa_cons (pe_fld (pv 0) rfl) pa_nil))))))))
    (pss_one (ps_ret pe_bl))
    pss_nil)
    (pss_cons (ps_if (pt_cmpR op_eq (pe_ix (r := rIxT K) ix_tup (pv 1) pe_int (fun _ _ => rfl)) pe_str (nomark _))
    (pss_one (ps_ret (pe_cg c_is_within hr (by decide) hG (by rfl) (pa_cons (pe_ix (r := rIxT K) ix_tup (pv 1) pe_int (fun _ _ => rfl)) (pa_cons pe_int (pa_cons (pe_gl (by rfl) T.g_MAX_LATE) pa_nil))))))
    pss_nil)
    (pss_one (ps_ret (pe_and (pe_cmpR op_eq (pe_ix (r := rIxT K) ix_tup (pv 1) pe_int (fun _ _ => rfl)) pe_str (nomark _)) (pe_one (pe_cg c_is_smaller hr (by decide) hG (by rfl) (pa_cons (pv 0) (pa_cons (pe_fld (pe_dget (by exact hu_of hr) (pe_fld (pv 0) rfl) (pe_ix (r := rIxT K) ix_tup (pv 1) pe_int (fun _ _ => rfl)) (fun _ _ => rfl)) rfl) (pa_cons (pe_ix (r := rIxT K) ix_tup (pv 1) pe_int (fun _ _ => rfl)) pa_nil))))))))))), ?_⟩
    have nd : (fnamesN N).Nodup := (R.names (i := 3) (by decide)).1
    have hkeys : ∃ kvs : List (Key × V), H d.d4 = some (.dK kvs) ∧ kvs.map (·.1) = (fnamesN N).map Sum.inr := cd.p4.keys (names := fnamesN N) (by unfold fnamesN; rw [List.length_map, List.length_map]) (fun i x h => by
      unfold fnamesN at h
      rw [List.getElem?_map] at h
      obtain ⟨r, hr, rfl⟩ := Option.map_eq_some_iff.mp h
      exact ⟨_, by rw [List.getElem?_map, hr]; rfl⟩)
    obtain ⟨kvs, hD, hks⟩ := hkeys
    refine ⟨_, rfl, v, e, 2, rfl, hd, nl, _, rfl, ?_⟩
    by_cases h2 : rowB e 2 = true
    · rw [h2]
      obtain ⟨a, b, rfl⟩ : ∃ a b, e = .tuple [a, b] := by
        match e, h2 with
        | .tuple ds, h2 =>
          have h2 : decide ((ds.length : Int) = 2) = true := h2
          have h2 := of_decide_eq_true h2
          match ds, h2 with
          | [a, b], _ => exact ⟨a, b, rfl⟩
          | [], h => simp at h
          | [_], h => simp at h
          | _ :: _ :: _ :: _, h => simp at h; omega
      obtain ⟨x, rfl⟩ : ∃ x, a = .str x := hh
      obtain ⟨t, xb, rfl, ht, hb⟩ : ∃ t xb, v = .ref t ∧ SqT K H t [.str x, xb] ∧ Dp K H xb b := by
        cases hd with
        | tup h1 h2 => cases h2 with
          | cons k h2 => cases k; cases h2 with
            | cons k h2 => cases h2; exact ⟨_, _, rfl, h1, k⟩
      have nb : noL b = true := by
        simp only [noL, noLs, Bool.and_true, Bool.true_and] at nl
        exact nl
      refine iteT ⟨_, rfl, t, _, 0, _, rfl, rfl, ht, rfl, rfl, _, rfl, ?_⟩
      by_cases c : x = "cancel"
      · have e1 : evB N (.tuple [.str x, b]) = knownD b (fnamesN N) := by
          show (decide (x = "cancel") && _) = _
          rw [decide_eq_true c, Bool.true_and]
        rw [e1, ← known_dp hb nb] at q
        rw [decide_eq_true (by rw [c])]
        exact iteT ⟨_, rfl, t, _, 1, _, rfl, rfl, ht, rfl, _, rfl, ch, CC, dx, chFs d, _, rfl, hch, T.o_CC, T.a_flights, rfl, xb, d.d4, kvs, fnamesN N, rfl, Dp.plain hb nb, hD, hks, q⟩
      · have e1 : evB N (.tuple [.str x, b]) = false := by
          show (decide (x = "cancel") && _) = _
          rw [decide_eq_false c, Bool.false_and]
        rw [e1] at q
        rw [decide_eq_false (by intro z; injection z with z; exact c z)]
        exact iteF q
    · rw [Bool.eq_false_iff.mpr h2]
      refine iteF ⟨_, rfl, v, e, 3, rfl, hd, nl, _, rfl, ?_⟩
      by_cases h3 : rowB e 3 = true
      · rw [h3]
        obtain ⟨a, b, c, rfl⟩ : ∃ a b c, e = .tuple [a, b, c] := by
          match e, h3 with
          | .tuple ds, h3 =>
            have h3 : decide ((ds.length : Int) = 3) = true := h3
            have h3 := of_decide_eq_true h3
            match ds, h3 with
            | [a, b, c], _ => exact ⟨a, b, c, rfl⟩
            | [], h => simp at h
            | [_], h => simp at h
            | [_, _], h => simp at h
            | _ :: _ :: _ :: _ :: _, h => simp at h; omega
        obtain ⟨x, rfl⟩ : ∃ x, a = .str x := hh
        obtain ⟨t, xb, xc, rfl, ht, hb, hc⟩ : ∃ t xb xc, v = .ref t ∧ SqT K H t [.str x, xb, xc] ∧ Dp K H xb b ∧ Dp K H xc c := by
          cases hd with
          | tup h1 h2 => cases h2 with
            | cons k h2 => cases k; cases h2 with
              | cons k h2 => cases h2 with
                | cons k2 h2 => cases h2; exact ⟨_, _, _, rfl, h1, k, k2⟩
        have nb : noL b = true ∧ noL c = true := by
          simpa [noL, noLs] using nl
        refine iteF ⟨_, rfl, t, _, 1, _, rfl, rfl, ht, rfl, _, rfl, ch, CC, dx, chFs d, _, rfl, hch, T.o_CC, T.a_flights, rfl, xb, d.d4, kvs, fnamesN N, rfl, Dp.plain hb nb.1, hD, hks, _, rfl, ?_⟩
        rw [known_dp hb nb.1]
        have ev : evB N (.tuple [.str x, b, c]) = (knownD b (fnamesN N) && (if x = "late" then lateB c else decide (x = "smaller") && smallD N (kindOf N (strD b)) c)) := rfl
        rw [ev] at q
        by_cases kn : knownD b (fnamesN N) = true
        · rw [kn, Bool.true_and] at q
          rw [kn]
          obtain ⟨y, rfl, hy⟩ : ∃ y, b = .str y ∧ y ∈ fnamesN N := by
            match b, kn with
            | .str y, kn => exact ⟨y, rfl, of_decide_eq_true kn⟩
          cases hb
          refine iteF ⟨_, rfl, t, _, 0, _, rfl, rfl, ht, rfl, rfl, _, rfl, ?_⟩
          by_cases l : x = "late"
          · rw [if_pos l, ← within_dp hc nb.2] at q
            rw [decide_eq_true (by rw [l])]
            exact iteT ⟨_, rfl, t, _, 2, _, rfl, rfl, ht, rfl, xc, 1, 1440, rfl, Dp.plain hc nb.2, q⟩
          · rw [if_neg l] at q
            rw [decide_eq_false (by intro z; injection z with z; exact l z)]
            refine iteF ⟨_, rfl, t, _, 0, _, rfl, rfl, ht, rfl, rfl, _, rfl, ?_⟩
            by_cases sm : x = "smaller"
            · rw [decide_eq_true sm, Bool.true_and, ← small_dp hc nb.2] at q
              rw [decide_eq_true (by rw [sm])]
              obtain ⟨kvs', o, ox, fs, hD', _, hv, ho, hl⟩ := flt_look cd.p4 nd hy
              rw [hD] at hD'
              cases hD'
              exact iteT ⟨_, rfl, _, rfl, ch, CC, dx, chFs d, _, rfl, hch, T.o_CC, T.a_flights, rfl, _, rfl, t, _, 1, _, rfl, rfl, ht, rfl, d.d4, .ref o, rfl, .inl ⟨kvs, .inr y, .inl hD, rfl, hv.symm⟩, o, cl.fl, ox, fs, _, rfl, ho, T.o_fl, T.a_kind, hl, _, rfl, t, _, 2, _, rfl, rfl, ht, rfl, H0, ch, dx, N, d, kindOf N y, xc, rfl, hch, cd, R, hkn y hy, Dp.plain hc nb.2, q⟩
            · rw [decide_eq_false sm, Bool.false_and] at q
              rw [decide_eq_false (by intro z; injection z with z; exact sm z)]
              exact iteF q
        · rw [Bool.eq_false_iff.mpr kn, Bool.false_and] at q
          rw [Bool.eq_false_iff.mpr kn]
          exact iteT q
      · rw [Bool.eq_false_iff.mpr h3]
        have ev : evB N e = false := by
          match e, h2, h3 with
          | .tuple [.str _, _], h, _ => exact absurd rfl h
          | .tuple [.str _, _, _], _, h => exact absurd rfl h
          | .none, _, _ => rfl
          | .int _, _, _ => rfl
          | .bool _, _, _ => rfl
          | .str _, _, _ => rfl
          | .list _, _, _ => rfl
          | .dict _, _, _ => rfl
          | .tuple [], _, _ => rfl
          | .tuple [a], _, _ => cases a <;> rfl
          | .tuple (_ :: _ :: _ :: _ :: _), _, _ => simp [evB]
          | .tuple [_, _], h, _ => exact absurd rfl h
          | .tuple [_, _, _], _, h => exact absurd rfl h
        rw [ev] at q
        exact iteT q
end
end Mine
set_option Elab.async false
set_option linter.all false
set_option maxRecDepth 100000
set_option maxHeartbeats 4000000
namespace Mine
open PySem PySem.Spec PyProof.Rows L2 Ln RZ
/-- a text that is short and plain -/
structure StrOk (x : Str) : Prop where
  len : x.length ≤ 12
  cps : (x.cps.toList.all fun c => decide (c < 16 ^ 8)) = true
  lay : PyData.canLay0 (.str x) = true
theorem okSign_lt {c : Nat} (h : okSign c = true) : c < 128 := by
  unfold okSign at h
  rcases Bool.or_eq_true_iff.mp h with h | h
  · exact (by decide +kernel : ∀ c ∈ lettersS.cps.toList, c < 128) c (of_decide_eq_true h)
  · rcases Bool.or_eq_true_iff.mp h with h | h
    · exact (by decide +kernel : ∀ c ∈ digitsS.cps.toList, c < 128) c (of_decide_eq_true h)
    · have e := V.str.inj (of_decide_eq_true h)
      have e : (⟨#[c]⟩ : Str).cps.toList = ("_" : Str).cps.toList := by rw [e]
      have e : [c] = ("_" : Str).cps.toList := e
      have : c ∈ ("_" : Str).cps.toList := by rw [← e]; exact List.mem_cons_self
      exact (by decide +kernel : ∀ c ∈ ("_" : Str).cps.toList, c < 128) c this
theorem ok_name {x : Str} (h : (isName x && decide (x.length ≤ 12)) = true) : StrOk x := by
  obtain ⟨h1, h2⟩ := Bool.and_eq_true_iff.mp h
  have all : ∀ c ∈ x.cps.toList, c < 128 := by
    unfold isName at h1
    intro c hc
    split at h1
    · cases h1
    · rename_i c0 r e
      rw [e] at hc
      exact okSign_lt (List.all_eq_true.mp (Bool.and_eq_true_iff.mp h1).2 c hc)
  refine ⟨of_decide_eq_true h2, List.all_eq_true.mpr fun c hc => decide_eq_true (Nat.lt_trans (all c hc) (by decide)), ?_⟩
  simp only [PyData.canLay0, PyData.strOk]
  rw [← Array.all_toList]
  exact List.all_eq_true.mpr fun c hc => decide_eq_true (Nat.lt_trans (all c hc) (by decide))
theorem StrOk.sm {x : Str} (h : StrOk x) : Sm (.str x) 0 41 := (Sm.str h.len h.cps h.lay).mono (Nat.le_refl _) (by decide)
end Mine
set_option Elab.async false
set_option linter.all false
set_option maxRecDepth 100000
set_option maxHeartbeats 8000000
namespace Mine
open PySem PySem.Spec PyProof.Rows L2 Ln RZ
/-! ## events as data -/
inductive Ev where
  | cancel (f : Str)
  | late (f : Str) (m : Int)
  | smaller (f k : Str)
  deriving DecidableEq
def Ev.flt : Ev → Str
  | .cancel f => f
  | .late f _ => f
  | .smaller f _ => f
def evD : Ev → PyData
  | .cancel f => .tuple [.str "cancel", .str f]
  | .late f m => .tuple [.str "late", .str f, .int m]
  | .smaller f k => .tuple [.str "smaller", .str f, .str k]
theorem noL_ev (e : Ev) : noL (evD e) = true := by cases e <;> rfl
theorem noLs_ev (es : List Ev) : noLs (es.map evD) = true := noLs_of fun d hd => by
  obtain ⟨e, _, rfl⟩ := List.mem_map.mp hd
  exact noL_ev e
theorem s_cl : ("cancel" : Str) ≠ "late" := by decide
theorem s_cs : ("cancel" : Str) ≠ "smaller" := by decide
theorem s_ls : ("late" : Str) ≠ "smaller" := by decide
theorem eqv_ev (a b : Ev) : PyData.eqv (evD a) (evD b) = decide (a = b) := by
  have cl := s_cl
  have cs := s_cs
  have ls := s_ls
  cases a <;> cases b <;> simp only [evD, PyData.eqv, PyData.eqvAll, Bool.and_true, Bool.and_false, beq_self_eq_true, Bool.true_and]
  · rename_i f g
    by_cases h : f = g
    · rw [h]; simp
    · rw [decide_eq_false (fun z => h (by injection z))]; exact beq_eq_false_iff_ne.mpr h
  · rw [decide_eq_false (by intro z; cases z)]
  · rw [decide_eq_false (by intro z; cases z)]
  · rw [decide_eq_false (by intro z; cases z)]
  · rename_i f m g n
    by_cases h : f = g
    · by_cases h2 : m = n
      · rw [h, h2]; simp
      · rw [decide_eq_false (fun z => h2 (by injection z)), beq_eq_false_iff_ne.mpr h2, Bool.and_false]
    · rw [decide_eq_false (fun z => h (by injection z)), beq_eq_false_iff_ne.mpr h, Bool.false_and]
  · rw [decide_eq_false (by intro z; cases z)]
  · rw [decide_eq_false (by intro z; cases z)]
  · rw [decide_eq_false (by intro z; cases z)]
  · rename_i f m g n
    by_cases h : f = g
    · by_cases h2 : m = n
      · rw [h, h2]; simp
      · rw [decide_eq_false (fun z => h2 (by injection z)), beq_eq_false_iff_ne.mpr h2, Bool.and_false]
    · rw [decide_eq_false (fun z => h (by injection z)), beq_eq_false_iff_ne.mpr h, Bool.false_and]
theorem known_of {d : PyData} {ns : List Str} (h : knownD d ns = true) : ∃ x, d = .str x ∧ x ∈ ns := by
  cases d with
  | str x => exact ⟨x, rfl, of_decide_eq_true h⟩
  | _ => cases h
theorem ev_of {N : Net} {d : PyData} (h : evB N d = true) : ∃ e, d = evD e := by
  match d, h with
  | .tuple [.str s, b], h =>
    have h : (decide (s = "cancel") && knownD b (fnamesN N)) = true := h
    obtain ⟨h1, h2⟩ := Bool.and_eq_true_iff.mp h
    obtain ⟨x, rfl, _⟩ := known_of h2
    rw [of_decide_eq_true h1]
    exact ⟨.cancel x, rfl⟩
  | .tuple [.str s, b, c], h =>
    have h : (knownD b (fnamesN N) && (if s = "late" then lateB c else decide (s = "smaller") && smallD N (kindOf N (strD b)) c)) = true := h
    obtain ⟨h1, h2⟩ := Bool.and_eq_true_iff.mp h
    obtain ⟨x, rfl, _⟩ := known_of h1
    by_cases l : s = "late"
    · rw [if_pos l] at h2
      rw [l]
      cases c with
      | int m => exact ⟨.late x m, rfl⟩
      | _ => cases h2
    · rw [if_neg l] at h2
      obtain ⟨h3, h4⟩ := Bool.and_eq_true_iff.mp h2
      rw [of_decide_eq_true h3]
      cases c with
      | str y => exact ⟨.smaller x y, rfl⟩
      | _ => cases h4
theorem evs_of {N : Net} : ∀ {ds : List PyData}, ds.all (evB N) = true → ∃ es : List Ev, ds = es.map evD
  | [], _ => ⟨[], rfl⟩
  | d :: ds, h => by
    rw [List.all_cons] at h
    obtain ⟨h1, h2⟩ := Bool.and_eq_true_iff.mp h
    obtain ⟨e, rfl⟩ := ev_of h1
    obtain ⟨es, rfl⟩ := evs_of h2
    exact ⟨e :: es, rfl⟩
/-- an event of the net -/
def EvOk (N : Net) (e : Ev) : Prop := evB N (evD e) = true
theorem EvOk.flt {N : Net} {e : Ev} (h : EvOk N e) : e.flt ∈ fnamesN N := by
  cases e with
  | cancel f => exact of_decide_eq_true (Bool.and_eq_true_iff.mp (show (decide (("cancel" : Str) = "cancel") && knownD (.str f) (fnamesN N)) = true from h)).2
  | late f m => exact of_decide_eq_true (Bool.and_eq_true_iff.mp (show (knownD (.str f) (fnamesN N) && _) = true from h)).1
  | smaller f k => exact of_decide_eq_true (Bool.and_eq_true_iff.mp (show (knownD (.str f) (fnamesN N) && _) = true from h)).1
theorem EvOk.late {N : Net} {f : Str} {m : Int} (h : EvOk N (.late f m)) : 1 ≤ m ∧ m ≤ 1440 := by
  have h2 := (Bool.and_eq_true_iff.mp (show (knownD (.str f) (fnamesN N) && (if ("late" : Str) = "late" then lateB (.int m) else _)) = true from h)).2
  rw [if_pos rfl] at h2
  have h2 : (decide (1 ≤ m) && decide (m ≤ 1440)) = true := h2
  exact ⟨of_decide_eq_true (Bool.and_eq_true_iff.mp h2).1, of_decide_eq_true (Bool.and_eq_true_iff.mp h2).2⟩
theorem EvOk.small {N : Net} {f k : Str} (h : EvOk N (.smaller f k)) : k ∈ tnames N := by
  have h2 := (Bool.and_eq_true_iff.mp (show (knownD (.str f) (fnamesN N) && (if ("smaller" : Str) = "late" then lateB (.str k) else decide (("smaller" : Str) = "smaller") && smallD N (kindOf N f) (.str k))) = true from h)).2
  rw [if_neg s_ls.symm] at h2
  have h3 : (decide (k ∈ tnames N) && _) = true := (Bool.and_eq_true_iff.mp h2).2
  exact of_decide_eq_true (Bool.and_eq_true_iff.mp h3).1
theorem ok_cancelS : StrOk "cancel" := ⟨by decide, by decide, by simp only [PyData.canLay0]; decide +kernel⟩
theorem ok_lateS : StrOk "late" := ⟨by decide, by decide, by simp only [PyData.canLay0]; decide +kernel⟩
theorem ok_smallerS : StrOk "smaller" := ⟨by decide, by decide, by simp only [PyData.canLay0]; decide +kernel⟩
theorem Right.fok {N : Net} (R : Right N) {x : Str} (h : x ∈ fnamesN N) : StrOk x := ok_name ((R.names (i := 3) (by decide)).2 x h)
theorem Right.tok {N : Net} (R : Right N) {x : Str} (h : x ∈ tnames N) : StrOk x := ok_name ((R.names (i := 1) (by decide)).2 x h)
theorem sm_list3 {ds : List PyData} (h : ∀ d ∈ ds, Sm d 0 41) (l : ds.length ≤ 3) : Sm (.tuple ds) 1 126 := (Sm.tup (k := 0) (m := 41) (n := 3) h l).mono (Nat.le_refl _) (by decide)
theorem sm_ev {N : Net} (R : Right N) {e : Ev} (h : EvOk N e) : Sm (evD e) 1 126 := by
  have hf := (R.fok h.flt).sm
  cases e with
  | cancel f =>
    refine sm_list3 (fun d hd => ?_) (by show 2 ≤ 3; decide)
    simp only [List.mem_cons, List.not_mem_nil, or_false] at hd
    rcases hd with rfl | rfl
    · exact ok_cancelS.sm
    · exact hf
  | late f m =>
    have hm := h.late
    refine sm_list3 (fun d hd => ?_) (by show 3 ≤ 3; decide)
    simp only [List.mem_cons, List.not_mem_nil, or_false] at hd
    rcases hd with rfl | rfl | rfl
    · exact ok_lateS.sm
    · exact hf
    · exact Sm.int (by omega)
  | smaller f k =>
    refine sm_list3 (fun d hd => ?_) (by show 3 ≤ 3; decide)
    simp only [List.mem_cons, List.not_mem_nil, or_false] at hd
    rcases hd with rfl | rfl | rfl
    · exact ok_smallerS.sm
    · exact hf
    · exact (R.tok h.small).sm
theorem heads_ev (e : Ev) : Heads (evD e) := by
  cases e
  · exact ⟨_, rfl⟩
  · exact ⟨_, rfl⟩
  · exact ⟨_, rfl⟩
def rowsD : PyData → List PyData | .tuple ds => ds | _ => []
/-- no item stands twice -/
def uqB (ds : List PyData) : Bool := (List.range ds.length).all fun i => !((ds.take i).any fun z => PyData.eqv z (ds.getD i .none))
def thrB (N : Net) (d : PyData) : Bool := shortB d 12 && ((rowsD d).all (evB N) && uqB (rowsD d))
theorem any_ev {es : List Ev} {e : Ev} : ((es.map evD).any fun z => PyData.eqv z (evD e)) = decide (e ∈ es) := by
  rw [List.any_map]
  apply Bool.eq_iff_iff.mpr
  rw [List.any_eq_true, decide_eq_true_eq]
  constructor
  · rintro ⟨y, hy, h⟩
    have h : PyData.eqv (evD y) (evD e) = true := h
    rw [eqv_ev] at h
    rw [← of_decide_eq_true h]
    exact hy
  · intro h
    exact ⟨e, h, by show PyData.eqv (evD e) (evD e) = true; rw [eqv_ev]; exact decide_eq_true rfl⟩
theorem uq_ev {es : List Ev} (h : es.Nodup) : uqB (es.map evD) = true := by
  unfold uqB
  refine List.all_eq_true.mpr fun i hi => ?_
  have hi := List.mem_range.mp hi
  rw [List.length_map] at hi
  have e : (es.map evD).getD i .none = evD es[i] := by
    rw [List.getD_eq_getElem?_getD, List.getElem?_map, List.getElem?_eq_getElem hi]
    rfl
  rw [e, ← List.map_take, any_ev, decide_eq_false]
  · rfl
  · intro m
    obtain ⟨j, hj, z⟩ := List.mem_iff_getElem.mp m
    rw [List.length_take] at hj
    rw [List.getElem_take] at z
    have := (List.nodup_iff_pairwise_ne.mp h)
    have := List.pairwise_iff_getElem.mp this j i (by omega) hi (by omega)
    exact this z
theorem thr_ev {N : Net} {es : List Ev} (h : ∀ e ∈ es, EvOk N e) (nd : es.Nodup) (l : es.length ≤ 12) : thrB N (.tuple (es.map evD)) = true := by
  unfold thrB
  have h1 : shortB (.tuple (es.map evD)) 12 = true := by
    show decide (((es.map evD).length : Int) ≤ 12) = true
    rw [List.length_map]
    exact decide_eq_true (by omega)
  have h2 : (es.map evD).all (evB N) = true := List.all_eq_true.mpr fun d hd => by
    obtain ⟨e, he, rfl⟩ := List.mem_map.mp hd
    exact h e he
  rw [h1, Bool.true_and]
  show ((es.map evD).all (evB N) && uqB (es.map evD)) = true
  rw [h2, uq_ev nd]
  rfl
theorem thr_of {N : Net} {d : PyData} (h : thrB N d = true) : ∃ es : List Ev, d = .tuple (es.map evD) ∧ es.length ≤ 12 ∧ ∀ e ∈ es, EvOk N e := by
  unfold thrB at h
  obtain ⟨h1, h2⟩ := Bool.and_eq_true_iff.mp h
  obtain ⟨h2, _⟩ := Bool.and_eq_true_iff.mp h2
  match d, h1, h2 with
  | .tuple ds, h1, h2 =>
    have h2 : ds.all (evB N) = true := h2
    obtain ⟨es, rfl⟩ := evs_of h2
    have h1 : decide (((es.map evD).length : Int) ≤ 12) = true := h1
    have h1 := of_decide_eq_true h1
    rw [List.length_map] at h1
    exact ⟨es, rfl, by omega, fun e he => List.all_eq_true.mp h2 _ (List.mem_map_of_mem he)⟩
end Mine
set_option Elab.async false
set_option linter.all false
set_option maxRecDepth 100000
set_option maxHeartbeats 8000000
namespace Mine
open PySem PySem.Spec PyProof.Rows L2 Ln RZ
abbrev s_Chart_flights_of : Stmt := inClass (topS 65) 1
abbrev N_Chart_flights_of : List Str := ["self", "journey", "name"]
theorem sc_Chart_flights_of : FnScope N_Chart_flights_of ["self", "journey"] (defScope s_Chart_flights_of) := ⟨rfl, rfl, rfl, by decide +kernel, rfl, by decide +kernel, by decide +kernel⟩
-- slots: 0 self*, 1 journey, 2 name
/-! ## what becomes of the flights of a tail -/
abbrev Dv := Option (Int × Int × Int)
def dayD : Dv → PyData
  | none => .none
  | some (a, b, c) => .tuple [.int a, .int b, .int c]
theorem noL_day (d : Dv) : noL (dayD d) = true := by
  match d with
  | none => rfl
  | some (a, b, c) => rfl
def mx (a b : Int) : Int := if b > a then b else a
def evOf (c : List Ev) (x : Str) : Option Ev := c.find? fun e => decide (e.flt = x)
def waitOf (c : List Ev) (x : Str) : Int := match evOf c x with | some (.late _ m) => m | _ => 0
def kindBy (c : List Ev) (f : Flt) : Str := match evOf c f.name with | some (.smaller _ k) => k | _ => f.kind
def isCancel : Option Ev → Bool | some (.cancel _) => true | _ => false
def offB (c : List Ev) (stand : Str) (f : Flt) : Bool := isCancel (evOf c f.name) || !decide (stand = f.start)
def depOf (c : List Ev) (ready : Int) (f : Flt) : Int := mx (f.dep + waitOf c f.name) ready
def turnOf (N : Net) (k : Str) : Int := ((N.ty.find? fun t => decide (t.1 = k)).map fun t => t.2.2).getD 0
def fly (N : Net) (c : List Ev) (turn : Int) : Str → Int → List Flt → List (Str × Dv)
  | _, _, [] => []
  | st, rd, f :: fs => if offB c st f = true then (f.name, none) :: fly N c turn st rd fs
    else (f.name, some (depOf c rd f, depOf c rd f + f.arr - f.dep, seatsOf N (kindBy c f))) :: fly N c turn f.fin (depOf c rd f + f.arr - f.dep + turn) fs
def flyT (N : Net) (c : List Ev) (k : Str) : List Flt → List (Str × Dv)
  | [] => []
  | f :: fs => fly N c (turnOf N k) f.start 0 (f :: fs)
theorem fly_names {N : Net} {c : List Ev} {turn : Int} : ∀ (fs : List Flt) (st : Str) (rd : Int), (fly N c turn st rd fs).map (·.1) = fs.map Flt.name
  | [], _, _ => rfl
  | f :: fs, st, rd => by
    unfold fly
    split
    · rw [List.map_cons, fly_names fs]; rfl
    · rw [List.map_cons, fly_names fs]; rfl
theorem flyT_names {N : Net} {c : List Ev} {k : Str} (fs : List Flt) : (flyT N c k fs).map (·.1) = fs.map Flt.name := by
  cases fs with
  | nil => rfl
  | cons f fs => exact fly_names _ _ _
/-- where a tail stands and when it is ready behind some flights -/
def stF (c : List Ev) (turn : Int) : Str × Int → List Flt → Str × Int
  | s, [] => s
  | (st, rd), f :: fs => if offB c st f = true then stF c turn (st, rd) fs else stF c turn (f.fin, depOf c rd f + f.arr - f.dep + turn) fs
theorem fly_snoc {N : Net} {c : List Ev} {turn : Int} {g : Flt} : ∀ (fs : List Flt) (st : Str) (rd : Int), fly N c turn st rd (fs ++ [g]) = fly N c turn st rd fs ++ fly N c turn (stF c turn (st, rd) fs).1 (stF c turn (st, rd) fs).2 [g]
  | [], _, _ => rfl
  | f :: fs, st, rd => by
    rw [List.cons_append]
    unfold fly stF
    split
    · rw [fly_snoc fs]; rfl
    · rw [fly_snoc fs]; rfl
theorem stF_snoc {c : List Ev} {turn : Int} {g : Flt} : ∀ (fs : List Flt) (s : Str × Int), stF c turn s (fs ++ [g]) = stF c turn (stF c turn s fs) [g]
  | [], _ => rfl
  | f :: fs, (st, rd) => by
    rw [List.cons_append]
    show (if offB c st f = true then stF c turn (st, rd) (fs ++ [g]) else stF c turn (f.fin, depOf c rd f + f.arr - f.dep + turn) (fs ++ [g])) = stF c turn (if offB c st f = true then stF c turn (st, rd) fs else stF c turn (f.fin, depOf c rd f + f.arr - f.dep + turn) fs) [g]
    split
    · exact stF_snoc fs _
    · exact stF_snoc fs _
/-! ## objects of a chart -/
def fltFs (f : Flt) (lt : Addr) : List (Str × V) := [("name", .str f.name), ("start", .str f.start), ("end", .str f.fin), ("depart", .int f.dep), ("arrive", .int f.arr), ("kind", .str f.kind), ("distance", .int f.dist), ("limits", .ref lt)]
/-- an object of the flight -/
def FltO (Cf : Addr) (H : Hp) (o : Addr) (f : Flt) : Prop := ∃ dx lt, H o = some (.ins Cf dx (fltFs f lt))
theorem FltO.same {Cf o : Addr} {H H' : Hp} {f : Flt} (h : FltO Cf H o f) (s : Same H H') : FltO Cf H' o f := by
  obtain ⟨dx, lt, e⟩ := h
  exact ⟨dx, lt, s _ _ e⟩
section
variable {P : Program} {w : World} {K : PySem.W.Frag} {mg : Str → Option Value} {base : Heap} {CC C fI : Addr} {cl : Clss}
theorem flz_at {H : Hp} {zs : List V} {f : Flt} (h : DpAll K H zs [.str f.name, .str f.start, .str f.fin, .int f.dep, .int f.arr, .str f.kind, .int f.dist, .tuple (f.lims.map .int)]) : ∃ lt, zs = [.str f.name, .str f.start, .str f.fin, .int f.dep, .int f.arr, .str f.kind, .int f.dist, .ref lt] := by
  cases h with
  | cons a h => cases a; cases h with
    | cons a h => cases a; cases h with
      | cons a h => cases a; cases h with
        | cons a h => cases a; cases h with
          | cons a h => cases a; cases h with
            | cons a h => cases a; cases h with
              | cons a h => cases a; cases h with
                | cons a h => cases a; cases h; exact ⟨_, rfl⟩
theorem flt_obj {H0 H : Hp} {N : Net} {D Cf : Addr} {f : Flt} (h : PartD K H0 H D Cf ["name", "start", "end", "depart", "arrive", "kind", "distance", "limits"] (N.fl.map flD)) (nd : (fnamesN N).Nodup) (hf : f ∈ N.fl) :
    ∃ (kvs : List (Key × V)) (o : Addr), H D = some (.dK kvs) ∧ valV kvs (.inr f.name) = some (.ref o) ∧ FltO Cf H o f := by
  obtain ⟨j, hr⟩ := List.mem_iff_getElem?.mp hf
  obtain ⟨kvs, o, dx, zs, a, b, c, ho, hz⟩ := h.look (names := fnamesN N) nd (by unfold fnamesN; rw [List.length_map, List.length_map]) (fun i x h => by
    unfold fnamesN at h
    rw [List.getElem?_map] at h
    obtain ⟨r, hr, rfl⟩ := Option.map_eq_some_iff.mp h
    exact ⟨_, by rw [List.getElem?_map, hr]; rfl⟩) (i := j) (x := f.name) (es := [.str f.start, .str f.fin, .int f.dep, .int f.arr, .str f.kind, .int f.dist, .tuple (f.lims.map .int)]) (by rw [List.getElem?_map, hr]; rfl)
  obtain ⟨lt, rfl⟩ := flz_at hz
  exact ⟨kvs, o, a, c, dx, lt, ho⟩
structure FofTxt (K : PySem.W.Frag) (CC : Addr) : Prop where
  o_CC : Cls K CC
  a_flights : NoAttr K CC "flights"
/-- the objects of some flights -/
def FltOs (Cf : Addr) (H : Hp) (os : List V) (fs : List Flt) : Prop := os.length = fs.length ∧ ∀ (i : Nat) (f : Flt), fs[i]? = some f → ∃ o : Addr, os[i]? = some (V.ref o) ∧ FltO Cf H o f
theorem FltOs.same {Cf : Addr} {H H' : Hp} {os : List V} {fs : List Flt} (h : FltOs Cf H os fs) (s : Same H H') : FltOs Cf H' os fs := ⟨h.1, fun i f e => by
  obtain ⟨o, a, b⟩ := h.2 i f e
  exact ⟨o, a, b.same s⟩⟩
theorem FltOs.snoc {Cf : Addr} {H : Hp} {os : List V} {fs : List Flt} (h : FltOs Cf H os fs) {o : Addr} {f : Flt} (k : FltO Cf H o f) : FltOs Cf H (os ++ [V.ref o]) (fs ++ [f]) := by
  refine ⟨by rw [List.length_append, List.length_append, h.1]; rfl, fun i g e => ?_⟩
  by_cases c : i < fs.length
  · rw [List.getElem?_append_left c] at e
    obtain ⟨o', a, b⟩ := h.2 i g e
    exact ⟨o', by rw [List.getElem?_append_left (by rw [h.1]; exact c)]; exact a, b⟩
  · rw [List.getElem?_append_right (by omega)] at e
    have z : i - fs.length = 0 := by
      have := (List.getElem?_eq_some_iff.mp e).1
      simp at this
      omega
    rw [z] at e
    cases e
    refine ⟨o, ?_, k⟩
    rw [List.getElem?_append_right (by rw [h.1]; omega), h.1, z]
    rfl
def spFlightsOf (K : PySem.W.Frag) (CC : Addr) (cl : Clss) : Sp := hid fun vs H Q _ => ∃ (H0 : Hp) (ch dx t : Addr) (N : Net) (d : Dcts) (fs : List Flt), vs = [V.ref ch, V.ref t] ∧ H ch = some (.ins CC dx (chFs d)) ∧ PartD K H0 H d.d4 cl.fl ["name", "start", "end", "depart", "arrive", "kind", "distance", "limits"] (N.fl.map flD) ∧ Right N ∧
  SqT K H t (fs.map fun f => V.str f.name) ∧ fs.length ≤ 100 ∧ (∀ f ∈ fs, f ∈ N.fl) ∧ ∀ (H' : Hp) (D : Addr) (os : List V), Same H H' → H D = none → H' D = some (.lst os) → FltOs cl.fl H' os fs → Q (V.ref D) H'
theorem ok_flightsof {f : Addr} {fd : FuncData} (F : Fun K "flights_of" "Chart.flights_of" s_Chart_flights_of f fd) (T : FofTxt K CC) : FnOk P w K mg base CX0 1 f fd ["self", "journey"] (spFlightsOf K CC cl) := by
  refine F.ok sc_Chart_flights_of (fun vs H Q E h => ?_) (fun cdv A outer s H vs Q E hr h => ?_)
  · obtain ⟨H0, ch, dx, t, N, d, fs, rfl, _⟩ := h
    rfl
  · obtain ⟨H0, ch, dx, t, N, d, fs, rfl, hch, p4, R, ht, l100, hfs, q⟩ := h
    refine ⟨_, (pss_one (ps_ret (pe_lc (own := [("name", 2)]) rfl sc_Chart_flights_of.nd (pi_tup (pv 1)) (blkOk_by (own := [("name", 2)]) (N := N_Chart_flights_of) (sc := defScope s_Chart_flights_of) (by decide +kernel)) (fun _ _ _ _ _ => (pg_name (i := 2) sc_Chart_flights_of.nd rfl (.inl rfl))) (fun _ _ _ _ _ => pts_nil) (fun _ _ _ _ _ => (pe_dget (by exact hu_of hr) (pe_fldK (K := K) (pv 0) rfl) (pv 2) (fun _ _ => rfl)))))), ?_⟩
    have nd : (fnamesN N).Nodup := (R.names (i := 3) (by decide)).1
    have nlF : noLs (N.fl.map flD) = true := noLs_map noL_fl N.fl
    refine ⟨_, rfl, t, rfl, ⟨_, ht⟩, fun D nD => lc_it (walk_tup (K := K) (a := t) (xs := fs.map fun f => V.str f.name)) (fun i H' => Same H H' ∧ ∃ os, H' D = some (.lst os) ∧ FltOs cl.fl H' os (fs.take i)) ?_ ?_ ?_ ?_⟩
    · exact ⟨Ln.same_upd nD, [], upd_same, rfl, fun i f e => by cases e⟩
    · rintro i H' hi ⟨sm, _⟩
      exact Same.tup sm ht
    · rintro i x Hx H' hi ⟨sm, os, hD, ho⟩ ⟨rfl, hx⟩
      rw [List.getElem?_map] at hx
      obtain ⟨fl, hfl, rfl⟩ := Option.map_eq_some_iff.mp hx
      obtain ⟨kvs, o, hk, hv, hob⟩ := flt_obj (p4) nd (hfs fl (List.mem_of_getElem? hfl))
      refine ⟨rfl, _, rfl, ch, CC, dx, chFs d, _, rfl, sm _ _ hch, T.o_CC, T.a_flights, rfl, _, rfl, d.d4, .ref o, rfl, .inl ⟨kvs, .inr fl.name, .inl (sm _ _ hk), rfl, hv.symm⟩, os, hD, ?_, same_at sm nD, _, upd_same, ?_⟩
      · have := ho.1
        rw [List.length_take] at this
        exact small1 (by omega)
      · rw [takeS hfl]
        have ne : ∀ b u, b ≠ D → H' b = some u → (upd H' D (.lst (os ++ [V.ref o]))) b = some u := fun b u n e => by rw [upd_ne n]; exact e
        have keep : ∀ {o : Addr} {f : Flt}, FltO cl.fl H' o f → FltO cl.fl (upd H' D (.lst (os ++ [V.ref o]))) o f := fun {o f} h => by
          obtain ⟨dx, lt, e⟩ := h
          refine ⟨dx, lt, ?_⟩
          rw [upd_ne (fun z => by rw [z, hD] at e; cases e)]
          exact e
        refine FltOs.snoc ⟨ho.1, fun i f e => ?_⟩ ?_
        · obtain ⟨o', a, dx', lt', b⟩ := ho.2 i f e
          exact ⟨o', a, dx', lt', by rw [upd_ne (fun z => by rw [z, hD] at b; cases b)]; exact b⟩
        · exact keep (hob.same sm)
    · rintro H1 ⟨sm, os, hD, ho⟩
      rw [List.length_map, List.take_length] at ho
      exact q H1 D os sm nD hD ho
end
end Mine
set_option Elab.async false
set_option linter.all false
set_option maxRecDepth 100000
set_option maxHeartbeats 8000000
namespace Mine
open PySem PySem.Spec PyProof.Rows L2 Ln RZ
abbrev s_is_short : Stmt := topS 9
abbrev N_is_short : List Str := ["value", "most"]
theorem sc_is_short : FnScope N_is_short ["value", "most"] (defScope s_is_short) := ⟨rfl, rfl, rfl, by decide +kernel, rfl, by decide +kernel, by decide +kernel⟩
-- slots: 0 value, 1 most
structure ShtTxt (mg : Str → Option Value) : Prop where
  z_len : mg "len" = none
  z_tuple : mg "tuple" = none
  z_isinstance : mg "isinstance" = none
section
variable {P : Program} {w : World} {K : PySem.W.Frag} {mg : Str → Option Value} {base : Heap} {CC C fI : Addr} {cl : Clss}
theorem PartD.same {H0 H H' : Hp} {D C : Addr} {fs : List Str} {ds : List PyData} (h : PartD K H0 H D C fs ds) (hn : noLs ds = true) (s : Same H H') : PartD K H0 H' D C fs ds := by
  obtain ⟨nD, kvs, hD, hl, hall⟩ := h
  refine ⟨nD, kvs, s _ _ hD, hl, fun i x es e => ?_⟩
  obtain ⟨o, dx, zs, n, k, ho, hz, l⟩ := hall i x es e
  have nl : noLs (.str x :: es) = true := by
    have := noLs_mem hn _ (List.mem_of_getElem? e)
    simpa only [noL] using this
  exact ⟨o, dx, zs, n, k, s _ _ ho, Dp.tpfAll (TpF.same s) _ _ nl hz, l⟩
theorem RankD.same {H0 H H' : Hp} {D : Addr} {cs : List Str} (h : RankD H0 H D cs) (s : Same H H') : RankD H0 H' D cs := by
  obtain ⟨nD, kvs, hD, r⟩ := h
  exact ⟨nD, kvs, s _ _ hD, r⟩
theorem Charted.same {H0 H H' : Hp} {N : Net} {c : Clss} {d : Dcts} (h : Charted K H0 H N c d) (s : Same H H') : Charted K H0 H' N c d :=
  ⟨h.p1.same (noLs_map noL_tr _) s, h.p2.same (noLs_map noL_tr _) s, h.p3.same s, h.p4.same (noLs_map noL_fl _) s, h.p5.same (noLs_map noL_tl _) s, h.p6.same (noLs_map noL_fa _) s⟩
theorem DpAll.take {H : Hp} : ∀ {xs : List V} {ds : List PyData} (k : Nat), DpAll K H xs ds → DpAll K H (xs.take k) (ds.take k)
  | _, _, 0, h => .nil
  | [], _, k + 1, h => by cases h; exact .nil
  | x :: xs, _, k + 1, h => by cases h with | cons a b => exact .cons a (DpAll.take k b)
def spIsShort (K : PySem.W.Frag) : Sp := fun vs H Q _ => ∃ (v : V) (d : PyData) (n : Int), vs = [v, .int n] ∧ Dp K H v d ∧ noL d = true ∧ Q (.bl (shortB d n)) H
theorem ok_isshort {f : Addr} {fd : FuncData} (F : Fun K "is_short" "is_short" s_is_short f fd) (T : ShtTxt mg) : FnG P w K mg base CX0 1 f fd ["value", "most"] (spIsShort K) := by
  refine okG F sc_is_short (fun vs H Q E h => ?_) (fun cdv A outer s H vs Q E hG hr h => ?_)
  · obtain ⟨v, d, n, rfl, _⟩ := h
    rfl
  · obtain ⟨v, d, n, rfl, hd, nl, q⟩ := h
    refine ⟨_, (pss_one (ps_ret (pe_and (pe_callB (r := rIsi K) (id := "isinstance") call_isi (by rfl) T.z_isinstance (by decide +kernel) (pa_cons (pv 0) (pa_cons (pe_bltn (v := .ty "tuple") (u := .type "tuple") (by rfl) T.z_tuple (by decide +kernel) rfl) pa_nil))) (pe_one (pe_cmpR op_le (pe_callB (r := Ln.rLen K) (id := "len") c_len (by rfl) T.z_len (by decide +kernel) (pa_cons (pv 0) pa_nil)) (pv 1) (nomark _)))))), ?_⟩
    obtain ⟨t, ty, _, _, _, k4⟩ := (Dp.plain hd nl).kit
    refine ⟨v, rfl, v, _, t, _, _, rfl, .ty "tuple", ty, k4, _, rfl, ?_⟩
    cases hd with
    | @tup a xs ds h1 h2 =>
      refine iteT ⟨_, rfl, .ref a, xs.length, rfl, .inr ⟨_, h1, rfl⟩, _, rfl, _, _, rfl, rfl, ?_⟩
      rw [DpAll.len h2]
      exact q
    | lst _ _ => simp [noL] at nl
    | _ => exact iteF q
theorem lay_all {k m : Nat} {ds : List PyData} (h : ∀ d ∈ ds, Sm d k m) : PyData.canLayAll0 ds = true := (Sm.all h).2.2.2.2
end
end Mine
set_option Elab.async false
set_option linter.all false
set_option maxRecDepth 100000
set_option maxHeartbeats 8000000
namespace Mine
open PySem PySem.Spec PyProof.Rows L2 Ln RZ
abbrev s_flown_by : Stmt := topS 77
abbrev N_flown_by : List Str := ["chart", "tail", "events", "waits", "found", "flights", "stand", "ready", "flight", "event", "depart", "kind"]
theorem sc_flown_by : FnScope N_flown_by ["chart", "tail", "events", "waits"] (defScope s_flown_by) := ⟨rfl, rfl, rfl, by decide +kernel, rfl, by decide +kernel, by decide +kernel⟩
-- slots: 0 chart, 1 tail, 2 events, 3 waits, 4 found, 5 flights, 6 stand, 7 ready, 8 flight, 9 event, 10 depart, 11 kind
/-- the events by their flights -/
def EvT (K : PySem.W.Frag) (H : Hp) (D : Addr) (c : List Ev) : Prop := ∃ kvs : List (Key × V), H D = some (.dK kvs) ∧ ∀ x, (evOf c x = none → valV kvs (.inr x) = none) ∧ ∀ e, evOf c x = some e → ∃ v, valV kvs (.inr x) = some v ∧ Dp K H v (evD e)
def WaT (H : Hp) (D : Addr) (c : List Ev) : Prop := ∃ kvs : List (Key × V), H D = some (.dK kvs) ∧ ∀ x, (valV kvs (.inr x)).getD (.int 0) = .int (waitOf c x)
/-- what becomes of flights, in a dict -/
def DvM (K : PySem.W.Frag) (H : Hp) (kvs : List (Key × V)) (l : List (Str × Dv)) : Prop := kvs.length = l.length ∧ ∀ (i : Nat) (p : Str × Dv), l[i]? = some p → ∃ v : V, kvs[i]? = some (Sum.inr p.1, v) ∧ Dp K H v (dayD p.2)
def taFs (nm k : Str) (t : Addr) : List (Str × V) := [("name", .str nm), ("kind", .str k), ("flights", .ref t)]
def TaO (K : PySem.W.Frag) (Ct : Addr) (H : Hp) (o : Addr) (nm k : Str) (ns : List Str) : Prop := ∃ dx t, H o = some (.ins Ct dx (taFs nm k t)) ∧ SqT K H t (ns.map V.str)
structure FbyTxt (K : PySem.W.Frag) (mg : Str → Option Value) (CC : Addr) (c : Clss) : Prop extends EvtTxt K CC c where
  o_ta : Cls K c.ta
  a_tflights : NoAttr K c.ta "flights"
  a_tkind : NoAttr K c.ta "kind"
  a_turn : NoAttr K c.ki "turn"
  a_start : NoAttr K c.fl "start"
  a_name : NoAttr K c.fl "name"
  a_end : NoAttr K c.fl "end"
  a_depart : NoAttr K c.fl "depart"
  a_arrive : NoAttr K c.fl "arrive"
  z_max : mg "max" = none
section
variable {P : Program} {w : World} {K : PySem.W.Frag} {mg : Str → Option Value} {base : Heap} {CC C fI : Addr} {cl : Clss}
theorem FltOs.keep {Cf D : Addr} {H H' : Hp} {os : List V} {fs : List Flt} {o : HO} (h : FltOs Cf H os fs) (b : But D H H') (e : H D = some o) (n : ∀ c dx l, o ≠ .ins c dx l) : FltOs Cf H' os fs := ⟨h.1, fun i f z => by
  obtain ⟨p, a, dx, lt, k⟩ := h.2 i f z
  exact ⟨p, a, dx, lt, b _ _ (fun y => by rw [y, e] at k; cases k; exact n _ _ _ rfl) k⟩⟩
theorem DvM.keep {D : Addr} {H H' : Hp} {kvs : List (Key × V)} {l : List (Str × Dv)} {ks : List (Key × V)} (h : DvM K H kvs l) (b : But D H H') (e : H D = some (.dK ks)) : DvM K H' kvs l := ⟨h.1, fun i p z => by
  obtain ⟨v, a, k⟩ := h.2 i p z
  refine ⟨v, a, Dp.tpf ?_ _ _ (noL_day _) k⟩
  rintro y zs (t | ⟨o, t⟩)
  · exact .inl (b y _ (fun z => by rw [z, e] at t; cases t) t)
  · exact .inr ⟨o, b y _ (fun z => by rw [z, e] at t; cases t) t⟩⟩
def tagO : Option Ev → Str
  | none => "none"
  | some (.cancel _) => "cancel"
  | some (.late _ _) => "late"
  | some (.smaller _ _) => "smaller"
theorem DvM.keys {H : Hp} {kvs : List (Key × V)} {l : List (Str × Dv)} (h : DvM K H kvs l) : kvs.map (·.1) = (l.map (·.1)).map Sum.inr := by
  refine List.ext_getElem? fun i => ?_
  rw [List.getElem?_map, List.getElem?_map, List.getElem?_map]
  by_cases c : i < l.length
  · obtain ⟨v, e, _⟩ := h.2 i _ (List.getElem?_eq_getElem c)
    rw [e, List.getElem?_eq_getElem c]
    rfl
  · rw [List.getElem?_eq_none (l := kvs) (by rw [h.1]; omega), List.getElem?_eq_none (l := l) (by omega)]
    rfl
theorem DvM.snoc {H : Hp} {kvs : List (Key × V)} {l : List (Str × Dv)} (h : DvM K H kvs l) {x : Str} {v : V} {d : Dv} (hv : Dp K H v (dayD d)) : DvM K H (kvs ++ [(.inr x, v)]) (l ++ [(x, d)]) := by
  refine ⟨by rw [List.length_append, List.length_append, h.1]; rfl, fun i p e => ?_⟩
  by_cases c : i < l.length
  · rw [List.getElem?_append_left c] at e
    obtain ⟨u, a, b⟩ := h.2 i p e
    exact ⟨u, by rw [List.getElem?_append_left (by rw [h.1]; exact c)]; exact a, b⟩
  · rw [List.getElem?_append_right (by omega)] at e
    have z : i - l.length = 0 := by
      have := (List.getElem?_eq_some_iff.mp e).1
      simp at this
      omega
    rw [z] at e
    cases e
    refine ⟨v, ?_, hv⟩
    rw [List.getElem?_append_right (by rw [h.1]; omega), h.1, z]
    rfl
theorem ite_to {b : Bool} {ta tb : TE} {σ : L2.St} {H : Hp} {Q : VK} {v : V} (h1 : b = true → ∀ R : VK, R v H → ta σ H R) (h2 : b = false → ∀ R : VK, R v H → tb σ H R) (q : Q v H) : if b = true then ta σ H Q else tb σ H Q := by
  cases b
  · exact iteF (h2 rfl Q q)
  · exact iteT (h1 rfl Q q)
theorem tag_cancel (o : Option Ev) : decide (V.str (tagO o) = V.str "cancel") = isCancel o := by
  rcases o with _ | _ | _ | _
  · exact (by decide : decide (V.str "none" = V.str "cancel") = false)
  · exact (by decide : decide (V.str "cancel" = V.str "cancel") = true)
  · exact (by decide : decide (V.str "late" = V.str "cancel") = false)
  · exact (by decide : decide (V.str "smaller" = V.str "cancel") = false)
theorem kind_turn {H0 H : Hp} {N : Net} {D Ck : Addr} {k : Str} (h : PartD K H0 H D Ck ["name", "seats", "turn"] (N.ty.map trD)) (nd : (tnames N).Nodup) (hk : k ∈ tnames N) :
    ∃ (kvs : List (Key × V)) (o dx : Addr) (fs : List (Str × V)), H D = some (.dK kvs) ∧ valV kvs (.inr k) = some (.ref o) ∧ H o = some (.ins Ck dx fs) ∧ fs.lookup ("seats" : Str) = some (V.int (seatsOf N k)) ∧ fs.lookup ("turn" : Str) = some (V.int (turnOf N k)) := by
  obtain ⟨j, hj⟩ := List.mem_iff_getElem?.mp hk
  unfold tnames at hj
  rw [List.getElem?_map] at hj
  obtain ⟨⟨k', s, t⟩, hr, e⟩ := Option.map_eq_some_iff.mp hj
  cases e
  obtain ⟨kvs, o, dx, zs, a, b, c, ho, hz⟩ := h.look (names := tnames N) nd (by unfold tnames; rw [List.length_map, List.length_map]) tri_names (i := j) (x := k') (es := [.int s, .int t]) (by rw [List.getElem?_map, hr]; rfl)
  have es : seatsOf N k' = s := by
    unfold seatsOf
    rw [find_keyN nd hr]
    rfl
  have et : turnOf N k' = t := by
    unfold turnOf
    rw [find_keyN nd hr]
    rfl
  cases hz with
  | cons q1 hz => cases hz with
    | cons q2 hz => cases hz with
      | cons q3 hz => cases hz; cases q1; cases q2; cases q3; exact ⟨kvs, o, dx, _, a, c, ho, by rw [es]; rfl, by rw [et]; rfl⟩
def spFlownBy (K : PySem.W.Frag) (CC : Addr) (cl : Clss) : Sp := hid fun vs H Q _ => ∃ (H0 : Hp) (ch dx tl ed wd : Addr) (N : Net) (d : Dcts) (c : List Ev) (nm k : Str) (fs : List Flt), vs = [V.ref ch, V.ref tl, V.ref ed, V.ref wd] ∧ H ch = some (.ins CC dx (chFs d)) ∧
  PartD K H0 H d.d2 cl.ki ["name", "seats", "turn"] (N.ty.map trD) ∧ PartD K H0 H d.d4 cl.fl ["name", "start", "end", "depart", "arrive", "kind", "distance", "limits"] (N.fl.map flD) ∧ Right N ∧ TaO K cl.ta H tl nm k (fs.map Flt.name) ∧ fs.length ≤ 100 ∧ (∀ f ∈ fs, f ∈ N.fl) ∧ (fs.map Flt.name).Nodup ∧ k ∈ tnames N ∧ (∀ f ∈ fs, f.kind ∈ tnames N) ∧ EvT K H ed c ∧ WaT H wd c ∧ (∀ e ∈ c, ∀ f ∈ fs, e.flt = f.name → evB N (evD e) = true) ∧
  ∀ (H' : Hp) (D : Addr) (kvs : List (Key × V)), Same H H' → H D = none → H' D = some (.dK kvs) → DvM K H' kvs (flyT N c k fs) → Q (V.ref D) H'
theorem ok_flownby {f : Addr} {fd : FuncData} (F : Fun K "flown_by" "flown_by" s_flown_by f fd) (T : FbyTxt K mg CC cl) (me_flights_of : C8.Met P w K mg base 1 CC "flights_of" (spFlightsOf K CC cl) []) : FnG P w K mg base CX0 2 f fd ["chart", "tail", "events", "waits"] (spFlownBy K CC cl) := by
  refine okG F sc_flown_by (fun vs H Q E h => ?_) (fun cdv A outer s H vs Q E hG hr h => ?_)
  · obtain ⟨H0, ch, dx, tl, ed, wd, N, d, c, nm, k, fs, rfl, _⟩ := h
    rfl
  · obtain ⟨H0, ch, dx, tl, ed, wd, N, d, c, nm, k, fs, rfl, hch, p2, p4, R, ⟨tdx, t, htl, ht⟩, l100, hfs, nds, hk, hkf, he, hw, hev, q⟩ := h
    refine ⟨_, (pss_cons (ps_set (i := 4) sc_flown_by.nd rfl (.inl rfl) pe_dnewK)
    (pss_cons (ps_set (i := 5) sc_flown_by.nd rfl (.inl rfl) (C8.pe_mt me_flights_of hr (by decide) (pv 0) (pa_cons (pe_fld (pv 1) rfl) pa_nil)))
    (pss_cons (ps_if (pt_cmpR (r := rEqE K) (op_eqE hr.units0) (pv 5) (pe_lst pa_nil) (nomark _))
    (pss_one (ps_ret (pv 4)))
    pss_nil)
    (pss_cons (ps_set (i := 6) sc_flown_by.nd rfl (.inl rfl) (pe_fld (pe_ix (r := rIx K) ix_seq (pv 5) pe_int (fun _ _ => rfl)) rfl))
    (pss_cons (ps_set (i := 7) sc_flown_by.nd rfl (.inl rfl) pe_int)
    (pss_cons (ps_for PassesOwn.never rfl (pi_list (pv 5)) (pg_name (i := 8) sc_flown_by.nd rfl (.inl rfl))
    (pss_cons (ps_set (i := 9) sc_flown_by.nd rfl (.inl rfl) (pe_dget2 (hu_of hr) (pv 2) (pe_fld (pv 8) rfl) (pe_tup (pa_cons pe_str pa_nil)) ⟨rfl, by rfl, rfl, rfl⟩))
    (pss_one (ps_if (PW.pt (pw_or (pt_cmpR op_eq (pe_ix (r := rIxT K) ix_tup (pv 9) pe_int (fun _ _ => rfl)) pe_str (nomark _)) (pw_or1 (pt_cmpR op_ne (pv 6) (pe_fld (pv 8) rfl) (nomark _)))))
    (pss_one (ps_dput (hu_of hr) (pv 4) (pe_fld (pv 8) rfl) pe_non rfl))
    (pss_cons (ps_set (i := 10) sc_flown_by.nd rfl (.inl rfl) (pe_callB (id := "max") (call_max2 rfl) (by rfl) T.z_max (by decide +kernel) (pa_cons (pe_op op_add (pe_fld (pv 8) rfl) (pe_dget2 (hu_of hr) (pv 3) (pe_fld (pv 8) rfl) pe_int ⟨rfl, by rfl, rfl, rfl⟩)) (pa_cons (pv 7) pa_nil))))
    (pss_cons (ps_set (i := 11) sc_flown_by.nd rfl (.inl rfl) (pe_ifExp (pt_cmpR op_eq (pe_ix (r := rIxT K) ix_tup (pv 9) pe_int (fun _ _ => rfl)) pe_str (nomark _)) (pe_ix (r := rIxT K) ix_tup (pv 9) pe_int (fun _ _ => rfl)) (pe_fld (pv 8) rfl)))
    (pss_cons (ps_dput (hu_of hr) (pv 4) (pe_fld (pv 8) rfl) (pe_tup (pa_cons (pv 10) (pa_cons (pe_op op_sub (pe_op op_add (pv 10) (pe_fld (pv 8) rfl)) (pe_fld (pv 8) rfl)) (pa_cons (pe_fld (pe_dget (by exact hu_of hr) (pe_fld (pv 0) rfl) (pv 11) (fun _ _ => rfl)) rfl) pa_nil)))) rfl)
    (pss_cons (ps_set (i := 6) sc_flown_by.nd rfl (.inl rfl) (pe_fld (pv 8) rfl))
    (pss_one (ps_set (i := 7) sc_flown_by.nd rfl (.inl rfl) (pe_op op_add (pe_ix (r := rIxT K) ix_tup (pe_dget (by exact hu_of hr) (pv 4) (pe_fld (pv 8) rfl) (fun _ _ => rfl)) pe_int (fun _ _ => rfl)) (pe_fld (pe_dget (by exact hu_of hr) (pe_fld (pv 0) rfl) (pe_fld (pv 1) rfl) (fun _ _ => rfl)) rfl))))))))))))
    (pss_one (ps_ret (pv 4))))))))), ?_⟩
    refine fun D nD => ⟨_, rfl, ?_⟩
    have s1 := Ln.same_upd (o := .dK []) nD
    refine ⟨ch, dx, chFs d, rfl, s1 _ _ hch, rfl, _, rfl, tl, cl.ta, tdx, taFs nm k t, V.ref t, rfl, s1 _ _ htl, T.o_ta, T.a_tflights, rfl, ?_⟩
    have ht' : SqT K H t (fs.map fun f => V.str f.name) := by
      rw [List.map_map] at ht
      exact ht
    refine ⟨H0, ch, dx, t, N, d, fs, rfl, s1 _ _ hch, p4.same (noLs_map noL_fl _) s1, R, Same.tup s1 ht', l100, hfs, fun H2 DL os sm2 nDL hDL hos => ⟨_, rfl, ?_⟩⟩
    have s2 : Same H H2 := s1.trans sm2
    have hD2 : H2 D = some (.dK []) := sm2 _ _ upd_same
    have neD : DL ≠ D := fun z => by rw [z, upd_same] at nDL; cases nDL
    clear sm2 nDL s1
    refine ⟨Nat.zero_le _, fun E0 nE => ?_⟩
    have sE := Ln.same_upd (o := .lst []) nE
    refine ⟨DL, E0, os, rfl, rfl, SqL.of (sE _ _ hDL), SqL.of upd_same, _, rfl, ?_⟩
    have s3 : Same H (upd H2 E0 (.lst [])) := s2.trans sE
    have hD3 := sE _ _ hD2
    have hDL3 := sE _ _ hDL
    have hos3 := hos.same sE
    clear hos hDL hD2 s2 sE
    generalize upd H2 E0 (.lst []) = H3 at s3 hD3 hDL3 hos3 ⊢
    by_cases c0 : fs = []
    · subst c0
      have e : os = [] := List.length_eq_zero_iff.mp hos3.1
      subst e
      refine iteT ⟨_, rfl, ?_⟩
      exact q H3 D [] s3 nD hD3 ⟨rfl, fun i p e => by cases e⟩
    · obtain ⟨f0, fs0, ec⟩ := List.exists_cons_of_ne_nil c0
      have hn : os.isEmpty = false := by
        have := hos3.1
        rw [ec] at this
        cases os with
        | nil => simp at this
        | cons a b => rfl
      rw [hn]
      refine iteF ?_
      obtain ⟨o0, eo0, dx0, lt0, ho0⟩ := hos3.2 0 f0 (by rw [ec]; rfl)
      refine ⟨_, rfl, .inl ⟨DL, os, 0, .ref o0, rfl, rfl, SqL.of hDL3, ?_, ?_⟩⟩
      · exact atI_nat (j := 0) eo0
      refine ⟨o0, cl.fl, dx0, _, .str f0.start, rfl, ho0, T.o_fl, T.a_start, rfl, _, rfl, DL, rfl, ⟨_, SqL.of hDL3⟩, ?_⟩
      obtain ⟨eks, hek, hel⟩ := he
      obtain ⟨wks, hwk, hwl⟩ := hw
      have ndk : (tnames N).Nodup := (R.names (i := 1) (by decide)).1
      refine for_it (walk_list (K := K) (a := DL) (xs := os)) (fun i σ H' => Same H H' ∧ H' DL = some (.lst os) ∧ FltOs cl.fl H' os fs ∧ ∃ (kvs : List (Key × V)) (v8 v9 v10 v11 : Option V), H' D = some (.dK kvs) ∧ DvM K H' kvs (fly N c (turnOf N k) f0.start 0 (fs.take i)) ∧
        σ = [some (.ref ch), some (.ref tl), some (.ref ed), some (.ref wd), some (.ref D), some (.ref DL), some (.str (stF c (turnOf N k) (f0.start, 0) (fs.take i)).1), some (.int (stF c (turnOf N k) (f0.start, 0) (fs.take i)).2), v8, v9, v10, v11]) ?_ ?_ ?_ ?_
      · exact ⟨s3, hDL3, hos3, [], _, _, _, _, hD3, ⟨rfl, fun i p e => by cases e⟩, rfl⟩
      · rintro i σ H' hi ⟨_, a, _⟩
        exact SqL.of a
      · rintro i x σ Hx H' hi ⟨sm, hDL', hos', kvs, v8, v9, v10, v11, hD', hdv, rfl⟩ ⟨rfl, hx⟩
        obtain ⟨g, hg⟩ : ∃ g, fs[i]? = some g := ⟨_, List.getElem?_eq_getElem (by rw [← hos'.1]; exact (List.getElem?_eq_some_iff.mp hx).1)⟩
        obtain ⟨o, eo, dx', lt', ho⟩ := hos'.2 i g hg
        rw [eo] at hx
        cases hx
        rw [takeS hg, fly_snoc, stF_snoc]
        generalize hst : (stF c (turnOf N k) (f0.start, 0) (fs.take i)).1 = st
        generalize hrd : (stF c (turnOf N k) (f0.start, 0) (fs.take i)).2 = rd
        have hstF : stF c (turnOf N k) (stF c (turnOf N k) (f0.start, 0) (fs.take i)) [g] = if offB c st g = true then (st, rd) else (g.fin, depOf c rd g + g.arr - g.dep + turnOf N k) := by
          rw [← hst, ← hrd]
          rfl
        have hfly : fly N c (turnOf N k) st rd [g] = if offB c st g = true then [(g.name, none)] else [(g.name, some (depOf c rd g, depOf c rd g + g.arr - g.dep, seatsOf N (kindBy c g)))] := by
          unfold fly
          split <;> rfl
        rw [hstF, hfly]
        have hgm : g ∈ fs := List.mem_of_getElem? hg
        refine ⟨_, rfl, ed, rfl, .inl ⟨eks, .inl (sm _ _ hek)⟩, _, rfl, o, cl.fl, dx', _, .str g.name, rfl, ho, T.o_fl, T.a_name, rfl, by show 1 ≤ sizeLine; decide, fun E1 nE1 => ?_⟩
        have sE := Ln.same_upd (o := .tup [.str "none"]) nE1
        refine ⟨valV eks (.inr g.name), DGet.k (k := .inr g.name) ((sm.trans sE) _ _ hek), ?_⟩
        obtain ⟨ev, rest, hv, hrest, hsm⟩ : ∃ (ev : Addr) (rest : List V), (valV eks (.inr g.name)).getD (.ref E1) = .ref ev ∧ SqT K (upd H' E1 (.tup [.str "none"])) ev (.str (tagO (evOf c g.name)) :: rest) ∧ ∀ f' k', evOf c g.name = some (.smaller f' k') → rest = [.str f', .str k'] := by
          cases hev' : evOf c g.name with
          | none => exact ⟨E1, [], by rw [(hel g.name).1 hev']; rfl, SqT.of upd_same, fun f' k' e => by cases e⟩
          | some e =>
            obtain ⟨v, ev1, ev2⟩ := (hel g.name).2 e hev'
            have ev3 := Dp.tpf (TpF.same (sm.trans sE)) _ _ (noL_ev e) ev2
            rw [ev1]
            cases e with
            | cancel f1 => cases ev3 with | @tup a xs ds p q => cases q with | cons q1 q2 => cases q1; exact ⟨a, _, rfl, p, fun f' k' e => by cases e⟩
            | late f1 m1 => cases ev3 with | @tup a xs ds p q => cases q with | cons q1 q2 => cases q1; exact ⟨a, _, rfl, p, fun f' k' e => by cases e⟩
            | smaller f1 k1 => cases ev3 with | @tup a xs ds p q => cases q with | cons q1 q2 => cases q1; cases q2 with | cons q1 q2 => cases q1; cases q2 with | cons q1 q2 => cases q1; cases q2; exact ⟨a, _, rfl, p, fun f' k' e => by cases e; rfl⟩
        rw [hv]
        have sm4 := sm.trans sE
        have hDL4 := sE _ _ hDL'
        have hos4 := hos'.same sE
        have hD4 := sE _ _ hD'
        have hdv4 := hdv.keep (Same.but sE) hD'
        have ho4 := sE _ _ ho
        clear hv nE1
        generalize upd H' E1 (.tup [.str "none"]) = H4 at hrest sm4 hDL4 hos4 hD4 hdv4 ho4 ⊢
        clear sE
        have hnew : valV kvs (.inr g.name) = none := by
          refine valV_none (ns := (fs.map Flt.name).take i) ?_ (nodup_take nds (by rw [List.getElem?_map, hg]; rfl))
          rw [hdv4.keys, fly_names, List.map_take]
        have hsz : kvs.length < sizeLine := by
          have := hdv4.1
          have e := congrArg List.length (fly_names (N := N) (c := c) (turn := turnOf N k) (fs.take i) f0.start 0)
          rw [List.length_map, List.length_map, List.length_take] at e
          exact small1 (by omega)
        have fin : ∀ (v : V) (dv : Dv) (H5 : Hp) (st2 : Str) (rd2 : Int) (w8 w9 w10 w11 : Option V), Same H H5 → H5 DL = some (.lst os) → FltOs cl.fl H5 os fs → H5 D = some (.dK kvs) → DvM K H5 kvs (fly N c (turnOf N k) f0.start 0 (fs.take i)) → Dp K H5 v (dayD dv) → ∀ (l : List (Str × Dv)) (p : Str × Int), l = [(g.name, dv)] → p = (st2, rd2) →
            (Same H (upd H5 D (.dK (putK kvs (.inr g.name) v))) ∧ (upd H5 D (.dK (putK kvs (.inr g.name) v))) DL = some (.lst os) ∧ FltOs cl.fl (upd H5 D (.dK (putK kvs (.inr g.name) v))) os fs ∧ ∃ (kvs' : List (Key × V)) (v8 v9 v10 v11 : Option V), (upd H5 D (.dK (putK kvs (.inr g.name) v))) D = some (.dK kvs') ∧ DvM K (upd H5 D (.dK (putK kvs (.inr g.name) v))) kvs' (fly N c (turnOf N k) f0.start 0 (fs.take i) ++ l) ∧
            [some (V.ref ch), some (.ref tl), some (.ref ed), some (.ref wd), some (.ref D), some (.ref DL), some (.str st2), some (.int rd2), w8, w9, w10, w11] = [some (V.ref ch), some (.ref tl), some (.ref ed), some (.ref wd), some (.ref D), some (.ref DL), some (.str p.1), some (.int p.2), v8, v9, v10, v11]) := by
          intro v dv H5 st2 rd2 w8 w9 w10 w11 a1 a2 a3 a4 a5 a6 l p e1 e2
          subst e1
          subst e2
          have b := But.upd D H5 (.dK (putK kvs (.inr g.name) v))
          refine ⟨fun b' u e => ?_, b _ _ neD a2, a3.keep b a4 (fun _ _ _ z => by cases z), _, _, _, _, _, upd_same, ?_, rfl⟩
          · exact b _ _ (fun z => by rw [z, nD] at e; cases e) (a1 _ _ e)
          · rw [putK_new v hnew]
            rw [putK_new v hnew] at b
            exact (a5.snoc a6).keep b a4
        refine ⟨_, rfl, ev, _, 0, .str (tagO (evOf c g.name)), rfl, rfl, hrest, atI_nat (j := 0) rfl, rfl, _, rfl, ?_⟩
        rw [tag_cancel]
        by_cases hc : isCancel (evOf c g.name) = true
        · rw [hc]
          refine iteT (iteT ?_)
          refine ⟨_, rfl, _, rfl, o, cl.fl, dx', _, .str g.name, rfl, ho4, T.o_fl, T.a_name, rfl, D, _, rfl, DPut.k (k := .inr g.name) hD4 hsz, ?_⟩
          have e : offB c st g = true := by unfold offB; rw [hc]; rfl
          exact fin .non none H4 st rd _ _ _ _ sm4 hDL4 hos4 hD4 hdv4 .non _ _ (if_pos e) (if_pos e)
        · have hc := Bool.eq_false_iff.mpr hc
          rw [hc]
          refine iteF ?_
          refine ⟨_, rfl, _, rfl, o, cl.fl, dx', _, .str g.start, rfl, ho4, T.o_fl, T.a_start, rfl, rfl, _, rfl, ?_⟩
          by_cases hs : st = g.start
          · have e : offB c st g = false := by unfold offB; rw [hc, decide_eq_true hs]; rfl
            have e' : ¬ offB c st g = true := by rw [e]; exact Bool.false_ne_true
            rw [decide_eq_true (congrArg V.str hs)]
            refine iteF ?_
            refine ⟨_, rfl, o, cl.fl, dx', _, .int g.dep, rfl, ho4, T.o_fl, T.a_depart, rfl, _, rfl, wd, rfl, .inl ⟨wks, .inl (sm4 _ _ hwk)⟩, _, rfl, o, cl.fl, dx', _, .str g.name, rfl, ho4, T.o_fl, T.a_name, rfl, valV wks (.inr g.name), DGet.k (k := .inr g.name) (sm4 _ _ hwk), g.dep, waitOf c g.name, rfl, hwl g.name, _, rfl, _, _, rfl, ?_⟩
            refine ⟨_, rfl, ev, _, 0, .str (tagO (evOf c g.name)), rfl, rfl, hrest, atI_nat (j := 0) rfl, rfl, _, rfl, ?_⟩
            refine ite_to (v := .str (kindBy c g)) (fun hb R r => ?_) (fun hb R r => ?_) ?_
            · have hb := of_decide_eq_true hb
              rcases hevn : evOf c g.name with _ | e1 | e1 | ⟨f1, k1⟩
              · rw [hevn] at hb; exact absurd hb (by decide)
              · rw [hevn] at hb; exact absurd hb (by show ¬ V.str "cancel" = V.str "smaller"; decide)
              · rw [hevn] at hb; exact absurd hb (by show ¬ V.str "late" = V.str "smaller"; decide)
              · rw [hsm f1 k1 hevn] at hrest
                have ek : kindBy c g = k1 := by unfold kindBy; rw [hevn]
                rw [ek] at r
                exact ⟨_, rfl, ev, _, 2, .str k1, rfl, rfl, hrest, atI_nat (j := 2) rfl, r⟩
            · have hb := of_decide_eq_false hb
              have ek : kindBy c g = g.kind := by
                unfold kindBy
                rcases hevn : evOf c g.name with _ | e1 | e1 | ⟨f1, k1⟩
                · rfl
                · rfl
                · rfl
                · rw [hevn] at hb; exact absurd rfl hb
              rw [ek] at r
              exact ⟨_, rfl, o, cl.fl, dx', _, .str g.kind, rfl, ho4, T.o_fl, T.a_kind, rfl, r⟩
            · have hkt : kindBy c g ∈ tnames N := by
                unfold kindBy
                rcases hevn : evOf c g.name with _ | e1 | e1 | ⟨f1, k1⟩
                · exact hkf g hgm
                · exact hkf g hgm
                · exact hkf g hgm
                · have hevn : c.find? (fun e => decide (e.flt = g.name)) = some (Ev.smaller f1 k1) := hevn
                  have me := List.mem_of_find?_eq_some hevn
                  have en : (Ev.smaller f1 k1).flt = g.name := of_decide_eq_true (List.find?_some (p := fun e : Ev => decide (e.flt = g.name)) hevn)
                  have h := hev _ me g hgm en
                  have h : (knownD (.str f1) (fnamesN N) && (if ("smaller" : Str) = "late" then lateB (.str k1) else decide (("smaller" : Str) = "smaller") && smallD N (kindOf N (strD (.str f1))) (.str k1))) = true := h
                  have h2 := (Bool.and_eq_true_iff.mp h).2
                  rw [if_neg (fun z => s_ls z.symm)] at h2
                  have h3 := (Bool.and_eq_true_iff.mp h2).2
                  exact of_decide_eq_true (Bool.and_eq_true_iff.mp h3).1
              obtain ⟨kks, ok, okx, okfs, hkD, hkv, hok, hls, _⟩ := kind_turn (p2.same (noLs_map noL_tr _) sm4) ndk hkt
              refine ⟨_, rfl, _, rfl, _, rfl, o, cl.fl, dx', _, .int g.arr, rfl, ho4, T.o_fl, T.a_arrive, rfl, _, _, rfl, rfl, _, rfl, o, cl.fl, dx', _, .int g.dep, rfl, ho4, T.o_fl, T.a_depart, rfl, _, _, rfl, rfl, _, rfl, ch, CC, dx, chFs d, _, rfl, sm4 _ _ hch, T.o_CC, T.a_kinds, rfl, _, rfl, d.d2, .ref ok, rfl, .inl ⟨kks, .inr (kindBy c g), .inl hkD, rfl, hkv.symm⟩, ok, cl.ki, okx, okfs, _, rfl, hok, T.o_ki, T.a_seats, hls, ?_⟩
              refine ⟨by show 3 ≤ sizeLine; decide, fun E2 nE2 => ?_⟩
              have sE2 := Ln.same_upd (o := .tup [.int (if rd > g.dep + waitOf c g.name then rd else g.dep + waitOf c g.name), .int ((if rd > g.dep + waitOf c g.name then rd else g.dep + waitOf c g.name) + g.arr - g.dep), .int (seatsOf N (kindBy c g))]) nE2
              have sm5 := sm4.trans sE2
              have hDL5 := sE2 _ _ hDL4
              have hos5 := hos4.same sE2
              have hD5 := sE2 _ _ hD4
              have hdv5 := hdv4.keep (Same.but sE2) hD4
              have ho5 := sE2 _ _ ho4
              have hE5 : (upd H4 E2 (.tup [V.int (if rd > g.dep + waitOf c g.name then rd else g.dep + waitOf c g.name), .int ((if rd > g.dep + waitOf c g.name then rd else g.dep + waitOf c g.name) + g.arr - g.dep), .int (seatsOf N (kindBy c g))])) E2 = some (.tup [V.int (if rd > g.dep + waitOf c g.name then rd else g.dep + waitOf c g.name), .int ((if rd > g.dep + waitOf c g.name then rd else g.dep + waitOf c g.name) + g.arr - g.dep), .int (seatsOf N (kindBy c g))]) := upd_same
              generalize upd H4 E2 (.tup [V.int (if rd > g.dep + waitOf c g.name then rd else g.dep + waitOf c g.name), .int ((if rd > g.dep + waitOf c g.name then rd else g.dep + waitOf c g.name) + g.arr - g.dep), .int (seatsOf N (kindBy c g))]) = H5 at sm5 hDL5 hos5 hD5 hdv5 ho5 hE5 ⊢
              have hdvv : Dp K H5 (.ref E2) (dayD (some (depOf c rd g, depOf c rd g + g.arr - g.dep, seatsOf N (kindBy c g)))) := .tup (SqT.of hE5) (.cons (.int _) (.cons (.int _) (.cons (.int _) .nil)))
              have fin6 := fin (.ref E2) (some (depOf c rd g, depOf c rd g + g.arr - g.dep, seatsOf N (kindBy c g))) H5 g.fin (depOf c rd g + g.arr - g.dep + turnOf N k) (some (.ref o)) (some (.ref ev)) (some (.int (depOf c rd g))) (some (.str (kindBy c g))) sm5 hDL5 hos5 hD5 hdv5 hdvv
              have sm6 := (fin6 _ _ rfl rfl).1
              have ho6 : (upd H5 D (.dK (putK kvs (.inr g.name) (.ref E2)))) o = _ := (upd_ne (fun z => by rw [z, hD5] at ho5; cases ho5)).trans ho5
              have hE6 : (upd H5 D (.dK (putK kvs (.inr g.name) (.ref E2)))) E2 = _ := (upd_ne (fun z => by rw [z, hD5] at hE5; cases hE5)).trans hE5
              have hval : valV (putK kvs (.inr g.name) (.ref E2)) (.inr g.name) = some (V.ref E2) := by rw [valV_put, if_pos rfl]
              obtain ⟨kks2, ok2, okx2, okfs2, hkD2, hkv2, hok2, _, hlt2⟩ := kind_turn (p2.same (noLs_map noL_tr _) sm6) ndk hk
              refine ⟨_, rfl, _, rfl, o, cl.fl, dx', _, .str g.name, rfl, ho5, T.o_fl, T.a_name, rfl, D, _, rfl, DPut.k (k := .inr g.name) hD5 hsz, ?_⟩
              refine ⟨_, rfl, o, cl.fl, dx', _, .str g.fin, rfl, ho6, T.o_fl, T.a_end, rfl, ?_⟩
              refine ⟨_, rfl, _, rfl, o, cl.fl, dx', _, .str g.name, rfl, ho6, T.o_fl, T.a_name, rfl, D, .ref E2, rfl, .inl ⟨_, .inr g.name, .inl upd_same, rfl, hval.symm⟩, E2, _, 1, _, rfl, rfl, SqT.of hE6, atI_nat (j := 1) rfl, ?_⟩
              refine ⟨_, rfl, ch, CC, dx, chFs d, _, rfl, sm6 _ _ hch, T.o_CC, T.a_kinds, rfl, _, rfl, tl, cl.ta, tdx, taFs nm k t, .str k, rfl, sm6 _ _ htl, T.o_ta, T.a_tkind, rfl, d.d2, .ref ok2, rfl, .inl ⟨kks2, .inr k, .inl hkD2, rfl, hkv2.symm⟩, ok2, cl.ki, okx2, okfs2, _, rfl, hok2, T.o_ki, T.a_turn, hlt2, _, _, rfl, rfl, ?_⟩
              exact fin6 _ _ (if_neg e') (if_neg e')
          · have e : offB c st g = true := by unfold offB; rw [decide_eq_false hs, Bool.not_false, Bool.or_true]
            rw [decide_eq_false (fun z => hs (by injection z))]
            refine iteT ?_
            refine ⟨_, rfl, _, rfl, o, cl.fl, dx', _, .str g.name, rfl, ho4, T.o_fl, T.a_name, rfl, D, _, rfl, DPut.k (k := .inr g.name) hD4 hsz, ?_⟩
            exact fin .non none H4 st rd _ _ _ _ sm4 hDL4 hos4 hD4 hdv4 .non _ _ (if_pos e) (if_pos e)
      · rintro σ H' ⟨sm, _, _, kvs, v8, v9, v10, v11, hD', hdv, rfl⟩
        refine ⟨_, rfl, ?_⟩
        have e : flyT N c k fs = fly N c (turnOf N k) f0.start 0 (fs.take os.length) := by
          rw [hos3.1, List.take_length, ec]
          rfl
        exact q H' D kvs sm nD hD' (by rw [e]; exact hdv)
end
end Mine
set_option Elab.async false
set_option linter.all false
set_option maxRecDepth 100000
set_option maxHeartbeats 8000000
namespace Mine
open PySem PySem.Spec PyProof.Rows L2 Ln RZ
abbrev s_are_unlike : Stmt := topS 13
abbrev N_are_unlike : List Str := ["names"]
theorem sc_are_unlike : FnScope N_are_unlike ["names"] (defScope s_are_unlike) := ⟨rfl, rfl, rfl, by decide +kernel, rfl, by decide +kernel, by decide +kernel⟩
-- slots: 0 names
abbrev s_is_course : Stmt := topS 69
abbrev N_is_course : List Str := ["chart", "value", "part", "event"]
theorem sc_is_course : FnScope N_is_course ["chart", "value"] (defScope s_is_course) := ⟨rfl, rfl, rfl, by decide +kernel, rfl, by decide +kernel, by decide +kernel⟩
-- slots: 0 chart*, 1 value, 2 part, 3 event
abbrev s_require_course : Stmt := topS 74
abbrev N_require_course : List Str := ["chart", "course"]
theorem sc_require_course : FnScope N_require_course ["chart", "course"] (defScope s_require_course) := ⟨rfl, rfl, rfl, by decide +kernel, rfl, by decide +kernel, by decide +kernel⟩
-- slots: 0 chart, 1 course
structure CrsTxt (mg : Str → Option Value) : Prop where
  z_len : mg "len" = none
  z_all : mg "all" = none
  z_set : mg "set" = none
  g_MAX_EVENTS : ∃ u, mg "MAX_EVENTS" = some u ∧ RelV (.int 3) u
section
variable {P : Program} {w : World} {K : PySem.W.Frag} {mg : Str → Option Value} {base : Heap} {CC C fI : Addr} {cl : Clss}
def spUnlike (K : PySem.W.Frag) : Sp := fun vs H Q _ => ∃ (a : Addr) (xs : List Str), vs = [.ref a] ∧ SqL K H a (xs.map V.str) ∧ xs.length ≤ 60 ∧ Q (.bl (decide xs.Nodup)) H
theorem ok_unlike {f : Addr} {fd : FuncData} (F : Fun K "are_unlike" "are_unlike" s_are_unlike f fd) (T : CrsTxt mg) : FnG P w K mg base CX0 1 f fd ["names"] (spUnlike K) := by
  refine okG F sc_are_unlike (fun vs H Q E h => ?_) (fun cdv A outer s H vs Q E hG hr h => ?_)
  · obtain ⟨a, xs, rfl, _⟩ := h
    rfl
  · obtain ⟨a, xs, rfl, hS, hl, q⟩ := h
    refine ⟨_, (pss_one (ps_ret (pe_cmpR op_eq (pe_lenNames rfl (by rfl) T.z_len (by rfl) T.z_set (pv 0)) (pe_callB (r := Ln.rLen K) (id := "len") c_len (by rfl) T.z_len (by decide +kernel) (pa_cons (pv 0) pa_nil)) (nomark _)))), ?_⟩
    refine ⟨_, rfl, a, xs, rfl, hS, hl, _, rfl, .ref a, _, rfl, .inl ⟨_, hS, rfl⟩, rfl, ?_⟩
    rw [dec_int, List.length_map]
    have e : (((met xs).length : Int) == (xs.length : Int)) = decide xs.Nodup := by
      rw [Bool.eq_iff_iff, beq_iff_eq, decide_eq_true_eq, ← met_all]
      omega
    rw [e]
    exact q
/-- the second item of a row that is an event -/
def nthS (d : PyData) : Str := match d with | .tuple (_ :: .str x :: _) => x | _ => ""
def crsB (N : Net) (e : PyData) : Bool := shortB e 3 && ((rowsD e).all (evB N) && decide ((rowsD e).map nthS).Nodup)
def tagE : Ev → Str
  | .cancel _ => "cancel"
  | .late _ _ => "late"
  | .smaller _ _ => "smaller"
theorem ev_tup {H : Hp} {v : V} {e : Ev} (h : Dp K H v (evD e)) : ∃ (a : Addr) (rest : List V), v = .ref a ∧ SqT K H a (.str (tagE e) :: .str e.flt :: rest) ∧ ∀ f m, e = .late f m → rest = [.int m] := by
  cases e with
  | cancel f1 => cases h with | @tup a xs ds p q => cases q with | cons q1 q2 => cases q1; cases q2 with | cons q1 q2 => cases q1; exact ⟨a, _, rfl, p, fun f' k' e => by cases e⟩
  | late f1 m1 => cases h with | @tup a xs ds p q => cases q with | cons q1 q2 => cases q1; cases q2 with | cons q1 q2 => cases q1; cases q2 with | cons q1 q2 => cases q1; cases q2; exact ⟨a, _, rfl, p, fun f' k' e => by cases e; rfl⟩
  | smaller f1 k1 => cases h with | @tup a xs ds p q => cases q with | cons q1 q2 => cases q1; cases q2 with | cons q1 q2 => cases q1; exact ⟨a, _, rfl, p, fun f' k' e => by cases e⟩
theorem nthS_ev (es : List Ev) : (es.map evD).map nthS = es.map Ev.flt := by
  rw [List.map_map]
  refine List.map_congr_left fun e _ => ?_
  cases e <;> rfl
def spIsCrs (K : PySem.W.Frag) (CC : Addr) (cl : Clss) : Sp := hid fun vs H Q _ => ∃ (H0 : Hp) (ch dx : Addr) (N : Net) (d : Dcts) (v : V) (e : PyData), vs = [.ref ch, v] ∧ H ch = some (.ins CC dx (chFs d)) ∧ Charted K H0 H N cl d ∧ Right N ∧ (∀ x ∈ fnamesN N, kindOf N x ∈ tnames N) ∧ Dp K H v e ∧ noL e = true ∧ (∀ r ∈ rowsD e, Heads r) ∧ ∀ H', Same H H' → Q (.bl (crsB N e)) H'
theorem ok_iscrs {f : Addr} {fd : FuncData} (F : Fun K "is_course" "is_course" s_is_course f fd) (T : CrsTxt mg) (c_is_short : Cg P w K mg base CX0 1 "is_short" (spIsShort K)) (c_is_event : Cg P w K mg base CX0 3 "is_event" (spEvent K CC cl)) (c_are_unlike : Cg P w K mg base CX0 1 "are_unlike" (spUnlike K)) :
    FnG P w K mg base CX0 4 f fd ["chart", "value"] (spIsCrs K CC cl) := by
  refine okG F sc_is_course (fun vs H Q E h => ?_) (fun cdv A outer s H vs Q E hG hr h => ?_)
  · obtain ⟨H0, ch, dx, N, d, v, e, rfl, _⟩ := h
    rfl
  · obtain ⟨H0, ch, dx, N, d, v, e, rfl, hch, cd, R, hkn, hd, nl, hh, q⟩ := h
    refine ⟨_, (pss_cons (ps_if (PW.pt (pw_or (pt_not (pt_truthK (pe_cg c_is_short hr (by decide) hG (by rfl) (pa_cons (pv 1) (pa_cons (pe_gl (by rfl) T.g_MAX_EVENTS) pa_nil))) (by intro _; rfl))) (pw_or1 (pt_not (pt_val (pe_callB (r := rAll K) (id := "all") (cr_all rfl) (by rfl) T.z_all (by decide +kernel) (pa_cons (pe_lc (own := [("part", 2)]) rfl sc_is_course.nd (pi_tup (pv 1)) (blkOk_by (own := [("part", 2)]) (N := N_is_course) (sc := defScope s_is_course) (by decide +kernel)) (fun _ _ _ _ _ => (pg_name (i := 2) sc_is_course.nd rfl (.inl rfl))) (fun _ _ _ _ _ => pts_nil) (fun _ _ _ _ _ => (pe_cg c_is_event hr (by decide) hG (by rfl) (pa_cons (pv 0) (pa_cons (pv 2) pa_nil))))) pa_nil)))))))
    (pss_one (ps_ret pe_bl))
    pss_nil)
    (pss_one (ps_ret (pe_cg c_are_unlike hr (by decide) hG (by rfl) (pa_cons (pe_lc (own := [("event", 3)]) rfl sc_is_course.nd (pi_tup (pv 1)) (blkOk_by (own := [("event", 3)]) (N := N_is_course) (sc := defScope s_is_course) (by decide +kernel)) (fun _ _ _ _ _ => (pg_name (i := 3) sc_is_course.nd rfl (.inl rfl))) (fun _ _ _ _ _ => pts_nil) (fun _ _ _ _ _ => (pe_ix (r := rIxT K) ix_tup (pv 3) pe_int (fun _ _ => rfl)))) pa_nil))))), ?_⟩
    refine ⟨_, rfl, v, e, 3, rfl, hd, nl, _, rfl, ?_⟩
    unfold crsB at q
    by_cases c : shortB e 3 = true
    · rw [c] at q ⊢
      refine iteF ?_
      cases hd with
      | @tup a xs ds h1 h2 =>
        have ln := DpAll.len h2
        have l12 : ds.length ≤ 3 := by
          have : decide ((ds.length : Int) ≤ 3) = true := c
          have := of_decide_eq_true this
          omega
        have nl' : noLs ds = true := by simpa only [noL] using nl
        have hh : ∀ r ∈ ds, Heads r := hh
        refine ⟨_, rfl, a, rfl, ⟨_, h1⟩, fun D nD => lc_it (walk_tup (K := K) (a := a) (xs := xs)) (fun i H' => Same H H' ∧ H' D = some (.lst (((ds.take i).map (evB N)).map V.bl))) ?_ ?_ ?_ ?_⟩
        · exact ⟨Ln.same_upd nD, upd_same⟩
        · rintro i H' hi ⟨sm, _⟩
          exact Same.tup sm h1
        · rintro i x Hx H' hi ⟨sm, hD⟩ ⟨rfl, hx⟩
          obtain ⟨r, hr', hxe⟩ := DpAll.get h2 hx
          have rm := List.mem_of_getElem? hr'
          have ne := noLs_mem nl' r rm
          refine ⟨rfl, _, rfl, _, rfl, H0, ch, dx, N, d, x, r, rfl, sm _ _ hch, cd.same sm, R, hkn, Dp.same sm _ _ ne hxe, ne, hh r rm, _, hD, ?_, same_at sm nD, ?_⟩
          · rw [List.length_map, List.length_map, List.length_take]
            exact small1 (by omega)
          · rw [upd_same, takeS hr', List.map_append, List.map_append]
            rfl
        · rintro H1 ⟨sm1, hD⟩
          rw [ln, List.take_length] at hD
          refine ⟨_, _, rfl, SqL.of hD, _, rfl, ?_⟩
          have e0 : ((ds.map (evB N)).all id) = ds.all (evB N) := by rw [List.all_map]; rfl
          rw [e0]
          have q : ∀ H', Same H H' → Q (.bl (ds.all (evB N) && decide (ds.map nthS).Nodup)) H' := q
          by_cases ca : ds.all (evB N) = true
          · rw [ca] at q ⊢
            rw [Bool.true_and] at q
            refine iteF ?_
            obtain ⟨es, rfl⟩ := evs_of ca
            have h1' := Same.tup sm1 h1
            refine ⟨_, rfl, a, rfl, ⟨_, h1'⟩, fun D2 nD2 => lc_it (walk_tup (K := K) (a := a) (xs := xs)) (fun i H' => Same H1 H' ∧ H' D2 = some (.lst (((es.take i).map Ev.flt).map V.str))) ?_ ?_ ?_ ?_⟩
            · exact ⟨Ln.same_upd nD2, upd_same⟩
            · rintro i H' hi ⟨sm, _⟩
              exact Same.tup sm h1'
            · rintro i x Hx H' hi ⟨sm, hD2⟩ ⟨rfl, hx⟩
              obtain ⟨r, hr', hxe⟩ := DpAll.get h2 hx
              rw [List.getElem?_map] at hr'
              obtain ⟨e, he, rfl⟩ := Option.map_eq_some_iff.mp hr'
              obtain ⟨t2, rest, rfl, ht2, _⟩ := ev_tup (Dp.same (sm1.trans sm) _ _ (noL_ev e) hxe)
              refine ⟨rfl, _, rfl, t2, _, 1, _, rfl, rfl, ht2, atI_nat (j := 1) rfl, _, hD2, ?_, same_at sm nD2, ?_⟩
              · rw [List.length_map, List.length_map, List.length_take]
                rw [List.length_map] at l12
                exact small1 (by omega)
              · rw [upd_same, takeS he, List.map_append, List.map_append]
                rfl
            · rintro H2 ⟨sm2, hD2⟩
              rw [List.length_map] at ln l12
              rw [ln, List.take_length] at hD2
              rw [nthS_ev] at q
              refine ⟨D2, es.map Ev.flt, rfl, SqL.of hD2, by rw [List.length_map]; omega, q H2 (sm1.trans sm2)⟩
          · have ca' := Bool.eq_false_iff.mpr ca
            rw [ca'] at q ⊢
            exact iteT (q H1 sm1)
      | _ => cases c
    · have c' := Bool.eq_false_iff.mpr c
      rw [c'] at q ⊢
      exact iteT (iteT (q H (Same.refl H)))
def spReqCrs (K : PySem.W.Frag) (CC : Addr) (cl : Clss) (C : Addr) : Sp := hid fun vs H Q E => ∃ (H0 : Hp) (ch dx : Addr) (N : Net) (d : Dcts) (v : V) (e : PyData), vs = [.ref ch, v] ∧ H ch = some (.ins CC dx (chFs d)) ∧ Charted K H0 H N cl d ∧ Right N ∧ (∀ x ∈ fnamesN N, kindOf N x ∈ tnames N) ∧ Dp K H v e ∧ noL e = true ∧ (∀ r ∈ rowsD e, Heads r) ∧
  (crsB N e = false → Rz C "course" H E) ∧ (crsB N e = true → ∀ H', Same H H' → Q .non H')
theorem ok_reqcrs {f : Addr} {fd : FuncData} (F : Fun K "require_course" "require_course" s_require_course f fd) (c_require : Cg P w K mg base (L2.CX P w) 3 "require" (spRequire C)) (c_is_course : Cg P w K mg base CX0 4 "is_course" (spIsCrs K CC cl)) :
    FnG P w K mg base (L2.CX P w) 5 f fd ["chart", "course"] (spReqCrs K CC cl C) := by
  refine okX F sc_require_course (fun vs H Q E h => ?_) (fun cdv A outer s H vs Q E hG hr h => ?_)
  · obtain ⟨H0, ch, dx, N, d, v, e, rfl, _⟩ := h
    rfl
  · obtain ⟨H0, ch, dx, N, d, v, e, rfl, hch, cd, R, hkn, hd, nl, hh, qt, q⟩ := h
    have tk0 : Takes (cxOf (L2.CX P w) P w K mg base N_require_course "require_course" (defScope s_require_course) f cdv A outer s H E) (fun cls d _ H => E cls d H) := takes_of rfl rfl rfl rfl
    refine ⟨_, (pss_one (ps_expr (pe_cgS c_require hr (by decide) hG (fun _ => passE tk0) (by rfl) (pa_cons (pe_cg c_is_course hr (by decide) hG (by rfl) (pa_cons (pv 0) (pa_cons (pv 1) pa_nil))) (pa_cons pe_str pa_nil))))), ?_⟩
    refine ⟨_, rfl, _, rfl, H0, ch, dx, N, d, v, e, rfl, hch, cd, R, hkn, hd, nl, hh, fun H1 sm1 => ⟨_, _, rfl, fun eb => q eb H1 sm1, fun eb => (qt eb).later sm1⟩⟩
end
end Mine
set_option Elab.async false
set_option linter.all false
set_option maxRecDepth 100000
set_option maxHeartbeats 8000000
namespace Mine
open PySem PySem.Spec PyProof.Rows L2 Ln RZ
abbrev s_flown_held : Stmt := topS 76
abbrev N_flown_held : List Str := ["chart", "course", "holds", "events", "event", "waits", "name", "minutes", "flown", "tail"]
theorem sc_flown_held : FnScope N_flown_held ["chart", "course", "holds"] (defScope s_flown_held) := ⟨rfl, rfl, rfl, by decide +kernel, rfl, by decide +kernel, by decide +kernel⟩
-- slots: 0 chart, 1 course, 2 holds, 3 events, 4 event, 5 waits, 6 name, 7 minutes, 8 flown, 9 tail
def flsT (N : Net) (ns : List Str) : List Flt := ns.filterMap fun x => N.fl.find? fun f => decide (f.name = x)
def flownT (N : Net) (c : List Ev) (t : Str × Str × List Str) : List (Str × Dv) := flyT N c t.2.1 (flsT N t.2.2)
def flownA (N : Net) (c : List Ev) (i : Nat) : List (Str × Dv) := (N.tl.take i).flatMap (flownT N c)
theorem find_nm {l : List Flt} (nd : (l.map Flt.name).Nodup) {f : Flt} (h : f ∈ l) : l.find? (fun g => decide (g.name = f.name)) = some f := by
  induction l with
  | nil => cases h
  | cons a l ih =>
    rw [List.map_cons, List.nodup_cons] at nd
    rw [List.find?_cons]
    rcases List.mem_cons.mp h with e | m
    · subst e
      rw [decide_eq_true rfl]
    · have ne : ¬ a.name = f.name := fun e => nd.1 (by rw [e]; exact List.mem_map_of_mem m)
      rw [decide_eq_false ne]
      exact ih nd.2 m
theorem flsT_map {N : Net} (nd : (N.fl.map Flt.name).Nodup) : ∀ (fs : List Flt), (∀ f ∈ fs, f ∈ N.fl) → flsT N (fs.map Flt.name) = fs
  | [], _ => rfl
  | f :: fs, h => by
    unfold flsT
    rw [List.map_cons, List.filterMap_cons, find_nm nd (h f List.mem_cons_self)]
    show f :: flsT N (fs.map Flt.name) = f :: fs
    rw [flsT_map nd fs fun g hg => h g (List.mem_cons_of_mem _ hg)]
structure TailOk (N : Net) (j : Nat) (t : Str × Str × List Str) (fs : List Flt) : Prop where
  fls : flsT N t.2.2 = fs
  nms : t.2.2 = fs.map Flt.name
  kin : t.2.1 ∈ tnames N
  mem : ∀ f ∈ fs, f ∈ N.fl
  knd : ∀ f ∈ fs, f.kind ∈ tnames N
  same : ∀ f ∈ fs, f.kind = t.2.1
  ch : Chain (turnOf N t.2.1) fs
  nd : (flown N j ++ fs.map Flt.name).Nodup
  l5 : fs.length ≤ 5
theorem Right.tailAt {N : Net} (R : Right N) {j : Nat} {t : Str × Str × List Str} (h : N.tl[j]? = some t) : ∃ fs, TailOk N j t fs := by
  obtain ⟨hj, e⟩ := List.getElem?_eq_some_iff.mp h
  obtain ⟨⟨⟨k, s, tn⟩, fs⟩, e2, hty, hfs, hc, hnd, h5⟩ := R.tail hj
  rw [e] at e2
  subst e2
  have hk : k ∈ tnames N := List.mem_map_of_mem (f := (·.1)) hty
  obtain ⟨i, hi⟩ := List.mem_iff_getElem?.mp hty
  have et : turnOf N k = tn := by
    unfold turnOf
    rw [find_keyN R.tyNodup hi]
    rfl
  exact ⟨fs, flsT_map R.flNodup fs fun f hf => (hfs f hf).1, rfl, hk, fun f hf => (hfs f hf).1, fun f hf => by rw [(hfs f hf).2]; exact hk, fun f hf => (hfs f hf).2, by rw [et]; exact hc, hnd, h5⟩
theorem Right.kindsOk {N : Net} (R : Right N) : ∀ x ∈ fnamesN N, Mine.kindOf N x ∈ tnames N := fun x hx => by
  unfold fnamesN at hx
  obtain ⟨f, hf, rfl⟩ := List.mem_map.mp hx
  unfold Mine.kindOf
  rw [find_nm R.flNodup hf]
  exact R.kindOf hf
theorem nnm_t : ∀ j : Nat, j < 3 → nnm 0 ≠ tnm j := by decide +kernel
theorem nnm_f : ∀ k : Nat, k < 5 → ∀ j : Nat, j < 5 → nnm 0 ≠ fnm k j := by decide +kernel
theorem Right.tlNew {N : Net} (R : Right N) : nnm 0 ∈ N.tl.map (·.1) ∧ nnm 0 ∉ tnames N ∧ nnm 0 ∉ fnamesN N := by
  obtain ⟨Q, h1, h5, hQ, e, hp⟩ := R.rows
  refine ⟨?_, fun m => ?_, fun m => ?_⟩
  · rw [R.tlNames]
    refine List.mem_map.mpr ⟨0, List.mem_range.mpr ?_, rfl⟩
    rw [e]
    unfold tlOf
    rw [List.length_mapIdx]
    exact h1
  · unfold tnames at m
    rw [R.ty.nm] at m
    obtain ⟨j, hj, e2⟩ := List.mem_map.mp m
    exact nnm_t j (Nat.lt_of_lt_of_le (List.mem_range.mp hj) R.ty.l1) e2.symm
  · unfold fnamesN at m
    obtain ⟨f, hf, e2⟩ := List.mem_map.mp m
    obtain ⟨r, hr, hf2⟩ := List.mem_flatMap.mp (hp.mem_iff.mp hf)
    obtain ⟨k, hk⟩ := List.mem_iff_getElem?.mp hr
    have ok := hQ k r hk
    have m2 : f.name ∈ r.2.map Flt.name := List.mem_map_of_mem hf2
    rw [ok.nm] at m2
    obtain ⟨j, hj, e3⟩ := List.mem_map.mp m2
    exact nnm_f k (Nat.lt_of_lt_of_le (List.getElem?_eq_some_iff.mp hk).1 h5) j (Nat.lt_of_lt_of_le (List.mem_range.mp hj) ok.len) (e2.symm.trans e3.symm)
theorem valV_none' {kvs : List (Key × V)} {k : Key} (n : k ∉ kvs.map (·.1)) : valV kvs k = none := by
  unfold valV
  rw [Option.map_eq_none_iff, List.find?_eq_none]
  intro p hp e
  exact n (by rw [← of_decide_eq_true e]; exact List.mem_map_of_mem hp)
theorem mergeK_app : ∀ (more kvs : List (Key × V)), (kvs.map (·.1) ++ more.map (·.1)).Nodup → mergeK kvs more = kvs ++ more
  | [], kvs, _ => (List.append_nil _).symm
  | p :: more, kvs, h => by
    have hn : p.1 ∉ kvs.map (·.1) := fun m => (List.nodup_append.mp h).2.2 _ m _ List.mem_cons_self rfl
    show mergeK (putK kvs p.1 p.2) more = _
    rw [putK_new _ (valV_none' hn), mergeK_app more _ (by rw [List.map_append, List.append_assoc]; exact h), List.append_assoc]
    rfl
theorem flownT_names {N : Net} {c : List Ev} {j : Nat} {t : Str × Str × List Str} {fs : List Flt} (h : TailOk N j t fs) : (flownT N c t).map (·.1) = t.2.2 := by
  unfold flownT
  rw [flyT_names, h.fls, h.nms]
theorem flownA_names {N : Net} {c : List Ev} (R : Right N) : ∀ i, i ≤ N.tl.length → (flownA N c i).map (·.1) = flown N i
  | 0, _ => rfl
  | i + 1, h => by
    have ht : N.tl[i]? = some N.tl[i] := List.getElem?_eq_getElem (by omega)
    obtain ⟨fs, ok⟩ := R.tailAt ht
    have ih := flownA_names R (c := c) i (by omega)
    unfold flownA flown at ih ⊢
    rw [takeS ht, List.flatMap_append, List.flatMap_append, List.map_append, ih, List.flatMap_singleton, List.flatMap_singleton, flownT_names ok]
theorem flownA_len {N : Net} {c : List Ev} (R : Right N) : ∀ i, i ≤ N.tl.length → (flownA N c i).length ≤ 5 * i
  | 0, _ => Nat.le_refl _
  | i + 1, h => by
    have ht : N.tl[i]? = some N.tl[i] := List.getElem?_eq_getElem (by omega)
    obtain ⟨fs, ok⟩ := R.tailAt ht
    have ih := flownA_len R (c := c) i (by omega)
    have l : (flownT N c N.tl[i]).length ≤ 5 := by
      have := congrArg List.length (flownT_names (c := c) ok)
      have e := congrArg List.length ok.nms
      rw [List.length_map] at this e
      have := ok.l5
      omega
    unfold flownA at ih ⊢
    rw [takeS ht, List.flatMap_append, List.flatMap_singleton, List.length_append]
    omega
theorem flownA_succ {N : Net} {c : List Ev} {i : Nat} {t : Str × Str × List Str} (h : N.tl[i]? = some t) : flownA N c (i + 1) = flownA N c i ++ flownT N c t := by
  unfold flownA
  rw [takeS h, List.flatMap_append, List.flatMap_singleton]
/-- the events of some first events -/
theorem evOf_snoc {c : List Ev} {e : Ev} (h : e.flt ∉ c.map Ev.flt) (x : Str) : evOf (c ++ [e]) x = if x = e.flt then some e else evOf c x := by
  unfold evOf
  rw [List.find?_append]
  by_cases q : x = e.flt
  · subst q
    rw [if_pos rfl, List.find?_eq_none.mpr (fun a ha z => h (by rw [← of_decide_eq_true z]; exact List.mem_map_of_mem ha))]
    rw [Option.none_or, List.find?_cons, decide_eq_true rfl]
  · rw [if_neg q]
    have : [e].find? (fun a => decide (a.flt = x)) = none := by
      rw [List.find?_cons, decide_eq_false (fun z => q z.symm)]
      rfl
    rw [this]
    cases c.find? (fun a => decide (a.flt = x)) <;> rfl
theorem waitOf_snoc {c : List Ev} {e : Ev} (h : e.flt ∉ c.map Ev.flt) (x : Str) : waitOf (c ++ [e]) x = if x = e.flt then (match e with | .late _ m => m | _ => 0) else waitOf c x := by
  unfold waitOf
  rw [evOf_snoc h]
  by_cases q : x = e.flt
  · rw [if_pos q, if_pos q]
    cases e <;> rfl
  · rw [if_neg q, if_neg q]
theorem waitOf_none {c : List Ev} {x : Str} (h : x ∉ c.map Ev.flt) : waitOf c x = 0 := by
  unfold waitOf evOf
  rw [List.find?_eq_none.mpr (fun a ha z => h (by rw [← of_decide_eq_true z]; exact List.mem_map_of_mem ha))]
theorem TpF.dk {H H' : Hp} {x : Addr} {ks : List (Key × V)} (b : But x H H') (e : H x = some (.dK ks)) : TpF H H' := by
  rintro y zs (t | ⟨o, t⟩)
  · exact .inl (b y _ (fun z => by rw [z, e] at t; cases t) t)
  · exact .inr ⟨o, b y _ (fun z => by rw [z, e] at t; cases t) t⟩
theorem TpF.fz {H H' : Hp} {x : Addr} {od : Obj} {ks : List (Key × V)} (b : But x H H') (e : H x = some (.frz od (.dK ks))) : TpF H H' := by
  rintro y zs (t | ⟨o, t⟩)
  · exact .inl (b y _ (fun z => by rw [z, e] at t; cases t) t)
  · exact .inr ⟨o, b y _ (fun z => by rw [z, e] at t; cases t) t⟩
section
variable {P : Program} {w : World} {K : PySem.W.Frag} {mg : Str → Option Value} {base : Heap} {CC C fI : Addr} {cl : Clss}
theorem DvM.tpf {H H' : Hp} {kvs : List (Key × V)} {l : List (Str × Dv)} (h : DvM K H kvs l) (t : TpF H H') : DvM K H' kvs l := ⟨h.1, fun i p z => by
  obtain ⟨v, a, k⟩ := h.2 i p z
  exact ⟨v, a, Dp.tpf t _ _ (noL_day _) k⟩⟩
theorem DvM.app {H : Hp} {kvs more : List (Key × V)} {l m : List (Str × Dv)} (h : DvM K H kvs l) (k : DvM K H more m) : DvM K H (kvs ++ more) (l ++ m) := by
  refine ⟨by rw [List.length_append, List.length_append, h.1, k.1], fun i p e => ?_⟩
  by_cases c : i < l.length
  · rw [List.getElem?_append_left c] at e
    rw [List.getElem?_append_left (by rw [h.1]; exact c)]
    exact h.2 i p e
  · rw [List.getElem?_append_right (by omega)] at e
    rw [List.getElem?_append_right (by rw [h.1]; omega), h.1]
    exact k.2 _ p e
theorem EvT.tpf {H H' : Hp} {D : Addr} {c : List Ev} (h : EvT K H D c) (t : TpF H H') (k : ∀ u, H D = some u → H' D = some u) : EvT K H' D c := by
  obtain ⟨kvs, e, l⟩ := h
  refine ⟨kvs, k _ e, fun x => ⟨(l x).1, fun ev he => ?_⟩⟩
  obtain ⟨v, a, b⟩ := (l x).2 ev he
  exact ⟨v, a, Dp.tpf t _ _ (noL_ev ev) b⟩
theorem WaT.keep {H H' : Hp} {D : Addr} {c : List Ev} (h : WaT H D c) (k : ∀ u, H D = some u → H' D = some u) : WaT H' D c := by
  obtain ⟨kvs, e, l⟩ := h
  exact ⟨kvs, k _ e, l⟩
theorem PartD.off {H0 H H' : Hp} {x D C : Addr} {fs : List Str} {ds : List PyData} {ks : List (Key × V)} (h : PartD K H0 H D C fs ds) (hn : noLs ds = true) (hx : H x = some (.dK ks)) (ne : D ≠ x) (b : But x H H') : PartD K H0 H' D C fs ds := by
  obtain ⟨nD, kvs, hD, hl, hall⟩ := h
  have tp := TpF.dk b hx
  refine ⟨nD, kvs, b _ _ ne hD, hl, fun i nm es he => ?_⟩
  obtain ⟨o, dx2, zs, k0, k1, k2, k3, k4⟩ := hall i nm es he
  have ld := noLs_mem hn _ (List.mem_of_getElem? he)
  exact ⟨o, dx2, zs, k0, k1, b _ _ (fun z => by rw [z, hx] at k2; cases k2) k2, Dp.tpfAll tp _ _ (by simpa only [noL] using ld) k3, k4⟩
theorem flD_names {l : List Flt} : ∀ (i : Nat) (x : Str), (l.map Flt.name)[i]? = some x → ∃ es, (l.map flD)[i]? = some (.tuple (.str x :: es)) := fun i x h => by
  rw [List.getElem?_map] at h
  obtain ⟨r, hr, rfl⟩ := Option.map_eq_some_iff.mp h
  exact ⟨_, by rw [List.getElem?_map, hr]; rfl⟩
theorem tlD_names {l : List (Str × Str × List Str)} : ∀ (i : Nat) (x : Str), (l.map (·.1))[i]? = some x → ∃ es, (l.map tlD)[i]? = some (.tuple (.str x :: es)) := fun i x h => by
  rw [List.getElem?_map] at h
  obtain ⟨r, hr, rfl⟩ := Option.map_eq_some_iff.mp h
  exact ⟨_, by rw [List.getElem?_map, hr]; rfl⟩
/-- the tails' dict is not the types' and not the flights' -/
theorem Charted.ne5 {H0 H : Hp} {N : Net} {d : Dcts} (h : Charted K H0 H N cl d) (R : Right N) : d.d2 ≠ d.d5 ∧ d.d4 ≠ d.d5 := by
  obtain ⟨k5, e5, m5⟩ := h.p5.keys (names := N.tl.map (·.1)) (by rw [List.length_map, List.length_map]) tlD_names
  obtain ⟨k2, e2, m2⟩ := h.p2.keys (names := tnames N) (by unfold tnames; rw [List.length_map, List.length_map]) tri_names
  obtain ⟨k4, e4, m4⟩ := h.p4.keys (names := fnamesN N) (by unfold fnamesN; rw [List.length_map, List.length_map]) flD_names
  obtain ⟨n5, n2, n4⟩ := R.tlNew
  have inj : ∀ {l l' : List Str}, l.map (Sum.inr : Str → Key) = l'.map Sum.inr → ∀ x, x ∈ l → x ∈ l' := fun {l l'} e x m => by
    have : (Sum.inr x : Key) ∈ l'.map Sum.inr := by rw [← e]; exact List.mem_map_of_mem m
    obtain ⟨y, hy, q⟩ := List.mem_map.mp this
    rw [← Sum.inr.inj q]
    exact hy
  refine ⟨fun z => ?_, fun z => ?_⟩
  · rw [z, e5] at e2
    cases e2
    exact n2 (inj (m5.symm.trans m2) _ n5)
  · rw [z, e5] at e4
    cases e4
    exact n4 (inj (m5.symm.trans m4) _ n5)
def waitV (c : List Ev) (x : Str) : Option V := match evOf c x with | some (.late _ m) => some (.int m) | _ => none
theorem waitV_snoc {c : List Ev} {e : Ev} (h : e.flt ∉ c.map Ev.flt) (x : Str) : waitV (c ++ [e]) x = if x = e.flt then (match e with | .late _ m => some (.int m) | _ => none) else waitV c x := by
  unfold waitV
  rw [evOf_snoc h]
  by_cases q : x = e.flt
  · rw [if_pos q, if_pos q]
    cases e <;> rfl
  · rw [if_neg q, if_neg q]
theorem evOf_none {c : List Ev} {x : Str} (h : x ∉ c.map Ev.flt) : evOf c x = none :=
  List.find?_eq_none.mpr (fun a ha z => h (by rw [← of_decide_eq_true z]; exact List.mem_map_of_mem ha))
theorem waitV_none {c : List Ev} {x : Str} (h : x ∉ c.map Ev.flt) : waitV c x = none := by
  unfold waitV
  rw [evOf_none h]
theorem waitV_get (c : List Ev) (x : Str) : (waitV c x).getD (.int 0) = .int (waitOf c x) := by
  unfold waitV waitOf
  rcases evOf c x with _ | _ | _ | _ <;> rfl
def spHeld0 (K : PySem.W.Frag) (CC : Addr) (cl : Clss) : Sp := hid fun vs H Q _ => ∃ (H0 : Hp) (ch dx co ho : Addr) (N : Net) (d : Dcts) (c : List Ev), vs = [V.ref ch, V.ref co, V.ref ho] ∧ H ch = some (.ins CC dx (chFs d)) ∧ Charted K H0 H N cl d ∧ Right N ∧ Dp K H (.ref co) (.tuple (c.map evD)) ∧ SqT K H ho [] ∧ c.length ≤ 3 ∧ (c.map Ev.flt).Nodup ∧ (∀ e ∈ c, evB N (evD e) = true) ∧
  ∀ (H' : Hp) (D : Addr) (kvs : List (Key × V)), Same H H' → H D = none → H' D = some (.dK kvs) → DvM K H' kvs (flownA N c N.tl.length) → Q (V.ref D) H'
theorem ok_held {f : Addr} {fd : FuncData} (F : Fun K "flown_held" "flown_held" s_flown_held f fd) (T : FbyTxt K mg CC cl) (a_tails : NoAttr K CC "tails") (c_flown_by : Cg P w K mg base CX0 2 "flown_by" (spFlownBy K CC cl)) : FnG P w K mg base CX0 3 f fd ["chart", "course", "holds"] (spHeld0 K CC cl) := by
  refine okG F sc_flown_held (fun vs H Q E h => ?_) (fun cdv A outer s H vs Q E hG hr h => ?_)
  · obtain ⟨H0, ch, dx, co, ho, N, d, c, rfl, _⟩ := h
    rfl
  · obtain ⟨H0, ch, dx, co, ho, N, d, c, rfl, hch, cd, R, hco, hho, l3, nd, hev, q⟩ := h
    refine ⟨_, (pss_cons (ps_setDc (i := 3) (own := [("event", 4)]) rfl sc_flown_held.nd rfl rfl (sw_trueD rfl rfl rfl (by decide +kernel)) (pi_tup (pv 1)) (blkOk_by (own := [("event", 4)]) (N := N_flown_held) (sc := defScope s_flown_held) (by decide +kernel)) (fun _ _ _ _ _ => (pg_name (i := 4) sc_flown_held.nd rfl (.inl rfl))) (fun _ _ _ _ _ => pts_nil) (fun _ _ _ _ _ => (pe_ix (r := rIxT K) ix_tup (pv 4) pe_int (fun _ _ => rfl))) (fun _ _ _ _ _ => (pv 4)))
    (pss_cons (ps_setDc (i := 5) (own := [("event", 4)]) rfl sc_flown_held.nd rfl rfl (sw_trueD rfl rfl rfl (by decide +kernel)) (pi_tup (pv 1)) (blkOk_by (own := [("event", 4)]) (N := N_flown_held) (sc := defScope s_flown_held) (by decide +kernel)) (fun _ _ _ _ _ => (pg_name (i := 4) sc_flown_held.nd rfl (.inl rfl))) (fun _ _ _ _ _ => (pts_one (pt_cmpR op_eq (pe_ix (r := rIxT K) ix_tup (pv 4) pe_int (fun _ _ => rfl)) pe_str (nomark _)))) (fun _ _ _ _ _ => (pe_ix (r := rIxT K) ix_tup (pv 4) pe_int (fun _ _ => rfl))) (fun _ _ _ _ _ => (pe_ix (r := rIxT K) ix_tup (pv 4) pe_int (fun _ _ => rfl))))
    (pss_cons (ps_for PassesOwn.never rfl (pi_tup (pv 2)) (pg_tup (by rfl) (pgs_cons (pg_name (i := 6) sc_flown_held.nd rfl (.inl rfl)) (pgs_cons (pg_name (i := 7) sc_flown_held.nd rfl (.inl rfl)) pgs_nil)))
    (pss_one (ps_dput (hu_of hr) (pv 5) (pv 6) (pe_callB (id := "max") (call_max2 rfl) (by rfl) T.z_max (by decide +kernel) (pa_cons (pv 7) (pa_cons (pe_dget2 (hu_of hr) (pv 5) (pv 6) pe_int ⟨rfl, by rfl, rfl, rfl⟩) pa_nil))) rfl)))
    (pss_cons (ps_set (i := 8) sc_flown_held.nd rfl (.inl rfl) pe_dnewK)
    (pss_cons (ps_lock (ps_for PassesOwn.never rfl (pi_values (pe_fld (pv 0) rfl)) (pg_name (i := 9) sc_flown_held.nd rfl (.inl rfl))
    (pss_one (ps_expr (pe_bm PySem.F.plainAttrs_dict PySem.F.slot_dict_update PySem.F.type_dict_update mt_dupdate (pv 8) (pa_cons (pe_cg c_flown_by hr (by decide) hG (by rfl) (pa_cons (pv 0) (pa_cons (pv 9) (pa_cons (pv 3) (pa_cons (pv 5) pa_nil))))) pa_nil))))))
    (pss_one (ps_ret (pv 8)))))))), ?_⟩
    cases hco with
    | @tup _ xs ds h1 h2 =>
    have ln := DpAll.len h2
    rw [List.length_map] at ln
    refine ⟨_, rfl, co, rfl, ⟨_, h1⟩, fun De nDe => dc_it (walk_tup (K := K) (a := co) (xs := xs)) (fun i H' => Same H H' ∧ ∃ kvs : List (Key × V), H' De = some (.dK kvs) ∧ kvs.length ≤ i ∧ ∀ x, (evOf (c.take i) x = none → valV kvs (.inr x) = none) ∧ ∀ e, evOf (c.take i) x = some e → ∃ v, valV kvs (.inr x) = some v ∧ Dp K H' v (evD e)) ?_ ?_ ?_ ?_⟩
    · exact ⟨Ln.same_upd nDe, [], upd_same, Nat.le_refl _, fun x => ⟨fun _ => rfl, fun e h => by cases h⟩⟩
    · rintro i H' hi ⟨sm, _⟩
      exact Same.tup sm h1
    · rintro i x Hx H' hi ⟨sm, kvs, hD, hl, hm⟩ ⟨rfl, hx⟩
      obtain ⟨r, hr', hxe⟩ := DpAll.get h2 hx
      rw [List.getElem?_map] at hr'
      obtain ⟨e, he, rfl⟩ := Option.map_eq_some_iff.mp hr'
      have hxe' := Dp.same sm _ _ (noL_ev e) hxe
      obtain ⟨t2, rest, rfl, ht2, _⟩ := ev_tup hxe'
      have fr : e.flt ∉ (c.take i).map Ev.flt := by
        rw [List.map_take]
        exact nodup_take nd (by rw [List.getElem?_map, he]; rfl)
      refine ⟨rfl, _, rfl, t2, _, 1, _, rfl, rfl, ht2, atI_nat (j := 1) rfl, _, rfl, kvs, .inr e.flt, rfl, hD, small1 (by omega), same_at sm nDe, _, upd_same, ?_, fun y => ?_⟩
      · rw [putK_new _ ((hm e.flt).1 (evOf_none fr)), List.length_append]
        show kvs.length + 1 ≤ i + 1
        omega
      · rw [takeS he, evOf_snoc fr, valV_put]
        have tp : TpF H' (upd H' De (.dK (putK kvs (.inr e.flt) (.ref t2)))) := TpF.dk (But.upd De H' _) hD
        by_cases c1 : y = e.flt
        · rw [if_pos c1, if_pos (congrArg Sum.inr c1)]
          refine ⟨fun z => (by cases z), fun e' z => ?_⟩
          cases z
          exact ⟨_, rfl, Dp.tpf tp _ _ (noL_ev e) hxe'⟩
        · rw [if_neg c1, if_neg (fun z => c1 (Sum.inr.inj z))]
          refine ⟨(hm y).1, fun e' z => ?_⟩
          obtain ⟨v, a, b⟩ := (hm y).2 e' z
          exact ⟨v, a, Dp.tpf tp _ _ (noL_ev e') b⟩
    rintro H1 ⟨s1, eks, hDe, _, hem⟩
    rw [ln, List.take_length] at hem
    have he1 : EvT K H1 De c := ⟨eks, hDe, hem⟩
    clear hem
    have h1' := Same.tup s1 h1
    refine ⟨_, rfl, co, rfl, ⟨_, h1'⟩, fun Dw nDw => dc_it (walk_tup (K := K) (a := co) (xs := xs)) (fun i H' => Same H1 H' ∧ ∃ kvs : List (Key × V), H' Dw = some (.dK kvs) ∧ kvs.length ≤ i ∧ ∀ x, valV kvs (.inr x) = waitV (c.take i) x) ?_ ?_ ?_ ?_⟩
    · exact ⟨Ln.same_upd nDw, [], upd_same, Nat.le_refl _, fun x => rfl⟩
    · rintro i H' hi ⟨sm, _⟩
      exact Same.tup sm h1'
    · rintro i x Hx H' hi ⟨sm, kvs, hD, hl, hm⟩ ⟨rfl, hx⟩
      obtain ⟨r, hr', hxe⟩ := DpAll.get h2 hx
      rw [List.getElem?_map] at hr'
      obtain ⟨e, he, rfl⟩ := Option.map_eq_some_iff.mp hr'
      obtain ⟨t2, rest, rfl, ht2, hlate⟩ := ev_tup (Dp.same (s1.trans sm) _ _ (noL_ev e) hxe)
      have fr : e.flt ∉ (c.take i).map Ev.flt := by
        rw [List.map_take]
        exact nodup_take nd (by rw [List.getElem?_map, he]; rfl)
      refine ⟨rfl, _, rfl, t2, _, 0, _, rfl, rfl, ht2, atI_nat (j := 0) rfl, rfl, _, rfl, ?_⟩
      cases e with
      | late f m =>
        have rr := hlate f m rfl
        subst rr
        refine iteT ⟨_, rfl, t2, _, 1, _, rfl, rfl, ht2, atI_nat (j := 1) rfl, _, rfl, t2, _, 2, _, rfl, rfl, ht2, atI_nat (j := 2) rfl, kvs, .inr f, rfl, hD, small1 (by omega), same_at sm nDw, _, upd_same, ?_, fun y => ?_⟩
        · rw [putK_new _ ((hm f).trans (waitV_none fr)), List.length_append]
          show kvs.length + 1 ≤ i + 1
          omega
        · rw [takeS he, waitV_snoc fr, valV_put]
          by_cases c1 : y = f
          · rw [if_pos (show y = Ev.flt (.late f m) from c1), if_pos (congrArg Sum.inr c1)]
          · rw [if_neg (show ¬ y = Ev.flt (.late f m) from c1), if_neg (fun z => c1 (Sum.inr.inj z)), hm y]
      | cancel f =>
        refine iteF ⟨sm, kvs, hD, Nat.le_succ_of_le hl, fun y => ?_⟩
        rw [takeS he, waitV_snoc fr]
        by_cases c1 : y = Ev.flt (.cancel f)
        · rw [if_pos c1, c1, hm, waitV_none fr]
        · rw [if_neg c1, hm y]
      | smaller f k =>
        refine iteF ⟨sm, kvs, hD, Nat.le_succ_of_le hl, fun y => ?_⟩
        rw [takeS he, waitV_snoc fr]
        by_cases c1 : y = Ev.flt (.smaller f k)
        · rw [if_pos c1, c1, hm, waitV_none fr]
        · rw [if_neg c1, hm y]
    rintro H2 ⟨s2, wks, hDw, _, hwm⟩
    rw [ln, List.take_length] at hwm
    have hw2 : WaT H2 Dw c := ⟨wks, hDw, fun x => by rw [hwm]; exact waitV_get c x⟩
    clear hwm
    have s02 := s1.trans s2
    have he2 := he1.tpf (TpF.same s2) (fun u e => s2 _ _ e)
    obtain ⟨n25, n45⟩ := cd.ne5 R
    obtain ⟨n5, kvs5, hk5, lk5, all5⟩ := cd.p5
    rw [List.length_map] at lk5
    refine ⟨_, rfl, ho, rfl, ⟨_, Same.tup s02 hho⟩, for_it (walk_tup (K := K) (a := ho) (xs := [])) (fun i σ H' => H' = H2 ∧ σ = [some (.ref ch), some (.ref co), some (.ref ho), some (.ref De), none, some (.ref Dw), none, none, none, none]) ?_ ?_ ?_ ?_⟩
    · exact ⟨rfl, rfl⟩
    · rintro i σ H' _ ⟨rfl, _⟩
      exact Same.tup s02 hho
    · rintro i x σ Hx H' hi
      exact absurd hi (Nat.not_lt_zero _)
    rintro σ H' ⟨rfl, rfl⟩
    refine fun D nD => ?_
    have hk5' := s02 _ _ hk5
    have nD5 : D ≠ d.d5 := fun z => by rw [z, hk5'] at nD; cases nD
    have ne5 : De ≠ d.d5 := fun z => by rw [z, hk5] at nDe; cases nDe
    have nw5 : Dw ≠ d.d5 := fun z => by rw [z, s1 _ _ hk5] at nDw; cases nDw
    have nHD : H D = none := by
      cases hHD : H D with
      | none => rfl
      | some u => rw [s02 _ _ hHD] at nD; cases nD
    have nDe' : De ≠ D := fun z => by
      obtain ⟨k, e, _⟩ := he2
      rw [z, nD] at e
      cases e
    have nDw' : Dw ≠ D := fun z => by
      obtain ⟨k, e, _⟩ := hw2
      rw [z, nD] at e
      cases e
    have s3 := Ln.same_upd (o := .dK []) nD
    have s03 := s02.trans s3
    have he3 := he2.tpf (TpF.same s3) (fun u e => s3 _ _ e)
    have hw3 := hw2.keep (fun u e => s3 _ _ e)
    have hk3 := s03 _ _ hk5
    have hD3 : (upd H' D (.dK [])) D = some (.dK []) := upd_same
    generalize upd H' D (.dK []) = H3 at s3 s03 he3 hw3 hk3 hD3 ⊢
    refine ⟨d.d5, .dK kvs5, hk3, trivial, fun od => ?_⟩
    have b34 : But d.d5 H3 (upd H3 d.d5 (.frz od (.dK kvs5))) := But.upd _ _ _
    have b4 : But d.d5 H (upd H3 d.d5 (.frz od (.dK kvs5))) := (Same.but s03).trans b34
    have nc5 : ch ≠ d.d5 := fun e => by rw [e, hk5] at hch; cases hch
    refine ⟨_, rfl, ch, CC, dx, _, _, rfl, b4 _ _ nc5 hch, T.o_CC, a_tails, rfl, d.d5, od, kvs5, rfl, upd_same, ?_⟩
    refine for_it (walk_values (d := d.d5) (o := od) (kvs := kvs5)) (fun i σ H' => H' d.d5 = some (.frz od (.dK kvs5)) ∧ But d.d5 H H' ∧ EvT K H' De c ∧ WaT H' Dw c ∧ ∃ (kvs : List (Key × V)) (v9 : Option V), H' D = some (.dK kvs) ∧ DvM K H' kvs (flownA N c i) ∧
      σ = [some (.ref ch), some (.ref co), some (.ref ho), some (.ref De), none, some (.ref Dw), none, none, some (.ref D), v9]) ?_ ?_ ?_ ?_
    · exact ⟨upd_same, b4, he3.tpf (TpF.dk b34 hk3) (fun u e => b34 _ _ ne5 e), hw3.keep (fun u e => b34 _ _ nw5 e), [], _, b34 _ _ nD5 hD3, ⟨rfl, fun i p e => by cases e⟩, rfl⟩
    · rintro i σ H' _ ⟨h4, _⟩
      exact h4
    · rintro i v σ Hx H' hi ⟨h5, b5, he5, hw5, kvs, v9, hD5, hdv5, rfl⟩ ⟨rfl, kk, hv⟩
      obtain ⟨⟨nm, k, ns⟩, ht⟩ : ∃ t, N.tl[i]? = some t := ⟨_, List.getElem?_eq_getElem (by omega)⟩
      obtain ⟨fs, ok⟩ := R.tailAt ht
      obtain ⟨o, dxo, zs, _, e1, hoo, hzs, _⟩ := all5 i nm [.str k, .tuple (ns.map .str)] (by rw [List.getElem?_map, ht]; rfl)
      rw [e1] at hv
      cases hv
      have no5 : o ≠ d.d5 := fun e => by rw [e, hk5] at hoo; cases hoo
      have tp5 := TpF.dk b5 hk5
      obtain ⟨lt, rfl, hlt⟩ : ∃ lt, zs = [.str nm, .str k, .ref lt] ∧ SqT K H' lt (ns.map V.str) := by
        cases hzs with
        | cons q1 hzs => cases q1; cases hzs with
          | cons q1 hzs => cases q1; cases hzs with
            | cons q1 hzs => cases hzs; cases q1 with
              | tup q1 q2 => exact ⟨_, rfl, tp5.tup (strs_at (.tup q1 q2))⟩
      have en : ns = fs.map Flt.name := ok.nms
      have ef : flownT N c (nm, k, ns) = flyT N c k fs := by unfold flownT; rw [ok.fls]
      refine ⟨_, rfl, .inr (.inr (.inl ⟨rfl, .inl ⟨_, hD5⟩⟩)), _, rfl, _, rfl, _, rfl, _, rfl, H0, ch, dx, o, De, Dw, N, d, c, nm, k, fs, rfl, b5 _ _ nc5 hch, cd.p2.off (noLs_map noL_tr _) hk5 n25 b5, cd.p4.off (noLs_map noL_fl _) hk5 n45 b5, R, ⟨dxo, lt, b5 _ _ no5 hoo, by rw [← en]; exact hlt⟩, by have := ok.l5; omega, ok.mem, (List.nodup_append.mp ok.nd).2.1, ok.kin, ok.knd, he5, hw5, fun e he f _ _ => hev e he, ?_⟩
      intro H2' F more sm nF hF hdm
      have nDF : D ≠ F := fun z => by rw [← z, hD5] at nF; cases nF
      have lk := hdv5.1
      have lm := hdm.1
      have la := flownA_len (c := c) R i (by omega)
      have la' := flownA_len (c := c) R (i + 1) (by omega)
      have t5 := R.tl5
      rw [flownA_succ ht, ef, List.length_append] at la'
      refine ⟨D, F, kvs, more, rfl, rfl, nDF, sm _ _ hD5, hF, Nat.le_of_lt (small1 (by omega)), ?_⟩
      have hkk : kvs.map (·.1) ++ more.map (·.1) = ((flown N i) ++ ns).map Sum.inr := by
        rw [hdv5.keys, hdm.keys, flownA_names R i (by omega), flyT_names, List.map_append, en]
      have hnd : (kvs.map (·.1) ++ more.map (·.1)).Nodup := by
        rw [hkk, en]
        exact List.Pairwise.map Sum.inr (fun a b h e => h (Sum.inr.inj e)) ok.nd
      rw [mergeK_app _ _ hnd]
      have bD := But.upd D H2' (.dK (kvs ++ more))
      have tpD : TpF H2' (upd H2' D (.dK (kvs ++ more))) := TpF.dk bD (sm _ _ hD5)
      refine ⟨bD _ _ (Ne.symm nD5) (sm _ _ h5), fun b u n e => ?_, ?_, ?_, _, _, upd_same, ?_, rfl⟩
      · rw [upd_ne (fun z => by rw [z, nHD] at e; cases e)]
        exact sm _ _ (b5 b u n e)
      · exact (he5.tpf (TpF.same sm) (fun u e => sm _ _ e)).tpf tpD (fun u e => bD _ _ nDe' e)
      · exact (hw5.keep (fun u e => sm _ _ e)).keep (fun u e => bD _ _ nDw' e)
      · rw [flownA_succ ht, ef]
        exact ((hdv5.tpf (TpF.same sm)).app hdm).tpf tpD
    · rintro σ H' ⟨h5, b5, _, _, kvs, v9, hD5, hdv5, rfl⟩
      refine ⟨h5, _, rfl, ?_⟩
      have bf : But d.d5 H' (upd H' d.d5 (.dK kvs5)) := But.upd _ _ _
      rw [lk5] at hdv5
      refine q _ D kvs (fun b u e => ?_) nHD (bf _ _ nD5 hD5) (hdv5.tpf (TpF.fz bf h5))
      by_cases c5 : b = d.d5
      · rw [c5, hk5] at e
        rw [c5, upd_same]
        exact e
      · exact bf _ _ c5 (b5 _ _ c5 e)
end
end Mine
set_option Elab.async false
set_option linter.all false
set_option maxRecDepth 100000
set_option maxHeartbeats 8000000
namespace Mine
open PySem PySem.Spec PyProof.Rows L2 Ln RZ
abbrev s_flown_in : Stmt := topS 75
abbrev N_flown_in : List Str := ["chart", "course"]
theorem sc_flown_in : FnScope N_flown_in ["chart", "course"] (defScope s_flown_in) := ⟨rfl, rfl, rfl, by decide +kernel, rfl, by decide +kernel, by decide +kernel⟩
-- slots: 0 chart, 1 course
abbrev s_asked_course : Stmt := topS 73
abbrev N_asked_course : List Str := ["chart", "course"]
theorem sc_asked_course : FnScope N_asked_course ["chart", "course"] (defScope s_asked_course) := ⟨rfl, rfl, rfl, by decide +kernel, rfl, by decide +kernel, by decide +kernel⟩
-- slots: 0 chart, 1 course
theorem crs_of {N : Net} {e : PyData} (h : crsB N e = true) : ∃ c : List Ev, e = .tuple (c.map evD) ∧ c.length ≤ 3 ∧ (c.map Ev.flt).Nodup ∧ ∀ x ∈ c, evB N (evD x) = true := by
  unfold crsB at h
  obtain ⟨h1, h2⟩ := Bool.and_eq_true_iff.mp h
  obtain ⟨h2, h3⟩ := Bool.and_eq_true_iff.mp h2
  cases e with
  | tuple ds =>
    obtain ⟨es, rfl⟩ := evs_of (show ds.all (evB N) = true from h2)
    have l : decide (((es.map evD).length : Int) ≤ 3) = true := h1
    have l := of_decide_eq_true l
    rw [List.length_map] at l
    have h3 : decide ((es.map evD).map nthS).Nodup = true := h3
    rw [nthS_ev] at h3
    exact ⟨es, rfl, by omega, of_decide_eq_true h3, fun e he => List.all_eq_true.mp h2 _ (List.mem_map_of_mem he)⟩
  | _ => cases h1
def dvAt (N : Net) (c : List Ev) (x : Str) : Dv := (((flownA N c N.tl.length).find? fun p => decide (p.1 = x)).map (·.2)).getD none
section
variable {P : Program} {w : World} {K : PySem.W.Frag} {mg : Str → Option Value} {base : Heap} {CC C fI : Addr} {cl : Clss}
theorem DvM.look {H : Hp} {kvs : List (Key × V)} {l : List (Str × Dv)} (h : DvM K H kvs l) (nd : (l.map (·.1)).Nodup) {x : Str} (hx : x ∈ l.map (·.1)) : ∃ v d, valV kvs (.inr x) = some v ∧ l.find? (fun p => decide (p.1 = x)) = some (x, d) ∧ Dp K H v (dayD d) := by
  obtain ⟨i, hi⟩ := List.mem_iff_getElem?.mp hx
  rw [List.getElem?_map] at hi
  obtain ⟨⟨y, d⟩, hp, e⟩ := Option.map_eq_some_iff.mp hi
  cases e
  obtain ⟨v, a, b⟩ := h.2 i _ hp
  refine ⟨v, d, ?_, find_keyN nd hp, b⟩
  unfold valV
  rw [find_keyN (by rw [h.keys]; exact List.Pairwise.map Sum.inr (fun a b h e => h (Sum.inr.inj e)) nd) a]
  rfl
theorem Right.flownNd {N : Net} (R : Right N) : ∀ i, i ≤ N.tl.length → (flown N i).Nodup
  | 0, _ => List.nodup_nil
  | i + 1, h => by
    have ht : N.tl[i]? = some N.tl[i] := List.getElem?_eq_getElem (by omega)
    obtain ⟨fs, ok⟩ := R.tailAt ht
    have e : flown N (i + 1) = flown N i ++ fs.map Flt.name := by
      unfold flown
      rw [takeS ht, List.flatMap_append, List.flatMap_singleton, ok.nms]
    rw [e]
    exact ok.nd
theorem dv_look {H : Hp} {N : Net} {c : List Ev} {kvs : List (Key × V)} (R : Right N) (h : DvM K H kvs (flownA N c N.tl.length)) {f : Flt} (hf : f ∈ N.fl) : ∃ v, valV kvs (.inr f.name) = some v ∧ Dp K H v (dayD (dvAt N c f.name)) := by
  have en := flownA_names R (c := c) N.tl.length (Nat.le_refl _)
  obtain ⟨v, d, a, b, k⟩ := h.look (by rw [en]; exact R.flownNd _ (Nat.le_refl _)) (x := f.name) (by rw [en]; exact R.allFlown hf)
  refine ⟨v, a, ?_⟩
  unfold dvAt
  rw [b]
  exact k
def spFlownIn (K : PySem.W.Frag) (CC : Addr) (cl : Clss) : Sp := hid fun vs H Q _ => ∃ (H0 : Hp) (ch dx co : Addr) (N : Net) (d : Dcts) (c : List Ev), vs = [V.ref ch, V.ref co] ∧ H ch = some (.ins CC dx (chFs d)) ∧ Charted K H0 H N cl d ∧ Right N ∧ Dp K H (.ref co) (.tuple (c.map evD)) ∧ c.length ≤ 3 ∧ (c.map Ev.flt).Nodup ∧ (∀ e ∈ c, evB N (evD e) = true) ∧
  ∀ (H' : Hp) (D : Addr) (kvs : List (Key × V)), Same H H' → H D = none → H' D = some (.dK kvs) → DvM K H' kvs (flownA N c N.tl.length) → Q (V.ref D) H'
theorem ok_flownin {f : Addr} {fd : FuncData} (F : Fun K "flown_in" "flown_in" s_flown_in f fd) (c_flown_held : Cg P w K mg base CX0 3 "flown_held" (spHeld0 K CC cl)) : FnG P w K mg base CX0 4 f fd ["chart", "course"] (spFlownIn K CC cl) := by
  refine okG F sc_flown_in (fun vs H Q E h => ?_) (fun cdv A outer s H vs Q E hG hr h => ?_)
  · obtain ⟨H0, ch, dx, co, N, d, c, rfl, _⟩ := h
    rfl
  · obtain ⟨H0, ch, dx, co, N, d, c, rfl, hch, cd, R, hco, l3, nd, hev, q⟩ := h
    refine ⟨_, (pss_one (ps_ret (pe_cg c_flown_held hr (by decide) hG (by rfl) (pa_cons (pv 0) (pa_cons (pv 1) (pa_cons (pe_tup pa_nil) pa_nil)))))), ?_⟩
    refine ⟨_, rfl, _, rfl, Nat.zero_le _, fun t nt => ?_⟩
    have st := Ln.same_upd (o := .tup []) nt
    exact ⟨H0, ch, dx, co, t, N, d, c, rfl, st _ _ hch, cd.same st, R, Dp.same st _ _ (by simpa only [noL] using noLs_ev c) hco, SqT.of upd_same, l3, nd, hev, fun H' D kvs sm nD hD hdv => q H' D kvs (st.trans sm) (st.free nD) hD hdv⟩
def spAskCrs (K : PySem.W.Frag) (CC : Addr) (cl : Clss) (C : Addr) : Sp := hid fun vs H Q E => ∃ (H0 : Hp) (ch dx : Addr) (N : Net) (d : Dcts) (v : V) (e : PyData), vs = [V.ref ch, v] ∧ H ch = some (.ins CC dx (chFs d)) ∧ Charted K H0 H N cl d ∧ Right N ∧ Dp K H v e ∧ noL e = true ∧ (∀ r ∈ rowsD e, Heads r) ∧
  (crsB N e = false → Rz C "course" H E) ∧ ∀ c, crsB N e = true → e = .tuple (c.map evD) → ∀ (H' : Hp) (D : Addr) (kvs : List (Key × V)), Same H H' → H D = none → H' D = some (.dK kvs) → DvM K H' kvs (flownA N c N.tl.length) → Q (V.ref D) H'
theorem ok_askcrs {f : Addr} {fd : FuncData} (F : Fun K "asked_course" "asked_course" s_asked_course f fd) (c_require_course : Cg P w K mg base (L2.CX P w) 5 "require_course" (spReqCrs K CC cl C)) (c_flown_in : Cg P w K mg base CX0 4 "flown_in" (spFlownIn K CC cl)) :
    FnG P w K mg base (L2.CX P w) 6 f fd ["chart", "course"] (spAskCrs K CC cl C) := by
  refine okX F sc_asked_course (fun vs H Q E h => ?_) (fun cdv A outer s H vs Q E hG hr h => ?_)
  · obtain ⟨H0, ch, dx, N, d, v, e, rfl, _⟩ := h
    rfl
  · obtain ⟨H0, ch, dx, N, d, v, e, rfl, hch, cd, R, hd, nl, hh, qt, q⟩ := h
    have tk0 : Takes (cxOf (L2.CX P w) P w K mg base N_asked_course "asked_course" (defScope s_asked_course) f cdv A outer s H E) (fun cls d _ H => E cls d H) := takes_of rfl rfl rfl rfl
    refine ⟨_, (pss_cons (ps_expr (pe_cgS c_require_course hr (by decide) hG (fun _ => passE tk0) (by rfl) (pa_cons (pv 0) (pa_cons (pv 1) pa_nil))))
    (pss_one (ps_ret (pe_cg c_flown_in hr (by decide) hG (by rfl) (pa_cons (pv 0) (pa_cons (pv 1) pa_nil)))))), ?_⟩
    refine ⟨_, rfl, _, rfl, H0, ch, dx, N, d, v, e, rfl, hch, cd, R, R.kindsOk, hd, nl, hh, qt, fun eb H1 sm1 => ?_⟩
    obtain ⟨c, rfl, l3, nd, hev⟩ := crs_of eb
    obtain ⟨a, rfl⟩ : ∃ a, v = .ref a := by cases hd; exact ⟨_, rfl⟩
    exact ⟨_, rfl, _, rfl, H0, ch, dx, a, N, d, c, rfl, sm1 _ _ hch, cd.same sm1, R, Dp.same sm1 _ _ nl hd, l3, nd, hev, fun H' D kvs s' nD hD hdv => q c eb rfl H' D kvs (sm1.trans s') (sm1.free nD) hD hdv⟩
def actD (N : Net) (c : List Ev) : List PyData := N.fl.map fun f => dayD (dvAt N c f.name)
theorem noLs_act (N : Net) (c : List Ev) : noLs (actD N c) = true := noLs_of fun d hd => by
  obtain ⟨f, _, rfl⟩ := List.mem_map.mp hd
  exact noL_day _
end
end Mine
set_option Elab.async false
set_option linter.all false
set_option maxRecDepth 100000
set_option maxHeartbeats 8000000
namespace Mine
open PySem PySem.Spec PyProof.Rows L2 Ln RZ
abbrev s_actual : Stmt := topS 72
abbrev N_actual : List Str := ["net", "course", "chart", "flown", "name"]
theorem sc_actual : FnScope N_actual ["net", "course"] (defScope s_actual) := ⟨rfl, rfl, rfl, by decide +kernel, rfl, by decide +kernel, by decide +kernel⟩
-- slots: 0 net, 1 course, 2 chart, 3 flown*, 4 name
structure ActTxt (mg : Str → Option Value) : Prop where
  z_tuple : mg "tuple" = none
section
variable {P : Program} {w : World} {K : PySem.W.Frag} {mg : Str → Option Value} {base : Heap} {CC C fI : Addr} {cl : Clss}
def spActual (K : PySem.W.Frag) (C : Addr) : Sp := hid fun vs H Q E => ∃ (a : Addr) (N : Net) (v : V) (e : PyData), vs = [V.ref a, v] ∧ Dp K H (.ref a) (netD N) ∧ Right N ∧ Dp K H v e ∧ noL e = true ∧ (∀ r ∈ rowsD e, Heads r) ∧
  (crsB N e = false → Rz C "course" H E) ∧ ∀ c, crsB N e = true → e = .tuple (c.map evD) → ∀ (H' : Hp) (t : Addr), Same H H' → Dp K H' (.ref t) (.tuple (actD N c)) → Q (V.ref t) H'
theorem ok_actual {f : Addr} {fd : FuncData} (F : Fun K "actual" "actual" s_actual f fd) (T : ActTxt mg) (o_CC : Cls K CC) (a_flights : NoAttr K CC "flights") (c_checked_chart : Cg P w K mg base (L2.CX P w) 8 "checked_chart" (spCChart K CC cl)) (c_asked_course : Cg P w K mg base (L2.CX P w) 6 "asked_course" (spAskCrs K CC cl C)) :
    FnG P w K mg base (L2.CX P w) 9 f fd ["net", "course"] (spActual K C) := by
  refine okX F sc_actual (fun vs H Q E h => ?_) (fun cdv A outer s H vs Q E hG hr h => ?_)
  · obtain ⟨a, N, v, e, rfl, _⟩ := h
    rfl
  · obtain ⟨a, N, v, e, rfl, hN, R, hd, nl, hh, qt, q⟩ := h
    have tk0 : Takes (cxOf (L2.CX P w) P w K mg base N_actual "actual" (defScope s_actual) f cdv A outer s H E) (fun cls d _ H => E cls d H) := takes_of rfl rfl rfl rfl
    refine ⟨_, (pss_cons (ps_set (i := 2) sc_actual.nd rfl (.inl rfl) (pe_cgS c_checked_chart hr (by decide) hG (fun _ => passE tk0) (by rfl) (pa_cons (pv 0) pa_nil)))
    (pss_cons (ps_set (i := 3) sc_actual.nd rfl (.inr rfl) (pe_cgS c_asked_course hr (by decide) hG (fun _ => passE tk0) (by rfl) (pa_cons (pv 2) (pa_cons (pv 1) pa_nil))))
    (pss_one (ps_ret (pe_callTy (r := Ln.rTupOf K) (T := "tuple") c_tuple (by rfl) T.z_tuple (by decide +kernel) (pa_cons (pe_lock (pe_lc (own := [("name", 4)]) rfl sc_actual.nd (pi_keys (pe_fld (pv 2) rfl)) (blkOk_by (own := [("name", 4)]) (N := N_actual) (sc := defScope s_actual) (by decide +kernel)) (fun _ _ _ _ _ => (pg_name (i := 4) sc_actual.nd rfl (.inl rfl))) (fun _ _ _ _ _ => pts_nil) (fun _ _ _ _ _ => (pe_dget (by exact hu_of hr) (pv 3) (pv 4) (fun _ _ => rfl))))) pa_nil)))))), ?_⟩
    refine ⟨_, rfl, a, N, rfl, hN, R, fun H1 ch dx d sm1 nch hch cd => ?_⟩
    refine ⟨_, rfl, _, rfl, H, ch, dx, N, d, v, e, rfl, hch, cd, R, Dp.same sm1 _ _ nl hd, nl, hh, fun z => (qt z).later sm1, fun c eb ee H2 D kvs s2 nD hD hdv => ?_⟩
    obtain ⟨n4, kvs4, hk4, lk4, all4⟩ := cd.p4
    rw [List.length_map] at lk4
    have hk4' := s2 _ _ hk4
    refine ⟨d.d4, .dK kvs4, hk4', trivial, fun od => ?_⟩
    have b3 : But d.d4 H2 (upd H2 d.d4 (.frz od (.dK kvs4))) := But.upd _ _ _
    have nc4 : ch ≠ d.d4 := fun e => by rw [e, hk4] at hch; cases hch
    have nD4 : D ≠ d.d4 := fun z => by rw [z, hk4] at nD; cases nD
    refine ⟨_, rfl, ch, CC, dx, chFs d, _, rfl, b3 _ _ nc4 (s2 _ _ hch), o_CC, a_flights, rfl, d.d4, od, rfl, .inl ⟨kvs4, upd_same, fun Dl nDl => lc_it (walk_keys (d := d.d4) (o := od) (kvs := kvs4)) (fun i H' => H' d.d4 = some (.frz od (.dK kvs4)) ∧ But d.d4 H2 H' ∧ ∃ us, H' Dl = some (.lst us) ∧ H2 Dl = none ∧ Dl ≠ d.d4 ∧ DpAll K H' us ((N.fl.take i).map fun f => dayD (dvAt N c f.name))) ?_ ?_ ?_ ?_⟩⟩
    · have n4l : Dl ≠ d.d4 := fun z => by rw [z, upd_same] at nDl; cases nDl
      have nl2 : H2 Dl = none := by rw [upd_ne n4l] at nDl; exact nDl
      exact ⟨by rw [upd_ne (Ne.symm n4l)]; exact upd_same, b3.trans (Same.but (Ln.same_upd nDl)), [], upd_same, nl2, n4l, .nil⟩
    · rintro i H' hi ⟨h4, _⟩
      exact h4
    · rintro i x Hx H' hi ⟨h4, b4, us, hl, nl2, n4l, hu⟩ ⟨rfl, kk, vv, hkv, rfl⟩
      obtain ⟨fl, hfl⟩ : ∃ fl, N.fl[i]? = some fl := ⟨_, List.getElem?_eq_getElem (by omega)⟩
      obtain ⟨o, dxo, zs, _, e1, _⟩ := all4 i fl.name _ (by rw [List.getElem?_map, hfl]; rfl)
      rw [e1] at hkv
      cases hkv
      obtain ⟨v2, hv2, hdv2⟩ := dv_look R hdv (List.mem_of_getElem? hfl)
      have l25 := R.fl25
      have lu := DpAll.len hu
      rw [List.length_map, List.length_take] at lu
      refine ⟨rfl, _, rfl, _, rfl, D, v2, rfl, .inl ⟨kvs, .inr fl.name, .inl (b4 _ _ nD4 hD), rfl, hv2.symm⟩, us, hl, small1 (by omega), ?_⟩
      have bl := But.upd Dl H' (.lst (us ++ [v2]))
      have tl := TpF.but bl hl
      refine ⟨bl _ _ (Ne.symm n4l) h4, fun b u n e => ?_, _, upd_same, nl2, n4l, ?_⟩
      · exact bl _ _ (fun z => by rw [z, nl2] at e; cases e) (b4 b u n e)
      · rw [takeS hfl, List.map_append]
        refine DpAll.app (Dp.tpfAll tl _ _ (noLs_of fun d hd => ?_) hu) (Dp.tpf tl _ _ (noL_day _) (Dp.tpf (TpF.dk b4 hk4') _ _ (noL_day _) hdv2))
        obtain ⟨f, _, rfl⟩ := List.mem_map.mp hd
        exact noL_day _
    · rintro H' ⟨h4, b4, us, hl, nl2, n4l, hu⟩
      rw [lk4, List.take_length] at hu
      refine ⟨h4, Dl, us, rfl, .inl ⟨SqL.of (by rw [upd_ne n4l]; exact hl), fun t nt => ?_⟩⟩
      have bf : But d.d4 H' (upd H' d.d4 (.dK kvs4)) := But.upd _ _ _
      have sf : Same H2 (upd H' d.d4 (.dK kvs4)) := fun b u e => by
        by_cases c5 : b = d.d4
        · rw [c5, hk4'] at e
          rw [c5, upd_same]
          exact e
        · exact bf _ _ c5 (b4 _ _ c5 e)
      have st := Ln.same_upd (o := .tup us) nt
      have hu' : DpAll K H' us (actD N c) := hu
      exact q c eb ee _ t (((sm1.trans s2).trans sf).trans st) (.tup (SqT.of upd_same) (Dp.tpfAll (TpF.same st) _ _ (noLs_act N c) (Dp.tpfAll (TpF.fz bf h4) _ _ (noLs_act N c) hu')))
end
end Mine
set_option Elab.async false
set_option linter.all false
set_option maxRecDepth 100000
set_option maxHeartbeats 8000000
namespace Mine
open PySem PySem.Spec PyProof.Rows L2 Ln RZ
abbrev s_law_event : Stmt := topS 85
abbrev N_law_event : List Str := ["net", "draws", "at", "flight", "choice", "seats", "row", "small"]
theorem sc_law_event : FnScope N_law_event ["net", "draws", "at"] (defScope s_law_event) := ⟨rfl, rfl, rfl, by decide +kernel, rfl, by decide +kernel, by decide +kernel⟩
-- slots: 0 net, 1 draws, 2 at, 3 flight*, 4 choice, 5 seats*, 6 row, 7 small
abbrev s_law_threats : Stmt := topS 86
abbrev N_law_threats : List Str := ["net", "most", "draws", "at", "found", "k", "event"]
theorem sc_law_threats : FnScope N_law_threats ["net", "most", "draws", "at"] (defScope s_law_threats) := ⟨rfl, rfl, rfl, by decide +kernel, rfl, by decide +kernel, by decide +kernel⟩
-- slots: 0 net, 1 most, 2 draws, 3 at, 4 found, 5 k, 6 event
structure EvsTxt (mg : Str → Option Value) : Prop where
  z_range : mg "range" = none
  z_tuple : mg "tuple" = none
  z_len : mg "len" = none
  z_int : mg "int" = none
theorem find_flt {f : Flt} : ∀ (l : List Flt), (l.map (·.name)).Nodup → f ∈ l → l.find? (fun g => decide (g.name = f.name)) = some f
  | [], _, h => by cases h
  | g :: l, nd, h => by
    rw [List.map_cons, List.nodup_cons] at nd
    rcases List.mem_cons.mp h with e | h
    · rw [e]
      exact List.find?_cons_of_pos (p := fun x : Flt => decide (x.name = g.name)) (decide_eq_true rfl)
    · have m : f.name ∈ l.map (·.name) := List.mem_map.mpr ⟨f, h, rfl⟩
      rw [List.find?_cons_of_neg (by intro z; exact nd.1 (of_decide_eq_true z ▸ m))]
      exact find_flt l nd.2 h
theorem kind_flt {N : Net} (R : Right N) {f : Flt} (h : f ∈ N.fl) : kindOf N f.name = f.kind := by
  unfold kindOf
  rw [find_flt N.fl R.flNodup h]
  rfl
theorem fname_mem {N : Net} {f : Flt} (h : f ∈ N.fl) : f.name ∈ fnamesN N := List.mem_map.mpr ⟨f, h, rfl⟩
theorem mk_cancel {N : Net} {x : Str} (h : x ∈ fnamesN N) : EvOk N (.cancel x) := by
  show (decide (("cancel" : Str) = "cancel") && decide (x ∈ fnamesN N)) = true
  rw [decide_eq_true h]
  rfl
theorem mk_late {N : Net} {x : Str} {m : Int} (h : x ∈ fnamesN N) (h1 : 1 ≤ m) (h2 : m ≤ 1440) : EvOk N (.late x m) := by
  show (decide (x ∈ fnamesN N) && (if ("late" : Str) = "late" then (decide (1 ≤ m) && decide (m ≤ 1440)) else _)) = true
  rw [decide_eq_true h, if_pos rfl, decide_eq_true h1, decide_eq_true h2]
  rfl
theorem mk_small {N : Net} {x k : Str} (h : x ∈ fnamesN N) (hk : k ∈ tnames N) (hs : seatsOf N k < seatsOf N (kindOf N x)) : EvOk N (.smaller x k) := by
  show (decide (x ∈ fnamesN N) && (if ("smaller" : Str) = "late" then _ else (decide (("smaller" : Str) = "smaller") && (decide (k ∈ tnames N) && decide (seatsOf N k < seatsOf N (kindOf N x)))))) = true
  rw [decide_eq_true h, if_neg s_ls.symm, decide_eq_true hk, decide_eq_true hs]
  rfl
theorem seats_at {N : Net} (R : Right N) {t : Tri} (h : t ∈ N.ty) : seatsOf N t.1 = t.2.1 := by
  unfold seatsOf
  obtain ⟨i, hi⟩ := List.mem_iff_getElem?.mp h
  rw [find_keyN (R.names (i := 1) (by decide)).1 hi]
  rfl
/-! ## flights as small data -/
theorem snm_ok {N : Net} (R : Right N) {x : Str} (h : x ∈ N.st.map (·.1)) : StrOk x := ok_name ((R.names (i := 0) (by decide)).2 x h)
theorem sm_fl {N : Net} (R : Right N) {f : Flt} (h : f ∈ N.fl) : Sm (flD f) 2 2000 := by
  have fo := R.flt h
  have lm := fo.lm
  have c4 := R.cl4
  unfold flD
  refine (Sm.tup (k := 1) (m := 168) (n := 8) (fun d hd => ?_) (Nat.le_refl _)).mono (Nat.le_refl _) (by decide)
  have up : ∀ {d : PyData}, Sm d 0 41 → Sm d 1 168 := fun h => h.mono (by decide) (by decide)
  simp only [List.mem_cons, List.not_mem_nil, or_false] at hd
  rcases hd with rfl | rfl | rfl | rfl | rfl | rfl | rfl | rfl
  · exact up (R.fok (fname_mem h)).sm
  · exact up (snm_ok R fo.s).sm
  · exact up (snm_ok R fo.e).sm
  · exact up (Sm.int (by have := fo.t0; have := fo.t1; have := fo.t2; omega))
  · exact up (Sm.int (by have := fo.t0; have := fo.t1; have := fo.t2; omega))
  · exact up (R.tok (R.kindOf h)).sm
  · exact up (Sm.int (by have := fo.d0; have := fo.d1; omega))
  · exact (Sm.ints (n := 4) (fun i hi => by have := lm.rg i hi; omega) (by rw [lm.len]; omega)).mono (by decide) (by decide)
theorem sm_fls {N : Net} (R : Right N) : Sm (.tuple (N.fl.map flD)) 3 60000 := by
  refine (Sm.tup (k := 2) (m := 2000) (n := 25) (fun d hd => ?_) (by rw [List.length_map]; exact R.fl25)).mono (Nat.le_refl _) (by decide)
  obtain ⟨f, hf, rfl⟩ := List.mem_map.mp hd
  exact sm_fl R hf
theorem filter1 {α : Type} (p : α → Bool) (a : α) : [a].filter p = if p a = true then [a] else [] := by
  cases h : p a <;> simp [h]
theorem eqv_nil (ds : List PyData) : PyData.eqv (.tuple ds) (.tuple []) = ds.isEmpty := by
  cases ds <;> simp [PyData.eqv, PyData.eqvAll]
theorem eqv_nilL (ds : List PyData) : PyData.eqv (.list ds) (.list []) = ds.isEmpty := by
  cases ds <;> simp [PyData.eqv, PyData.eqvAll]
section
variable {P : Program} {w : World} {K : PySem.W.Frag} {mg : Str → Option Value} {base : Heap} {CC C fI CT fT : Addr} {cl : Clss}
theorem Sit.neAt {dr at_ : Addr} {H0 H : Hp} {ps : List Own} {qs : List (V × PyData)} (S : Sit K dr at_ H0 ps qs H) {r : Addr} (n : H r = none) : r ≠ at_ := fun z => by
  obtain ⟨p, hp⟩ := S.dw.atL
  rw [z, hp] at n
  cases n
theorem Sit.have {dr at_ : Addr} {H0 H : Hp} {qs : List (V × PyData)} (h : Sit K dr at_ H0 [] qs H) {a : Addr} {xs : List V} {ds : List PyData} (e : H a = some (.lst xs)) (k : DpAll K H xs ds) (l : noLs ds = true) (n : H0 a = none) : Sit K dr at_ H0 [(a, xs, ds)] qs H :=
  ⟨h.d0, h.dw, h.bt, by simp, fun p m => by
    obtain rfl := List.mem_singleton.mp m
    exact ⟨e, k, l, n⟩, h.da⟩
def spEvt (K : PySem.W.Frag) : Sp := hid fun vs H Q _ => ∃ (nt dr at_ : Addr) (N : Net), vs = [.ref nt, .ref dr, .ref at_] ∧ Drw dr at_ H ∧ Dp K H (.ref nt) (netD N) ∧ Right N ∧ N.fl ≠ [] ∧ ∀ v e H', But at_ H H' → Drw dr at_ H' → Dp K H' v (evD e) → EvOk N e → Q v H'
theorem ok_evt {f : Addr} {fd : FuncData} (F : Fun K "_law_event" "_law_event" s_law_event f fd) (c__law_take : Cg P w K mg base CX0 2 "_law_take" (spTake K)) (c__law_one : Cg P w K mg base CX0 3 "_law_one" (spOne K)) :
    FnG P w K mg base CX0 4 f fd ["net", "draws", "at"] (spEvt K) := by
  refine okG F sc_law_event (fun vs H Q E h => ?_) (fun cdv A outer s H vs Q E hG hr h => ?_)
  · obtain ⟨nt, dr, at_, N, rfl, _⟩ := h
    rfl
  · obtain ⟨nt, dr, at_, N, rfl, hD, hN, R, hne, q⟩ := h
    refine ⟨_, (pss_cons (ps_set (i := 3) sc_law_event.nd rfl (.inr rfl) (pe_cg c__law_one hr (by decide) hG (by rfl) (pa_cons (pe_ix (r := rIxT K) ix_tup (pv 0) pe_int (fun _ _ => rfl)) (pa_cons (pv 1) (pa_cons (pv 2) pa_nil)))))
    (pss_cons (ps_set (i := 4) sc_law_event.nd rfl (.inl rfl) (pe_cg c__law_take hr (by decide) hG (by rfl) (pa_cons (pv 1) (pa_cons (pv 2) (pa_cons pe_int pa_nil)))))
    (pss_cons (ps_if (pt_cmpR op_lt (pv 4) pe_int (nomark _))
    (pss_one (ps_ret (pe_tup (pa_cons pe_str (pa_cons (pe_ix (r := rIxT K) ix_tup (pv 3) pe_int (fun _ _ => rfl)) pa_nil)))))
    pss_nil)
    (pss_cons (ps_if (pt_cmpR op_lt (pv 4) pe_int (nomark _))
    (pss_one (ps_ret (pe_tup (pa_cons pe_str (pa_cons (pe_ix (r := rIxT K) ix_tup (pv 3) pe_int (fun _ _ => rfl)) (pa_cons (pe_cg c__law_one hr (by decide) hG (by rfl) (pa_cons (pe_lst (pa_cons pe_int (pa_cons pe_int (pa_cons pe_int (pa_cons pe_int (pa_cons pe_int (pa_cons pe_int (pa_cons pe_int pa_nil)))))))) (pa_cons (pv 1) (pa_cons (pv 2) pa_nil)))) pa_nil))))))
    pss_nil)
    (pss_cons (ps_set (i := 5) sc_law_event.nd rfl (.inr rfl) (pe_ix (r := rIxL K) ix_list (pe_lc (own := [("row", 6)]) rfl sc_law_event.nd (pi_tup (pe_ix (r := rIxT K) ix_tup (pv 0) pe_int (fun _ _ => rfl))) (blkOk_by (own := [("row", 6)]) (N := N_law_event) (sc := defScope s_law_event) (by decide +kernel)) (fun _ _ _ _ _ => (pg_name (i := 6) sc_law_event.nd rfl (.inl rfl))) (fun _ _ _ _ _ => (pts_one (pt_cmpR op_eq (pe_ix (r := rIxT K) ix_tup (pv 6) pe_int (fun _ _ => rfl)) (pe_ix (r := rIxT K) ix_tup (pv 3) pe_int (fun _ _ => rfl)) (nomark _)))) (fun _ _ _ _ _ => (pe_ix (r := rIxT K) ix_tup (pv 6) pe_int (fun _ _ => rfl)))) pe_int (fun _ _ => rfl)))
    (pss_cons (ps_setLc (i := 7) (own := [("row", 6)]) rfl sc_law_event.nd rfl rfl (sw_true rfl rfl rfl (by decide +kernel)) (pi_tup (pe_ix (r := rIxT K) ix_tup (pv 0) pe_int (fun _ _ => rfl))) (blkOk_by (own := [("row", 6)]) (N := N_law_event) (sc := defScope s_law_event) (by decide +kernel)) (fun _ _ _ _ _ => (pg_name (i := 6) sc_law_event.nd rfl (.inl rfl))) (fun _ _ _ _ _ => (pts_one (pt_cmpR op_lt (pe_ix (r := rIxT K) ix_tup (pv 6) pe_int (fun _ _ => rfl)) (pv 5) (nomark _)))) (fun _ _ _ _ _ => (pe_ix (r := rIxT K) ix_tup (pv 6) pe_int (fun _ _ => rfl))))
    (pss_one (ps_ret (pe_ifExp (pt_cmpR (r := rNeD K) (op_neD hr.units) (pv 7) (pe_lst pa_nil) (nomark _)) (pe_tup (pa_cons pe_str (pa_cons (pe_ix (r := rIxT K) ix_tup (pv 3) pe_int (fun _ _ => rfl)) (pa_cons (pe_cg c__law_one hr (by decide) hG (by rfl) (pa_cons (pv 7) (pa_cons (pv 1) (pa_cons (pv 2) pa_nil)))) pa_nil)))) (pe_tup (pa_cons pe_str (pa_cons (pe_ix (r := rIxT K) ix_tup (pv 3) pe_int (fun _ _ => rfl)) (pa_cons pe_int pa_nil))))))))))))), ?_⟩
    obtain ⟨sT, tT, cT, fT, lT, rT, hnet, hst, hty, _, hfl, _, _⟩ := net_at hN
    have nlF : noL (.tuple (N.fl.map flD)) = true := by simpa only [noL] using noLs_map noL_fl N.fl
    have nlT : noL (.tuple (N.ty.map trD)) = true := by simpa only [noL] using noLs_map noL_tr N.ty
    have S := (((Sit.start (K := K) hD).data hfl nlF).data hty nlT).data hN (noL_net N)
    have pos : 0 < (N.fl.map flD).length := by rw [List.length_map]; exact List.length_pos_iff.mpr hne
    refine ⟨_, rfl, nt, _, 3, _, rfl, rfl, hnet, rfl, .ref dr, rfl, .ref at_, rfl, S.oneT (ds := N.fl.map flD) (List.mem_of_getElem? (i := 2) rfl) pos fun x d H1 hd hx nl S1 => ?_⟩
    obtain ⟨fl, hfm, rfl⟩ := List.mem_map.mp hd
    have fm := fname_mem hfm
    obtain ⟨ft, lt, rfl, _, _⟩ := fl_at hx
    have S1 := S1.data hx nl
    refine ⟨_, rfl, _, rfl, S1.take (m := 6) (by decide) fun c H2 c0 c6 S2 => ?_⟩
    obtain ⟨ft', lt', e2, hft2, _⟩ := fl_at (S2.da _ List.mem_cons_self).1
    obtain rfl : ft = ft' := by injection e2
    refine ⟨_, rfl, _, _, rfl, rfl, _, rfl, ?_⟩
    by_cases h2 : c < 2
    · rw [decide_eq_true h2]
      refine iteT ⟨_, rfl, ft, _, 0, _, rfl, rfl, hft2, rfl, by show 2 ≤ sizeLine; decide, fun p np => ?_⟩
      have S3 := S2.new (o := .tup [.str "cancel", .str fl.name]) np
      exact q (.ref p) (.cancel fl.name) _ S3.bt S3.dw (.tup (SqT.of upd_same) (.cons (.str _) (.cons (.str _) .nil))) (mk_cancel fm)
    rw [decide_eq_false h2]
    refine iteF ⟨_, rfl, _, _, rfl, rfl, _, rfl, ?_⟩
    by_cases h5 : c < 5
    · rw [decide_eq_true h5]
      refine iteT ⟨_, rfl, ft, _, 0, _, rfl, rfl, hft2, rfl, by show 7 ≤ sizeLine; decide, fun r nr => ?_⟩
      refine ⟨_, rfl, _, rfl, S2.oneI (xs := [1, 20, 45, 100, 200, 600, 1440]) nr (by decide) fun i hi H3 S3 => ⟨by show 3 ≤ sizeLine; decide, fun p np => ?_⟩⟩
      have S4 := S3.new (o := .tup [.str "late", .str fl.name, .int i]) np
      have ib : 1 ≤ i ∧ i ≤ 1440 := by
        simp only [List.mem_cons, List.not_mem_nil, or_false] at hi
        omega
      exact q (.ref p) (.late fl.name i) _ S4.bt S4.dw (.tup (SqT.of upd_same) (.cons (.str _) (.cons (.str _) (.cons (.int _) .nil)))) (mk_late fm ib.1 ib.2)
    rw [decide_eq_false h5]
    refine iteF ?_
    -- seats
    obtain ⟨sT', tT', cT', fT', lT', rT', hnet2, hst2, hty2, _, hfl2, _, _⟩ := net_at (S2.da _ (List.mem_of_getElem? (i := 1) rfl)).1
    obtain ⟨us, hus, hu⟩ := tup_at hty2
    have lu : us.length = N.ty.length := by rw [DpAll.len hu, List.length_map]
    have t3 := R.ty.l1
    refine ⟨_, rfl, nt, _, 1, _, rfl, rfl, hnet2, rfl, tT', rfl, ⟨_, hus⟩, fun D nD => lc_it (walk_tup (K := K) (a := tT') (xs := us)) (fun i H' => Same H2 H' ∧ H' D = some (.lst ((((N.ty.take i).filter fun t => decide (t.1 = fl.kind)).map fun t => t.2.1).map V.int))) ?_ ?_ ?_ ?_⟩
    · exact ⟨Ln.same_upd nD, upd_same⟩
    · rintro i H' _ ⟨sm, _⟩
      exact Same.tup sm hus
    · rintro i y Hy H' hi ⟨sm, hDl⟩ ⟨rfl, hy⟩
      obtain ⟨e, he, hye⟩ := DpAll.get hu hy
      rw [List.getElem?_map] at he
      obtain ⟨t, ht, rfl⟩ := Option.map_eq_some_iff.mp he
      obtain ⟨ta, rfl, hta⟩ := tr_at (Dp.same sm _ _ (noL_tr t) hye)
      refine ⟨rfl, _, rfl, ta, _, 0, _, rfl, rfl, hta, rfl, _, rfl, ft, _, 5, _, rfl, rfl, Same.tup sm hft2, rfl, rfl, _, rfl, ?_⟩
      rw [takeS ht, List.filter_append]
      have ll : ((((N.ty.take i).filter fun t => decide (t.1 = fl.kind)).map fun t => t.2.1).map V.int).length ≤ 3 := by
        rw [List.length_map, List.length_map]
        exact Nat.le_trans (List.length_filter_le _ _) (by rw [List.length_take]; omega)
      by_cases c : t.1 = fl.kind
      · rw [decide_eq_true (by rw [c])]
        refine iteT ⟨_, rfl, ta, _, 1, _, rfl, rfl, hta, rfl, _, hDl, small1 (by omega), same_at sm nD, ?_⟩
        rw [upd_same, filter1, if_pos (decide_eq_true c), List.map_append, List.map_append]
        rfl
      · rw [decide_eq_false (by intro z; injection z with z; exact c z)]
        refine iteF ⟨sm, ?_⟩
        rw [filter1, if_neg (by rw [decide_eq_false c]; decide), List.append_nil]
        exact hDl
    · rintro H3 ⟨sm3, hDl⟩
      rw [lu, List.take_length] at hDl
      obtain ⟨t0, ht0, e0⟩ := List.mem_map.mp (R.kindOf hfm)
      have e0 : t0.1 = fl.kind := e0
      have hd0 : ((N.ty.filter fun t => decide (t.1 = fl.kind)).map fun t => t.2.1)[0]? = some (seatsOf N fl.kind) := by
        have hf : N.ty.find? (fun t => decide (t.1 = fl.kind)) = some t0 := by
          obtain ⟨i, hi⟩ := List.mem_iff_getElem?.mp ht0
          have := find_keyN (R.names (i := 1) (by decide)).1 hi
          rw [e0] at this
          rw [this, ← e0]
        rw [List.getElem?_map, ← List.head?_eq_getElem?, List.head?_filter]
        unfold seatsOf
        rw [hf]
        rfl
      have S3 := S2.same sm3
      refine ⟨D, _, 0, _, rfl, rfl, SqL.of hDl, atI_nat (j := 0) (by rw [List.getElem?_map, hd0]; rfl), ?_⟩
      -- small
      have hus3 := Same.tup sm3 hus
      have hnet3 := Same.tup sm3 hnet2
      refine ⟨_, rfl, nt, _, 1, _, rfl, rfl, hnet3, rfl, tT', rfl, ⟨_, hus3⟩, fun D2 nD2 => lc_it (walk_tup (K := K) (a := tT') (xs := us)) (fun i H' => Same H3 H' ∧ H' D2 = some (.lst ((((N.ty.take i).filter fun t => decide (t.2.1 < seatsOf N fl.kind)).map fun t => t.1).map V.str))) ?_ ?_ ?_ ?_⟩
      · exact ⟨Ln.same_upd nD2, upd_same⟩
      · rintro i H' _ ⟨sm, _⟩
        exact Same.tup sm hus3
      · rintro i y Hy H' hi ⟨sm, hDl2⟩ ⟨rfl, hy⟩
        obtain ⟨e, he, hye⟩ := DpAll.get hu hy
        rw [List.getElem?_map] at he
        obtain ⟨t, ht, rfl⟩ := Option.map_eq_some_iff.mp he
        obtain ⟨ta, rfl, hta⟩ := tr_at (Dp.same (sm3.trans sm) _ _ (noL_tr t) hye)
        refine ⟨rfl, _, rfl, ta, _, 1, _, rfl, rfl, hta, rfl, _, rfl, _, _, rfl, rfl, _, rfl, ?_⟩
        rw [takeS ht, List.filter_append]
        have ll : ((((N.ty.take i).filter fun t => decide (t.2.1 < seatsOf N fl.kind)).map fun t => t.1).map V.str).length ≤ 3 := by
          rw [List.length_map, List.length_map]
          exact Nat.le_trans (List.length_filter_le _ _) (by rw [List.length_take]; omega)
        by_cases c : t.2.1 < seatsOf N fl.kind
        · rw [decide_eq_true c]
          refine iteT ⟨_, rfl, ta, _, 0, _, rfl, rfl, hta, rfl, _, hDl2, small1 (by omega), same_at sm nD2, ?_⟩
          rw [upd_same, filter1, if_pos (decide_eq_true c), List.map_append, List.map_append]
          rfl
        · rw [decide_eq_false c]
          refine iteF ⟨sm, ?_⟩
          rw [filter1, if_neg (by rw [decide_eq_false c]; decide), List.append_nil]
          exact hDl2
      · rintro H4 ⟨sm4, hDl2⟩
        rw [lu, List.take_length] at hDl2
        obtain ⟨sml, esml⟩ : ∃ sml, sml = (N.ty.filter fun t => decide (t.2.1 < seatsOf N fl.kind)).map fun t => t.1 := ⟨_, rfl⟩
        rw [← esml] at hDl2
        have S4 := S3.same sm4
        have hft4 := Same.tup (sm3.trans sm4) hft2
        have smOk : ∀ x ∈ sml, x ∈ tnames N ∧ seatsOf N x < seatsOf N fl.kind := fun x hx => by
          rw [esml] at hx
          obtain ⟨t, ht, rfl⟩ := List.mem_map.mp hx
          obtain ⟨h1, h2⟩ := List.mem_filter.mp ht
          exact ⟨List.mem_map.mpr ⟨t, h1, rfl⟩, by rw [seats_at R h1]; exact of_decide_eq_true h2⟩
        have l3 : sml.length ≤ 3 := by
          rw [esml, List.length_map]
          exact Nat.le_trans (List.length_filter_le _ _) t3
        have smd : Sm (.list (sml.map PyData.str)) 1 126 := (Sm.lst (k := 0) (m := 41) (n := 3) (fun d hd => by
          obtain ⟨x, hx, rfl⟩ := List.mem_map.mp hd
          exact (R.tok (smOk x hx).1).sm) (by rw [List.length_map]; exact l3)).mono (by decide) (by decide)
        refine ⟨_, rfl, by show 0 ≤ sizeLine; decide, fun e0 ne0 => ?_⟩
        have S5 := S4.new (o := .lst []) ne0
        have hD5 : (upd H4 e0 (.lst [])) D2 = some (.lst (sml.map V.str)) := Ln.same_upd ne0 _ _ hDl2
        refine ⟨.list (sml.map PyData.str), .list [], .lst (SqL.of hD5) (dp_strs sml), .lst (SqL.of upd_same) .nil, smd.shaped (by decide), by decide, _, rfl, ?_⟩
        rw [eqv_nilL]
        have hft5 := Same.tup (Ln.same_upd (o := .lst []) ne0) hft4
        by_cases cs : sml = []
        · rw [cs]
          refine iteF ⟨_, rfl, ft, _, 0, _, rfl, rfl, hft5, rfl, by show 3 ≤ sizeLine; decide, fun p np => ?_⟩
          have S6 := S5.new (o := .tup [.str "late", .str fl.name, .int 30]) np
          exact q (.ref p) (.late fl.name 30) _ S6.bt S6.dw (.tup (SqT.of upd_same) (.cons (.str _) (.cons (.str _) (.cons (.int _) .nil)))) (mk_late fm (by decide) (by decide))
        · have ne : (sml.map PyData.str).isEmpty = false := by
            cases sml with
            | nil => exact absurd rfl cs
            | cons a b => rfl
          rw [ne]
          have nD2H : H D2 = none := S3.old nD2
          have S6 := (S5.less (ps' := []) (qs' := []) (List.Sublist.refl _) nofun).have hD5 (dp_strs sml) (noLs_strs sml) nD2H
          refine iteT ⟨_, rfl, ft, _, 0, _, rfl, rfl, hft5, rfl, _, rfl, _, rfl, _, rfl, S6.oneS (ns := sml) List.mem_cons_self (List.length_pos_iff.mpr cs) fun x hx H6 S7 => ⟨by show 3 ≤ sizeLine; decide, fun p np => ?_⟩⟩
          have S8 := S7.new (o := .tup [.str "smaller", .str fl.name, .str x]) np
          refine q (.ref p) (.smaller fl.name x) _ S8.bt S8.dw (.tup (SqT.of upd_same) (.cons (.str _) (.cons (.str _) (.cons (.str _) .nil)))) (mk_small fm (smOk x hx).1 ?_)
          rw [kind_flt R hfm]
          exact (smOk x hx).2
end
end Mine
set_option Elab.async false
set_option linter.all false
set_option maxRecDepth 100000
set_option maxHeartbeats 8000000
namespace Mine
open PySem PySem.Spec PyProof.Rows L2 Ln RZ
section
variable {P : Program} {w : World} {K : PySem.W.Frag} {mg : Str → Option Value} {base : Heap} {CC C fI CT fT : Addr} {cl : Clss}
theorem evtC {H : Hp} {nt dr at_ : Addr} {N : Net} {Q : VK} {E : XK} (hD : Drw dr at_ H) (hN : Dp K H (.ref nt) (netD N)) (R : Right N) (hne : N.fl ≠ []) (q : ∀ v e H', But at_ H H' → Drw dr at_ H' → Dp K H' v (evD e) → EvOk N e → Q v H') :
    spEvt K [.ref nt, .ref dr, .ref at_] H Q E := ⟨nt, dr, at_, N, rfl, hD, hN, R, hne, q⟩
theorem lay_evs {N : Net} (R : Right N) {es : List Ev} (h : ∀ e ∈ es, EvOk N e) : PyData.canLayAll0 (es.map evD) = true := lay_all (k := 1) (m := 126) fun d hd => by
  obtain ⟨e, he, rfl⟩ := List.mem_map.mp hd
  exact sm_ev R (h e he)
def spThreats (K : PySem.W.Frag) : Sp := hid fun vs H Q _ => ∃ (nt dr at_ : Addr) (N : Net) (m : Nat), vs = [.ref nt, .int (m : Int), .ref dr, .ref at_] ∧ m ≤ 12 ∧ Drw dr at_ H ∧ Dp K H (.ref nt) (netD N) ∧ Right N ∧ ∀ t (es : List Ev) H', But at_ H H' → Drw dr at_ H' → Dp K H' (.ref t) (.tuple (es.map evD)) → es.length ≤ 12 → es.Nodup → (∀ e ∈ es, EvOk N e) → Q (.ref t) H'
theorem ok_threats {f : Addr} {fd : FuncData} (F : Fun K "_law_threats" "_law_threats" s_law_threats f fd) (T : EvsTxt mg) (c__law_take : Cg P w K mg base CX0 2 "_law_take" (spTake K)) (c__law_event : Cg P w K mg base CX0 4 "_law_event" (spEvt K)) :
    FnG P w K mg base CX0 5 f fd ["net", "most", "draws", "at"] (spThreats K) := by
  refine okG F sc_law_threats (fun vs H Q E h => ?_) (fun cdv A outer s H vs Q E hG hr h => ?_)
  · obtain ⟨nt, dr, at_, N, m, rfl, _⟩ := h
    rfl
  · obtain ⟨nt, dr, at_, N, m, rfl, hm, hD, hN, R, q⟩ := h
    refine ⟨_, (pss_cons (ps_set (i := 4) sc_law_threats.nd rfl (.inl rfl) (pe_lst pa_nil))
    (pss_cons (ps_if (pt_cmpR (r := rNeD K) (op_neD hr.units) (pe_ix (r := rIxT K) ix_tup (pv 0) pe_int (fun _ _ => rfl)) (pe_tup pa_nil) (nomark _))
    (pss_one (ps_for PassesOwn.never rfl (pi_range1 (by rfl) T.z_range (pa_cons (pe_cg c__law_take hr (by decide) hG (by rfl) (pa_cons (pv 2) (pa_cons (pv 3) (pa_cons (pe_op op_add (pv 1) pe_int) pa_nil)))) pa_nil)) (pg_name (i := 5) sc_law_threats.nd rfl (.inl rfl))
    (pss_cons (ps_set (i := 6) sc_law_threats.nd rfl (.inl rfl) (pe_cg c__law_event hr (by decide) hG (by rfl) (pa_cons (pv 0) (pa_cons (pv 2) (pa_cons (pv 3) pa_nil)))))
    (pss_one (ps_if (pt_cmpR (r := rInDT K true) (op_notInDT (Room.un65 hr)) (pv 6) (pv 4) (by rfl))
    (pss_one (ps_expr (pe_bm PySem.F.plainAttrs_list PySem.F.slot_list_append PySem.F.type_list_append mt_append (pv 4) (pa_cons (pv 6) pa_nil))))
    pss_nil)))))
    pss_nil)
    (pss_one (ps_ret (pe_callTy (r := Ln.rTupOf K) (T := "tuple") c_tuple (by rfl) T.z_tuple (by decide +kernel) (pa_cons (pv 4) pa_nil)))))), ?_⟩
    refine ⟨by show 0 ≤ sizeLine; decide, fun Fd nF => ?_⟩
    have S0 := ((Sit.start (K := K) hD).data hN (noL_net N)).push (xs := []) (ds := []) nF .nil rfl
    obtain ⟨sT, tT, cT, fT', lT, rT, hnet, _, _, _, hfl, _, _⟩ := net_at (S0.da _ List.mem_cons_self).1
    refine ⟨_, rfl, nt, _, 3, _, rfl, rfl, hnet, rfl, by show 0 ≤ sizeLine; decide, fun t0 nt0 => ?_⟩
    have s0 := Ln.same_upd (o := .tup []) nt0
    have S1 := S0.new (o := .tup []) nt0
    refine ⟨.tuple (N.fl.map flD), .tuple [], Dp.same s0 _ _ (by simpa only [noL] using noLs_map noL_fl N.fl) hfl, .tup (SqT.of upd_same) .nil, (sm_fls R).shaped (by decide), by decide, _, rfl, ?_⟩
    rw [eqv_nil]
    have fin : ∀ {es : List Ev} {vs : List V} {H' : Hp} {v5 v6 : Option V}, Sit K dr at_ H [(Fd, vs, es.map evD)] [(V.ref nt, netD N)] H' → es.length ≤ 12 → es.Nodup → (∀ e ∈ es, EvOk N e) →
        tRet (tCB (Ln.rTupOf K) (tCons (tVar 4) tNil)) { nx := fun _ H' => Q .non H', rt := Q } [some (.ref nt), some (.int (m : Int)), some (.ref dr), some (.ref at_), some (.ref Fd), v5, v6] H' := fun {es vs H' v5 v6} S l nd ok => by
      obtain ⟨hF, hv, nl, _⟩ := S.li _ List.mem_cons_self
      refine ⟨.ref Fd, rfl, Fd, vs, rfl, .inl ⟨SqL.of hF, fun t nt' => ?_⟩⟩
      have S' := S.tupN nt' hv nl
      exact q t es _ S'.bt S'.dw (S'.da _ List.mem_cons_self).1 l nd ok
    by_cases hne : N.fl = []
    · rw [hne]
      refine iteF (fin (es := []) S1 (Nat.zero_le _) List.nodup_nil nofun)
    · have ne : (N.fl.map flD).isEmpty = false := by
        cases h : N.fl with
        | nil => exact absurd h hne
        | cons a b => rfl
      rw [ne]
      refine iteT ⟨_, rfl, _, rfl, _, rfl, _, _, rfl, rfl, S1.take (m := (m : Int) + 1) (by omega) fun c H2 c0 c1 S2 => ?_⟩
      obtain ⟨n, rfl⟩ : ∃ n : Nat, c = n := ⟨c.toNat, by omega⟩
      refine ⟨(n : Int), rfl, by omega, by omega, ?_⟩
      rw [show ((n : Int)).toNat = n by omega]
      refine for_range (lo := 0) (n := n) (fun k σ H' => ∃ (es : List Ev) (vs : List V) (v5 v6 : Option V), σ = [some (.ref nt), some (.int (m : Int)), some (.ref dr), some (.ref at_), some (.ref Fd), v5, v6] ∧ Sit K dr at_ H [(Fd, vs, es.map evD)] [(V.ref nt, netD N)] H' ∧ es.length ≤ k ∧ es.Nodup ∧ ∀ e ∈ es, EvOk N e) ?_ ?_ ?_
      · exact ⟨[], [], _, _, rfl, S2, Nat.le_refl _, List.nodup_nil, nofun⟩
      · rintro k σ H3 hk ⟨es, vs, v5, v6, rfl, S3, lk, nd, ok⟩
        refine ⟨_, rfl, _, rfl, _, rfl, evtC S3.dw (S3.da _ List.mem_cons_self).1 R hne fun v e H4 hB4 hD4 he eok => ?_⟩
        have S4 := S3.but hB4 hD4
        obtain ⟨hF, hv, nl, _⟩ := S4.li _ List.mem_cons_self
        refine ⟨_, rfl, _, rfl, evD e, es.map evD, he, .inl (.lst (SqL.of hF) hv), (sm_ev R eok).shaped (by decide), lay_evs R ok, _, rfl, ?_⟩
        rw [any_ev]
        by_cases me : e ∈ es
        · rw [decide_eq_true me]
          exact iteF ⟨es, vs, _, _, rfl, S4, by omega, nd, ok⟩
        · rw [decide_eq_false me]
          have lv : vs.length = es.length := by rw [DpAll.len hv, List.length_map]
          refine iteT ⟨.ref Fd, rfl, .inl ⟨rfl, _, SqL.of hF⟩, _, rfl, Fd, vs, v, rfl, rfl, hF, small1 (by omega), es ++ [e], vs ++ [v], _, _, rfl, ?_, by rw [List.length_append]; show es.length + 1 ≤ _; omega, ?_, ?_⟩
          · have := S4.app (pre := []) he (noL_ev e)
            rw [List.map_append]
            exact this
          · exact List.nodup_append.mpr ⟨nd, by simp, fun a ha b hb z => by
              rw [List.mem_singleton.mp hb] at z
              exact me (z ▸ ha)⟩
          · intro x hx
            rcases List.mem_append.mp hx with hx | hx
            · exact ok x hx
            · rw [List.mem_singleton.mp hx]; exact eok
      · rintro σ H3 ⟨es, vs, v5, v6, rfl, S3, lk, nd, ok⟩
        exact fin S3 (by omega) nd ok
end
end Mine
set_option Elab.async false
set_option linter.all false
set_option maxRecDepth 100000
set_option maxHeartbeats 8000000
namespace Mine
open PySem PySem.Spec PyProof.Rows L2 Ln RZ
abbrev s_law_row : Stmt := topS 88
abbrev N_law_row : List Str := ["net", "name", "row"]
theorem sc_law_row : FnScope N_law_row ["net", "name"] (defScope s_law_row) := ⟨rfl, rfl, rfl, by decide +kernel, rfl, by decide +kernel, by decide +kernel⟩
-- slots: 0 net, 1 name*, 2 row
abbrev s_law_kind : Stmt := topS 89
abbrev N_law_kind : List Str := ["net", "name", "row"]
theorem sc_law_kind : FnScope N_law_kind ["net", "name"] (defScope s_law_kind) := ⟨rfl, rfl, rfl, by decide +kernel, rfl, by decide +kernel, by decide +kernel⟩
-- slots: 0 net, 1 name*, 2 row
abbrev s_law_told : Stmt := topS 93
abbrev N_law_told : List Str := ["net", "course", "e"]
theorem sc_law_told : FnScope N_law_told ["net", "course"] (defScope s_law_told) := ⟨rfl, rfl, rfl, by decide +kernel, rfl, by decide +kernel, by decide +kernel⟩
-- slots: 0 net, 1 course, 2 e
abbrev s_law_course : Stmt := topS 87
abbrev N_law_course : List Str := ["net", "draws", "at", "found", "event", "one"]
theorem sc_law_course : FnScope N_law_course ["net", "draws", "at"] (defScope s_law_course) := ⟨rfl, rfl, rfl, by decide +kernel, rfl, by decide +kernel, by decide +kernel⟩
-- slots: 0 net, 1 draws, 2 at, 3 found, 4 event, 5 one
structure LrTxt (mg : Str → Option Value) : Prop where
  z_len : mg "len" = none
  z_tuple : mg "tuple" = none
structure TldTxt (K : PySem.W.Frag) (mg : Str → Option Value) (C fI BE : Addr) : Prop extends ArgErr K mg C fI where
  xc_ArgumentError : ExcC K C
  e_ArgumentError : PySem.W.exmOne K (.ref C) (.ref C) = some true
section
variable {P : Program} {w : World} {K : PySem.W.Frag} {mg : Str → Option Value} {base : Heap} {CC C fI CT fT BE : Addr} {cl : Clss}
def spRow (K : PySem.W.Frag) : Sp := hid fun vs H Q _ => ∃ (nt : Addr) (N : Net) (f : Flt), vs = [V.ref nt, .str f.name] ∧ Dp K H (.ref nt) (netD N) ∧ Right N ∧ f ∈ N.fl ∧ ∀ H' v, Same H H' → Dp K H' v (flD f) → Q v H'
theorem filter_nm {l : List Flt} (nd : (l.map Flt.name).Nodup) {f : Flt} (h : f ∈ l) : l.filter (fun g => decide (g.name = f.name)) = [f] := by
  induction l with
  | nil => cases h
  | cons a l ih =>
    rw [List.map_cons, List.nodup_cons] at nd
    rw [List.filter_cons]
    rcases List.mem_cons.mp h with e | m
    · subst e
      rw [if_pos (decide_eq_true rfl), List.filter_eq_nil_iff.mpr fun g hg z => nd.1 (by rw [← of_decide_eq_true z]; exact List.mem_map_of_mem hg)]
    · have ne : ¬ a.name = f.name := fun e => nd.1 (by rw [e]; exact List.mem_map_of_mem m)
      rw [decide_eq_false ne, if_neg Bool.false_ne_true]
      exact ih nd.2 m
theorem filter_ty {l : List Tri} (nd : (l.map (·.1)).Nodup) {f : Tri} (h : f ∈ l) : l.filter (fun g => decide (g.1 = f.1)) = [f] := by
  induction l with
  | nil => cases h
  | cons a l ih =>
    rw [List.map_cons, List.nodup_cons] at nd
    rw [List.filter_cons]
    rcases List.mem_cons.mp h with e | m
    · subst e
      rw [if_pos (decide_eq_true rfl), List.filter_eq_nil_iff.mpr fun g hg z => nd.1 (by rw [← of_decide_eq_true z]; exact List.mem_map_of_mem hg)]
    · have ne : ¬ a.1 = f.1 := fun e => nd.1 (by rw [e]; exact List.mem_map_of_mem m)
      rw [decide_eq_false ne, if_neg Bool.false_ne_true]
      exact ih nd.2 m
theorem ok_row {f : Addr} {fd : FuncData} (F : Fun K "_law_row" "_law_row" s_law_row f fd) : FnG P w K mg base CX0 1 f fd ["net", "name"] (spRow K) := by
  refine okG F sc_law_row (fun vs H Q E h => ?_) (fun cdv A outer s H vs Q E hG hr h => ?_)
  · obtain ⟨nt, N, g, rfl, _⟩ := h
    rfl
  · obtain ⟨nt, N, g, rfl, hN, R, hg, q⟩ := h
    refine ⟨_, (pss_one (ps_ret (pe_ix (r := rIxL K) ix_list (pe_lc (own := [("row", 2)]) rfl sc_law_row.nd (pi_tup (pe_ix (r := rIxT K) ix_tup (pv 0) pe_int (fun _ _ => rfl))) (blkOk_by (own := [("row", 2)]) (N := N_law_row) (sc := defScope s_law_row) (by decide +kernel)) (fun _ _ _ _ _ => (pg_name (i := 2) sc_law_row.nd rfl (.inl rfl))) (fun _ _ _ _ _ => (pts_one (pt_cmpR op_eq (pe_ix (r := rIxT K) ix_tup (pv 2) pe_int (fun _ _ => rfl)) (pv 1) (nomark _)))) (fun _ _ _ _ _ => (pv 2))) pe_int (fun _ _ => rfl)))), ?_⟩
    obtain ⟨sT, tT, cT, fT, lT, rT, hnet, hst, hty, _, hfl, _, _⟩ := net_at hN
    obtain ⟨us, hus, hu⟩ := tup_at hfl
    have lu : us.length = N.fl.length := by rw [DpAll.len hu, List.length_map]
    have l25 := R.fl25
    refine ⟨_, rfl, nt, _, 3, _, rfl, rfl, hnet, rfl, fT, rfl, ⟨_, hus⟩, fun D nD => lc_it (walk_tup (K := K) (a := fT) (xs := us)) (fun i H' => Same H H' ∧ ∃ ws, H' D = some (.lst ws) ∧ DpAll K H' ws (((N.fl.take i).filter fun f => decide (f.name = g.name)).map flD)) ?_ ?_ ?_ ?_⟩
    · exact ⟨Ln.same_upd nD, [], upd_same, .nil⟩
    · rintro i H' _ ⟨sm, _⟩
      exact Same.tup sm hus
    · rintro i y Hy H' hi ⟨sm, ws, hDl, hw⟩ ⟨rfl, hy⟩
      obtain ⟨e, he, hye⟩ := DpAll.get hu hy
      rw [List.getElem?_map] at he
      obtain ⟨t, ht, rfl⟩ := Option.map_eq_some_iff.mp he
      have hye' := Dp.same sm _ _ (noL_fl t) hye
      obtain ⟨ft, lt, rfl, hft, _⟩ := fl_at hye'
      refine ⟨rfl, _, rfl, ft, _, 0, _, rfl, rfl, hft, rfl, _, rfl, rfl, _, rfl, ?_⟩
      rw [takeS ht, List.filter_append, filter1]
      by_cases c : t.name = g.name
      · rw [decide_eq_true (congrArg V.str c)]
        have lw := DpAll.len hw
        have lf : ((N.fl.take i).filter fun f => decide (f.name = g.name)).length ≤ 25 := Nat.le_trans (List.length_filter_le _ _) (by rw [List.length_take]; omega)
        rw [List.length_map] at lw
        have bl := But.upd D H' (.lst (ws ++ [.ref ft]))
        have tl := TpF.but bl hDl
        refine iteT ⟨_, rfl, ws, hDl, small1 (by omega), same_at sm nD, _, upd_same, ?_⟩
        rw [if_pos (decide_eq_true c), List.map_append]
        exact DpAll.app (Dp.tpfAll tl _ _ (noLs_map noL_fl _) hw) (Dp.tpf tl _ _ (noL_fl t) hye')
      · rw [decide_eq_false (show ¬ V.str t.name = V.str g.name from fun z => c (by injection z)), if_neg (show ¬ decide (t.name = g.name) = true from fun z => c (of_decide_eq_true z)), List.append_nil]
        exact iteF ⟨sm, ws, hDl, hw⟩
    · rintro H' ⟨sm, ws, hDl, hw⟩
      rw [lu, List.take_length, filter_nm R.flNodup hg] at hw
      cases hw with
      | @cons x xs d ds h1 h2 =>
        cases h2
        exact ⟨D, _, 0, _, rfl, rfl, SqL.of hDl, atI_nat (j := 0) rfl, q H' _ sm h1⟩
def spKnd (K : PySem.W.Frag) : Sp := hid fun vs H Q _ => ∃ (nt : Addr) (N : Net) (f : Tri), vs = [V.ref nt, .str f.1] ∧ Dp K H (.ref nt) (netD N) ∧ Right N ∧ f ∈ N.ty ∧ ∀ H' v, Same H H' → Dp K H' v (trD f) → Q v H'
theorem ok_knd {f : Addr} {fd : FuncData} (F : Fun K "_law_kind" "_law_kind" s_law_kind f fd) : FnG P w K mg base CX0 1 f fd ["net", "name"] (spKnd K) := by
  refine okG F sc_law_kind (fun vs H Q E h => ?_) (fun cdv A outer s H vs Q E hG hr h => ?_)
  · obtain ⟨nt, N, g, rfl, _⟩ := h
    rfl
  · obtain ⟨nt, N, g, rfl, hN, R, hg, q⟩ := h
    refine ⟨_, (pss_one (ps_ret (pe_ix (r := rIxL K) ix_list (pe_lc (own := [("row", 2)]) rfl sc_law_kind.nd (pi_tup (pe_ix (r := rIxT K) ix_tup (pv 0) pe_int (fun _ _ => rfl))) (blkOk_by (own := [("row", 2)]) (N := N_law_kind) (sc := defScope s_law_kind) (by decide +kernel)) (fun _ _ _ _ _ => (pg_name (i := 2) sc_law_kind.nd rfl (.inl rfl))) (fun _ _ _ _ _ => (pts_one (pt_cmpR op_eq (pe_ix (r := rIxT K) ix_tup (pv 2) pe_int (fun _ _ => rfl)) (pv 1) (nomark _)))) (fun _ _ _ _ _ => (pv 2))) pe_int (fun _ _ => rfl)))), ?_⟩
    obtain ⟨sT, tT, cT, fT, lT, rT, hnet, hst, hty, _, hfl, _, _⟩ := net_at hN
    obtain ⟨us, hus, hu⟩ := tup_at hty
    have lu : us.length = N.ty.length := by rw [DpAll.len hu, List.length_map]
    have l25 := R.ty.l1
    refine ⟨_, rfl, nt, _, 1, _, rfl, rfl, hnet, rfl, tT, rfl, ⟨_, hus⟩, fun D nD => lc_it (walk_tup (K := K) (a := tT) (xs := us)) (fun i H' => Same H H' ∧ ∃ ws, H' D = some (.lst ws) ∧ DpAll K H' ws (((N.ty.take i).filter fun f => decide (f.1 = g.1)).map trD)) ?_ ?_ ?_ ?_⟩
    · exact ⟨Ln.same_upd nD, [], upd_same, .nil⟩
    · rintro i H' _ ⟨sm, _⟩
      exact Same.tup sm hus
    · rintro i y Hy H' hi ⟨sm, ws, hDl, hw⟩ ⟨rfl, hy⟩
      obtain ⟨e, he, hye⟩ := DpAll.get hu hy
      rw [List.getElem?_map] at he
      obtain ⟨t, ht, rfl⟩ := Option.map_eq_some_iff.mp he
      have hye' := Dp.same sm _ _ (noL_tr t) hye
      obtain ⟨ft, rfl, hft⟩ := tr_at hye'
      refine ⟨rfl, _, rfl, ft, _, 0, _, rfl, rfl, hft, rfl, _, rfl, rfl, _, rfl, ?_⟩
      rw [takeS ht, List.filter_append, filter1]
      by_cases c : t.1 = g.1
      · rw [decide_eq_true (congrArg V.str c)]
        have lw := DpAll.len hw
        have lf : ((N.ty.take i).filter fun f => decide (f.1 = g.1)).length ≤ 3 := Nat.le_trans (List.length_filter_le _ _) (by rw [List.length_take]; omega)
        rw [List.length_map] at lw
        have bl := But.upd D H' (.lst (ws ++ [.ref ft]))
        have tl := TpF.but bl hDl
        refine iteT ⟨_, rfl, ws, hDl, small1 (by omega), same_at sm nD, _, upd_same, ?_⟩
        rw [if_pos (decide_eq_true c), List.map_append]
        exact DpAll.app (Dp.tpfAll tl _ _ (noLs_map noL_tr _) hw) (Dp.tpf tl _ _ (noL_tr t) hye')
      · rw [decide_eq_false (show ¬ V.str t.1 = V.str g.1 from fun z => c (by injection z)), if_neg (show ¬ decide (t.1 = g.1) = true from fun z => c (of_decide_eq_true z)), List.append_nil]
        exact iteF ⟨sm, ws, hDl, hw⟩
    · rintro H' ⟨sm, ws, hDl, hw⟩
      rw [lu, List.take_length, filter_ty R.tyNodup hg] at hw
      cases hw with
      | @cons x xs d ds h1 h2 =>
        cases h2
        exact ⟨D, _, 0, _, rfl, rfl, SqL.of hDl, atI_nat (j := 0) rfl, q H' _ sm h1⟩
def spTold (K : PySem.W.Frag) : Sp := hid fun vs H Q _ => ∃ (a : Addr) (N : Net) (v : V) (e : PyData), vs = [V.ref a, v] ∧ Dp K H (.ref a) (netD N) ∧ Right N ∧ Dp K H v e ∧ noL e = true ∧ (∀ r ∈ rowsD e, Heads r) ∧
  (crsB N e = false → ∀ H', Same H H' → Q (.str "course") H') ∧ ∀ c, crsB N e = true → e = .tuple (c.map evD) → ∀ (H' : Hp) (t : Addr), Same H H' → Dp K H' (.ref t) (.tuple (actD N c)) → Q (V.ref t) H'
theorem ok_told {f : Addr} {fd : FuncData} (F : Fun K "_law_told" "_law_told" s_law_told f fd) (T : TldTxt K mg C fI BE) (c_actual : Cg P w K mg base (L2.CX P w) 9 "actual" (spActual K C)) : FnG P w K mg base CX0 10 f fd ["net", "course"] (spTold K) := by
  refine okG F sc_law_told (fun vs H Q E h => ?_) (fun cdv A outer s H vs Q E hG hr h => ?_)
  · obtain ⟨a, N, v, e, rfl, _⟩ := h
    rfl
  · obtain ⟨a, N, v, e, rfl, hN, R, hd, nl, hh, qt, q⟩ := h
    refine ⟨_, (pss_one (ps_try_as (i := 2) (Wout := fun _ _ _ _ => False) rfl rfl sc_law_told.nd rfl rfl ⟨rfl, by decide, .inl T.m_ArgumentError⟩ takes0 (fun W pn xe tk _ => (pss_one (ps_ret (pe_cgS c_actual hr (by decide) hG (fun σ => passAt tk σ) (by rfl) (pa_cons (pv 0) (pa_cons (pv 1) pa_nil))))))
    (fun a oe cls d pn hz hf => (pss_one (ps_ret (pe_xf T.x_ArgumentError T.n_ArgumentError_reason hz hf (pv 2))))))), ?_⟩
    refine ⟨_, rfl, v, rfl, a, N, v, e, rfl, hN, R, hd, nl, hh, fun z d' H' sm nd hd' => ?_, fun c eb ee H' t sm ht => q c eb ee H' t sm ht⟩
    refine ⟨true, T.e_ArgumentError, fun _ b nb => ?_, fun z => nomatch z⟩
    exact ⟨.ref b, rfl, rfl, rfl, d', _, V.str "course", rfl, hd', by simp [List.lookup], qt z H' sm⟩
end
end Mine
set_option Elab.async false
set_option linter.all false
set_option maxRecDepth 100000
set_option maxHeartbeats 8000000
namespace Mine
open PySem PySem.Spec PyProof.Rows L2 Ln RZ
section
variable {P : Program} {w : World} {K : PySem.W.Frag} {mg : Str → Option Value} {base : Heap} {CC C fI CT fT BE : Addr} {cl : Clss}
def spCrs (K : PySem.W.Frag) : Sp := hid fun vs H Q _ => ∃ (nt dr at_ : Addr) (N : Net), vs = [V.ref nt, .ref dr, .ref at_] ∧ Drw dr at_ H ∧ Dp K H (.ref nt) (netD N) ∧ Right N ∧ ∀ t (es : List Ev) H', But at_ H H' → Drw dr at_ H' → Dp K H' (.ref t) (.tuple (es.map evD)) → es.length ≤ 3 → (es.map Ev.flt).Nodup → (∀ e ∈ es, EvOk N e) → Q (V.ref t) H'
theorem ok_crs {f : Addr} {fd : FuncData} (F : Fun K "_law_course" "_law_course" s_law_course f fd) (T : LrTxt mg) (c__law_threats : Cg P w K mg base CX0 5 "_law_threats" (spThreats K)) :
    FnG P w K mg base CX0 6 f fd ["net", "draws", "at"] (spCrs K) := by
  refine okG F sc_law_course (fun vs H Q E h => ?_) (fun cdv A outer s H vs Q E hG hr h => ?_)
  · obtain ⟨nt, dr, at_, N, rfl, _⟩ := h
    rfl
  · obtain ⟨nt, dr, at_, N, rfl, hD, hN, R, q⟩ := h
    refine ⟨_, (pss_cons (ps_set (i := 3) sc_law_course.nd rfl (.inl rfl) (pe_lst pa_nil))
    (pss_cons (ps_for PassesOwn.never rfl (pi_tup (pe_cg c__law_threats hr (by decide) hG (by rfl) (pa_cons (pv 0) (pa_cons pe_int (pa_cons (pv 1) (pa_cons (pv 2) pa_nil)))))) (pg_name (i := 4) sc_law_course.nd rfl (.inl rfl))
    (pss_one (ps_if (PW.pt (pw_and (pt_cmpR op_lt (pe_callB (r := Ln.rLen K) (id := "len") c_len (by rfl) T.z_len (by decide +kernel) (pa_cons (pv 3) pa_nil)) pe_int (nomark _)) (pw_and1 (pt_cmpR (r := rIn K true) op_notIn_seq (pe_ix (r := rIxT K) ix_tup (pv 4) pe_int (fun _ _ => rfl)) (pe_lc (own := [("one", 5)]) rfl sc_law_course.nd (pi_list (pv 3)) (blkOk_by (own := [("one", 5)]) (N := N_law_course) (sc := defScope s_law_course) (by decide +kernel)) (fun _ _ _ _ _ => (pg_name (i := 5) sc_law_course.nd rfl (.inl rfl))) (fun _ _ _ _ _ => pts_nil) (fun _ _ _ _ _ => (pe_ix (r := rIxT K) ix_tup (pv 5) pe_int (fun _ _ => rfl)))) (by rfl)))))
    (pss_one (ps_expr (pe_bm PySem.F.plainAttrs_list PySem.F.slot_list_append PySem.F.type_list_append mt_append (pv 3) (pa_cons (pv 4) pa_nil))))
    pss_nil)))
    (pss_one (ps_ret (pe_callTy (r := Ln.rTupOf K) (T := "tuple") c_tuple (by rfl) T.z_tuple (by decide +kernel) (pa_cons (pv 3) pa_nil)))))), ?_⟩
    refine ⟨by show 0 ≤ sizeLine; decide, fun Fd nF => ?_⟩
    have S0 := ((Sit.start (K := K) hD).data hN (noL_net N)).push (xs := []) (ds := []) nF .nil rfl
    refine ⟨_, rfl, _, rfl, _, rfl, nt, dr, at_, N, 4, rfl, by decide, S0.dw, (S0.da _ List.mem_cons_self).1, R, fun tt ts H1 hB1 hD1 hts l12 ndts okts => ?_⟩
    have S1 := S0.but hB1 hD1
    obtain ⟨us, hus, hu⟩ := tup_at hts
    have lu : us.length = ts.length := by rw [DpAll.len hu, List.length_map]
    refine ⟨tt, rfl, ⟨_, hus⟩, for_it (walk_tup (K := K) (a := tt) (xs := us)) (fun i σ H' => ∃ (es : List Ev) (vs : List V) (v4 v5 : Option V), σ = [some (.ref nt), some (.ref dr), some (.ref at_), some (.ref Fd), v4, v5] ∧ Sit K dr at_ H [(Fd, vs, es.map evD)] [(.ref tt, .tuple (ts.map evD)), (V.ref nt, netD N)] H' ∧ es.length ≤ 3 ∧ (es.map Ev.flt).Nodup ∧ (∀ e ∈ es, EvOk N e) ∧ SqT K H' tt us ∧ DpAll K H' us (ts.map evD)) ?_ ?_ ?_ ?_⟩
    · exact ⟨[], [], _, _, rfl, S1.data hts (by simpa only [noL] using noLs_ev ts), Nat.zero_le _, List.nodup_nil, nofun, hus, hu⟩
    · rintro i σ H' hi ⟨es, vs, v4, v5, rfl, S, _, _, _, ht, _⟩
      exact ht
    · rintro i x σ Hx H' hi ⟨es, vs, v4, v5, rfl, S, l3, nd, ok, ht, hu'⟩ ⟨rfl, hx⟩
      obtain ⟨r, hr', hxe⟩ := DpAll.get hu' hx
      rw [List.getElem?_map] at hr'
      obtain ⟨e, he, rfl⟩ := Option.map_eq_some_iff.mp hr'
      obtain ⟨t2, rest, rfl, ht2, _⟩ := ev_tup hxe
      have eok := okts e (List.mem_of_getElem? he)
      obtain ⟨hF, hv, nl, _⟩ := S.li _ List.mem_cons_self
      have lv : vs.length = es.length := by rw [DpAll.len hv, List.length_map]
      refine ⟨_, rfl, .ref Fd, vs.length, rfl, .inl ⟨_, SqL.of hF, rfl⟩, _, _, rfl, rfl, _, rfl, ?_⟩
      by_cases c3 : es.length < 3
      · rw [decide_eq_true (by omega)]
        refine iteT ⟨_, rfl, t2, _, 1, _, rfl, rfl, ht2, atI_nat (j := 1) rfl, ?_⟩
        refine ⟨_, rfl, Fd, rfl, ⟨_, SqL.of hF⟩, fun D2 nD2 => lc_it (walk_list (K := K) (a := Fd) (xs := vs)) (fun k H2 => Same H' H2 ∧ H2 D2 = some (.lst (((es.take k).map Ev.flt).map V.str))) ?_ ?_ ?_ ?_⟩
        · exact ⟨Ln.same_upd nD2, upd_same⟩
        · rintro k H2 _ ⟨sm, _⟩
          exact SqL.of (sm _ _ hF)
        · rintro k y Hy H2 hk ⟨sm, hD2⟩ ⟨rfl, hy⟩
          obtain ⟨r1, hr1, hye⟩ := DpAll.get hv hy
          rw [List.getElem?_map] at hr1
          obtain ⟨e1, he1, rfl⟩ := Option.map_eq_some_iff.mp hr1
          obtain ⟨t3, rest3, rfl, ht3, _⟩ := ev_tup (Dp.same sm _ _ (noL_ev e1) hye)
          refine ⟨rfl, _, rfl, t3, _, 1, _, rfl, rfl, ht3, atI_nat (j := 1) rfl, _, hD2, ?_, same_at sm nD2, ?_⟩
          · rw [List.length_map, List.length_map, List.length_take]
            exact small1 (by omega)
          · rw [upd_same, takeS he1, List.map_append, List.map_append]
            rfl
        · rintro H2 ⟨sm, hD2⟩
          rw [lv, List.take_length] at hD2
          have S2 := S.same sm
          have hF2 := sm _ _ hF
          have ht' := Same.tup sm ht
          have hu2 := Dp.tpfAll (TpF.same sm) _ _ (noLs_ev ts) hu'
          refine ⟨D2, _, rfl, .inl (SqL.of hD2), rfl, ?_, _, rfl, ?_⟩
          · exact flat_strs _
          · have ei : inV (.str e.flt) ((es.map Ev.flt).map V.str) = decide (e.flt ∈ es.map Ev.flt) := inV_strs
            by_cases me : e.flt ∈ es.map Ev.flt
            · rw [show (if (true : Bool) = true then !inV (V.str e.flt) ((es.map Ev.flt).map V.str) else inV (V.str e.flt) ((es.map Ev.flt).map V.str)) = false from by rw [ei, decide_eq_true me]; rfl]
              exact iteF ⟨es, vs, _, _, rfl, S2, l3, nd, ok, ht', hu2⟩
            · rw [show (if (true : Bool) = true then !inV (V.str e.flt) ((es.map Ev.flt).map V.str) else inV (V.str e.flt) ((es.map Ev.flt).map V.str)) = true from by rw [ei, decide_eq_false me]; rfl]
              have bl := But.upd Fd H2 (.lst (vs ++ [.ref t2]))
              refine iteT ⟨_, rfl, .inl ⟨rfl, _, SqL.of hF2⟩, _, rfl, Fd, vs, .ref t2, rfl, rfl, hF2, small1 (by omega), es ++ [e], vs ++ [.ref t2], _, _, rfl, ?_, by rw [List.length_append]; show es.length + 1 ≤ 3; omega, ?_, ?_, (TpF.but bl hF2).tup ht', Dp.tpfAll (TpF.but bl hF2) _ _ (noLs_ev ts) hu2⟩
              · have := S2.app (pre := []) (Dp.same sm _ _ (noL_ev e) hxe) (noL_ev e)
                rw [List.map_append]
                exact this
              · rw [List.map_append]
                exact List.nodup_append.mpr ⟨nd, by simp, fun a ha b hb z => by
                  rw [List.mem_singleton.mp hb] at z
                  exact me (z ▸ ha)⟩
              · intro x hx
                rcases List.mem_append.mp hx with hx | hx
                · exact ok x hx
                · rw [List.mem_singleton.mp hx]; exact eok
      · rw [decide_eq_false (by omega)]
        exact iteF ⟨es, vs, _, _, rfl, S, l3, nd, ok, ht, hu'⟩
    · rintro σ H' ⟨es, vs, v4, v5, rfl, S, l3, nd, ok, _⟩
      obtain ⟨hF, hv, nl, _⟩ := S.li _ List.mem_cons_self
      refine ⟨_, rfl, Fd, vs, rfl, .inl ⟨SqL.of hF, fun t nt' => ?_⟩⟩
      have S' := S.tupN nt' hv nl
      exact q t es _ S'.bt S'.dw (S'.da _ List.mem_cons_self).1 l3 nd ok
end
end Mine
set_option Elab.async false
set_option linter.all false
set_option maxRecDepth 100000
set_option maxHeartbeats 8000000
namespace Mine
open PySem PySem.Spec PyProof.Rows L2 Ln RZ
abbrev s_law_flown : Stmt := topS 90
abbrev N_law_flown : List Str := ["net", "tail", "course", "told", "stands", "ready", "name", "row", "events", "event", "late", "kinds", "depart"]
theorem sc_law_flown : FnScope N_law_flown ["net", "tail", "course"] (defScope s_law_flown) := ⟨rfl, rfl, rfl, by decide +kernel, rfl, by decide +kernel, by decide +kernel⟩
-- slots: 0 net, 1 tail, 2 course, 3 told, 4 stands, 5 ready, 6 name*, 7 row, 8 events, 9 event, 10 late, 11 kinds, 12 depart
structure LflTxt (mg : Str → Option Value) : Prop where
  z_sum : mg "sum" = none
  z_max : mg "max" = none
def pvD (p : Str × Dv) : PyData := .tuple [.str p.1, dayD p.2]
theorem noL_pv (p : Str × Dv) : noL (pvD p) = true := by
  unfold pvD
  simp [noL, noLs, noL_day]
theorem noLs_pv (l : List (Str × Dv)) : noLs (l.map pvD) = true := noLs_map noL_pv l
theorem filter_ev {c : List Ev} (nd : (c.map Ev.flt).Nodup) (x : Str) : c.filter (fun e => decide (e.flt = x)) = (evOf c x).toList := by
  induction c with
  | nil => rfl
  | cons a c ih =>
    rw [List.map_cons, List.nodup_cons] at nd
    unfold evOf
    rw [List.filter_cons, List.find?_cons]
    by_cases h : a.flt = x
    · rw [decide_eq_true h, if_pos rfl, List.filter_eq_nil_iff.mpr fun b hb z => nd.1 (by rw [h, ← of_decide_eq_true z]; exact List.mem_map_of_mem hb)]
      rfl
    · rw [decide_eq_false h, if_neg Bool.false_ne_true]
      exact ih nd.2
def isC : Ev → Bool | .cancel _ => true | _ => false
def latesOf (l : List Ev) : List Int := l.filterMap fun e => match e with | .late _ m => some m | _ => none
def smallsOf (l : List Ev) : List Str := l.filterMap fun e => match e with | .smaller _ k => some k | _ => none
theorem sum_lates (c : List Ev) (x : Str) : (latesOf (evOf c x).toList).sum = waitOf c x := by
  unfold waitOf latesOf
  rcases evOf c x with _ | _ | ⟨_, m⟩ | _
  · rfl
  · rfl
  · show [m].sum = m
    simp
  · rfl
theorem head_smalls (c : List Ev) (f : Flt) : (smallsOf (evOf c f.name).toList ++ [f.kind])[0]? = some (kindBy c f) := by
  unfold kindBy smallsOf
  rcases evOf c f.name with _ | _ | _ | _ <;> rfl
theorem none_cancels (c : List Ev) (x : Str) : (((evOf c x).toList.filter isC).map evD).isEmpty = !isCancel (evOf c x) := by
  rcases evOf c x with _ | _ | _ | _ <;> rfl
theorem fly_rd {N : Net} {c : List Ev} {turn : Int} : ∀ (fs : List Flt) (st : Str) (rd rd' : Int), (∀ f ∈ fs, 0 ≤ f.dep + waitOf c f.name) → rd ≤ 0 → rd' ≤ 0 → fly N c turn st rd fs = fly N c turn st rd' fs
  | [], _, _, _, _, _, _ => rfl
  | f :: fs, st, rd, rd', h, h1, h2 => by
    have hf := h f List.mem_cons_self
    have e : depOf c rd f = depOf c rd' f := by
      unfold depOf mx
      rw [if_neg (by omega), if_neg (by omega)]
    unfold fly
    split
    · rw [fly_rd fs st rd rd' (fun g hg => h g (List.mem_cons_of_mem _ hg)) h1 h2]
    · rw [e]
theorem wait_nn {N : Net} {c : List Ev} (ok : ∀ e ∈ c, EvOk N e) (x : Str) : 0 ≤ waitOf c x := by
  unfold waitOf
  cases h : evOf c x with
  | none => exact Int.le_refl _
  | some e =>
    have m := List.mem_of_find?_eq_some h
    cases e with
    | late f m' =>
      have := (ok _ m).late
      show 0 ≤ m'
      omega
    | _ => exact Int.le_refl _
theorem stF_in {c : List Ev} {turn : Int} {ns : List Str} : ∀ (fs : List Flt) (s : Str × Int), s.1 ∈ ns → (∀ f ∈ fs, f.fin ∈ ns) → (stF c turn s fs).1 ∈ ns
  | [], s, h, _ => h
  | f :: fs, (st, rd), h, hf => by
    unfold stF
    split
    · exact stF_in fs _ h fun g hg => hf g (List.mem_cons_of_mem _ hg)
    · exact stF_in fs _ (hf f List.mem_cons_self) fun g hg => hf g (List.mem_cons_of_mem _ hg)
theorem name_ne {N : Net} (R : Right N) {x : Str} (h : x ∈ N.st.map (·.1)) : x ≠ "" := fun z => by
  have g := (R.names (i := 0) (by decide)).2 x h
  rw [z] at g
  exact absurd g (by decide +kernel)
theorem ifs_to {b : Bool} {A B : TS} {D : Ends} {σ σ' : L2.St} {H : Hp} (h1 : b = true → ∀ D' : Ends, D'.nx σ' H → A D' σ H) (h2 : b = false → ∀ D' : Ends, D'.nx σ' H → B D' σ H) (q : D.nx σ' H) : if b = true then A D σ H else B D σ H := by
  cases b
  · exact iteF (h2 rfl D q)
  · exact iteT (h1 rfl D q)
section
variable {P : Program} {w : World} {K : PySem.W.Frag} {mg : Str → Option Value} {base : Heap} {CC C fI CT fT BE : Addr} {cl : Clss}
theorem kindBy_ok {N : Net} (R : Right N) {c : List Ev} (hev : ∀ e ∈ c, EvOk N e) {g : Flt} (hg : g ∈ N.fl) : kindBy c g ∈ tnames N := by
  unfold kindBy
  rcases hevn : evOf c g.name with _ | e1 | e1 | ⟨f1, k1⟩
  · exact R.kindOf hg
  · exact R.kindOf hg
  · exact R.kindOf hg
  · have hevn : c.find? (fun e => decide (e.flt = g.name)) = some (Ev.smaller f1 k1) := hevn
    exact (hev _ (List.mem_of_find?_eq_some hevn)).small
theorem turn_at {N : Net} (R : Right N) {t : Tri} (h : t ∈ N.ty) : turnOf N t.1 = t.2.2 := by
  unfold turnOf
  obtain ⟨i, hi⟩ := List.mem_iff_getElem?.mp h
  rw [find_keyN R.tyNodup hi]
  rfl
theorem ty_of {N : Net} {k : Str} (h : k ∈ tnames N) : ∃ t ∈ N.ty, t.1 = k := by
  obtain ⟨t, ht, e⟩ := List.mem_map.mp h
  exact ⟨t, ht, e⟩
theorem ev_sm {H : Hp} {v : V} {f k : Str} (h : Dp K H v (evD (.smaller f k))) : ∃ a : Addr, v = .ref a ∧ SqT K H a [.str "smaller", .str f, .str k] := by
  cases h with | @tup a xs ds p q => cases q with | cons q1 q2 => cases q1; cases q2 with | cons q1 q2 => cases q1; cases q2 with | cons q1 q2 => cases q1; cases q2; exact ⟨a, rfl, p⟩
theorem evL_le (c : List Ev) (x : Str) : (evOf c x).toList.length ≤ 1 := by
  cases evOf c x <;> simp
theorem latesOf_snoc (l : List Ev) (e : Ev) : latesOf (l ++ [e]) = latesOf l ++ latesOf [e] := List.filterMap_append
theorem smallsOf_snoc (l : List Ev) (e : Ev) : smallsOf (l ++ [e]) = smallsOf l ++ smallsOf [e] := List.filterMap_append
theorem isC_tag (e : Ev) : decide (V.str (tagE e) = V.str "cancel") = isC e := by
  cases e
  · exact (by decide : decide (V.str "cancel" = V.str "cancel") = true)
  · exact (by decide : decide (V.str "late" = V.str "cancel") = false)
  · exact (by decide : decide (V.str "smaller" = V.str "cancel") = false)
def spLfl (K : PySem.W.Frag) : Sp := hid fun vs H Q _ => ∃ (nt tl co : Addr) (N : Net) (c : List Ev) (j : Nat) (t : Str × Str × List Str), vs = [V.ref nt, .ref tl, .ref co] ∧ Dp K H (.ref nt) (netD N) ∧ Right N ∧ N.tl[j]? = some t ∧ Dp K H (.ref tl) (tlD t) ∧ Dp K H (.ref co) (.tuple (c.map evD)) ∧ c.length ≤ 3 ∧ (c.map Ev.flt).Nodup ∧ (∀ e ∈ c, EvOk N e) ∧
  ∀ H' D us, Same H H' → H D = none → H' D = some (.lst us) → DpAll K H' us ((flownT N c t).map pvD) → Q (V.ref D) H'
theorem ok_lfl {f : Addr} {fd : FuncData} (F : Fun K "_law_flown" "_law_flown" s_law_flown f fd) (T : LflTxt mg) (c__law_row : Cg P w K mg base CX0 1 "_law_row" (spRow K)) (c__law_kind : Cg P w K mg base CX0 1 "_law_kind" (spKnd K)) :
    FnG P w K mg base CX0 2 f fd ["net", "tail", "course"] (spLfl K) := by
  refine okG F sc_law_flown (fun vs H Q E h => ?_) (fun cdv A outer s H vs Q E hG hr h => ?_)
  · obtain ⟨nt, tl, co, N, c, j, t, rfl, _⟩ := h
    rfl
  · obtain ⟨nt, tl, co, N, c, j, ⟨nm, k, ns⟩, rfl, hN, R, ht, hT, hco, l3, nd, hev, q⟩ := h
    refine ⟨_, (pss_cons (ps_set (i := 3) sc_law_flown.nd rfl (.inl rfl) (pe_lst pa_nil))
    (pss_cons (ps_set (i := 4) sc_law_flown.nd rfl (.inl rfl) pe_str)
    (pss_cons (ps_set (i := 5) sc_law_flown.nd rfl (.inl rfl) (pe_un un_neg (pe_op op_pow pe_int pe_int)))
    (pss_cons (ps_for PassesOwn.never rfl (pi_tup (pe_ix (r := rIxT K) ix_tup (pv 1) pe_int (fun _ _ => rfl))) (pg_name (i := 6) sc_law_flown.nd rfl (.inr rfl))
    (pss_cons (ps_set (i := 7) sc_law_flown.nd rfl (.inl rfl) (pe_cg c__law_row hr (by decide) hG (by rfl) (pa_cons (pv 0) (pa_cons (pv 6) pa_nil))))
    (pss_cons (ps_if (pt_cmpR op_eq (pv 4) pe_str (nomark _))
    (pss_one (ps_set (i := 4) sc_law_flown.nd rfl (.inl rfl) (pe_ix (r := rIxT K) ix_tup (pv 7) pe_int (fun _ _ => rfl))))
    pss_nil)
    (pss_cons (ps_setLc (i := 8) (own := [("event", 9)]) rfl sc_law_flown.nd rfl rfl (sw_true rfl rfl rfl (by decide +kernel)) (pi_tup (pv 2)) (blkOk_by (own := [("event", 9)]) (N := N_law_flown) (sc := defScope s_law_flown) (by decide +kernel)) (fun _ _ _ _ _ => (pg_name (i := 9) sc_law_flown.nd rfl (.inl rfl))) (fun _ _ _ _ _ => (pts_one (pt_cmpR op_eq (pe_ix (r := rIxT K) ix_tup (pv 9) pe_int (fun _ _ => rfl)) (pv 6) (nomark _)))) (fun _ _ _ _ _ => (pv 9)))
    (pss_one (ps_if (PW.pt (pw_or (pt_cmpR op_ne (pv 4) (pe_ix (r := rIxT K) ix_tup (pv 7) pe_int (fun _ _ => rfl)) (nomark _)) (pw_or1 (pt_cmpR (r := rNeD K) (op_neD hr.units) (pe_lc (own := [("event", 9)]) rfl sc_law_flown.nd (pi_list (pv 8)) (blkOk_by (own := [("event", 9)]) (N := N_law_flown) (sc := defScope s_law_flown) (by decide +kernel)) (fun _ _ _ _ _ => (pg_name (i := 9) sc_law_flown.nd rfl (.inl rfl))) (fun _ _ _ _ _ => (pts_one (pt_cmpR op_eq (pe_ix (r := rIxT K) ix_tup (pv 9) pe_int (fun _ _ => rfl)) pe_str (nomark _)))) (fun _ _ _ _ _ => (pv 9))) (pe_lst pa_nil) (nomark _)))))
    (pss_one (ps_expr (pe_bm PySem.F.plainAttrs_list PySem.F.slot_list_append PySem.F.type_list_append mt_append (pv 3) (pa_cons (pe_tup (pa_cons (pv 6) (pa_cons pe_non pa_nil))) pa_nil))))
    (pss_cons (ps_set (i := 10) sc_law_flown.nd rfl (.inl rfl) (pe_callB (r := rSum K) (id := "sum") (cr_sum rfl) (by rfl) T.z_sum (by decide +kernel) (pa_cons (pe_lc (own := [("event", 9)]) rfl sc_law_flown.nd (pi_list (pv 8)) (blkOk_by (own := [("event", 9)]) (N := N_law_flown) (sc := defScope s_law_flown) (by decide +kernel)) (fun _ _ _ _ _ => (pg_name (i := 9) sc_law_flown.nd rfl (.inl rfl))) (fun _ _ _ _ _ => (pts_one (pt_cmpR op_eq (pe_ix (r := rIxT K) ix_tup (pv 9) pe_int (fun _ _ => rfl)) pe_str (nomark _)))) (fun _ _ _ _ _ => (pe_ix (r := rIxT K) ix_tup (pv 9) pe_int (fun _ _ => rfl)))) pa_nil)))
    (pss_cons (ps_set (i := 11) sc_law_flown.nd rfl (.inl rfl) (pe_op op_cat (pe_lc (own := [("event", 9)]) rfl sc_law_flown.nd (pi_list (pv 8)) (blkOk_by (own := [("event", 9)]) (N := N_law_flown) (sc := defScope s_law_flown) (by decide +kernel)) (fun _ _ _ _ _ => (pg_name (i := 9) sc_law_flown.nd rfl (.inl rfl))) (fun _ _ _ _ _ => (pts_one (pt_cmpR op_eq (pe_ix (r := rIxT K) ix_tup (pv 9) pe_int (fun _ _ => rfl)) pe_str (nomark _)))) (fun _ _ _ _ _ => (pe_ix (r := rIxT K) ix_tup (pv 9) pe_int (fun _ _ => rfl)))) (pe_lst (pa_cons (pe_ix (r := rIxT K) ix_tup (pv 7) pe_int (fun _ _ => rfl)) pa_nil))))
    (pss_cons (ps_set (i := 12) sc_law_flown.nd rfl (.inl rfl) (pe_callB (id := "max") (call_max2 rfl) (by rfl) T.z_max (by decide +kernel) (pa_cons (pe_op op_add (pe_ix (r := rIxT K) ix_tup (pv 7) pe_int (fun _ _ => rfl)) (pv 10)) (pa_cons (pv 5) pa_nil))))
    (pss_cons (ps_expr (pe_bm PySem.F.plainAttrs_list PySem.F.slot_list_append PySem.F.type_list_append mt_append (pv 3) (pa_cons (pe_tup (pa_cons (pv 6) (pa_cons (pe_tup (pa_cons (pv 12) (pa_cons (pe_op op_sub (pe_op op_add (pv 12) (pe_ix (r := rIxT K) ix_tup (pv 7) pe_int (fun _ _ => rfl))) (pe_ix (r := rIxT K) ix_tup (pv 7) pe_int (fun _ _ => rfl))) (pa_cons (pe_ix (r := rIxT K) ix_tup (pe_cg c__law_kind hr (by decide) hG (by rfl) (pa_cons (pv 0) (pa_cons (pe_ix (r := rIxL K) ix_list (pv 11) pe_int (fun _ _ => rfl)) pa_nil))) pe_int (fun _ _ => rfl)) pa_nil)))) pa_nil))) pa_nil)))
    (pss_cons (ps_set (i := 4) sc_law_flown.nd rfl (.inl rfl) (pe_ix (r := rIxT K) ix_tup (pv 7) pe_int (fun _ _ => rfl)))
    (pss_one (ps_set (i := 5) sc_law_flown.nd rfl (.inl rfl) (pe_op op_add (pe_op op_sub (pe_op op_add (pv 12) (pe_ix (r := rIxT K) ix_tup (pv 7) pe_int (fun _ _ => rfl))) (pe_ix (r := rIxT K) ix_tup (pv 7) pe_int (fun _ _ => rfl))) (pe_ix (r := rIxT K) ix_tup (pe_cg c__law_kind hr (by decide) hG (by rfl) (pa_cons (pv 0) (pa_cons (pe_ix (r := rIxT K) ix_tup (pv 1) pe_int (fun _ _ => rfl)) pa_nil))) pe_int (fun _ _ => rfl))))))))))))))))
    (pss_one (ps_ret (pv 3))))))), ?_⟩
    obtain ⟨tl0, rt, e0, htl, hrt⟩ := tl_at hT
    cases e0
    obtain ⟨fs, ok⟩ := R.tailAt ht
    have en : ns = fs.map Flt.name := ok.nms
    have ef : flownT N c (nm, k, ns) = flyT N c k fs := by unfold flownT; rw [ok.fls]
    obtain ⟨cs, hcs, hcv⟩ := tup_at hco
    have lc : cs.length = c.length := by rw [DpAll.len hcv, List.length_map]
    have htl : SqT K H tl [.str nm, .str k, .ref rt] := htl
    have hrt : SqT K H rt (ns.map V.str) := hrt
    refine ⟨by show 0 ≤ sizeLine; decide, fun D nD => ?_⟩
    have s1 := Ln.same_upd (o := .lst []) nD
    have hD1 : (upd H D (.lst [])) D = some (.lst []) := upd_same
    generalize upd H D (.lst []) = H1 at s1 hD1 ⊢
    refine ⟨10, 9, rfl, rfl, ⟨by decide, by decide, by decide⟩, _, rfl, ?_⟩
    obtain ⟨rd0, erd, hrd0⟩ : ∃ rd0 : Int, rd0 = -(10 ^ Int.toNat 9) ∧ rd0 ≤ 0 := ⟨_, rfl, by decide⟩
    obtain ⟨st0, est⟩ : ∃ st0 : Str, st0 = (fs.head?.map Flt.start).getD "" := ⟨_, rfl⟩
    have fin : ∀ i, i < fs.length → (stF c (turnOf N k) (st0, rd0) (fs.take i)).1 ∈ N.st.map (·.1) := fun i hi => by
      refine stF_in _ _ ?_ fun g hg => (R.flt (ok.mem g (List.mem_of_mem_take hg))).e
      cases hfs : fs with
      | nil => rw [hfs] at hi; exact absurd hi (Nat.not_lt_zero _)
      | cons f0 fs0 =>
        show st0 ∈ _
        rw [est, hfs]
        exact (R.flt (ok.mem f0 (by rw [hfs]; exact List.mem_cons_self))).s
    refine ⟨_, rfl, tl, _, 2, _, rfl, rfl, Same.tup s1 htl, rfl, rt, rfl, ⟨_, Same.tup s1 hrt⟩, ?_⟩
    refine for_it (walk_tup (K := K) (a := rt) (xs := ns.map V.str)) (fun i σ H' => Same H H' ∧ ∃ (us : List V) (v6 v7 v8 v9 v10 v11 v12 : Option V) (sv : Str), H' D = some (.lst us) ∧ DpAll K H' us ((fly N c (turnOf N k) st0 rd0 (fs.take i)).map pvD) ∧ (sv = if i = 0 then ("" : Str) else (stF c (turnOf N k) (st0, rd0) (fs.take i)).1) ∧
      σ = [some (.ref nt), some (.ref tl), some (.ref co), some (.ref D), some (.str sv), some (.int (stF c (turnOf N k) (st0, rd0) (fs.take i)).2), v6, v7, v8, v9, v10, v11, v12]) ?_ ?_ ?_ ?_
    · exact ⟨s1, [], _, _, _, _, _, _, _, _, hD1, .nil, (if_pos rfl).symm, by rw [erd]; rfl⟩
    · rintro i σ H' _ ⟨sm, _⟩
      exact Same.tup sm hrt
    · rintro i x σ Hx H' hi ⟨sm, us, v6, v7, v8, v9, v10, v11, v12, sv, hD', hu, hsv, rfl⟩ ⟨rfl, hx⟩
      rw [en, List.map_map, List.getElem?_map] at hx
      obtain ⟨g, hg, rfl⟩ := Option.map_eq_some_iff.mp hx
      have hgm := List.mem_of_getElem? hg
      have hgi := (List.getElem?_eq_some_iff.mp hg).1
      refine ⟨_, rfl, _, rfl, nt, N, g, rfl, Dp.same sm _ _ (noL_net N) hN, R, ok.mem g hgm, fun H2 v s2 hv => ?_⟩
      obtain ⟨ft, lt, rfl, hft, _⟩ := fl_at hv
      have sm2 := sm.trans s2
      have hD2 := s2 _ _ hD'
      have hu2 := Dp.tpfAll (TpF.same s2) _ _ (noLs_pv _) hu
      clear hu hD' hv
      generalize hS : stF c (turnOf N k) (st0, rd0) (fs.take i) = S at hsv ⊢
      obtain ⟨st, rd⟩ := S
      have hstn : st ≠ "" := name_ne R (by have := fin i hgi; rw [hS] at this; exact this)
      refine ⟨_, rfl, rfl, _, rfl, ?_⟩
      refine ifs_to (σ' := [some (.ref nt), some (.ref tl), some (.ref co), some (.ref D), some (.str st), some (.int rd), some (.str g.name), some (.ref ft), v8, v9, v10, v11, v12]) (fun hb D' r => ?_) (fun hb D' r => ?_) ?_
      · have hb : sv = "" := by
          have := of_decide_eq_true hb
          injection this
        have i0 : i = 0 := Classical.byContradiction fun z => by
          rw [if_neg z] at hsv
          exact hstn (hsv.symm.trans hb)
        subst i0
        have e1 : (st0, rd0) = (st, rd) := hS
        have e2 : st0 = g.start := by
          rw [est]
          cases hfs : fs with
          | nil => rw [hfs] at hg; cases hg
          | cons f0 fs0 => rw [hfs] at hg; cases hg; rfl
        have e3 : st = g.start := by rw [← e2]; exact (congrArg Prod.fst e1).symm
        rw [e3] at r
        exact ⟨_, rfl, ft, _, 1, _, rfl, rfl, hft, atI_nat (j := 1) rfl, r⟩
      · have hb := of_decide_eq_false hb
        have i0 : i ≠ 0 := fun z => by
          rw [if_pos z] at hsv
          exact hb (by rw [hsv])
        rw [if_neg i0] at hsv
        rw [hsv]
        exact r
      clear hsv
      have hcs2 := Same.tup sm2 hcs
      have hcv2 := Dp.tpfAll (TpF.same sm2) _ _ (noLs_ev c) hcv
      refine ⟨_, rfl, co, rfl, ⟨_, hcs2⟩, fun De nDe => lc_it (walk_tup (K := K) (a := co) (xs := cs)) (fun m H' => Same H2 H' ∧ ∃ ws, H' De = some (.lst ws) ∧ DpAll K H' ws (((c.take m).filter fun e => decide (e.flt = g.name)).map evD)) ?_ ?_ ?_ ?_⟩
      · exact ⟨Ln.same_upd nDe, [], upd_same, .nil⟩
      · rintro m H' _ ⟨s', _⟩
        exact Same.tup s' hcs2
      · rintro m y Hy H' hm ⟨s', ws, hDl, hw⟩ ⟨rfl, hy⟩
        obtain ⟨d, hd, hyd⟩ := DpAll.get hcv2 hy
        rw [List.getElem?_map] at hd
        obtain ⟨e, he, rfl⟩ := Option.map_eq_some_iff.mp hd
        have hyd' := Dp.same s' _ _ (noL_ev e) hyd
        obtain ⟨t2, rest, rfl, ht2, _⟩ := ev_tup hyd'
        refine ⟨rfl, _, rfl, t2, _, 1, _, rfl, rfl, ht2, atI_nat (j := 1) rfl, _, rfl, rfl, _, rfl, ?_⟩
        rw [takeS he, List.filter_append, filter1]
        by_cases c1 : e.flt = g.name
        · rw [decide_eq_true (congrArg V.str c1)]
          have lw := DpAll.len hw
          have lf : ((c.take m).filter fun e => decide (e.flt = g.name)).length ≤ 3 := Nat.le_trans (List.length_filter_le _ _) (by rw [List.length_take]; omega)
          rw [List.length_map] at lw
          have bl := But.upd De H' (.lst (ws ++ [.ref t2]))
          have tl' := TpF.but bl hDl
          refine iteT ⟨_, rfl, ws, hDl, small1 (by omega), same_at s' nDe, _, upd_same, ?_⟩
          rw [if_pos (decide_eq_true c1), List.map_append]
          exact DpAll.app (Dp.tpfAll tl' _ _ (noLs_ev _) hw) (Dp.tpf tl' _ _ (noL_ev e) hyd')
        · rw [decide_eq_false (show ¬ V.str e.flt = V.str g.name from fun z => c1 (by injection z)), if_neg (show ¬ decide (e.flt = g.name) = true from fun z => c1 (of_decide_eq_true z)), List.append_nil]
          exact iteF ⟨s', ws, hDl, hw⟩
      rintro H3 ⟨s3, ws, hDe, hw⟩
      rw [lc, List.take_length, filter_ev nd] at hw
      have el := evL_le c g.name
      have lw := DpAll.len hw
      rw [List.length_map] at lw
      have sm3 := sm2.trans s3
      have hD3 := s3 _ _ hD2
      have hu3 := Dp.tpfAll (TpF.same s3) _ _ (noLs_pv _) hu2
      have hft3 := Same.tup s3 hft
      clear hu2 hcs2 hcv2
      -- the end of a round
      have hfly : fly N c (turnOf N k) st0 rd0 (fs.take (i + 1)) = fly N c (turnOf N k) st0 rd0 (fs.take i) ++ (if offB c st g = true then [(g.name, none)] else [(g.name, some (depOf c rd g, depOf c rd g + g.arr - g.dep, seatsOf N (kindBy c g)))]) := by
        rw [takeS hg, fly_snoc, hS]
        congr 1
      have hstF : stF c (turnOf N k) (st0, rd0) (fs.take (i + 1)) = if offB c st g = true then (st, rd) else (g.fin, depOf c rd g + g.arr - g.dep + turnOf N k) := by
        rw [takeS hg, stF_snoc, hS]
        rfl
      have lus : us.length ≤ i := by
        have a := DpAll.len hu3
        have b := congrArg List.length (fly_names (N := N) (c := c) (turn := turnOf N k) (fs.take i) st0 rd0)
        rw [List.length_map, List.length_map, List.length_take] at b
        rw [List.length_map] at a
        omega
      have f5 := ok.l5
      have done : ∀ (H4 : Hp) (v : V) (dv : Dv) (st2 : Str) (rd2 : Int) (w6 w7 w8 w9 w10 w11 w12 : Option V), Same H3 H4 → Dp K H4 v (pvD (g.name, dv)) → (if offB c st g = true then [(g.name, (none : Dv))] else [(g.name, some (depOf c rd g, depOf c rd g + g.arr - g.dep, seatsOf N (kindBy c g)))]) = [(g.name, dv)] → (if offB c st g = true then (st, rd) else (g.fin, depOf c rd g + g.arr - g.dep + turnOf N k)) = (st2, rd2) →
          (Same H (upd H4 D (.lst (us ++ [v]))) ∧ ∃ (us' : List V) (v6 v7 v8 v9 v10 v11 v12 : Option V) (sv : Str), (upd H4 D (.lst (us ++ [v]))) D = some (.lst us') ∧ DpAll K (upd H4 D (.lst (us ++ [v]))) us' ((fly N c (turnOf N k) st0 rd0 (fs.take (i + 1))).map pvD) ∧ (sv = if i + 1 = 0 then ("" : Str) else (stF c (turnOf N k) (st0, rd0) (fs.take (i + 1))).1) ∧
          [some (V.ref nt), some (.ref tl), some (.ref co), some (.ref D), some (.str st2), some (.int rd2), w6, w7, w8, w9, w10, w11, w12] = [some (V.ref nt), some (.ref tl), some (.ref co), some (.ref D), some (.str sv), some (.int (stF c (turnOf N k) (st0, rd0) (fs.take (i + 1))).2), v6, v7, v8, v9, v10, v11, v12]) := by
        intro H4 v dv st2 rd2 w6 w7 w8 w9 w10 w11 w12 s4 hv e1 e2
        rw [hfly, hstF, e1, e2]
        have tl' := TpF.but (But.upd D H4 (.lst (us ++ [v]))) (s4 _ _ hD3)
        refine ⟨same_at (sm3.trans s4) nD, _, _, _, _, _, _, _, _, st2, upd_same, ?_, (if_neg (Nat.succ_ne_zero i)).symm, rfl⟩
        rw [List.map_append]
        exact DpAll.app (Dp.tpfAll tl' _ _ (noLs_pv _) (Dp.tpfAll (TpF.same s4) _ _ (noLs_pv _) hu3)) (Dp.tpf tl' _ _ (noL_pv _) hv)
      refine ⟨_, rfl, _, rfl, ft, _, 1, _, rfl, rfl, hft3, atI_nat (j := 1) rfl, rfl, _, rfl, ?_⟩
      by_cases hs : st = g.start
      case neg =>
        have e : offB c st g = true := by unfold offB; rw [decide_eq_false hs, Bool.not_false, Bool.or_true]
        rw [decide_eq_false (fun z => hs (by injection z))]
        refine iteT (iteT ?_)
        refine ⟨_, rfl, .inl ⟨rfl, _, SqL.of hD3⟩, _, rfl, by show 2 ≤ sizeLine; decide, fun p np => ⟨D, us, .ref p, rfl, rfl, Ln.same_upd np _ _ hD3, small1 (by omega), ?_⟩⟩
        exact done _ (.ref p) none st rd _ _ _ _ _ _ _ (Ln.same_upd np) (.tup (SqT.of upd_same) (.cons (.str _) (.cons .non .nil))) (if_pos e) (if_pos e)
      rw [decide_eq_true (congrArg V.str hs)]
      refine iteF ?_
      refine ⟨_, rfl, De, rfl, ⟨_, SqL.of hDe⟩, fun Dc nDc => lc_it (walk_list (K := K) (a := De) (xs := ws)) (fun m H' => Same H3 H' ∧ ∃ zs, H' Dc = some (.lst zs) ∧ DpAll K H' zs ((((evOf c g.name).toList.take m).filter isC).map evD)) ?_ ?_ ?_ ?_⟩
      · exact ⟨Ln.same_upd nDc, [], upd_same, .nil⟩
      · rintro m H' _ ⟨s', _⟩
        exact SqL.of (s' _ _ hDe)
      · rintro m y Hy H' hm ⟨s', zs, hDl, hz⟩ ⟨rfl, hy⟩
        obtain ⟨d, hd, hyd⟩ := DpAll.get hw hy
        rw [List.getElem?_map] at hd
        obtain ⟨e, he, rfl⟩ := Option.map_eq_some_iff.mp hd
        have hyd' := Dp.same s' _ _ (noL_ev e) hyd
        obtain ⟨t2, rest, rfl, ht2, _⟩ := ev_tup hyd'
        refine ⟨rfl, _, rfl, t2, _, 0, _, rfl, rfl, ht2, atI_nat (j := 0) rfl, rfl, _, rfl, ?_⟩
        rw [takeS he, List.filter_append, filter1, isC_tag]
        by_cases c1 : isC e = true
        · rw [c1]
          have lz := DpAll.len hz
          have lf : (((evOf c g.name).toList.take m).filter isC).length ≤ 1 := Nat.le_trans (List.length_filter_le _ _) (by rw [List.length_take]; omega)
          rw [List.length_map] at lz
          have tl' := TpF.but (But.upd Dc H' (.lst (zs ++ [.ref t2]))) hDl
          refine iteT ⟨_, rfl, zs, hDl, small1 (by omega), same_at s' nDc, _, upd_same, ?_⟩
          rw [if_pos rfl, List.map_append]
          exact DpAll.app (Dp.tpfAll tl' _ _ (noLs_ev _) hz) (Dp.tpf tl' _ _ (noL_ev e) hyd')
        · have c1 := Bool.eq_false_iff.mpr c1
          rw [c1, if_neg Bool.false_ne_true, List.append_nil]
          exact iteF ⟨s', zs, hDl, hz⟩
      rintro H4 ⟨s4, zs, hDc, hz⟩
      rw [lw, List.take_length] at hz
      have smd : Sm (.list (((evOf c g.name).toList.filter isC).map evD)) 2 300 := (Sm.lst (k := 1) (m := 126) (n := 1) (fun d hd => by
        obtain ⟨x, hx, rfl⟩ := List.mem_map.mp hd
        have hx := (List.mem_filter.mp hx).1
        have hx : evOf c g.name = some x := Option.mem_toList.mp hx
        have hx : c.find? (fun e => decide (e.flt = g.name)) = some x := hx
        exact sm_ev R (hev x (List.mem_of_find?_eq_some hx))) (by rw [List.length_map]; exact Nat.le_trans (List.length_filter_le _ _) el)).mono (by decide) (by decide)
      refine ⟨Nat.zero_le _, fun e0 ne0 => ?_⟩
      have s5 := Ln.same_upd (o := .lst []) ne0
      refine ⟨.list (((evOf c g.name).toList.filter isC).map evD), .list [], .lst (SqL.of (s5 _ _ hDc)) (Dp.tpfAll (TpF.same s5) _ _ (noLs_ev _) hz), .lst (SqL.of upd_same) .nil, smd.shaped (by decide), by decide, _, rfl, ?_⟩
      rw [eqv_nilL, none_cancels, Bool.not_not]
      have s35 := s4.trans s5
      clear hz hDc smd s5 s4 ne0
      generalize upd H4 e0 (.lst []) = H5 at s35 ⊢
      have hD5 := s35 _ _ hD3
      by_cases hc : isCancel (evOf c g.name) = true
      · have e : offB c st g = true := by unfold offB; rw [hc]; rfl
        rw [hc]
        refine iteT ?_
        refine ⟨_, rfl, .inl ⟨rfl, _, SqL.of hD5⟩, _, rfl, by show 2 ≤ sizeLine; decide, fun p np => ⟨D, us, .ref p, rfl, rfl, Ln.same_upd np _ _ hD5, small1 (by omega), ?_⟩⟩
        exact done _ (.ref p) none st rd _ _ _ _ _ _ _ (s35.trans (Ln.same_upd np)) (.tup (SqT.of upd_same) (.cons (.str _) (.cons .non .nil))) (if_pos e) (if_pos e)
      have hc := Bool.eq_false_iff.mpr hc
      have eo : offB c st g = false := by unfold offB; rw [hc, decide_eq_true hs]; rfl
      have e' : ¬ offB c st g = true := by rw [eo]; exact Bool.false_ne_true
      rw [hc]
      refine iteF ?_
      have hDe5 := s35 _ _ hDe
      have hw5 := Dp.tpfAll (TpF.same s35) _ _ (noLs_ev _) hw
      have hft5 := Same.tup s35 hft3
      -- the minutes
      refine ⟨_, rfl, De, rfl, ⟨_, SqL.of hDe5⟩, fun Dl nDl => lc_it (walk_list (K := K) (a := De) (xs := ws)) (fun m H' => Same H5 H' ∧ H' Dl = some (.lst ((latesOf ((evOf c g.name).toList.take m)).map V.int))) ?_ ?_ ?_ ?_⟩
      · exact ⟨Ln.same_upd nDl, upd_same⟩
      · rintro m H' _ ⟨s', _⟩
        exact SqL.of (s' _ _ hDe5)
      · rintro m y Hy H' hm ⟨s', hDl⟩ ⟨rfl, hy⟩
        obtain ⟨d, hd, hyd⟩ := DpAll.get hw5 hy
        rw [List.getElem?_map] at hd
        obtain ⟨e, he, rfl⟩ := Option.map_eq_some_iff.mp hd
        have hyd' := Dp.same s' _ _ (noL_ev e) hyd
        obtain ⟨t2, rest, rfl, ht2, hlate⟩ := ev_tup hyd'
        refine ⟨rfl, _, rfl, t2, _, 0, _, rfl, rfl, ht2, atI_nat (j := 0) rfl, rfl, _, rfl, ?_⟩
        rw [takeS he, latesOf_snoc]
        cases e with
        | late f1 m1 =>
          have rr := hlate f1 m1 rfl
          subst rr
          have ll : (latesOf ((evOf c g.name).toList.take m)).length ≤ 1 := Nat.le_trans (List.length_filterMap_le _ _) (by rw [List.length_take]; omega)
          refine iteT ⟨_, rfl, t2, _, 2, _, rfl, rfl, ht2, atI_nat (j := 2) rfl, _, hDl, by rw [List.length_map]; exact small1 (by omega), same_at s' nDl, ?_⟩
          rw [upd_same, List.map_append]
          rfl
        | cancel f1 =>
          refine iteF ⟨s', ?_⟩
          rw [hDl]
          show some (HO.lst _) = some (.lst ((latesOf ((evOf c g.name).toList.take m) ++ []).map V.int))
          rw [List.append_nil]
        | smaller f1 k1 =>
          refine iteF ⟨s', ?_⟩
          rw [hDl]
          show some (HO.lst _) = some (.lst ((latesOf ((evOf c g.name).toList.take m) ++ []).map V.int))
          rw [List.append_nil]
      rintro H6 ⟨s6, hDl⟩
      rw [lw, List.take_length] at hDl
      refine ⟨Dl, _, rfl, SqL.of hDl, ?_⟩
      rw [sum_lates]
      have hDe6 := s6 _ _ hDe5
      have hw6 := Dp.tpfAll (TpF.same s6) _ _ (noLs_ev _) hw5
      have hft6 := Same.tup s6 hft5
      -- the types
      refine ⟨_, rfl, De, rfl, ⟨_, SqL.of hDe6⟩, fun Dk nDk => lc_it (walk_list (K := K) (a := De) (xs := ws)) (fun m H' => Same H6 H' ∧ H' Dk = some (.lst ((smallsOf ((evOf c g.name).toList.take m)).map V.str))) ?_ ?_ ?_ ?_⟩
      · exact ⟨Ln.same_upd nDk, upd_same⟩
      · rintro m H' _ ⟨s', _⟩
        exact SqL.of (s' _ _ hDe6)
      · rintro m y Hy H' hm ⟨s', hDl⟩ ⟨rfl, hy⟩
        obtain ⟨d, hd, hyd⟩ := DpAll.get hw6 hy
        rw [List.getElem?_map] at hd
        obtain ⟨e, he, rfl⟩ := Option.map_eq_some_iff.mp hd
        have hyd' := Dp.same s' _ _ (noL_ev e) hyd
        cases e with
        | smaller f1 k1 =>
          obtain ⟨t2, rfl, ht2⟩ := ev_sm hyd'
          refine ⟨rfl, _, rfl, t2, _, 0, _, rfl, rfl, ht2, atI_nat (j := 0) rfl, rfl, _, rfl, ?_⟩
          rw [takeS he, smallsOf_snoc]
          have ll : (smallsOf ((evOf c g.name).toList.take m)).length ≤ 1 := Nat.le_trans (List.length_filterMap_le _ _) (by rw [List.length_take]; omega)
          refine iteT ⟨_, rfl, t2, _, 2, _, rfl, rfl, ht2, atI_nat (j := 2) rfl, _, hDl, by rw [List.length_map]; exact small1 (by omega), same_at s' nDk, ?_⟩
          rw [upd_same, List.map_append]
          rfl
        | cancel f1 =>
          obtain ⟨t2, rest, rfl, ht2, _⟩ := ev_tup hyd'
          refine ⟨rfl, _, rfl, t2, _, 0, _, rfl, rfl, ht2, atI_nat (j := 0) rfl, rfl, _, rfl, iteF ⟨s', ?_⟩⟩
          rw [takeS he, smallsOf_snoc, hDl]
          show some (HO.lst _) = some (.lst ((smallsOf ((evOf c g.name).toList.take m) ++ []).map V.str))
          rw [List.append_nil]
        | late f1 m1 =>
          obtain ⟨t2, rest, rfl, ht2, _⟩ := ev_tup hyd'
          refine ⟨rfl, _, rfl, t2, _, 0, _, rfl, rfl, ht2, atI_nat (j := 0) rfl, rfl, _, rfl, iteF ⟨s', ?_⟩⟩
          rw [takeS he, smallsOf_snoc, hDl]
          show some (HO.lst _) = some (.lst ((smallsOf ((evOf c g.name).toList.take m) ++ []).map V.str))
          rw [List.append_nil]
      rintro H7 ⟨s7, hDk⟩
      rw [lw, List.take_length] at hDk
      have hft7 := Same.tup s7 hft6
      have ls : (smallsOf (evOf c g.name).toList).length ≤ 1 := Nat.le_trans (List.length_filterMap_le _ _) el
      refine ⟨_, rfl, ft, _, 5, _, rfl, rfl, hft7, atI_nat (j := 5) rfl, by show 1 ≤ sizeLine; decide, fun p np => ?_⟩
      have s8 := Ln.same_upd (o := .lst [.str g.kind]) np
      refine ⟨Dk, p, _, _, rfl, rfl, s8 _ _ hDk, upd_same, ?_, fun p2 np2 => ?_⟩
      · rw [List.length_map]
        exact Nat.le_of_lt (small1 (by show (smallsOf (evOf c g.name).toList).length + 1 ≤ 100000; omega))
      obtain ⟨tri, htm, htk⟩ := ty_of (kindBy_ok R hev (ok.mem g hgm))
      obtain ⟨tri2, htm2, htk2⟩ := ty_of ok.kin
      have htk2 : tri2.1 = k := htk2
      have e12 : (upd H7 p (.lst [.str g.kind])) p2 = none := np2
      have s9 := Ln.same_upd (o := .lst ((smallsOf (evOf c g.name).toList).map V.str ++ [.str g.kind])) np2
      have hKs : (upd (upd H7 p (.lst [.str g.kind])) p2 (.lst ((smallsOf (evOf c g.name).toList).map V.str ++ [.str g.kind]))) p2 = some (.lst ((smallsOf (evOf c g.name).toList).map V.str ++ [.str g.kind])) := upd_same
      have s39 := ((((s35.trans s6).trans s7).trans s8).trans s9)
      generalize upd (upd H7 p (.lst [.str g.kind])) p2 (.lst ((smallsOf (evOf c g.name).toList).map V.str ++ [.str g.kind])) = H9 at s39 hKs ⊢
      have hk0 : ((smallsOf (evOf c g.name).toList).map V.str ++ [V.str g.kind])[0]? = some (.str tri.1) := by
        have e : (smallsOf (evOf c g.name).toList).map V.str ++ [V.str g.kind] = (smallsOf (evOf c g.name).toList ++ [g.kind]).map V.str := by rw [List.map_append]; rfl
        rw [e, List.getElem?_map, head_smalls, htk]
        rfl
      have hft9 := Same.tup s39 hft3
      have sm9 := sm3.trans s39
      have edep : (if rd > g.dep + waitOf c g.name then rd else g.dep + waitOf c g.name) = depOf c rd g := rfl
      refine ⟨_, rfl, ft, _, 3, _, rfl, rfl, hft9, atI_nat (j := 3) rfl, _, rfl, _, _, rfl, rfl, _, rfl, _, _, rfl, ?_⟩
      rw [edep]
      refine ⟨_, rfl, .inl ⟨rfl, _, SqL.of (s39 _ _ hD3)⟩, _, rfl, _, rfl, _, rfl, _, rfl, ft, _, 4, _, rfl, rfl, hft9, atI_nat (j := 4) rfl, _, _, rfl, rfl, _, rfl, ft, _, 3, _, rfl, rfl, hft9, atI_nat (j := 3) rfl, _, _, rfl, rfl, ?_⟩
      refine ⟨_, rfl, _, rfl, p2, _, 0, _, rfl, rfl, SqL.of hKs, atI_nat (j := 0) hk0, nt, N, tri, rfl, Dp.same sm9 _ _ (noL_net N) hN, R, htm, fun Ha va sa hva => ?_⟩
      obtain ⟨ta, rfl, hta⟩ := tr_at hva
      refine ⟨ta, _, 1, _, rfl, rfl, hta, atI_nat (j := 1) rfl, by show 3 ≤ sizeLine; decide, fun p3 np3 => ?_⟩
      have s3a := s39.trans sa
      have sb := Ln.same_upd (o := .tup [.int (depOf c rd g), .int (depOf c rd g + g.arr - g.dep), .int tri.2.1]) np3
      have hp3 : (upd Ha p3 (.tup [V.int (depOf c rd g), .int (depOf c rd g + g.arr - g.dep), .int tri.2.1])) p3 = some (.tup [V.int (depOf c rd g), .int (depOf c rd g + g.arr - g.dep), .int tri.2.1]) := upd_same
      refine ⟨by show 2 ≤ sizeLine; decide, fun p4 np4 => ?_⟩
      have sc := Ln.same_upd (o := .tup [.str g.name, .ref p3]) np4
      have s3c := (s3a.trans sb).trans sc
      have hp4 : (upd (upd Ha p3 (.tup [V.int (depOf c rd g), .int (depOf c rd g + g.arr - g.dep), .int tri.2.1])) p4 (.tup [.str g.name, .ref p3])) p4 = some (.tup [.str g.name, .ref p3]) := upd_same
      have hp3c := sc _ _ hp3
      generalize upd (upd Ha p3 (.tup [V.int (depOf c rd g), .int (depOf c rd g + g.arr - g.dep), .int tri.2.1])) p4 (.tup [.str g.name, .ref p3]) = Hc at s3c hp4 hp3c ⊢
      have hpv : Dp K Hc (.ref p4) (pvD (g.name, some (depOf c rd g, depOf c rd g + g.arr - g.dep, seatsOf N (kindBy c g)))) := by
        refine .tup (SqT.of hp4) (.cons (.str _) (.cons (.tup (SqT.of hp3c) (.cons (.int _) (.cons (.int _) (.cons ?_ .nil)))) .nil))
        rw [← htk, seats_at R htm]
        exact .int _
      have et : turnOf N k = tri2.2.2 := by rw [← htk2]; exact turn_at R htm2
      have fin2 := done Hc (.ref p4) (some (depOf c rd g, depOf c rd g + g.arr - g.dep, seatsOf N (kindBy c g))) g.fin (depOf c rd g + g.arr - g.dep + tri2.2.2) (some (.str g.name)) (some (.ref ft)) (some (.ref De)) v9 (some (.int (waitOf c g.name))) (some (.ref p2)) (some (.int (depOf c rd g))) s3c hpv (if_neg e') ((if_neg e').trans (by rw [et]))
      have htl2 : SqT K H tl [.str nm, .str tri2.1, .ref rt] := by rw [htk2]; exact htl
      have hDc := s3c _ _ hD3
      refine ⟨D, us, .ref p4, rfl, rfl, hDc, small1 (by omega), ?_⟩
      have bl := But.upd D Hc (.lst (us ++ [.ref p4]))
      have tl' := TpF.but bl hDc
      have hftd := tl'.tup (Same.tup s3c hft3)
      have sHd : Same H (upd Hc D (.lst (us ++ [.ref p4]))) := same_at (sm3.trans s3c) nD
      refine ⟨_, rfl, ft, _, 2, _, rfl, rfl, hftd, atI_nat (j := 2) rfl, ?_⟩
      refine ⟨_, rfl, _, rfl, ft, _, 4, _, rfl, rfl, hftd, atI_nat (j := 4) rfl, _, _, rfl, rfl, _, rfl, ft, _, 3, _, rfl, rfl, hftd, atI_nat (j := 3) rfl, _, _, rfl, rfl, ?_⟩
      refine ⟨_, rfl, _, rfl, tl, _, 1, _, rfl, rfl, Same.tup sHd htl2, atI_nat (j := 1) rfl, nt, N, tri2, rfl, Dp.same sHd _ _ (noL_net N) hN, R, htm2, fun Hz vz sz hvz => ?_⟩
      obtain ⟨tz, rfl, htz⟩ := tr_at hvz
      refine ⟨tz, _, 2, _, rfl, rfl, htz, atI_nat (j := 2) rfl, _, _, rfl, rfl, ?_⟩
      obtain ⟨z1, us', x6, x7, x8, x9, x10, x11, x12, sv', z2, z3, z4, z5⟩ := fin2
      exact ⟨z1.trans sz, us', x6, x7, x8, x9, x10, x11, x12, sv', sz _ _ z2, Dp.tpfAll (TpF.same sz) _ _ (noLs_pv _) z3, z4, z5⟩
    · rintro σ H' ⟨sm, us, v6, v7, v8, v9, v10, v11, v12, sv, hD', hu, hsv, rfl⟩
      refine ⟨_, rfl, ?_⟩
      rw [en, List.map_map, List.length_map, List.take_length] at hu
      refine q H' D us sm nD hD' ?_
      rw [ef]
      have nn : ∀ f ∈ fs, 0 ≤ f.dep + waitOf c f.name := fun f hf => by
        have := (R.flt (ok.mem f hf)).t0
        have := wait_nn hev f.name
        omega
      have e : flyT N c k fs = fly N c (turnOf N k) st0 rd0 fs := by
        cases hfs : fs with
        | nil => rfl
        | cons f0 fs0 =>
          rw [hfs] at est nn
          have : st0 = f0.start := est
          rw [this]
          exact fly_rd _ _ _ _ nn (Int.le_refl _) hrd0
      rw [e]
      exact hu
end
end Mine
set_option Elab.async false
set_option linter.all false
set_option maxRecDepth 100000
set_option maxHeartbeats 8000000
namespace Mine
open PySem PySem.Spec PyProof.Rows L2 Ln RZ
abbrev s_law_due : Stmt := topS 91
abbrev N_law_due : List Str := ["net", "course", "told", "tail", "name", "now", "row"]
theorem sc_law_due : FnScope N_law_due ["net", "course"] (defScope s_law_due) := ⟨rfl, rfl, rfl, by decide +kernel, rfl, by decide +kernel, by decide +kernel⟩
-- slots: 0 net, 1 course, 2 told*, 3 tail, 4 name, 5 now, 6 row
theorem filter_pr {l : List (Str × Dv)} (nd : (l.map (·.1)).Nodup) (x : Str) : l.filter (fun p => decide (p.1 = x)) = (l.find? fun p => decide (p.1 = x)).toList := by
  induction l with
  | nil => rfl
  | cons a c ih =>
    rw [List.map_cons, List.nodup_cons] at nd
    rw [List.filter_cons, List.find?_cons]
    by_cases h : a.1 = x
    · rw [decide_eq_true h, if_pos rfl, List.filter_eq_nil_iff.mpr fun b hb z => nd.1 (by rw [h, ← of_decide_eq_true z]; exact List.mem_map_of_mem hb)]
      rfl
    · rw [decide_eq_false h, if_neg Bool.false_ne_true]
      exact ih nd.2
theorem dv_filter {N : Net} (R : Right N) (c : List Ev) {f : Flt} (hf : f ∈ N.fl) : ((flownA N c N.tl.length).filter fun p => decide (p.1 = f.name)).map (fun p => dayD p.2) = [dayD (dvAt N c f.name)] := by
  have en := flownA_names R (c := c) N.tl.length (Nat.le_refl _)
  rw [filter_pr (by rw [en]; exact R.flownNd _ (Nat.le_refl _))]
  unfold dvAt
  cases h : (flownA N c N.tl.length).find? fun p => decide (p.1 = f.name) with
  | some p => rfl
  | none =>
    have m : f.name ∈ (flownA N c N.tl.length).map (·.1) := by rw [en]; exact R.allFlown hf
    obtain ⟨p, hp, e⟩ := List.mem_map.mp m
    exact absurd (decide_eq_true e) (by have := List.find?_eq_none.mp h p hp; simpa using this)
section
variable {P : Program} {w : World} {K : PySem.W.Frag} {mg : Str → Option Value} {base : Heap} {CC C fI CT fT BE : Addr} {cl : Clss}
theorem pv_at {H : Hp} {v : V} {p : Str × Dv} (h : Dp K H v (pvD p)) : ∃ (t : Addr) (u : V), v = .ref t ∧ SqT K H t [.str p.1, u] ∧ Dp K H u (dayD p.2) := by
  unfold pvD at h
  cases h with | @tup a xs ds p q => cases q with | cons q1 q2 => cases q1; cases q2 with | cons q1 q2 => cases q2; exact ⟨a, _, rfl, p, q1⟩
theorem dp_cat {H : Hp} : ∀ {xs ys : List V} {ds es : List PyData}, DpAll K H xs ds → DpAll K H ys es → DpAll K H (xs ++ ys) (ds ++ es)
  | _, _, _, _, .nil, k => k
  | _, _, _, _, .cons a b, k => .cons a (dp_cat b k)
def spLdu (K : PySem.W.Frag) : Sp := hid fun vs H Q _ => ∃ (nt co : Addr) (N : Net) (c : List Ev), vs = [V.ref nt, .ref co] ∧ Dp K H (.ref nt) (netD N) ∧ Right N ∧ Dp K H (.ref co) (.tuple (c.map evD)) ∧ c.length ≤ 3 ∧ (c.map Ev.flt).Nodup ∧ (∀ e ∈ c, EvOk N e) ∧
  ∀ H' t, Same H H' → Dp K H' (.ref t) (.tuple (actD N c)) → Q (V.ref t) H'
theorem ok_ldu {f : Addr} {fd : FuncData} (F : Fun K "_law_due" "_law_due" s_law_due f fd) (T : LrTxt mg) (c__law_flown : Cg P w K mg base CX0 2 "_law_flown" (spLfl K)) :
    FnG P w K mg base CX0 3 f fd ["net", "course"] (spLdu K) := by
  refine okG F sc_law_due (fun vs H Q E h => ?_) (fun cdv A outer s H vs Q E hG hr h => ?_)
  · obtain ⟨nt, co, N, c, rfl, _⟩ := h
    rfl
  · obtain ⟨nt, co, N, c, rfl, hN, R, hco, l3, nd, hev, q⟩ := h
    refine ⟨_, (pss_cons (ps_set (i := 2) sc_law_due.nd rfl (.inr rfl) (pe_lst pa_nil))
    (pss_cons (ps_for PassesOwn.never rfl (pi_tup (pe_ix (r := rIxT K) ix_tup (pv 0) pe_int (fun _ _ => rfl))) (pg_name (i := 3) sc_law_due.nd rfl (.inl rfl))
    (pss_one (ps_set (i := 2) sc_law_due.nd rfl (.inr rfl) (pe_op op_cat (pv 2) (pe_cg c__law_flown hr (by decide) hG (by rfl) (pa_cons (pv 0) (pa_cons (pv 3) (pa_cons (pv 1) pa_nil))))))))
    (pss_one (ps_ret (pe_callTy (r := Ln.rTupOf K) (T := "tuple") c_tuple (by rfl) T.z_tuple (by decide +kernel) (pa_cons (pe_lc (own := [("row", 6)]) rfl sc_law_due.nd (pi_tup (pe_ix (r := rIxT K) ix_tup (pv 0) pe_int (fun _ _ => rfl))) (blkOk_by (own := [("row", 6)]) (N := N_law_due) (sc := defScope s_law_due) (by decide +kernel)) (fun _ _ _ _ _ => (pg_name (i := 6) sc_law_due.nd rfl (.inr rfl))) (fun _ _ _ _ _ => pts_nil) (fun _ _ _ _ _ => (pe_ix (r := rIxL K) ix_list (pe_lc (own := [("name", 4), ("now", 5)]) (g := (gTup K 2 (gCons (gName 4) (gCons (gName 5) gNil)))) rfl sc_law_due.nd (pi_listK (K := K) (pv 2)) (blkOk_by (own := [("name", 4), ("now", 5)]) (N := N_law_due) (sc := { kind := .function, names := [(".0", .local), ("row", .cell), ("told", .cell)], isGenerator := false, isCoroutine := false }) (by decide +kernel)) (fun _ _ _ _ _ => (pg_tup (by rfl) (pgs_cons (pg_name (i := 4) sc_law_due.nd rfl (.inl rfl)) (pgs_cons (pg_name (i := 5) sc_law_due.nd rfl (.inl rfl)) pgs_nil)))) (fun _ _ _ _ _ => (pts_one (pt_cmpR op_eq (pv 4) (pe_ix (r := rIxT K) ix_tup (pv 6) pe_int (fun _ _ => rfl)) (nomark _)))) (fun _ _ _ _ _ => (pv 5))) pe_int (fun _ _ => rfl)))) pa_nil)))))), ?_⟩
    refine ⟨Nat.zero_le _, fun D0 nD0 => ?_⟩
    obtain ⟨sT, tT, cT, fT, lT, rT, hnet, hst, hty, _, hfl, htl, _⟩ := net_at hN
    obtain ⟨ts, hts, htv⟩ := tup_at htl
    have lts : ts.length = N.tl.length := by rw [DpAll.len htv, List.length_map]
    have s0 := Ln.same_upd (o := .lst []) nD0
    have hD0 : (upd H D0 (.lst [])) D0 = some (.lst []) := upd_same
    generalize upd H D0 (.lst []) = H1 at s0 hD0 ⊢
    refine ⟨_, rfl, nt, _, 4, _, rfl, rfl, Same.tup s0 hnet, rfl, lT, rfl, ⟨_, Same.tup s0 hts⟩, for_it (walk_tup (K := K) (a := lT) (xs := ts)) (fun i σ H' => Same H H' ∧ ∃ (D : Addr) (us : List V) (v3 : Option V), H' D = some (.lst us) ∧ DpAll K H' us ((flownA N c i).map pvD) ∧ σ = [some (.ref nt), some (.ref co), some (.ref D), v3, none, none, none]) ?_ ?_ ?_ ?_⟩
    · exact ⟨s0, D0, [], _, hD0, .nil, rfl⟩
    · rintro i σ H' _ ⟨sm, _⟩
      exact Same.tup sm hts
    · rintro i x σ Hx H' hi ⟨sm, D, us, v3, hD, hu, rfl⟩ ⟨rfl, hx⟩
      obtain ⟨d, hd, hxd⟩ := DpAll.get htv hx
      rw [List.getElem?_map] at hd
      obtain ⟨t, ht, rfl⟩ := Option.map_eq_some_iff.mp hd
      obtain ⟨tl0, rt, rfl, _⟩ := tl_at hxd
      refine ⟨_, rfl, _, rfl, _, rfl, _, rfl, nt, tl0, co, N, c, i, t, rfl, Dp.same sm _ _ (noL_net N) hN, R, ht, Dp.same sm _ _ (noL_tl t) hxd, Dp.same sm _ _ (by simpa only [noL] using noLs_ev c) hco, l3, nd, hev, fun H2 Df vs s2 nDf hDf hv => ?_⟩
      have l1 := DpAll.len hu
      have l2 := DpAll.len hv
      have la := flownA_len (c := c) R i (by omega)
      have la' := flownA_len (c := c) R (i + 1) (by omega)
      have t5 := R.tl5
      rw [flownA_succ ht, List.length_append] at la'
      rw [List.length_map] at l1 l2
      refine ⟨D, Df, us, vs, rfl, rfl, s2 _ _ hD, hDf, Nat.le_of_lt (small1 (by omega)), fun p np => ?_⟩
      have s3 := Ln.same_upd (o := .lst (us ++ vs)) np
      refine ⟨(sm.trans s2).trans s3, p, _, _, upd_same, ?_, rfl⟩
      rw [flownA_succ ht, List.map_append]
      exact Dp.tpfAll (TpF.same s3) _ _ (by rw [← List.map_append]; exact noLs_pv _) (dp_cat (Dp.tpfAll (TpF.same s2) _ _ (noLs_pv _) hu) hv)
    · rintro σ H2 ⟨sm, D, us, v3, hD, hu, rfl⟩
      rw [lts] at hu
      have lu := DpAll.len hu
      have la := flownA_len (c := c) R N.tl.length (Nat.le_refl _)
      have t5 := R.tl5
      rw [List.length_map] at lu
      obtain ⟨gs, hgs, hgv⟩ := tup_at hfl
      have lgs : gs.length = N.fl.length := by rw [DpAll.len hgv, List.length_map]
      have hgs2 := Same.tup sm hgs
      have hgv2 := Dp.tpfAll (TpF.same sm) _ _ (noLs_map noL_fl N.fl) hgv
      have l25 := R.fl25
      refine ⟨_, rfl, nt, _, 3, _, rfl, rfl, Same.tup sm hnet, rfl, fT, rfl, ⟨_, hgs2⟩, fun Dl nDl => lc_it (walk_tup (K := K) (a := fT) (xs := gs)) (fun i H' => Same H2 H' ∧ ∃ ws, H' Dl = some (.lst ws) ∧ DpAll K H' ws ((N.fl.take i).map fun f => dayD (dvAt N c f.name))) ?_ ?_ ?_ ?_⟩
      · exact ⟨Ln.same_upd nDl, [], upd_same, .nil⟩
      · rintro i H' _ ⟨s', _⟩
        exact Same.tup s' hgs2
      · rintro i x Hx H' hi ⟨s', ws, hDl, hw⟩ ⟨rfl, hx⟩
        obtain ⟨d, hd, hxd⟩ := DpAll.get hgv2 hx
        rw [List.getElem?_map] at hd
        obtain ⟨g, hg, rfl⟩ := Option.map_eq_some_iff.mp hd
        obtain ⟨ft, lt, rfl, hft, _⟩ := fl_at (Dp.same s' _ _ (noL_fl g) hxd)
        have hD' := s' _ _ hD
        have hu' := Dp.tpfAll (TpF.same s') _ _ (noLs_pv _) hu
        have lw := DpAll.len hw
        rw [List.length_map, List.length_take] at lw
        refine ⟨rfl, _, rfl, D, rfl, ⟨_, SqL.of hD'⟩, fun Di nDi => lc_it (walk_list (K := K) (a := D) (xs := us)) (fun m H'' => Same H' H'' ∧ ∃ zs, H'' Di = some (.lst zs) ∧ DpAll K H'' zs ((((flownA N c N.tl.length).take m).filter fun p => decide (p.1 = g.name)).map fun p => dayD p.2)) ?_ ?_ ?_ ?_⟩
        · exact ⟨Ln.same_upd nDi, [], upd_same, .nil⟩
        · rintro m H'' _ ⟨s'', _⟩
          exact SqL.of (s'' _ _ hD')
        · rintro m y Hy H'' hm ⟨s'', zs, hDi, hz⟩ ⟨rfl, hy⟩
          obtain ⟨d, hd, hyd⟩ := DpAll.get hu' hy
          rw [List.getElem?_map] at hd
          obtain ⟨p, hp, rfl⟩ := Option.map_eq_some_iff.mp hd
          obtain ⟨t2, u, rfl, ht2, hud⟩ := pv_at (Dp.same s'' _ _ (noL_pv p) hyd)
          refine ⟨t2, _, rfl, ht2, rfl, _, _, rfl, _, _, rfl, rfl, rfl, ?_⟩
          refine ⟨_, rfl, _, rfl, ft, _, 0, _, rfl, rfl, Same.tup s'' hft, atI_nat (j := 0) rfl, rfl, _, rfl, ?_⟩
          have nlz : ∀ l : List (Str × Dv), noLs (l.map fun p => dayD p.2) = true := fun l => noLs_map (fun p => noL_day p.2) l
          have f1 : ([p].filter fun p => decide (p.1 = g.name)) = if decide (p.1 = g.name) = true then [p] else [] := filter1 _ _
          rw [takeS hp, List.filter_append, f1]
          by_cases c1 : p.1 = g.name
          · rw [decide_eq_true (congrArg V.str c1)]
            have lz := DpAll.len hz
            have lf : (((flownA N c N.tl.length).take m).filter fun p => decide (p.1 = g.name)).length ≤ 25 := Nat.le_trans (List.length_filter_le _ _) (by rw [List.length_take]; omega)
            rw [List.length_map] at lz
            have tl' := TpF.but (But.upd Di H'' (.lst (zs ++ [u]))) hDi
            refine iteT ⟨_, rfl, zs, hDi, small1 (by omega), same_at s'' nDi, _, upd_same, ?_⟩
            rw [if_pos (decide_eq_true c1), List.map_append]
            exact DpAll.app (Dp.tpfAll tl' _ _ (nlz _) hz) (Dp.tpf tl' _ _ (noL_day _) hud)
          · rw [decide_eq_false (show ¬ V.str p.1 = V.str g.name from fun z => c1 (by injection z)), if_neg (show ¬ decide (p.1 = g.name) = true from fun z => c1 (of_decide_eq_true z)), List.append_nil]
            exact iteF ⟨s'', zs, hDi, hz⟩
        · rintro H3 ⟨s3, zs, hDi, hz⟩
          rw [lu, List.take_length, dv_filter R c (List.mem_of_getElem? hg)] at hz
          cases hz with
          | @cons z1 z2 d ds q1 q2 =>
            cases q2
            have hDl3 := s3 _ _ hDl
            have tl' := TpF.but (But.upd Dl H3 (.lst (ws ++ [z1]))) hDl3
            have na : ∀ l : List Flt, noLs (l.map fun f => dayD (dvAt N c f.name)) = true := fun l => noLs_map (fun f => noL_day _) l
            refine ⟨Di, _, 0, _, rfl, rfl, SqL.of hDi, atI_nat (j := 0) rfl, ws, hDl3, small1 (by omega), same_at (s'.trans s3) nDl, _, upd_same, ?_⟩
            rw [takeS hg, List.map_append]
            exact DpAll.app (Dp.tpfAll tl' _ _ (na _) (Dp.tpfAll (TpF.same s3) _ _ (na _) hw)) (Dp.tpf tl' _ _ (noL_day _) q1)
      · rintro H3 ⟨s3, ws, hDl, hw⟩
        rw [lgs, List.take_length] at hw
        have hw : DpAll K H3 ws (actD N c) := hw
        refine ⟨Dl, ws, rfl, .inl ⟨SqL.of hDl, fun t nt' => ?_⟩⟩
        have st := Ln.same_upd (o := .tup ws) nt'
        exact q _ t ((sm.trans s3).trans st) (.tup (SqT.of upd_same) (Dp.tpfAll (TpF.same st) _ _ (noLs_act N c) hw))
end
end Mine
set_option Elab.async false
set_option linter.all false
set_option maxRecDepth 100000
set_option maxHeartbeats 8000000
namespace Mine
open PySem PySem.Spec PyProof.Rows L2 Ln RZ
abbrev s_law_one_place : Stmt := topS 92
abbrev N_law_one_place : List Str := ["net", "tail", "told", "names", "row", "flown", "name", "pair", "k"]
theorem sc_law_one_place : FnScope N_law_one_place ["net", "tail", "told"] (defScope s_law_one_place) := ⟨rfl, rfl, rfl, by decide +kernel, rfl, by decide +kernel, by decide +kernel⟩
-- slots: 0 net*, 1 tail, 2 told*, 3 names*, 4 row, 5 flown, 6 name, 7 pair, 8 k
/-! ## one plane is at one place -/
structure LopTxt (mg : Str → Option Value) : Prop where
  z_len : mg "len" = none
  z_range : mg "range" = none
abbrev Fl3 := Flt × Int × Int × Int
def flyS (N : Net) (c : List Ev) (turn : Int) : Str → Int → List Flt → List Fl3
  | _, _, [] => []
  | st, rd, f :: fs => if offB c st f = true then flyS N c turn st rd fs
    else (f, depOf c rd f, depOf c rd f + f.arr - f.dep, seatsOf N (kindBy c f)) :: flyS N c turn f.fin (depOf c rd f + f.arr - f.dep + turn) fs
def FlyOk (turn : Int) : Str → Int → List Fl3 → Prop
  | _, _, [] => True
  | st, rd, (f, a, b, _) :: r => st = f.start ∧ rd ≤ a ∧ FlyOk turn f.fin (b + turn) r
theorem flyS_ok {N : Net} {c : List Ev} {turn : Int} : ∀ (fs : List Flt) (st : Str) (rd : Int), FlyOk turn st rd (flyS N c turn st rd fs)
  | [], _, _ => trivial
  | f :: fs, st, rd => by
    unfold flyS
    by_cases e : offB c st f = true
    · rw [if_pos e]
      exact flyS_ok fs st rd
    · rw [if_neg e]
      refine ⟨?_, ?_, flyS_ok fs _ _⟩
      · unfold offB at e
        have := Bool.eq_false_iff.mpr e
        have := (Bool.or_eq_false_iff.mp this).2
        exact of_decide_eq_true (by simpa using this)
      · show rd ≤ depOf c rd f
        unfold depOf mx
        split <;> omega
theorem FlyOk.at {turn : Int} : ∀ {l : List Fl3} {st : Str} {rd : Int}, FlyOk turn st rd l → ∀ (k : Nat) (x y : Fl3), l[k]? = some x → l[k + 1]? = some y → x.1.fin = y.1.start ∧ x.2.2.1 + turn ≤ y.2.1
  | [], _, _, _, k, x, y, h, _ => by cases h
  | (f, a, b, s) :: r, st, rd, h, 0, x, y, h1, h2 => by
    cases h1
    cases r with
    | nil => cases h2
    | cons z r =>
      obtain ⟨g, a', b', s'⟩ := z
      cases h2
      exact ⟨h.2.2.1, h.2.2.2.1⟩
  | (f, a, b, s) :: r, st, rd, h, k + 1, x, y, h1, h2 => FlyOk.at h.2.2 k x y h1 h2
/-- the flights with what becomes of them -/
def withDv (N : Net) (c : List Ev) (fs : List Flt) : List (Flt × Dv) := fs.map fun f => (f, dvAt N c f.name)
def somes (l : List (Flt × Dv)) : List Fl3 := l.filterMap fun p => p.2.map fun d => (p.1, d)
theorem dvAt_of {N : Net} (R : Right N) {c : List Ev} {p : Str × Dv} (h : p ∈ flownA N c N.tl.length) : dvAt N c p.1 = p.2 := by
  have en := flownA_names R (c := c) N.tl.length (Nat.le_refl _)
  obtain ⟨i, hi⟩ := List.mem_iff_getElem?.mp h
  unfold dvAt
  rw [find_keyN (by rw [en]; exact R.flownNd _ (Nat.le_refl _)) (show (flownA N c N.tl.length)[i]? = some (p.1, p.2) from hi)]
  rfl
theorem fly_with {N : Net} {c : List Ev} {turn : Int} {dv : Str → Dv} : ∀ (fs : List Flt) (st : Str) (rd : Int), (∀ p ∈ fly N c turn st rd fs, dv p.1 = p.2) → somes (fs.map fun f => (f, dv f.name)) = flyS N c turn st rd fs
  | [], _, _, _ => rfl
  | f :: fs, st, rd, h => by
    unfold fly at h
    unfold flyS
    by_cases e : offB c st f = true
    · rw [if_pos e] at h ⊢
      have h0 : dv f.name = none := h _ List.mem_cons_self
      unfold somes
      rw [List.map_cons, List.filterMap_cons, h0]
      exact fly_with fs st rd fun p hp => h p (List.mem_cons_of_mem _ hp)
    · rw [if_neg e] at h ⊢
      have h0 := h _ List.mem_cons_self
      have h0 : dv f.name = some (depOf c rd f, depOf c rd f + f.arr - f.dep, seatsOf N (kindBy c f)) := h0
      unfold somes
      rw [List.map_cons, List.filterMap_cons, h0]
      show _ :: somes (fs.map fun f => (f, dv f.name)) = _
      rw [fly_with fs _ _ fun p hp => h p (List.mem_cons_of_mem _ hp)]
theorem one_place {N : Net} (R : Right N) {c : List Ev} {j : Nat} {t : Str × Str × List Str} {fs : List Flt} (ht : N.tl[j]? = some t) (ok : TailOk N j t fs) (k : Nat) (x y : Fl3) (h1 : (somes (withDv N c fs))[k]? = some x) (h2 : (somes (withDv N c fs))[k + 1]? = some y) : x.1.fin = y.1.start ∧ x.2.2.1 + turnOf N t.2.1 ≤ y.2.1 := by
  have sub : ∀ p ∈ flyT N c t.2.1 fs, dvAt N c p.1 = p.2 := fun p hp => dvAt_of R (List.mem_flatMap.mpr ⟨t, by rw [List.take_length]; exact List.mem_of_getElem? ht, by unfold flownT; rw [ok.fls]; exact hp⟩)
  cases hf : fs with
  | nil => rw [hf] at h1; cases h1
  | cons f0 fs0 =>
    rw [hf] at sub h1 h2
    have e := fly_with (dv := dvAt N c) (turn := turnOf N t.2.1) (f0 :: fs0) f0.start 0 sub
    have e : somes (withDv N c (f0 :: fs0)) = flyS N c (turnOf N t.2.1) f0.start 0 (f0 :: fs0) := e
    rw [e] at h1 h2
    exact (flyS_ok _ _ _).at k x y h1 h2
def prfD (p : Flt × Dv) : PyData := .tuple [flD p.1, dayD p.2]
theorem noL_prf (p : Flt × Dv) : noL (prfD p) = true := by
  unfold prfD
  simp [noL, noLs, noL_day, noL_fl]
theorem noLs_prf (l : List (Flt × Dv)) : noLs (l.map prfD) = true := noLs_map noL_prf l
def fl3D (x : Fl3) : PyData := .tuple [flD x.1, .tuple [.int x.2.1, .int x.2.2.1, .int x.2.2.2]]
theorem noL_fl3 (x : Fl3) : noL (fl3D x) = true := by
  unfold fl3D
  simp [noL, noLs, noL_fl]
theorem somes_eq : ∀ l : List (Flt × Dv), (l.filter fun p => p.2.isSome).map prfD = (somes l).map fl3D
  | [] => rfl
  | (f, none) :: l => by
    rw [List.filter_cons, if_neg (by simp), somes_eq l]
    rfl
  | (f, some (a, b, s)) :: l => by
    rw [List.filter_cons, if_pos (show ((f, some (a, b, s)) : Flt × Dv).2.isSome = true from rfl), List.map_cons, somes_eq l]
    rfl
theorem somes_len (l : List (Flt × Dv)) : (somes l).length ≤ l.length := List.length_filterMap_le _ _
section
variable {P : Program} {w : World} {K : PySem.W.Frag} {mg : Str → Option Value} {base : Heap} {CC C fI CT fT BE : Addr} {cl : Clss}
theorem fl3_at {H : Hp} {v : V} {x : Fl3} (h : Dp K H v (fl3D x)) : ∃ p f d lt : Addr, v = .ref p ∧ SqT K H p [.ref f, .ref d] ∧ SqT K H f [.str x.1.name, .str x.1.start, .str x.1.fin, .int x.1.dep, .int x.1.arr, .str x.1.kind, .int x.1.dist, .ref lt] ∧ SqT K H d [.int x.2.1, .int x.2.2.1, .int x.2.2.2] := by
  unfold fl3D at h
  cases h with | @tup a xs ds p q => cases q with | cons q1 q2 => cases q2 with | cons q3 q4 => cases q4; obtain ⟨f, lt, rfl, hf, _⟩ := fl_at q1; cases q3 with | @tup a' xs' ds' p' q' => cases q' with | cons r1 r2 => cases r1; cases r2 with | cons r1 r2 => cases r1; cases r2 with | cons r1 r2 => cases r1; cases r2; exact ⟨a, f, a', lt, rfl, p, hf, p'⟩
def spLop (K : PySem.W.Frag) : Sp := hid fun vs H Q _ => ∃ (nt tl to : Addr) (N : Net) (c : List Ev) (j : Nat) (t : Str × Str × List Str), vs = [V.ref nt, .ref tl, .ref to] ∧ Dp K H (.ref nt) (netD N) ∧ Right N ∧ N.tl[j]? = some t ∧ Dp K H (.ref tl) (tlD t) ∧ Dp K H (.ref to) (.tuple (actD N c)) ∧
  ∀ H', Same H H' → Q (.bl true) H'
theorem ok_lop {f : Addr} {fd : FuncData} (F : Fun K "_law_one_place" "_law_one_place" s_law_one_place f fd) (T : LopTxt mg) (c__law_row : Cg P w K mg base CX0 1 "_law_row" (spRow K)) (c__law_kind : Cg P w K mg base CX0 1 "_law_kind" (spKnd K)) :
    FnG P w K mg base CX0 2 f fd ["net", "tail", "told"] (spLop K) := by
  refine okG F sc_law_one_place (fun vs H Q E h => ?_) (fun cdv A outer s H vs Q E hG hr h => ?_)
  · obtain ⟨nt, tl, to, N, c, j, t, rfl, _⟩ := h
    rfl
  · obtain ⟨nt, tl, to, N, c, j, ⟨nm, k, ns⟩, rfl, hN, R, ht, hT, hto, q⟩ := h
    refine ⟨_, (pss_cons (ps_set (i := 3) sc_law_one_place.nd rfl (.inr rfl) (pe_lc (own := [("row", 4)]) rfl sc_law_one_place.nd (pi_tup (pe_ix (r := rIxT K) ix_tup (pv 0) pe_int (fun _ _ => rfl))) (blkOk_by (own := [("row", 4)]) (N := N_law_one_place) (sc := defScope s_law_one_place) (by decide +kernel)) (fun _ _ _ _ _ => (pg_name (i := 4) sc_law_one_place.nd rfl (.inl rfl))) (fun _ _ _ _ _ => pts_nil) (fun _ _ _ _ _ => (pe_ix (r := rIxT K) ix_tup (pv 4) pe_int (fun _ _ => rfl)))))
    (pss_cons (ps_setLc (i := 5) (own := [("name", 6)]) rfl sc_law_one_place.nd rfl rfl (sw_true rfl rfl rfl (by decide +kernel)) (pi_tup (pe_ix (r := rIxT K) ix_tup (pv 1) pe_int (fun _ _ => rfl))) (blkOk_by (own := [("name", 6)]) (N := N_law_one_place) (sc := defScope s_law_one_place) (by decide +kernel)) (fun _ _ _ _ _ => (pg_name (i := 6) sc_law_one_place.nd rfl (.inl rfl))) (fun _ _ _ _ _ => pts_nil) (fun _ _ _ _ _ => (pe_tup (pa_cons (pe_cg c__law_row hr (by decide) hG (by rfl) (pa_cons (pv 0) (pa_cons (pv 6) pa_nil))) (pa_cons (pe_ix (r := rIxT K) ix_tup (pv 2) (pe_bmK (K := K) PySem.F.plainAttrs_list PySem.F.slot_list_index PySem.F.type_list_index (mt_indexK (K := K)) (pv 3) (pa_cons (pv 6) pa_nil)) (fun _ _ => rfl)) pa_nil)))))
    (pss_cons (ps_setLc (i := 5) (own := [("pair", 7)]) rfl sc_law_one_place.nd rfl rfl (sw_true rfl rfl rfl (by decide +kernel)) (pi_list (pv 5)) (blkOk_by (own := [("pair", 7)]) (N := N_law_one_place) (sc := defScope s_law_one_place) (by decide +kernel)) (fun _ _ _ _ _ => (pg_name (i := 7) sc_law_one_place.nd rfl (.inl rfl))) (fun _ _ _ _ _ => (pts_one (pt_cmpR op_notN (pe_ix (r := rIxT K) ix_tup (pv 7) pe_int (fun _ _ => rfl)) pe_non (nomark _)))) (fun _ _ _ _ _ => (pv 7)))
    (pss_cons (ps_for PassesOwn.never rfl (pi_range1 (by rfl) T.z_range (pa_cons (pe_op op_sub (pe_callB (r := Ln.rLen K) (id := "len") c_len (by rfl) T.z_len (by decide +kernel) (pa_cons (pv 5) pa_nil)) pe_int) pa_nil)) (pg_name (i := 8) sc_law_one_place.nd rfl (.inl rfl))
    (pss_one (ps_if (PW.pt (pw_or (pt_cmpR op_ne (pe_ix (r := rIx K) ix_seq (pe_ix (r := rIx K) ix_seq (pe_ix (r := rIxL K) ix_list (pv 5) (pv 8) (fun _ _ => rfl)) pe_int (fun _ _ => rfl)) pe_int (fun _ _ => rfl)) (pe_ix (r := rIx K) ix_seq (pe_ix (r := rIx K) ix_seq (pe_ix (r := rIxL K) ix_list (pv 5) (pe_op op_add (pv 8) pe_int) (fun _ _ => rfl)) pe_int (fun _ _ => rfl)) pe_int (fun _ _ => rfl)) (nomark _)) (pw_or1 (pt_cmpR op_gt (pe_op op_add (pe_ix (r := rIx K) ix_seq (pe_ix (r := rIx K) ix_seq (pe_ix (r := rIxL K) ix_list (pv 5) (pv 8) (fun _ _ => rfl)) pe_int (fun _ _ => rfl)) pe_int (fun _ _ => rfl)) (pe_ix (r := rIxT K) ix_tup (pe_cg c__law_kind hr (by decide) hG (by rfl) (pa_cons (pv 0) (pa_cons (pe_ix (r := rIxT K) ix_tup (pv 1) pe_int (fun _ _ => rfl)) pa_nil))) pe_int (fun _ _ => rfl))) (pe_ix (r := rIx K) ix_seq (pe_ix (r := rIx K) ix_seq (pe_ix (r := rIxL K) ix_list (pv 5) (pe_op op_add (pv 8) pe_int) (fun _ _ => rfl)) pe_int (fun _ _ => rfl)) pe_int (fun _ _ => rfl)) (nomark _)))))
    (pss_one (ps_ret pe_bl))
    pss_nil)))
    (pss_one (ps_ret pe_bl)))))), ?_⟩
    obtain ⟨sT, tT, cT, fT, lT, rT, hnet, hst, hty, _, hfl, htl, _⟩ := net_at hN
    obtain ⟨gs, hgs, hgv⟩ := tup_at hfl
    have lgs : gs.length = N.fl.length := by rw [DpAll.len hgv, List.length_map]
    have l25 := R.fl25
    obtain ⟨tl0, rt, e0, htl, hrt⟩ := tl_at hT
    cases e0
    have htl : SqT K H tl [.str nm, .str k, .ref rt] := htl
    have hrt : SqT K H rt (ns.map V.str) := hrt
    obtain ⟨fs, ok⟩ := R.tailAt ht
    have en : ns = fs.map Flt.name := ok.nms
    have f5 := ok.l5
    obtain ⟨ws, hws, hwv⟩ := tup_at hto
    have lws : ws.length = N.fl.length := by rw [DpAll.len hwv]; unfold actD; rw [List.length_map]
    refine ⟨_, rfl, nt, _, 3, _, rfl, rfl, hnet, atI_nat (j := 3) rfl, fT, rfl, ⟨_, hgs⟩, fun D1 nD1 => lc_it (walk_tup (K := K) (a := fT) (xs := gs)) (fun i H' => Same H H' ∧ H' D1 = some (.lst (((N.fl.take i).map Flt.name).map V.str))) ?_ ?_ ?_ ?_⟩
    · exact ⟨Ln.same_upd nD1, upd_same⟩
    · rintro i H' _ ⟨sm, _⟩
      exact Same.tup sm hgs
    · rintro i x Hx H' hi ⟨sm, hD1⟩ ⟨rfl, hx⟩
      obtain ⟨d, hd, hxd⟩ := DpAll.get hgv hx
      rw [List.getElem?_map] at hd
      obtain ⟨g, hg, rfl⟩ := Option.map_eq_some_iff.mp hd
      obtain ⟨ft, lt, rfl, hft, _⟩ := fl_at (Dp.same sm _ _ (noL_fl g) hxd)
      refine ⟨rfl, _, rfl, ft, _, 0, _, rfl, rfl, hft, atI_nat (j := 0) rfl, _, hD1, ?_, same_at sm nD1, ?_⟩
      · rw [List.length_map, List.length_map, List.length_take]
        exact small1 (by omega)
      · rw [upd_same, takeS hg, List.map_append, List.map_append]
        rfl
    rintro H1 ⟨s1, hD1⟩
    rw [lgs, List.take_length] at hD1
    have hrt1 := Same.tup s1 hrt
    refine ⟨_, rfl, tl, _, 2, _, rfl, rfl, Same.tup s1 htl, atI_nat (j := 2) rfl, rt, rfl, ⟨_, hrt1⟩, fun D2 nD2 => lc_it (walk_tup (K := K) (a := rt) (xs := ns.map V.str)) (fun i H' => Same H1 H' ∧ ∃ us, H' D2 = some (.lst us) ∧ DpAll K H' us ((withDv N c (fs.take i)).map prfD)) ?_ ?_ ?_ ?_⟩
    · exact ⟨Ln.same_upd nD2, [], upd_same, .nil⟩
    · rintro i H' _ ⟨sm, _⟩
      exact Same.tup sm hrt1
    · rintro i x Hx H' hi ⟨sm, us, hD2, hu⟩ ⟨rfl, hx⟩
      rw [en, List.map_map, List.getElem?_map] at hx
      obtain ⟨g, hg, rfl⟩ := Option.map_eq_some_iff.mp hx
      have hgm := ok.mem g (List.mem_of_getElem? hg)
      obtain ⟨j0, hj0⟩ := List.mem_iff_getElem?.mp hgm
      have j25 := (List.getElem?_eq_some_iff.mp hj0).1
      have s01 := s1.trans sm
      refine ⟨rfl, _, rfl, _, rfl, nt, N, g, rfl, Dp.same s01 _ _ (noL_net N) hN, R, hgm, fun H2 v s2 hv => ?_⟩
      have s12 := sm.trans s2
      have s02 := s1.trans s12
      have hD12 := s12 _ _ hD1
      obtain ⟨u, hu0⟩ : ∃ u, ws[j0]? = some u := ⟨_, List.getElem?_eq_getElem (by omega)⟩
      obtain ⟨d, hd, hud⟩ := DpAll.get hwv hu0
      have ed : d = dayD (dvAt N c g.name) := by
        unfold actD at hd
        rw [List.getElem?_map, hj0] at hd
        exact (Option.some.inj hd).symm
      rw [ed] at hud
      have nmj : ((N.fl.map Flt.name).map V.str)[j0]? = some (V.str g.name) := by rw [List.getElem?_map, List.getElem?_map, hj0]; rfl
      refine ⟨_, rfl, _, rfl, .inl ⟨rfl, _, SqL.of hD12⟩, _, rfl, D1, _, .str g.name, j0, .str g.name, rfl, rfl, SqL.of hD12, rfl, flat_strs _, nmj, beq_self_eq_true _, fun m z' hm hz' => ?_, ?_⟩
      · rw [List.getElem?_map, List.getElem?_map] at hz'
        obtain ⟨s', hs', rfl⟩ := Option.map_eq_some_iff.mp hz'
        obtain ⟨g', hg', rfl⟩ := Option.map_eq_some_iff.mp hs'
        refine beq_eq_false_iff_ne.mpr fun e => ?_
        have h1 : (N.fl.map Flt.name)[j0]? = some g.name := by rw [List.getElem?_map, hj0]; rfl
        refine nodup_take R.flNodup h1 ?_
        rw [← e]
        refine List.mem_iff_getElem?.mpr ⟨m, ?_⟩
        rw [List.getElem?_take, if_pos hm, List.getElem?_map, hg']
        rfl
      refine ⟨to, ws, (j0 : Nat), u, rfl, rfl, Same.tup s02 hws, atI_nat hu0, by show 2 ≤ sizeLine; decide, fun p np => ?_⟩
      have s3 := Ln.same_upd (o := .tup [v, u]) np
      have hpd : Dp K (upd H2 p (.tup [v, u])) (.ref p) (prfD (g, dvAt N c g.name)) := .tup (SqT.of upd_same) (.cons (Dp.same s3 _ _ (noL_fl g) hv) (.cons (Dp.same (s02.trans s3) _ _ (noL_day _) hud) .nil))
      have hD23 := (s2.trans s3) _ _ hD2
      have lu := DpAll.len hu
      unfold withDv at lu
      rw [List.length_map, List.length_map, List.length_take] at lu
      have tl' := TpF.but (But.upd D2 (upd H2 p (.tup [v, u])) (.lst (us ++ [.ref p]))) hD23
      refine ⟨us, hD23, small1 (by omega), same_at (s12.trans s3) nD2, _, upd_same, ?_⟩
      have ew : withDv N c (fs.take (i + 1)) = withDv N c (fs.take i) ++ [(g, dvAt N c g.name)] := by
        unfold withDv
        rw [takeS hg, List.map_append]
        rfl
      rw [ew, List.map_append]
      exact DpAll.app (Dp.tpfAll tl' _ _ (noLs_prf _) (Dp.tpfAll (TpF.same (s2.trans s3)) _ _ (noLs_prf _) hu)) (Dp.tpf tl' _ _ (noL_prf _) hpd)
    rintro H2 ⟨s2, us, hD2, hu⟩
    rw [en, List.map_map, List.length_map, List.take_length] at hu
    have lu := DpAll.len hu
    rw [List.length_map] at lu
    have lw : (withDv N c fs).length = fs.length := by unfold withDv; rw [List.length_map]
    refine ⟨_, rfl, D2, rfl, ⟨_, SqL.of hD2⟩, fun D3 nD3 => lc_it (walk_list (K := K) (a := D2) (xs := us)) (fun i H' => Same H2 H' ∧ ∃ zs, H' D3 = some (.lst zs) ∧ DpAll K H' zs ((((withDv N c fs).take i).filter fun p => p.2.isSome).map prfD)) ?_ ?_ ?_ ?_⟩
    · exact ⟨Ln.same_upd nD3, [], upd_same, .nil⟩
    · rintro i H' _ ⟨sm, _⟩
      exact SqL.of (sm _ _ hD2)
    · rintro i x Hx H' hi ⟨sm, zs, hD3, hz⟩ ⟨rfl, hx⟩
      obtain ⟨d, hd, hxd⟩ := DpAll.get hu hx
      rw [List.getElem?_map] at hd
      obtain ⟨⟨g, dv⟩, hg, rfl⟩ := Option.map_eq_some_iff.mp hd
      have hxd' := Dp.same sm _ _ (noL_prf _) hxd
      obtain ⟨p, w1, u, rfl, hp, hdv⟩ : ∃ (p : Addr) (w1 u : V), x = .ref p ∧ SqT K H' p [w1, u] ∧ Dp K H' u (dayD dv) := by
        have h := hxd'
        unfold prfD at h
        cases h with | @tup a xs ds p q => cases q with | cons q1 q2 => cases q2 with | cons q3 q4 => cases q4; exact ⟨a, _, _, rfl, p, q3⟩
      refine ⟨rfl, _, rfl, p, _, 1, _, rfl, rfl, hp, atI_nat (j := 1) rfl, rfl, _, rfl, ?_⟩
      have f1 : ([(g, dv)].filter fun p : Flt × Dv => p.2.isSome) = if dv.isSome = true then [(g, dv)] else [] := filter1 _ _
      rw [takeS hg, List.filter_append, f1]
      have lz := DpAll.len hz
      have lf : (((withDv N c fs).take i).filter fun p => p.2.isSome).length ≤ 5 := Nat.le_trans (List.length_filter_le _ _) (by rw [List.length_take]; omega)
      rw [List.length_map] at lz
      cases dv with
      | none =>
        cases hdv
        rw [if_neg (by simp), List.append_nil]
        exact iteF ⟨sm, zs, hD3, hz⟩
      | some abs =>
        obtain ⟨a, b, s⟩ := abs
        have tl' := TpF.but (But.upd D3 H' (.lst (zs ++ [.ref p]))) hD3
        cases hdv with
        | @tup q xs ds h1 h2 =>
          rw [if_pos (show (some (a, b, s) : Dv).isSome = true from rfl), List.map_append]
          refine iteT ⟨_, rfl, zs, hD3, small1 (by omega), same_at sm nD3, _, upd_same, ?_⟩
          exact DpAll.app (Dp.tpfAll tl' _ _ (noLs_prf _) hz) (Dp.tpf tl' _ _ (noL_prf _) hxd')
    rintro H3 ⟨s3, zs, hD3, hz⟩
    rw [lu, List.take_length, somes_eq] at hz
    have lz := DpAll.len hz
    rw [List.length_map] at lz
    have l5 := somes_len (withDv N c fs)
    have s03 := (s1.trans s2).trans s3
    refine ⟨_, rfl, .ref D3, zs.length, rfl, .inl ⟨_, SqL.of hD3, rfl⟩, _, _, rfl, rfl, _, rfl, by omega, by omega, for_range (lo := 0) (n := ((zs.length : Int) - 1).toNat) (fun m σ H' => Same H3 H' ∧ ∃ v4 v6 v7 v8, σ = [some (.ref nt), some (.ref tl), some (.ref to), some (.ref D1), v4, some (.ref D3), v6, v7, v8]) ?_ ?_ ?_⟩
    · exact ⟨Same.refl _, _, _, _, _, rfl⟩
    · rintro m σ H' hm ⟨sm, v4, v6, v7, v8, rfl⟩
      obtain ⟨x, hx⟩ : ∃ x, (somes (withDv N c fs))[m]? = some x := ⟨_, List.getElem?_eq_getElem (by omega)⟩
      obtain ⟨y, hy⟩ : ∃ y, (somes (withDv N c fs))[m + 1]? = some y := ⟨_, List.getElem?_eq_getElem (by omega)⟩
      obtain ⟨op1, op2⟩ := one_place R ht ok m x y hx hy
      have hz' := Dp.tpfAll (TpF.same sm) _ _ (noLs_map noL_fl3 _) hz
      obtain ⟨vx, hvx⟩ : ∃ v, zs[m]? = some v := ⟨_, List.getElem?_eq_getElem (by omega)⟩
      obtain ⟨vy, hvy⟩ : ∃ v, zs[m + 1]? = some v := ⟨_, List.getElem?_eq_getElem (by omega)⟩
      obtain ⟨d, hd, hxd⟩ := DpAll.get hz' hvx
      rw [List.getElem?_map, hx] at hd
      cases hd
      obtain ⟨d, hd, hyd⟩ := DpAll.get hz' hvy
      rw [List.getElem?_map, hy] at hd
      cases hd
      obtain ⟨px, fx, dxx, ltx, rfl, hpx, hfx, hdx⟩ := fl3_at hxd
      obtain ⟨py, fy, dyy, lty, rfl, hpy, hfy, hdy⟩ := fl3_at hyd
      have hD3' := SqL.of (K := K) (sm _ _ hD3)
      have ax : atI zs (0 + (m : Int)) = some (.ref px) := by rw [Int.zero_add]; exact atI_nat hvx
      have ay : atI zs (0 + (m : Int) + 1) = some (.ref py) := by
        rw [show (0 + (m : Int) + 1) = ((m + 1 : Nat) : Int) by omega]
        exact atI_nat hvy
      refine ⟨_, rfl, _, rfl, D3, zs, _, _, rfl, rfl, hD3', ax, .inr (.inl ⟨px, _, 0, _, rfl, rfl, hpx, atI_nat (j := 0) rfl, .inr (.inl ⟨fx, _, 2, _, rfl, rfl, hfx, atI_nat (j := 2) rfl, ?_⟩)⟩)⟩
      refine ⟨_, rfl, _, rfl, _, _, rfl, rfl, D3, zs, _, _, rfl, rfl, hD3', ay, .inr (.inl ⟨py, _, 0, _, rfl, rfl, hpy, atI_nat (j := 0) rfl, .inr (.inl ⟨fy, _, 1, _, rfl, rfl, hfy, atI_nat (j := 1) rfl, rfl, _, rfl, ?_⟩)⟩)⟩
      rw [decide_eq_true (congrArg V.str op1)]
      refine iteF ?_
      obtain ⟨tri, htm, htk⟩ := ty_of ok.kin
      have htk : tri.1 = k := htk
      subst htk
      refine ⟨_, rfl, _, rfl, D3, zs, _, _, rfl, rfl, hD3', ax, .inr (.inl ⟨px, _, 1, _, rfl, rfl, hpx, atI_nat (j := 1) rfl, .inr (.inl ⟨dxx, _, 1, _, rfl, rfl, hdx, atI_nat (j := 1) rfl, ?_⟩)⟩)⟩
      refine ⟨_, rfl, _, rfl, tl, _, 1, _, rfl, rfl, Same.tup (s03.trans sm) htl, atI_nat (j := 1) rfl, nt, N, tri, rfl, Dp.same (s03.trans sm) _ _ (noL_net N) hN, R, htm, fun Hz vz sz hvz => ?_⟩
      obtain ⟨tz, rfl, htz⟩ := tr_at hvz
      refine ⟨tz, _, 2, _, rfl, rfl, htz, atI_nat (j := 2) rfl, _, _, rfl, rfl, ?_⟩
      refine ⟨_, rfl, _, rfl, _, _, rfl, rfl, D3, zs, _, _, rfl, rfl, SqL.of ((sm.trans sz) _ _ hD3), ay, .inr (.inl ⟨py, _, 1, _, rfl, rfl, Same.tup sz hpy, atI_nat (j := 1) rfl, .inr (.inl ⟨dyy, _, 0, _, rfl, rfl, Same.tup sz hdy, atI_nat (j := 0) rfl, _, _, rfl, rfl, _, rfl, ?_⟩)⟩)⟩
      have op2 : x.2.2.1 + turnOf N tri.1 ≤ y.2.1 := op2
      rw [turn_at R htm] at op2
      rw [decide_eq_false (show ¬ y.2.1 < x.2.2.1 + tri.2.2 by omega)]
      exact iteF ⟨sm.trans sz, _, _, _, _, rfl⟩
    · rintro σ H' ⟨sm, v4, v6, v7, v8, rfl⟩
      exact q H' (s03.trans sm)
end
end Mine
set_option Elab.async false
set_option linter.all false
set_option maxRecDepth 100000
set_option maxHeartbeats 8000000
namespace Mine
open PySem PySem.Spec PyProof.Rows L2 Ln RZ
/-! ## days are small -/
def DvOk : Dv → Prop
  | none => True
  | some (a, b, s) => (0 ≤ a ∧ a ≤ 1000000) ∧ (0 ≤ b ∧ b ≤ 1000000) ∧ (0 ≤ s ∧ s ≤ 500)
theorem wait_le {N : Net} {c : List Ev} (ok : ∀ e ∈ c, EvOk N e) (x : Str) : waitOf c x ≤ 1440 := by
  unfold waitOf
  cases h : evOf c x with
  | none => show (0 : Int) ≤ 1440; omega
  | some e =>
    have m := List.mem_of_find?_eq_some h
    cases e with
    | late f m' =>
      have := (ok _ m).late
      show m' ≤ 1440
      omega
    | _ => show (0 : Int) ≤ 1440; omega
theorem fly_small {N : Net} {c : List Ev} {turn : Int} (ht : 0 ≤ turn ∧ turn ≤ 120) (hw : ∀ x, 0 ≤ waitOf c x ∧ waitOf c x ≤ 1440) : ∀ (fs : List Flt) (st : Str) (rd B : Int), (∀ f ∈ fs, 0 ≤ f.dep ∧ f.dep < f.arr ∧ f.arr ≤ 8000) → (∀ f ∈ fs, 0 ≤ seatsOf N (kindBy c f) ∧ seatsOf N (kindBy c f) ≤ 500) → 0 ≤ rd → rd ≤ B → 10000 ≤ B → ∀ p ∈ fly N c turn st rd fs, ∀ a b s, p.2 = some (a, b, s) → (0 ≤ a ∧ a ≤ B + 9000 * fs.length) ∧ (0 ≤ b ∧ b ≤ B + 9000 * fs.length) ∧ (0 ≤ s ∧ s ≤ 500)
  | [], _, _, _, _, _, _, _, _, p, hp, _, _, _, _ => by cases hp
  | f :: fs, st, rd, B, hf, hs, h0, hB, h1, p, hp, a, b, s, e => by
    have f1 := hf f List.mem_cons_self
    have w1 := hw f.name
    have hl : (((f :: fs).length : Nat) : Int) = (fs.length : Int) + 1 := by rw [List.length_cons]; omega
    rw [hl]
    unfold fly at hp
    by_cases o : offB c st f = true
    · rw [if_pos o] at hp
      rcases List.mem_cons.mp hp with hp | hp
      · rw [hp] at e; cases e
      · have := fly_small ht hw fs st rd B (fun g hg => hf g (List.mem_cons_of_mem _ hg)) (fun g hg => hs g (List.mem_cons_of_mem _ hg)) h0 hB h1 p hp a b s e
        omega
    · rw [if_neg o] at hp
      have hd : 0 ≤ depOf c rd f ∧ depOf c rd f ≤ B := by
        unfold depOf mx
        split <;> omega
      rcases List.mem_cons.mp hp with hp | hp
      · rw [hp] at e
        cases e
        have := hs f List.mem_cons_self
        omega
      · have := fly_small ht hw fs f.fin (depOf c rd f + f.arr - f.dep + turn) (B + 9000) (fun g hg => hf g (List.mem_cons_of_mem _ hg)) (fun g hg => hs g (List.mem_cons_of_mem _ hg)) (by omega) (by omega) (by omega) p hp a b s e
        omega
theorem seats_rg {N : Net} (R : Right N) {k : Str} (h : k ∈ tnames N) : 0 ≤ seatsOf N k ∧ seatsOf N k ≤ 500 := by
  obtain ⟨t, ht, e⟩ := ty_of h
  rw [← e, seats_at R ht]
  have := R.ty.rg t ht
  omega
theorem turn_rg {N : Net} (R : Right N) {k : Str} (h : k ∈ tnames N) : 0 ≤ turnOf N k ∧ turnOf N k ≤ 120 := by
  obtain ⟨t, ht, e⟩ := ty_of h
  rw [← e, turn_at R ht]
  have := R.ty.rg t ht
  omega
theorem flyT_small {N : Net} (R : Right N) {c : List Ev} (ok : ∀ e ∈ c, EvOk N e) {j : Nat} {t : Str × Str × List Str} {fs : List Flt} (h : TailOk N j t fs) : ∀ p ∈ flyT N c t.2.1 fs, DvOk p.2 := fun p hp => by
  obtain ⟨x, d⟩ := p
  cases d with
  | none => trivial
  | some d =>
    obtain ⟨a, b, s⟩ := d
    cases hf : fs with
    | nil => rw [hf] at hp; cases hp
    | cons f0 fs0 =>
      have l5 := h.l5
      rw [hf] at hp
      have := fly_small (turn_rg R h.kin) (fun x => ⟨wait_nn ok x, wait_le ok x⟩) (f0 :: fs0) f0.start 0 10000 (fun f hm => by have := R.flt (h.mem f (by rw [hf]; exact hm)); exact ⟨this.t0, this.t1, this.t2⟩) (fun f hm => seats_rg R (kindBy_ok R ok (h.mem f (by rw [hf]; exact hm)))) (Int.le_refl _) (by omega) (Int.le_refl _) (x, some (a, b, s)) hp a b s rfl
      rw [hf] at l5
      show (0 ≤ a ∧ a ≤ 1000000) ∧ (0 ≤ b ∧ b ≤ 1000000) ∧ (0 ≤ s ∧ s ≤ 500)
      omega
/-- a flight stands in a tail -/
theorem Right.inTail {N : Net} (R : Right N) {f : Flt} (hf : f ∈ N.fl) : ∃ j t fs, N.tl[j]? = some t ∧ TailOk N j t fs ∧ f ∈ fs := by
  have h := R.allFlown hf
  unfold flown at h
  rw [List.take_length] at h
  obtain ⟨t, ht, hx⟩ := List.mem_flatMap.mp h
  obtain ⟨j, hj⟩ := List.mem_iff_getElem?.mp ht
  obtain ⟨fs, ok⟩ := R.tailAt hj
  rw [ok.nms] at hx
  obtain ⟨g, hg, e⟩ := List.mem_map.mp hx
  have h1 := find_nm R.flNodup hf
  have h2 := find_nm R.flNodup (ok.mem g hg)
  rw [e, h1] at h2
  cases h2
  exact ⟨j, t, fs, hj, ok, hg⟩
theorem flyT_has {N : Net} {c : List Ev} {k : Str} {fs : List Flt} {f : Flt} (h : f ∈ fs) : ∃ d, (f.name, d) ∈ flyT N c k fs := by
  have e := flyT_names (N := N) (c := c) (k := k) fs
  have m : f.name ∈ (flyT N c k fs).map (·.1) := by rw [e]; exact List.mem_map_of_mem h
  obtain ⟨p, hp, e2⟩ := List.mem_map.mp m
  exact ⟨p.2, by rw [← e2]; exact hp⟩
theorem in_flownA {N : Net} {c : List Ev} {j : Nat} {t : Str × Str × List Str} {fs : List Flt} (hj : N.tl[j]? = some t) (ok : TailOk N j t fs) {p : Str × Dv} (h : p ∈ flyT N c t.2.1 fs) : p ∈ flownA N c N.tl.length := by
  unfold flownA
  rw [List.take_length]
  exact List.mem_flatMap.mpr ⟨t, List.mem_of_getElem? hj, by unfold flownT; rw [ok.fls]; exact h⟩
theorem dvAt_small {N : Net} (R : Right N) {c : List Ev} (ok : ∀ e ∈ c, EvOk N e) {f : Flt} (hf : f ∈ N.fl) : DvOk (dvAt N c f.name) := by
  obtain ⟨j, t, fs, hj, h, hm⟩ := R.inTail hf
  obtain ⟨d, hd⟩ := flyT_has (N := N) (c := c) (k := t.2.1) hm
  have := dvAt_of R (in_flownA hj h hd)
  rw [show dvAt N c f.name = d from this]
  exact flyT_small R ok h _ hd
theorem sm_day {d : Dv} (h : DvOk d) : Sm (dayD d) 1 126 := by
  match d, h with
  | none, _ => exact Sm.none.mono (by decide) (by decide)
  | some (a, b, s), h =>
    have h : (0 ≤ a ∧ a ≤ 1000000) ∧ (0 ≤ b ∧ b ≤ 1000000) ∧ (0 ≤ s ∧ s ≤ 500) := h
    refine sm_list3 (fun d hd => ?_) (by show 3 ≤ 3; decide)
    simp only [List.mem_cons, List.not_mem_nil, or_false] at hd
    rcases hd with rfl | rfl | rfl
    · exact Sm.int (by omega)
    · exact Sm.int (by omega)
    · exact Sm.int (by omega)
theorem sm_act {N : Net} (R : Right N) {c : List Ev} (ok : ∀ e ∈ c, EvOk N e) : Sm (.tuple (actD N c)) 2 4000 := by
  refine (Sm.tup (k := 1) (m := 126) (n := 25) (fun d hd => ?_) (by unfold actD; rw [List.length_map]; exact R.fl25)).mono (Nat.le_refl _) (by decide)
  obtain ⟨f, hf, rfl⟩ := List.mem_map.mp hd
  exact sm_day (dvAt_small R ok hf)
/-! ## the plain day -/
def plD (N : Net) (f : Flt) : PyData := .tuple [.int f.dep, .int f.arr, .int (seatsOf N f.kind)]
theorem fly_plain {N : Net} {turn : Int} : ∀ (fs : List Flt) (st : Str) (rd : Int), Chain turn fs → (∀ f, fs.head? = some f → st = f.start ∧ rd ≤ f.dep) → (∀ f ∈ fs, 0 ≤ f.dep) → fly N [] turn st rd fs = fs.map fun f => (f.name, some (f.dep, f.arr, seatsOf N f.kind))
  | [], _, _, _, _, _ => rfl
  | f :: fs, st, rd, hc, hh, h0 => by
    obtain ⟨h1, h2⟩ := hh f rfl
    have o : offB [] st f = false := by
      unfold offB
      rw [decide_eq_true h1]
      rfl
    have ed : depOf [] rd f = f.dep := by
      unfold depOf mx
      show (if rd > f.dep + 0 then rd else f.dep + 0) = f.dep
      rw [if_neg (by omega)]
      omega
    unfold fly
    rw [o, if_neg Bool.false_ne_true, ed, List.map_cons]
    have ea : f.dep + f.arr - f.dep = f.arr := by omega
    rw [ea]
    congr 1
    refine fly_plain fs _ _ (fun i x y hx hy => hc (i + 1) x y hx hy) (fun g hg => ?_) (fun g hg => h0 g (List.mem_cons_of_mem _ hg))
    have := hc 0 f g rfl (by rw [List.getElem?_cons_succ, ← List.head?_eq_getElem?]; exact hg)
    exact ⟨this.1.symm, this.2⟩
theorem plain_eq {N : Net} (R : Right N) : actD N [] = N.fl.map (plD N) := by
  unfold actD
  refine List.map_congr_left fun f hf => ?_
  obtain ⟨j, t, fs, hj, h, hm⟩ := R.inTail hf
  have e : flyT N [] t.2.1 fs = fs.map fun f => (f.name, some (f.dep, f.arr, seatsOf N f.kind)) := by
    cases hfs : fs with
    | nil => rfl
    | cons f0 fs0 =>
      have c := h.ch
      rw [hfs] at c
      exact fly_plain _ _ _ c (fun g hg => by cases hg; exact ⟨rfl, (R.flt (h.mem f0 (by rw [hfs]; exact List.mem_cons_self))).t0⟩) (fun g hg => (R.flt (h.mem g (by rw [hfs]; exact hg))).t0)
  have m : (f.name, some (f.dep, f.arr, seatsOf N f.kind)) ∈ flyT N [] t.2.1 fs := by
    rw [e]
    exact List.mem_map.mpr ⟨f, hm, rfl⟩
  have := dvAt_of R (in_flownA hj h m)
  rw [show dvAt N [] f.name = some (f.dep, f.arr, seatsOf N f.kind) from this]
  rfl
end Mine
set_option Elab.async false
set_option linter.all false
set_option maxRecDepth 100000
set_option maxHeartbeats 16000000
namespace Mine
open PySem PySem.Spec PyProof.Rows L2 Ln RZ
theorem fnm_all {N : Net} (R : Right N) {x : Str} (h : x ∈ fnamesN N) : ∃ k j, k < 5 ∧ j < 5 ∧ x = fnm k j := by
  unfold fnamesN at h
  obtain ⟨f, hf, rfl⟩ := List.mem_map.mp h
  obtain ⟨Rs, _, l5, hR, _, hp⟩ := R.rows
  obtain ⟨r, hr, hfr⟩ := List.mem_flatMap.mp (hp.mem_iff.mp hf)
  obtain ⟨k, hk, e⟩ := List.mem_iff_getElem.mp hr
  have ok := hR k r (by rw [List.getElem?_eq_getElem hk, e])
  have m : f.name ∈ r.2.map Flt.name := List.mem_map_of_mem hfr
  rw [ok.nm] at m
  obtain ⟨j, hj, e⟩ := List.mem_map.mp m
  have := List.mem_range.mp hj
  have := ok.len
  exact ⟨k, j, by omega, by omega, e.symm⟩
theorem fnm_nowhere : ∀ a : Nat, a < 25 → fnm (a / 5) (a % 5) ≠ "nowhere" := by decide +kernel
theorem tnm_nothing : ∀ k : Nat, k < 3 → tnm k ≠ "nothing" := by decide +kernel
theorem no_where {N : Net} (R : Right N) : ("nowhere" : Str) ∉ fnamesN N := fun h => by
  obtain ⟨k, j, hk, hj, e⟩ := fnm_all R h
  have := fnm_nowhere (k * 5 + j) (by omega)
  rw [show (k * 5 + j) / 5 = k by omega, show (k * 5 + j) % 5 = j by omega] at this
  exact this e.symm
theorem no_thing {N : Net} (R : Right N) : ("nothing" : Str) ∉ tnames N := fun h => by
  unfold tnames at h
  rw [R.ty.nm] at h
  obtain ⟨k, hk, e⟩ := List.mem_map.mp h
  exact tnm_nothing k (by have := List.mem_range.mp hk; have := R.ty.l1; omega) e
theorem ev3 {N : Net} {s : Str} {b c : PyData} : evB N (.tuple [.str s, b, c]) = (knownD b (fnamesN N) && (if s = "late" then lateB c else decide (s = "smaller") && smallD N (kindOf N (strD b)) c)) := rfl
theorem late_no {N : Net} {b c : PyData} (h : lateB c = false) : evB N (.tuple [.str "late", b, c]) = false := by
  rw [ev3, if_pos rfl, h, Bool.and_false]
theorem small_no {N : Net} {b c : PyData} (h : smallD N (kindOf N (strD b)) c = false) : evB N (.tuple [.str "smaller", b, c]) = false := by
  rw [ev3, if_neg s_ls.symm, h, Bool.and_false, Bool.and_false]
theorem other_no {N : Net} {s : Str} {b c : PyData} (h1 : s ≠ "late") (h2 : s ≠ "smaller") : evB N (.tuple [.str s, b, c]) = false := by
  rw [ev3, if_neg h1, decide_eq_false h2, Bool.false_and, Bool.and_false]
theorem two_no {N : Net} {s : Str} {b : PyData} (h1 : s ≠ "cancel") : evB N (.tuple [.str s, b]) = false := by
  show (decide (s = "cancel") && _) = false
  rw [decide_eq_false h1, Bool.false_and]
theorem heads2 {s : Str} {b : PyData} : Heads (.tuple [.str s, b]) := ⟨s, rfl⟩
theorem heads3 {s : Str} {b c : PyData} : Heads (.tuple [.str s, b, c]) := ⟨s, rfl⟩
def lateD (nm : Str) (c : PyData) : PyData := .tuple [.str "late", .str nm, c]
theorem evD_inj {a b : Ev} (h : evD a = evD b) : a = b := by
  have : PyData.eqv (evD a) (evD b) = true := by rw [h, eqv_ev]; exact decide_eq_true rfl
  rw [eqv_ev] at this
  exact of_decide_eq_true this
theorem evs_inj : ∀ {a b : List Ev}, a.map evD = b.map evD → a = b
  | [], [], _ => rfl
  | [], _ :: _, h => by cases h
  | _ :: _, [], h => by cases h
  | x :: a, y :: b, h => by
    rw [List.map_cons, List.map_cons] at h
    injection h with h1 h2
    rw [evD_inj h1, evs_inj h2]
theorem heads_evs (es : List Ev) : ∀ r ∈ rowsD (.tuple (es.map evD)), Heads r := fun r hr => by
  have hr : r ∈ es.map evD := hr
  obtain ⟨e, _, rfl⟩ := List.mem_map.mp hr
  exact heads_ev e
theorem crs_true {N : Net} {c : List Ev} (l3 : c.length ≤ 3) (nd : (c.map Ev.flt).Nodup) (hev : ∀ e ∈ c, EvOk N e) : crsB N (.tuple (c.map evD)) = true := by
  unfold crsB
  have h1 : shortB (.tuple (c.map evD)) 3 = true := by
    show decide (((c.map evD).length : Int) ≤ 3) = true
    rw [List.length_map]
    exact decide_eq_true (by omega)
  have h2 : (rowsD (.tuple (c.map evD))).all (evB N) = true := List.all_eq_true.mpr fun d hd => by
    have hd : d ∈ c.map evD := hd
    obtain ⟨e, he, rfl⟩ := List.mem_map.mp hd
    exact hev e he
  have h3 : ((rowsD (.tuple (c.map evD))).map nthS) = c.map Ev.flt := nthS_ev c
  rw [h1, h2, h3, decide_eq_true nd]
  rfl
/-- what is no course of the net -/
structure WrongC (N : Net) (d : PyData) : Prop where
  nl : noL d = true
  hd : ∀ r ∈ rowsD d, Heads r
  no : crsB N d = false
theorem wc_all {N : Net} {ds : List PyData} (nl : noLs ds = true) (hd : ∀ r ∈ ds, Heads r) (h : (ds.all (evB N) && decide (ds.map nthS).Nodup) = false) : WrongC N (.tuple ds) := by
  refine ⟨by simpa only [noL] using nl, hd, ?_⟩
  unfold crsB
  have h : ((rowsD (.tuple ds)).all (evB N) && decide ((rowsD (.tuple ds)).map nthS).Nodup) = false := h
  rw [h, Bool.and_false]
theorem wc1 {N : Net} {r : PyData} (nl : noL r = true) (hd : Heads r) (h : evB N r = false) : WrongC N (.tuple [r]) := by
  refine wc_all (by simp [noLs, nl]) (fun x hx => by rw [List.mem_singleton.mp hx]; exact hd) ?_
  rw [List.all_cons, h, Bool.false_and, Bool.false_and]
theorem wc_flat {N : Net} {d : PyData} (nl : noL d = true) (h : isT d = false) : WrongC N d := by
  cases d with
  | tuple ds => cases h
  | list _ => simp [noL] at nl
  | dict _ => simp [noL] at nl
  | _ => exact ⟨rfl, nofun, rfl⟩
def cnD (f : Flt) : PyData := .tuple [.str "cancel", .str f.name]
/-- four cancels, or 7 -/
def caD (N : Net) : PyData := if (N.fl.take 4).length = 4 then .tuple ((N.fl.take 4).map cnD) else .int 7
theorem wc_ca (N : Net) : WrongC N (caD N) := by
  unfold caD
  split
  · rename_i h
    refine ⟨by simpa only [noL] using noLs_map (fun f => rfl) (N.fl.take 4), fun r hr => ?_, ?_⟩
    · have hr : r ∈ (N.fl.take 4).map cnD := hr
      obtain ⟨f, _, rfl⟩ := List.mem_map.mp hr
      exact heads2
    · unfold crsB
      have : shortB (.tuple ((N.fl.take 4).map cnD)) 3 = false := by
        show decide ((((N.fl.take 4).map cnD).length : Int) ≤ 3) = false
        rw [List.length_map, h]
        decide
      rw [this, Bool.false_and]
  · exact wc_flat rfl rfl
def rows50 (nm : Str) (ca : PyData) : List PyData := [.none, .int 5, .tuple [.none], .tuple [.str "cancel", .str nm], .tuple [.tuple [.str "cancel", .str "nowhere"]], .tuple [lateD nm (.int 0)], .tuple [lateD nm (.int 1441)], .tuple [lateD nm (.bool true)], .tuple [lateD nm (.int 5), .tuple [.str "cancel", .str nm]], .tuple [.tuple [.str "cancel", .str nm, .int 0]], .tuple [.tuple [.str "smaller", .str nm, .str "nothing"]], .tuple [.tuple []], .tuple [.tuple [.str "late", .str nm]], ca, .tuple [.tuple [.str "cancel"]], .tuple [.tuple [.str "none", .str nm]]]
theorem rows50_ok {N : Net} (R : Right N) (nm : Str) : ∀ d ∈ rows50 nm (caD N), WrongC N d := fun d hd => by
  unfold rows50 at hd
  simp only [List.mem_cons, List.not_mem_nil, or_false] at hd
  rcases hd with rfl | rfl | rfl | rfl | rfl | rfl | rfl | rfl | rfl | rfl | rfl | rfl | rfl | rfl | rfl | rfl
  · exact wc_flat rfl rfl
  · exact wc_flat rfl rfl
  · exact wc1 rfl trivial rfl
  · exact wc_all rfl (fun x hx => by
      simp only [List.mem_cons, List.not_mem_nil, or_false] at hx
      rcases hx with rfl | rfl <;> trivial) rfl
  · refine wc1 rfl heads2 ?_
    show (decide (("cancel" : Str) = "cancel") && decide (("nowhere" : Str) ∈ fnamesN N)) = false
    rw [decide_eq_false (no_where R), Bool.and_false]
  · exact wc1 rfl heads3 (late_no rfl)
  · exact wc1 rfl heads3 (late_no rfl)
  · exact wc1 rfl heads3 (late_no rfl)
  · refine wc_all rfl (fun x hx => by
      simp only [List.mem_cons, List.not_mem_nil, or_false] at hx
      rcases hx with rfl | rfl
      · exact heads3
      · exact heads2) ?_
    have : decide (([lateD nm (.int 5), .tuple [.str "cancel", .str nm]] : List PyData).map nthS).Nodup = false := by
      show decide ([nm, nm] : List Str).Nodup = false
      rw [decide_eq_false (by simp)]
    rw [this, Bool.and_false]
  · exact wc1 rfl heads3 (other_no s_cl s_cs)
  · refine wc1 rfl heads3 (small_no ?_)
    show (decide (("nothing" : Str) ∈ tnames N) && _) = false
    rw [decide_eq_false (no_thing R), Bool.false_and]
  · exact wc1 rfl trivial rfl
  · exact wc1 rfl heads2 (two_no s_cl.symm)
  · exact wc_ca N
  · exact wc1 rfl trivial rfl
  · exact wc1 rfl heads2 (two_no (by decide))
section
variable {P : Program} {w : World} {K : PySem.W.Frag} {mg : Str → Option Value} {base : Heap}
theorem litV {σ : L2.St} {H0 : Hp} {i : Nat} {v : V} {d : PyData} (e : σ[i]? = some (some v)) (h : Dp K H0 v d) (nl : noL d = true) : LitE K σ H0 (tVar i) d := .var e h fun _ _ _ s k => Dp.same s _ _ nl k

theorem seq_lit {te : TE} {g : TG} {rest : TS} {D : Ends} {σ : L2.St} {H0 H : Hp} {d : PyData} (h : LitE K σ H0 te d) (s : Same H0 H) (k : ∀ v H', Same H H' → Dp K H' v d → g v σ H' (rest D)) : tSeq (tAsg te g) rest D σ H := h.run H _ s k
theorem seq_lst {ta : TA} {i : Nat} {rest : TS} {D : Ends} {σ : L2.St} {H0 H : Hp} {ds : List PyData} (h : LitA K σ H0 ta ds) (l : ds.length ≤ 1000) (s : Same H0 H) (k : ∀ p us H', Same H H' → H' p = some (.lst us) → DpAll K H' us ds → rest D (σ.set i (some (.ref p))) H') : tSeq (tAsg (tLst ta) (gName i)) rest D σ H := by
  show tLst ta σ H (fun v H1 => rest D (σ.set i (some v)) H1)
  exact h.lst l s fun p us H' s1 _ hp hu => k p us H' s1 hp hu
theorem len_le {ds : List PyData} (h : Nat.ble ds.length 1000 = true) : ds.length ≤ 1000 := Nat.le_of_ble_eq_true h
end
end Mine
set_option Elab.async false
set_option linter.all false
set_option maxRecDepth 100000
set_option maxHeartbeats 16000000
namespace Mine
open PySem PySem.Spec PyProof.Rows L2 Ln RZ
abbrev s_law : Stmt := topS 94
abbrev N_law : List Str := ["script", "draws", "at", "net", "plain", "row", "turn", "course", "told", "tail", "name", "cancels", "rows"]
theorem sc_law : FnScope N_law ["script"] (defScope s_law) := ⟨rfl, rfl, rfl, by decide +kernel, rfl, by decide +kernel, by decide +kernel⟩
-- slots: 0 script, 1 draws, 2 at, 3 net*, 4 plain, 5 row, 6 turn, 7 course, 8 told*, 9 tail, 10 name, 11 cancels, 12 rows
structure LawTop (mg : Str → Option Value) : Prop where
  z_len : mg "len" = none
  z_repr : mg "repr" = none
  z_tuple : mg "tuple" = none
  z_range : mg "range" = none
section
variable {P : Program} {w : World} {K : PySem.W.Frag} {mg : Str → Option Value} {base : Heap}
def spLaw (K : PySem.W.Frag) : Sp := fun vs H Q _ => ∃ (a : Addr) (ns : List Int), vs = [.ref a] ∧ SqL K H a (ns.map V.int) ∧ ns.length ≤ 63 ∧ ∀ H', Q (.bl true) H'
theorem ok_law {f : Addr} {fd : FuncData} (F : Fun K "law" "law" s_law f fd) (T : LawTop mg) (c__law_draws : Cg P w K mg base CX0 1 "_law_draws" (spDraws K)) (c__law_take : Cg P w K mg base CX0 2 "_law_take" (spTake K)) (c__law_one : Cg P w K mg base CX0 3 "_law_one" (spOne K)) (c__law_net : Cg P w K mg base CX0 4 "_law_net" (spNet K))
    (c__law_kind : Cg P w K mg base CX0 1 "_law_kind" (spKnd K)) (c__law_course : Cg P w K mg base CX0 6 "_law_course" (spCrs K)) (c__law_due : Cg P w K mg base CX0 3 "_law_due" (spLdu K)) (c__law_told : Cg P w K mg base CX0 10 "_law_told" (spTold K)) (c__law_one_place : Cg P w K mg base CX0 2 "_law_one_place" (spLop K)) :
    FnG P w K mg base CX0 11 f fd ["script"] (spLaw K) := by
  refine okG F sc_law (fun vs H Q E h => ?_) (fun cdv A outer s H vs Q E hG hr h => ?_)
  · obtain ⟨a, ns, rfl, _⟩ := h
    rfl
  · obtain ⟨a, ns, rfl, hS, hlen, q⟩ := h
    refine ⟨_, (pss_cons (ps_set (i := 1) sc_law.nd rfl (.inl rfl) (pe_cg c__law_draws hr (by decide) hG (by rfl) (pa_cons (pv 0) pa_nil)))
    (pss_cons (ps_set (i := 2) sc_law.nd rfl (.inl rfl) (pe_lst (pa_cons pe_int pa_nil)))
    (pss_cons (ps_set (i := 3) sc_law.nd rfl (.inr rfl) (pe_cg c__law_net hr (by decide) hG (by rfl) (pa_cons (pv 1) (pa_cons (pv 2) (pa_cons (pe_cmpR op_eq (pe_cg c__law_take hr (by decide) hG (by rfl) (pa_cons (pv 1) (pa_cons (pv 2) (pa_cons pe_int pa_nil)))) pe_int (nomark _)) pa_nil)))))
    (pss_cons (ps_set (i := 4) sc_law.nd rfl (.inl rfl) (pe_callTy (r := Ln.rTupOf K) (T := "tuple") c_tuple (by rfl) T.z_tuple (by decide +kernel) (pa_cons (pe_lc (own := [("row", 5)]) rfl sc_law.nd (pi_tup (pe_ix (r := rIxT K) ix_tup (pv 3) pe_int (fun _ _ => rfl))) (blkOk_by (own := [("row", 5)]) (N := N_law) (sc := defScope s_law) (by decide +kernel)) (fun _ _ _ _ _ => (pg_name (i := 5) sc_law.nd rfl (.inl rfl))) (fun _ _ _ _ _ => pts_nil) (fun _ _ _ _ _ => (pe_tup (pa_cons (pe_ix (r := rIxT K) ix_tup (pv 5) pe_int (fun _ _ => rfl)) (pa_cons (pe_ix (r := rIxT K) ix_tup (pv 5) pe_int (fun _ _ => rfl)) (pa_cons (pe_ix (r := rIxT K) ix_tup (pe_cg c__law_kind hr (by decide) hG (by rfl) (pa_cons (pv 3) (pa_cons (pe_ix (r := rIxT K) ix_tup (pv 5) pe_int (fun _ _ => rfl)) pa_nil))) pe_int (fun _ _ => rfl)) pa_nil)))))) pa_nil)))
    (pss_cons (ps_if (pt_cmpR op_ne (pe_callB (r := Ln.rReprD K) (id := "repr") (c_repr hG hr.units) (by rfl) T.z_repr (by decide +kernel) (pa_cons (pe_cg c__law_told hr (by decide) hG (by rfl) (pa_cons (pv 3) (pa_cons (pe_tup pa_nil) pa_nil))) pa_nil)) (pe_callB (r := Ln.rReprD K) (id := "repr") (c_repr hG hr.units) (by rfl) T.z_repr (by decide +kernel) (pa_cons (pv 4) pa_nil)) (nomark _))
    (pss_one (ps_ret pe_bl))
    pss_nil)
    (pss_cons (ps_for PassesOwn.never rfl (pi_range1 (by rfl) T.z_range (pa_cons pe_int pa_nil)) (pg_name (i := 6) sc_law.nd rfl (.inl rfl))
    (pss_cons (ps_set (i := 7) sc_law.nd rfl (.inl rfl) (pe_cg c__law_course hr (by decide) hG (by rfl) (pa_cons (pv 3) (pa_cons (pv 1) (pa_cons (pv 2) pa_nil)))))
    (pss_cons (ps_set (i := 8) sc_law.nd rfl (.inr rfl) (pe_cg c__law_told hr (by decide) hG (by rfl) (pa_cons (pv 3) (pa_cons (pv 7) pa_nil))))
    (pss_cons (ps_if (pt_cmpR op_ne (pe_callB (r := Ln.rReprD K) (id := "repr") (c_repr hG hr.units) (by rfl) T.z_repr (by decide +kernel) (pa_cons (pv 8) pa_nil)) (pe_callB (r := Ln.rReprD K) (id := "repr") (c_repr hG hr.units) (by rfl) T.z_repr (by decide +kernel) (pa_cons (pe_cg c__law_due hr (by decide) hG (by rfl) (pa_cons (pv 3) (pa_cons (pv 7) pa_nil))) pa_nil)) (nomark _))
    (pss_one (ps_ret pe_bl))
    pss_nil)
    (pss_one (ps_if (pt_cmpR (r := rNeD K) (op_neD hr.units) (pe_lc (own := [("tail", 9)]) rfl sc_law.nd (pi_tup (pe_ix (r := rIxT K) ix_tup (pv 3) pe_int (fun _ _ => rfl))) (blkOk_by (own := [("tail", 9)]) (N := N_law) (sc := defScope s_law) (by decide +kernel)) (fun _ _ _ _ _ => (pg_name (i := 9) sc_law.nd rfl (.inl rfl))) (fun _ _ _ _ _ => (pts_one (pt_not (pt_val (pe_cg c__law_one_place hr (by decide) hG (by rfl) (pa_cons (pv 3) (pa_cons (pv 9) (pa_cons (pv 8) pa_nil)))))))) (fun _ _ _ _ _ => (pv 9))) (pe_lst pa_nil) (nomark _))
    (pss_one (ps_ret pe_bl))
    pss_nil))))))
    (pss_cons (ps_set (i := 10) sc_law.nd rfl (.inl rfl) (pe_ifExp (pt_cmpR (r := rNeD K) (op_neD hr.units) (pe_ix (r := rIxT K) ix_tup (pv 3) pe_int (fun _ _ => rfl)) (pe_tup pa_nil) (nomark _)) (pe_ix (r := rIxT K) ix_tup (pe_ix (r := rIxT K) ix_tup (pe_ix (r := rIxT K) ix_tup (pv 3) pe_int (fun _ _ => rfl)) pe_int (fun _ _ => rfl)) pe_int (fun _ _ => rfl)) pe_str))
    (pss_cons (ps_set (i := 11) sc_law.nd rfl (.inl rfl) (pe_callTy (r := Ln.rTupOf K) (T := "tuple") c_tuple (by rfl) T.z_tuple (by decide +kernel) (pa_cons (pe_lc (own := [("row", 5)]) rfl sc_law.nd (pi_tup (pe_slice (r := Ln.rSlS K) sl_tupS (pe_ix (r := rIxT K) ix_tup (pv 3) pe_int (fun _ _ => rfl)) po_none (po_some pe_int))) (blkOk_by (own := [("row", 5)]) (N := N_law) (sc := defScope s_law) (by decide +kernel)) (fun _ _ _ _ _ => (pg_name (i := 5) sc_law.nd rfl (.inl rfl))) (fun _ _ _ _ _ => pts_nil) (fun _ _ _ _ _ => (pe_tup (pa_cons pe_str (pa_cons (pe_ix (r := rIxT K) ix_tup (pv 5) pe_int (fun _ _ => rfl)) pa_nil))))) pa_nil)))
    (pss_cons (ps_set (i := 12) sc_law.nd rfl (.inl rfl) (pe_lst (pa_cons pe_non (pa_cons pe_int (pa_cons (pe_tup (pa_cons pe_non pa_nil)) (pa_cons (pe_tup (pa_cons pe_str (pa_cons (pv 10) pa_nil))) (pa_cons (pe_tup (pa_cons (pe_tup (pa_cons pe_str (pa_cons pe_str pa_nil))) pa_nil)) (pa_cons (pe_tup (pa_cons (pe_tup (pa_cons pe_str (pa_cons (pv 10) (pa_cons pe_int pa_nil)))) pa_nil)) (pa_cons (pe_tup (pa_cons (pe_tup (pa_cons pe_str (pa_cons (pv 10) (pa_cons pe_int pa_nil)))) pa_nil)) (pa_cons (pe_tup (pa_cons (pe_tup (pa_cons pe_str (pa_cons (pv 10) (pa_cons pe_bl pa_nil)))) pa_nil)) (pa_cons (pe_tup (pa_cons (pe_tup (pa_cons pe_str (pa_cons (pv 10) (pa_cons pe_int pa_nil)))) (pa_cons (pe_tup (pa_cons pe_str (pa_cons (pv 10) pa_nil))) pa_nil))) (pa_cons (pe_tup (pa_cons (pe_tup (pa_cons pe_str (pa_cons (pv 10) (pa_cons pe_int pa_nil)))) pa_nil)) (pa_cons (pe_tup (pa_cons (pe_tup (pa_cons pe_str (pa_cons (pv 10) (pa_cons pe_str pa_nil)))) pa_nil)) (pa_cons (pe_tup (pa_cons (pe_tup pa_nil) pa_nil)) (pa_cons (pe_tup (pa_cons (pe_tup (pa_cons pe_str (pa_cons (pv 10) pa_nil))) pa_nil)) (pa_cons (pe_ifExp (pt_cmpR op_eq (pe_callB (r := Ln.rLen K) (id := "len") c_len (by rfl) T.z_len (by decide +kernel) (pa_cons (pv 11) pa_nil)) pe_int (nomark _)) (pv 11) pe_int) (pa_cons (pe_tup (pa_cons (pe_tup (pa_cons pe_str pa_nil)) pa_nil)) (pa_cons (pe_tup (pa_cons (pe_tup (pa_cons pe_str (pa_cons (pv 10) pa_nil))) pa_nil)) pa_nil))))))))))))))))))
    (pss_one (ps_ret (pe_cmpR op_eq (pe_cg c__law_told hr (by decide) hG (by rfl) (pa_cons (pv 3) (pa_cons (pe_cg c__law_one hr (by decide) hG (by rfl) (pa_cons (pv 12) (pa_cons (pv 1) (pa_cons (pv 2) pa_nil)))) pa_nil))) pe_str (nomark _))))))))))))), ?_⟩
    refine ⟨.ref a, rfl, a, ns, rfl, hS, hlen, fun H1 dr ds sm1 ndr hdr hgood => ?_⟩
    refine ⟨by show 1 ≤ sizeLine; decide, fun at_ nat => ?_⟩
    have hDrw : Drw dr at_ (upd H1 at_ (.lst [.int 0])) := ⟨ds, 0, by rw [upd_ne (ne_of_none hdr nat)]; exact hdr, upd_same, ne_of_none hdr nat, hgood, by decide⟩
    have S0 := Sit.start (K := K) hDrw
    refine ⟨.ref dr, rfl, .ref at_, rfl, _, rfl, _, rfl, S0.take (m := 2) (by decide) fun tk Ha tk0 tk2 Sa => ⟨rfl, dr, at_, _, rfl, Sa.dw, fun nt H2 N hB2 hD2 hN R _ => ?_⟩⟩
    obtain ⟨sT, tT, cT, fT, lT, rT, hnet, hst, hty, _, hfl, htl, _⟩ := net_at hN
    obtain ⟨gs, hgs, hgv⟩ := tup_at hfl
    have lgs : gs.length = N.fl.length := by rw [DpAll.len hgv, List.length_map]
    have l25 := R.fl25
    have nlP : ∀ l : List Flt, noLs (l.map (plD N)) = true := fun l => noLs_map (fun f => rfl) l
    refine ⟨_, rfl, nt, _, 3, _, rfl, rfl, hnet, atI_nat (j := 3) rfl, fT, rfl, ⟨_, hgs⟩, fun D1 nD1 => lc_it (walk_tup (K := K) (a := fT) (xs := gs)) (fun i H' => Same H2 H' ∧ ∃ ws, H' D1 = some (.lst ws) ∧ DpAll K H' ws ((N.fl.take i).map (plD N))) ?_ ?_ ?_ ?_⟩
    · exact ⟨Ln.same_upd nD1, [], upd_same, .nil⟩
    · rintro i H' _ ⟨sm, _⟩
      exact Same.tup sm hgs
    · rintro i x Hx H' hi ⟨sm, ws, hDl, hw⟩ ⟨rfl, hx⟩
      obtain ⟨d, hd, hxd⟩ := DpAll.get hgv hx
      rw [List.getElem?_map] at hd
      obtain ⟨g, hg, rfl⟩ := Option.map_eq_some_iff.mp hd
      obtain ⟨ft, lt, rfl, hft, _⟩ := fl_at (Dp.same sm _ _ (noL_fl g) hxd)
      obtain ⟨tri, htm, htk⟩ := ty_of (N := N) (R.kindOf (List.mem_of_getElem? hg))
      have hft2 : SqT K H' ft [.str g.name, .str g.start, .str g.fin, .int g.dep, .int g.arr, .str tri.1, .int g.dist, .ref lt] := by rw [htk]; exact hft
      refine ⟨rfl, _, rfl, ft, _, 3, _, rfl, rfl, hft, atI_nat (j := 3) rfl, _, rfl, ft, _, 4, _, rfl, rfl, hft, atI_nat (j := 4) rfl, _, rfl, _, rfl, ft, _, 5, _, rfl, rfl, hft2, atI_nat (j := 5) rfl, nt, N, tri, rfl, Dp.same sm _ _ (noL_net N) hN, R, htm, fun H3 v s3 hv => ?_⟩
      obtain ⟨ta, rfl, hta⟩ := tr_at hv
      refine ⟨ta, _, 1, _, rfl, rfl, hta, atI_nat (j := 1) rfl, by show 3 ≤ sizeLine; decide, fun p np => ?_⟩
      have s4 := Ln.same_upd (o := .tup [.int g.dep, .int g.arr, .int tri.2.1]) np
      have s34 := s3.trans s4
      have hDl4 := s34 _ _ hDl
      have tl' := TpF.but (But.upd D1 (upd H3 p (.tup [V.int g.dep, .int g.arr, .int tri.2.1])) (.lst (ws ++ [.ref p]))) hDl4
      have lw := DpAll.len hw
      rw [List.length_map, List.length_take] at lw
      have hpd : Dp K (upd H3 p (.tup [V.int g.dep, .int g.arr, .int tri.2.1])) (.ref p) (plD N g) := by
        refine .tup (SqT.of upd_same) (.cons (.int _) (.cons (.int _) (.cons ?_ .nil)))
        rw [← htk, seats_at R htm]
        exact .int _
      refine ⟨ws, hDl4, small1 (by omega), same_at (sm.trans s34) nD1, _, upd_same, ?_⟩
      rw [takeS hg, List.map_append]
      exact DpAll.app (Dp.tpfAll tl' _ _ (nlP _) (Dp.tpfAll (TpF.same s34) _ _ (nlP _) hw)) (Dp.tpf tl' _ _ rfl hpd)
    rintro H3 ⟨s3, ws, hDl, hw⟩
    rw [lgs, List.take_length] at hw
    refine ⟨D1, ws, rfl, .inl ⟨SqL.of hDl, fun pt npt => ?_⟩⟩
    have s4 := Ln.same_upd (o := .tup ws) npt
    have hpl : Dp K (upd H3 pt (.tup ws)) (.ref pt) (.tuple (N.fl.map (plD N))) := .tup (SqT.of upd_same) (Dp.tpfAll (TpF.same s4) _ _ (nlP _) hw)
    have S4 := (((Sit.start (K := K) hD2).same s3).same s4).data hpl (by simpa only [noL] using nlP N.fl)
    have s24 := s3.trans s4
    generalize upd H3 pt (.tup ws) = H4 at S4 hpl s24 ⊢
    have ok0 : ∀ e ∈ ([] : List Ev), EvOk N e := nofun
    have sh0 := (sm_act R ok0).shw (by decide) (by decide)
    refine ⟨_, rfl, Nat.zero_le _, fun e0 ne0 => ?_⟩
    have s5 := Ln.same_upd (o := .tup []) ne0
    refine ⟨nt, N, .ref e0, .tuple [], rfl, Dp.same (s24.trans s5) _ _ (noL_net N) hN, R, .tup (SqT.of upd_same) .nil, rfl, nofun, (fun z => by have := crs_true (N := N) (c := []) (Nat.zero_le _) List.nodup_nil ok0; rw [show (PyData.tuple []) = .tuple (([] : List Ev).map evD) from rfl, this] at z; cases z), fun c eb ee H6 t6 s6 ht6 => ?_⟩
    injection ee with ee
    obtain rfl : c = [] := by
      cases c with
      | nil => rfl
      | cons a b => cases ee
    rw [plain_eq R] at ht6 sh0
    have hpl6 := Dp.same (s5.trans s6) _ _ (by simpa only [noL] using nlP N.fl) hpl
    refine ⟨.ref t6, _, rfl, ht6, sh0, _, rfl, .ref pt, _, rfl, hpl6, sh0, rfl, _, rfl, ?_⟩
    rw [show (!decide (V.str (PyData.tuple (N.fl.map (plD N))).shown = V.str (PyData.tuple (N.fl.map (plD N))).shown)) = false by rw [decide_eq_true rfl]; rfl]
    refine iteF ?_
    have S6 := (S4.same s5).same s6
    have hN6 := Dp.same ((s24.trans s5).trans s6) _ _ (noL_net N) hN
    have dw6 := S6.dw
    clear S4 S6 hpl hpl6 ht6 hw hDl s6 s5 s24 hN hnet hst hty hfl htl hgs hgv lgs ne0
    refine ⟨4, rfl, by decide, by decide, for_range (lo := 0) (n := 4) (fun k σ H' => Sit K dr at_ H6 [] [(V.ref nt, netD N)] H' ∧ ∃ v6 v7 v8, σ = [some (.ref a), some (.ref dr), some (.ref at_), some (.ref nt), some (.ref pt), none, v6, v7, v8, none, none, none, none]) ?_ ?_ ?_⟩
    · exact ⟨(Sit.start dw6).data hN6 (noL_net N), _, _, _, rfl⟩
    · rintro k σ H' hk ⟨S, v6, v7, v8, rfl⟩
      have hNS := (S.da _ List.mem_cons_self).1
      refine ⟨_, rfl, _, rfl, _, rfl, nt, dr, at_, N, rfl, S.dw, hNS, R, fun ct c H7 b7 d7 hc l3 nd hev => ?_⟩
      have nlC : noL (.tuple (c.map evD)) = true := by simpa only [noL] using noLs_ev c
      have S7 := (S.but b7 d7).data hc nlC
      have hN7 := (S7.da _ (List.mem_of_getElem? (i := 1) rfl)).1
      refine ⟨_, rfl, _, rfl, nt, N, .ref ct, _, rfl, hN7, R, hc, nlC, heads_evs c, (fun z => by rw [crs_true l3 nd hev] at z; cases z), fun c' eb ee H8 t8 s8 ht8 => ?_⟩
      injection ee with ee
      obtain rfl := evs_inj ee
      have S8 := S7.same s8
      have sh := (sm_act R hev).shw (by decide) (by decide)
      have nlA : noL (.tuple (actD N c)) = true := by simpa only [noL] using noLs_act N c
      refine ⟨_, rfl, .ref t8, _, rfl, ht8, sh, _, rfl, _, rfl, nt, ct, N, c, rfl, Dp.same s8 _ _ (noL_net N) hN7, R, Dp.same s8 _ _ nlC hc, l3, nd, hev, fun H9 t9 s9 ht9 => ⟨.ref t9, _, rfl, ht9, sh, rfl, _, rfl, ?_⟩⟩
      rw [show (!decide (V.str (PyData.tuple (actD N c)).shown = V.str (PyData.tuple (actD N c)).shown)) = false by rw [decide_eq_true rfl]; rfl]
      refine iteF ?_
      have S9 := (S8.same s9).data (Dp.same s9 _ _ nlA ht8) nlA
      have hN9 := (S9.da _ (List.mem_of_getElem? (i := 2) rfl)).1
      have ht89 := Dp.same s9 _ _ nlA ht8
      obtain ⟨sT, tT, cT, fT, lT, rT, hnet, hst, hty, _, hfl, htl, _⟩ := net_at hN9
      obtain ⟨ts, hts, htv⟩ := tup_at htl
      refine ⟨_, rfl, nt, _, 4, _, rfl, rfl, hnet, atI_nat (j := 4) rfl, lT, rfl, ⟨_, hts⟩, fun D1 nD1 => lc_it (walk_tup (K := K) (a := lT) (xs := ts)) (fun i H' => Same H9 H' ∧ H' D1 = some (.lst [])) ?_ ?_ ?_ ?_⟩
      · exact ⟨Ln.same_upd nD1, upd_same⟩
      · rintro i H' _ ⟨sm, _⟩
        exact Same.tup sm hts
      · rintro i x Hx H' hi ⟨sm, hDl⟩ ⟨rfl, hx⟩
        obtain ⟨d, hd, hxd⟩ := DpAll.get htv hx
        rw [List.getElem?_map] at hd
        obtain ⟨tt, htt, rfl⟩ := Option.map_eq_some_iff.mp hd
        obtain ⟨tl0, rt, rfl, _⟩ := tl_at hxd
        refine ⟨rfl, _, rfl, _, rfl, _, rfl, nt, tl0, t8, N, c, i, tt, rfl, Dp.same sm _ _ (noL_net N) hN9, R, htt, Dp.same sm _ _ (noL_tl tt) hxd, Dp.same sm _ _ nlA ht89, fun Hz sz => ⟨true, rfl, ?_⟩⟩
        exact iteF ⟨sm.trans sz, sz _ _ hDl⟩
      · rintro Hz ⟨sz, hDl⟩
        refine ⟨Nat.zero_le _, fun e0 ne0 => ?_⟩
        have s0 := Ln.same_upd (o := .lst []) ne0
        refine ⟨.list [], .list [], .lst (SqL.of (s0 _ _ hDl)) .nil, .lst (SqL.of upd_same) .nil, by decide, by decide, _, rfl, ?_⟩
        rw [eqv_nilL]
        refine iteF ⟨((S9.same sz).same s0).less (List.Sublist.refl _) (fun q m => List.mem_cons_of_mem _ (List.mem_cons_of_mem _ m)), _, _, _, rfl⟩
    · rintro σ H' ⟨S, v6, v7, v8, rfl⟩
      have hNS := (S.da _ List.mem_cons_self).1
      obtain ⟨sT, tT, cT, fT, lT, rT, hnet, hst, hty, _, hfl, htl, _⟩ := net_at hNS
      have nlF : noL (.tuple (N.fl.map flD)) = true := by simpa only [noL] using noLs_map noL_fl N.fl
      refine ⟨_, rfl, nt, _, 3, _, rfl, rfl, hnet, atI_nat (j := 3) rfl, Nat.zero_le _, fun e0 ne0 => ?_⟩
      have s0 := Ln.same_upd (o := .tup []) ne0
      refine ⟨.tuple (N.fl.map flD), .tuple [], Dp.same s0 _ _ nlF hfl, .tup (SqT.of upd_same) .nil, (sm_fls R).shaped (by decide), by decide, _, rfl, ?_⟩
      rw [eqv_nil]
      have hfl0 := Dp.same s0 _ _ nlF hfl
      have hnet0 := Same.tup s0 hnet
      have S0' := S.same s0
      obtain ⟨nm, enm⟩ : ∃ nm : Str, nm = (match N.fl with | [] => ("none" : Str) | f :: _ => f.name) := ⟨_, rfl⟩
      clear ne0
      generalize upd H' e0 (.tup []) = H7 at s0 hfl0 hnet0 S0' ⊢
      obtain ⟨gs, hgs, hgv⟩ := tup_at hfl0
      have lgs : gs.length = N.fl.length := by rw [DpAll.len hgv, List.length_map]
      refine ite_to (v := .str nm) (fun hb R' r => ?_) (fun hb R' r => ?_) ?_
      · cases hfl' : N.fl with
        | nil => rw [hfl'] at hb; cases hb
        | cons fl rest =>
          rw [hfl'] at enm hgv
          have enm : nm = fl.name := enm
          obtain ⟨u0, ur, rfl, hu0⟩ : ∃ u0 ur, gs = u0 :: ur ∧ Dp K H7 u0 (flD fl) := by
            cases hgv with
            | cons a b => exact ⟨_, _, rfl, a⟩
          obtain ⟨ft, lt, rfl, hft, _⟩ := fl_at hu0
          rw [enm] at r
          exact ⟨_, rfl, nt, _, 3, _, rfl, rfl, hnet0, atI_nat (j := 3) rfl, fT, _, 0, _, rfl, rfl, hgs, atI_nat (j := 0) rfl, ft, _, 0, _, rfl, rfl, hft, atI_nat (j := 0) rfl, r⟩
      · have : N.fl = [] := by
          cases hfl' : N.fl with
          | nil => rfl
          | cons fl rest => rw [hfl'] at hb; cases hb
        rw [this] at enm
        rw [enm] at r
        exact r
      -- four cancels
      refine ⟨_, rfl, nt, _, 3, _, rfl, rfl, hnet0, atI_nat (j := 3) rfl, ?_⟩
      have hgv4 : DpAll K H7 (gs.take 4) ((N.fl.take 4).map flD) := by
        rw [List.map_take]
        exact DpAll.take 4 hgv
      have l4 : (gs.take 4).length = (N.fl.take 4).length := by rw [DpAll.len hgv4, List.length_map]
      refine ⟨4, rfl, fT, gs, rfl, hgs, fun cc H8 s8 hc8 => ?_⟩
      have hc8 : SqT K H8 cc (gs.take 4) := by
        rw [← cutN gs 4]
        exact hc8
      have hgv8 := Dp.tpfAll (TpF.same s8) _ _ (noLs_map noL_fl _) hgv4
      have nlK : ∀ l : List Flt, noLs (l.map cnD) = true := fun l => noLs_map (fun f => rfl) l
      refine ⟨cc, rfl, ⟨_, hc8⟩, fun D1 nD1 => lc_it (walk_tup (K := K) (a := cc) (xs := gs.take 4)) (fun i H' => Same H8 H' ∧ ∃ ws, H' D1 = some (.lst ws) ∧ DpAll K H' ws (((N.fl.take 4).take i).map cnD)) ?_ ?_ ?_ ?_⟩
      · exact ⟨Ln.same_upd nD1, [], upd_same, .nil⟩
      · rintro i H' _ ⟨sm, _⟩
        exact Same.tup sm hc8
      · rintro i x Hx H' hi ⟨sm, ws, hDl, hw⟩ ⟨rfl, hx⟩
        obtain ⟨d, hd, hxd⟩ := DpAll.get hgv8 hx
        rw [List.getElem?_map] at hd
        obtain ⟨g, hg, rfl⟩ := Option.map_eq_some_iff.mp hd
        obtain ⟨ft, lt, rfl, hft, _⟩ := fl_at (Dp.same sm _ _ (noL_fl g) hxd)
        refine ⟨rfl, _, rfl, ft, _, 0, _, rfl, rfl, hft, atI_nat (j := 0) rfl, by show 2 ≤ sizeLine; decide, fun p np => ?_⟩
        have sA := Ln.same_upd (o := .tup [.str "cancel", .str g.name]) np
        have hDlA := sA _ _ hDl
        have tl' := TpF.but (But.upd D1 (upd H' p (.tup [V.str "cancel", .str g.name])) (.lst (ws ++ [.ref p]))) hDlA
        have lw := DpAll.len hw
        rw [List.length_map, List.length_take, List.length_take] at lw
        refine ⟨ws, hDlA, small1 (by omega), same_at (sm.trans sA) nD1, _, upd_same, ?_⟩
        rw [takeS hg, List.map_append]
        exact DpAll.app (Dp.tpfAll tl' _ _ (nlK _) (Dp.tpfAll (TpF.same sA) _ _ (nlK _) hw)) (Dp.tpf tl' _ _ rfl (.tup (SqT.of upd_same) (.cons (.str _) (.cons (.str _) .nil))))
      rintro H9 ⟨s9, ws, hDl, hw⟩
      rw [l4, List.take_length] at hw
      have lw := DpAll.len hw
      rw [List.length_map] at lw
      refine ⟨D1, ws, rfl, .inl ⟨SqL.of hDl, fun ct nct => ?_⟩⟩
      have sC := Ln.same_upd (o := .tup ws) nct
      have hct : SqT K (upd H9 ct (.tup ws)) ct ws := SqT.of upd_same
      have hcd : Dp K (upd H9 ct (.tup ws)) (.ref ct) (.tuple ((N.fl.take 4).map cnD)) := .tup hct (Dp.tpfAll (TpF.same sC) _ _ (nlK _) hw)
      have SC := ((S0'.same s8).same s9).same sC
      clear hw hDl hgv8 hgv4 hc8 s8 s9 sC
      generalize upd H9 ct (.tup ws) = HC at hct hcd SC ⊢
      have VN : ∀ {σ : L2.St}, σ[10]? = some (some (V.str nm)) → LitE K σ HC (tVar 10) (.str nm) := fun e => litV e (.str nm) rfl
      refine seq_lst (H0 := HC) (ds := rows50 nm (caD N)) (.cons .non (.cons (.int _) (.cons (.tup (.cons .non .nil) (len_le rfl)) (.cons (.tup (.cons (.str _) (.cons (VN rfl) .nil)) (len_le rfl)) (.cons (.tup (.cons (.tup (.cons (.str _) (.cons (.str _) .nil)) (len_le rfl)) .nil) (len_le rfl))
        (.cons (.tup (.cons (.tup (.cons (.str _) (.cons (VN rfl) (.cons (.int _) .nil))) (len_le rfl)) .nil) (len_le rfl)) (.cons (.tup (.cons (.tup (.cons (.str _) (.cons (VN rfl) (.cons (.int _) .nil))) (len_le rfl)) .nil) (len_le rfl)) (.cons (.tup (.cons (.tup (.cons (.str _) (.cons (VN rfl) (.cons (.bl _) .nil))) (len_le rfl)) .nil) (len_le rfl))
        (.cons (.tup (.cons (.tup (.cons (.str _) (.cons (VN rfl) (.cons (.int _) .nil))) (len_le rfl)) (.cons (.tup (.cons (.str _) (.cons (VN rfl) .nil)) (len_le rfl)) .nil)) (len_le rfl)) (.cons (.tup (.cons (.tup (.cons (.str _) (.cons (VN rfl) (.cons (.int _) .nil))) (len_le rfl)) .nil) (len_le rfl)) (.cons (.tup (.cons (.tup (.cons (.str _) (.cons (VN rfl) (.cons (.str _) .nil))) (len_le rfl)) .nil) (len_le rfl))
        (.cons (.tup (.cons (.tup .nil (len_le rfl)) .nil) (len_le rfl)) (.cons (.tup (.cons (.tup (.cons (.str _) (.cons (VN rfl) .nil)) (len_le rfl)) .nil) (len_le rfl)) (.cons ?_ (.cons (.tup (.cons (.tup (.cons (.str _) .nil) (len_le rfl)) .nil) (len_le rfl)) (.cons (.tup (.cons (.tup (.cons (.str _) (.cons (VN rfl) .nil)) (len_le rfl)) .nil) (len_le rfl)) .nil)))))))))))))))) (by show 16 ≤ 1000; decide) (Same.refl _) fun p us Hr sr hp hu => ?_
      · refine ⟨fun H H' v s k => Dp.same s _ _ (wc_ca N).nl k, fun H2 Q2 s2 q2 => ?_⟩
        refine ⟨_, rfl, .ref ct, ws.length, rfl, .inr ⟨_, Same.tup s2 hct, rfl⟩, rfl, _, rfl, ?_⟩
        by_cases c4 : (N.fl.take 4).length = 4
        · rw [decide_eq_true (show V.int (ws.length : Int) = V.int 4 by rw [lw, c4]; rfl)]
          refine iteT ⟨_, rfl, q2 _ _ (Same.refl _) ?_⟩
          unfold caD
          rw [if_pos c4]
          exact Dp.same s2 _ _ (by simpa only [noL] using nlK (N.fl.take 4)) hcd
        · rw [decide_eq_false (show ¬ V.int (ws.length : Int) = V.int 4 from fun z => c4 (by injection z with z; omega))]
          refine iteF (q2 _ _ (Same.refl _) ?_)
          unfold caD
          rw [if_neg c4]
          exact .int 7
      · have SR := SC.same sr
        obtain ⟨pl, hat⟩ := SR.dw.atL
        obtain ⟨ds', p', hd1, hat', _⟩ := SR.dw
        have lu : us.length = 16 := DpAll.len hu
        have ne : p ≠ at_ := fun z => by
          rw [z, hat'] at hp
          cases hp
          exact absurd lu (by show ¬ (1 = 16); decide)
        refine ⟨_, rfl, _, rfl, _, rfl, _, rfl, p, dr, at_, _, rfl, .inl fun H' hb => SqL.of (hb _ _ ne hp), SR.dw, by rw [lu]; decide, fun x hx Hy by' dy => ?_⟩
        obtain ⟨d, hd, hxd⟩ := DpAll.mem hu hx
        have wd := rows50_ok R nm d hd
        have tp := TpF.but by' hat
        refine ⟨nt, N, x, d, rfl, Dp.tpf tp _ _ (noL_net N) (SR.da _ List.mem_cons_self).1, R, Dp.tpf tp _ _ wd.nl hxd, wd.nl, wd.hd, (fun _ Hz sz => ⟨rfl, ?_⟩), fun c z => by rw [wd.no] at z; cases z⟩
        rw [decide_eq_true (rfl : V.str "course" = V.str "course")]
        exact q Hz
end
end Mine
set_option Elab.async false
set_option linter.all false
set_option maxRecDepth 100000
set_option maxHeartbeats 4000000
namespace Mine
open PySem PySem.Spec PyProof.Rows L2 Ln RZ
abbrev s_NetErrorD_initD : Stmt := inClass (topS 4) 0
abbrev N_NetErrorD_initD : List Str := ["self", "path", "reason"]
theorem sc_NetErrorD_initD : FnScope N_NetErrorD_initD ["self", "path", "reason"] (defScope s_NetErrorD_initD) := ⟨rfl, rfl, rfl, by decide +kernel, rfl, by decide +kernel, by decide +kernel⟩
-- slots: 0 self, 1 path, 2 reason
theorem sqt_top {K : PySem.W.Frag} {H : Hp} {a : Addr} {xs : List V} {its : List Value} {arr : Array Value} {od : Option Addr} {n : Nat} {sl : Array (Option Value)} (h : K.lookup a = some ⟨.type "tuple", od, .seq arr n, sl⟩) (e : arr.toList = its) (v : Vals xs its) (hl : its.length ≤ 100) : SqT K H a xs :=
  .inr ⟨_, _, _, h, rfl, rfl, by rw [← Array.length_toList, e]; exact small2 (Nat.le_trans hl (by decide)), by rw [e]; exact v⟩
theorem cga {P : Program} {w : World} {K : PySem.W.Frag} {mg : Str → Option Value} {base : Heap} {k : Nat} {x : Str} {f : Addr} {sp sp' : Sp} (c : Cg P w K mg base CX0 k x sp) (hm : mg x = some (.ref f)) (hk : k ≤ 3) (e : sp' = sp) : CgA P w K mg base 3 f sp' := by
  obtain ⟨f', fd, ps, F, h1, h2, h3⟩ := c.ex
  rw [hm] at h1
  cases h1
  rw [e]
  exact ⟨fd, ps, F.mono hk, h2, h3⟩
theorem fn_never {P : Program} {w : World} {K : PySem.W.Frag} {mg : Str → Option Value} {base : Heap} {x q : Str} {st : Stmt} {f : Addr} {fd : FuncData} (F : Fun K x q st f fd) (ps : List Str) : FnOk P w K mg base CX0 1 f fd ps (fun _ _ _ _ => False) :=
  ⟨fun _ _ _ _ h => h.elim, fun _ _ _ _ _ _ _ _ _ _ _ _ _ h => h.elim⟩
theorem flen {K : PySem.W.Frag} {a b : Net → Nat} (h : ∀ N, a N = b N) : spFault K a = spFault K b := by rw [funext h]
/-- a row of texts at the top -/
theorem strs_top {K : PySem.W.Frag} {H : Hp} {a : Addr} {l : List Str} {its : List Value} {arr : Array Value} {od : Option Addr} {n : Nat} {sl : Array (Option Value)} (h : K.lookup a = some ⟨.type "tuple", od, .seq arr n, sl⟩) (e : arr.toList = its) (v : Vals (l.map V.str) its) (hl : its.length ≤ 100) : Dp K H (.ref a) (.tuple (l.map .str)) :=
  .tup (sqt_top h e v hl) (dp_strs l)
theorem fields_top {K : PySem.W.Frag} {H : Hp} {a : Addr} {l : List (List Str)} {as : List Addr} {its : List Value} {arr : Array Value} {od : Option Addr} {n : Nat} {sl : Array (Option Value)} (h : K.lookup a = some ⟨.type "tuple", od, .seq arr n, sl⟩) (e : arr.toList = its) (v : Vals (as.map V.ref) its) (hl : its.length ≤ 100)
    (q : DpAll K H (as.map V.ref) (l.map fun x => .tuple (x.map .str))) : Dp K H (.ref a) (.tuple (l.map fun x => .tuple (x.map .str))) :=
  .tup (sqt_top h e v hl) q
end Mine
set_option Elab.async false
set_option linter.all false
set_option maxRecDepth 100000
set_option maxHeartbeats 16000000
namespace Mine
open PySem PySem.Spec PyProof.Rows L2 Ln RZ
theorem exm_self {K : PySem.W.Frag} {S : Addr} (h1 : PySem.W.subIn K (.ref S) (.type "BaseException") = some true) (h2 : PySem.W.isClsIn K S = true) (h3 : PySem.W.typeIn K (.ref S) = some (.type "type"))
    (h4 : PySem.W.subIn K (.ref S) (.ref S) = some true) : PySem.W.exmOne K (.ref S) (.ref S) = some true := by
  have e2 : ((PySem.W.clsIn K S).isSome && PySem.W.typeIn K (.ref S) == some (.type "type")) = true := by
    have h2' : (PySem.W.clsIn K S).isSome = true := h2
    rw [h2', h3] <;> rfl
  have e1 : (PySem.W.subIn K (.ref S) (.type "BaseException") == some true) = true := by rw [h1] <;> rfl
  show ite ((PySem.W.subIn K (.ref S) (.type "BaseException") == some true) = true) (ite (((PySem.W.clsIn K S).isSome && PySem.W.typeIn K (.ref S) == some (.type "type")) = true) (PySem.W.subIn K (.ref S) (.ref S)) none) none = some true
  rw [if_pos e1, if_pos e2]
  exact h4
theorem all_mk {l : PySem.W.OpenLaw} {w : World} {K : PySem.W.Frag} {h : Heap} {mg : Str → Option Value} {fa : Addr} (X : K.In h) (G : h.Ns mainGlobals mg) (hfa : mg "law" = some (.ref fa))
    {C_ArgumentError fI_ArgumentError N_ArgumentError : Addr} {nm_ArgumentError q_ArgumentError : Str} {bs_ArgumentError : List Value} {sn_ArgumentError : List Str} {sub_ArgumentError : List Value} {ab_ArgumentError : Bool} {col_ArgumentError : Option Bool} {dd_ArgumentError : Option Addr} {m0_ArgumentError m1_ArgumentError m2_ArgumentError m3_ArgumentError m5_ArgumentError : Option Value}
    {B0_ArgumentError : Addr}
    {oc_ArgumentError kV_ArgumentError dc_ArgumentError pm_ArgumentError cd_ArgumentError ct_ArgumentError : Value} {od_ArgumentError an_ArgumentError : Option Addr} {sl_ArgumentError : Array (Option Value)}
    {C_NetError fI_NetError N_NetError : Addr} {nm_NetError q_NetError : Str} {bs_NetError : List Value} {sn_NetError : List Str} {sub_NetError : List Value} {ab_NetError : Bool} {col_NetError : Option Bool} {dd_NetError : Option Addr} {m0_NetError m1_NetError m2_NetError m3_NetError m5_NetError : Option Value}
    {B0_NetError : Addr}
    {oc_NetError kV_NetError dc_NetError pm_NetError cd_NetError ct_NetError : Value} {od_NetError an_NetError : Option Addr} {sl_NetError : Array (Option Value)}
    {C_Station fI_Station : Addr} {oc_Station kV_Station dc_Station pm_Station cd_Station ct_Station : Value} {od_Station an_Station : Option Addr} {sl_Station : Array (Option Value)}
    {C_Kind fI_Kind : Addr} {oc_Kind kV_Kind dc_Kind pm_Kind cd_Kind ct_Kind : Value} {od_Kind an_Kind : Option Addr} {sl_Kind : Array (Option Value)}
    {C_Flight fI_Flight : Addr} {oc_Flight kV_Flight dc_Flight pm_Flight cd_Flight ct_Flight : Value} {od_Flight an_Flight : Option Addr} {sl_Flight : Array (Option Value)}
    {C_Tail fI_Tail : Addr} {oc_Tail kV_Tail dc_Tail pm_Tail cd_Tail ct_Tail : Value} {od_Tail an_Tail : Option Addr} {sl_Tail : Array (Option Value)}
    {C_Fare fI_Fare : Addr} {oc_Fare kV_Fare dc_Fare pm_Fare cd_Fare ct_Fare : Value} {od_Fare an_Fare : Option Addr} {sl_Fare : Array (Option Value)}
    {C_Chart fI_Chart : Addr} {oc_Chart kV_Chart dc_Chart pm_Chart cd_Chart ct_Chart : Value} {od_Chart an_Chart : Option Addr} {sl_Chart : Array (Option Value)}
    {f_M_flights_of : Addr} {oc_M_flights_of kV_M_flights_of dc_M_flights_of pm_M_flights_of cd_M_flights_of ct_M_flights_of : Value} {od_M_flights_of an_M_flights_of : Option Addr} {sl_M_flights_of : Array (Option Value)}
    {tCLASSES : Tok}
    {tDIGITS : Tok}
    {tFARES : Tok}
    {tFLIGHTS : Tok}
    {tLETTERS : Tok}
    {tMAX_CLASSES : Tok}
    {tMAX_COIN : Tok}
    {tMAX_EVENTS : Tok}
    {tMAX_FARES : Tok}
    {tMAX_FLIGHTS : Tok}
    {tMAX_LATE : Tok}
    {tMAX_NAME : Tok}
    {tMAX_STATIONS : Tok}
    {tMAX_STOPS : Tok}
    {tMAX_TAILS : Tok}
    {tMAX_TIME : Tok}
    {tMAX_TYPES : Tok}
    {tSTATIONS : Tok}
    {tTAILS : Tok}
    {tTYPES : Tok}
    {f__law_draws : Addr} {oc__law_draws kV__law_draws dc__law_draws pm__law_draws cd__law_draws ct__law_draws : Value} {od__law_draws an__law_draws : Option Addr} {sl__law_draws : Array (Option Value)}
    {f__law_more : Addr} {oc__law_more kV__law_more dc__law_more pm__law_more cd__law_more ct__law_more : Value} {od__law_more an__law_more : Option Addr} {sl__law_more : Array (Option Value)}
    {f__law_take : Addr} {oc__law_take kV__law_take dc__law_take pm__law_take cd__law_take ct__law_take : Value} {od__law_take an__law_take : Option Addr} {sl__law_take : Array (Option Value)}
    {f__law_one : Addr} {oc__law_one kV__law_one dc__law_one pm__law_one cd__law_one ct__law_one : Value} {od__law_one an__law_one : Option Addr} {sl__law_one : Array (Option Value)}
    {f__law_limits : Addr} {oc__law_limits kV__law_limits dc__law_limits pm__law_limits cd__law_limits ct__law_limits : Value} {od__law_limits an__law_limits : Option Addr} {sl__law_limits : Array (Option Value)}
    {f__law_net : Addr} {oc__law_net kV__law_net dc__law_net pm__law_net cd__law_net ct__law_net : Value} {od__law_net an__law_net : Option Addr} {sl__law_net : Array (Option Value)}
    {f__law_kind : Addr} {oc__law_kind kV__law_kind dc__law_kind pm__law_kind cd__law_kind ct__law_kind : Value} {od__law_kind an__law_kind : Option Addr} {sl__law_kind : Array (Option Value)}
    {f__law_event : Addr} {oc__law_event kV__law_event dc__law_event pm__law_event cd__law_event ct__law_event : Value} {od__law_event an__law_event : Option Addr} {sl__law_event : Array (Option Value)}
    {f__law_threats : Addr} {oc__law_threats kV__law_threats dc__law_threats pm__law_threats cd__law_threats ct__law_threats : Value} {od__law_threats an__law_threats : Option Addr} {sl__law_threats : Array (Option Value)}
    {f__law_course : Addr} {oc__law_course kV__law_course dc__law_course pm__law_course cd__law_course ct__law_course : Value} {od__law_course an__law_course : Option Addr} {sl__law_course : Array (Option Value)}
    {f__law_row : Addr} {oc__law_row kV__law_row dc__law_row pm__law_row cd__law_row ct__law_row : Value} {od__law_row an__law_row : Option Addr} {sl__law_row : Array (Option Value)}
    {f__law_flown : Addr} {oc__law_flown kV__law_flown dc__law_flown pm__law_flown cd__law_flown ct__law_flown : Value} {od__law_flown an__law_flown : Option Addr} {sl__law_flown : Array (Option Value)}
    {f__law_due : Addr} {oc__law_due kV__law_due dc__law_due pm__law_due cd__law_due ct__law_due : Value} {od__law_due an__law_due : Option Addr} {sl__law_due : Array (Option Value)}
    {f_is_row : Addr} {oc_is_row kV_is_row dc_is_row pm_is_row cd_is_row ct_is_row : Value} {od_is_row an_is_row : Option Addr} {sl_is_row : Array (Option Value)}
    {f_are_strings : Addr} {oc_are_strings kV_are_strings dc_are_strings pm_are_strings cd_are_strings ct_are_strings : Value} {od_are_strings an_are_strings : Option Addr} {sl_are_strings : Array (Option Value)}
    {f_is_integer : Addr} {oc_is_integer kV_is_integer dc_is_integer pm_is_integer cd_is_integer ct_is_integer : Value} {od_is_integer an_is_integer : Option Addr} {sl_is_integer : Array (Option Value)}
    {f_are_integers : Addr} {oc_are_integers kV_are_integers dc_are_integers pm_are_integers cd_are_integers ct_are_integers : Value} {od_are_integers an_are_integers : Option Addr} {sl_are_integers : Array (Option Value)}
    {f_fits_field : Addr} {oc_fits_field kV_fits_field dc_fits_field pm_fits_field cd_fits_field ct_fits_field : Value} {od_fits_field an_fits_field : Option Addr} {sl_fits_field : Array (Option Value)}
    {f_row_has_shape : Addr} {oc_row_has_shape kV_row_has_shape dc_row_has_shape pm_row_has_shape cd_row_has_shape ct_row_has_shape : Value} {od_row_has_shape an_row_has_shape : Option Addr} {sl_row_has_shape : Array (Option Value)}
    {f_part_has_shape : Addr} {oc_part_has_shape kV_part_has_shape dc_part_has_shape pm_part_has_shape cd_part_has_shape ct_part_has_shape : Value} {od_part_has_shape an_part_has_shape : Option Addr} {sl_part_has_shape : Array (Option Value)}
    {f_has_shape : Addr} {oc_has_shape kV_has_shape dc_has_shape pm_has_shape cd_has_shape ct_has_shape : Value} {od_has_shape an_has_shape : Option Addr} {sl_has_shape : Array (Option Value)}
    {f_station_fault : Addr} {oc_station_fault kV_station_fault dc_station_fault pm_station_fault cd_station_fault ct_station_fault : Value} {od_station_fault an_station_fault : Option Addr} {sl_station_fault : Array (Option Value)}
    {f_type_fault : Addr} {oc_type_fault kV_type_fault dc_type_fault pm_type_fault cd_type_fault ct_type_fault : Value} {od_type_fault an_type_fault : Option Addr} {sl_type_fault : Array (Option Value)}
    {f_class_fault : Addr} {oc_class_fault kV_class_fault dc_class_fault pm_class_fault cd_class_fault ct_class_fault : Value} {od_class_fault an_class_fault : Option Addr} {sl_class_fault : Array (Option Value)}
    {f_row_names : Addr} {oc_row_names kV_row_names dc_row_names pm_row_names cd_row_names ct_row_names : Value} {od_row_names an_row_names : Option Addr} {sl_row_names : Array (Option Value)}
    {f_ends_fault : Addr} {oc_ends_fault kV_ends_fault dc_ends_fault pm_ends_fault cd_ends_fault ct_ends_fault : Value} {od_ends_fault an_ends_fault : Option Addr} {sl_ends_fault : Array (Option Value)}
    {f_are_limits : Addr} {oc_are_limits kV_are_limits dc_are_limits pm_are_limits cd_are_limits ct_are_limits : Value} {od_are_limits an_are_limits : Option Addr} {sl_are_limits : Array (Option Value)}
    {f_flight_fault : Addr} {oc_flight_fault kV_flight_fault dc_flight_fault pm_flight_fault cd_flight_fault ct_flight_fault : Value} {od_flight_fault an_flight_fault : Option Addr} {sl_flight_fault : Array (Option Value)}
    {f_flown_before : Addr} {oc_flown_before kV_flown_before dc_flown_before pm_flown_before cd_flown_before ct_flown_before : Value} {od_flown_before an_flown_before : Option Addr} {sl_flown_before : Array (Option Value)}
    {f_leg_fault : Addr} {oc_leg_fault kV_leg_fault dc_leg_fault pm_leg_fault cd_leg_fault ct_leg_fault : Value} {od_leg_fault an_leg_fault : Option Addr} {sl_leg_fault : Array (Option Value)}
    {f_tail_fault : Addr} {oc_tail_fault kV_tail_fault dc_tail_fault pm_tail_fault cd_tail_fault ct_tail_fault : Value} {od_tail_fault an_tail_fault : Option Addr} {sl_tail_fault : Array (Option Value)}
    {f_fare_fault : Addr} {oc_fare_fault kV_fare_fault dc_fare_fault pm_fare_fault cd_fare_fault ct_fare_fault : Value} {od_fare_fault an_fare_fault : Option Addr} {sl_fare_fault : Array (Option Value)}
    {f_check_numbers : Addr} {oc_check_numbers kV_check_numbers dc_check_numbers pm_check_numbers cd_check_numbers ct_check_numbers : Value} {od_check_numbers an_check_numbers : Option Addr} {sl_check_numbers : Array (Option Value)}
    {f_in_name : Addr} {oc_in_name kV_in_name dc_in_name pm_in_name cd_in_name ct_in_name : Value} {od_in_name an_in_name : Option Addr} {sl_in_name : Array (Option Value)}
    {f_is_name : Addr} {oc_is_name kV_is_name dc_is_name pm_is_name cd_is_name ct_is_name : Value} {od_is_name an_is_name : Option Addr} {sl_is_name : Array (Option Value)}
    {f_row_fault : Addr} {oc_row_fault kV_row_fault dc_row_fault pm_row_fault cd_row_fault ct_row_fault : Value} {od_row_fault an_row_fault : Option Addr} {sl_row_fault : Array (Option Value)}
    {f_check : Addr} {oc_check kV_check dc_check pm_check cd_check ct_check : Value} {od_check an_check : Option Addr} {sl_check : Array (Option Value)}
    {f_checked_chart : Addr} {oc_checked_chart kV_checked_chart dc_checked_chart pm_checked_chart cd_checked_chart ct_checked_chart : Value} {od_checked_chart an_checked_chart : Option Addr} {sl_checked_chart : Array (Option Value)}
    {f_require : Addr} {oc_require kV_require dc_require pm_require cd_require ct_require : Value} {od_require an_require : Option Addr} {sl_require : Array (Option Value)}
    {f_is_short : Addr} {oc_is_short kV_is_short dc_is_short pm_is_short cd_is_short ct_is_short : Value} {od_is_short an_is_short : Option Addr} {sl_is_short : Array (Option Value)}
    {f_is_known : Addr} {oc_is_known kV_is_known dc_is_known pm_is_known cd_is_known ct_is_known : Value} {od_is_known an_is_known : Option Addr} {sl_is_known : Array (Option Value)}
    {f_is_within : Addr} {oc_is_within kV_is_within dc_is_within pm_is_within cd_is_within ct_is_within : Value} {od_is_within an_is_within : Option Addr} {sl_is_within : Array (Option Value)}
    {f_is_smaller : Addr} {oc_is_smaller kV_is_smaller dc_is_smaller pm_is_smaller cd_is_smaller ct_is_smaller : Value} {od_is_smaller an_is_smaller : Option Addr} {sl_is_smaller : Array (Option Value)}
    {f_is_event : Addr} {oc_is_event kV_is_event dc_is_event pm_is_event cd_is_event ct_is_event : Value} {od_is_event an_is_event : Option Addr} {sl_is_event : Array (Option Value)}
    {f_are_unlike : Addr} {oc_are_unlike kV_are_unlike dc_are_unlike pm_are_unlike cd_are_unlike ct_are_unlike : Value} {od_are_unlike an_are_unlike : Option Addr} {sl_are_unlike : Array (Option Value)}
    {f_is_course : Addr} {oc_is_course kV_is_course dc_is_course pm_is_course cd_is_course ct_is_course : Value} {od_is_course an_is_course : Option Addr} {sl_is_course : Array (Option Value)}
    {f_require_course : Addr} {oc_require_course kV_require_course dc_require_course pm_require_course cd_require_course ct_require_course : Value} {od_require_course an_require_course : Option Addr} {sl_require_course : Array (Option Value)}
    {f_flown_by : Addr} {oc_flown_by kV_flown_by dc_flown_by pm_flown_by cd_flown_by ct_flown_by : Value} {od_flown_by an_flown_by : Option Addr} {sl_flown_by : Array (Option Value)}
    {f_flown_held : Addr} {oc_flown_held kV_flown_held dc_flown_held pm_flown_held cd_flown_held ct_flown_held : Value} {od_flown_held an_flown_held : Option Addr} {sl_flown_held : Array (Option Value)}
    {f_flown_in : Addr} {oc_flown_in kV_flown_in dc_flown_in pm_flown_in cd_flown_in ct_flown_in : Value} {od_flown_in an_flown_in : Option Addr} {sl_flown_in : Array (Option Value)}
    {f_asked_course : Addr} {oc_asked_course kV_asked_course dc_asked_course pm_asked_course cd_asked_course ct_asked_course : Value} {od_asked_course an_asked_course : Option Addr} {sl_asked_course : Array (Option Value)}
    {f_actual : Addr} {oc_actual kV_actual dc_actual pm_actual cd_actual ct_actual : Value} {od_actual an_actual : Option Addr} {sl_actual : Array (Option Value)}
    {f__law_told : Addr} {oc__law_told kV__law_told dc__law_told pm__law_told cd__law_told ct__law_told : Value} {od__law_told an__law_told : Option Addr} {sl__law_told : Array (Option Value)}
    {f__law_one_place : Addr} {oc__law_one_place kV__law_one_place dc__law_one_place pm__law_one_place cd__law_one_place ct__law_one_place : Value} {od__law_one_place an__law_one_place : Option Addr} {sl__law_one_place : Array (Option Value)}
    {f_law : Addr} {oc_law kV_law dc_law pm_law cd_law ct_law : Value} {od_law an_law : Option Addr} {sl_law : Array (Option Value)}
    {A_FAULTS : Addr} {od_FAULTS : Option Addr} {it_FAULTS : Array Value} {n_FAULTS : Nat} {sl_FAULTS : Array (Option Value)}
    {A_FIELDS : Addr} {od_FIELDS : Option Addr} {it_FIELDS : Array Value} {n_FIELDS : Nat} {sl_FIELDS : Array (Option Value)}
    {A_FIELDS_0 : Addr}
    {A_FIELDS_1 : Addr}
    {A_FIELDS_2 : Addr}
    {A_FIELDS_3 : Addr}
    {A_FIELDS_4 : Addr}
    {A_FIELDS_5 : Addr}
    {od_FIELDS_0 : Option Addr} {it_FIELDS_0 : Array Value} {n_FIELDS_0 : Nat} {sl_FIELDS_0 : Array (Option Value)}
    {t_FIELDS_0_0 : Tok}
    {t_FIELDS_0_1 : Tok}
    {t_FIELDS_0_2 : Tok}
    {od_FIELDS_1 : Option Addr} {it_FIELDS_1 : Array Value} {n_FIELDS_1 : Nat} {sl_FIELDS_1 : Array (Option Value)}
    {t_FIELDS_1_0 : Tok}
    {t_FIELDS_1_1 : Tok}
    {t_FIELDS_1_2 : Tok}
    {od_FIELDS_2 : Option Addr} {it_FIELDS_2 : Array Value} {n_FIELDS_2 : Nat} {sl_FIELDS_2 : Array (Option Value)}
    {od_FIELDS_3 : Option Addr} {it_FIELDS_3 : Array Value} {n_FIELDS_3 : Nat} {sl_FIELDS_3 : Array (Option Value)}
    {t_FIELDS_3_0 : Tok}
    {t_FIELDS_3_1 : Tok}
    {t_FIELDS_3_2 : Tok}
    {t_FIELDS_3_3 : Tok}
    {t_FIELDS_3_4 : Tok}
    {t_FIELDS_3_5 : Tok}
    {t_FIELDS_3_6 : Tok}
    {t_FIELDS_3_7 : Tok}
    {od_FIELDS_4 : Option Addr} {it_FIELDS_4 : Array Value} {n_FIELDS_4 : Nat} {sl_FIELDS_4 : Array (Option Value)}
    {t_FIELDS_4_0 : Tok}
    {t_FIELDS_4_1 : Tok}
    {t_FIELDS_4_2 : Tok}
    {od_FIELDS_5 : Option Addr} {it_FIELDS_5 : Array Value} {n_FIELDS_5 : Nat} {sl_FIELDS_5 : Array (Option Value)}
    {t_FIELDS_5_0 : Tok}
    {t_FIELDS_5_1 : Tok}
    {t_FIELDS_5_2 : Tok}
    {t_FIELDS_5_3 : Tok}
    {t_FIELDS_5_4 : Tok}
    {t_FIELDS_5_5 : Tok}
    {t_FIELDS_5_6 : Tok}
    {t_FIELDS_5_7 : Tok}
    (aC_ArgumentError : PySem.W.nsIn K mainGlobals "ArgumentError" = some (some (.ref C_ArgumentError)))
    (xC_ArgumentError : K.lookup C_ArgumentError = some (excClassObj nm_ArgumentError q_ArgumentError C_ArgumentError N_ArgumentError bs_ArgumentError [.ref B0_ArgumentError, .type "ValueError", .type "Exception", .type "BaseException", .type "object"] true sn_ArgumentError sub_ArgumentError ab_ArgumentError col_ArgumentError dd_ArgumentError m0_ArgumentError m1_ArgumentError m2_ArgumentError m3_ArgumentError m5_ArgumentError "ValueError.__new__"))
    (sa_ArgumentError : PySem.W.findIn K (.ref C_ArgumentError) "__setattr__" = some (some (.builtin "object.__setattr__")))
    (ga_ArgumentError : PySem.W.findIn K (.ref C_ArgumentError) "__getattribute__" = some (some (.builtin "BaseException.__getattribute__")))
    (gg_ArgumentError : PySem.W.findIn K (.ref C_ArgumentError) "__getattr__" = some none)
    (no_ArgumentError_reason : PySem.W.findIn K (.ref C_ArgumentError) "reason" = some none)
    (kC_ArgumentError : PySem.W.keepIn K (.ref C_ArgumentError) = true)
    (eC_ArgumentError : PySem.W.subIn K (.ref C_ArgumentError) (.type "BaseException") = some true)
    (tC_ArgumentError : PySem.W.typeIn K (.ref C_ArgumentError) = some (.type "type"))
    (hC_ArgumentError : PySem.W.hasDictIn K C_ArgumentError = true)
    (iC_ArgumentError : PySem.W.isClsIn K C_ArgumentError = true)
    (sC_ArgumentError : PySem.W.subIn K (.ref C_ArgumentError) (.ref C_ArgumentError) = some true)
    (ai_ArgumentError : PySem.W.findIn K (.ref C_ArgumentError) "__init__" = some (some (.ref fI_ArgumentError)))
    (ti_ArgumentError : PySem.W.typeIn K (.ref fI_ArgumentError) = some (.type "function"))
    (li_ArgumentError : K.lookup fI_ArgumentError = some ⟨oc_ArgumentError, od_ArgumentError, .func (PySem.W.fnOf "__init__" "ArgumentError.__init__" (defArgs s_ArgumentErrorD_initD) (defBody s_ArgumentErrorD_initD) (defScope s_ArgumentErrorD_initD) .none kV_ArgumentError dc_ArgumentError pm_ArgumentError an_ArgumentError cd_ArgumentError ct_ArgumentError), sl_ArgumentError⟩)
    (ci_ArgumentError : PySem.W.codeIn K cd_ArgumentError "ArgumentError.__init__" = true)
    (ki_ArgumentError : PySem.W.keepIn K (.ref fI_ArgumentError) = true)
    (aC_NetError : PySem.W.nsIn K mainGlobals "NetError" = some (some (.ref C_NetError)))
    (xC_NetError : K.lookup C_NetError = some (excClassObj nm_NetError q_NetError C_NetError N_NetError bs_NetError [.ref B0_NetError, .type "ValueError", .type "Exception", .type "BaseException", .type "object"] true sn_NetError sub_NetError ab_NetError col_NetError dd_NetError m0_NetError m1_NetError m2_NetError m3_NetError m5_NetError "ValueError.__new__"))
    (sa_NetError : PySem.W.findIn K (.ref C_NetError) "__setattr__" = some (some (.builtin "object.__setattr__")))
    (ga_NetError : PySem.W.findIn K (.ref C_NetError) "__getattribute__" = some (some (.builtin "BaseException.__getattribute__")))
    (gg_NetError : PySem.W.findIn K (.ref C_NetError) "__getattr__" = some none)
    (no_NetError_path : PySem.W.findIn K (.ref C_NetError) "path" = some none)
    (no_NetError_reason : PySem.W.findIn K (.ref C_NetError) "reason" = some none)
    (kC_NetError : PySem.W.keepIn K (.ref C_NetError) = true)
    (eC_NetError : PySem.W.subIn K (.ref C_NetError) (.type "BaseException") = some true)
    (tC_NetError : PySem.W.typeIn K (.ref C_NetError) = some (.type "type"))
    (hC_NetError : PySem.W.hasDictIn K C_NetError = true)
    (iC_NetError : PySem.W.isClsIn K C_NetError = true)
    (sC_NetError : PySem.W.subIn K (.ref C_NetError) (.ref C_NetError) = some true)
    (ai_NetError : PySem.W.findIn K (.ref C_NetError) "__init__" = some (some (.ref fI_NetError)))
    (ti_NetError : PySem.W.typeIn K (.ref fI_NetError) = some (.type "function"))
    (li_NetError : K.lookup fI_NetError = some ⟨oc_NetError, od_NetError, .func (PySem.W.fnOf "__init__" "NetError.__init__" (defArgs s_NetErrorD_initD) (defBody s_NetErrorD_initD) (defScope s_NetErrorD_initD) .none kV_NetError dc_NetError pm_NetError an_NetError cd_NetError ct_NetError), sl_NetError⟩)
    (ci_NetError : PySem.W.codeIn K cd_NetError "NetError.__init__" = true)
    (ki_NetError : PySem.W.keepIn K (.ref fI_NetError) = true)
    (hnB : PySem.W.specialIn K (.builtin "object.__class__") "__get__" = some (some (.builtin "getset_descriptor.__get__")))
    (htB : PySem.W.takesIn K (.builtin "object.__class__") = some true)
    (gc_ArgumentError : PySem.W.findIn K (.ref C_ArgumentError) "__class__" = some (some (.builtin "object.__class__")))
    (mo_ArgumentError : PySem.W.mroIn K C_ArgumentError (.type "object") = some true)
    (aC_Station : PySem.W.nsIn K mainGlobals "Station" = some (some (.ref C_Station)))
    (pg_Station : PySem.W.plainGet K C_Station Str.empty = true)
    (hd_Station : PySem.W.hasDictIn K C_Station = true)
    (po_Station : PySem.W.plainOver K C_Station = true)
    (sa_Station : PySem.W.findIn K (.ref C_Station) "__setattr__" = some (some (.builtin "object.__setattr__")))
    (mk_Station : PySem.W.makesIn K C_Station = true)
    (ai_Station : PySem.W.findIn K (.ref C_Station) "__init__" = some (some (.ref fI_Station)))
    (fn_Station : PySem.W.isFn K (.ref fI_Station) = true)
    (kC_Station : PySem.W.keepIn K (.ref C_Station) = true)
    (no_Station_name : PySem.W.findIn K (.ref C_Station) "name" = some none)
    (no_Station_zone : PySem.W.findIn K (.ref C_Station) "zone" = some none)
    (no_Station_least : PySem.W.findIn K (.ref C_Station) "least" = some none)
    (li_Station : K.lookup fI_Station = some ⟨oc_Station, od_Station, .func (PySem.W.fnOf "__init__" "Station.__init__" (defArgs s_StationD_initD) (defBody s_StationD_initD) (defScope s_StationD_initD) .none kV_Station dc_Station pm_Station an_Station cd_Station ct_Station), sl_Station⟩)
    (ci_Station : PySem.W.codeIn K cd_Station "Station.__init__" = true)
    (ki_Station : PySem.W.keepIn K (.ref fI_Station) = true)
    (aC_Kind : PySem.W.nsIn K mainGlobals "Kind" = some (some (.ref C_Kind)))
    (pg_Kind : PySem.W.plainGet K C_Kind Str.empty = true)
    (hd_Kind : PySem.W.hasDictIn K C_Kind = true)
    (po_Kind : PySem.W.plainOver K C_Kind = true)
    (sa_Kind : PySem.W.findIn K (.ref C_Kind) "__setattr__" = some (some (.builtin "object.__setattr__")))
    (mk_Kind : PySem.W.makesIn K C_Kind = true)
    (ai_Kind : PySem.W.findIn K (.ref C_Kind) "__init__" = some (some (.ref fI_Kind)))
    (fn_Kind : PySem.W.isFn K (.ref fI_Kind) = true)
    (kC_Kind : PySem.W.keepIn K (.ref C_Kind) = true)
    (no_Kind_name : PySem.W.findIn K (.ref C_Kind) "name" = some none)
    (no_Kind_seats : PySem.W.findIn K (.ref C_Kind) "seats" = some none)
    (no_Kind_turn : PySem.W.findIn K (.ref C_Kind) "turn" = some none)
    (li_Kind : K.lookup fI_Kind = some ⟨oc_Kind, od_Kind, .func (PySem.W.fnOf "__init__" "Kind.__init__" (defArgs s_KindD_initD) (defBody s_KindD_initD) (defScope s_KindD_initD) .none kV_Kind dc_Kind pm_Kind an_Kind cd_Kind ct_Kind), sl_Kind⟩)
    (ci_Kind : PySem.W.codeIn K cd_Kind "Kind.__init__" = true)
    (ki_Kind : PySem.W.keepIn K (.ref fI_Kind) = true)
    (aC_Flight : PySem.W.nsIn K mainGlobals "Flight" = some (some (.ref C_Flight)))
    (pg_Flight : PySem.W.plainGet K C_Flight Str.empty = true)
    (hd_Flight : PySem.W.hasDictIn K C_Flight = true)
    (po_Flight : PySem.W.plainOver K C_Flight = true)
    (sa_Flight : PySem.W.findIn K (.ref C_Flight) "__setattr__" = some (some (.builtin "object.__setattr__")))
    (mk_Flight : PySem.W.makesIn K C_Flight = true)
    (ai_Flight : PySem.W.findIn K (.ref C_Flight) "__init__" = some (some (.ref fI_Flight)))
    (fn_Flight : PySem.W.isFn K (.ref fI_Flight) = true)
    (kC_Flight : PySem.W.keepIn K (.ref C_Flight) = true)
    (no_Flight_name : PySem.W.findIn K (.ref C_Flight) "name" = some none)
    (no_Flight_start : PySem.W.findIn K (.ref C_Flight) "start" = some none)
    (no_Flight_end : PySem.W.findIn K (.ref C_Flight) "end" = some none)
    (no_Flight_depart : PySem.W.findIn K (.ref C_Flight) "depart" = some none)
    (no_Flight_arrive : PySem.W.findIn K (.ref C_Flight) "arrive" = some none)
    (no_Flight_kind : PySem.W.findIn K (.ref C_Flight) "kind" = some none)
    (no_Flight_distance : PySem.W.findIn K (.ref C_Flight) "distance" = some none)
    (no_Flight_limits : PySem.W.findIn K (.ref C_Flight) "limits" = some none)
    (li_Flight : K.lookup fI_Flight = some ⟨oc_Flight, od_Flight, .func (PySem.W.fnOf "__init__" "Flight.__init__" (defArgs s_FlightD_initD) (defBody s_FlightD_initD) (defScope s_FlightD_initD) .none kV_Flight dc_Flight pm_Flight an_Flight cd_Flight ct_Flight), sl_Flight⟩)
    (ci_Flight : PySem.W.codeIn K cd_Flight "Flight.__init__" = true)
    (ki_Flight : PySem.W.keepIn K (.ref fI_Flight) = true)
    (aC_Tail : PySem.W.nsIn K mainGlobals "Tail" = some (some (.ref C_Tail)))
    (pg_Tail : PySem.W.plainGet K C_Tail Str.empty = true)
    (hd_Tail : PySem.W.hasDictIn K C_Tail = true)
    (po_Tail : PySem.W.plainOver K C_Tail = true)
    (sa_Tail : PySem.W.findIn K (.ref C_Tail) "__setattr__" = some (some (.builtin "object.__setattr__")))
    (mk_Tail : PySem.W.makesIn K C_Tail = true)
    (ai_Tail : PySem.W.findIn K (.ref C_Tail) "__init__" = some (some (.ref fI_Tail)))
    (fn_Tail : PySem.W.isFn K (.ref fI_Tail) = true)
    (kC_Tail : PySem.W.keepIn K (.ref C_Tail) = true)
    (no_Tail_name : PySem.W.findIn K (.ref C_Tail) "name" = some none)
    (no_Tail_kind : PySem.W.findIn K (.ref C_Tail) "kind" = some none)
    (no_Tail_flights : PySem.W.findIn K (.ref C_Tail) "flights" = some none)
    (li_Tail : K.lookup fI_Tail = some ⟨oc_Tail, od_Tail, .func (PySem.W.fnOf "__init__" "Tail.__init__" (defArgs s_TailD_initD) (defBody s_TailD_initD) (defScope s_TailD_initD) .none kV_Tail dc_Tail pm_Tail an_Tail cd_Tail ct_Tail), sl_Tail⟩)
    (ci_Tail : PySem.W.codeIn K cd_Tail "Tail.__init__" = true)
    (ki_Tail : PySem.W.keepIn K (.ref fI_Tail) = true)
    (aC_Fare : PySem.W.nsIn K mainGlobals "Fare" = some (some (.ref C_Fare)))
    (pg_Fare : PySem.W.plainGet K C_Fare Str.empty = true)
    (hd_Fare : PySem.W.hasDictIn K C_Fare = true)
    (po_Fare : PySem.W.plainOver K C_Fare = true)
    (sa_Fare : PySem.W.findIn K (.ref C_Fare) "__setattr__" = some (some (.builtin "object.__setattr__")))
    (mk_Fare : PySem.W.makesIn K C_Fare = true)
    (ai_Fare : PySem.W.findIn K (.ref C_Fare) "__init__" = some (some (.ref fI_Fare)))
    (fn_Fare : PySem.W.isFn K (.ref fI_Fare) = true)
    (kC_Fare : PySem.W.keepIn K (.ref C_Fare) = true)
    (no_Fare_name : PySem.W.findIn K (.ref C_Fare) "name" = some none)
    (no_Fare_start : PySem.W.findIn K (.ref C_Fare) "start" = some none)
    (no_Fare_end : PySem.W.findIn K (.ref C_Fare) "end" = some none)
    (no_Fare_cabin : PySem.W.findIn K (.ref C_Fare) "cabin" = some none)
    (no_Fare_price : PySem.W.findIn K (.ref C_Fare) "price" = some none)
    (no_Fare_stops : PySem.W.findIn K (.ref C_Fare) "stops" = some none)
    (no_Fare_fee : PySem.W.findIn K (.ref C_Fare) "fee" = some none)
    (no_Fare_back : PySem.W.findIn K (.ref C_Fare) "back" = some none)
    (li_Fare : K.lookup fI_Fare = some ⟨oc_Fare, od_Fare, .func (PySem.W.fnOf "__init__" "Fare.__init__" (defArgs s_FareD_initD) (defBody s_FareD_initD) (defScope s_FareD_initD) .none kV_Fare dc_Fare pm_Fare an_Fare cd_Fare ct_Fare), sl_Fare⟩)
    (ci_Fare : PySem.W.codeIn K cd_Fare "Fare.__init__" = true)
    (ki_Fare : PySem.W.keepIn K (.ref fI_Fare) = true)
    (aC_Chart : PySem.W.nsIn K mainGlobals "Chart" = some (some (.ref C_Chart)))
    (pg_Chart : PySem.W.plainGet K C_Chart Str.empty = true)
    (hd_Chart : PySem.W.hasDictIn K C_Chart = true)
    (po_Chart : PySem.W.plainOver K C_Chart = true)
    (sa_Chart : PySem.W.findIn K (.ref C_Chart) "__setattr__" = some (some (.builtin "object.__setattr__")))
    (mk_Chart : PySem.W.makesIn K C_Chart = true)
    (ai_Chart : PySem.W.findIn K (.ref C_Chart) "__init__" = some (some (.ref fI_Chart)))
    (fn_Chart : PySem.W.isFn K (.ref fI_Chart) = true)
    (kC_Chart : PySem.W.keepIn K (.ref C_Chart) = true)
    (no_Chart_stations : PySem.W.findIn K (.ref C_Chart) "stations" = some none)
    (no_Chart_kinds : PySem.W.findIn K (.ref C_Chart) "kinds" = some none)
    (no_Chart_ranks : PySem.W.findIn K (.ref C_Chart) "ranks" = some none)
    (no_Chart_flights : PySem.W.findIn K (.ref C_Chart) "flights" = some none)
    (no_Chart_tails : PySem.W.findIn K (.ref C_Chart) "tails" = some none)
    (no_Chart_fares : PySem.W.findIn K (.ref C_Chart) "fares" = some none)
    (li_Chart : K.lookup fI_Chart = some ⟨oc_Chart, od_Chart, .func (PySem.W.fnOf "__init__" "Chart.__init__" (defArgs s_ChartD_initD) (defBody s_ChartD_initD) (defScope s_ChartD_initD) .none kV_Chart dc_Chart pm_Chart an_Chart cd_Chart ct_Chart), sl_Chart⟩)
    (ci_Chart : PySem.W.codeIn K cd_Chart "Chart.__init__" = true)
    (ki_Chart : PySem.W.keepIn K (.ref fI_Chart) = true)
    (am_flights_of : PySem.W.findIn K (.ref C_Chart) "flights_of" = some (some (.ref f_M_flights_of)))
    (fm_flights_of : PySem.W.isFn K (.ref f_M_flights_of) = true)
    (l_M_flights_of : K.lookup f_M_flights_of = some ⟨oc_M_flights_of, od_M_flights_of, .func (PySem.W.fnOf "flights_of" "Chart.flights_of" (defArgs s_Chart_flights_of) (defBody s_Chart_flights_of) (defScope s_Chart_flights_of) .none kV_M_flights_of dc_M_flights_of pm_M_flights_of an_M_flights_of cd_M_flights_of ct_M_flights_of), sl_M_flights_of⟩)
    (c_M_flights_of : PySem.W.codeIn K cd_M_flights_of "Chart.flights_of" = true)
    (k_M_flights_of : PySem.W.keepIn K (.ref f_M_flights_of) = true)
    (gCLASSES : PySem.W.nsIn K mainGlobals "CLASSES" = some (some (.int 2 tCLASSES)))
    (gDIGITS : PySem.W.nsIn K mainGlobals "DIGITS" = some (some (.str "0123456789" tDIGITS)))
    (gFARES : PySem.W.nsIn K mainGlobals "FARES" = some (some (.int 5 tFARES)))
    (gFLIGHTS : PySem.W.nsIn K mainGlobals "FLIGHTS" = some (some (.int 3 tFLIGHTS)))
    (gLETTERS : PySem.W.nsIn K mainGlobals "LETTERS" = some (some (.str "abcdefghijklmnopqrstuvwxyzABCDEFGHIJKLMNOPQRSTUVWXYZ" tLETTERS)))
    (gMAX_CLASSES : PySem.W.nsIn K mainGlobals "MAX_CLASSES" = some (some (.int 6 tMAX_CLASSES)))
    (gMAX_COIN : PySem.W.nsIn K mainGlobals "MAX_COIN" = some (some (.int 1000000 tMAX_COIN)))
    (gMAX_EVENTS : PySem.W.nsIn K mainGlobals "MAX_EVENTS" = some (some (.int 3 tMAX_EVENTS)))
    (gMAX_FARES : PySem.W.nsIn K mainGlobals "MAX_FARES" = some (some (.int 40 tMAX_FARES)))
    (gMAX_FLIGHTS : PySem.W.nsIn K mainGlobals "MAX_FLIGHTS" = some (some (.int 40 tMAX_FLIGHTS)))
    (gMAX_LATE : PySem.W.nsIn K mainGlobals "MAX_LATE" = some (some (.int 1440 tMAX_LATE)))
    (gMAX_NAME : PySem.W.nsIn K mainGlobals "MAX_NAME" = some (some (.int 12 tMAX_NAME)))
    (gMAX_STATIONS : PySem.W.nsIn K mainGlobals "MAX_STATIONS" = some (some (.int 12 tMAX_STATIONS)))
    (gMAX_STOPS : PySem.W.nsIn K mainGlobals "MAX_STOPS" = some (some (.int 3 tMAX_STOPS)))
    (gMAX_TAILS : PySem.W.nsIn K mainGlobals "MAX_TAILS" = some (some (.int 12 tMAX_TAILS)))
    (gMAX_TIME : PySem.W.nsIn K mainGlobals "MAX_TIME" = some (some (.int 20160 tMAX_TIME)))
    (gMAX_TYPES : PySem.W.nsIn K mainGlobals "MAX_TYPES" = some (some (.int 4 tMAX_TYPES)))
    (gSTATIONS : PySem.W.nsIn K mainGlobals "STATIONS" = some (some (.int 0 tSTATIONS)))
    (gTAILS : PySem.W.nsIn K mainGlobals "TAILS" = some (some (.int 4 tTAILS)))
    (gTYPES : PySem.W.nsIn K mainGlobals "TYPES" = some (some (.int 1 tTYPES)))
    (a__law_draws : PySem.W.nsIn K mainGlobals "_law_draws" = some (some (.ref f__law_draws)))
    (l__law_draws : K.lookup f__law_draws = some ⟨oc__law_draws, od__law_draws, .func (PySem.W.fnOf "_law_draws" "_law_draws" (defArgs s_law_draws) (defBody s_law_draws) (defScope s_law_draws) .none kV__law_draws dc__law_draws pm__law_draws an__law_draws cd__law_draws ct__law_draws), sl__law_draws⟩)
    (c__law_draws : PySem.W.codeIn K cd__law_draws "_law_draws" = true)
    (k__law_draws : PySem.W.keepIn K (.ref f__law_draws) = true)
    (a__law_more : PySem.W.nsIn K mainGlobals "_law_more" = some (some (.ref f__law_more)))
    (l__law_more : K.lookup f__law_more = some ⟨oc__law_more, od__law_more, .func (PySem.W.fnOf "_law_more" "_law_more" (defArgs s_law_more) (defBody s_law_more) (defScope s_law_more) .none kV__law_more dc__law_more pm__law_more an__law_more cd__law_more ct__law_more), sl__law_more⟩)
    (c__law_more : PySem.W.codeIn K cd__law_more "_law_more" = true)
    (k__law_more : PySem.W.keepIn K (.ref f__law_more) = true)
    (a__law_take : PySem.W.nsIn K mainGlobals "_law_take" = some (some (.ref f__law_take)))
    (l__law_take : K.lookup f__law_take = some ⟨oc__law_take, od__law_take, .func (PySem.W.fnOf "_law_take" "_law_take" (defArgs s_law_take) (defBody s_law_take) (defScope s_law_take) .none kV__law_take dc__law_take pm__law_take an__law_take cd__law_take ct__law_take), sl__law_take⟩)
    (c__law_take : PySem.W.codeIn K cd__law_take "_law_take" = true)
    (k__law_take : PySem.W.keepIn K (.ref f__law_take) = true)
    (a__law_one : PySem.W.nsIn K mainGlobals "_law_one" = some (some (.ref f__law_one)))
    (l__law_one : K.lookup f__law_one = some ⟨oc__law_one, od__law_one, .func (PySem.W.fnOf "_law_one" "_law_one" (defArgs s_law_one) (defBody s_law_one) (defScope s_law_one) .none kV__law_one dc__law_one pm__law_one an__law_one cd__law_one ct__law_one), sl__law_one⟩)
    (c__law_one : PySem.W.codeIn K cd__law_one "_law_one" = true)
    (k__law_one : PySem.W.keepIn K (.ref f__law_one) = true)
    (a__law_limits : PySem.W.nsIn K mainGlobals "_law_limits" = some (some (.ref f__law_limits)))
    (l__law_limits : K.lookup f__law_limits = some ⟨oc__law_limits, od__law_limits, .func (PySem.W.fnOf "_law_limits" "_law_limits" (defArgs s_law_limits) (defBody s_law_limits) (defScope s_law_limits) .none kV__law_limits dc__law_limits pm__law_limits an__law_limits cd__law_limits ct__law_limits), sl__law_limits⟩)
    (c__law_limits : PySem.W.codeIn K cd__law_limits "_law_limits" = true)
    (k__law_limits : PySem.W.keepIn K (.ref f__law_limits) = true)
    (a__law_net : PySem.W.nsIn K mainGlobals "_law_net" = some (some (.ref f__law_net)))
    (l__law_net : K.lookup f__law_net = some ⟨oc__law_net, od__law_net, .func (PySem.W.fnOf "_law_net" "_law_net" (defArgs s_law_net) (defBody s_law_net) (defScope s_law_net) .none kV__law_net dc__law_net pm__law_net an__law_net cd__law_net ct__law_net), sl__law_net⟩)
    (c__law_net : PySem.W.codeIn K cd__law_net "_law_net" = true)
    (k__law_net : PySem.W.keepIn K (.ref f__law_net) = true)
    (a__law_kind : PySem.W.nsIn K mainGlobals "_law_kind" = some (some (.ref f__law_kind)))
    (l__law_kind : K.lookup f__law_kind = some ⟨oc__law_kind, od__law_kind, .func (PySem.W.fnOf "_law_kind" "_law_kind" (defArgs s_law_kind) (defBody s_law_kind) (defScope s_law_kind) .none kV__law_kind dc__law_kind pm__law_kind an__law_kind cd__law_kind ct__law_kind), sl__law_kind⟩)
    (c__law_kind : PySem.W.codeIn K cd__law_kind "_law_kind" = true)
    (k__law_kind : PySem.W.keepIn K (.ref f__law_kind) = true)
    (a__law_event : PySem.W.nsIn K mainGlobals "_law_event" = some (some (.ref f__law_event)))
    (l__law_event : K.lookup f__law_event = some ⟨oc__law_event, od__law_event, .func (PySem.W.fnOf "_law_event" "_law_event" (defArgs s_law_event) (defBody s_law_event) (defScope s_law_event) .none kV__law_event dc__law_event pm__law_event an__law_event cd__law_event ct__law_event), sl__law_event⟩)
    (c__law_event : PySem.W.codeIn K cd__law_event "_law_event" = true)
    (k__law_event : PySem.W.keepIn K (.ref f__law_event) = true)
    (a__law_threats : PySem.W.nsIn K mainGlobals "_law_threats" = some (some (.ref f__law_threats)))
    (l__law_threats : K.lookup f__law_threats = some ⟨oc__law_threats, od__law_threats, .func (PySem.W.fnOf "_law_threats" "_law_threats" (defArgs s_law_threats) (defBody s_law_threats) (defScope s_law_threats) .none kV__law_threats dc__law_threats pm__law_threats an__law_threats cd__law_threats ct__law_threats), sl__law_threats⟩)
    (c__law_threats : PySem.W.codeIn K cd__law_threats "_law_threats" = true)
    (k__law_threats : PySem.W.keepIn K (.ref f__law_threats) = true)
    (a__law_course : PySem.W.nsIn K mainGlobals "_law_course" = some (some (.ref f__law_course)))
    (l__law_course : K.lookup f__law_course = some ⟨oc__law_course, od__law_course, .func (PySem.W.fnOf "_law_course" "_law_course" (defArgs s_law_course) (defBody s_law_course) (defScope s_law_course) .none kV__law_course dc__law_course pm__law_course an__law_course cd__law_course ct__law_course), sl__law_course⟩)
    (c__law_course : PySem.W.codeIn K cd__law_course "_law_course" = true)
    (k__law_course : PySem.W.keepIn K (.ref f__law_course) = true)
    (a__law_row : PySem.W.nsIn K mainGlobals "_law_row" = some (some (.ref f__law_row)))
    (l__law_row : K.lookup f__law_row = some ⟨oc__law_row, od__law_row, .func (PySem.W.fnOf "_law_row" "_law_row" (defArgs s_law_row) (defBody s_law_row) (defScope s_law_row) .none kV__law_row dc__law_row pm__law_row an__law_row cd__law_row ct__law_row), sl__law_row⟩)
    (c__law_row : PySem.W.codeIn K cd__law_row "_law_row" = true)
    (k__law_row : PySem.W.keepIn K (.ref f__law_row) = true)
    (a__law_flown : PySem.W.nsIn K mainGlobals "_law_flown" = some (some (.ref f__law_flown)))
    (l__law_flown : K.lookup f__law_flown = some ⟨oc__law_flown, od__law_flown, .func (PySem.W.fnOf "_law_flown" "_law_flown" (defArgs s_law_flown) (defBody s_law_flown) (defScope s_law_flown) .none kV__law_flown dc__law_flown pm__law_flown an__law_flown cd__law_flown ct__law_flown), sl__law_flown⟩)
    (c__law_flown : PySem.W.codeIn K cd__law_flown "_law_flown" = true)
    (k__law_flown : PySem.W.keepIn K (.ref f__law_flown) = true)
    (a__law_due : PySem.W.nsIn K mainGlobals "_law_due" = some (some (.ref f__law_due)))
    (l__law_due : K.lookup f__law_due = some ⟨oc__law_due, od__law_due, .func (PySem.W.fnOf "_law_due" "_law_due" (defArgs s_law_due) (defBody s_law_due) (defScope s_law_due) .none kV__law_due dc__law_due pm__law_due an__law_due cd__law_due ct__law_due), sl__law_due⟩)
    (c__law_due : PySem.W.codeIn K cd__law_due "_law_due" = true)
    (k__law_due : PySem.W.keepIn K (.ref f__law_due) = true)
    (a_is_row : PySem.W.nsIn K mainGlobals "is_row" = some (some (.ref f_is_row)))
    (l_is_row : K.lookup f_is_row = some ⟨oc_is_row, od_is_row, .func (PySem.W.fnOf "is_row" "is_row" (defArgs s_is_row) (defBody s_is_row) (defScope s_is_row) .none kV_is_row dc_is_row pm_is_row an_is_row cd_is_row ct_is_row), sl_is_row⟩)
    (c_is_row : PySem.W.codeIn K cd_is_row "is_row" = true)
    (k_is_row : PySem.W.keepIn K (.ref f_is_row) = true)
    (a_are_strings : PySem.W.nsIn K mainGlobals "are_strings" = some (some (.ref f_are_strings)))
    (l_are_strings : K.lookup f_are_strings = some ⟨oc_are_strings, od_are_strings, .func (PySem.W.fnOf "are_strings" "are_strings" (defArgs s_are_strings) (defBody s_are_strings) (defScope s_are_strings) .none kV_are_strings dc_are_strings pm_are_strings an_are_strings cd_are_strings ct_are_strings), sl_are_strings⟩)
    (c_are_strings : PySem.W.codeIn K cd_are_strings "are_strings" = true)
    (k_are_strings : PySem.W.keepIn K (.ref f_are_strings) = true)
    (a_is_integer : PySem.W.nsIn K mainGlobals "is_integer" = some (some (.ref f_is_integer)))
    (l_is_integer : K.lookup f_is_integer = some ⟨oc_is_integer, od_is_integer, .func (PySem.W.fnOf "is_integer" "is_integer" (defArgs s_is_integer) (defBody s_is_integer) (defScope s_is_integer) .none kV_is_integer dc_is_integer pm_is_integer an_is_integer cd_is_integer ct_is_integer), sl_is_integer⟩)
    (c_is_integer : PySem.W.codeIn K cd_is_integer "is_integer" = true)
    (k_is_integer : PySem.W.keepIn K (.ref f_is_integer) = true)
    (a_are_integers : PySem.W.nsIn K mainGlobals "are_integers" = some (some (.ref f_are_integers)))
    (l_are_integers : K.lookup f_are_integers = some ⟨oc_are_integers, od_are_integers, .func (PySem.W.fnOf "are_integers" "are_integers" (defArgs s_are_integers) (defBody s_are_integers) (defScope s_are_integers) .none kV_are_integers dc_are_integers pm_are_integers an_are_integers cd_are_integers ct_are_integers), sl_are_integers⟩)
    (c_are_integers : PySem.W.codeIn K cd_are_integers "are_integers" = true)
    (k_are_integers : PySem.W.keepIn K (.ref f_are_integers) = true)
    (a_fits_field : PySem.W.nsIn K mainGlobals "fits_field" = some (some (.ref f_fits_field)))
    (l_fits_field : K.lookup f_fits_field = some ⟨oc_fits_field, od_fits_field, .func (PySem.W.fnOf "fits_field" "fits_field" (defArgs s_fits_field) (defBody s_fits_field) (defScope s_fits_field) .none kV_fits_field dc_fits_field pm_fits_field an_fits_field cd_fits_field ct_fits_field), sl_fits_field⟩)
    (c_fits_field : PySem.W.codeIn K cd_fits_field "fits_field" = true)
    (k_fits_field : PySem.W.keepIn K (.ref f_fits_field) = true)
    (a_row_has_shape : PySem.W.nsIn K mainGlobals "row_has_shape" = some (some (.ref f_row_has_shape)))
    (l_row_has_shape : K.lookup f_row_has_shape = some ⟨oc_row_has_shape, od_row_has_shape, .func (PySem.W.fnOf "row_has_shape" "row_has_shape" (defArgs s_row_has_shape) (defBody s_row_has_shape) (defScope s_row_has_shape) .none kV_row_has_shape dc_row_has_shape pm_row_has_shape an_row_has_shape cd_row_has_shape ct_row_has_shape), sl_row_has_shape⟩)
    (c_row_has_shape : PySem.W.codeIn K cd_row_has_shape "row_has_shape" = true)
    (k_row_has_shape : PySem.W.keepIn K (.ref f_row_has_shape) = true)
    (a_part_has_shape : PySem.W.nsIn K mainGlobals "part_has_shape" = some (some (.ref f_part_has_shape)))
    (l_part_has_shape : K.lookup f_part_has_shape = some ⟨oc_part_has_shape, od_part_has_shape, .func (PySem.W.fnOf "part_has_shape" "part_has_shape" (defArgs s_part_has_shape) (defBody s_part_has_shape) (defScope s_part_has_shape) .none kV_part_has_shape dc_part_has_shape pm_part_has_shape an_part_has_shape cd_part_has_shape ct_part_has_shape), sl_part_has_shape⟩)
    (c_part_has_shape : PySem.W.codeIn K cd_part_has_shape "part_has_shape" = true)
    (k_part_has_shape : PySem.W.keepIn K (.ref f_part_has_shape) = true)
    (a_has_shape : PySem.W.nsIn K mainGlobals "has_shape" = some (some (.ref f_has_shape)))
    (l_has_shape : K.lookup f_has_shape = some ⟨oc_has_shape, od_has_shape, .func (PySem.W.fnOf "has_shape" "has_shape" (defArgs s_has_shape) (defBody s_has_shape) (defScope s_has_shape) .none kV_has_shape dc_has_shape pm_has_shape an_has_shape cd_has_shape ct_has_shape), sl_has_shape⟩)
    (c_has_shape : PySem.W.codeIn K cd_has_shape "has_shape" = true)
    (k_has_shape : PySem.W.keepIn K (.ref f_has_shape) = true)
    (a_station_fault : PySem.W.nsIn K mainGlobals "station_fault" = some (some (.ref f_station_fault)))
    (l_station_fault : K.lookup f_station_fault = some ⟨oc_station_fault, od_station_fault, .func (PySem.W.fnOf "station_fault" "station_fault" (defArgs s_station_fault) (defBody s_station_fault) (defScope s_station_fault) .none kV_station_fault dc_station_fault pm_station_fault an_station_fault cd_station_fault ct_station_fault), sl_station_fault⟩)
    (c_station_fault : PySem.W.codeIn K cd_station_fault "station_fault" = true)
    (k_station_fault : PySem.W.keepIn K (.ref f_station_fault) = true)
    (a_type_fault : PySem.W.nsIn K mainGlobals "type_fault" = some (some (.ref f_type_fault)))
    (l_type_fault : K.lookup f_type_fault = some ⟨oc_type_fault, od_type_fault, .func (PySem.W.fnOf "type_fault" "type_fault" (defArgs s_type_fault) (defBody s_type_fault) (defScope s_type_fault) .none kV_type_fault dc_type_fault pm_type_fault an_type_fault cd_type_fault ct_type_fault), sl_type_fault⟩)
    (c_type_fault : PySem.W.codeIn K cd_type_fault "type_fault" = true)
    (k_type_fault : PySem.W.keepIn K (.ref f_type_fault) = true)
    (a_class_fault : PySem.W.nsIn K mainGlobals "class_fault" = some (some (.ref f_class_fault)))
    (l_class_fault : K.lookup f_class_fault = some ⟨oc_class_fault, od_class_fault, .func (PySem.W.fnOf "class_fault" "class_fault" (defArgs s_class_fault) (defBody s_class_fault) (defScope s_class_fault) .none kV_class_fault dc_class_fault pm_class_fault an_class_fault cd_class_fault ct_class_fault), sl_class_fault⟩)
    (c_class_fault : PySem.W.codeIn K cd_class_fault "class_fault" = true)
    (k_class_fault : PySem.W.keepIn K (.ref f_class_fault) = true)
    (a_row_names : PySem.W.nsIn K mainGlobals "row_names" = some (some (.ref f_row_names)))
    (l_row_names : K.lookup f_row_names = some ⟨oc_row_names, od_row_names, .func (PySem.W.fnOf "row_names" "row_names" (defArgs s_row_names) (defBody s_row_names) (defScope s_row_names) .none kV_row_names dc_row_names pm_row_names an_row_names cd_row_names ct_row_names), sl_row_names⟩)
    (c_row_names : PySem.W.codeIn K cd_row_names "row_names" = true)
    (k_row_names : PySem.W.keepIn K (.ref f_row_names) = true)
    (a_ends_fault : PySem.W.nsIn K mainGlobals "ends_fault" = some (some (.ref f_ends_fault)))
    (l_ends_fault : K.lookup f_ends_fault = some ⟨oc_ends_fault, od_ends_fault, .func (PySem.W.fnOf "ends_fault" "ends_fault" (defArgs s_ends_fault) (defBody s_ends_fault) (defScope s_ends_fault) .none kV_ends_fault dc_ends_fault pm_ends_fault an_ends_fault cd_ends_fault ct_ends_fault), sl_ends_fault⟩)
    (c_ends_fault : PySem.W.codeIn K cd_ends_fault "ends_fault" = true)
    (k_ends_fault : PySem.W.keepIn K (.ref f_ends_fault) = true)
    (a_are_limits : PySem.W.nsIn K mainGlobals "are_limits" = some (some (.ref f_are_limits)))
    (l_are_limits : K.lookup f_are_limits = some ⟨oc_are_limits, od_are_limits, .func (PySem.W.fnOf "are_limits" "are_limits" (defArgs s_are_limits) (defBody s_are_limits) (defScope s_are_limits) .none kV_are_limits dc_are_limits pm_are_limits an_are_limits cd_are_limits ct_are_limits), sl_are_limits⟩)
    (c_are_limits : PySem.W.codeIn K cd_are_limits "are_limits" = true)
    (k_are_limits : PySem.W.keepIn K (.ref f_are_limits) = true)
    (a_flight_fault : PySem.W.nsIn K mainGlobals "flight_fault" = some (some (.ref f_flight_fault)))
    (l_flight_fault : K.lookup f_flight_fault = some ⟨oc_flight_fault, od_flight_fault, .func (PySem.W.fnOf "flight_fault" "flight_fault" (defArgs s_flight_fault) (defBody s_flight_fault) (defScope s_flight_fault) .none kV_flight_fault dc_flight_fault pm_flight_fault an_flight_fault cd_flight_fault ct_flight_fault), sl_flight_fault⟩)
    (c_flight_fault : PySem.W.codeIn K cd_flight_fault "flight_fault" = true)
    (k_flight_fault : PySem.W.keepIn K (.ref f_flight_fault) = true)
    (a_flown_before : PySem.W.nsIn K mainGlobals "flown_before" = some (some (.ref f_flown_before)))
    (l_flown_before : K.lookup f_flown_before = some ⟨oc_flown_before, od_flown_before, .func (PySem.W.fnOf "flown_before" "flown_before" (defArgs s_flown_before) (defBody s_flown_before) (defScope s_flown_before) .none kV_flown_before dc_flown_before pm_flown_before an_flown_before cd_flown_before ct_flown_before), sl_flown_before⟩)
    (c_flown_before : PySem.W.codeIn K cd_flown_before "flown_before" = true)
    (k_flown_before : PySem.W.keepIn K (.ref f_flown_before) = true)
    (a_leg_fault : PySem.W.nsIn K mainGlobals "leg_fault" = some (some (.ref f_leg_fault)))
    (l_leg_fault : K.lookup f_leg_fault = some ⟨oc_leg_fault, od_leg_fault, .func (PySem.W.fnOf "leg_fault" "leg_fault" (defArgs s_leg_fault) (defBody s_leg_fault) (defScope s_leg_fault) .none kV_leg_fault dc_leg_fault pm_leg_fault an_leg_fault cd_leg_fault ct_leg_fault), sl_leg_fault⟩)
    (c_leg_fault : PySem.W.codeIn K cd_leg_fault "leg_fault" = true)
    (k_leg_fault : PySem.W.keepIn K (.ref f_leg_fault) = true)
    (a_tail_fault : PySem.W.nsIn K mainGlobals "tail_fault" = some (some (.ref f_tail_fault)))
    (l_tail_fault : K.lookup f_tail_fault = some ⟨oc_tail_fault, od_tail_fault, .func (PySem.W.fnOf "tail_fault" "tail_fault" (defArgs s_tail_fault) (defBody s_tail_fault) (defScope s_tail_fault) .none kV_tail_fault dc_tail_fault pm_tail_fault an_tail_fault cd_tail_fault ct_tail_fault), sl_tail_fault⟩)
    (c_tail_fault : PySem.W.codeIn K cd_tail_fault "tail_fault" = true)
    (k_tail_fault : PySem.W.keepIn K (.ref f_tail_fault) = true)
    (a_fare_fault : PySem.W.nsIn K mainGlobals "fare_fault" = some (some (.ref f_fare_fault)))
    (l_fare_fault : K.lookup f_fare_fault = some ⟨oc_fare_fault, od_fare_fault, .func (PySem.W.fnOf "fare_fault" "fare_fault" (defArgs s_fare_fault) (defBody s_fare_fault) (defScope s_fare_fault) .none kV_fare_fault dc_fare_fault pm_fare_fault an_fare_fault cd_fare_fault ct_fare_fault), sl_fare_fault⟩)
    (c_fare_fault : PySem.W.codeIn K cd_fare_fault "fare_fault" = true)
    (k_fare_fault : PySem.W.keepIn K (.ref f_fare_fault) = true)
    (a_check_numbers : PySem.W.nsIn K mainGlobals "check_numbers" = some (some (.ref f_check_numbers)))
    (l_check_numbers : K.lookup f_check_numbers = some ⟨oc_check_numbers, od_check_numbers, .func (PySem.W.fnOf "check_numbers" "check_numbers" (defArgs s_check_numbers) (defBody s_check_numbers) (defScope s_check_numbers) .none kV_check_numbers dc_check_numbers pm_check_numbers an_check_numbers cd_check_numbers ct_check_numbers), sl_check_numbers⟩)
    (c_check_numbers : PySem.W.codeIn K cd_check_numbers "check_numbers" = true)
    (k_check_numbers : PySem.W.keepIn K (.ref f_check_numbers) = true)
    (a_in_name : PySem.W.nsIn K mainGlobals "in_name" = some (some (.ref f_in_name)))
    (l_in_name : K.lookup f_in_name = some ⟨oc_in_name, od_in_name, .func (PySem.W.fnOf "in_name" "in_name" (defArgs s_in_name) (defBody s_in_name) (defScope s_in_name) .none kV_in_name dc_in_name pm_in_name an_in_name cd_in_name ct_in_name), sl_in_name⟩)
    (c_in_name : PySem.W.codeIn K cd_in_name "in_name" = true)
    (k_in_name : PySem.W.keepIn K (.ref f_in_name) = true)
    (a_is_name : PySem.W.nsIn K mainGlobals "is_name" = some (some (.ref f_is_name)))
    (l_is_name : K.lookup f_is_name = some ⟨oc_is_name, od_is_name, .func (PySem.W.fnOf "is_name" "is_name" (defArgs s_is_name) (defBody s_is_name) (defScope s_is_name) .none kV_is_name dc_is_name pm_is_name an_is_name cd_is_name ct_is_name), sl_is_name⟩)
    (c_is_name : PySem.W.codeIn K cd_is_name "is_name" = true)
    (k_is_name : PySem.W.keepIn K (.ref f_is_name) = true)
    (a_row_fault : PySem.W.nsIn K mainGlobals "row_fault" = some (some (.ref f_row_fault)))
    (l_row_fault : K.lookup f_row_fault = some ⟨oc_row_fault, od_row_fault, .func (PySem.W.fnOf "row_fault" "row_fault" (defArgs s_row_fault) (defBody s_row_fault) (defScope s_row_fault) .none kV_row_fault dc_row_fault pm_row_fault an_row_fault cd_row_fault ct_row_fault), sl_row_fault⟩)
    (c_row_fault : PySem.W.codeIn K cd_row_fault "row_fault" = true)
    (k_row_fault : PySem.W.keepIn K (.ref f_row_fault) = true)
    (a_check : PySem.W.nsIn K mainGlobals "check" = some (some (.ref f_check)))
    (l_check : K.lookup f_check = some ⟨oc_check, od_check, .func (PySem.W.fnOf "check" "check" (defArgs s_check) (defBody s_check) (defScope s_check) .none kV_check dc_check pm_check an_check cd_check ct_check), sl_check⟩)
    (c_check : PySem.W.codeIn K cd_check "check" = true)
    (k_check : PySem.W.keepIn K (.ref f_check) = true)
    (a_checked_chart : PySem.W.nsIn K mainGlobals "checked_chart" = some (some (.ref f_checked_chart)))
    (l_checked_chart : K.lookup f_checked_chart = some ⟨oc_checked_chart, od_checked_chart, .func (PySem.W.fnOf "checked_chart" "checked_chart" (defArgs s_checked_chart) (defBody s_checked_chart) (defScope s_checked_chart) .none kV_checked_chart dc_checked_chart pm_checked_chart an_checked_chart cd_checked_chart ct_checked_chart), sl_checked_chart⟩)
    (c_checked_chart : PySem.W.codeIn K cd_checked_chart "checked_chart" = true)
    (k_checked_chart : PySem.W.keepIn K (.ref f_checked_chart) = true)
    (a_require : PySem.W.nsIn K mainGlobals "require" = some (some (.ref f_require)))
    (l_require : K.lookup f_require = some ⟨oc_require, od_require, .func (PySem.W.fnOf "require" "require" (defArgs s_require) (defBody s_require) (defScope s_require) .none kV_require dc_require pm_require an_require cd_require ct_require), sl_require⟩)
    (c_require : PySem.W.codeIn K cd_require "require" = true)
    (k_require : PySem.W.keepIn K (.ref f_require) = true)
    (a_is_short : PySem.W.nsIn K mainGlobals "is_short" = some (some (.ref f_is_short)))
    (l_is_short : K.lookup f_is_short = some ⟨oc_is_short, od_is_short, .func (PySem.W.fnOf "is_short" "is_short" (defArgs s_is_short) (defBody s_is_short) (defScope s_is_short) .none kV_is_short dc_is_short pm_is_short an_is_short cd_is_short ct_is_short), sl_is_short⟩)
    (c_is_short : PySem.W.codeIn K cd_is_short "is_short" = true)
    (k_is_short : PySem.W.keepIn K (.ref f_is_short) = true)
    (a_is_known : PySem.W.nsIn K mainGlobals "is_known" = some (some (.ref f_is_known)))
    (l_is_known : K.lookup f_is_known = some ⟨oc_is_known, od_is_known, .func (PySem.W.fnOf "is_known" "is_known" (defArgs s_is_known) (defBody s_is_known) (defScope s_is_known) .none kV_is_known dc_is_known pm_is_known an_is_known cd_is_known ct_is_known), sl_is_known⟩)
    (c_is_known : PySem.W.codeIn K cd_is_known "is_known" = true)
    (k_is_known : PySem.W.keepIn K (.ref f_is_known) = true)
    (a_is_within : PySem.W.nsIn K mainGlobals "is_within" = some (some (.ref f_is_within)))
    (l_is_within : K.lookup f_is_within = some ⟨oc_is_within, od_is_within, .func (PySem.W.fnOf "is_within" "is_within" (defArgs s_is_within) (defBody s_is_within) (defScope s_is_within) .none kV_is_within dc_is_within pm_is_within an_is_within cd_is_within ct_is_within), sl_is_within⟩)
    (c_is_within : PySem.W.codeIn K cd_is_within "is_within" = true)
    (k_is_within : PySem.W.keepIn K (.ref f_is_within) = true)
    (a_is_smaller : PySem.W.nsIn K mainGlobals "is_smaller" = some (some (.ref f_is_smaller)))
    (l_is_smaller : K.lookup f_is_smaller = some ⟨oc_is_smaller, od_is_smaller, .func (PySem.W.fnOf "is_smaller" "is_smaller" (defArgs s_is_smaller) (defBody s_is_smaller) (defScope s_is_smaller) .none kV_is_smaller dc_is_smaller pm_is_smaller an_is_smaller cd_is_smaller ct_is_smaller), sl_is_smaller⟩)
    (c_is_smaller : PySem.W.codeIn K cd_is_smaller "is_smaller" = true)
    (k_is_smaller : PySem.W.keepIn K (.ref f_is_smaller) = true)
    (a_is_event : PySem.W.nsIn K mainGlobals "is_event" = some (some (.ref f_is_event)))
    (l_is_event : K.lookup f_is_event = some ⟨oc_is_event, od_is_event, .func (PySem.W.fnOf "is_event" "is_event" (defArgs s_is_event) (defBody s_is_event) (defScope s_is_event) .none kV_is_event dc_is_event pm_is_event an_is_event cd_is_event ct_is_event), sl_is_event⟩)
    (c_is_event : PySem.W.codeIn K cd_is_event "is_event" = true)
    (k_is_event : PySem.W.keepIn K (.ref f_is_event) = true)
    (a_are_unlike : PySem.W.nsIn K mainGlobals "are_unlike" = some (some (.ref f_are_unlike)))
    (l_are_unlike : K.lookup f_are_unlike = some ⟨oc_are_unlike, od_are_unlike, .func (PySem.W.fnOf "are_unlike" "are_unlike" (defArgs s_are_unlike) (defBody s_are_unlike) (defScope s_are_unlike) .none kV_are_unlike dc_are_unlike pm_are_unlike an_are_unlike cd_are_unlike ct_are_unlike), sl_are_unlike⟩)
    (c_are_unlike : PySem.W.codeIn K cd_are_unlike "are_unlike" = true)
    (k_are_unlike : PySem.W.keepIn K (.ref f_are_unlike) = true)
    (a_is_course : PySem.W.nsIn K mainGlobals "is_course" = some (some (.ref f_is_course)))
    (l_is_course : K.lookup f_is_course = some ⟨oc_is_course, od_is_course, .func (PySem.W.fnOf "is_course" "is_course" (defArgs s_is_course) (defBody s_is_course) (defScope s_is_course) .none kV_is_course dc_is_course pm_is_course an_is_course cd_is_course ct_is_course), sl_is_course⟩)
    (c_is_course : PySem.W.codeIn K cd_is_course "is_course" = true)
    (k_is_course : PySem.W.keepIn K (.ref f_is_course) = true)
    (a_require_course : PySem.W.nsIn K mainGlobals "require_course" = some (some (.ref f_require_course)))
    (l_require_course : K.lookup f_require_course = some ⟨oc_require_course, od_require_course, .func (PySem.W.fnOf "require_course" "require_course" (defArgs s_require_course) (defBody s_require_course) (defScope s_require_course) .none kV_require_course dc_require_course pm_require_course an_require_course cd_require_course ct_require_course), sl_require_course⟩)
    (c_require_course : PySem.W.codeIn K cd_require_course "require_course" = true)
    (k_require_course : PySem.W.keepIn K (.ref f_require_course) = true)
    (a_flown_by : PySem.W.nsIn K mainGlobals "flown_by" = some (some (.ref f_flown_by)))
    (l_flown_by : K.lookup f_flown_by = some ⟨oc_flown_by, od_flown_by, .func (PySem.W.fnOf "flown_by" "flown_by" (defArgs s_flown_by) (defBody s_flown_by) (defScope s_flown_by) .none kV_flown_by dc_flown_by pm_flown_by an_flown_by cd_flown_by ct_flown_by), sl_flown_by⟩)
    (c_flown_by : PySem.W.codeIn K cd_flown_by "flown_by" = true)
    (k_flown_by : PySem.W.keepIn K (.ref f_flown_by) = true)
    (a_flown_held : PySem.W.nsIn K mainGlobals "flown_held" = some (some (.ref f_flown_held)))
    (l_flown_held : K.lookup f_flown_held = some ⟨oc_flown_held, od_flown_held, .func (PySem.W.fnOf "flown_held" "flown_held" (defArgs s_flown_held) (defBody s_flown_held) (defScope s_flown_held) .none kV_flown_held dc_flown_held pm_flown_held an_flown_held cd_flown_held ct_flown_held), sl_flown_held⟩)
    (c_flown_held : PySem.W.codeIn K cd_flown_held "flown_held" = true)
    (k_flown_held : PySem.W.keepIn K (.ref f_flown_held) = true)
    (a_flown_in : PySem.W.nsIn K mainGlobals "flown_in" = some (some (.ref f_flown_in)))
    (l_flown_in : K.lookup f_flown_in = some ⟨oc_flown_in, od_flown_in, .func (PySem.W.fnOf "flown_in" "flown_in" (defArgs s_flown_in) (defBody s_flown_in) (defScope s_flown_in) .none kV_flown_in dc_flown_in pm_flown_in an_flown_in cd_flown_in ct_flown_in), sl_flown_in⟩)
    (c_flown_in : PySem.W.codeIn K cd_flown_in "flown_in" = true)
    (k_flown_in : PySem.W.keepIn K (.ref f_flown_in) = true)
    (a_asked_course : PySem.W.nsIn K mainGlobals "asked_course" = some (some (.ref f_asked_course)))
    (l_asked_course : K.lookup f_asked_course = some ⟨oc_asked_course, od_asked_course, .func (PySem.W.fnOf "asked_course" "asked_course" (defArgs s_asked_course) (defBody s_asked_course) (defScope s_asked_course) .none kV_asked_course dc_asked_course pm_asked_course an_asked_course cd_asked_course ct_asked_course), sl_asked_course⟩)
    (c_asked_course : PySem.W.codeIn K cd_asked_course "asked_course" = true)
    (k_asked_course : PySem.W.keepIn K (.ref f_asked_course) = true)
    (a_actual : PySem.W.nsIn K mainGlobals "actual" = some (some (.ref f_actual)))
    (l_actual : K.lookup f_actual = some ⟨oc_actual, od_actual, .func (PySem.W.fnOf "actual" "actual" (defArgs s_actual) (defBody s_actual) (defScope s_actual) .none kV_actual dc_actual pm_actual an_actual cd_actual ct_actual), sl_actual⟩)
    (c_actual : PySem.W.codeIn K cd_actual "actual" = true)
    (k_actual : PySem.W.keepIn K (.ref f_actual) = true)
    (a__law_told : PySem.W.nsIn K mainGlobals "_law_told" = some (some (.ref f__law_told)))
    (l__law_told : K.lookup f__law_told = some ⟨oc__law_told, od__law_told, .func (PySem.W.fnOf "_law_told" "_law_told" (defArgs s_law_told) (defBody s_law_told) (defScope s_law_told) .none kV__law_told dc__law_told pm__law_told an__law_told cd__law_told ct__law_told), sl__law_told⟩)
    (c__law_told : PySem.W.codeIn K cd__law_told "_law_told" = true)
    (k__law_told : PySem.W.keepIn K (.ref f__law_told) = true)
    (a__law_one_place : PySem.W.nsIn K mainGlobals "_law_one_place" = some (some (.ref f__law_one_place)))
    (l__law_one_place : K.lookup f__law_one_place = some ⟨oc__law_one_place, od__law_one_place, .func (PySem.W.fnOf "_law_one_place" "_law_one_place" (defArgs s_law_one_place) (defBody s_law_one_place) (defScope s_law_one_place) .none kV__law_one_place dc__law_one_place pm__law_one_place an__law_one_place cd__law_one_place ct__law_one_place), sl__law_one_place⟩)
    (c__law_one_place : PySem.W.codeIn K cd__law_one_place "_law_one_place" = true)
    (k__law_one_place : PySem.W.keepIn K (.ref f__law_one_place) = true)
    (a_law : PySem.W.nsIn K mainGlobals "law" = some (some (.ref f_law)))
    (l_law : K.lookup f_law = some ⟨oc_law, od_law, .func (PySem.W.fnOf "law" "law" (defArgs s_law) (defBody s_law) (defScope s_law) .none kV_law dc_law pm_law an_law cd_law ct_law), sl_law⟩)
    (c_law : PySem.W.codeIn K cd_law "law" = true)
    (k_law : PySem.W.keepIn K (.ref f_law) = true)
    (gFAULTS : PySem.W.nsIn K mainGlobals "FAULTS" = some (some (.ref A_FAULTS)))
    (lFAULTS : K.lookup A_FAULTS = some ⟨.type "tuple", od_FAULTS, .seq it_FAULTS n_FAULTS, sl_FAULTS⟩)
    (vFAULTS : it_FAULTS.toList = [.ref f_station_fault, .ref f_type_fault, .ref f_class_fault, .ref f_flight_fault, .ref f_tail_fault, .ref f_fare_fault])
    (gFIELDS : PySem.W.nsIn K mainGlobals "FIELDS" = some (some (.ref A_FIELDS)))
    (lFIELDS : K.lookup A_FIELDS = some ⟨.type "tuple", od_FIELDS, .seq it_FIELDS n_FIELDS, sl_FIELDS⟩)
    (vFIELDS : it_FIELDS.toList = [.ref A_FIELDS_0, .ref A_FIELDS_1, .ref A_FIELDS_2, .ref A_FIELDS_3, .ref A_FIELDS_4, .ref A_FIELDS_5])
    (lFIELDS_0 : K.lookup A_FIELDS_0 = some ⟨.type "tuple", od_FIELDS_0, .seq it_FIELDS_0 n_FIELDS_0, sl_FIELDS_0⟩)
    (vFIELDS_0 : it_FIELDS_0.toList = [.str "name" t_FIELDS_0_0, .str "number" t_FIELDS_0_1, .str "number" t_FIELDS_0_2])
    (lFIELDS_1 : K.lookup A_FIELDS_1 = some ⟨.type "tuple", od_FIELDS_1, .seq it_FIELDS_1 n_FIELDS_1, sl_FIELDS_1⟩)
    (vFIELDS_1 : it_FIELDS_1.toList = [.str "name" t_FIELDS_1_0, .str "number" t_FIELDS_1_1, .str "number" t_FIELDS_1_2])
    (lFIELDS_2 : K.lookup A_FIELDS_2 = some ⟨.type "tuple", od_FIELDS_2, .seq it_FIELDS_2 n_FIELDS_2, sl_FIELDS_2⟩)
    (vFIELDS_2 : it_FIELDS_2.toList = [])
    (lFIELDS_3 : K.lookup A_FIELDS_3 = some ⟨.type "tuple", od_FIELDS_3, .seq it_FIELDS_3 n_FIELDS_3, sl_FIELDS_3⟩)
    (vFIELDS_3 : it_FIELDS_3.toList = [.str "name" t_FIELDS_3_0, .str "name" t_FIELDS_3_1, .str "name" t_FIELDS_3_2, .str "number" t_FIELDS_3_3, .str "number" t_FIELDS_3_4, .str "name" t_FIELDS_3_5, .str "number" t_FIELDS_3_6, .str "limits" t_FIELDS_3_7])
    (lFIELDS_4 : K.lookup A_FIELDS_4 = some ⟨.type "tuple", od_FIELDS_4, .seq it_FIELDS_4 n_FIELDS_4, sl_FIELDS_4⟩)
    (vFIELDS_4 : it_FIELDS_4.toList = [.str "name" t_FIELDS_4_0, .str "name" t_FIELDS_4_1, .str "names" t_FIELDS_4_2])
    (lFIELDS_5 : K.lookup A_FIELDS_5 = some ⟨.type "tuple", od_FIELDS_5, .seq it_FIELDS_5 n_FIELDS_5, sl_FIELDS_5⟩)
    (vFIELDS_5 : it_FIELDS_5.toList = [.str "name" t_FIELDS_5_0, .str "name" t_FIELDS_5_1, .str "name" t_FIELDS_5_2, .str "name" t_FIELDS_5_3, .str "number" t_FIELDS_5_4, .str "number" t_FIELDS_5_5, .str "number" t_FIELDS_5_6, .str "number" t_FIELDS_5_7])
    (z_abs : PySem.W.nsIn K mainGlobals "abs" = some none)
    (z_all : PySem.W.nsIn K mainGlobals "all" = some none)
    (z_bool : PySem.W.nsIn K mainGlobals "bool" = some none)
    (z_enumerate : PySem.W.nsIn K mainGlobals "enumerate" = some none)
    (z_int : PySem.W.nsIn K mainGlobals "int" = some none)
    (z_isinstance : PySem.W.nsIn K mainGlobals "isinstance" = some none)
    (z_len : PySem.W.nsIn K mainGlobals "len" = some none)
    (z_list : PySem.W.nsIn K mainGlobals "list" = some none)
    (z_max : PySem.W.nsIn K mainGlobals "max" = some none)
    (z_min : PySem.W.nsIn K mainGlobals "min" = some none)
    (z_range : PySem.W.nsIn K mainGlobals "range" = some none)
    (z_repr : PySem.W.nsIn K mainGlobals "repr" = some none)
    (z_set : PySem.W.nsIn K mainGlobals "set" = some none)
    (z_sorted : PySem.W.nsIn K mainGlobals "sorted" = some none)
    (z_str : PySem.W.nsIn K mainGlobals "str" = some none)
    (z_sum : PySem.W.nsIn K mainGlobals "sum" = some none)
    (z_tuple : PySem.W.nsIn K mainGlobals "tuple" = some none)
    (z_zip : PySem.W.nsIn K mainGlobals "zip" = some none)
    : ∃ fd : FuncData, (∀ (s : Shared) (v : Value), BindsTo s fd ⟨[v], []⟩ [("script", v)]) ∧ ∀ base : Heap, K.In base → base.Ns mainGlobals mg → FnG l.prog w K mg base CX0 11 fa fd ["script"] (spLaw K) := by
  have e := hfa.symm.trans (PySem.W.mg_of X G a_law)
  cases e
  let cl : Clss := ⟨C_Station, C_Kind, C_Flight, C_Tail, C_Fare⟩
  have cls_Station : Cls K C_Station := ⟨pg_Station, hd_Station, po_Station, sa_Station⟩
  have nos_Station : ∀ f ∈ (["name", "zone", "least"] : List Str), NoAttr K C_Station f := fun f hf => by
    simp only [List.mem_cons, List.not_mem_nil, or_false] at hf
    rcases hf with rfl | rfl | rfl
    · exact no_Station_name
    · exact no_Station_zone
    · exact no_Station_least
  have cls_Kind : Cls K C_Kind := ⟨pg_Kind, hd_Kind, po_Kind, sa_Kind⟩
  have nos_Kind : ∀ f ∈ (["name", "seats", "turn"] : List Str), NoAttr K C_Kind f := fun f hf => by
    simp only [List.mem_cons, List.not_mem_nil, or_false] at hf
    rcases hf with rfl | rfl | rfl
    · exact no_Kind_name
    · exact no_Kind_seats
    · exact no_Kind_turn
  have cls_Flight : Cls K C_Flight := ⟨pg_Flight, hd_Flight, po_Flight, sa_Flight⟩
  have nos_Flight : ∀ f ∈ (["name", "start", "end", "depart", "arrive", "kind", "distance", "limits"] : List Str), NoAttr K C_Flight f := fun f hf => by
    simp only [List.mem_cons, List.not_mem_nil, or_false] at hf
    rcases hf with rfl | rfl | rfl | rfl | rfl | rfl | rfl | rfl
    · exact no_Flight_name
    · exact no_Flight_start
    · exact no_Flight_end
    · exact no_Flight_depart
    · exact no_Flight_arrive
    · exact no_Flight_kind
    · exact no_Flight_distance
    · exact no_Flight_limits
  have cls_Tail : Cls K C_Tail := ⟨pg_Tail, hd_Tail, po_Tail, sa_Tail⟩
  have nos_Tail : ∀ f ∈ (["name", "kind", "flights"] : List Str), NoAttr K C_Tail f := fun f hf => by
    simp only [List.mem_cons, List.not_mem_nil, or_false] at hf
    rcases hf with rfl | rfl | rfl
    · exact no_Tail_name
    · exact no_Tail_kind
    · exact no_Tail_flights
  have cls_Fare : Cls K C_Fare := ⟨pg_Fare, hd_Fare, po_Fare, sa_Fare⟩
  have nos_Fare : ∀ f ∈ (["name", "start", "end", "cabin", "price", "stops", "fee", "back"] : List Str), NoAttr K C_Fare f := fun f hf => by
    simp only [List.mem_cons, List.not_mem_nil, or_false] at hf
    rcases hf with rfl | rfl | rfl | rfl | rfl | rfl | rfl | rfl
    · exact no_Fare_name
    · exact no_Fare_start
    · exact no_Fare_end
    · exact no_Fare_cabin
    · exact no_Fare_price
    · exact no_Fare_stops
    · exact no_Fare_fee
    · exact no_Fare_back
  have cls_Chart : Cls K C_Chart := ⟨pg_Chart, hd_Chart, po_Chart, sa_Chart⟩
  have nos_Chart : ∀ f ∈ (["stations", "kinds", "ranks", "flights", "tails", "fares"] : List Str), NoAttr K C_Chart f := fun f hf => by
    simp only [List.mem_cons, List.not_mem_nil, or_false] at hf
    rcases hf with rfl | rfl | rfl | rfl | rfl | rfl
    · exact no_Chart_stations
    · exact no_Chart_kinds
    · exact no_Chart_ranks
    · exact no_Chart_flights
    · exact no_Chart_tails
    · exact no_Chart_fares
  refine ⟨PySem.W.fnOf "law" "law" (defArgs s_law) (defBody s_law) (defScope s_law) .none kV_law dc_law pm_law an_law cd_law ct_law, fun s v => .of_eq rfl, fun base hKb hNb => ?_⟩
  have F__law_draws := fun_mk (st := s_law_draws) l__law_draws c__law_draws k__law_draws
  have T_LawTxt : LawTxt mg := { z_len := PySem.W.mg_none_of X G z_len, z_abs := PySem.W.mg_none_of X G z_abs, z_int := PySem.W.mg_none_of X G z_int, z_str := PySem.W.mg_none_of X G z_str, z_tuple := PySem.W.mg_none_of X G z_tuple, z_range := PySem.W.mg_none_of X G z_range, z_min := PySem.W.mg_none_of X G z_min, z_max := PySem.W.mg_none_of X G z_max, z_sorted := PySem.W.mg_none_of X G z_sorted }
  have b__law_draws := F__law_draws.binds (ps := ["script"]) fun _ _ _ _ _ _ us hl => match us, hl with | [_], _ => rfl
  have C__law_draws : Cg l.prog w K mg base CX0 1 "_law_draws" ((spDraws K)) := ⟨_, _, _, ok_draws F__law_draws T_LawTxt, PySem.W.mg_of X G a__law_draws, k__law_draws, b__law_draws⟩
  have F__law_more := fun_mk (st := s_law_more) l__law_more c__law_more k__law_more
  have b__law_more := F__law_more.binds (ps := ["draws", "place"]) fun _ _ _ _ _ _ us hl => match us, hl with | [_, _], _ => rfl
  have C__law_more : Cg l.prog w K mg base CX0 1 "_law_more" ((spMore K)) := ⟨_, _, _, ok_more F__law_more T_LawTxt, PySem.W.mg_of X G a__law_more, k__law_more, b__law_more⟩
  have F__law_take := fun_mk (st := s_law_take) l__law_take c__law_take k__law_take
  have b__law_take := F__law_take.binds (ps := ["draws", "at", "many"]) fun _ _ _ _ _ _ us hl => match us, hl with | [_, _, _], _ => rfl
  have C__law_take : Cg l.prog w K mg base CX0 2 "_law_take" ((spTake K)) := ⟨_, _, _, ok_take F__law_take T_LawTxt C__law_more, PySem.W.mg_of X G a__law_take, k__law_take, b__law_take⟩
  have F__law_one := fun_mk (st := s_law_one) l__law_one c__law_one k__law_one
  have b__law_one := F__law_one.binds (ps := ["rows", "draws", "at"]) fun _ _ _ _ _ _ us hl => match us, hl with | [_, _, _], _ => rfl
  have C__law_one : Cg l.prog w K mg base CX0 3 "_law_one" ((spOne K)) := ⟨_, _, _, ok_one F__law_one T_LawTxt C__law_take, PySem.W.mg_of X G a__law_one, k__law_one, b__law_one⟩
  have F__law_limits := fun_mk (st := s_law_limits) l__law_limits c__law_limits k__law_limits
  have b__law_limits := F__law_limits.binds (ps := ["seats", "count", "draws", "at"]) fun _ _ _ _ _ _ us hl => match us, hl with | [_, _, _, _], _ => rfl
  have C__law_limits : Cg l.prog w K mg base CX0 3 "_law_limits" ((spLimits K)) := ⟨_, _, _, ok_limits F__law_limits T_LawTxt C__law_take, PySem.W.mg_of X G a__law_limits, k__law_limits, b__law_limits⟩
  have F__law_net := fun_mk (st := s_law_net) l__law_net c__law_net k__law_net
  have b__law_net := F__law_net.binds (ps := ["draws", "at", "small"]) fun _ _ _ _ _ _ us hl => match us, hl with | [_, _, _], _ => rfl
  have C__law_net : Cg l.prog w K mg base CX0 4 "_law_net" ((spNet K)) := ⟨_, _, _, ok_net F__law_net T_LawTxt C__law_take C__law_one C__law_limits, PySem.W.mg_of X G a__law_net, k__law_net, b__law_net⟩
  have F__law_kind := fun_mk (st := s_law_kind) l__law_kind c__law_kind k__law_kind
  have b__law_kind := F__law_kind.binds (ps := ["net", "name"]) fun _ _ _ _ _ _ us hl => match us, hl with | [_, _], _ => rfl
  have C__law_kind : Cg l.prog w K mg base CX0 1 "_law_kind" ((spKnd K)) := ⟨_, _, _, ok_knd F__law_kind , PySem.W.mg_of X G a__law_kind, k__law_kind, b__law_kind⟩
  have F__law_event := fun_mk (st := s_law_event) l__law_event c__law_event k__law_event
  have b__law_event := F__law_event.binds (ps := ["net", "draws", "at"]) fun _ _ _ _ _ _ us hl => match us, hl with | [_, _, _], _ => rfl
  have C__law_event : Cg l.prog w K mg base CX0 4 "_law_event" ((spEvt K)) := ⟨_, _, _, ok_evt F__law_event C__law_take C__law_one, PySem.W.mg_of X G a__law_event, k__law_event, b__law_event⟩
  have F__law_threats := fun_mk (st := s_law_threats) l__law_threats c__law_threats k__law_threats
  have T_EvsTxt : EvsTxt mg := { z_range := PySem.W.mg_none_of X G z_range, z_tuple := PySem.W.mg_none_of X G z_tuple, z_len := PySem.W.mg_none_of X G z_len, z_int := PySem.W.mg_none_of X G z_int }
  have b__law_threats := F__law_threats.binds (ps := ["net", "most", "draws", "at"]) fun _ _ _ _ _ _ us hl => match us, hl with | [_, _, _, _], _ => rfl
  have C__law_threats : Cg l.prog w K mg base CX0 5 "_law_threats" ((spThreats K)) := ⟨_, _, _, ok_threats F__law_threats T_EvsTxt C__law_take C__law_event, PySem.W.mg_of X G a__law_threats, k__law_threats, b__law_threats⟩
  have F__law_course := fun_mk (st := s_law_course) l__law_course c__law_course k__law_course
  have T_LrTxt : LrTxt mg := { z_len := PySem.W.mg_none_of X G z_len, z_tuple := PySem.W.mg_none_of X G z_tuple }
  have b__law_course := F__law_course.binds (ps := ["net", "draws", "at"]) fun _ _ _ _ _ _ us hl => match us, hl with | [_, _, _], _ => rfl
  have C__law_course : Cg l.prog w K mg base CX0 6 "_law_course" ((spCrs K)) := ⟨_, _, _, ok_crs F__law_course T_LrTxt C__law_threats, PySem.W.mg_of X G a__law_course, k__law_course, b__law_course⟩
  have F__law_row := fun_mk (st := s_law_row) l__law_row c__law_row k__law_row
  have b__law_row := F__law_row.binds (ps := ["net", "name"]) fun _ _ _ _ _ _ us hl => match us, hl with | [_, _], _ => rfl
  have C__law_row : Cg l.prog w K mg base CX0 1 "_law_row" ((spRow K)) := ⟨_, _, _, ok_row F__law_row , PySem.W.mg_of X G a__law_row, k__law_row, b__law_row⟩
  have F__law_flown := fun_mk (st := s_law_flown) l__law_flown c__law_flown k__law_flown
  have T_LflTxt : LflTxt mg := { z_sum := PySem.W.mg_none_of X G z_sum, z_max := PySem.W.mg_none_of X G z_max }
  have b__law_flown := F__law_flown.binds (ps := ["net", "tail", "course"]) fun _ _ _ _ _ _ us hl => match us, hl with | [_, _, _], _ => rfl
  have C__law_flown : Cg l.prog w K mg base CX0 2 "_law_flown" ((spLfl K)) := ⟨_, _, _, ok_lfl F__law_flown T_LflTxt C__law_row C__law_kind, PySem.W.mg_of X G a__law_flown, k__law_flown, b__law_flown⟩
  have F__law_due := fun_mk (st := s_law_due) l__law_due c__law_due k__law_due
  have b__law_due := F__law_due.binds (ps := ["net", "course"]) fun _ _ _ _ _ _ us hl => match us, hl with | [_, _], _ => rfl
  have C__law_due : Cg l.prog w K mg base CX0 3 "_law_due" ((spLdu K)) := ⟨_, _, _, ok_ldu F__law_due T_LrTxt C__law_flown, PySem.W.mg_of X G a__law_due, k__law_due, b__law_due⟩
  have F_is_row := fun_mk (st := s_is_row) l_is_row c_is_row k_is_row
  have T_ChkTxt : ChkTxt mg := { z_len := PySem.W.mg_none_of X G z_len, z_int := PySem.W.mg_none_of X G z_int, z_bool := PySem.W.mg_none_of X G z_bool, z_str := PySem.W.mg_none_of X G z_str, z_tuple := PySem.W.mg_none_of X G z_tuple, z_list := PySem.W.mg_none_of X G z_list, z_range := PySem.W.mg_none_of X G z_range, z_all := PySem.W.mg_none_of X G z_all, z_zip := PySem.W.mg_none_of X G z_zip, z_isinstance := PySem.W.mg_none_of X G z_isinstance, z_enumerate := PySem.W.mg_none_of X G z_enumerate, g_STATIONS := ⟨_, PySem.W.mg_of X G gSTATIONS, ⟨_, rfl⟩⟩, g_TYPES := ⟨_, PySem.W.mg_of X G gTYPES, ⟨_, rfl⟩⟩, g_CLASSES := ⟨_, PySem.W.mg_of X G gCLASSES, ⟨_, rfl⟩⟩, g_FLIGHTS := ⟨_, PySem.W.mg_of X G gFLIGHTS, ⟨_, rfl⟩⟩, g_TAILS := ⟨_, PySem.W.mg_of X G gTAILS, ⟨_, rfl⟩⟩, g_FARES := ⟨_, PySem.W.mg_of X G gFARES, ⟨_, rfl⟩⟩, g_MAX_TIME := ⟨_, PySem.W.mg_of X G gMAX_TIME, ⟨_, rfl⟩⟩, g_MAX_STATIONS := ⟨_, PySem.W.mg_of X G gMAX_STATIONS, ⟨_, rfl⟩⟩, g_MAX_TYPES := ⟨_, PySem.W.mg_of X G gMAX_TYPES, ⟨_, rfl⟩⟩, g_MAX_CLASSES := ⟨_, PySem.W.mg_of X G gMAX_CLASSES, ⟨_, rfl⟩⟩, g_MAX_FLIGHTS := ⟨_, PySem.W.mg_of X G gMAX_FLIGHTS, ⟨_, rfl⟩⟩, g_MAX_TAILS := ⟨_, PySem.W.mg_of X G gMAX_TAILS, ⟨_, rfl⟩⟩, g_MAX_FARES := ⟨_, PySem.W.mg_of X G gMAX_FARES, ⟨_, rfl⟩⟩, g_MAX_STOPS := ⟨_, PySem.W.mg_of X G gMAX_STOPS, ⟨_, rfl⟩⟩, g_MAX_COIN := ⟨_, PySem.W.mg_of X G gMAX_COIN, ⟨_, rfl⟩⟩, g_MAX_NAME := ⟨_, PySem.W.mg_of X G gMAX_NAME, ⟨_, rfl⟩⟩, g_LETTERS := ⟨_, PySem.W.mg_of X G gLETTERS, ⟨_, rfl⟩⟩, g_DIGITS := ⟨_, PySem.W.mg_of X G gDIGITS, ⟨_, rfl⟩⟩ }
  have b_is_row := F_is_row.binds (ps := ["value", "size"]) fun _ _ _ _ _ _ us hl => match us, hl with | [_, _], _ => rfl
  have C_is_row : Cg l.prog w K mg base CX0 1 "is_row" ((spIsRowV K)) := ⟨_, _, _, ok_isrowV F_is_row T_ChkTxt, PySem.W.mg_of X G a_is_row, k_is_row, b_is_row⟩
  have F_are_strings := fun_mk (st := s_are_strings) l_are_strings c_are_strings k_are_strings
  have b_are_strings := F_are_strings.binds (ps := ["value"]) fun _ _ _ _ _ _ us hl => match us, hl with | [_], _ => rfl
  have C_are_strings : Cg l.prog w K mg base CX0 1 "are_strings" ((spStrings K)) := ⟨_, _, _, ok_strings F_are_strings T_ChkTxt, PySem.W.mg_of X G a_are_strings, k_are_strings, b_are_strings⟩
  have F_is_integer := fun_mk (st := s_is_integer) l_is_integer c_is_integer k_is_integer
  have b_is_integer := F_is_integer.binds (ps := ["value"]) fun _ _ _ _ _ _ us hl => match us, hl with | [_], _ => rfl
  have C_is_integer : Cg l.prog w K mg base CX0 1 "is_integer" ((spIsInt K)) := ⟨_, _, _, ok_isint F_is_integer T_ChkTxt, PySem.W.mg_of X G a_is_integer, k_is_integer, b_is_integer⟩
  have F_are_integers := fun_mk (st := s_are_integers) l_are_integers c_are_integers k_are_integers
  have b_are_integers := F_are_integers.binds (ps := ["value"]) fun _ _ _ _ _ _ us hl => match us, hl with | [_], _ => rfl
  have C_are_integers : Cg l.prog w K mg base CX0 2 "are_integers" ((spInts K)) := ⟨_, _, _, ok_integers F_are_integers T_ChkTxt C_is_integer, PySem.W.mg_of X G a_are_integers, k_are_integers, b_are_integers⟩
  have F_fits_field := fun_mk (st := s_fits_field) l_fits_field c_fits_field k_fits_field
  have b_fits_field := F_fits_field.binds (ps := ["field", "value"]) fun _ _ _ _ _ _ us hl => match us, hl with | [_, _], _ => rfl
  have C_fits_field : Cg l.prog w K mg base CX0 3 "fits_field" ((spFits K)) := ⟨_, _, _, ok_fits F_fits_field T_ChkTxt C_is_integer C_are_integers C_are_strings, PySem.W.mg_of X G a_fits_field, k_fits_field, b_fits_field⟩
  have F_row_has_shape := fun_mk (st := s_row_has_shape) l_row_has_shape c_row_has_shape k_row_has_shape
  have b_row_has_shape := F_row_has_shape.binds (ps := ["fields", "row"]) fun _ _ _ _ _ _ us hl => match us, hl with | [_, _], _ => rfl
  have C_row_has_shape : Cg l.prog w K mg base CX0 4 "row_has_shape" ((spRowShape K)) := ⟨_, _, _, ok_rowshape F_row_has_shape T_ChkTxt (isrow1 C_is_row) C_fits_field, PySem.W.mg_of X G a_row_has_shape, k_row_has_shape, b_row_has_shape⟩
  have F_part_has_shape := fun_mk (st := s_part_has_shape) l_part_has_shape c_part_has_shape k_part_has_shape
  have T_ChkTxtF : ChkTxtF K mg A_FIELDS := { toChkTxt := T_ChkTxt, g_FIELDS := ⟨_, PySem.W.mg_of X G gFIELDS, rfl⟩, dF := fun H => fields_top (l := flds) (as := [A_FIELDS_0, A_FIELDS_1, A_FIELDS_2, A_FIELDS_3, A_FIELDS_4, A_FIELDS_5]) lFIELDS vFIELDS (.cons rfl (.cons rfl (.cons rfl (.cons rfl (.cons rfl (.cons rfl .nil)))))) (by show 6 ≤ 100; decide) (.cons (strs_top lFIELDS_0 vFIELDS_0 (.cons ⟨_, rfl⟩ (.cons ⟨_, rfl⟩ (.cons ⟨_, rfl⟩ (.nil)))) (by show 3 ≤ 100; decide)) (.cons (strs_top lFIELDS_1 vFIELDS_1 (.cons ⟨_, rfl⟩ (.cons ⟨_, rfl⟩ (.cons ⟨_, rfl⟩ (.nil)))) (by show 3 ≤ 100; decide)) (.cons (strs_top lFIELDS_2 vFIELDS_2 (.nil) (by show 0 ≤ 100; decide)) (.cons (strs_top lFIELDS_3 vFIELDS_3 (.cons ⟨_, rfl⟩ (.cons ⟨_, rfl⟩ (.cons ⟨_, rfl⟩ (.cons ⟨_, rfl⟩ (.cons ⟨_, rfl⟩ (.cons ⟨_, rfl⟩ (.cons ⟨_, rfl⟩ (.cons ⟨_, rfl⟩ (.nil))))))))) (by show 8 ≤ 100; decide)) (.cons (strs_top lFIELDS_4 vFIELDS_4 (.cons ⟨_, rfl⟩ (.cons ⟨_, rfl⟩ (.cons ⟨_, rfl⟩ (.nil)))) (by show 3 ≤ 100; decide)) (.cons (strs_top lFIELDS_5 vFIELDS_5 (.cons ⟨_, rfl⟩ (.cons ⟨_, rfl⟩ (.cons ⟨_, rfl⟩ (.cons ⟨_, rfl⟩ (.cons ⟨_, rfl⟩ (.cons ⟨_, rfl⟩ (.cons ⟨_, rfl⟩ (.cons ⟨_, rfl⟩ (.nil))))))))) (by show 8 ≤ 100; decide)) .nil)))))) }
  have b_part_has_shape := F_part_has_shape.binds (ps := ["part", "rows"]) fun _ _ _ _ _ _ us hl => match us, hl with | [_, _], _ => rfl
  have C_part_has_shape : Cg l.prog w K mg base CX0 5 "part_has_shape" ((spPartShape K)) := ⟨_, _, _, ok_partshape F_part_has_shape T_ChkTxtF C_are_strings C_row_has_shape, PySem.W.mg_of X G a_part_has_shape, k_part_has_shape, b_part_has_shape⟩
  have F_has_shape := fun_mk (st := s_has_shape) l_has_shape c_has_shape k_has_shape
  have b_has_shape := F_has_shape.binds (ps := ["net"]) fun _ _ _ _ _ _ us hl => match us, hl with | [_], _ => rfl
  have C_has_shape : Cg l.prog w K mg base CX0 6 "has_shape" ((spShape K)) := ⟨_, _, _, ok_shape F_has_shape T_ChkTxtF (isrow1 C_is_row) C_part_has_shape, PySem.W.mg_of X G a_has_shape, k_has_shape, b_has_shape⟩
  have F_station_fault := fun_mk (st := s_station_fault) l_station_fault c_station_fault k_station_fault
  have b_station_fault := F_station_fault.binds (ps := ["net", "place"]) fun _ _ _ _ _ _ us hl => match us, hl with | [_, _], _ => rfl
  have C_station_fault : Cg l.prog w K mg base CX0 1 "station_fault" ((spFault K fun N => N.st.length)) := ⟨_, _, _, ok_stfault F_station_fault T_ChkTxt, PySem.W.mg_of X G a_station_fault, k_station_fault, b_station_fault⟩
  have F_type_fault := fun_mk (st := s_type_fault) l_type_fault c_type_fault k_type_fault
  have b_type_fault := F_type_fault.binds (ps := ["net", "place"]) fun _ _ _ _ _ _ us hl => match us, hl with | [_, _], _ => rfl
  have C_type_fault : Cg l.prog w K mg base CX0 1 "type_fault" ((spFault K fun N => N.ty.length)) := ⟨_, _, _, ok_tyfault F_type_fault T_ChkTxt, PySem.W.mg_of X G a_type_fault, k_type_fault, b_type_fault⟩
  have F_class_fault := fun_mk (st := s_class_fault) l_class_fault c_class_fault k_class_fault
  have b_class_fault := F_class_fault.binds (ps := ["net", "place"]) fun _ _ _ _ _ _ us hl => match us, hl with | [_, _], _ => rfl
  have C_class_fault : Cg l.prog w K mg base CX0 1 "class_fault" ((spFault K fun N => N.cl.length)) := ⟨_, _, _, ok_clfault F_class_fault T_ChkTxt, PySem.W.mg_of X G a_class_fault, k_class_fault, b_class_fault⟩
  have F_row_names := fun_mk (st := s_row_names) l_row_names c_row_names k_row_names
  have b_row_names := F_row_names.binds (ps := ["net", "part"]) fun _ _ _ _ _ _ us hl => match us, hl with | [_, _], _ => rfl
  have C_row_names : Cg l.prog w K mg base CX0 1 "row_names" ((spRowNames K)) := ⟨_, _, _, ok_rownames F_row_names T_ChkTxt, PySem.W.mg_of X G a_row_names, k_row_names, b_row_names⟩
  have F_ends_fault := fun_mk (st := s_ends_fault) l_ends_fault c_ends_fault k_ends_fault
  have b_ends_fault := F_ends_fault.binds (ps := ["net", "start", "end"]) fun _ _ _ _ _ _ us hl => match us, hl with | [_, _, _], _ => rfl
  have C_ends_fault : Cg l.prog w K mg base CX0 2 "ends_fault" ((spEnds K)) := ⟨_, _, _, ok_ends F_ends_fault T_ChkTxt C_row_names, PySem.W.mg_of X G a_ends_fault, k_ends_fault, b_ends_fault⟩
  have F_are_limits := fun_mk (st := s_are_limits) l_are_limits c_are_limits k_are_limits
  have b_are_limits := F_are_limits.binds (ps := ["limits", "many"]) fun _ _ _ _ _ _ us hl => match us, hl with | [_, _], _ => rfl
  have C_are_limits : Cg l.prog w K mg base CX0 1 "are_limits" ((spAreLimits K)) := ⟨_, _, _, ok_arelimits F_are_limits T_ChkTxt, PySem.W.mg_of X G a_are_limits, k_are_limits, b_are_limits⟩
  have F_flight_fault := fun_mk (st := s_flight_fault) l_flight_fault c_flight_fault k_flight_fault
  have b_flight_fault := F_flight_fault.binds (ps := ["net", "place"]) fun _ _ _ _ _ _ us hl => match us, hl with | [_, _], _ => rfl
  have C_flight_fault : Cg l.prog w K mg base CX0 3 "flight_fault" ((spFault K fun N => N.fl.length)) := ⟨_, _, _, ok_flfault F_flight_fault T_ChkTxt C_row_names C_ends_fault C_are_limits, PySem.W.mg_of X G a_flight_fault, k_flight_fault, b_flight_fault⟩
  have F_flown_before := fun_mk (st := s_flown_before) l_flown_before c_flown_before k_flown_before
  have b_flown_before := F_flown_before.binds (ps := ["net", "place"]) fun _ _ _ _ _ _ us hl => match us, hl with | [_, _], _ => rfl
  have C_flown_before : Cg l.prog w K mg base CX0 1 "flown_before" ((spFlown K)) := ⟨_, _, _, ok_flown F_flown_before T_ChkTxt, PySem.W.mg_of X G a_flown_before, k_flown_before, b_flown_before⟩
  have F_leg_fault := fun_mk (st := s_leg_fault) l_leg_fault c_leg_fault k_leg_fault
  have b_leg_fault := F_leg_fault.binds (ps := ["flight", "before", "kind", "turn"]) fun _ _ _ _ _ _ us hl => match us, hl with | [_, _, _, _], _ => rfl
  have C_leg_fault : Cg l.prog w K mg base CX0 1 "leg_fault" ((spLeg K)) := ⟨_, _, _, ok_leg F_leg_fault T_ChkTxt, PySem.W.mg_of X G a_leg_fault, k_leg_fault, b_leg_fault⟩
  have F_tail_fault := fun_mk (st := s_tail_fault) l_tail_fault c_tail_fault k_tail_fault
  have b_tail_fault := F_tail_fault.binds (ps := ["net", "place"]) fun _ _ _ _ _ _ us hl => match us, hl with | [_, _], _ => rfl
  have C_tail_fault : Cg l.prog w K mg base CX0 2 "tail_fault" ((spFault K fun N => N.tl.length)) := ⟨_, _, _, ok_tlfault F_tail_fault T_ChkTxt C_flown_before C_leg_fault, PySem.W.mg_of X G a_tail_fault, k_tail_fault, b_tail_fault⟩
  have F_fare_fault := fun_mk (st := s_fare_fault) l_fare_fault c_fare_fault k_fare_fault
  have b_fare_fault := F_fare_fault.binds (ps := ["net", "place"]) fun _ _ _ _ _ _ us hl => match us, hl with | [_, _], _ => rfl
  have C_fare_fault : Cg l.prog w K mg base CX0 3 "fare_fault" ((spFault K fun N => N.fa.length)) := ⟨_, _, _, ok_fafault F_fare_fault T_ChkTxt C_ends_fault, PySem.W.mg_of X G a_fare_fault, k_fare_fault, b_fare_fault⟩
  have F_check_numbers := fun_mk (st := s_check_numbers) l_check_numbers c_check_numbers k_check_numbers
  have T_ChkTxtU : ChkTxtU l.prog w K mg base A_FIELDS A_FAULTS := { toChkTxtF := T_ChkTxtF, g_FAULTS := ⟨_, PySem.W.mg_of X G gFAULTS, rfl⟩, dU := ⟨[f_station_fault, f_type_fault, f_class_fault, f_flight_fault, f_tail_fault, f_fare_fault], fun H => sqt_top lFAULTS vFAULTS (.cons rfl (.cons rfl (.cons rfl (.cons rfl (.cons rfl (.cons rfl .nil)))))) (by show 6 ≤ 100; decide), fun i hi => match i, hi with | 0, _ => ⟨_, rfl, cga C_station_fault (PySem.W.mg_of X G a_station_fault) (by decide) (flen fun N => List.length_map _)⟩ | 1, _ => ⟨_, rfl, cga C_type_fault (PySem.W.mg_of X G a_type_fault) (by decide) (flen fun N => List.length_map _)⟩ | 2, _ => ⟨_, rfl, cga C_class_fault (PySem.W.mg_of X G a_class_fault) (by decide) (flen fun N => rfl)⟩ | 3, _ => ⟨_, rfl, cga C_flight_fault (PySem.W.mg_of X G a_flight_fault) (by decide) (flen fun N => List.length_map _)⟩ | 4, _ => ⟨_, rfl, cga C_tail_fault (PySem.W.mg_of X G a_tail_fault) (by decide) (flen fun N => List.length_map _)⟩ | 5, _ => ⟨_, rfl, cga C_fare_fault (PySem.W.mg_of X G a_fare_fault) (by decide) (flen fun N => List.length_map _)⟩ | i + 6, hi => absurd hi (by omega)⟩ }
  have T_NetErr : NetErr K mg C_NetError fI_NetError := { m_NetError := PySem.W.mg_of X G aC_NetError, o_NetError := ⟨⟨_, _, _, _, _, _, _, _, _, _, _, _, _, _, _, xC_NetError, rfl⟩, sa_NetError, eC_NetError, tC_NetError, kC_NetError⟩, i_NetError := ai_NetError, t_NetError := ti_NetError }
  have T_ChkTxtE : ChkTxtE l.prog w K mg base A_FIELDS A_FAULTS C_NetError fI_NetError := { toChkTxtU := T_ChkTxtU, toNetErr := T_NetErr }
  have F_NetErrorI := fun_mk (st := s_NetErrorD_initD) li_NetError ci_NetError ki_NetError
  have b_fI_NetError := F_NetErrorI.binds (ps := ["self", "path", "reason"]) fun _ _ _ _ _ _ us hl => match us, hl with | [_, _, _], _ => rfl
  have fi_NetError := fn_never (P := l.prog) (w := w) (mg := mg) (base := base) F_NetErrorI ["self", "path", "reason"]
  have b_check_numbers := F_check_numbers.binds (ps := ["net"]) fun _ _ _ _ _ _ us hl => match us, hl with | [_], _ => rfl
  have C_check_numbers : Cg l.prog w K mg base (L2.CX l.prog w) 3 "check_numbers" ((spCheck K)) := ⟨_, _, _, ok_numbers F_check_numbers T_ChkTxtE fi_NetError b_fI_NetError, PySem.W.mg_of X G a_check_numbers, k_check_numbers, b_check_numbers⟩
  have F_in_name := fun_mk (st := s_in_name) l_in_name c_in_name k_in_name
  have b_in_name := F_in_name.binds (ps := ["sign"]) fun _ _ _ _ _ _ us hl => match us, hl with | [_], _ => rfl
  have C_in_name : Cg l.prog w K mg base CX0 1 "in_name" (spInName) := ⟨_, _, _, ok_inname F_in_name T_ChkTxt, PySem.W.mg_of X G a_in_name, k_in_name, b_in_name⟩
  have F_is_name := fun_mk (st := s_is_name) l_is_name c_is_name k_is_name
  have b_is_name := F_is_name.binds (ps := ["word"]) fun _ _ _ _ _ _ us hl => match us, hl with | [_], _ => rfl
  have C_is_name : Cg l.prog w K mg base CX0 2 "is_name" (spIsName) := ⟨_, _, _, ok_isname F_is_name T_ChkTxt C_in_name, PySem.W.mg_of X G a_is_name, k_is_name, b_is_name⟩
  have F_row_fault := fun_mk (st := s_row_fault) l_row_fault c_row_fault k_row_fault
  have b_row_fault := F_row_fault.binds (ps := ["net", "part", "place"]) fun _ _ _ _ _ _ us hl => match us, hl with | [_, _, _], _ => rfl
  have C_row_fault : Cg l.prog w K mg base CX0 4 "row_fault" ((spRowFault K)) := ⟨_, _, _, ok_rowfault F_row_fault T_ChkTxtU C_row_names C_is_name, PySem.W.mg_of X G a_row_fault, k_row_fault, b_row_fault⟩
  have F_check := fun_mk (st := s_check) l_check c_check k_check
  have b_check := F_check.binds (ps := ["net"]) fun _ _ _ _ _ _ us hl => match us, hl with | [_], _ => rfl
  have C_check : Cg l.prog w K mg base (L2.CX l.prog w) 7 "check" ((spCheck K)) := ⟨_, _, _, ok_check F_check T_ChkTxtE fi_NetError b_fI_NetError C_has_shape C_check_numbers C_row_fault C_flown_before, PySem.W.mg_of X G a_check, k_check, b_check⟩
  have F_checked_chart := fun_mk (st := s_checked_chart) l_checked_chart c_checked_chart k_checked_chart
  have F_StationI := fun_mk (st := s_StationD_initD) li_Station ci_Station ki_Station
  have b_fI_Station := F_StationI.binds (ps := ["self", "row"]) fun _ _ _ _ _ _ us hl => match us, hl with | [_, _], _ => rfl
  have K_Station : MakG l.prog w K mg base 1 "Station" C_Station (spRowObj K C_Station ["name", "zone", "least"]) := ⟨_, _, _, ⟨mk_Station, ai_Station, fn_Station, kC_Station⟩, ok_station F_StationI ⟨cls_Station, nos_Station⟩, PySem.W.mg_of X G aC_Station, b_fI_Station⟩
  have F_KindI := fun_mk (st := s_KindD_initD) li_Kind ci_Kind ki_Kind
  have b_fI_Kind := F_KindI.binds (ps := ["self", "row"]) fun _ _ _ _ _ _ us hl => match us, hl with | [_, _], _ => rfl
  have K_Kind : MakG l.prog w K mg base 1 "Kind" C_Kind (spRowObj K C_Kind ["name", "seats", "turn"]) := ⟨_, _, _, ⟨mk_Kind, ai_Kind, fn_Kind, kC_Kind⟩, ok_kind F_KindI ⟨cls_Kind, nos_Kind⟩, PySem.W.mg_of X G aC_Kind, b_fI_Kind⟩
  have F_FlightI := fun_mk (st := s_FlightD_initD) li_Flight ci_Flight ki_Flight
  have b_fI_Flight := F_FlightI.binds (ps := ["self", "row"]) fun _ _ _ _ _ _ us hl => match us, hl with | [_, _], _ => rfl
  have K_Flight : MakG l.prog w K mg base 1 "Flight" C_Flight (spRowObj K C_Flight ["name", "start", "end", "depart", "arrive", "kind", "distance", "limits"]) := ⟨_, _, _, ⟨mk_Flight, ai_Flight, fn_Flight, kC_Flight⟩, ok_flight F_FlightI ⟨cls_Flight, nos_Flight⟩, PySem.W.mg_of X G aC_Flight, b_fI_Flight⟩
  have F_TailI := fun_mk (st := s_TailD_initD) li_Tail ci_Tail ki_Tail
  have b_fI_Tail := F_TailI.binds (ps := ["self", "row"]) fun _ _ _ _ _ _ us hl => match us, hl with | [_, _], _ => rfl
  have K_Tail : MakG l.prog w K mg base 1 "Tail" C_Tail (spRowObj K C_Tail ["name", "kind", "flights"]) := ⟨_, _, _, ⟨mk_Tail, ai_Tail, fn_Tail, kC_Tail⟩, ok_tail F_TailI ⟨cls_Tail, nos_Tail⟩, PySem.W.mg_of X G aC_Tail, b_fI_Tail⟩
  have F_FareI := fun_mk (st := s_FareD_initD) li_Fare ci_Fare ki_Fare
  have b_fI_Fare := F_FareI.binds (ps := ["self", "row"]) fun _ _ _ _ _ _ us hl => match us, hl with | [_, _], _ => rfl
  have K_Fare : MakG l.prog w K mg base 1 "Fare" C_Fare (spRowObj K C_Fare ["name", "start", "end", "cabin", "price", "stops", "fee", "back"]) := ⟨_, _, _, ⟨mk_Fare, ai_Fare, fn_Fare, kC_Fare⟩, ok_fare F_FareI ⟨cls_Fare, nos_Fare⟩, PySem.W.mg_of X G aC_Fare, b_fI_Fare⟩
  have F_ChartI := fun_mk (st := s_ChartD_initD) li_Chart ci_Chart ki_Chart
  have b_fI_Chart := F_ChartI.binds (ps := ["self", "net"]) fun _ _ _ _ _ _ us hl => match us, hl with | [_, _], _ => rfl
  have K_Chart : MakG l.prog w K mg base 3 "Chart" C_Chart (spChart K C_Chart cl) := ⟨_, _, _, ⟨mk_Chart, ai_Chart, fn_Chart, kC_Chart⟩, ok_chart F_ChartI T_ChkTxt ⟨cls_Chart, nos_Chart⟩ K_Station K_Kind K_Flight K_Tail K_Fare, PySem.W.mg_of X G aC_Chart, b_fI_Chart⟩
  have b_checked_chart := F_checked_chart.binds (ps := ["net"]) fun _ _ _ _ _ _ us hl => match us, hl with | [_], _ => rfl
  have C_checked_chart : Cg l.prog w K mg base (L2.CX l.prog w) 8 "checked_chart" ((spCChart K C_Chart cl)) := ⟨_, _, _, ok_cchart F_checked_chart C_check K_Chart, PySem.W.mg_of X G a_checked_chart, k_checked_chart, b_checked_chart⟩
  have F_require := fun_mk (st := s_require) l_require c_require k_require
  have T_ArgErr : ArgErr K mg C_ArgumentError fI_ArgumentError := { m_ArgumentError := PySem.W.mg_of X G aC_ArgumentError, o_ArgumentError := ⟨⟨_, _, _, _, _, _, _, _, _, _, _, _, _, _, _, xC_ArgumentError, rfl⟩, sa_ArgumentError, eC_ArgumentError, tC_ArgumentError, kC_ArgumentError⟩, x_ArgumentError := ⟨ga_ArgumentError, gg_ArgumentError, eC_ArgumentError, hC_ArgumentError⟩, n_ArgumentError_reason := no_ArgumentError_reason, i_ArgumentError := ai_ArgumentError, t_ArgumentError := ti_ArgumentError }
  have F_ArgumentErrorI := fun_mk (st := s_ArgumentErrorD_initD) li_ArgumentError ci_ArgumentError ki_ArgumentError
  have b_fI_ArgumentError := F_ArgumentErrorI.binds (ps := ["self", "reason"]) fun _ _ _ _ _ _ us hl => match us, hl with | [_, _], _ => rfl
  have fi_ArgumentError := ok_init (P := l.prog) (w := w) (base := base) F_ArgumentErrorI T_ArgErr
  have b_require := F_require.binds (ps := ["holds", "reason"]) fun _ _ _ _ _ _ us hl => match us, hl with | [_, _], _ => rfl
  have C_require : Cg l.prog w K mg base (L2.CX l.prog w) 3 "require" ((spRequire C_ArgumentError)) := ⟨_, _, _, ok_require F_require T_ArgErr fi_ArgumentError b_fI_ArgumentError, PySem.W.mg_of X G a_require, k_require, b_require⟩
  have F_is_short := fun_mk (st := s_is_short) l_is_short c_is_short k_is_short
  have T_ShtTxt : ShtTxt mg := { z_len := PySem.W.mg_none_of X G z_len, z_tuple := PySem.W.mg_none_of X G z_tuple, z_isinstance := PySem.W.mg_none_of X G z_isinstance }
  have b_is_short := F_is_short.binds (ps := ["value", "most"]) fun _ _ _ _ _ _ us hl => match us, hl with | [_, _], _ => rfl
  have C_is_short : Cg l.prog w K mg base CX0 1 "is_short" ((spIsShort K)) := ⟨_, _, _, ok_isshort F_is_short T_ShtTxt, PySem.W.mg_of X G a_is_short, k_is_short, b_is_short⟩
  have F_is_known := fun_mk (st := s_is_known) l_is_known c_is_known k_is_known
  have b_is_known := F_is_known.binds (ps := ["value", "table"]) fun _ _ _ _ _ _ us hl => match us, hl with | [_, _], _ => rfl
  have C_is_known : Cg l.prog w K mg base CX0 1 "is_known" ((spKnown K)) := ⟨_, _, _, ok_known F_is_known T_ChkTxt, PySem.W.mg_of X G a_is_known, k_is_known, b_is_known⟩
  have F_is_within := fun_mk (st := s_is_within) l_is_within c_is_within k_is_within
  have b_is_within := F_is_within.binds (ps := ["value", "low", "high"]) fun _ _ _ _ _ _ us hl => match us, hl with | [_, _, _], _ => rfl
  have C_is_within : Cg l.prog w K mg base CX0 2 "is_within" ((spWithin K)) := ⟨_, _, _, ok_within F_is_within T_ChkTxt C_is_integer, PySem.W.mg_of X G a_is_within, k_is_within, b_is_within⟩
  have F_is_smaller := fun_mk (st := s_is_smaller) l_is_smaller c_is_smaller k_is_smaller
  have T_EvtTxt : EvtTxt K C_Chart cl := { o_CC := ⟨pg_Chart, hd_Chart, po_Chart, sa_Chart⟩, a_kinds := no_Chart_kinds, a_flights := no_Chart_flights, o_ki := ⟨pg_Kind, hd_Kind, po_Kind, sa_Kind⟩, a_seats := no_Kind_seats, o_fl := ⟨pg_Flight, hd_Flight, po_Flight, sa_Flight⟩, a_kind := no_Flight_kind }
  have b_is_smaller := F_is_smaller.binds (ps := ["chart", "kind", "value"]) fun _ _ _ _ _ _ us hl => match us, hl with | [_, _, _], _ => rfl
  have C_is_smaller : Cg l.prog w K mg base CX0 2 "is_smaller" ((spSmall K C_Chart cl)) := ⟨_, _, _, ok_small F_is_smaller T_EvtTxt C_is_known, PySem.W.mg_of X G a_is_smaller, k_is_smaller, b_is_smaller⟩
  have F_is_event := fun_mk (st := s_is_event) l_is_event c_is_event k_is_event
  have T_Evt2Txt : Evt2Txt K mg C_Chart cl := { toEvtTxt := T_EvtTxt, g_MAX_LATE := ⟨_, PySem.W.mg_of X G gMAX_LATE, ⟨_, rfl⟩⟩ }
  have b_is_event := F_is_event.binds (ps := ["chart", "value"]) fun _ _ _ _ _ _ us hl => match us, hl with | [_, _], _ => rfl
  have C_is_event : Cg l.prog w K mg base CX0 3 "is_event" ((spEvent K C_Chart cl)) := ⟨_, _, _, ok_event F_is_event T_Evt2Txt C_is_known (isrow2 C_is_row) C_is_within C_is_smaller, PySem.W.mg_of X G a_is_event, k_is_event, b_is_event⟩
  have F_are_unlike := fun_mk (st := s_are_unlike) l_are_unlike c_are_unlike k_are_unlike
  have T_CrsTxt : CrsTxt mg := { z_len := PySem.W.mg_none_of X G z_len, z_all := PySem.W.mg_none_of X G z_all, z_set := PySem.W.mg_none_of X G z_set, g_MAX_EVENTS := ⟨_, PySem.W.mg_of X G gMAX_EVENTS, ⟨_, rfl⟩⟩ }
  have b_are_unlike := F_are_unlike.binds (ps := ["names"]) fun _ _ _ _ _ _ us hl => match us, hl with | [_], _ => rfl
  have C_are_unlike : Cg l.prog w K mg base CX0 1 "are_unlike" ((spUnlike K)) := ⟨_, _, _, ok_unlike F_are_unlike T_CrsTxt, PySem.W.mg_of X G a_are_unlike, k_are_unlike, b_are_unlike⟩
  have F_is_course := fun_mk (st := s_is_course) l_is_course c_is_course k_is_course
  have b_is_course := F_is_course.binds (ps := ["chart", "value"]) fun _ _ _ _ _ _ us hl => match us, hl with | [_, _], _ => rfl
  have C_is_course : Cg l.prog w K mg base CX0 4 "is_course" ((spIsCrs K C_Chart cl)) := ⟨_, _, _, ok_iscrs F_is_course T_CrsTxt C_is_short C_is_event C_are_unlike, PySem.W.mg_of X G a_is_course, k_is_course, b_is_course⟩
  have F_require_course := fun_mk (st := s_require_course) l_require_course c_require_course k_require_course
  have b_require_course := F_require_course.binds (ps := ["chart", "course"]) fun _ _ _ _ _ _ us hl => match us, hl with | [_, _], _ => rfl
  have C_require_course : Cg l.prog w K mg base (L2.CX l.prog w) 5 "require_course" ((spReqCrs K C_Chart cl C_ArgumentError)) := ⟨_, _, _, ok_reqcrs F_require_course C_require C_is_course, PySem.W.mg_of X G a_require_course, k_require_course, b_require_course⟩
  have F_flown_by := fun_mk (st := s_flown_by) l_flown_by c_flown_by k_flown_by
  have T_FbyTxt : FbyTxt K mg C_Chart cl := { toEvtTxt := T_EvtTxt, o_ta := ⟨pg_Tail, hd_Tail, po_Tail, sa_Tail⟩, a_tflights := no_Tail_flights, a_tkind := no_Tail_kind, a_turn := no_Kind_turn, a_start := no_Flight_start, a_name := no_Flight_name, a_end := no_Flight_end, a_depart := no_Flight_depart, a_arrive := no_Flight_arrive, z_max := PySem.W.mg_none_of X G z_max }
  have T_FofTxt : FofTxt K C_Chart := { o_CC := ⟨pg_Chart, hd_Chart, po_Chart, sa_Chart⟩, a_flights := no_Chart_flights }
  have F_M_flights_of := fun_mk (st := s_Chart_flights_of) l_M_flights_of c_M_flights_of k_M_flights_of
  have b_M_flights_of := F_M_flights_of.binds (ps := ["self", "journey"]) fun _ _ _ _ _ _ us hl => match us, hl with | [_, _], _ => rfl
  have Me_flights_of : C8.Met l.prog w K mg base 1 C_Chart "flights_of" (spFlightsOf K C_Chart cl) [] := ⟨_, _, _, [], cls_Chart, ⟨am_flights_of, fm_flights_of, k_M_flights_of⟩, ok_flightsof F_M_flights_of T_FofTxt, b_M_flights_of, .nil⟩
  have b_flown_by := F_flown_by.binds (ps := ["chart", "tail", "events", "waits"]) fun _ _ _ _ _ _ us hl => match us, hl with | [_, _, _, _], _ => rfl
  have C_flown_by : Cg l.prog w K mg base CX0 2 "flown_by" ((spFlownBy K C_Chart cl)) := ⟨_, _, _, ok_flownby F_flown_by T_FbyTxt Me_flights_of, PySem.W.mg_of X G a_flown_by, k_flown_by, b_flown_by⟩
  have F_flown_held := fun_mk (st := s_flown_held) l_flown_held c_flown_held k_flown_held
  have b_flown_held := F_flown_held.binds (ps := ["chart", "course", "holds"]) fun _ _ _ _ _ _ us hl => match us, hl with | [_, _, _], _ => rfl
  have C_flown_held : Cg l.prog w K mg base CX0 3 "flown_held" ((spHeld0 K C_Chart cl)) := ⟨_, _, _, ok_held F_flown_held T_FbyTxt (no_Chart_tails) C_flown_by, PySem.W.mg_of X G a_flown_held, k_flown_held, b_flown_held⟩
  have F_flown_in := fun_mk (st := s_flown_in) l_flown_in c_flown_in k_flown_in
  have b_flown_in := F_flown_in.binds (ps := ["chart", "course"]) fun _ _ _ _ _ _ us hl => match us, hl with | [_, _], _ => rfl
  have C_flown_in : Cg l.prog w K mg base CX0 4 "flown_in" ((spFlownIn K C_Chart cl)) := ⟨_, _, _, ok_flownin F_flown_in C_flown_held, PySem.W.mg_of X G a_flown_in, k_flown_in, b_flown_in⟩
  have F_asked_course := fun_mk (st := s_asked_course) l_asked_course c_asked_course k_asked_course
  have b_asked_course := F_asked_course.binds (ps := ["chart", "course"]) fun _ _ _ _ _ _ us hl => match us, hl with | [_, _], _ => rfl
  have C_asked_course : Cg l.prog w K mg base (L2.CX l.prog w) 6 "asked_course" ((spAskCrs K C_Chart cl C_ArgumentError)) := ⟨_, _, _, ok_askcrs F_asked_course C_require_course C_flown_in, PySem.W.mg_of X G a_asked_course, k_asked_course, b_asked_course⟩
  have F_actual := fun_mk (st := s_actual) l_actual c_actual k_actual
  have T_ActTxt : ActTxt mg := { z_tuple := PySem.W.mg_none_of X G z_tuple }
  have b_actual := F_actual.binds (ps := ["net", "course"]) fun _ _ _ _ _ _ us hl => match us, hl with | [_, _], _ => rfl
  have C_actual : Cg l.prog w K mg base (L2.CX l.prog w) 9 "actual" ((spActual K C_ArgumentError)) := ⟨_, _, _, ok_actual F_actual T_ActTxt (⟨pg_Chart, hd_Chart, po_Chart, sa_Chart⟩) (no_Chart_flights) C_checked_chart C_asked_course, PySem.W.mg_of X G a_actual, k_actual, b_actual⟩
  have F__law_told := fun_mk (st := s_law_told) l__law_told c__law_told k__law_told
  have T_TldTxt : TldTxt K mg C_ArgumentError fI_ArgumentError C_ArgumentError := { toArgErr := T_ArgErr, xc_ArgumentError := ⟨ga_ArgumentError, gg_ArgumentError, eC_ArgumentError, hC_ArgumentError, gc_ArgumentError, hnB, htB, mo_ArgumentError⟩, e_ArgumentError := exm_self eC_ArgumentError iC_ArgumentError tC_ArgumentError sC_ArgumentError }
  have b__law_told := F__law_told.binds (ps := ["net", "course"]) fun _ _ _ _ _ _ us hl => match us, hl with | [_, _], _ => rfl
  have C__law_told : Cg l.prog w K mg base CX0 10 "_law_told" ((spTold K)) := ⟨_, _, _, ok_told F__law_told T_TldTxt C_actual, PySem.W.mg_of X G a__law_told, k__law_told, b__law_told⟩
  have F__law_one_place := fun_mk (st := s_law_one_place) l__law_one_place c__law_one_place k__law_one_place
  have T_LopTxt : LopTxt mg := { z_len := PySem.W.mg_none_of X G z_len, z_range := PySem.W.mg_none_of X G z_range }
  have b__law_one_place := F__law_one_place.binds (ps := ["net", "tail", "told"]) fun _ _ _ _ _ _ us hl => match us, hl with | [_, _, _], _ => rfl
  have C__law_one_place : Cg l.prog w K mg base CX0 2 "_law_one_place" ((spLop K)) := ⟨_, _, _, ok_lop F__law_one_place T_LopTxt C__law_row C__law_kind, PySem.W.mg_of X G a__law_one_place, k__law_one_place, b__law_one_place⟩
  have F_law := fun_mk (st := s_law) l_law c_law k_law
  have T_LawTop : LawTop mg := { z_len := PySem.W.mg_none_of X G z_len, z_repr := PySem.W.mg_none_of X G z_repr, z_tuple := PySem.W.mg_none_of X G z_tuple, z_range := PySem.W.mg_none_of X G z_range }
  exact ok_law F_law T_LawTop C__law_draws C__law_take C__law_one C__law_net C__law_kind C__law_course C__law_due C__law_told C__law_one_place
end Mine
open PySem PySem.W PyProof.Rows
set_option maxHeartbeats 0 in
theorem PySem.Challenge.cw_interline_k50_whole_days_as_flown_holds : PySem.Challenge.rw_interline_k50_whole_days_as_flown.Holds := by
  w_on; o_law; k_head; (case hw => w_witness2)
  k_fill
  refine Ln.walkG (l := PySem.Challenge.rw_interline_k50_whole_days_as_flown) (n := 63) (k := 11) (x := "script") (CX := fun _ => L2.CX0) (sp := fun w => Mine.spLaw _) rfl (by decide) rfl ⟨rfl, by decide, by decide⟩ (fun w h Y => PySem.W.kIn_of Y) ?F (fun _ _ a ns hl _ hS => ⟨a, ns, rfl, hS, hl, fun _ => rfl⟩) (fun _ _ _ _ _ h => h)
  case F =>
    intro w mg fa h KX G hmg
    refine' Mine.all_mk KX G hmg ?aC_ArgumentError ?xC_ArgumentError ?sa_ArgumentError ?ga_ArgumentError ?gg_ArgumentError ?no_ArgumentError_reason ?kC_ArgumentError ?eC_ArgumentError ?tC_ArgumentError ?hC_ArgumentError ?iC_ArgumentError ?sC_ArgumentError ?ai_ArgumentError ?ti_ArgumentError ?li_ArgumentError ?ci_ArgumentError ?ki_ArgumentError ?aC_NetError ?xC_NetError ?sa_NetError ?ga_NetError ?gg_NetError ?no_NetError_path ?no_NetError_reason ?kC_NetError ?eC_NetError ?tC_NetError ?hC_NetError ?iC_NetError ?sC_NetError ?ai_NetError ?ti_NetError ?li_NetError ?ci_NetError ?ki_NetError ?hnB ?htB ?gc_ArgumentError ?mo_ArgumentError ?aC_Station ?pg_Station ?hd_Station ?po_Station ?sa_Station ?mk_Station ?ai_Station ?fn_Station ?kC_Station ?no_Station_name ?no_Station_zone ?no_Station_least ?li_Station ?ci_Station ?ki_Station ?aC_Kind ?pg_Kind ?hd_Kind ?po_Kind ?sa_Kind ?mk_Kind ?ai_Kind ?fn_Kind ?kC_Kind ?no_Kind_name ?no_Kind_seats ?no_Kind_turn ?li_Kind ?ci_Kind ?ki_Kind ?aC_Flight ?pg_Flight ?hd_Flight ?po_Flight ?sa_Flight ?mk_Flight ?ai_Flight ?fn_Flight ?kC_Flight ?no_Flight_name ?no_Flight_start ?no_Flight_end ?no_Flight_depart ?no_Flight_arrive ?no_Flight_kind ?no_Flight_distance ?no_Flight_limits ?li_Flight ?ci_Flight ?ki_Flight ?aC_Tail ?pg_Tail ?hd_Tail ?po_Tail ?sa_Tail ?mk_Tail ?ai_Tail ?fn_Tail ?kC_Tail ?no_Tail_name ?no_Tail_kind ?no_Tail_flights ?li_Tail ?ci_Tail ?ki_Tail ?aC_Fare ?pg_Fare ?hd_Fare ?po_Fare ?sa_Fare ?mk_Fare ?ai_Fare ?fn_Fare ?kC_Fare ?no_Fare_name ?no_Fare_start ?no_Fare_end ?no_Fare_cabin ?no_Fare_price ?no_Fare_stops ?no_Fare_fee ?no_Fare_back ?li_Fare ?ci_Fare ?ki_Fare ?aC_Chart ?pg_Chart ?hd_Chart ?po_Chart ?sa_Chart ?mk_Chart ?ai_Chart ?fn_Chart ?kC_Chart ?no_Chart_stations ?no_Chart_kinds ?no_Chart_ranks ?no_Chart_flights ?no_Chart_tails ?no_Chart_fares ?li_Chart ?ci_Chart ?ki_Chart ?am_flights_of ?fm_flights_of ?l_M_flights_of ?c_M_flights_of ?k_M_flights_of ?gCLASSES ?gDIGITS ?gFARES ?gFLIGHTS ?gLETTERS ?gMAX_CLASSES ?gMAX_COIN ?gMAX_EVENTS ?gMAX_FARES ?gMAX_FLIGHTS ?gMAX_LATE ?gMAX_NAME ?gMAX_STATIONS ?gMAX_STOPS ?gMAX_TAILS ?gMAX_TIME ?gMAX_TYPES ?gSTATIONS ?gTAILS ?gTYPES ?a__law_draws ?l__law_draws ?c__law_draws ?k__law_draws ?a__law_more ?l__law_more ?c__law_more ?k__law_more ?a__law_take ?l__law_take ?c__law_take ?k__law_take ?a__law_one ?l__law_one ?c__law_one ?k__law_one ?a__law_limits ?l__law_limits ?c__law_limits ?k__law_limits ?a__law_net ?l__law_net ?c__law_net ?k__law_net ?a__law_kind ?l__law_kind ?c__law_kind ?k__law_kind ?a__law_event ?l__law_event ?c__law_event ?k__law_event ?a__law_threats ?l__law_threats ?c__law_threats ?k__law_threats ?a__law_course ?l__law_course ?c__law_course ?k__law_course ?a__law_row ?l__law_row ?c__law_row ?k__law_row ?a__law_flown ?l__law_flown ?c__law_flown ?k__law_flown ?a__law_due ?l__law_due ?c__law_due ?k__law_due ?a_is_row ?l_is_row ?c_is_row ?k_is_row ?a_are_strings ?l_are_strings ?c_are_strings ?k_are_strings ?a_is_integer ?l_is_integer ?c_is_integer ?k_is_integer ?a_are_integers ?l_are_integers ?c_are_integers ?k_are_integers ?a_fits_field ?l_fits_field ?c_fits_field ?k_fits_field ?a_row_has_shape ?l_row_has_shape ?c_row_has_shape ?k_row_has_shape ?a_part_has_shape ?l_part_has_shape ?c_part_has_shape ?k_part_has_shape ?a_has_shape ?l_has_shape ?c_has_shape ?k_has_shape ?a_station_fault ?l_station_fault ?c_station_fault ?k_station_fault ?a_type_fault ?l_type_fault ?c_type_fault ?k_type_fault ?a_class_fault ?l_class_fault ?c_class_fault ?k_class_fault ?a_row_names ?l_row_names ?c_row_names ?k_row_names ?a_ends_fault ?l_ends_fault ?c_ends_fault ?k_ends_fault ?a_are_limits ?l_are_limits ?c_are_limits ?k_are_limits ?a_flight_fault ?l_flight_fault ?c_flight_fault ?k_flight_fault ?a_flown_before ?l_flown_before ?c_flown_before ?k_flown_before ?a_leg_fault ?l_leg_fault ?c_leg_fault ?k_leg_fault ?a_tail_fault ?l_tail_fault ?c_tail_fault ?k_tail_fault ?a_fare_fault ?l_fare_fault ?c_fare_fault ?k_fare_fault ?a_check_numbers ?l_check_numbers ?c_check_numbers ?k_check_numbers ?a_in_name ?l_in_name ?c_in_name ?k_in_name ?a_is_name ?l_is_name ?c_is_name ?k_is_name ?a_row_fault ?l_row_fault ?c_row_fault ?k_row_fault ?a_check ?l_check ?c_check ?k_check ?a_checked_chart ?l_checked_chart ?c_checked_chart ?k_checked_chart ?a_require ?l_require ?c_require ?k_require ?a_is_short ?l_is_short ?c_is_short ?k_is_short ?a_is_known ?l_is_known ?c_is_known ?k_is_known ?a_is_within ?l_is_within ?c_is_within ?k_is_within ?a_is_smaller ?l_is_smaller ?c_is_smaller ?k_is_smaller ?a_is_event ?l_is_event ?c_is_event ?k_is_event ?a_are_unlike ?l_are_unlike ?c_are_unlike ?k_are_unlike ?a_is_course ?l_is_course ?c_is_course ?k_is_course ?a_require_course ?l_require_course ?c_require_course ?k_require_course ?a_flown_by ?l_flown_by ?c_flown_by ?k_flown_by ?a_flown_held ?l_flown_held ?c_flown_held ?k_flown_held ?a_flown_in ?l_flown_in ?c_flown_in ?k_flown_in ?a_asked_course ?l_asked_course ?c_asked_course ?k_asked_course ?a_actual ?l_actual ?c_actual ?k_actual ?a__law_told ?l__law_told ?c__law_told ?k__law_told ?a__law_one_place ?l__law_one_place ?c__law_one_place ?k__law_one_place ?a_law ?l_law ?c_law ?k_law ?gFAULTS ?lFAULTS ?vFAULTS ?gFIELDS ?lFIELDS ?vFIELDS ?lFIELDS_0 ?vFIELDS_0 ?lFIELDS_1 ?vFIELDS_1 ?lFIELDS_2 ?vFIELDS_2 ?lFIELDS_3 ?vFIELDS_3 ?lFIELDS_4 ?vFIELDS_4 ?lFIELDS_5 ?vFIELDS_5 ?z_abs ?z_all ?z_bool ?z_enumerate ?z_int ?z_isinstance ?z_len ?z_list ?z_max ?z_min ?z_range ?z_repr ?z_set ?z_sorted ?z_str ?z_sum ?z_tuple ?z_zip
    (case aC_ArgumentError => k_is)
    (case xC_ArgumentError => k_is)
    (case sa_ArgumentError => k_is)
    (case ga_ArgumentError => k_is)
    (case gg_ArgumentError => k_is)
    (case no_ArgumentError_reason => k_is)
    (case kC_ArgumentError => k_is)
    (case eC_ArgumentError => k_is)
    (case tC_ArgumentError => k_is)
    (case hC_ArgumentError => k_is)
    (case iC_ArgumentError => k_is)
    (case sC_ArgumentError => first | rfl | k_is)
    (case ai_ArgumentError => k_is)
    (case ti_ArgumentError => k_is)
    (case li_ArgumentError => k_is)
    (case ci_ArgumentError => k_is)
    (case ki_ArgumentError => k_is)
    (case aC_NetError => k_is)
    (case xC_NetError => k_is)
    (case sa_NetError => k_is)
    (case ga_NetError => k_is)
    (case gg_NetError => k_is)
    (case no_NetError_path => k_is)
    (case no_NetError_reason => k_is)
    (case kC_NetError => k_is)
    (case eC_NetError => k_is)
    (case tC_NetError => k_is)
    (case hC_NetError => k_is)
    (case iC_NetError => k_is)
    (case sC_NetError => first | rfl | k_is)
    (case ai_NetError => k_is)
    (case ti_NetError => k_is)
    (case li_NetError => k_is)
    (case ci_NetError => k_is)
    (case ki_NetError => k_is)
    (case hnB => k_is)
    (case htB => k_is)
    (case gc_ArgumentError => k_is)
    (case mo_ArgumentError => k_is)
    (case aC_Station => k_is)
    (case pg_Station => k_is)
    (case hd_Station => k_is)
    (case po_Station => k_is)
    (case sa_Station => k_is)
    (case mk_Station => k_is)
    (case ai_Station => k_is)
    (case fn_Station => k_is)
    (case kC_Station => k_is)
    (case no_Station_name => k_is)
    (case no_Station_zone => k_is)
    (case no_Station_least => k_is)
    (case li_Station => k_is)
    (case ci_Station => k_is)
    (case ki_Station => k_is)
    (case aC_Kind => k_is)
    (case pg_Kind => k_is)
    (case hd_Kind => k_is)
    (case po_Kind => k_is)
    (case sa_Kind => k_is)
    (case mk_Kind => k_is)
    (case ai_Kind => k_is)
    (case fn_Kind => k_is)
    (case kC_Kind => k_is)
    (case no_Kind_name => k_is)
    (case no_Kind_seats => k_is)
    (case no_Kind_turn => k_is)
    (case li_Kind => k_is)
    (case ci_Kind => k_is)
    (case ki_Kind => k_is)
    (case aC_Flight => k_is)
    (case pg_Flight => k_is)
    (case hd_Flight => k_is)
    (case po_Flight => k_is)
    (case sa_Flight => k_is)
    (case mk_Flight => k_is)
    (case ai_Flight => k_is)
    (case fn_Flight => k_is)
    (case kC_Flight => k_is)
    (case no_Flight_name => k_is)
    (case no_Flight_start => k_is)
    (case no_Flight_end => k_is)
    (case no_Flight_depart => k_is)
    (case no_Flight_arrive => k_is)
    (case no_Flight_kind => k_is)
    (case no_Flight_distance => k_is)
    (case no_Flight_limits => k_is)
    (case li_Flight => k_is)
    (case ci_Flight => k_is)
    (case ki_Flight => k_is)
    (case aC_Tail => k_is)
    (case pg_Tail => k_is)
    (case hd_Tail => k_is)
    (case po_Tail => k_is)
    (case sa_Tail => k_is)
    (case mk_Tail => k_is)
    (case ai_Tail => k_is)
    (case fn_Tail => k_is)
    (case kC_Tail => k_is)
    (case no_Tail_name => k_is)
    (case no_Tail_kind => k_is)
    (case no_Tail_flights => k_is)
    (case li_Tail => k_is)
    (case ci_Tail => k_is)
    (case ki_Tail => k_is)
    (case aC_Fare => k_is)
    (case pg_Fare => k_is)
    (case hd_Fare => k_is)
    (case po_Fare => k_is)
    (case sa_Fare => k_is)
    (case mk_Fare => k_is)
    (case ai_Fare => k_is)
    (case fn_Fare => k_is)
    (case kC_Fare => k_is)
    (case no_Fare_name => k_is)
    (case no_Fare_start => k_is)
    (case no_Fare_end => k_is)
    (case no_Fare_cabin => k_is)
    (case no_Fare_price => k_is)
    (case no_Fare_stops => k_is)
    (case no_Fare_fee => k_is)
    (case no_Fare_back => k_is)
    (case li_Fare => k_is)
    (case ci_Fare => k_is)
    (case ki_Fare => k_is)
    (case aC_Chart => k_is)
    (case pg_Chart => k_is)
    (case hd_Chart => k_is)
    (case po_Chart => k_is)
    (case sa_Chart => k_is)
    (case mk_Chart => k_is)
    (case ai_Chart => k_is)
    (case fn_Chart => k_is)
    (case kC_Chart => k_is)
    (case no_Chart_stations => k_is)
    (case no_Chart_kinds => k_is)
    (case no_Chart_ranks => k_is)
    (case no_Chart_flights => k_is)
    (case no_Chart_tails => k_is)
    (case no_Chart_fares => k_is)
    (case li_Chart => k_is)
    (case ci_Chart => k_is)
    (case ki_Chart => k_is)
    (case am_flights_of => k_is)
    (case fm_flights_of => k_is)
    (case l_M_flights_of => k_is)
    (case c_M_flights_of => k_is)
    (case k_M_flights_of => k_is)
    (case gCLASSES => k_is)
    (case gDIGITS => k_is)
    (case gFARES => k_is)
    (case gFLIGHTS => k_is)
    (case gLETTERS => k_is)
    (case gMAX_CLASSES => k_is)
    (case gMAX_COIN => k_is)
    (case gMAX_EVENTS => k_is)
    (case gMAX_FARES => k_is)
    (case gMAX_FLIGHTS => k_is)
    (case gMAX_LATE => k_is)
    (case gMAX_NAME => k_is)
    (case gMAX_STATIONS => k_is)
    (case gMAX_STOPS => k_is)
    (case gMAX_TAILS => k_is)
    (case gMAX_TIME => k_is)
    (case gMAX_TYPES => k_is)
    (case gSTATIONS => k_is)
    (case gTAILS => k_is)
    (case gTYPES => k_is)
    (case a__law_draws => k_is)
    (case l__law_draws => k_is)
    (case c__law_draws => k_is)
    (case k__law_draws => k_is)
    (case a__law_more => k_is)
    (case l__law_more => k_is)
    (case c__law_more => k_is)
    (case k__law_more => k_is)
    (case a__law_take => k_is)
    (case l__law_take => k_is)
    (case c__law_take => k_is)
    (case k__law_take => k_is)
    (case a__law_one => k_is)
    (case l__law_one => k_is)
    (case c__law_one => k_is)
    (case k__law_one => k_is)
    (case a__law_limits => k_is)
    (case l__law_limits => k_is)
    (case c__law_limits => k_is)
    (case k__law_limits => k_is)
    (case a__law_net => k_is)
    (case l__law_net => k_is)
    (case c__law_net => k_is)
    (case k__law_net => k_is)
    (case a__law_kind => k_is)
    (case l__law_kind => k_is)
    (case c__law_kind => k_is)
    (case k__law_kind => k_is)
    (case a__law_event => k_is)
    (case l__law_event => k_is)
    (case c__law_event => k_is)
    (case k__law_event => k_is)
    (case a__law_threats => k_is)
    (case l__law_threats => k_is)
    (case c__law_threats => k_is)
    (case k__law_threats => k_is)
    (case a__law_course => k_is)
    (case l__law_course => k_is)
    (case c__law_course => k_is)
    (case k__law_course => k_is)
    (case a__law_row => k_is)
    (case l__law_row => k_is)
    (case c__law_row => k_is)
    (case k__law_row => k_is)
    (case a__law_flown => k_is)
    (case l__law_flown => k_is)
    (case c__law_flown => k_is)
    (case k__law_flown => k_is)
    (case a__law_due => k_is)
    (case l__law_due => k_is)
    (case c__law_due => k_is)
    (case k__law_due => k_is)
    (case a_is_row => k_is)
    (case l_is_row => k_is)
    (case c_is_row => k_is)
    (case k_is_row => k_is)
    (case a_are_strings => k_is)
    (case l_are_strings => k_is)
    (case c_are_strings => k_is)
    (case k_are_strings => k_is)
    (case a_is_integer => k_is)
    (case l_is_integer => k_is)
    (case c_is_integer => k_is)
    (case k_is_integer => k_is)
    (case a_are_integers => k_is)
    (case l_are_integers => k_is)
    (case c_are_integers => k_is)
    (case k_are_integers => k_is)
    (case a_fits_field => k_is)
    (case l_fits_field => k_is)
    (case c_fits_field => k_is)
    (case k_fits_field => k_is)
    (case a_row_has_shape => k_is)
    (case l_row_has_shape => k_is)
    (case c_row_has_shape => k_is)
    (case k_row_has_shape => k_is)
    (case a_part_has_shape => k_is)
    (case l_part_has_shape => k_is)
    (case c_part_has_shape => k_is)
    (case k_part_has_shape => k_is)
    (case a_has_shape => k_is)
    (case l_has_shape => k_is)
    (case c_has_shape => k_is)
    (case k_has_shape => k_is)
    (case a_station_fault => k_is)
    (case l_station_fault => k_is)
    (case c_station_fault => k_is)
    (case k_station_fault => k_is)
    (case a_type_fault => k_is)
    (case l_type_fault => k_is)
    (case c_type_fault => k_is)
    (case k_type_fault => k_is)
    (case a_class_fault => k_is)
    (case l_class_fault => k_is)
    (case c_class_fault => k_is)
    (case k_class_fault => k_is)
    (case a_row_names => k_is)
    (case l_row_names => k_is)
    (case c_row_names => k_is)
    (case k_row_names => k_is)
    (case a_ends_fault => k_is)
    (case l_ends_fault => k_is)
    (case c_ends_fault => k_is)
    (case k_ends_fault => k_is)
    (case a_are_limits => k_is)
    (case l_are_limits => k_is)
    (case c_are_limits => k_is)
    (case k_are_limits => k_is)
    (case a_flight_fault => k_is)
    (case l_flight_fault => k_is)
    (case c_flight_fault => k_is)
    (case k_flight_fault => k_is)
    (case a_flown_before => k_is)
    (case l_flown_before => k_is)
    (case c_flown_before => k_is)
    (case k_flown_before => k_is)
    (case a_leg_fault => k_is)
    (case l_leg_fault => k_is)
    (case c_leg_fault => k_is)
    (case k_leg_fault => k_is)
    (case a_tail_fault => k_is)
    (case l_tail_fault => k_is)
    (case c_tail_fault => k_is)
    (case k_tail_fault => k_is)
    (case a_fare_fault => k_is)
    (case l_fare_fault => k_is)
    (case c_fare_fault => k_is)
    (case k_fare_fault => k_is)
    (case a_check_numbers => k_is)
    (case l_check_numbers => k_is)
    (case c_check_numbers => k_is)
    (case k_check_numbers => k_is)
    (case a_in_name => k_is)
    (case l_in_name => k_is)
    (case c_in_name => k_is)
    (case k_in_name => k_is)
    (case a_is_name => k_is)
    (case l_is_name => k_is)
    (case c_is_name => k_is)
    (case k_is_name => k_is)
    (case a_row_fault => k_is)
    (case l_row_fault => k_is)
    (case c_row_fault => k_is)
    (case k_row_fault => k_is)
    (case a_check => k_is)
    (case l_check => k_is)
    (case c_check => k_is)
    (case k_check => k_is)
    (case a_checked_chart => k_is)
    (case l_checked_chart => k_is)
    (case c_checked_chart => k_is)
    (case k_checked_chart => k_is)
    (case a_require => k_is)
    (case l_require => k_is)
    (case c_require => k_is)
    (case k_require => k_is)
    (case a_is_short => k_is)
    (case l_is_short => k_is)
    (case c_is_short => k_is)
    (case k_is_short => k_is)
    (case a_is_known => k_is)
    (case l_is_known => k_is)
    (case c_is_known => k_is)
    (case k_is_known => k_is)
    (case a_is_within => k_is)
    (case l_is_within => k_is)
    (case c_is_within => k_is)
    (case k_is_within => k_is)
    (case a_is_smaller => k_is)
    (case l_is_smaller => k_is)
    (case c_is_smaller => k_is)
    (case k_is_smaller => k_is)
    (case a_is_event => k_is)
    (case l_is_event => k_is)
    (case c_is_event => k_is)
    (case k_is_event => k_is)
    (case a_are_unlike => k_is)
    (case l_are_unlike => k_is)
    (case c_are_unlike => k_is)
    (case k_are_unlike => k_is)
    (case a_is_course => k_is)
    (case l_is_course => k_is)
    (case c_is_course => k_is)
    (case k_is_course => k_is)
    (case a_require_course => k_is)
    (case l_require_course => k_is)
    (case c_require_course => k_is)
    (case k_require_course => k_is)
    (case a_flown_by => k_is)
    (case l_flown_by => k_is)
    (case c_flown_by => k_is)
    (case k_flown_by => k_is)
    (case a_flown_held => k_is)
    (case l_flown_held => k_is)
    (case c_flown_held => k_is)
    (case k_flown_held => k_is)
    (case a_flown_in => k_is)
    (case l_flown_in => k_is)
    (case c_flown_in => k_is)
    (case k_flown_in => k_is)
    (case a_asked_course => k_is)
    (case l_asked_course => k_is)
    (case c_asked_course => k_is)
    (case k_asked_course => k_is)
    (case a_actual => k_is)
    (case l_actual => k_is)
    (case c_actual => k_is)
    (case k_actual => k_is)
    (case a__law_told => k_is)
    (case l__law_told => k_is)
    (case c__law_told => k_is)
    (case k__law_told => k_is)
    (case a__law_one_place => k_is)
    (case l__law_one_place => k_is)
    (case c__law_one_place => k_is)
    (case k__law_one_place => k_is)
    (case a_law => k_is)
    (case l_law => k_is)
    (case c_law => k_is)
    (case k_law => k_is)
    (case gFAULTS => k_is)
    (case lFAULTS => k_is)
    (case vFAULTS => rfl)
    (case gFIELDS => k_is)
    (case lFIELDS => k_is)
    (case vFIELDS => rfl)
    (case lFIELDS_0 => k_is)
    (case vFIELDS_0 => rfl)
    (case lFIELDS_1 => k_is)
    (case vFIELDS_1 => rfl)
    (case lFIELDS_2 => k_is)
    (case vFIELDS_2 => rfl)
    (case lFIELDS_3 => k_is)
    (case vFIELDS_3 => rfl)
    (case lFIELDS_4 => k_is)
    (case vFIELDS_4 => rfl)
    (case lFIELDS_5 => k_is)
    (case vFIELDS_5 => rfl)
    (case z_abs => k_is)
    (case z_all => k_is)
    (case z_bool => k_is)
    (case z_enumerate => k_is)
    (case z_int => k_is)
    (case z_isinstance => k_is)
    (case z_len => k_is)
    (case z_list => k_is)
    (case z_max => k_is)
    (case z_min => k_is)
    (case z_range => k_is)
    (case z_repr => k_is)
    (case z_set => k_is)
    (case z_sorted => k_is)
    (case z_str => k_is)
    (case z_sum => k_is)
    (case z_tuple => k_is)
    (case z_zip => k_is)
#print axioms PySem.Challenge.cw_interline_k50_whole_days_as_flown_holds
