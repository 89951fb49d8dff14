import PyProof.Rows.All
import Wide.All
import OpenK.AllK
import Wide.FinOn
import PyProof.EqAt
import PyProof.EqKinds
import PyProof.TupleCall
import PyProof.ReprRoads
import HandS.ForMost
import HandS.ForExc
import HandS.ExcInit
import HandS.ExcField
import HandS.IsInst
import HandS.Codes
import HandS.Conv
import HandS.Flow
import HandS.SortRule
import HandS.TupMul
import HandS.TupAny
import HandS.Walk
import PyProof.ReprLen
import HandS.TryMany
import HandS.ExcIs
import HandS.HotCalls
import PySem.Challenge.RW_interline_k07_errors
import HandS.Words
set_option Elab.async false
set_option linter.all false
set_option maxRecDepth 100000
set_option maxHeartbeats 4000000
namespace Ln
open PySem PySem.Spec PyProof.Rows L2
/-! ## contracts that know that no display is under way -/
structure FnG (P : Program) (w : World) (K : PySem.W.Frag) (mg : Str → Option Value) (base : Heap) (CX : CXT) (k : Nat) (f : Addr) (fd : FuncData) (ps : List Str) (sp : Sp) : Prop where
  len : ∀ vs H Q E, sp vs H Q E → vs.length = ps.length
  run : ∀ (A : Around) (outer : List Env) (s : Shared) (H : Hp) (args : Args) (us : List Value) (vs : List V) (Q : VK) (E : XK), A.guards = some [] → Room k A → Env0 P w K mg base A outer s H →
    BindsTo s fd args (ps.zip us) → Vals vs us → sp vs H Q E → codeAny (model P w) A (.call (.ref f) args) (CR CX outer P w H s Q E) s
section
variable {P : Program} {w : World} {K : PySem.W.Frag} {mg : Str → Option Value} {base : Heap} {CX : CXT}
theorem FnG.mono {j k : Nat} {f : Addr} {fd : FuncData} {ps : List Str} {sp : Sp} (F : FnG P w K mg base CX j f fd ps sp) (h : j ≤ k) : FnG P w K mg base CX k f fd ps sp :=
  ⟨F.len, fun A o s H args us vs Q E hG hr => F.run A o s H args us vs Q E hG (hr.mono h)⟩
/-- the body of a def, walked where nothing is being shown -/
theorem fnG_of {k : Nat} {f : Addr} {name qual : Str} {params : Arguments} {body : List Stmt} {scope : Scope} {dV kV doc pm cdv ct oc : Value} {an od : Option Addr} {osl : Array (Option Value)} {N ps : List Str} {sp : Sp}
    (lk : K.lookup f = some ⟨oc, od, .func (PySem.W.fnOf name qual params body scope dV kV doc pm an cdv ct), osl⟩) (hcd : PySem.W.codeIn K cdv qual = true) (S : FnScope N ps scope) (len : ∀ vs H Q E, sp vs H Q E → vs.length = ps.length)
    (hbody : ∀ (A : Around) (outer : List Env) (s : Shared) (H : Hp) (vs : List V) (Q : VK) (E : XK), A.guards = some [] → Room k (A.deeper (envOfC qual scope s.heap.objs.size f cdv)) → sp vs H Q E →
      ∃ t, PSs (cxOf CX P w K mg base N qual scope f cdv A outer s H E) body t ∧ t { nx := fun _ H' => Q .non H', rt := Q } (start N vs) H) :
    FnG P w K mg base CX (k + 1) f (PySem.W.fnOf name qual params body scope dV kV doc pm an cdv ct) ps sp := by
  constructor
  · exact len
  intro A outer s H args us vs Q E hG hr e0 hb r hsp
  have hl := len _ _ _ _ hsp
  have KX : K.In s.heap := e0.mod.kin.keeps fun b o e => (e0.bs b o e).1
  have lim : s.heap.NoLimit := e0.mod.nolimit.keeps fun b o e => (e0.bs b o e).1
  have hkind : ∀ y ∈ ps.zip us, scope.names.lookup y.1 = some .local ∨ (scope.names.lookup y.1 = some .cell ∧ ((cellsFrom (s.heap.objs.size + 1) scope.names []).lookup y.1).isSome = true) := by
    rintro ⟨n, v⟩ hy
    cases S.par n (List.of_mem_zip hy).1 with
    | inl q => exact .inl q
    | inr q => exact .inr ⟨q, PySem.W.cellsFrom_some _ _ _ (.inl q)⟩
  apply codeAny_call_function hr.depth (KX _ _ lk) rfl S.co S.gen rfl (PySem.W.codeRec_of KX hcd) (hb _ _ _ _ ?_)
  apply wpAny_newFunctionEnv_cells S.kind hkind
  intro env he s1 x
  subst he
  constructor
  · exact lim.keeps x.toInCall.keep
  apply codeAny_func
  obtain ⟨t, ht, hq⟩ := hbody A outer s H vs Q E hG (hr.deeper _) hsp
  have I : Inv (cxOf CX P w K mg base N qual scope f cdv A outer s H E) [] (start N vs) H s1 := inv_start S hr.hd e0 hl r x
  apply wpAny_mono (ht.run [] s1 (start N vs) H _ I hq) _ (fun e s' hs => hs)
  intro fl s' hs
  cases fl with
  | ret u =>
    obtain ⟨v, σ', H', J, rv, q⟩ := hs
    exact ⟨v, H', J.os, J.bare, J.base, J.hok, rv, q⟩
  | next =>
    obtain ⟨σ', H', J, q⟩ := hs
    exact ⟨V.non, H', J.os, J.bare, J.base, J.hok, rfl, q⟩
  | brk =>
    obtain ⟨_, _, _, q⟩ := hs
    cases q
  | cont =>
    obtain ⟨_, _, _, q⟩ := hs
    cases q
/-- a def of the text that lets nothing out -/
theorem okG {x qual : Str} {st : Stmt} {f : Addr} {fd : FuncData} {N ps : List Str} {k : Nat} {sp : Sp} (F : Fun K x qual st f fd) (S : FnScope N ps (defScope st)) (len : ∀ vs H Q E, sp vs H Q E → vs.length = ps.length)
    (hbody : ∀ (cdv : Value) (A : Around) (outer : List Env) (s : Shared) (H : Hp) (vs : List V) (Q : VK) (E : XK), A.guards = some [] → Room k (A.deeper (envOfC qual (defScope st) s.heap.objs.size f cdv)) → sp vs H Q E →
      ∃ t, PSs (cxOf CX0 P w K mg base N qual (defScope st) f cdv A outer s H E).nox (defBody st) t ∧ t { nx := fun _ H' => Q .non H', rt := Q } (start N vs) H) : FnG P w K mg base CX0 (k + 1) f fd ps sp := by
  obtain ⟨oc, od, kV, doc, pm, an, cdv, ct, osl, rfl, lk, hcd⟩ := F.ex
  apply fnG_of lk hcd S len
  intro A outer s H vs Q E hG hr hsp
  obtain ⟨t, h, q⟩ := hbody cdv A outer s H vs Q E hG hr hsp
  exact ⟨t, h.nox, q⟩
/-- one that may raise -/
theorem okX {x qual : Str} {st : Stmt} {f : Addr} {fd : FuncData} {N ps : List Str} {k : Nat} {sp : Sp} (F : Fun K x qual st f fd) (S : FnScope N ps (defScope st)) (len : ∀ vs H Q E, sp vs H Q E → vs.length = ps.length)
    (hbody : ∀ (cdv : Value) (A : Around) (outer : List Env) (s : Shared) (H : Hp) (vs : List V) (Q : VK) (E : XK), A.guards = some [] → Room k (A.deeper (envOfC qual (defScope st) s.heap.objs.size f cdv)) → sp vs H Q E →
      ∃ t, PSs (cxOf (L2.CX P w) P w K mg base N qual (defScope st) f cdv A outer s H E) (defBody st) t ∧ t { nx := fun _ H' => Q .non H', rt := Q } (start N vs) H) : FnG P w K mg base (L2.CX P w) (k + 1) f fd ps sp := by
  obtain ⟨oc, od, kV, doc, pm, an, cdv, ct, osl, rfl, lk, hcd⟩ := F.ex
  exact fnG_of lk hcd S len fun A outer s H vs Q E hG hr hsp => hbody cdv A outer s H vs Q E hG hr hsp
/-- a def that may be called by its name -/
structure Cg (P : Program) (w : World) (K : PySem.W.Frag) (mg : Str → Option Value) (base : Heap) (CX : CXT) (k : Nat) (x : Str) (sp : Sp) : Prop where
  ex : ∃ (f : Addr) (fd : FuncData) (ps : List Str), FnG P w K mg base CX k f fd ps sp ∧ mg x = some (.ref f) ∧ PySem.W.keepIn K (.ref f) = true ∧ Binds K fd ps []
end
section
variable {X : Cx} {CX : CXT} {j k : Nat} {f : Addr} {fd : FuncData} {ps : List Str} {sp : Sp} {E : XK} {ES : L2.St → XK} {x : Str} {p pos : Pos} {e : Expr} {es : List Expr} {t : TA}
theorem runG {pins : List (Addr × Obj)} {σ : L2.St} {H : Hp} {s : Shared} {Q : VK} {us : List Value} {vs : List V} (F : FnG X.prog X.w X.K X.mg X.base CX k f fd ps sp) (hr : Room k X.A) (hG : X.A.guards = some []) (hb : Binds X.K fd ps [])
    (hx : PassesAt CX X σ E) (I : Inv X pins σ H s) (r : Vals vs us) (h : sp vs H Q E) : wpAny (model X.prog X.w) X.A (call (.ref f) us) (EP X pins σ Q) X.xe s := by
  have hl : us.length = ps.length := by rw [← r.length]; exact F.len _ _ _ _ h
  apply wpAny_call (codeAny_mono (F.run X.A X.stack s H ⟨us, []⟩ us vs Q E hG hr I.env0 (by have q := hb s us I.kIn (by simpa using hl); simpa using q) r h) _)
  intro r s' hq
  cases r with
  | error e => exact hx pins H s e s' I hq
  | ok fl =>
    cases fl with
    | ret u => exact I.after hq
    | next => exact hq.elim
    | brk => exact hq.elim
    | cont => exact hq.elim
/-- the reading of a call -/
def tCg (sp : Sp) (E : L2.St → XK) (t : TA) : TE := fun σ H Q => t σ H fun vs H1 => sp vs H1 Q (E σ)
theorem pe_cgS (c : Cg X.prog X.w X.K X.mg X.base CX k x sp) (hr : Room j X.A) (hk : k ≤ j) (hG : X.A.guards = some []) (hx : ∀ σ, PassesAt CX X σ (ES σ)) (hg : Gl X x) (ha : PA X (e :: es) t)
    (hdb : (x == ("__debug__" : Str)) = false := by decide) (he : starEach (e :: es) X.env = (false, eval e X.env) :: starEach es X.env := by rfl) (hpl : (backTo pos (starEach es X.env)).any (·.1) = false := by rfl) :
    PE X (.Call (.Name x p) (e :: es) [] pos) (tCg sp ES t) := by
  constructor
  intro pins s σ H Q I h
  obtain ⟨f, fd, ps, F, hm, kp, b⟩ := c.ex
  apply wpAny_Call_Name_kw (ld_glob I hg hm ?_ hdb)
  apply PySem.W.callWith_K (h₀ := X.base) I.ok.mod.kin kp (thn (ha.run pos pins s σ H _ I h) _) he hpl
  rintro us s1 ⟨vs, H1, I1, r, q⟩
  exact ⟨I1.kIn, runG F (hr.mono hk) hG b (hx σ) I1 r q⟩
theorem pe_cgS0 (c : Cg X.prog X.w X.K X.mg X.base CX k x sp) (hr : Room j X.A) (hk : k ≤ j) (hG : X.A.guards = some []) (hx : ∀ σ, PassesAt CX X σ (ES σ)) (hg : Gl X x)
    (hdb : (x == ("__debug__" : Str)) = false := by decide) : PE X (.Call (.Name x p) [] [] pos) (tCg sp ES tNil) := by
  constructor
  intro pins s σ H Q I h
  obtain ⟨f, fd, ps, F, hm, kp, b⟩ := c.ex
  apply wpAny_Call_Name_kw (ld_glob I hg hm ?_ hdb)
  exact PySem.W.callWith_K0 I.kIn kp (runG (us := []) F (hr.mono hk) hG b (hx σ) I .nil h)
theorem passE (tk : Takes X (fun cls d _ H => E cls d H)) {σ : L2.St} : PassesAt (L2.CX X.prog X.w) X σ E := fun _ _ _ e s' I c => tk e s' (XE.of_call I (fun _ _ _ h => h) c)
theorem passAt0 (σ : L2.St) : PassesAt CX0 X σ E0 := fun _ _ _ _ _ _ h => h.elim
/-- a call of a def that lets nothing out -/
theorem pe_cg (c : Cg X.prog X.w X.K X.mg X.base CX0 k x sp) (hr : Room j X.A) (hk : k ≤ j) (hG : X.A.guards = some []) (hg : Gl X x) (ha : PA X (e :: es) t)
    (hdb : (x == ("__debug__" : Str)) = false := by decide) (he : starEach (e :: es) X.env = (false, eval e X.env) :: starEach es X.env := by rfl) (hpl : (backTo pos (starEach es X.env)).any (·.1) = false := by rfl) :
    PE X (.Call (.Name x p) (e :: es) [] pos) (tCg sp (fun _ => E0) t) := pe_cgS c hr hk hG passAt0 hg ha hdb he hpl
end
/-! ## repr of data -/
def Shw (d : PyData) : Prop := d.showable = true ∧ d.depth ≤ 60 ∧ d.shown.length ≤ sizeLine
theorem Dp.nodict {K : PySem.W.Frag} {H : Hp} : ∀ (d : PyData) (v : V), Dp K H v d → d.hasDict = false ∧ True
  | .none, _, _ => ⟨by simp only [PyData.hasDict], trivial⟩
  | .bool _, _, _ => ⟨by simp only [PyData.hasDict], trivial⟩
  | .int _, _, _ => ⟨by simp only [PyData.hasDict], trivial⟩
  | .str _, _, _ => ⟨by simp only [PyData.hasDict], trivial⟩
  | .list ds, _, h => by
    cases h with
    | lst _ ha =>
      have q := nodictAll ds _ ha
      exact ⟨by simp only [PyData.hasDict]; exact q, trivial⟩
  | .tuple ds, _, h => by
    cases h with
    | tup _ ha =>
      have q := nodictAll ds _ ha
      exact ⟨by simp only [PyData.hasDict]; exact q, trivial⟩
  | .dict _, _, h => by cases h
where
  nodictAll : ∀ (ds : List PyData) (vs : List V), DpAll K H vs ds → PyData.hasDictAll ds = false
    | [], _, _ => by simp only [PyData.hasDictAll]
    | d :: ds, _, h => by
      cases h with
      | cons h1 h2 =>
        simp only [PyData.hasDictAll, Bool.or_eq_false_iff]
        exact ⟨(Dp.nodict d _ h1).1, nodictAll ds _ h2⟩
section
variable {X : Cx}
theorem call_reprD (hG : X.A.guards = some []) (hu : X.A.units + 64 < cLine) : CallR X (.builtin "repr") (fun xs H Q => ∃ x d, xs = [x] ∧ Dp X.K H x d ∧ Shw d ∧ Q (.str d.shown) H) := by
  intro pins s σ H xs us Q I r h
  obtain ⟨x, d, rfl, hd, ⟨h1, h2, h3⟩, q⟩ := h
  obtain ⟨u, rfl, ru⟩ := vals1 r
  have nd := (Dp.nodict d x hd).1
  have ref : ∀ a, x = .ref a → wpAny (model X.prog X.w) X.A (call (.builtin "repr") [u]) (EP X pins σ Q) X.xe s := by
    rintro a rfl
    obtain rfl : u = Value.ref a := ru
    obtain ⟨as, hr⟩ := Dp.reads I d _ _ hd rfl
    apply repr_of_reads' hr h1 (PyData.noDict_hsm nd) hG (by omega) (fun _ _ e => e) _ h3
    intro h' u tk hk
    exact ⟨.str d.shown, H, I.kept (t' := tk) hk, ⟨u, rfl⟩, q⟩
  cases hd with
  | non => cases ru; exact PySem.P.repr_of_none ⟨.str _, H, I.tok _, ⟨_, rfl⟩, by simpa only [PyData.shown] using q⟩
  | bl b => cases ru; exact PySem.P.repr_of_bool ⟨.str _, H, I.tok _, ⟨_, rfl⟩, by simpa only [PyData.shown] using q⟩
  | int i =>
    obtain ⟨t, rfl⟩ := ru
    exact PySem.P.repr_of_int (by simpa [PyData.showable] using h1) ⟨.str _, H, I.tok _, ⟨_, rfl⟩, by simpa only [PyData.shown] using q⟩
  | str z =>
    obtain ⟨t, rfl⟩ := ru
    exact PySem.P.repr_of_str ⟨.str _, H, I.tok _, ⟨_, rfl⟩, by simpa only [PyData.shown] using q⟩ (by simpa only [PyData.shown] using h3)
  | lst _ _ => exact ref _ rfl
  | tup _ _ => exact ref _ rfl
/-- xs[i] with i from 0 on, read for a store that changes it -/
def rGetL (K : PySem.W.Frag) : V → V → Hp → VK → Prop := fun o i H Q => ∃ (p : Addr) (xs : List V) (k : Nat) (v : V), o = .ref p ∧ i = .int k ∧ SqL K H p xs ∧ xs[k]? = some v ∧ Q v H
theorem get_list : PGet X (rGetL X.K) := by
  intro pins s σ H o i ov iv Q I ro ri h
  obtain ⟨p, xs, k, v, rfl, rfl, hq, hk, q⟩ := h
  cases ro
  obtain ⟨t, rfl⟩ := ri
  obtain ⟨its, r, pl, hz⟩ := I.list hq
  obtain ⟨u, hu, ru⟩ := r.get hk
  have hn := line63
  have hl := r.length
  have hlt : k < xs.length := (List.getElem?_eq_some_iff.mp hk).1
  exact PySem.wpAny_getItem_list pl.isList (by omega) (by omega) (by simpa using hu) ⟨v, H, I, ru, q⟩
end
/-! ## the law's end, for a contract of this kind -/
theorem lawG {P : Program} {w : World} {K : PySem.W.Frag} {mg mb : Str → Option Value} {CX : CXT} {k : Nat} {fa a : Addr} {fd : FuncData} {x : Str} {sp : Sp} {s₁ : Shared} {vs : List Value} {ns : List Int}
    (KX : K.In s₁.heap) (hns : s₁.heap.Ns mainGlobals mg) (hb : s₁.heap.Ns builtinsNs mb) (hbb : ∀ x : Str, x ≠ "__name__" → mb x = bootBuiltins x) (hlim : s₁.heap.NoLimit) (hg : s₁.gens = #[])
    (ha : s₁.heap.get? a = some { cls := .type "list", data := .seq vs.toArray }) (hi : IntsAre vs ns) (hl : ns.length ≤ sizeLine) (hr : Room k callerA)
    (F : ∀ base : Heap, K.In base → base.Ns mainGlobals mg → FnG P w K mg base CX k fa fd [x] sp) (hbind : ∀ (s : Shared) (u : Value), BindsTo s fd ⟨[u], []⟩ [(x, u)])
    (hsp : ∀ H : Hp, Only H → SqL K H a (ns.map V.int) → sp [.ref a] H (fun v _ => v = .bl true) fun _ _ _ => False) (hCX : ∀ H e s', CX [] H s₁ (fun _ _ _ => False) e s' → False) :
    codeAny (model P w) callerA (.call (.ref fa) ⟨[.ref a], []⟩) (fun r s' => r = .ok (.ret (.bool true)) ∧ OldK s₁.heap s'.heap ∧ s'.os = s₁.os ∧ AllBare s'.gens) s₁ := by
  have rv := vals_ints hi
  have lenV := hi.length
  have core : ∀ H : Hp, Only H → SqL K H a (ns.map V.int) → HOk P w H s₁.heap → (∀ b, H b ≠ none → b = a) → (H a ≠ none → K.lookup a = none) →
      codeAny (model P w) callerA (.call (.ref fa) ⟨[.ref a], []⟩) (fun r s' => r = .ok (.ret (.bool true)) ∧ OldK s₁.heap s'.heap ∧ s'.os = s₁.os ∧ AllBare s'.gens) s₁ := by
    intro H hO hS hok hA hK
    have noA : ∀ {b : Addr} {o : Obj} {es : Array DictEntry} {ep : Nat}, s₁.heap.get? b = some o → o.data = .dict es ep → H b = none := by
      intro b o es ep e d
      by_cases q : H b = none
      · exact q
      · have e' := hA b q
        subst e'
        rw [ha] at e
        cases e
        cases (show Data.seq vs.toArray _ = Data.dict es ep from d)
    have nsK : ∀ {b : Addr} {m : Str → Option Value}, s₁.heap.Ns b m → (hidT s₁.heap H).Ns b m := by
      rintro b m ⟨o, es, ep, e, d, r⟩
      exact ⟨o, es, ep, hidT_get e (noA e d), d, r⟩
    have hKb : K.In (hidT s₁.heap H) := by
      intro b o e
      apply hidT_get (KX b o e)
      by_cases q : H b = none
      · exact q
      · have e' := hA b q
        subst e'
        rw [hK q] at e
        cases e
    have hM : Mod K mg (hidT s₁.heap H) := ⟨hKb, nsK hns, ⟨mb, nsK hb, hbb⟩, by obtain ⟨mc, h1, h2⟩ := hlim; exact ⟨mc, nsK h1, h2⟩⟩
    have e0 : Env0 P w K mg (hidT s₁.heap H) callerA [] s₁ H := ⟨rfl, hM, fun b o e => of_hidT e, Nat.le_of_eq (hidT_size _ _), trivial, fun b hb => absurd (show b ∈ ([] : List Addr) from hb) (by simp), hok, .of_eq hg⟩
    apply codeAny_mono ((F _ hKb (nsK hns)).run callerA [] s₁ H ⟨[.ref a], []⟩ [.ref a] [.ref a] _ _ rfl hr e0 (hbind s₁ (.ref a)) (.cons rfl .nil) (hsp H hO hS))
    intro r s' h
    cases r with
    | error e => exact (hCX H e s' h).elim
    | ok fl =>
      cases fl with
      | ret u =>
        obtain ⟨v, H', os, bare, un, hok', r', q⟩ := h
        obtain rfl : v = .bl true := q
        obtain rfl : u = Value.bool true := r'
        refine ⟨rfl, OldK.of_keep ?_, os, bare⟩
        intro b o e
        by_cases q : H b = none
        · exact un.keep b o e q (by intro z; exact absurd (show b ∈ ([] : List Addr) from z) (by simp)) (by simp)
        · rcases hO b with z | ⟨ob, xs, z⟩
          · exact absurd z q
          · obtain ⟨e1, _⟩ := hok b _ z
            obtain ⟨e2, _⟩ := hok' b _ (un.frzs b ob _ z)
            rw [e] at e1
            cases e1
            exact e2
      | next => exact h.elim
      | brk => exact h.elim
      | cont => exact h.elim
  cases hk : K.lookup a with
  | some o =>
    have e := KX a o hk
    rw [ha] at e
    cases e
    have hS : SqL K (fun _ => none) a (ns.map V.int) := .inr ⟨_, vs.toArray, _, hk, rfl, rfl, rfl, by rw [List.size_toArray, lenV]; exact hl, by simpa using rv⟩
    exact core (fun _ => none) (fun _ => .inl rfl) hS (fun b u z => nomatch (show (none : Option HO) = some u from z)) (fun b z => absurd rfl z) fun z => absurd rfl z
  | none =>
    have no : ∀ b, b ≠ a → (if b = a then some (HO.frz { cls := .type "list", data := .seq vs.toArray } (.lst (ns.map V.int))) else none) = none := fun b hb => if_neg hb
    apply core (fun b => if b = a then some (.frz { cls := .type "list", data := .seq vs.toArray } (.lst (ns.map V.int))) else none)
    · intro b
      by_cases hb : b = a
      · exact .inr ⟨_, _, if_pos hb⟩
      · exact .inl (if_neg hb)
    · exact .inl (.inr ⟨{ cls := .type "list", data := .seq vs.toArray }, if_pos rfl⟩)
    · intro b u z
      by_cases hb : b = a
      · subst hb
        have z' := (if_pos rfl).symm.trans z
        cases z'
        exact ⟨ha, by rw [List.length_map]; exact hl, vs, _, rv, ha⟩
      · exact nomatch (no b hb).symm.trans z
    · intro b z
      by_cases hb : b = a
      · exact hb
      · exact absurd (no b hb) z
    · exact fun _ => hk
theorem walkG {l : PySem.W.OpenLaw} {n k : Nat} {q : Program} {loose : List Str} {XP : (Str → Option Value) → Heap → Prop} {YP : World → Heap → Prop} {d : DefRec} {K : Params → PySem.W.Frag} {CX : World → CXT} {sp : World → Sp} {x : Str}
    (hn : l.most = some n) (hn2 : n ≤ sizeLine) (hdf : d.params.defaults = []) (hr : Room k callerA) (hY : ∀ (w : World) (h : Heap), YP w h → (K w.params).In h)
    (F : ∀ (w : World) (mg : Str → Option Value) (fa : Addr) (h : Heap), (K w.params).In h → h.Ns mainGlobals mg → mg d.name = some (.ref fa) →
      ∃ fd : FuncData, (∀ (s : Shared) (u : Value), BindsTo s fd ⟨[u], []⟩ [(x, u)]) ∧ ∀ base : Heap, (K w.params).In base → base.Ns mainGlobals mg → FnG l.prog w (K w.params) mg base (CX w) k fa fd [x] (sp w))
    (hsp : ∀ (w : World) (H : Hp) (a : Addr) (ns : List Int), ns.length ≤ n → Only H → SqL (K w.params) H a (ns.map V.int) → sp w [.ref a] H (fun v _ => v = .bl true) fun _ _ _ => False)
    (hCX : ∀ (w : World) (H : Hp) (s : Shared) (e : Value) (s' : Shared), CX w [] H s (fun _ _ _ => False) e s' → False) :
    PySem.W.WalkO q loose XP YP l.row.toRowW d [] (fun f vs => PySem.call f vs) := by
  apply Att.attach_call hn hdf
  intro w s₀ s₁ mg mb fa o pm cd doc a vs ns G Y ho hd hcd hmg hobj hints hlen hg
  have KX := hY w _ Y
  obtain ⟨fd, hb, hF⟩ := F w mg fa _ KX G.T.g hmg
  exact lawG KX G.T.g G.T.b G.T.builtins G.T.nolimit hg hobj hints (Nat.le_trans hlen hn2) hr hF hb (fun H hO hS => hsp w H a ns hlen hO hS) fun H e s' => hCX w H s₁ e s'
end Ln
set_option Elab.async false
set_option linter.all false
set_option maxRecDepth 100000
set_option maxHeartbeats 4000000
namespace Ln
open PySem PySem.Spec PyProof.Rows L2
section
variable {prog : Program} {w : World} {A : Around} {E : Value → Shared → Prop} {s : Shared} {l : Addr} {xs : Array (Int × Tok)} {its : List Value} {ns : List Int}
theorem sum_tupG {Q : Value → Shared → Prop} (hh : A.handled = none) (hl : s.heap.IsTuple l (intItems xs))
    (h : ∀ h' tk t', (∀ b o, s.heap.get? b = some o → h'.get? b = some o) → Q (.int (preSum (numAt xs) xs.size) t') { s with heap := h', toks := tk }) :
    wpAny (model prog w) A (call (.builtin "sum") [.ref l]) Q E s := by
  have hlt : l < s.heap.objs.size := by obtain ⟨_, e, _⟩ := hl; exact Heap.lt_size e
  apply call_sum_walkG
  apply wpAny_pyIter_tuple hl
  refine ⟨_, _, _, _, _, _, numAt xs, rfl, Walks.tuple (A := A.in1) hh s.heap.objs.size l (Nat.ne_of_lt hlt) (intItems xs), ⟨⟨_, Heap.get?_push_size _ rfl, rfl, rfl⟩, hl.push _⟩, ?_, (fun _ _ => intItems_at), ?_⟩
  · intro b hb
    show b < (s.heap.push _).objs.size
    rw [Heap.size_push]
    have hb' : b = s.heap.objs.size ∨ b = l := by simpa using hb
    rcases hb' with e | e
    · rw [e]; exact Nat.lt_succ_self _
    · rw [e]; exact Nat.lt_succ_of_lt hlt
  · intro h' tk t' hk
    have old : ∀ b o, s.heap.get? b = some o → h'.get? b = some o := by
      intro b o e
      refine hk b o ?_ (Heap.get?_push_of_some _ e)
      intro hm
      have hb := Heap.lt_size e
      have e1 : b = s.heap.objs.size := by simpa using hm
      rw [e1] at hb
      exact absurd hb (Nat.lt_irrefl _)
    have := h h' tk t' old
    simpa [intItems] using this
theorem sum_rawT (hh : A.handled = none) (hl : s.heap.IsTuple l its.toArray) (hi : IntsAre its ns) {Q : Value → Shared → Prop}
    (h : ∀ h' tk t', (∀ b o, s.heap.get? b = some o → h'.get? b = some o) → Q (.int ns.sum t') { s with heap := h', toks := tk }) : wpAny (model prog w) A (call (.builtin "sum") [.ref l]) Q E s := by
  obtain ⟨xs, e⟩ := hi.allInts.items
  have hn : numsOf (intItems xs).toList = ns := by rw [← e]; exact hi.numsOf
  rw [nums_intItems] at hn
  rw [e] at hl
  apply sum_tupG hh hl
  intro h' tk t' hk
  have := h h' tk t' hk
  rw [preSum_eq, List.take_of_length_le (by simp), hn]
  exact this
end
section
variable {X : Cx}
/-- sum(t) of a tuple of ints -/
def rSumT (K : PySem.W.Frag) : List V → Hp → VK → Prop := fun vs H Q => ∃ (a : Addr) (ns : List Int), vs = [V.ref a] ∧ SqT K H a (ns.map V.int) ∧ Q (.int ns.sum) H
theorem cr_sumT (hc : X.calm = true) : CallR X (.builtin "sum") (rSumT X.K) := by
  intro pins s σ H vs us Q I r h
  obtain ⟨a, ns, rfl, hs, q⟩ := h
  obtain ⟨its, rv, hl, _⟩ := I.tuple hs
  obtain ⟨u, rfl, ru⟩ := vals1 r
  obtain rfl : u = Value.ref a := ru
  exact sum_rawT (I.ok.hd hc) hl rv.ints fun h' tk t' hk => ⟨.int _, H, I.kept hk, ⟨_, rfl⟩, q⟩
end
end Ln
set_option Elab.async false
set_option linter.all false
set_option maxRecDepth 100000
set_option maxHeartbeats 4000000
namespace Ln
open PySem PySem.Spec PyProof.Rows L2
/-! ## plain values and what isinstance says of them -/
section
variable {K : PySem.W.Frag} {H H' : Hp} {x : V}
inductive Plain (K : PySem.W.Frag) (H : Hp) : V → Prop where
  | non : Plain K H .non
  | bl (b : Bool) : Plain K H (.bl b)
  | int (i : Int) : Plain K H (.int i)
  | str (s : Str) : Plain K H (.str s)
  | tup {a : Addr} {xs : List V} (h : SqT K H a xs) : Plain K H (.ref a)
def isI : V → Bool | .int _ => true | _ => false
def isB : V → Bool | .bl _ => true | _ => false
def isS : V → Bool | .str _ => true | _ => false
def isR : V → Bool | .ref _ => true | _ => false
theorem tyx_tup {a : Addr} {xs : List V} (h : SqT K H a xs) : TyX K H (.ref a) (.type "tuple") := by
  rcases h with h | h
  · rcases h with h | ⟨o, h⟩
    · exact .base (.tup h)
    · exact .fTuple h
  · obtain ⟨o, _, _, hk, hc, _⟩ := h
    exact .kTuple hk hc
theorem Plain.kit (h : Plain K H x) : ∃ t, TyX K H x t ∧ PySem.W.kitOne K t (.type "int") = some (isI x || isB x) ∧ PySem.W.kitOne K t (.type "bool") = some (isB x) ∧
    PySem.W.kitOne K t (.type "str") = some (isS x) ∧ PySem.W.kitOne K t (.type "tuple") = some (isR x) := by
  cases h with
  | non => exact ⟨_, .base .non, kit_ty (r := false) (by decide +kernel), kit_ty (r := false) (by decide +kernel), kit_ty (r := false) (by decide +kernel), kit_ty (r := false) (by decide +kernel)⟩
  | bl b => exact ⟨_, .base (.bl b), kit_ty (r := true) (by decide +kernel), kit_ty (r := true) (by decide +kernel), kit_ty (r := false) (by decide +kernel), kit_ty (r := false) (by decide +kernel)⟩
  | int i => exact ⟨_, .base (.int i), kit_ty (r := true) (by decide +kernel), kit_ty (r := false) (by decide +kernel), kit_ty (r := false) (by decide +kernel), kit_ty (r := false) (by decide +kernel)⟩
  | str s => exact ⟨_, .base (.str s), kit_ty (r := false) (by decide +kernel), kit_ty (r := false) (by decide +kernel), kit_ty (r := true) (by decide +kernel), kit_ty (r := false) (by decide +kernel)⟩
  | tup hs => exact ⟨_, tyx_tup hs, kit_ty (r := false) (by decide +kernel), kit_ty (r := false) (by decide +kernel), kit_ty (r := false) (by decide +kernel), kit_ty (r := true) (by decide +kernel)⟩
theorem Same.tup {a : Addr} {xs : List V} (e : Same H H') (h : SqT K H a xs) : SqT K H' a xs := by
  rcases h with (h | ⟨o, h⟩) | h
  · exact .inl (.inl (e _ _ h))
  · exact .inl (.inr ⟨o, e _ _ h⟩)
  · exact .inr h
theorem Plain.same (e : Same H H') (h : Plain K H x) : Plain K H' x := by
  cases h with
  | non => exact .non
  | bl b => exact .bl b
  | int i => exact .int i
  | str s => exact .str s
  | tup h => exact .tup (Same.tup e h)
end
theorem same_upd {H : Hp} {p : Addr} {o : HO} (h : H p = none) : Same H (upd H p o) := by
  intro b x e
  rw [upd_ne (ne_of_none e h)]
  exact e
/-- all that stands but at one place stays -/
def But (at_ : Addr) (H H' : Hp) : Prop := ∀ b o, b ≠ at_ → H b = some o → H' b = some o
theorem But.refl (a : Addr) (H : Hp) : But a H H := fun _ _ _ h => h
theorem But.trans {a : Addr} {H H1 H2 : Hp} (h : But a H H1) (k : But a H1 H2) : But a H H2 := fun b o n e => k b o n (h b o n e)
theorem Same.but {a : Addr} {H H' : Hp} (h : Same H H') : But a H H' := fun b o _ e => h b o e
theorem But.upd (a : Addr) (H : Hp) (o : HO) : But a H (upd H a o) := fun b x n e => by rw [upd_ne n]; exact e
theorem But.new {a p : Addr} {H : Hp} {o : HO} (h : H p = none) : But a H (L2.upd H p o) := Same.but (same_upd h)
theorem But.tup {K : PySem.W.Frag} {a b : Addr} {H H' : Hp} {xs ys : List V} (h : But a H H') (ha : H a = some (.lst ys)) (t : SqT K H b xs) : SqT K H' b xs := by
  rcases t with (t | ⟨o, t⟩) | t
  · exact .inl (.inl (h b _ (fun z => by subst z; rw [ha] at t; cases t) t))
  · exact .inl (.inr ⟨o, h b _ (fun z => by subst z; rw [ha] at t; cases t) t⟩)
  · exact .inr t
theorem same_at {H H' : Hp} {p : Addr} {o : HO} (h : Same H H') (n : H p = none) : Same H (upd H' p o) := by
  intro b x e
  rw [upd_ne (ne_of_none e n)]
  exact h b x e
theorem small1 {n : Nat} (h : n ≤ 100000) : n < sizeLine := Nat.lt_of_le_of_lt h (by decide)
theorem small2 {n : Nat} (h : n ≤ 100000) : n ≤ sizeLine := Nat.le_of_lt (small1 h)
theorem getI {ms : List Int} {i : Nat} {x : V} (h : (ms.map V.int)[i]? = some x) : ∃ z, ms[i]? = some z ∧ x = .int z := by
  rw [List.getElem?_map] at h
  cases e : ms[i]? with
  | none => rw [e] at h; cases h
  | some z => rw [e] at h; exact ⟨z, rfl, (Option.some.inj h).symm⟩
theorem app1 (ds : List Int) (d : Int) : ds.map V.int ++ [V.int d] = (ds ++ [d]).map V.int := by rw [List.map_append]; rfl
theorem atInt {ds : List Int} {j : Nat} (h : j < ds.length) : atI (ds.map V.int) (j : Int) = some (.int ds[j]) := atI_nat (by rw [List.getElem?_map, List.getElem?_eq_getElem h]; rfl)
theorem modIx (x : Int) {n : Nat} (h : 0 < n) : ∃ j : Nat, j < n ∧ x % (n : Int) = (j : Int) := by
  have a := Int.emod_nonneg x (show (n : Int) ≠ 0 by omega)
  have b := Int.emod_lt_of_pos x (show (0 : Int) < n by omega)
  exact ⟨(x % (n : Int)).toNat, by omega, by omega⟩
/-! ## lists of pairs of ints -/
def Tp (H H' : Hp) : Prop := ∀ t xs, H t = some (.tup xs) → H' t = some (.tup xs)
theorem Same.tp {H H' : Hp} (h : Same H H') : Tp H H' := fun t xs e => h t _ e
theorem Tp.trans {H H1 H2 : Hp} (a : Tp H H1) (b : Tp H1 H2) : Tp H H2 := fun t xs e => b t xs (a t xs e)
theorem Tp.lst {H : Hp} {D : Addr} {xs ys : List V} (h : H D = some (.lst xs)) : Tp H (upd H D (.lst ys)) := fun t zs e => by
  rw [upd_ne (fun z => by subst z; rw [h] at e; cases e)]
  exact e
theorem Tp.new {H : Hp} {D : Addr} {o : HO} (h : H D = none) : Tp H (upd H D o) := Same.tp (same_upd h)
abbrev PairL (H : Hp) (xs : List V) (L : List (Int × Int)) : Prop := Paired (fun (x : V) (p : Int × Int) => ∃ t, x = V.ref t ∧ H t = some (.tup [.int p.1, .int p.2])) xs L
theorem PairL.mono {H H' : Hp} {xs : List V} {L : List (Int × Int)} (h : PairL H xs L) (k : Tp H H') : PairL H' xs L := Paired.mono (fun _ _ ⟨t, e, q⟩ => ⟨t, e, k t _ q⟩) h
theorem PairL.get {H : Hp} : ∀ {xs : List V} {L : List (Int × Int)} (h : PairL H xs L) {i : Nat} {x : V}, xs[i]? = some x → ∃ t p, L[i]? = some p ∧ x = V.ref t ∧ H t = some (.tup [.int p.1, .int p.2])
  | _, _, .nil, _, _, e => by simp at e
  | _, _, .cons ⟨t, r, q⟩ _, 0, x, e => by
    have e' := Option.some.inj e
    exact ⟨t, _, rfl, by rw [← e']; exact r, q⟩
  | _, _, .cons _ s, i + 1, x, e => PairL.get (i := i) s (by simpa using e)
theorem PairL.len {H : Hp} {xs : List V} {L : List (Int × Int)} (h : PairL H xs L) : xs.length = L.length := Paired.length h
/-- what stands in such a pair -/
def keyOf (H : Hp) : V → Int × Int
  | .ref t => match H t with
    | some (.tup [.int a, .int b]) => (a, b)
    | _ => (0, 0)
  | _ => (0, 0)
theorem PairL.keys {H : Hp} : ∀ {xs : List V} {L : List (Int × Int)}, PairL H xs L → xs.map (keyOf H) = L ∧ ∀ x ∈ xs, ∃ t, x = V.ref t ∧ H t = some (.tup [.int (keyOf H x).1, .int (keyOf H x).2])
  | _, _, .nil => ⟨rfl, by simp⟩
  | _, _, .cons (a := x) (b := p) ⟨t, r, q⟩ s => by
    obtain ⟨h1, h2⟩ := PairL.keys s
    have e : keyOf H x = p := by
      subst r
      show (match H t with | some (.tup [.int a, .int b]) => (a, b) | _ => (0, 0)) = p
      rw [q]
    refine ⟨by rw [List.map_cons, e, h1], fun y hy => ?_⟩
    rcases List.mem_cons.mp hy with z | hy
    · subst z
      exact ⟨t, r, by rw [e]; exact q⟩
    · exact h2 y hy
theorem takeS {α : Type} {l : List α} {i : Nat} {x : α} (h : l[i]? = some x) : l.take (i + 1) = l.take i ++ [x] := by rw [List.take_add_one, h]; rfl
section
variable {X : Cx}
/-- a module's constant -/
theorem pe_gl {x : Str} {pos : Pos} {v : V} (hg : Gl X x) (h : ∃ u, X.mg x = some u ∧ RelV v u) (hd : (x == ("__debug__" : Str)) = false := by decide) : PE X (.Name x pos) (tC v) := by
  obtain ⟨u, hu, r⟩ := h
  exact pe_glob hg hu r hd
end
section
variable {X : Cx}
def rLen (K : PySem.W.Frag) : List V → Hp → VK → Prop := fun xs H Q => ∃ x n, xs = [x] ∧ LenV K x H n ∧ Q (.int (n : Nat)) H
theorem c_len : CallR X (.builtin "len") (rLen X.K) := call_len
def rTupOf (K : PySem.W.Frag) : List V → Hp → VK → Prop := fun xs H Q => ∃ p ys, xs = [.ref p] ∧ ((SqL K H p ys ∧ ∀ l, H l = none → Q (.ref l) (upd H l (.tup ys))) ∨ (SqT K H p ys ∧ Q (.ref p) H))
theorem c_tuple : CallR X (.type "tuple") (rTupOf X.K) := call_tuple_of
def rListOf (K : PySem.W.Frag) : List V → Hp → VK → Prop := fun xs H Q => ∃ p ys, xs = [.ref p] ∧ (SqL K H p ys ∨ SqT K H p ys) ∧ ∀ l, H l = none → Q (.ref l) (upd H l (.lst ys))
theorem c_list : CallR X (.type "list") (rListOf X.K) := call_list_of
def rReprD (K : PySem.W.Frag) : List V → Hp → VK → Prop := fun xs H Q => ∃ x d, xs = [x] ∧ Dp K H x d ∧ Shw d ∧ Q (.str d.shown) H
theorem c_repr (hG : X.A.guards = some []) (hu : X.A.units + 64 < cLine) : CallR X (.builtin "repr") (rReprD X.K) := call_reprD hG hu
def tTruK (K : PySem.W.Frag) (ta : TE) : TT := fun σ H Q => ta σ H fun x H' => ∃ k, TruV K x H' k ∧ Q k H'
theorem pt_truthK {a : Expr} {ta : TE} (ha : PE X a ta) (he : ∀ whole, isTrue a X.env whole = (do let v ← whole; standAt a.pos; holding [v] (truthy v))) : PT X a (tTruK X.K ta) := pt_truth ha he
end
section
variable {X : Cx}
/-- t + u of tuples, told by what stands there behind it -/
def rCatS (K : PySem.W.Frag) : R2 := fun x y H Q => ∃ a b xs ys, x = .ref a ∧ y = .ref b ∧ SqT K H a xs ∧ SqT K H b ys ∧ xs.length + ys.length ≤ sizeLine ∧ ∀ c H', Same H H' → SqT K H' c (xs ++ ys) → Q (.ref c) H'
theorem op_catS : OpR X (binaryOp .Add) (rCatS X.K) := by
  intro pins s σ H x y v u Q I rx ry h
  obtain ⟨a, b, xs, ys, e1, e2, ha, hb, hz, q⟩ := h
  refine op_catA pins s σ H x y v u Q I rx ry ⟨a, b, xs, ys, e1, e2, ha, hb, hz, fun e => ?_, fun _ e => ?_, fun _ _ p np => q p _ (same_upd np) (SqT.of upd_same)⟩
  · exact q b H (Same.refl H) (by rw [e, List.nil_append]; exact hb)
  · exact q a H (Same.refl H) (by rw [e, List.append_nil]; exact ha)
def rSlS (K : PySem.W.Frag) : V → Option Int → Option Int → Hp → VK → Prop := fun x lo hi H Q => ∃ a xs, x = .ref a ∧ SqT K H a xs ∧ ∀ c H', Same H H' → SqT K H' c (cutV xs lo hi) → Q (.ref c) H'
theorem sl_tupS : SlR X (rSlS X.K) := by
  intro pins s σ H x v vl vu lo hi sl Q I rx hs pl pu h
  obtain ⟨a, xs, e, ha, q⟩ := h
  refine sl_tupA pins s σ H x v vl vu lo hi sl Q I rx hs pl pu ⟨a, xs, e, ha, fun w => ?_, fun _ p np => q p _ (same_upd np) (SqT.of upd_same)⟩
  refine q a H (Same.refl H) ?_
  have e : cutV xs lo hi = xs := by
    unfold cutV
    rw [w.1, w.2, List.drop_zero, Nat.sub_zero, List.take_length]
  rw [e]
  exact ha
end
end Ln
set_option Elab.async false
set_option linter.all false
set_option maxRecDepth 100000
set_option maxHeartbeats 4000000
namespace Ln
open PySem PySem.Spec PyProof.Rows L2
/-! ## small data can be shown -/
structure Sm (d : PyData) (k m : Nat) : Prop where
  sh : d.showable = true
  dp : d.depth ≤ k
  lv : d.leavesShort 13 = true
  wt : d.weight ≤ m
  cl : d.canLay0 = true
theorem Sm.shw {d : PyData} {k m : Nat} (h : Sm d k m) (hk : k ≤ 60) (hm : m ≤ 1000000) : Shw d :=
  ⟨h.sh, Nat.le_trans h.dp hk, PyData.shown_fits (B := 13) (by decide) (by decide) h.lv (Nat.le_trans h.wt (Nat.le_trans hm (by decide)))⟩
theorem Sm.mono {d : PyData} {k m k' m' : Nat} (h : Sm d k m) (hk : k ≤ k') (hm : m ≤ m') : Sm d k' m' := ⟨h.sh, Nat.le_trans h.dp hk, h.lv, Nat.le_trans h.wt hm, h.cl⟩
theorem log2_small {n : Nat} (h : n < 10 ^ 12) : n.log2 < 40 := by
  by_cases h0 : n = 0
  · subst h0
    decide
  · exact (Nat.log2_lt h0).mpr (Nat.lt_of_lt_of_le h (by decide))
theorem Sm.int {i : Int} (h : i.natAbs < 10 ^ 12) : Sm (.int i) 0 41 := by
  have hl := log2_small h
  refine ⟨?_, ?_, ?_, ?_, rfl⟩
  · simp only [PyData.showable, decide_eq_true_eq]
    omega
  · simp only [PyData.depth]
    exact Nat.le_refl _
  · simp only [PyData.leavesShort, decide_eq_true_eq]
    exact PyData.shown_int_le h
  · simp only [PyData.weight]
    split <;> omega
theorem Sm.none : Sm .none 0 0 := ⟨by simp only [PyData.showable], by simp only [PyData.depth]; exact Nat.le_refl _, by simp only [PyData.leavesShort], by simp only [PyData.weight]; exact Nat.le_refl _, rfl⟩
theorem Sm.bool (b : Bool) : Sm (.bool b) 0 0 := ⟨by simp only [PyData.showable], by simp only [PyData.depth]; exact Nat.le_refl _, by simp only [PyData.leavesShort], by simp only [PyData.weight]; exact Nat.le_refl _, rfl⟩
theorem Sm.str {x : Str} {m : Nat} (h : x.length ≤ m) (ha : (x.cps.toList.all fun c => decide (c < 16 ^ 8)) = true) (hk : PyData.canLay0 (.str x) = true) : Sm (.str x) 0 m :=
  ⟨by simp only [PyData.showable], by simp only [PyData.depth]; exact Nat.zero_le _, by simp only [PyData.leavesShort]; exact ha, by simp only [PyData.weight]; exact h, hk⟩
theorem Sm.all {k m : Nat} : ∀ {ds : List PyData}, (∀ d ∈ ds, Sm d k m) → PyData.showableAll ds = true ∧ PyData.depthAll ds ≤ k ∧ PyData.leavesShortAll 13 ds = true ∧ PyData.weightAll ds ≤ (m + 1) * ds.length ∧ PyData.canLayAll0 ds = true
  | [], _ => ⟨by simp only [PyData.showableAll], by simp only [PyData.depthAll]; exact Nat.zero_le _, by simp only [PyData.leavesShortAll], by simp only [PyData.weightAll]; exact Nat.zero_le _, rfl⟩
  | d :: ds, h => by
    obtain ⟨a1, a2, a3, a4, a5⟩ := h d List.mem_cons_self
    obtain ⟨b1, b2, b3, b4, b5⟩ := Sm.all (ds := ds) fun x hx => h x (List.mem_cons_of_mem _ hx)
    refine ⟨?_, ?_, ?_, ?_, by simp only [PyData.canLayAll0, a5, b5, Bool.and_self]⟩
    · simp only [PyData.showableAll, a1, b1, Bool.and_self]
    · simp only [PyData.depthAll]
      exact Nat.max_le.mpr ⟨a2, b2⟩
    · simp only [PyData.leavesShortAll, a3, b3, Bool.and_self]
    · simp only [PyData.weightAll, List.length_cons]
      rw [Nat.mul_succ]
      omega
theorem Sm.tup {k m n : Nat} {ds : List PyData} (h : ∀ d ∈ ds, Sm d k m) (hn : ds.length ≤ n) : Sm (.tuple ds) (k + 1) ((m + 1) * n) := by
  obtain ⟨b1, b2, b3, b4, b5⟩ := Sm.all h
  exact ⟨by simp only [PyData.showable]; exact b1, by simp only [PyData.depth]; omega, by simp only [PyData.leavesShort]; exact b3, by simp only [PyData.weight]; exact Nat.le_trans b4 (Nat.mul_le_mul_left _ hn), by simp only [PyData.canLay0]; exact b5⟩
theorem Sm.lst {k m n : Nat} {ds : List PyData} (h : ∀ d ∈ ds, Sm d k m) (hn : ds.length ≤ n) : Sm (.list ds) (k + 1) ((m + 1) * n) := by
  obtain ⟨b1, b2, b3, b4, b5⟩ := Sm.all h
  exact ⟨by simp only [PyData.showable]; exact b1, by simp only [PyData.depth]; omega, by simp only [PyData.leavesShort]; exact b3, by simp only [PyData.weight]; exact Nat.le_trans b4 (Nat.mul_le_mul_left _ hn), by simp only [PyData.canLay0]; exact b5⟩
/-! ## a tuple of ints as data -/
theorem dp_ints {K : PySem.W.Frag} {H : Hp} : ∀ (ns : List Int), DpAll K H (ns.map V.int) (ns.map PyData.int)
  | [] => .nil
  | n :: r => .cons (.int n) (dp_ints r)
theorem Sm.shaped {d : PyData} {k m : Nat} (h : Sm d k m) (hk : k ≤ 60) : SeqAt.shaped d = true := by
  unfold SeqAt.shaped
  rw [h.cl, Bool.true_and, decide_eq_true_eq]
  exact Nat.le_trans h.dp (Nat.le_trans hk (by decide))
theorem Sm.eqv {d : PyData} {k m : Nat} (h : Sm d k m) : PyData.eqv d d = true := SeqAt.eqv_refl d h.cl
theorem Sm.ints {ns : List Int} {n : Nat} (h : ∀ i ∈ ns, i.natAbs < 10 ^ 12) (hn : ns.length ≤ n) : Sm (.tuple (ns.map PyData.int)) 1 (42 * n) := by
  apply Sm.tup (k := 0) (m := 41)
  · intro d hd
    obtain ⟨i, hi, rfl⟩ := List.mem_map.mp hd
    exact Sm.int (h i hi)
  · rw [List.length_map]
    exact hn
end Ln
set_option Elab.async false
set_option linter.all false
set_option maxRecDepth 100000
set_option maxHeartbeats 4000000
namespace Ln
open PySem PySem.Spec PyProof.Rows L2
/-! ## several clauses, each with a name of its own -/
abbrev Suite1 : Type := Addr → Value → Option Addr → TS
/-- behind a suite the name's slot is empty -/
def freed (i : Nat) (D : Ends) : Ends where
  nx := fun τ G => D.nx (τ.set i none) G
  rt := D.rt
  bk := fun τ G => D.bk (τ.set i none) G
  ct := fun τ G => D.ct (τ.set i none) G
/-- what the clauses wish of an error of the body -/
def wNam (K : PySem.W.Frag) (Wo : WX) (D : Ends) : List (Value × Nat × Suite1) → WX
  | [] => Wo
  | (c, i, ts) :: more => fun cls d τ G => ∃ hit : Bool, PySem.W.exmOne K cls c = some hit ∧ (hit = true → ∀ a : Addr, G a = none → ts a cls d (freed i D) (τ.set i (some (.ref a))) G) ∧ (hit = false → wNam K Wo D more cls d τ G)
inductive Clauses (X : Cx) : List ExceptHandler → List (Value × Nat × Suite1) → Prop
  | done : Clauses X [] []
  | more {n x : Str} {i : Nat} {c : Value} {ts : Suite1} {s₀ : Stmt} {ss : List Stmt} {p q : Pos} {hds : List ExceptHandler} {l : List (Value × Nat × Suite1)} (at_ : X.N[i]? = some n) (loc : X.env.kindOf n = some .local) (nam : Names X x c)
      (run : ∀ (a : Addr) (oe : Obj) (cls : Value) (d : Option Addr) (pn : List (Addr × Obj)), Zc cls d oe → (∃ vs, oe.data = .fields vs) → PSs (X.suite a ((a, oe) :: pn)) (s₀ :: ss) (ts a cls d)) (rest : Clauses X hds l) :
      Clauses X (.ExceptHandler (some (.Name x p)) (some n) (s₀ :: ss) q :: hds) ((c, i, ts) :: l)
section
variable {X : Cx} {body : List Stmt} {e₀ : ExceptHandler} {es : List ExceptHandler} {l : List (Value × Nat × Suite1)} {pos : Pos} {tb : WX → TS} {Wo : WX}
/-- THE RULE: try with clauses that all have a name -/
theorem ps_try_named (stk : X.stack = X.env :: X.outer) (frm : X.env.frame = some X.env.locals) (nod : X.N.Nodup) (tk : Takes X Wo)
    (bodyOk : ∀ (W : WX) (pn : List (Addr × Obj)) (xe : Value → Shared → Prop), Takes (X.tr pn xe) W → PassesOwn (model X.prog X.w) X.A X.env xe → PSs (X.tr pn xe) body (tb W))
    (cl : Clauses X (e₀ :: es) l) : PS X (.Try body (e₀ :: es) [] [] pos) (fun D σ H => tb (wNam X.K Wo D l) D σ H) := by
  constructor
  intro pins s σ H D I want
  have oks := I.ok
  have frames : X.A.frames = some (X.env :: X.outer) := stk ▸ oks.frames
  refine wpAny_Try_except (wpAny_mono ((bodyOk (wNam X.K Wo D l) (X.pn ++ pins)
    (fun er s₁ => wpAny (model X.prog X.w) X.A (noteFrame er X.env)
      (fun _ s₂ => wpAny (model X.prog X.w) X.A (setFlight er none)
        (fun _ s₃ => wpAny (model X.prog X.w) X.A (handleBy er X.env (e₀ :: es)) (SP X pins D) X.xe s₃) X.xe s₂) X.xe s₁)
    ?caught PassesOwn.looking).run [] s σ H D (I.toTry _) want) ?calm fun _ _ z => z)
  case calm =>
    intro f s1 q
    cases f with
    | ret u => exact q.elim fun v q => q.elim fun τ q => q.elim fun G q => ⟨v, τ, G, q.1.ofTry oks, q.2⟩
    | next => exact q.elim fun τ q => q.elim fun G q => wpAny_execs_nil ⟨τ, G, q.1.ofTry oks, q.2⟩
    | brk => exact q.elim fun τ q => q.elim fun G q => ⟨τ, G, q.1.ofTry oks, q.2⟩
    | cont => exact q.elim fun τ q => q.elim fun G q => ⟨τ, G, q.1.ofTry oks, q.2⟩
  case caught =>
    rintro u s' ⟨a, B, sI, pins', τ, G, cls, d, rfl, It, nb, up, sky, na, os, ag, w⟩
    have J : Inv X pins τ G sI := It.ofTry oks
    have sk : Sky B (X.env :: X.outer) a (Zc cls d) X.env.locals s'.heap := stk ▸ sky
    refine Sky.land Zc.steady frames frm sk fun h3 fl up3 => ?_
    have upA := up.trans up3
    have J3 := (J.landed nb fl.1 upA os ag : Inv X pins τ G { s' with heap := h3 })
    obtain ⟨oe3, vs3, he3, hz3, hd3⟩ := fl.there
    have nfr : a ∉ frs (X.env :: X.outer) := fun m => by
      obtain ⟨_, o', q, nof⟩ := fl.2.2.1.mem m
      rw [he3] at q
      cases q
      exact nof _ hd3
    have nL : a ≠ X.env.locals := by
      intro z
      refine nfr (List.mem_filterMap.mpr ⟨X.env, List.mem_cons_self, ?_⟩)
      rw [frm, z]
    have nF : a ∉ X.fs := by
      intro m
      obtain ⟨e, he, q⟩ := List.mem_filterMap.mp m
      exact nfr (List.mem_filterMap.mpr ⟨e, .tail _ he, q⟩)
    have S3 := J3.suite he3 hd3 na nL nF
    refine (show ∀ {hs : List ExceptHandler} {k : List (Value × Nat × Suite1)}, Clauses X hs k → wNam X.K Wo D k cls d τ G →
      wpAny (model X.prog X.w) X.A (handleBy (.ref a) X.env hs) (SP X pins D) X.xe { s' with heap := h3 } from ?_) cl w
    intro hs k c
    induction c with
    | done =>
      intro out
      refine wpAny_handleBy_nil ?_
      obtain ⟨_, _, _, oe, vs, T, oT, ts', he, _, hd, h1, _⟩ := id fl
      unfold PySem.passOn
      refine wpAny_bind (wpAny_field he hd h1 ?_)
      have notNone : ¬ ((Value.ref T == Value.none) = true) := by simp
      rw [if_neg notNone]
      have fin : wpAny (model X.prog X.w) X.A (setFlight (.ref a) X.env.frame) (fun _ s4 => wpAny (model X.prog X.w) X.A (throw (.ref a) : Sem Flow) (SP X pins D) X.xe s4) X.xe { s' with heap := h3 } := by
        rw [frm]
        refine HandSPX.setFlight_upZ fl fun h4 hh4 up4 => wpAny_throw (tk _ _ ?_)
        exact ⟨a, B, sI, pins, τ, G, cls, d, rfl, J, nb, upA.trans up4, .inr (.inr (stk.symm ▸ hh4)), na, os, ag, out⟩
      first
        | exact wpAny_bind fin
        | exact wpAny_bind (wpAny_pure (wpAny_bind fin))
    | @more n x i c ts s₀ ss p q hds k2 at_ loc nam run rest ih =>
      rintro ⟨hit, isHit, yes, no⟩
      refine wpAny_handleBy_cons (codeAny_handlers_test ?_) (by intro q; cases q)
      have looks := PySem.W.exm_one (M := model X.prog X.w) J3.kIn (fun A Q E s k q => wpAny_typeOf_ref (k _ _ he3) (by rw [hz3.1]; exact q) : PySem.W.Looks (model X.prog X.w) h3 (typeOf (.ref a)) cls) isHit
      have test : ∀ {Q E : Value → Shared → Prop}, Q c { s' with heap := h3 } → wpAny (model X.prog X.w) (X.A.mark (some (.ref a))) (eval (.Name x p) X.env) Q E { s' with heap := h3 } := by
        intro Q E q
        obtain ⟨glo, dbg, there | ⟨gone, boot, nn⟩⟩ := nam
        · exact ld_glob (X := X.suite a ((a, oe3) :: (X.pn ++ pins))) S3 glo there q dbg
        · exact ld_blt (X := X.suite a ((a, oe3) :: (X.pn ++ pins))) S3 glo gone boot q nn dbg
      refine test (looks.here ?_)
      cases hit with
      | false => exact ih (no rfl)
      | true =>
        refine codeAny_handlers_suite_as ?_
        refine HandSPX.lands_againZ fl fun h4 fl4 up4 => ?_
        have J4 := (J.landed nb fl4.1 (upA.trans up4) os ag : Inv X pins τ G { s' with heap := h4 })
        obtain ⟨oe4, vs4, he4, hz4, hd4⟩ := fl4.there
        refine store_ok (X := X.suite a ((a, oe4) :: (X.pn ++ pins))) (v := .ref a) (J4.suite he4 hd4 na nL nF) nod at_ (.inl loc) rfl (fun s5 S5 => ?_) (.inr loc)
        refine wpAny_mono ((run a oe4 cls d (X.pn ++ pins) hz4 ⟨_, hd4⟩).run [] s5 _ G _ S5 (yes rfl a na)) (fun f s6 r => ?_) (fun _ _ z => z.elim)
        have leave : ∀ {υ : L2.St} {G6 : Hp} {Q : Shared → Prop}, Inv (X.suite a ((a, oe4) :: (X.pn ++ pins))) [] υ G6 s6 → (∀ s7, Inv X pins (υ.set i none) G6 s7 → Q s7) →
            wpAny (model X.prog X.w) X.A (do bindName X.env n .none; unbindBehindTheSuite X.env n q) (fun _ s7 => Q s7) X.xe s6 := by
          intro υ G6 Q S6 hq
          exact gone_ok (S6.unsuite oks) nod at_ loc hq
        cases f with
        | ret u =>
          obtain ⟨v6, τ6, G6, S6, r6, q6⟩ := r
          exact leave S6 fun s7 J7 => ⟨v6, _, _, J7, r6, q6⟩
        | next =>
          obtain ⟨τ6, G6, S6, q6⟩ := r
          exact leave S6 fun s7 J7 => ⟨_, _, J7, q6⟩
        | brk =>
          obtain ⟨τ6, G6, S6, q6⟩ := r
          exact leave S6 fun s7 J7 => ⟨_, _, J7, q6⟩
        | cont =>
          obtain ⟨τ6, G6, S6, q6⟩ := r
          exact leave S6 fun s7 J7 => ⟨_, _, J7, q6⟩
end
end Ln
set_option Elab.async false
set_option linter.all false
set_option maxRecDepth 100000
set_option maxHeartbeats 4000000
/-! ## isinstance of a caught error with fields -/
namespace PySem.W
open PySem PySem.Spec PySem.Calls PyProof.Rows
theorem exc_class {prog : Program} {w : World} {A : Around} {E : Value → Shared → Prop} {s : Shared} {K : Frag} {x D : Addr} {ox od : Obj} {Q : Option Value → Shared → Prop} (C : L2.ExcC K D) (X : K.In s.heap) (I : InstAt s.heap x ox D (some od))
    (want : Q (some (.ref D)) { s with toks := s.toks + 1 }) : wpAny (model prog w) A (getAttr? (.ref x) "__class__") Q E s := by
  obtain ⟨cdD, isD, _⟩ := any_some C.hd
  have found := findObj_data (od := od) (show (clsIn K D).isSome = true by rw [isD]; rfl) C.ha C.hn C.ht
  obtain ⟨hp, g, d, t, os⟩ := s
  have M0 := I.type (M := model prog w)
  have M1 := looks_findIn (M := model prog w) X C.hg
  have M2 := looks_findIn (M := model prog w) X C.hk
  have M3 := looks_find (M := model prog w) X I found
  have inst := (M0.andThen (looks_subIn X C.hs) : Looks (model prog w) hp (isInstance (.ref x) (.type "BaseException")) true)
  have b2 : (Value.builtin "BaseException.__getattribute__" == Value.builtin "object.__getattribute__") = false := by decide +kernel
  have b1 : (onTheHeap (Value.ref D) && Value.builtin "BaseException.__getattribute__" == Value.builtin "object.__getattribute__") = false := by
    rw [b2]
    rfl
  unfold getAttr? getAttrBy? getAttrBy
  refine wpAny_bind (wpAny_mkText (wpAny_bind (wpAny_attempt (wpAny_holding (wpAny_bind (M0.at (wpAny_bind (M1.at ?_))))))))
  show wpAny _ _ (ite ((onTheHeap (Value.ref D) && Value.builtin "BaseException.__getattribute__" == Value.builtin "object.__getattribute__") = true) _ _) _ _ _
  rw [b1, if_neg Bool.false_ne_true]
  unfold getAttrByItsOwn hookBefore
  apply wpAny_bind
  rw [if_pos (show onTheHeap (Value.ref D) = true from rfl)]
  apply M2.at
  apply wpAny_bind
  apply wpAny_attempt
  apply wpAny_holding
  unfold callGetattribute
  have b0 : (false && onTheHeap (Value.builtin "BaseException.__getattribute__")) = false := rfl
  rw [b0, if_neg Bool.false_ne_true]
  unfold boundAndCalled
  rw [PySem.F.excAttr_ValueError.ga.bind (.ref x)]
  apply wpAny_bind
  apply wpAny_pure
  show wpAny _ _ (call (.builtin "BaseException.__getattribute__") [.ref x, .str "__class__" t]) _ _ _
  refine wpAny_call (codeAny_call_builtin PySem.F.excAttr_ValueError.ga.plain PySem.F.entry_bexc_ga
    (@check_slot (model prog w) _ _ ⟨hp, g, d, t + 1, os⟩ "BaseException.__getattribute__" "BaseException" "__getattribute__" (.ref x) [.str "__class__" t] [] _ (by decide +kernel) (by decide +kernel) inst (PySem.F.args_bexc_ga (.ref x) (.str "__class__" t)) ?_))
  unfold Builtin.«object.__getattribute__»
  refine wpAny_bind (wpAny_of_eq (a := ((Value.ref x : Value), [Value.str "__class__" t])) (by first | (simp only [slotArgs]; rfl) | rfl) ?_)
  refine wpAny_bind (wpAny_pure (wpAny_bind (M0.at (wpAny_bind (M3.at ?_)))))
  show wpAny _ _ (holding [Value.builtin "object.__class__"] (call (.builtin "getset_descriptor.__get__") [.builtin "object.__class__", .ref x, .ref D]) >>= ret) _ _ _
  refine wpAny_bind (wpAny_holding (wpAny_call (class_get (s := ⟨hp, g, d, t + 1, os⟩) (ox := ox) (od := some od) X I C.hm (wpAny_pure ?_))))
  show wpAny _ _ (handedOut (.ref D)) _ _ _
  rw [handedOut_of (v := .ref D) rfl]
  first
    | exact wpAny_pure want
    | exact wpAny_pure (wpAny_pure want)
    | exact wpAny_pure (wpAny_bind (wpAny_pure (wpAny_pure want)))
theorem kit_exc {K : Frag} {x D : Addr} {ox : Obj} (C : L2.ExcC K D) : KitX K (.ref x) (.ref D) (fun h => ∃ od, InstAt h x ox D (some od)) where
  ty := fun _ _ _ ⟨_, I⟩ => I.type
  it := fun _ h X _ => by
    obtain ⟨cdD, isD, _⟩ := any_some C.hd
    unfold clsIn at isD
    split at isD
    · rename_i q
      intro A' Q' E' s' k want
      unfold isType loadHead
      exact wpAny_bind (wpAny_loadPart (k _ _ (X _ _ q)) (wpAny_pure want))
    · cases isD
  ne := fun h tp dd its n sl X at_ => by
    obtain ⟨cdD, isD, _⟩ := any_some C.hd
    cases e : (Value.ref D == Value.ref tp) with
    | false => rfl
    | true =>
      obtain rfl : D = tp := Value.ref.inj (beq_iff_eq.mp e)
      unfold clsIn at isD
      split at isD
      · rename_i q
        have z := (X _ _ q).symm.trans at_
        cases z
      · cases isD
  ca := fun X ⟨_, I⟩ want => exc_class C X I want
end PySem.W
namespace Ln
open PySem PySem.Spec PyProof.Rows L2 L2H
/-- isinstance(e, c): the pinned error p, of the class at D, its fields in a tracked dict -/
def rIsF (K : PySem.W.Frag) (a : Addr) (cls : Value) (d : Option Addr) : List V → Hp → VK → Prop := fun xs H Q => ∃ (c : V) (cv : Value) (b : Bool) (D dd : Addr) (fs : List (Str × V)), xs = [.ref a, c] ∧ ExcC K D ∧ cls = .ref D ∧ d = some dd ∧ H dd = some (.xd fs) ∧
  (∀ u, RelV c u → u = cv) ∧ PySem.W.kitOne K (.ref D) cv = some b ∧ Q (.bl b) H
theorem call_isF {X : Cx} {p : Addr × Obj} {cls : Value} {d : Option Addr} (hp : p ∈ X.pn) (hz : Zc cls d p.2) (hf : ∃ vs, p.2.data = .fields vs) : CallR X (.builtin "isinstance") (rIsF X.K p.1 cls d) := by
  intro pins s σ H xs us Q I r h
  obtain ⟨c, cv, b, D, dd, fs, rfl, C, rfl, rfl, hd, hcv, e, q⟩ := h
  obtain ⟨vs, hv⟩ := hf
  obtain ⟨u1, u2, rfl, r1, r2⟩ : ∃ u1 u2, us = [u1, u2] ∧ RelV (.ref p.1) u1 ∧ RelV c u2 := by
    cases r with
    | cons a b => cases b with
      | cons b c => cases c with
        | nil => exact ⟨_, _, rfl, a, b⟩
  cases r1
  obtain rfl := hcv _ r2
  obtain ⟨hget, _⟩ := I.pin p (List.mem_append_left _ hp)
  obtain ⟨mA, hns, _⟩ : ObjOk X.prog X.w H s.heap dd (.xd fs) := I.hok dd _ hd
  obtain ⟨od, ho, _⟩ := lookIn_ns hns
  have J : PySem.W.InstAt s.heap p.1 p.2 D (some od) := ⟨hget, hz.1, by unfold PySem.W.notCls; rw [hv] <;> rfl, by rw [hz.2]; exact ho⟩
  exact PySem.W.kia_one (PySem.W.kit_exc C) I.kIn ⟨od, J⟩ e (fun z => nomatch z) fun tk => ⟨.bl b, H, I.kept (t' := tk) fun _ _ z => z, rfl, q⟩
/-! ## a def that is called with the handled error at hand -/
structure FnE (P : Program) (w : World) (K : PySem.W.Frag) (mg : Str → Option Value) (base : Heap) (k : Nat) (f : Addr) (fd : FuncData) (ps : List Str) (sp : Addr → Value → Option Addr → Sp) : Prop where
  len : ∀ a cls d vs H Q E, sp a cls d vs H Q E → vs.length = ps.length
  run : ∀ (A : Around) (outer : List Env) (s : Shared) (H : Hp) (args : Args) (us : List Value) (vs : List V) (Q : VK) (p : Addr × Obj) (cls : Value) (d : Option Addr), Zc cls d p.2 → (∃ vs, p.2.data = .fields vs) → RoomH k A → PinOk outer H s p → Env0 P w K mg base A outer s H →
    BindsTo s fd args (ps.zip us) → Vals vs us → sp p.1 cls d vs H Q E0 → codeAny (model P w) A (.call (.ref f) args) (CR CX0 outer P w H s Q E0) s
theorem okE {P : Program} {w : World} {K : PySem.W.Frag} {mg : Str → Option Value} {base : Heap} {x qual : Str} {st : Stmt} {f : Addr} {fd : FuncData} {N ps : List Str} {k : Nat} {sp : Addr → Value → Option Addr → Sp} (F : Fun K x qual st f fd) (S : FnScope N ps (defScope st))
    (len : ∀ a cls d vs H Q E, sp a cls d vs H Q E → vs.length = ps.length)
    (hbody : ∀ (cdv : Value) (A : Around) (outer : List Env) (s : Shared) (H : Hp) (vs : List V) (Q : VK) (p : Addr × Obj) (cls : Value) (d : Option Addr), Zc cls d p.2 → (∃ vs, p.2.data = .fields vs) → RoomH k (A.deeper (envOfC qual (defScope st) s.heap.objs.size f cdv)) → sp p.1 cls d vs H Q E0 →
      ∃ t, PSs (cxH CX0 P w K mg base N qual (defScope st) f cdv A outer s H E0 p) (defBody st) t ∧ t { nx := fun _ H' => Q .non H', rt := Q } (start N vs) H) : FnE P w K mg base (k + 1) f fd ps sp := by
  obtain ⟨oc, od, kV, doc, pm, an, cdv, ct, osl, rfl, lk, hcd⟩ := F.ex
  constructor
  · exact len
  intro A outer s H args us vs Q p cls d hz hf hr pin e0 hb r hsp
  have hl := len _ _ _ _ _ _ _ hsp
  have same := fun b o (e : base.get? b = some o) => (e0.bs b o e).1
  have KX : K.In s.heap := e0.mod.kin.keeps same
  have kinds : ∀ y ∈ ps.zip us, (defScope st).names.lookup y.1 = some .local ∨ ((defScope st).names.lookup y.1 = some .cell ∧ ((cellsFrom (s.heap.objs.size + 1) (defScope st).names []).lookup y.1).isSome = true) := by
    intro y hy
    rcases S.par y.1 (List.of_mem_zip (a := y.1) (b := y.2) hy).1 with q | q
    · exact Or.inl q
    · exact Or.inr ⟨q, PySem.W.cellsFrom_some _ _ _ (Or.inl q)⟩
  apply codeAny_call_function hr.depth (KX _ _ lk) rfl S.co S.gen rfl (PySem.W.codeRec_of KX hcd) (hb _ _ _ _ ?_)
  refine wpAny_newFunctionEnv_cells S.kind kinds ?_
  rintro env rfl s1 c
  refine ⟨(e0.mod.nolimit.keeps same).keeps c.toInCall.keep, codeAny_func ?_⟩
  obtain ⟨t, ht, hq⟩ := hbody cdv A outer s H vs Q p cls d hz hf (hr.deeper _) hsp
  apply wpAny_mono (ht.run [] s1 (start N vs) H _ (inv_startH S pin e0 hl r c) hq) _ fun _ _ z => z
  intro fl s' z
  cases fl with
  | ret u => exact z.elim fun v z => z.elim fun τ z => z.elim fun G z => ⟨v, G, z.1.os, z.1.bare, z.1.base, z.1.hok, z.2.1, z.2.2⟩
  | next => exact z.elim fun τ z => z.elim fun G z => ⟨V.non, G, z.1.os, z.1.bare, z.1.base, z.1.hok, rfl, z.2⟩
  | brk => exact z.elim fun τ z => z.elim fun G z => z.2.elim
  | cont => exact z.elim fun τ z => z.elim fun G z => z.2.elim
structure CgE (P : Program) (w : World) (K : PySem.W.Frag) (mg : Str → Option Value) (base : Heap) (k : Nat) (x : Str) (sp : Addr → Value → Option Addr → Sp) : Prop where
  ex : ∃ (f : Addr) (fd : FuncData) (ps : List Str), FnE P w K mg base k f fd ps sp ∧ mg x = some (.ref f) ∧ PySem.W.keepIn K (.ref f) = true ∧ Binds K fd ps []
theorem pe_cgE {X : Cx} {j k : Nat} {a : Addr} {oe : Obj} {x : Str} {np pos : Pos} {e : Expr} {es : List Expr} {t : TA} {sp : Addr → Value → Option Addr → Sp} {cls : Value} {d : Option Addr} (c : CgE X.prog X.w X.K X.mg X.base k x sp) (hp : (a, oe) ∈ X.pn) (hz : Zc cls d oe) (hf : ∃ vs, oe.data = .fields vs) (hr : RoomH j X.A) (hk : k ≤ j) (hg : Gl X x) (ha : PA X (e :: es) t)
    (hdb : (x == ("__debug__" : Str)) = false := by decide) (he : starEach (e :: es) X.env = (false, eval e X.env) :: starEach es X.env := by rfl) (hpl : (backTo pos (starEach es X.env)).any (·.1) = false := by rfl) :
    PE X (.Call (.Name x np) (e :: es) [] pos) (tCg (sp a cls d) (fun _ => E0) t) := by
  constructor
  intro pins s σ H Q I h
  obtain ⟨f, fd, ps, F, hm, kp, b⟩ := c.ex
  apply wpAny_Call_Name_kw (ld_glob I hg hm ?_ hdb)
  apply PySem.W.callWith_K (h₀ := X.base) I.ok.mod.kin kp (thn (ha.run pos pins s σ H _ I h) _) he hpl
  rintro us s1 ⟨vs, H1, I1, r, q⟩
  refine ⟨I1.kIn, ?_⟩
  have hl : us.length = ps.length := r.length ▸ F.len _ _ _ _ _ _ _ q
  have pin := I1.pin (a, oe) (List.mem_append_left _ hp)
  have ok : PinOk X.stack H1 s1 (a, oe) := ⟨pin.1, pin.2.1, fun m => (List.mem_cons.mp (I1.stkSub a m)).elim pin.2.2.1 pin.2.2.2.1, pin.2.2.2.2⟩
  have bb := b s1 us I1.kIn (by simpa using hl)
  refine wpAny_call (codeAny_mono (F.run X.A X.stack s1 H1 ⟨us, []⟩ us vs Q (a, oe) cls d hz hf (hr.mono hk) ok I1.env0 (by simpa using bb) r q) ?_)
  intro res s' z
  cases res with
  | error _ => exact z.elim
  | ok fl => cases fl with
    | ret u => exact I1.after z
    | next => exact z.elim
    | brk => exact z.elim
    | cont => exact z.elim
end Ln
set_option Elab.async false
set_option linter.all false
set_option maxRecDepth 100000
set_option maxHeartbeats 4000000
namespace Mine
open PySem PySem.Spec PyProof.Rows L2 Ln
def topS (i : Nat) : Stmt := PySem.Challenge.pw_interline_k07_errors.main.body.getD i (.Pass ⟨0, 0, 0, 0⟩)
abbrev s_law_value : Stmt := topS 11
abbrev N_law_value : List Str := ["script", "place", "rows", "cell"]
theorem sc_law_value : FnScope N_law_value ["script", "place"] (defScope s_law_value) := ⟨rfl, rfl, rfl, by decide +kernel, rfl, by decide +kernel, by decide +kernel⟩
-- slots: 0 script, 1 place, 2 rows, 3 cell
abbrev s_law_kinds : Stmt := topS 12
abbrev N_law_kinds : List Str := ["error"]
theorem sc_law_kinds : FnScope N_law_kinds ["error"] (defScope s_law_kinds) := ⟨rfl, rfl, rfl, by decide +kernel, rfl, by decide +kernel, by decide +kernel⟩
-- slots: 0 error
abbrev s_law_raise : Stmt := topS 13
abbrev N_law_raise : List Str := ["k", "one", "other"]
theorem sc_law_raise : FnScope N_law_raise ["k", "one", "other"] (defScope s_law_raise) := ⟨rfl, rfl, rfl, by decide +kernel, rfl, by decide +kernel, by decide +kernel⟩
-- slots: 0 k, 1 one, 2 other
abbrev s_law_caught : Stmt := topS 14
abbrev N_law_caught : List Str := ["k", "one", "other", "e"]
theorem sc_law_caught : FnScope N_law_caught ["k", "one", "other"] (defScope s_law_caught) := ⟨rfl, rfl, rfl, by decide +kernel, rfl, by decide +kernel, by decide +kernel⟩
-- slots: 0 k, 1 one, 2 other, 3 e
abbrev s_law_fields : Stmt := topS 15
abbrev N_law_fields : List Str := ["k", "one", "other", "e"]
theorem sc_law_fields : FnScope N_law_fields ["k", "one", "other"] (defScope s_law_fields) := ⟨rfl, rfl, rfl, by decide +kernel, rfl, by decide +kernel, by decide +kernel⟩
-- slots: 0 k, 1 one, 2 other, 3 e
abbrev s_law : Stmt := topS 16
abbrev N_law : List Str := ["script", "k", "one", "other", "j", "due"]
theorem sc_law : FnScope N_law ["script"] (defScope s_law) := ⟨rfl, rfl, rfl, by decide +kernel, rfl, by decide +kernel, by decide +kernel⟩
-- slots: 0 script, 1 k*, 2 one, 3 other, 4 j, 5 due
abbrev s_ArgumentErrorD_initD : Stmt := inClass (topS 2) 0
abbrev N_ArgumentErrorD_initD : List Str := ["self", "reason"]
theorem sc_ArgumentErrorD_initD : FnScope N_ArgumentErrorD_initD ["self", "reason"] (defScope s_ArgumentErrorD_initD) := ⟨rfl, rfl, rfl, by decide +kernel, rfl, by decide +kernel, by decide +kernel⟩
-- slots: 0 self, 1 reason
abbrev s_PaperErrorD_initD : Stmt := inClass (topS 3) 0
abbrev N_PaperErrorD_initD : List Str := ["self", "reason"]
theorem sc_PaperErrorD_initD : FnScope N_PaperErrorD_initD ["self", "reason"] (defScope s_PaperErrorD_initD) := ⟨rfl, rfl, rfl, by decide +kernel, rfl, by decide +kernel, by decide +kernel⟩
-- slots: 0 self, 1 reason
abbrev s_SaleErrorD_initD : Stmt := inClass (topS 4) 0
abbrev N_SaleErrorD_initD : List Str := ["self", "reason"]
theorem sc_SaleErrorD_initD : FnScope N_SaleErrorD_initD ["self", "reason"] (defScope s_SaleErrorD_initD) := ⟨rfl, rfl, rfl, by decide +kernel, rfl, by decide +kernel, by decide +kernel⟩
-- slots: 0 self, 1 reason
abbrev s_TooManyD_initD : Stmt := inClass (topS 5) 0
abbrev N_TooManyD_initD : List Str := ["self", "reason"]
theorem sc_TooManyD_initD : FnScope N_TooManyD_initD ["self", "reason"] (defScope s_TooManyD_initD) := ⟨rfl, rfl, rfl, by decide +kernel, rfl, by decide +kernel, by decide +kernel⟩
-- slots: 0 self, 1 reason
abbrev s_TextErrorD_initD : Stmt := inClass (topS 6) 0
abbrev N_TextErrorD_initD : List Str := ["self", "at"]
theorem sc_TextErrorD_initD : FnScope N_TextErrorD_initD ["self", "at"] (defScope s_TextErrorD_initD) := ⟨rfl, rfl, rfl, by decide +kernel, rfl, by decide +kernel, by decide +kernel⟩
-- slots: 0 self, 1 at
abbrev s_NetErrorD_initD : Stmt := inClass (topS 7) 0
abbrev N_NetErrorD_initD : List Str := ["self", "path", "reason"]
theorem sc_NetErrorD_initD : FnScope N_NetErrorD_initD ["self", "path", "reason"] (defScope s_NetErrorD_initD) := ⟨rfl, rfl, rfl, by decide +kernel, rfl, by decide +kernel, by decide +kernel⟩
-- slots: 0 self, 1 path, 2 reason
abbrev s_LogErrorD_initD : Stmt := inClass (topS 8) 0
abbrev N_LogErrorD_initD : List Str := ["self", "number", "reason"]
theorem sc_LogErrorD_initD : FnScope N_LogErrorD_initD ["self", "number", "reason"] (defScope s_LogErrorD_initD) := ⟨rfl, rfl, rfl, by decide +kernel, rfl, by decide +kernel, by decide +kernel⟩
-- slots: 0 self, 1 number, 2 reason
abbrev s_CommandErrorD_initD : Stmt := inClass (topS 9) 0
abbrev N_CommandErrorD_initD : List Str := ["self", "line"]
theorem sc_CommandErrorD_initD : FnScope N_CommandErrorD_initD ["self", "line"] (defScope s_CommandErrorD_initD) := ⟨rfl, rfl, rfl, by decide +kernel, rfl, by decide +kernel, by decide +kernel⟩
-- slots: 0 self, 1 line
structure Txt (K : PySem.W.Frag) (mg : Str → Option Value) (B : Addr) (Cl fI : Nat → Addr) : Prop where
  z_len : mg "len" = none
  z_abs : mg "abs" = none
  z_int : mg "int" = none
  z_range : mg "range" = none
  z_isinstance : mg "isinstance" = none
  z_repr : mg "repr" = none
  z_ValueError : mg "ValueError" = none
  m_InterlineError : mg "InterlineError" = some (.ref B)
  eB : PySem.W.subIn K (.ref B) (.type "BaseException") = some true
  hB : PySem.W.hasDictIn K B = true
  tB : PySem.W.typeIn K (.ref B) = some (.type "type")
  exc : ∀ i, i < 8 → ExcC K (Cl i)
  typ : ∀ i, i < 8 → PySem.W.typeIn K (.ref (Cl i)) = some (.type "type")
  sub : ∀ i j, i < 8 → j < 8 → PySem.W.subIn K (.ref (Cl i)) (.ref (Cl j)) = some (decide (i = j))
  subB : ∀ i, i < 8 → PySem.W.subIn K (.ref (Cl i)) (.ref B) = some true
  subV : ∀ i, i < 8 → PySem.W.subIn K (.ref (Cl i)) (.type "ValueError") = some true
  m_ArgumentError : mg "ArgumentError" = some (.ref (Cl 0))
  o_ArgumentError : OexC K (Cl 0)
  x_ArgumentError : XfC K (Cl 0)
  i_ArgumentError : PySem.W.findIn K (.ref (Cl 0)) "__init__" = some (some (.ref (fI 0)))
  t_ArgumentError : PySem.W.typeIn K (.ref (fI 0)) = some (.type "function")
  n_ArgumentError_reason : PySem.W.findIn K (.ref (Cl 0)) "reason" = some none
  m_PaperError : mg "PaperError" = some (.ref (Cl 1))
  o_PaperError : OexC K (Cl 1)
  x_PaperError : XfC K (Cl 1)
  i_PaperError : PySem.W.findIn K (.ref (Cl 1)) "__init__" = some (some (.ref (fI 1)))
  t_PaperError : PySem.W.typeIn K (.ref (fI 1)) = some (.type "function")
  n_PaperError_reason : PySem.W.findIn K (.ref (Cl 1)) "reason" = some none
  m_SaleError : mg "SaleError" = some (.ref (Cl 2))
  o_SaleError : OexC K (Cl 2)
  x_SaleError : XfC K (Cl 2)
  i_SaleError : PySem.W.findIn K (.ref (Cl 2)) "__init__" = some (some (.ref (fI 2)))
  t_SaleError : PySem.W.typeIn K (.ref (fI 2)) = some (.type "function")
  n_SaleError_reason : PySem.W.findIn K (.ref (Cl 2)) "reason" = some none
  m_TooMany : mg "TooMany" = some (.ref (Cl 3))
  o_TooMany : OexC K (Cl 3)
  x_TooMany : XfC K (Cl 3)
  i_TooMany : PySem.W.findIn K (.ref (Cl 3)) "__init__" = some (some (.ref (fI 3)))
  t_TooMany : PySem.W.typeIn K (.ref (fI 3)) = some (.type "function")
  n_TooMany_reason : PySem.W.findIn K (.ref (Cl 3)) "reason" = some none
  m_TextError : mg "TextError" = some (.ref (Cl 4))
  o_TextError : OexC K (Cl 4)
  x_TextError : XfC K (Cl 4)
  i_TextError : PySem.W.findIn K (.ref (Cl 4)) "__init__" = some (some (.ref (fI 4)))
  t_TextError : PySem.W.typeIn K (.ref (fI 4)) = some (.type "function")
  n_TextError_at : PySem.W.findIn K (.ref (Cl 4)) "at" = some none
  m_NetError : mg "NetError" = some (.ref (Cl 5))
  o_NetError : OexC K (Cl 5)
  x_NetError : XfC K (Cl 5)
  i_NetError : PySem.W.findIn K (.ref (Cl 5)) "__init__" = some (some (.ref (fI 5)))
  t_NetError : PySem.W.typeIn K (.ref (fI 5)) = some (.type "function")
  n_NetError_path : PySem.W.findIn K (.ref (Cl 5)) "path" = some none
  n_NetError_reason : PySem.W.findIn K (.ref (Cl 5)) "reason" = some none
  m_LogError : mg "LogError" = some (.ref (Cl 6))
  o_LogError : OexC K (Cl 6)
  x_LogError : XfC K (Cl 6)
  i_LogError : PySem.W.findIn K (.ref (Cl 6)) "__init__" = some (some (.ref (fI 6)))
  t_LogError : PySem.W.typeIn K (.ref (fI 6)) = some (.type "function")
  n_LogError_number : PySem.W.findIn K (.ref (Cl 6)) "number" = some none
  n_LogError_reason : PySem.W.findIn K (.ref (Cl 6)) "reason" = some none
  m_CommandError : mg "CommandError" = some (.ref (Cl 7))
  o_CommandError : OexC K (Cl 7)
  x_CommandError : XfC K (Cl 7)
  i_CommandError : PySem.W.findIn K (.ref (Cl 7)) "__init__" = some (some (.ref (fI 7)))
  t_CommandError : PySem.W.typeIn K (.ref (fI 7)) = some (.type "function")
  n_CommandError_line : PySem.W.findIn K (.ref (Cl 7)) "line" = some none
section
variable {P : Program} {w : World} {K : PySem.W.Frag} {mg : Str → Option Value} {base : Heap} {B : Addr} {Cl fI : Nat → Addr}
theorem Txt.exm (T : Txt K mg B Cl fI) {i j : Nat} (hi : i < 8) (hj : j < 8) : PySem.W.exmOne K (.ref (Cl i)) (.ref (Cl j)) = some (decide (i = j)) :=
  PySem.W.exm_ref (T.exc j hj).hs (T.exc j hj).hd (T.typ j hj) (T.sub i j hi hj)
theorem Txt.exmB (T : Txt K mg B Cl fI) {i : Nat} (hi : i < 8) : PySem.W.exmOne K (.ref (Cl i)) (.ref B) = some true := PySem.W.exm_ref T.eB T.hB T.tB (T.subB i hi)
theorem Txt.kit (T : Txt K mg B Cl fI) {i j : Nat} (hi : i < 8) (hj : j < 8) : PySem.W.kitOne K (.ref (Cl i)) (.ref (Cl j)) = some (decide (i = j)) := by
  unfold PySem.W.kitOne
  by_cases e : (Value.ref (Cl i) == Value.ref (Cl j)) = true
  · rw [if_pos e]
    have e2 : Cl i = Cl j := Value.ref.inj (beq_iff_eq.mp e)
    have a := T.sub i j hi hj
    rw [e2, T.sub j j hj hj, decide_eq_true rfl] at a
    exact a
  · rw [if_neg e]
    obtain ⟨cd, hc, _⟩ := PySem.W.any_some (T.exc j hj).hd
    unfold PySem.W.kitCls
    have q : ((PySem.W.clsIn K (Cl j)).isSome && PySem.W.typeIn K (.ref (Cl j)) == some (.type "type")) = true := by
      rw [hc, T.typ j hj] <;> rfl
    show (if ((PySem.W.clsIn K (Cl j)).isSome && PySem.W.typeIn K (.ref (Cl j)) == some (.type "type")) = true then PySem.W.subIn K (.ref (Cl i)) (.ref (Cl j)) else none) = _
    rw [if_pos q]
    exact T.sub i j hi hj
theorem Txt.kitV (T : Txt K mg B Cl fI) {i : Nat} (hi : i < 8) : PySem.W.kitOne K (.ref (Cl i)) (.type "ValueError") = some true := by
  unfold PySem.W.kitOne
  rw [if_neg (by simp)]
  show (if PySem.W.kitMeta "ValueError" = true then PySem.W.subIn K (.ref (Cl i)) (.type "ValueError") else none) = _
  rw [if_pos (by decide +kernel)]
  exact T.subV i hi
/-! ## the errors are made -/
def sp1 (C : Addr) (f : Str) : Sp := fun vs H Q _ => ∃ (a : Addr) (v : V), vs = [.ref a, v] ∧ H a = some (exo a C none) ∧ ∀ dx, H dx = none → dx ≠ a → Q .non (upd (upd H dx (exd dx [(f, v)])) a (exo a C (some dx)))
def sp2 (C : Addr) (f g : Str) : Sp := fun vs H Q _ => ∃ (a : Addr) (v u : V), vs = [.ref a, v, u] ∧ H a = some (exo a C none) ∧ ∀ dx, H dx = none → dx ≠ a → Q .non (upd (upd (upd H dx (exd dx [(f, v)])) a (exo a C (some dx))) dx (exd dx [(g, u), (f, v)]))
theorem in_ArgumentError {f : Addr} {fd : FuncData} (F : Fun K "__init__" "ArgumentError.__init__" s_ArgumentErrorD_initD f fd) (T : Txt K mg B Cl fI) : FnOk P w K mg base CX0 1 f fd ["self", "reason"] (sp1 (Cl 0) "reason") := by
  refine F.ok sc_ArgumentErrorD_initD (fun vs H Q E h => ?_) (fun cdv A outer s H vs Q E hr h => ?_)
  · obtain ⟨a, v, rfl, _⟩ := h
    rfl
  · obtain ⟨a, v, rfl, ha, q⟩ := h
    exact ⟨_, (pss_one (ps_ost (pv 0) (pv 1))), v, rfl, .ref a, rfl, a, Cl 0, rfl, T.o_ArgumentError, T.n_ArgumentError_reason, .inl ⟨ha, fun dx n1 n2 => q dx n1 n2⟩⟩
theorem in_PaperError {f : Addr} {fd : FuncData} (F : Fun K "__init__" "PaperError.__init__" s_PaperErrorD_initD f fd) (T : Txt K mg B Cl fI) : FnOk P w K mg base CX0 1 f fd ["self", "reason"] (sp1 (Cl 1) "reason") := by
  refine F.ok sc_PaperErrorD_initD (fun vs H Q E h => ?_) (fun cdv A outer s H vs Q E hr h => ?_)
  · obtain ⟨a, v, rfl, _⟩ := h
    rfl
  · obtain ⟨a, v, rfl, ha, q⟩ := h
    exact ⟨_, (pss_one (ps_ost (pv 0) (pv 1))), v, rfl, .ref a, rfl, a, Cl 1, rfl, T.o_PaperError, T.n_PaperError_reason, .inl ⟨ha, fun dx n1 n2 => q dx n1 n2⟩⟩
theorem in_SaleError {f : Addr} {fd : FuncData} (F : Fun K "__init__" "SaleError.__init__" s_SaleErrorD_initD f fd) (T : Txt K mg B Cl fI) : FnOk P w K mg base CX0 1 f fd ["self", "reason"] (sp1 (Cl 2) "reason") := by
  refine F.ok sc_SaleErrorD_initD (fun vs H Q E h => ?_) (fun cdv A outer s H vs Q E hr h => ?_)
  · obtain ⟨a, v, rfl, _⟩ := h
    rfl
  · obtain ⟨a, v, rfl, ha, q⟩ := h
    exact ⟨_, (pss_one (ps_ost (pv 0) (pv 1))), v, rfl, .ref a, rfl, a, Cl 2, rfl, T.o_SaleError, T.n_SaleError_reason, .inl ⟨ha, fun dx n1 n2 => q dx n1 n2⟩⟩
theorem in_TooMany {f : Addr} {fd : FuncData} (F : Fun K "__init__" "TooMany.__init__" s_TooManyD_initD f fd) (T : Txt K mg B Cl fI) : FnOk P w K mg base CX0 1 f fd ["self", "reason"] (sp1 (Cl 3) "reason") := by
  refine F.ok sc_TooManyD_initD (fun vs H Q E h => ?_) (fun cdv A outer s H vs Q E hr h => ?_)
  · obtain ⟨a, v, rfl, _⟩ := h
    rfl
  · obtain ⟨a, v, rfl, ha, q⟩ := h
    exact ⟨_, (pss_one (ps_ost (pv 0) (pv 1))), v, rfl, .ref a, rfl, a, Cl 3, rfl, T.o_TooMany, T.n_TooMany_reason, .inl ⟨ha, fun dx n1 n2 => q dx n1 n2⟩⟩
theorem in_TextError {f : Addr} {fd : FuncData} (F : Fun K "__init__" "TextError.__init__" s_TextErrorD_initD f fd) (T : Txt K mg B Cl fI) : FnOk P w K mg base CX0 1 f fd ["self", "at"] (sp1 (Cl 4) "at") := by
  refine F.ok sc_TextErrorD_initD (fun vs H Q E h => ?_) (fun cdv A outer s H vs Q E hr h => ?_)
  · obtain ⟨a, v, rfl, _⟩ := h
    rfl
  · obtain ⟨a, v, rfl, ha, q⟩ := h
    exact ⟨_, (pss_one (ps_ost (pv 0) (pv 1))), v, rfl, .ref a, rfl, a, Cl 4, rfl, T.o_TextError, T.n_TextError_at, .inl ⟨ha, fun dx n1 n2 => q dx n1 n2⟩⟩
theorem in_NetError {f : Addr} {fd : FuncData} (F : Fun K "__init__" "NetError.__init__" s_NetErrorD_initD f fd) (T : Txt K mg B Cl fI) : FnOk P w K mg base CX0 1 f fd ["self", "path", "reason"] (sp2 (Cl 5) "path" "reason") := by
  refine F.ok sc_NetErrorD_initD (fun vs H Q E h => ?_) (fun cdv A outer s H vs Q E hr h => ?_)
  · obtain ⟨a, v, u, rfl, _⟩ := h
    rfl
  · obtain ⟨a, v, u, rfl, ha, q⟩ := h
    refine ⟨_, (pss_cons (ps_ost (pv 0) (pv 1))
    (pss_one (ps_ost (pv 0) (pv 2)))), v, rfl, .ref a, rfl, a, Cl 5, rfl, T.o_NetError, T.n_NetError_path, .inl ⟨ha, fun dx n1 n2 => ?_⟩⟩
    exact ⟨u, rfl, .ref a, rfl, a, Cl 5, rfl, T.o_NetError, T.n_NetError_reason, .inr ⟨dx, _, upd_same, by rw [upd_ne n2]; exact upd_same, by show 1 ≤ 900; decide, q dx n1 n2⟩⟩
theorem in_LogError {f : Addr} {fd : FuncData} (F : Fun K "__init__" "LogError.__init__" s_LogErrorD_initD f fd) (T : Txt K mg B Cl fI) : FnOk P w K mg base CX0 1 f fd ["self", "number", "reason"] (sp2 (Cl 6) "number" "reason") := by
  refine F.ok sc_LogErrorD_initD (fun vs H Q E h => ?_) (fun cdv A outer s H vs Q E hr h => ?_)
  · obtain ⟨a, v, u, rfl, _⟩ := h
    rfl
  · obtain ⟨a, v, u, rfl, ha, q⟩ := h
    refine ⟨_, (pss_cons (ps_ost (pv 0) (pv 1))
    (pss_one (ps_ost (pv 0) (pv 2)))), v, rfl, .ref a, rfl, a, Cl 6, rfl, T.o_LogError, T.n_LogError_number, .inl ⟨ha, fun dx n1 n2 => ?_⟩⟩
    exact ⟨u, rfl, .ref a, rfl, a, Cl 6, rfl, T.o_LogError, T.n_LogError_reason, .inr ⟨dx, _, upd_same, by rw [upd_ne n2]; exact upd_same, by show 1 ≤ 900; decide, q dx n1 n2⟩⟩
theorem in_CommandError {f : Addr} {fd : FuncData} (F : Fun K "__init__" "CommandError.__init__" s_CommandErrorD_initD f fd) (T : Txt K mg B Cl fI) : FnOk P w K mg base CX0 1 f fd ["self", "line"] (sp1 (Cl 7) "line") := by
  refine F.ok sc_CommandErrorD_initD (fun vs H Q E h => ?_) (fun cdv A outer s H vs Q E hr h => ?_)
  · obtain ⟨a, v, rfl, _⟩ := h
    rfl
  · obtain ⟨a, v, rfl, ha, q⟩ := h
    exact ⟨_, (pss_one (ps_ost (pv 0) (pv 1))), v, rfl, .ref a, rfl, a, Cl 7, rfl, T.o_CommandError, T.n_CommandError_line, .inl ⟨ha, fun dx n1 n2 => q dx n1 n2⟩⟩
def fld (j : Nat) (x y : V) : List (Str × V) := match j with
  | 4 => [("at", x)]
  | 5 => [("reason", y), ("path", x)]
  | 6 => [("reason", y), ("number", x)]
  | 7 => [("line", x)]
  | _ => [("reason", x)]
def Rz (C : Addr) (fs : List (Str × V)) (H : Hp) (E : XK) : Prop := ∀ d H', Same H H' → H d = none → H' d = some (.xd fs) → E (.ref C) (some d) H'
def spRaise (Cl : Nat → Addr) : Sp := fun vs H Q E => ∃ (k : Nat) (x y : V), vs = [.int k, x, y] ∧ k < 8 ∧ Rz (Cl k) (fld k x y) H E
/-- behind the making of an error with one field -/
theorem made1 {H : Hp} {a dx : Addr} {C : Addr} {f : Str} {v : V} {E : XK} (na : H a = none) (n1 : (upd H a (exo a C none)) dx = none) (n2 : dx ≠ a) (h : Rz C [(f, v)] H E) :
    ∃ (d : Addr) (fs : List (Str × V)), (upd (upd (upd H a (exo a C none)) dx (exd dx [(f, v)])) a (exo a C (some dx))) a = some (exo a C (some d)) ∧ (upd (upd (upd H a (exo a C none)) dx (exd dx [(f, v)])) a (exo a C (some dx))) d = some (exd d fs) ∧ H d = none ∧
      E (.ref C) (some d) (upd (del (upd (upd (upd H a (exo a C none)) dx (exd dx [(f, v)])) a (exo a C (some dx))) a) d (.xd fs)) := by
  have nd : H dx = none := by rw [upd_ne n2] at n1; exact n1
  refine ⟨dx, [(f, v)], upd_same, ?_, nd, ?_⟩
  · rw [upd_ne n2]
    exact upd_same
  · refine h dx _ ?_ nd upd_same
    intro b o e
    have b1 : b ≠ dx := ne_of_none e nd
    have b2 : b ≠ a := ne_of_none e na
    rw [upd_ne b1, del_ne b2, upd_ne b2, upd_ne b1, upd_ne b2]
    exact e
theorem made2 {H : Hp} {a dx : Addr} {C : Addr} {f g : Str} {v u : V} {E : XK} (na : H a = none) (n1 : (upd H a (exo a C none)) dx = none) (n2 : dx ≠ a) (h : Rz C [(g, u), (f, v)] H E) :
    ∃ (d : Addr) (fs : List (Str × V)), (upd (upd (upd (upd H a (exo a C none)) dx (exd dx [(f, v)])) a (exo a C (some dx))) dx (exd dx [(g, u), (f, v)])) a = some (exo a C (some d)) ∧
      (upd (upd (upd (upd H a (exo a C none)) dx (exd dx [(f, v)])) a (exo a C (some dx))) dx (exd dx [(g, u), (f, v)])) d = some (exd d fs) ∧ H d = none ∧
      E (.ref C) (some d) (upd (del (upd (upd (upd (upd H a (exo a C none)) dx (exd dx [(f, v)])) a (exo a C (some dx))) dx (exd dx [(g, u), (f, v)])) a) d (.xd fs)) := by
  have nd : H dx = none := by rw [upd_ne n2] at n1; exact n1
  refine ⟨dx, [(g, u), (f, v)], ?_, upd_same, nd, ?_⟩
  · rw [upd_ne n2.symm]
    exact upd_same
  · refine h dx _ ?_ nd upd_same
    intro b o e
    have b1 : b ≠ dx := ne_of_none e nd
    have b2 : b ≠ a := ne_of_none e na
    rw [upd_ne b1, del_ne b2, upd_ne b1, upd_ne b2, upd_ne b1, upd_ne b2]
    exact e
theorem ok_raise {f : Addr} {fd : FuncData} (F : Fun K "_law_raise" "_law_raise" s_law_raise f fd) (T : Txt K mg B Cl fI) {f0 f1 f2 f3 f4 f5 f6 f7 : FuncData}
    (fi_ArgumentError : FnOk P w K mg base CX0 1 (fI 0) f0 ["self", "reason"] (sp1 (Cl 0) "reason")) (fb_ArgumentError : Binds K f0 ["self", "reason"] [])
    (fi_PaperError : FnOk P w K mg base CX0 1 (fI 1) f1 ["self", "reason"] (sp1 (Cl 1) "reason")) (fb_PaperError : Binds K f1 ["self", "reason"] [])
    (fi_SaleError : FnOk P w K mg base CX0 1 (fI 2) f2 ["self", "reason"] (sp1 (Cl 2) "reason")) (fb_SaleError : Binds K f2 ["self", "reason"] [])
    (fi_TooMany : FnOk P w K mg base CX0 1 (fI 3) f3 ["self", "reason"] (sp1 (Cl 3) "reason")) (fb_TooMany : Binds K f3 ["self", "reason"] [])
    (fi_TextError : FnOk P w K mg base CX0 1 (fI 4) f4 ["self", "at"] (sp1 (Cl 4) "at")) (fb_TextError : Binds K f4 ["self", "at"] [])
    (fi_NetError : FnOk P w K mg base CX0 1 (fI 5) f5 ["self", "path", "reason"] (sp2 (Cl 5) "path" "reason")) (fb_NetError : Binds K f5 ["self", "path", "reason"] [])
    (fi_LogError : FnOk P w K mg base CX0 1 (fI 6) f6 ["self", "number", "reason"] (sp2 (Cl 6) "number" "reason")) (fb_LogError : Binds K f6 ["self", "number", "reason"] [])
    (fi_CommandError : FnOk P w K mg base CX0 1 (fI 7) f7 ["self", "line"] (sp1 (Cl 7) "line")) (fb_CommandError : Binds K f7 ["self", "line"] [])
    : FnG P w K mg base (L2.CX P w) 3 f fd ["k", "one", "other"] (spRaise Cl) := by
  refine okX F sc_law_raise (fun vs H Q E h => ?_) (fun cdv A outer s H vs Q E hG hr h => ?_)
  · obtain ⟨k, x, y, rfl, _⟩ := h
    rfl
  · obtain ⟨k, x, y, rfl, hk, h⟩ := h
    have tk0 : Takes (cxOf (L2.CX P w) P w K mg base N_law_raise "_law_raise" (defScope s_law_raise) f cdv A outer s H E) (fun cls d _ H => E cls d H) := takes_of rfl rfl rfl rfl
    refine ⟨_, (pss_cons (ps_if (pt_cmpR op_eq (pv 0) pe_int (nomark _))
    (pss_one (ps_raise rfl tk0 (pmk_oex T.o_ArgumentError T.i_ArgumentError T.t_ArgumentError fi_ArgumentError (hr.mono (by decide)) fb_ArgumentError .nil pass0 (by rfl) T.m_ArgumentError (pa_cons (pv 1) pa_nil))))
    pss_nil)
    (pss_cons (ps_if (pt_cmpR op_eq (pv 0) pe_int (nomark _))
    (pss_one (ps_raise rfl tk0 (pmk_oex T.o_PaperError T.i_PaperError T.t_PaperError fi_PaperError (hr.mono (by decide)) fb_PaperError .nil pass0 (by rfl) T.m_PaperError (pa_cons (pv 1) pa_nil))))
    pss_nil)
    (pss_cons (ps_if (pt_cmpR op_eq (pv 0) pe_int (nomark _))
    (pss_one (ps_raise rfl tk0 (pmk_oex T.o_SaleError T.i_SaleError T.t_SaleError fi_SaleError (hr.mono (by decide)) fb_SaleError .nil pass0 (by rfl) T.m_SaleError (pa_cons (pv 1) pa_nil))))
    pss_nil)
    (pss_cons (ps_if (pt_cmpR op_eq (pv 0) pe_int (nomark _))
    (pss_one (ps_raise rfl tk0 (pmk_oex T.o_TooMany T.i_TooMany T.t_TooMany fi_TooMany (hr.mono (by decide)) fb_TooMany .nil pass0 (by rfl) T.m_TooMany (pa_cons (pv 1) pa_nil))))
    pss_nil)
    (pss_cons (ps_if (pt_cmpR op_eq (pv 0) pe_int (nomark _))
    (pss_one (ps_raise rfl tk0 (pmk_oex T.o_TextError T.i_TextError T.t_TextError fi_TextError (hr.mono (by decide)) fb_TextError .nil pass0 (by rfl) T.m_TextError (pa_cons (pv 1) pa_nil))))
    pss_nil)
    (pss_cons (ps_if (pt_cmpR op_eq (pv 0) pe_int (nomark _))
    (pss_one (ps_raise rfl tk0 (pmk_oex T.o_NetError T.i_NetError T.t_NetError fi_NetError (hr.mono (by decide)) fb_NetError .nil pass0 (by rfl) T.m_NetError (pa_cons (pv 1) (pa_cons (pv 2) pa_nil)))))
    pss_nil)
    (pss_cons (ps_if (pt_cmpR op_eq (pv 0) pe_int (nomark _))
    (pss_one (ps_raise rfl tk0 (pmk_oex T.o_LogError T.i_LogError T.t_LogError fi_LogError (hr.mono (by decide)) fb_LogError .nil pass0 (by rfl) T.m_LogError (pa_cons (pv 1) (pa_cons (pv 2) pa_nil)))))
    pss_nil)
    (pss_one (ps_raise rfl tk0 (pmk_oex T.o_CommandError T.i_CommandError T.t_CommandError fi_CommandError (hr.mono (by decide)) fb_CommandError .nil pass0 (by rfl) T.m_CommandError (pa_cons (pv 1) pa_nil))))))))))), ?_⟩
    match k, hk, h with
    | 0, _, h =>
      refine ⟨_, rfl, rfl, _, rfl, ?_⟩
      rw [decide_eq_true (show V.int ((0 : Nat) : Int) = V.int 0 by decide)]
      refine iteT ?_
      exact ⟨x, rfl, by show 1 ≤ 1000; decide, fun a na => ⟨a, _, rfl, upd_same, fun dx n1 n2 => ⟨rfl, made1 na n1 n2 h⟩⟩⟩
    | 1, _, h =>
      refine ⟨_, rfl, rfl, _, rfl, ?_⟩
      rw [decide_eq_false (show ¬ (V.int ((1 : Nat) : Int) = V.int 0) by decide)]
      refine iteF ?_
      refine ⟨_, rfl, rfl, _, rfl, ?_⟩
      rw [decide_eq_true (show V.int ((1 : Nat) : Int) = V.int 1 by decide)]
      refine iteT ?_
      exact ⟨x, rfl, by show 1 ≤ 1000; decide, fun a na => ⟨a, _, rfl, upd_same, fun dx n1 n2 => ⟨rfl, made1 na n1 n2 h⟩⟩⟩
    | 2, _, h =>
      refine ⟨_, rfl, rfl, _, rfl, ?_⟩
      rw [decide_eq_false (show ¬ (V.int ((2 : Nat) : Int) = V.int 0) by decide)]
      refine iteF ?_
      refine ⟨_, rfl, rfl, _, rfl, ?_⟩
      rw [decide_eq_false (show ¬ (V.int ((2 : Nat) : Int) = V.int 1) by decide)]
      refine iteF ?_
      refine ⟨_, rfl, rfl, _, rfl, ?_⟩
      rw [decide_eq_true (show V.int ((2 : Nat) : Int) = V.int 2 by decide)]
      refine iteT ?_
      exact ⟨x, rfl, by show 1 ≤ 1000; decide, fun a na => ⟨a, _, rfl, upd_same, fun dx n1 n2 => ⟨rfl, made1 na n1 n2 h⟩⟩⟩
    | 3, _, h =>
      refine ⟨_, rfl, rfl, _, rfl, ?_⟩
      rw [decide_eq_false (show ¬ (V.int ((3 : Nat) : Int) = V.int 0) by decide)]
      refine iteF ?_
      refine ⟨_, rfl, rfl, _, rfl, ?_⟩
      rw [decide_eq_false (show ¬ (V.int ((3 : Nat) : Int) = V.int 1) by decide)]
      refine iteF ?_
      refine ⟨_, rfl, rfl, _, rfl, ?_⟩
      rw [decide_eq_false (show ¬ (V.int ((3 : Nat) : Int) = V.int 2) by decide)]
      refine iteF ?_
      refine ⟨_, rfl, rfl, _, rfl, ?_⟩
      rw [decide_eq_true (show V.int ((3 : Nat) : Int) = V.int 3 by decide)]
      refine iteT ?_
      exact ⟨x, rfl, by show 1 ≤ 1000; decide, fun a na => ⟨a, _, rfl, upd_same, fun dx n1 n2 => ⟨rfl, made1 na n1 n2 h⟩⟩⟩
    | 4, _, h =>
      refine ⟨_, rfl, rfl, _, rfl, ?_⟩
      rw [decide_eq_false (show ¬ (V.int ((4 : Nat) : Int) = V.int 0) by decide)]
      refine iteF ?_
      refine ⟨_, rfl, rfl, _, rfl, ?_⟩
      rw [decide_eq_false (show ¬ (V.int ((4 : Nat) : Int) = V.int 1) by decide)]
      refine iteF ?_
      refine ⟨_, rfl, rfl, _, rfl, ?_⟩
      rw [decide_eq_false (show ¬ (V.int ((4 : Nat) : Int) = V.int 2) by decide)]
      refine iteF ?_
      refine ⟨_, rfl, rfl, _, rfl, ?_⟩
      rw [decide_eq_false (show ¬ (V.int ((4 : Nat) : Int) = V.int 3) by decide)]
      refine iteF ?_
      refine ⟨_, rfl, rfl, _, rfl, ?_⟩
      rw [decide_eq_true (show V.int ((4 : Nat) : Int) = V.int 4 by decide)]
      refine iteT ?_
      exact ⟨x, rfl, by show 1 ≤ 1000; decide, fun a na => ⟨a, _, rfl, upd_same, fun dx n1 n2 => ⟨rfl, made1 na n1 n2 h⟩⟩⟩
    | 5, _, h =>
      refine ⟨_, rfl, rfl, _, rfl, ?_⟩
      rw [decide_eq_false (show ¬ (V.int ((5 : Nat) : Int) = V.int 0) by decide)]
      refine iteF ?_
      refine ⟨_, rfl, rfl, _, rfl, ?_⟩
      rw [decide_eq_false (show ¬ (V.int ((5 : Nat) : Int) = V.int 1) by decide)]
      refine iteF ?_
      refine ⟨_, rfl, rfl, _, rfl, ?_⟩
      rw [decide_eq_false (show ¬ (V.int ((5 : Nat) : Int) = V.int 2) by decide)]
      refine iteF ?_
      refine ⟨_, rfl, rfl, _, rfl, ?_⟩
      rw [decide_eq_false (show ¬ (V.int ((5 : Nat) : Int) = V.int 3) by decide)]
      refine iteF ?_
      refine ⟨_, rfl, rfl, _, rfl, ?_⟩
      rw [decide_eq_false (show ¬ (V.int ((5 : Nat) : Int) = V.int 4) by decide)]
      refine iteF ?_
      refine ⟨_, rfl, rfl, _, rfl, ?_⟩
      rw [decide_eq_true (show V.int ((5 : Nat) : Int) = V.int 5 by decide)]
      refine iteT ?_
      exact ⟨x, rfl, y, rfl, by show 2 ≤ 1000; decide, fun a na => ⟨a, _, _, rfl, upd_same, fun dx n1 n2 => ⟨rfl, made2 na n1 n2 h⟩⟩⟩
    | 6, _, h =>
      refine ⟨_, rfl, rfl, _, rfl, ?_⟩
      rw [decide_eq_false (show ¬ (V.int ((6 : Nat) : Int) = V.int 0) by decide)]
      refine iteF ?_
      refine ⟨_, rfl, rfl, _, rfl, ?_⟩
      rw [decide_eq_false (show ¬ (V.int ((6 : Nat) : Int) = V.int 1) by decide)]
      refine iteF ?_
      refine ⟨_, rfl, rfl, _, rfl, ?_⟩
      rw [decide_eq_false (show ¬ (V.int ((6 : Nat) : Int) = V.int 2) by decide)]
      refine iteF ?_
      refine ⟨_, rfl, rfl, _, rfl, ?_⟩
      rw [decide_eq_false (show ¬ (V.int ((6 : Nat) : Int) = V.int 3) by decide)]
      refine iteF ?_
      refine ⟨_, rfl, rfl, _, rfl, ?_⟩
      rw [decide_eq_false (show ¬ (V.int ((6 : Nat) : Int) = V.int 4) by decide)]
      refine iteF ?_
      refine ⟨_, rfl, rfl, _, rfl, ?_⟩
      rw [decide_eq_false (show ¬ (V.int ((6 : Nat) : Int) = V.int 5) by decide)]
      refine iteF ?_
      refine ⟨_, rfl, rfl, _, rfl, ?_⟩
      rw [decide_eq_true (show V.int ((6 : Nat) : Int) = V.int 6 by decide)]
      refine iteT ?_
      exact ⟨x, rfl, y, rfl, by show 2 ≤ 1000; decide, fun a na => ⟨a, _, _, rfl, upd_same, fun dx n1 n2 => ⟨rfl, made2 na n1 n2 h⟩⟩⟩
    | 7, _, h =>
      refine ⟨_, rfl, rfl, _, rfl, ?_⟩
      rw [decide_eq_false (show ¬ (V.int ((7 : Nat) : Int) = V.int 0) by decide)]
      refine iteF ?_
      refine ⟨_, rfl, rfl, _, rfl, ?_⟩
      rw [decide_eq_false (show ¬ (V.int ((7 : Nat) : Int) = V.int 1) by decide)]
      refine iteF ?_
      refine ⟨_, rfl, rfl, _, rfl, ?_⟩
      rw [decide_eq_false (show ¬ (V.int ((7 : Nat) : Int) = V.int 2) by decide)]
      refine iteF ?_
      refine ⟨_, rfl, rfl, _, rfl, ?_⟩
      rw [decide_eq_false (show ¬ (V.int ((7 : Nat) : Int) = V.int 3) by decide)]
      refine iteF ?_
      refine ⟨_, rfl, rfl, _, rfl, ?_⟩
      rw [decide_eq_false (show ¬ (V.int ((7 : Nat) : Int) = V.int 4) by decide)]
      refine iteF ?_
      refine ⟨_, rfl, rfl, _, rfl, ?_⟩
      rw [decide_eq_false (show ¬ (V.int ((7 : Nat) : Int) = V.int 5) by decide)]
      refine iteF ?_
      refine ⟨_, rfl, rfl, _, rfl, ?_⟩
      rw [decide_eq_false (show ¬ (V.int ((7 : Nat) : Int) = V.int 6) by decide)]
      refine iteF ?_
      exact ⟨x, rfl, by show 1 ≤ 1000; decide, fun a na => ⟨a, _, rfl, upd_same, fun dx n1 n2 => ⟨rfl, made1 na n1 n2 h⟩⟩⟩
end
end Mine
set_option Elab.async false
set_option linter.all false
set_option maxRecDepth 100000
set_option maxHeartbeats 4000000
namespace Mine
open PySem PySem.Spec PyProof.Rows L2 Ln L2H
section
variable {P : Program} {w : World} {K : PySem.W.Frag} {mg : Str → Option Value} {base : Heap} {B : Addr} {Cl fI : Nat → Addr}
/-! ## the values -/
def nine : List PyData := [.str "", .str "reason", .int 0, .int (-1), .int 17, .tuple [.int 3, .int 1], .tuple [], .tuple [.str "a", .int 5], .int (10 ^ 12)]
mutual
def noL : PyData → Bool
  | .list _ => false
  | .dict _ => false
  | .tuple ds => noLs ds
  | _ => true
def noLs : List PyData → Bool
  | [] => true
  | d :: ds => noL d && noLs ds
end
mutual
theorem Dp.same {H H' : Hp} (sm : Same H H') : ∀ (d : PyData) (v : V), noL d = true → Dp K H v d → Dp K H' v d
  | .none, _, _, h => by cases h; exact .non
  | .bool b, _, _, h => by cases h; exact .bl b
  | .int b, _, _, h => by cases h; exact .int b
  | .str b, _, _, h => by cases h; exact .str b
  | .list _, _, q, _ => by simp [noL] at q
  | .dict _, _, q, _ => by simp [noL] at q
  | .tuple ds, _, q, h => by
    cases h with
    | tup a b => exact .tup (Same.tup sm a) (Dp.sameAll sm ds _ (by simpa only [noL] using q) b)
theorem Dp.sameAll {H H' : Hp} (sm : Same H H') : ∀ (ds : List PyData) (vs : List V), noLs ds = true → DpAll K H vs ds → DpAll K H' vs ds
  | [], _, _, h => by cases h; exact .nil
  | d :: ds, _, q, h => by
    cases h with
    | cons a b =>
      have q' : (noL d && noLs ds) = true := by simpa only [noLs] using q
      obtain ⟨q1, q2⟩ := Bool.and_eq_true_iff.mp q'
      exact .cons (Dp.same sm d _ q1 a) (Dp.sameAll sm ds _ q2 b)
end
theorem nine_noL {d : PyData} (h : d ∈ nine) : noL d = true := by
  simp only [nine, List.mem_cons, List.not_mem_nil, or_false] at h
  rcases h with e | e | e | e | e | e | e | e | e <;> (rw [e]; simp [noL, noLs])
theorem nine_at {i : Int} (h0 : 0 ≤ i) (h1 : i < 9) : ∃ k : Nat, i = k ∧ k < 9 := ⟨i.toNat, by omega, by omega⟩
def spValue (K : PySem.W.Frag) : Sp := fun vs H Q _ => ∃ (a : Addr) (ns : List Int) (p : Int), vs = [.ref a, .int p] ∧ SqL K H a (ns.map V.int) ∧ ns.length ≤ 63 ∧ 0 ≤ p ∧ p ≤ 20 ∧ ∀ v d H', Same H H' → Dp K H' v d → d ∈ nine → Q v H'
theorem ok_value {f : Addr} {fd : FuncData} (F : Fun K "_law_value" "_law_value" s_law_value f fd) (T : Txt K mg B Cl fI) : FnG P w K mg base CX0 1 f fd ["script", "place"] (spValue K) := by
  refine okG F sc_law_value (fun vs H Q E h => ?_) (fun cdv A outer s H vs Q E hG hr h => ?_)
  · obtain ⟨a, ns, p, rfl, _⟩ := h
    rfl
  · obtain ⟨a, ns, p, rfl, hS, hl, hp, hp2, q⟩ := h
    refine ⟨_, (pss_cons (ps_set (i := 2) sc_law_value.nd rfl (.inl rfl) (pe_lst (pa_cons pe_str (pa_cons pe_str (pa_cons pe_int (pa_cons (pe_un un_neg pe_int) (pa_cons pe_int (pa_cons (pe_tup (pa_cons pe_int (pa_cons pe_int pa_nil))) (pa_cons (pe_tup pa_nil) (pa_cons (pe_tup (pa_cons pe_str (pa_cons pe_int pa_nil))) (pa_cons (pe_op op_pow pe_int pe_int) pa_nil)))))))))))
    (pss_cons (ps_set (i := 3) sc_law_value.nd rfl (.inl rfl) (pe_ifExp (pt_cmpR op_gt (pe_callB (r := Ln.rLen K) (id := "len") c_len (by rfl) T.z_len (by decide +kernel) (pa_cons (pv 0) pa_nil)) pe_int (nomark _)) (pe_ix (r := rIxL K) ix_list (pv 0) (pe_op op_mod (pe_callTy (T := "int") call_int1 (by rfl) T.z_int (by decide +kernel) (pa_cons (pv 1) pa_nil)) (pe_callB (r := Ln.rLen K) (id := "len") c_len (by rfl) T.z_len (by decide +kernel) (pa_cons (pv 0) pa_nil))) (fun _ _ => rfl)) pe_int))
    (pss_one (ps_ret (pe_ix (r := rIxL K) ix_list (pv 2) (pe_op op_mod (pe_callTy (T := "int") call_int1 (by rfl) T.z_int (by decide +kernel) (pa_cons (pe_op op_fdiv (pe_callB (id := "abs") call_abs (by rfl) T.z_abs (by decide +kernel) (pa_cons (pv 3) pa_nil)) (pe_op op_add pe_int (pv 1))) pa_nil)) pe_int) (fun _ _ => rfl)))))), ?_⟩
    refine ⟨1, rfl, by show 2 ≤ sizeLine; decide, fun t1 n1 => ?_⟩
    refine ⟨by show 0 ≤ sizeLine; decide, fun t2 n2 => ?_⟩
    refine ⟨by show 2 ≤ sizeLine; decide, fun t3 n3 => ?_⟩
    refine ⟨_, _, rfl, rfl, ⟨by decide, by decide, by decide⟩, by show 9 ≤ sizeLine; decide, fun r nr => ?_⟩
    have a1 := Ln.same_upd (o := .tup [.int 3, .int 1]) n1
    have a2 := Ln.same_upd (o := .tup []) n2
    have a3 := Ln.same_upd (o := .tup [.str "a", .int 5]) n3
    have ar := Ln.same_upd (o := .lst [.str "", .str "reason", .int 0, .int (-1), .int 17, .ref t1, .ref t2, .ref t3, .int (10 ^ 12)]) nr
    have hS' := (((a1.trans a2).trans a3).trans ar).seq hS
    have u1 : SqT K _ t1 [.int 3, .int 1] := Same.tup ((a2.trans a3).trans ar) (SqT.of upd_same)
    have u2 : SqT K _ t2 [] := Same.tup (a3.trans ar) (SqT.of upd_same)
    have u3 : SqT K _ t3 [.str "a", .int 5] := Same.tup ar (SqT.of upd_same)
    have last : ∀ cell : Int, (tRet (tOp (rIxL K) (tVar 2)
        (tOp (rI (fun x j => 0 < j) fun i j => V.int (i % j)) (tCB (fun xs H Q => (∃ i, xs = [V.int i] ∧ Q (V.int i) H) ∨ ∃ k, xs = [V.bl k] ∧ Q (V.int (if k = true then 1 else 0)) H)
          (tCons (tOp (rI CDiv fun i j => V.int (i / j)) (tCB (fun xs H Q => ∃ i, xs = [V.int i] ∧ Q (V.int (if i < 0 then -i else i)) H) (tCons (tVar 3) tNil)) (tOp (rI0 fun i j => V.int (i + j)) (tC (V.int 1)) (tVar 1))) tNil)) (tC (V.int 9)))))
        { nx := fun _ H' => Q V.non H', rt := Q } [some (.ref a), some (.int p), some (.ref r), some (.int cell)] (upd (upd (upd (upd H t1 (.tup [.int 3, .int 1])) t2 (.tup [])) t3 (.tup [.str "a", .int 5])) r (.lst [.str "", .str "reason", .int 0, .int (-1), .int 17, .ref t1, .ref t2, .ref t3, .int (10 ^ 12)])) := by
      intro cell
      refine ⟨.ref r, rfl, _, rfl, cell, rfl, _, rfl, _, _, rfl, rfl, _, _, rfl, rfl, ⟨by omega, by omega⟩, .inl ⟨_, rfl, _, _, rfl, rfl, by show (0 : Int) < 9; decide, ?_⟩⟩
      obtain ⟨k, e, hk⟩ := nine_at (Int.emod_nonneg ((if cell < 0 then -cell else cell) / (1 + p)) (by decide : (9 : Int) ≠ 0)) (Int.emod_lt_of_pos _ (by decide))
      show rIxL K (V.ref r) (V.int ((if cell < 0 then -cell else cell) / (1 + p) % 9)) _ _
      rw [e]
      have sq : SqL K (upd (upd (upd (upd H t1 (.tup [.int 3, .int 1])) t2 (.tup [])) t3 (.tup [.str "a", .int 5])) r (.lst [.str "", .str "reason", .int 0, .int (-1), .int 17, .ref t1, .ref t2, .ref t3, .int (10 ^ 12)])) r _ := SqL.of upd_same
      have sm := ((a1.trans a2).trans a3).trans ar
      have mem : ∀ d, d ∈ nine → d ∈ nine := fun _ h => h
      match k, hk with
      | 0, _ => exact ⟨r, _, _, _, rfl, rfl, sq, atI_nat (j := 0) rfl, q _ (.str "") _ sm (.str _) (by simp [nine])⟩
      | 1, _ => exact ⟨r, _, _, _, rfl, rfl, sq, atI_nat (j := 1) rfl, q _ (.str "reason") _ sm (.str _) (by simp [nine])⟩
      | 2, _ => exact ⟨r, _, _, _, rfl, rfl, sq, atI_nat (j := 2) rfl, q _ (.int 0) _ sm (.int _) (by simp [nine])⟩
      | 3, _ => exact ⟨r, _, _, _, rfl, rfl, sq, atI_nat (j := 3) rfl, q _ (.int (-1)) _ sm (.int _) (by simp [nine])⟩
      | 4, _ => exact ⟨r, _, _, _, rfl, rfl, sq, atI_nat (j := 4) rfl, q _ (.int 17) _ sm (.int _) (by simp [nine])⟩
      | 5, _ => exact ⟨r, _, _, _, rfl, rfl, sq, atI_nat (j := 5) rfl, q _ (.tuple [.int 3, .int 1]) _ sm (.tup u1 (.cons (.int _) (.cons (.int _) .nil))) (by simp [nine])⟩
      | 6, _ => exact ⟨r, _, _, _, rfl, rfl, sq, atI_nat (j := 6) rfl, q _ (.tuple []) _ sm (.tup u2 .nil) (by simp [nine])⟩
      | 7, _ => exact ⟨r, _, _, _, rfl, rfl, sq, atI_nat (j := 7) rfl, q _ (.tuple [.str "a", .int 5]) _ sm (.tup u3 (.cons (.str _) (.cons (.int _) .nil))) (by simp [nine])⟩
      | 8, _ => exact ⟨r, _, _, _, rfl, rfl, sq, atI_nat (j := 8) rfl, q _ (.int (10 ^ 12)) _ sm (.int _) (by simp [nine])⟩
      | k + 9, hk => omega
    refine ⟨.ref a, rfl, .ref a, ns.length, rfl, .inl ⟨_, hS', by rw [List.length_map]⟩, _, _, rfl, rfl, _, rfl, ite2 (fun c => ?_) (fun _ => last 5)⟩
    have c' := of_decide_eq_true c
    have hpos : 0 < ns.length := by omega
    obtain ⟨j, hj, he⟩ := modIx p hpos
    refine ⟨_, rfl, _, rfl, .inl ⟨_, rfl, .ref a, rfl, .ref a, ns.length, rfl, .inl ⟨_, hS', by rw [List.length_map]⟩, _, _, rfl, rfl, by omega, a, _, _, .int ns[j], rfl, rfl, hS', by rw [he]; exact atInt hj, last _⟩⟩
/-! ## which class -/
def spKinds (Cl : Nat → Addr) : Addr → Value → Option Addr → Sp := fun a cls d vs H Q _ => ∃ (j : Nat) (dd : Addr) (fs : List (Str × V)), vs = [.ref a] ∧ j < 8 ∧ cls = .ref (Cl j) ∧ d = some dd ∧ H dd = some (.xd fs) ∧
  ∀ l, H l = none → Q (.ref l) (upd H l (.lst ((List.range 8).map fun i => V.bl (decide (j = i)))))
theorem ok_kinds {f : Addr} {fd : FuncData} (F : Fun K "_law_kinds" "_law_kinds" s_law_kinds f fd) (T : Txt K mg B Cl fI) : FnE P w K mg base 1 f fd ["error"] (spKinds Cl) := by
  refine okE F sc_law_kinds (fun a cls d vs H Q E h => ?_) (fun cdv A outer s H vs Q p cls d hz hf hr h => ?_)
  · obtain ⟨j, dd, fs, rfl, _⟩ := h
    rfl
  · obtain ⟨j, dd, fs, rfl, hj, rfl, rfl, hx, q⟩ := h
    refine ⟨_, (pss_one (ps_ret (pe_lst (pa_cons (pe_callB (r := rIsF K p.1 _ _) (id := "isinstance") (call_isF List.mem_cons_self hz hf) (by rfl) T.z_isinstance (by decide +kernel) (pa_cons (pv 0) (pa_cons (pe_gl (v := .ref (Cl 0)) (by rfl) ⟨_, T.m_ArgumentError, rfl⟩) pa_nil))) (pa_cons (pe_callB (r := rIsF K p.1 _ _) (id := "isinstance") (call_isF List.mem_cons_self hz hf) (by rfl) T.z_isinstance (by decide +kernel) (pa_cons (pv 0) (pa_cons (pe_gl (v := .ref (Cl 1)) (by rfl) ⟨_, T.m_PaperError, rfl⟩) pa_nil))) (pa_cons (pe_callB (r := rIsF K p.1 _ _) (id := "isinstance") (call_isF List.mem_cons_self hz hf) (by rfl) T.z_isinstance (by decide +kernel) (pa_cons (pv 0) (pa_cons (pe_gl (v := .ref (Cl 2)) (by rfl) ⟨_, T.m_SaleError, rfl⟩) pa_nil))) (pa_cons (pe_callB (r := rIsF K p.1 _ _) (id := "isinstance") (call_isF List.mem_cons_self hz hf) (by rfl) T.z_isinstance (by decide +kernel) (pa_cons (pv 0) (pa_cons (pe_gl (v := .ref (Cl 3)) (by rfl) ⟨_, T.m_TooMany, rfl⟩) pa_nil))) (pa_cons (pe_callB (r := rIsF K p.1 _ _) (id := "isinstance") (call_isF List.mem_cons_self hz hf) (by rfl) T.z_isinstance (by decide +kernel) (pa_cons (pv 0) (pa_cons (pe_gl (v := .ref (Cl 4)) (by rfl) ⟨_, T.m_TextError, rfl⟩) pa_nil))) (pa_cons (pe_callB (r := rIsF K p.1 _ _) (id := "isinstance") (call_isF List.mem_cons_self hz hf) (by rfl) T.z_isinstance (by decide +kernel) (pa_cons (pv 0) (pa_cons (pe_gl (v := .ref (Cl 5)) (by rfl) ⟨_, T.m_NetError, rfl⟩) pa_nil))) (pa_cons (pe_callB (r := rIsF K p.1 _ _) (id := "isinstance") (call_isF List.mem_cons_self hz hf) (by rfl) T.z_isinstance (by decide +kernel) (pa_cons (pv 0) (pa_cons (pe_gl (v := .ref (Cl 6)) (by rfl) ⟨_, T.m_LogError, rfl⟩) pa_nil))) (pa_cons (pe_callB (r := rIsF K p.1 _ _) (id := "isinstance") (call_isF List.mem_cons_self hz hf) (by rfl) T.z_isinstance (by decide +kernel) (pa_cons (pv 0) (pa_cons (pe_gl (v := .ref (Cl 7)) (by rfl) ⟨_, T.m_CommandError, rfl⟩) pa_nil))) pa_nil))))))))))), ?_⟩
    refine ⟨_, rfl, _, _, _, Cl j, dd, fs, rfl, T.exc j hj, rfl, rfl, hx, fun u e => e, T.kit hj (show 0 < 8 by decide), ?_⟩
    refine ⟨_, rfl, _, _, _, Cl j, dd, fs, rfl, T.exc j hj, rfl, rfl, hx, fun u e => e, T.kit hj (show 1 < 8 by decide), ?_⟩
    refine ⟨_, rfl, _, _, _, Cl j, dd, fs, rfl, T.exc j hj, rfl, rfl, hx, fun u e => e, T.kit hj (show 2 < 8 by decide), ?_⟩
    refine ⟨_, rfl, _, _, _, Cl j, dd, fs, rfl, T.exc j hj, rfl, rfl, hx, fun u e => e, T.kit hj (show 3 < 8 by decide), ?_⟩
    refine ⟨_, rfl, _, _, _, Cl j, dd, fs, rfl, T.exc j hj, rfl, rfl, hx, fun u e => e, T.kit hj (show 4 < 8 by decide), ?_⟩
    refine ⟨_, rfl, _, _, _, Cl j, dd, fs, rfl, T.exc j hj, rfl, rfl, hx, fun u e => e, T.kit hj (show 5 < 8 by decide), ?_⟩
    refine ⟨_, rfl, _, _, _, Cl j, dd, fs, rfl, T.exc j hj, rfl, rfl, hx, fun u e => e, T.kit hj (show 6 < 8 by decide), ?_⟩
    refine ⟨_, rfl, _, _, _, Cl j, dd, fs, rfl, T.exc j hj, rfl, rfl, hx, fun u e => e, T.kit hj (show 7 < 8 by decide), ?_⟩
    exact ⟨by show 8 ≤ sizeLine; decide, fun l nl => q l nl⟩
end
end Mine
set_option Elab.async false
set_option linter.all false
set_option maxRecDepth 100000
set_option maxHeartbeats 8000000
namespace Mine
open PySem PySem.Spec PyProof.Rows L2 Ln L2H
section
variable {P : Program} {w : World} {K : PySem.W.Frag} {mg : Str → Option Value} {base : Heap} {B : Addr} {Cl fI : Nat → Addr}
def marks (j : Nat) : List V := (List.range 8).map fun i => V.bl (decide (j = i))
def spCaught : Sp := fun vs H Q _ => ∃ (j : Nat) (x y : V), vs = [.int j, x, y] ∧ j < 8 ∧ ∀ l H', Same H H' → H' l = some (.lst (marks j)) → Q (.ref l) H'
theorem ok_caught {f : Addr} {fd : FuncData} (F : Fun K "_law_caught" "_law_caught" s_law_caught f fd) (T : Txt K mg B Cl fI) (c__law_raise : Cg P w K mg base (L2.CX P w) 3 "_law_raise" (spRaise Cl)) (c__law_kinds : CgE P w K mg base 1 "_law_kinds" (spKinds Cl)) :
    FnG P w K mg base CX0 4 f fd ["k", "one", "other"] spCaught := by
  refine okG F sc_law_caught (fun vs H Q E h => ?_) (fun cdv A outer s H vs Q E hG hr h => ?_)
  · obtain ⟨j, x, y, rfl, _⟩ := h
    rfl
  · obtain ⟨j, x, y, rfl, hj, q⟩ := h
    refine ⟨_, (pss_cons (ps_try_as (i := 3) (Wout := fun _ _ _ _ => False) rfl rfl sc_law_caught.nd rfl rfl ⟨rfl, by decide, .inl T.m_InterlineError⟩ takes0 (fun W pn xe tk _ => (pss_one (ps_expr (pe_cgS c__law_raise hr (by decide) hG (fun σ => passAt tk σ) (by rfl) (pa_cons (pv 0) (pa_cons (pv 1) (pa_cons (pv 2) pa_nil)))))))
      (fun a oe cls d pn hz hf => (pss_one (ps_ret (pe_ifExp (pt_val (pe_callB (r := rIsF K a cls d) (id := "isinstance") (call_isF (p := (a, oe)) List.mem_cons_self hz hf) (by rfl) T.z_isinstance (by decide +kernel) (pa_cons (pv 3) (pa_cons (pe_bltn (v := .ty "ValueError") (u := .type "ValueError") (by rfl) T.z_ValueError (by decide +kernel) rfl) pa_nil))))
        (pe_cgE c__law_kinds List.mem_cons_self hz hf (j := 3) ⟨hr.dp, hr.un⟩ (by decide) (by rfl) (pa_cons (pv 3) pa_nil)) (pe_lst pa_nil))))))
      (pss_one (ps_ret (pe_lst pa_nil)))), ?_⟩
    refine ⟨_, rfl, x, rfl, y, rfl, j, x, y, rfl, hj, fun d H' sm nd hd => ?_⟩
    refine ⟨true, T.exmB hj, fun _ a na => ?_, fun z => nomatch z⟩
    refine ⟨.ref a, rfl, _, _, _, Cl j, d, _, rfl, T.exc j hj, rfl, rfl, hd, fun u e => e, T.kitV hj, _, rfl, ?_⟩
    refine iteT ?_
    refine ⟨.ref a, rfl, j, d, _, rfl, hj, rfl, rfl, hd, fun l nl => ?_⟩
    exact q l _ (sm.trans (Ln.same_upd nl)) upd_same
/-! ## the fields -/
def both (j : Nat) (x y : V) : List V := if j = 5 ∨ j = 6 then [x, y] else [x]
def spFields : Sp := fun vs H Q _ => ∃ (j : Nat) (x y : V), vs = [.int j, x, y] ∧ j < 8 ∧ ∀ t H', Same H H' → H' t = some (.tup (both j x y)) → Q (.ref t) H'
theorem ok_fields {f : Addr} {fd : FuncData} (F : Fun K "_law_fields" "_law_fields" s_law_fields f fd) (T : Txt K mg B Cl fI) (c__law_raise : Cg P w K mg base (L2.CX P w) 3 "_law_raise" (spRaise Cl)) :
    FnG P w K mg base CX0 4 f fd ["k", "one", "other"] spFields := by
  refine okG F sc_law_fields (fun vs H Q E h => ?_) (fun cdv A outer s H vs Q E hG hr h => ?_)
  · obtain ⟨j, x, y, rfl, _⟩ := h
    rfl
  · obtain ⟨j, x, y, rfl, hj, q⟩ := h
    refine ⟨_, (pss_cons (ps_try_named (Wo := fun _ _ _ _ => False) rfl rfl sc_law_fields.nd takes0 (fun W pn xe tk _ => (pss_one (ps_expr (pe_cgS c__law_raise hr (by decide) hG (fun σ => passAt tk σ) (by rfl) (pa_cons (pv 0) (pa_cons (pv 1) (pa_cons (pv 2) pa_nil)))))))
    (Clauses.more (i := 3) rfl rfl ⟨rfl, by decide, .inl T.m_ArgumentError⟩ (fun a oe cls d pn hz hf => (pss_one (ps_ret (pe_tup (pa_cons (pe_xf T.x_ArgumentError T.n_ArgumentError_reason hz hf (pv 3)) pa_nil)))))
    (Clauses.more (i := 3) rfl rfl ⟨rfl, by decide, .inl T.m_PaperError⟩ (fun a oe cls d pn hz hf => (pss_one (ps_ret (pe_tup (pa_cons (pe_xf T.x_PaperError T.n_PaperError_reason hz hf (pv 3)) pa_nil)))))
    (Clauses.more (i := 3) rfl rfl ⟨rfl, by decide, .inl T.m_SaleError⟩ (fun a oe cls d pn hz hf => (pss_one (ps_ret (pe_tup (pa_cons (pe_xf T.x_SaleError T.n_SaleError_reason hz hf (pv 3)) pa_nil)))))
    (Clauses.more (i := 3) rfl rfl ⟨rfl, by decide, .inl T.m_TooMany⟩ (fun a oe cls d pn hz hf => (pss_one (ps_ret (pe_tup (pa_cons (pe_xf T.x_TooMany T.n_TooMany_reason hz hf (pv 3)) pa_nil)))))
    (Clauses.more (i := 3) rfl rfl ⟨rfl, by decide, .inl T.m_TextError⟩ (fun a oe cls d pn hz hf => (pss_one (ps_ret (pe_tup (pa_cons (pe_xf T.x_TextError T.n_TextError_at hz hf (pv 3)) pa_nil)))))
    (Clauses.more (i := 3) rfl rfl ⟨rfl, by decide, .inl T.m_NetError⟩ (fun a oe cls d pn hz hf => (pss_one (ps_ret (pe_tup (pa_cons (pe_xf T.x_NetError T.n_NetError_path hz hf (pv 3)) (pa_cons (pe_xf T.x_NetError T.n_NetError_reason hz hf (pv 3)) pa_nil))))))
    (Clauses.more (i := 3) rfl rfl ⟨rfl, by decide, .inl T.m_LogError⟩ (fun a oe cls d pn hz hf => (pss_one (ps_ret (pe_tup (pa_cons (pe_xf T.x_LogError T.n_LogError_number hz hf (pv 3)) (pa_cons (pe_xf T.x_LogError T.n_LogError_reason hz hf (pv 3)) pa_nil))))))
    (Clauses.more (i := 3) rfl rfl ⟨rfl, by decide, .inl T.m_CommandError⟩ (fun a oe cls d pn hz hf => (pss_one (ps_ret (pe_tup (pa_cons (pe_xf T.x_CommandError T.n_CommandError_line hz hf (pv 3)) pa_nil)))))
    Clauses.done)))))))))
    (pss_one (ps_ret pe_non))), ?_⟩
    refine ⟨_, rfl, x, rfl, y, rfl, j, x, y, rfl, hj, fun d H' sm nd hd => ?_⟩
    have no : ∀ {i : Nat}, i < 8 → j ≠ i → PySem.W.exmOne K (.ref (Cl j)) (.ref (Cl i)) = some false := fun hi ne => by rw [T.exm hj hi, decide_eq_false ne]
    have yes : ∀ {i : Nat}, i < 8 → j = i → PySem.W.exmOne K (.ref (Cl j)) (.ref (Cl i)) = some true := fun hi e => by rw [T.exm hj hi, decide_eq_true e]
    match j, hj with
    | 0, hj =>
      refine ⟨true, yes (by decide) rfl, fun _ a na => ?_, fun z => nomatch z⟩
      refine ⟨.ref a, rfl, rfl, rfl, d, _, x, rfl, hd, by rfl, by show 1 ≤ sizeLine; decide, fun t nt => ?_⟩
      exact q t _ (sm.trans (Ln.same_upd nt)) upd_same
    | 1, hj =>
      refine ⟨false, no (by decide) (by decide), (fun z => nomatch z), fun _ => ?_⟩
      refine ⟨true, yes (by decide) rfl, fun _ a na => ?_, fun z => nomatch z⟩
      refine ⟨.ref a, rfl, rfl, rfl, d, _, x, rfl, hd, by rfl, by show 1 ≤ sizeLine; decide, fun t nt => ?_⟩
      exact q t _ (sm.trans (Ln.same_upd nt)) upd_same
    | 2, hj =>
      refine ⟨false, no (by decide) (by decide), (fun z => nomatch z), fun _ => ?_⟩
      refine ⟨false, no (by decide) (by decide), (fun z => nomatch z), fun _ => ?_⟩
      refine ⟨true, yes (by decide) rfl, fun _ a na => ?_, fun z => nomatch z⟩
      refine ⟨.ref a, rfl, rfl, rfl, d, _, x, rfl, hd, by rfl, by show 1 ≤ sizeLine; decide, fun t nt => ?_⟩
      exact q t _ (sm.trans (Ln.same_upd nt)) upd_same
    | 3, hj =>
      refine ⟨false, no (by decide) (by decide), (fun z => nomatch z), fun _ => ?_⟩
      refine ⟨false, no (by decide) (by decide), (fun z => nomatch z), fun _ => ?_⟩
      refine ⟨false, no (by decide) (by decide), (fun z => nomatch z), fun _ => ?_⟩
      refine ⟨true, yes (by decide) rfl, fun _ a na => ?_, fun z => nomatch z⟩
      refine ⟨.ref a, rfl, rfl, rfl, d, _, x, rfl, hd, by rfl, by show 1 ≤ sizeLine; decide, fun t nt => ?_⟩
      exact q t _ (sm.trans (Ln.same_upd nt)) upd_same
    | 4, hj =>
      refine ⟨false, no (by decide) (by decide), (fun z => nomatch z), fun _ => ?_⟩
      refine ⟨false, no (by decide) (by decide), (fun z => nomatch z), fun _ => ?_⟩
      refine ⟨false, no (by decide) (by decide), (fun z => nomatch z), fun _ => ?_⟩
      refine ⟨false, no (by decide) (by decide), (fun z => nomatch z), fun _ => ?_⟩
      refine ⟨true, yes (by decide) rfl, fun _ a na => ?_, fun z => nomatch z⟩
      refine ⟨.ref a, rfl, rfl, rfl, d, _, x, rfl, hd, by rfl, by show 1 ≤ sizeLine; decide, fun t nt => ?_⟩
      exact q t _ (sm.trans (Ln.same_upd nt)) upd_same
    | 5, hj =>
      refine ⟨false, no (by decide) (by decide), (fun z => nomatch z), fun _ => ?_⟩
      refine ⟨false, no (by decide) (by decide), (fun z => nomatch z), fun _ => ?_⟩
      refine ⟨false, no (by decide) (by decide), (fun z => nomatch z), fun _ => ?_⟩
      refine ⟨false, no (by decide) (by decide), (fun z => nomatch z), fun _ => ?_⟩
      refine ⟨false, no (by decide) (by decide), (fun z => nomatch z), fun _ => ?_⟩
      refine ⟨true, yes (by decide) rfl, fun _ a na => ?_, fun z => nomatch z⟩
      refine ⟨.ref a, rfl, rfl, rfl, d, _, x, rfl, hd, by rfl, .ref a, rfl, rfl, rfl, d, _, y, rfl, hd, by rfl, by show 2 ≤ sizeLine; decide, fun t nt => ?_⟩
      exact q t _ (sm.trans (Ln.same_upd nt)) upd_same
    | 6, hj =>
      refine ⟨false, no (by decide) (by decide), (fun z => nomatch z), fun _ => ?_⟩
      refine ⟨false, no (by decide) (by decide), (fun z => nomatch z), fun _ => ?_⟩
      refine ⟨false, no (by decide) (by decide), (fun z => nomatch z), fun _ => ?_⟩
      refine ⟨false, no (by decide) (by decide), (fun z => nomatch z), fun _ => ?_⟩
      refine ⟨false, no (by decide) (by decide), (fun z => nomatch z), fun _ => ?_⟩
      refine ⟨false, no (by decide) (by decide), (fun z => nomatch z), fun _ => ?_⟩
      refine ⟨true, yes (by decide) rfl, fun _ a na => ?_, fun z => nomatch z⟩
      refine ⟨.ref a, rfl, rfl, rfl, d, _, x, rfl, hd, by rfl, .ref a, rfl, rfl, rfl, d, _, y, rfl, hd, by rfl, by show 2 ≤ sizeLine; decide, fun t nt => ?_⟩
      exact q t _ (sm.trans (Ln.same_upd nt)) upd_same
    | 7, hj =>
      refine ⟨false, no (by decide) (by decide), (fun z => nomatch z), fun _ => ?_⟩
      refine ⟨false, no (by decide) (by decide), (fun z => nomatch z), fun _ => ?_⟩
      refine ⟨false, no (by decide) (by decide), (fun z => nomatch z), fun _ => ?_⟩
      refine ⟨false, no (by decide) (by decide), (fun z => nomatch z), fun _ => ?_⟩
      refine ⟨false, no (by decide) (by decide), (fun z => nomatch z), fun _ => ?_⟩
      refine ⟨false, no (by decide) (by decide), (fun z => nomatch z), fun _ => ?_⟩
      refine ⟨false, no (by decide) (by decide), (fun z => nomatch z), fun _ => ?_⟩
      refine ⟨true, yes (by decide) rfl, fun _ a na => ?_, fun z => nomatch z⟩
      refine ⟨.ref a, rfl, rfl, rfl, d, _, x, rfl, hd, by rfl, by show 1 ≤ sizeLine; decide, fun t nt => ?_⟩
      exact q t _ (sm.trans (Ln.same_upd nt)) upd_same
/-! ## the law -/
def bits (j : Nat) : List Bool := (List.range 8).map fun i => decide (j = i)
theorem dp_bits {K : PySem.W.Frag} {H : Hp} : ∀ bs : List Bool, DpAll K H (bs.map V.bl) (bs.map PyData.bool)
  | [] => .nil
  | b :: r => .cons (.bl b) (dp_bits r)
theorem marks_bits (j : Nat) : marks j = (bits j).map V.bl := by
  unfold marks bits
  rw [List.map_map]
  rfl
theorem dp_marks {K : PySem.W.Frag} {H : Hp} {l : Addr} {j : Nat} (h : H l = some (.lst (marks j))) : Dp K H (.ref l) (.list ((bits j).map PyData.bool)) :=
  .lst (SqL.of h) (by rw [marks_bits]; exact dp_bits _)
theorem sm_marks (j : Nat) : Sm (.list ((bits j).map PyData.bool)) 1 8 := by
  refine (Sm.lst (k := 0) (m := 0) (n := 8) ?_ ?_).mono (by decide) (by decide)
  · intro d hd
    obtain ⟨b, _, e⟩ := List.mem_map.mp hd
    rw [← e]
    exact .bool b
  · unfold bits
    simp
theorem sm_big : Sm (.int (10 ^ 12)) 0 41 := ⟨by simp only [PyData.showable, decide_eq_true_eq]; decide, by simp only [PyData.depth]; exact Nat.le_refl _, by decide +kernel, by decide +kernel, rfl⟩
theorem nine_sm {d : PyData} (h : d ∈ nine) : Sm d 1 90 := by
  have i1 : ∀ {i : Int}, i.natAbs < 10 ^ 12 → Sm (.int i) 1 90 := fun h => (Sm.int h).mono (by decide) (by decide)
  simp only [nine, List.mem_cons, List.not_mem_nil, or_false] at h
  rcases h with e | e | e | e | e | e | e | e | e
  · rw [e]
    exact (Sm.str (m := 0) (by decide) (by decide) (by decide +kernel)).mono (by decide) (by decide)
  · rw [e]
    exact (Sm.str (m := 6) (by decide) (by decide) (by decide +kernel)).mono (by decide) (by decide)
  · rw [e]
    exact i1 (by decide)
  · rw [e]
    exact i1 (by decide)
  · rw [e]
    exact i1 (by decide)
  · rw [e]
    refine (Sm.tup (k := 0) (m := 41) (n := 2) ?_ (by decide)).mono (by decide) (by decide)
    intro d hd
    simp only [List.mem_cons, List.not_mem_nil, or_false] at hd
    rcases hd with e | e <;> (rw [e]; exact Sm.int (by decide))
  · rw [e]
    exact (Sm.tup (k := 0) (m := 0) (n := 0) (by simp) (by decide)).mono (by decide) (by decide)
  · rw [e]
    refine (Sm.tup (k := 0) (m := 41) (n := 2) ?_ (by decide)).mono (by decide) (by decide)
    intro d hd
    simp only [List.mem_cons, List.not_mem_nil, or_false] at hd
    rcases hd with e | e
    · rw [e]
      exact (Sm.str (m := 1) (by decide) (by decide) (by decide +kernel)).mono (by decide) (by decide)
    · rw [e]
      exact Sm.int (by decide)
  · rw [e]
    exact sm_big.mono (by decide) (by decide)
def bothD (j : Nat) (x y : PyData) : List PyData := if j = 5 ∨ j = 6 then [x, y] else [x]
theorem dp_both {K : PySem.W.Frag} {H : Hp} {i : Nat} {t : Addr} {x y : V} {dx dy : PyData} (h : SqT K H t (both i x y)) (hx : Dp K H x dx) (hy : Dp K H y dy) : Dp K H (.ref t) (.tuple (bothD i dx dy)) := by
  refine .tup h ?_
  unfold both bothD
  by_cases c : i = 5 ∨ i = 6
  · rw [if_pos c, if_pos c]
    exact .cons hx (.cons hy .nil)
  · rw [if_neg c, if_neg c]
    exact .cons hx .nil
theorem sm_both (i : Nat) {dx dy : PyData} (hx : dx ∈ nine) (hy : dy ∈ nine) : Sm (.tuple (bothD i dx dy)) 2 182 := by
  refine (Sm.tup (k := 1) (m := 90) (n := 2) ?_ ?_).mono (by decide) (by decide)
  · intro d hd
    unfold bothD at hd
    split at hd
    · simp only [List.mem_cons, List.not_mem_nil, or_false] at hd
      rcases hd with e | e
      · rw [e]; exact nine_sm hx
      · rw [e]; exact nine_sm hy
    · simp only [List.mem_cons, List.not_mem_nil, or_false] at hd
      rw [hd]; exact nine_sm hx
  · unfold bothD
    split <;> simp
def spLaw (K : PySem.W.Frag) : Sp := fun vs H Q _ => ∃ (a : Addr) (ns : List Int), vs = [.ref a] ∧ SqL K H a (ns.map V.int) ∧ ns.length ≤ 63 ∧ ∀ H', Q (.bl true) H'
theorem ok_law {f : Addr} {fd : FuncData} (F : Fun K "law" "law" s_law f fd) (T : Txt K mg B Cl fI) (c__law_value : Cg P w K mg base CX0 1 "_law_value" (spValue K)) (c__law_caught : Cg P w K mg base CX0 4 "_law_caught" spCaught)
    (c__law_fields : Cg P w K mg base CX0 4 "_law_fields" spFields) : FnG P w K mg base CX0 5 f fd ["script"] (spLaw K) := by
  refine okG F sc_law (fun vs H Q E h => ?_) (fun cdv A outer s H vs Q E hG hr h => ?_)
  · obtain ⟨a, ns, rfl, _⟩ := h
    rfl
  · obtain ⟨a, ns, rfl, hS, hlen, q⟩ := h
    refine ⟨_, (pss_cons (ps_for PassesOwn.never rfl (pi_range1 (by rfl) T.z_range (pa_cons pe_int pa_nil)) (pg_name (i := 1) sc_law.nd rfl (.inr rfl))
    (pss_cons (ps_set (i := 2) sc_law.nd rfl (.inl rfl) (pe_cg c__law_value hr (by decide) hG (by rfl) (pa_cons (pv 0) (pa_cons (pv 1) pa_nil))))
    (pss_cons (ps_set (i := 3) sc_law.nd rfl (.inl rfl) (pe_cg c__law_value hr (by decide) hG (by rfl) (pa_cons (pv 0) (pa_cons (pe_op op_add (pv 1) pe_int) pa_nil))))
    (pss_cons (ps_if (pt_cmpR (r := rNeD K) (op_neD hr.units) (pe_cg c__law_caught hr (by decide) hG (by rfl) (pa_cons (pv 1) (pa_cons (pv 2) (pa_cons (pv 3) pa_nil)))) (pe_lc (own := [("j", 4)]) rfl sc_law.nd (pi_range1 (by rfl) T.z_range (pa_cons pe_int pa_nil)) (blkOk_by (own := [("j", 4)]) (N := N_law) (sc := defScope s_law) (by decide +kernel)) (fun _ _ _ _ _ => (pg_name (i := 4) sc_law.nd rfl (.inl rfl))) (fun _ _ _ _ _ => pts_nil) (fun _ _ _ _ _ => (pe_cmpR op_eq (pv 4) (pv 1) (nomark _)))) (nomark _))
    (pss_one (ps_ret pe_bl))
    pss_nil)
    (pss_cons (ps_set (i := 5) sc_law.nd rfl (.inl rfl) (pe_ifExp (pt_cmpR (r := rIn K false) op_in_seq (pv 1) (pe_lst (pa_cons pe_int (pa_cons pe_int pa_nil))) (by rfl)) (pe_tup (pa_cons (pv 2) (pa_cons (pv 3) pa_nil))) (pe_tup (pa_cons (pv 2) pa_nil))))
    (pss_one (ps_if (pt_cmpR op_ne (pe_callB (r := Ln.rReprD K) (id := "repr") (c_repr hG hr.units) (by rfl) T.z_repr (by decide +kernel) (pa_cons (pe_cg c__law_fields hr (by decide) hG (by rfl) (pa_cons (pv 1) (pa_cons (pv 2) (pa_cons (pv 3) pa_nil)))) pa_nil)) (pe_callB (r := Ln.rReprD K) (id := "repr") (c_repr hG hr.units) (by rfl) T.z_repr (by decide +kernel) (pa_cons (pv 5) pa_nil)) (nomark _))
    (pss_one (ps_ret pe_bl))
    pss_nil)))))))
    (pss_one (ps_ret pe_bl))), ?_⟩
    refine ⟨8, rfl, by decide, by decide, for_range (lo := 0) (n := 8) (fun i σ H' => Same H H' ∧ ∃ v1 v2 v3 v4 v5, σ = [some (.ref a), v1, v2, v3, v4, v5]) ?_ ?_ ?_⟩
    · exact ⟨fun _ _ e => e, _, _, _, _, _, rfl⟩
    · rintro i σ H' hi ⟨sm, v1, v2, v3, v4, v5, rfl⟩
      refine ⟨.ref a, rfl, _, rfl, a, ns, _, rfl, sm.seq hS, hlen, by omega, by omega, fun x dx H2 sm2 hdx mx => ?_⟩
      refine ⟨.ref a, rfl, _, rfl, _, _, rfl, rfl, a, ns, _, rfl, (sm.trans sm2).seq hS, hlen, by omega, by omega, fun y dy H3 sm3 hdy my => ?_⟩
      have hdx3 := Dp.same sm3 dx x (nine_noL mx) hdx
      have ei : (0 : Int) + (i : Int) = ((i : Nat) : Int) := by omega
      refine ⟨_, rfl, x, rfl, y, rfl, i, x, y, by rw [ei], hi, fun l H4 sm4 hl => ?_⟩
      refine ⟨8, rfl, by decide, by decide, fun D nD => ?_⟩
      refine lc_range (lo := 0) (n := 8) (fun m H' => Same H4 H' ∧ H' l = some (.lst (marks i)) ∧ H' D = some (.lst ((List.range m).map fun t => V.bl (decide (i = t))))) ?_ ?_ ?_
      · exact ⟨Ln.same_upd nD, by rw [upd_ne (ne_of_none hl nD)]; exact hl, upd_same⟩
      · rintro m H5 hm ⟨sm5, hl5, hD5⟩
        refine ⟨rfl, ?_⟩
        refine ⟨_, rfl, _, rfl, rfl, ?_⟩
        have eb : decide (V.int (0 + (m : Int)) = V.int (0 + (i : Int))) = decide (i = m) := by
          apply Bool.eq_iff_iff.mpr
          simp only [decide_eq_true_eq, V.int.injEq]
          omega
        rw [eb]
        refine ⟨_, hD5, ?_, ?_, ?_, ?_⟩
        · rw [List.length_map, List.length_range]
          exact small1 (by omega)
        · exact same_at sm5 nD
        · rw [upd_ne (ne_of_none hl nD)]
          exact hl5
        · rw [upd_same, List.range_succ, List.map_append]
          rfl
      rintro H5 ⟨sm5, hl5, hD5⟩
      have da := dp_marks (K := K) (H := H5) hl5
      have db := dp_marks (K := K) (H := H5) hD5
      have sb := sm_marks i
      refine ⟨_, _, da, db, sb.shaped (by decide), sb.shaped (by decide), _, rfl, ?_⟩
      rw [sb.eqv]
      refine iteF ?_
      -- due
      refine ⟨_, rfl, by show 2 ≤ sizeLine; decide, fun r5 n5 => ⟨r5, _, rfl, .inl (SqL.of upd_same), rfl, rfl, _, rfl, ?_⟩⟩
      have e56 : inV (V.int (0 + (i : Int))) [.int 5, .int 6] = decide (i = 5 ∨ i = 6) := (by decide : ∀ i : Nat, i < 8 → inV (V.int (0 + (i : Int))) [.int 5, .int 6] = decide (i = 5 ∨ i = 6)) i hi
      have up : Same H3 (upd H5 r5 (.lst [.int 5, .int 6])) := (sm4.trans sm5).trans (Ln.same_upd n5)
      have smD := sm_both i mx my
      have shw := smD.shw (by decide) (by decide)
      refine ite2 (fun c => ?_) (fun c => ?_)
      · have c' : i = 5 ∨ i = 6 := of_decide_eq_true (e56.symm.trans c)
        have eb : both i x y = [x, y] := if_pos c'
        refine ⟨x, rfl, y, rfl, by show 2 ≤ sizeLine; decide, fun t nt => ?_⟩
        have s6 := up.trans (Ln.same_upd (o := .tup (both i x y)) nt)
        rw [← eb]
        refine ⟨_, rfl, x, rfl, y, rfl, i, x, y, by rw [ei], hi, fun t2 H7 sm7 ht2 => ?_⟩
        have d2 := dp_both (K := K) (i := i) (SqT.of ht2) (Dp.same (s6.trans sm7) dx x (nine_noL mx) hdx3) (Dp.same (s6.trans sm7) dy y (nine_noL my) hdy)
        have d1 := dp_both (K := K) (i := i) (Same.tup sm7 (SqT.of upd_same)) (Dp.same (s6.trans sm7) dx x (nine_noL mx) hdx3) (Dp.same (s6.trans sm7) dy y (nine_noL my) hdy)
        refine ⟨_, _, rfl, d2, shw, .ref t, rfl, _, _, rfl, d1, shw, rfl, _, rfl, ?_⟩
        rw [decide_eq_true rfl]
        refine iteF ?_
        exact ⟨(((sm.trans sm2).trans sm3).trans s6).trans sm7, _, _, _, _, _, rfl⟩
      · have c' : ¬ (i = 5 ∨ i = 6) := fun z => c (e56.trans (decide_eq_true z))
        have eb : both i x y = [x] := if_neg c'
        refine ⟨x, rfl, by show 1 ≤ sizeLine; decide, fun t nt => ?_⟩
        have s6 := up.trans (Ln.same_upd (o := .tup (both i x y)) nt)
        rw [← eb]
        refine ⟨_, rfl, x, rfl, y, rfl, i, x, y, by rw [ei], hi, fun t2 H7 sm7 ht2 => ?_⟩
        have d2 := dp_both (K := K) (i := i) (SqT.of ht2) (Dp.same (s6.trans sm7) dx x (nine_noL mx) hdx3) (Dp.same (s6.trans sm7) dy y (nine_noL my) hdy)
        have d1 := dp_both (K := K) (i := i) (Same.tup sm7 (SqT.of upd_same)) (Dp.same (s6.trans sm7) dx x (nine_noL mx) hdx3) (Dp.same (s6.trans sm7) dy y (nine_noL my) hdy)
        refine ⟨_, _, rfl, d2, shw, .ref t, rfl, _, _, rfl, d1, shw, rfl, _, rfl, ?_⟩
        rw [decide_eq_true rfl]
        refine iteF ?_
        exact ⟨(((sm.trans sm2).trans sm3).trans s6).trans sm7, _, _, _, _, _, rfl⟩
    · rintro σ H' ⟨sm, v1, v2, v3, v4, v5, rfl⟩
      exact q _
end
end Mine
set_option Elab.async false
set_option linter.all false
set_option maxRecDepth 100000
set_option maxHeartbeats 8000000
namespace Mine
open PySem PySem.Spec PyProof.Rows L2 Ln L2H
def pick (x0 x1 x2 x3 x4 x5 x6 x7 : Addr) : Nat → Addr
  | 0 => x0
  | 1 => x1
  | 2 => x2
  | 3 => x3
  | 4 => x4
  | 5 => x5
  | 6 => x6
  | _ => x7
theorem all8 {p : Nat → Prop} (h0 : p 0) (h1 : p 1) (h2 : p 2) (h3 : p 3) (h4 : p 4) (h5 : p 5) (h6 : p 6) (h7 : p 7) : ∀ i, i < 8 → p i := fun i hi => match i, hi with
  | 0, _ => h0
  | 1, _ => h1
  | 2, _ => h2
  | 3, _ => h3
  | 4, _ => h4
  | 5, _ => h5
  | 6, _ => h6
  | 7, _ => h7
theorem all_mk {l : PySem.W.OpenLaw} {w : World} {K : PySem.W.Frag} {h : Heap} {mg : Str → Option Value} {fa : Addr} (X : K.In h) (G : h.Ns mainGlobals mg) (hfa : mg "law" = some (.ref fa))
    {BE : Addr}
    {C0 I0 N0 : Addr} {nm0 q0 : Str} {bs0 : List Value} {sn0 : List Str} {sub0 : List Value} {ab0 : Bool} {col0 : Option Bool} {dd0 : Option Addr} {m00 m10 m20 m30 m50 : Option Value} {B0 : Addr} {oc0 kV0 dc0 pm0 cd0 ct0 : Value} {od0 an0 : Option Addr} {sl0 : Array (Option Value)}
    {C1 I1 N1 : Addr} {nm1 q1 : Str} {bs1 : List Value} {sn1 : List Str} {sub1 : List Value} {ab1 : Bool} {col1 : Option Bool} {dd1 : Option Addr} {m01 m11 m21 m31 m51 : Option Value} {B1 : Addr} {oc1 kV1 dc1 pm1 cd1 ct1 : Value} {od1 an1 : Option Addr} {sl1 : Array (Option Value)}
    {C2 I2 N2 : Addr} {nm2 q2 : Str} {bs2 : List Value} {sn2 : List Str} {sub2 : List Value} {ab2 : Bool} {col2 : Option Bool} {dd2 : Option Addr} {m02 m12 m22 m32 m52 : Option Value} {B2 : Addr} {oc2 kV2 dc2 pm2 cd2 ct2 : Value} {od2 an2 : Option Addr} {sl2 : Array (Option Value)}
    {C3 I3 N3 : Addr} {nm3 q3 : Str} {bs3 : List Value} {sn3 : List Str} {sub3 : List Value} {ab3 : Bool} {col3 : Option Bool} {dd3 : Option Addr} {m03 m13 m23 m33 m53 : Option Value} {B3 : Addr} {oc3 kV3 dc3 pm3 cd3 ct3 : Value} {od3 an3 : Option Addr} {sl3 : Array (Option Value)}
    {C4 I4 N4 : Addr} {nm4 q4 : Str} {bs4 : List Value} {sn4 : List Str} {sub4 : List Value} {ab4 : Bool} {col4 : Option Bool} {dd4 : Option Addr} {m04 m14 m24 m34 m54 : Option Value} {B4 : Addr} {oc4 kV4 dc4 pm4 cd4 ct4 : Value} {od4 an4 : Option Addr} {sl4 : Array (Option Value)}
    {C5 I5 N5 : Addr} {nm5 q5 : Str} {bs5 : List Value} {sn5 : List Str} {sub5 : List Value} {ab5 : Bool} {col5 : Option Bool} {dd5 : Option Addr} {m05 m15 m25 m35 m55 : Option Value} {B5 : Addr} {oc5 kV5 dc5 pm5 cd5 ct5 : Value} {od5 an5 : Option Addr} {sl5 : Array (Option Value)}
    {C6 I6 N6 : Addr} {nm6 q6 : Str} {bs6 : List Value} {sn6 : List Str} {sub6 : List Value} {ab6 : Bool} {col6 : Option Bool} {dd6 : Option Addr} {m06 m16 m26 m36 m56 : Option Value} {B6 : Addr} {oc6 kV6 dc6 pm6 cd6 ct6 : Value} {od6 an6 : Option Addr} {sl6 : Array (Option Value)}
    {C7 I7 N7 : Addr} {nm7 q7 : Str} {bs7 : List Value} {sn7 : List Str} {sub7 : List Value} {ab7 : Bool} {col7 : Option Bool} {dd7 : Option Addr} {m07 m17 m27 m37 m57 : Option Value} {B7 : Addr} {oc7 kV7 dc7 pm7 cd7 ct7 : Value} {od7 an7 : Option Addr} {sl7 : Array (Option Value)}
    {f__law_value : Addr} {oc__law_value kV__law_value dc__law_value pm__law_value cd__law_value ct__law_value : Value} {od__law_value an__law_value : Option Addr} {sl__law_value : Array (Option Value)}
    {f__law_kinds : Addr} {oc__law_kinds kV__law_kinds dc__law_kinds pm__law_kinds cd__law_kinds ct__law_kinds : Value} {od__law_kinds an__law_kinds : Option Addr} {sl__law_kinds : Array (Option Value)}
    {f__law_raise : Addr} {oc__law_raise kV__law_raise dc__law_raise pm__law_raise cd__law_raise ct__law_raise : Value} {od__law_raise an__law_raise : Option Addr} {sl__law_raise : Array (Option Value)}
    {f__law_caught : Addr} {oc__law_caught kV__law_caught dc__law_caught pm__law_caught cd__law_caught ct__law_caught : Value} {od__law_caught an__law_caught : Option Addr} {sl__law_caught : Array (Option Value)}
    {f__law_fields : Addr} {oc__law_fields kV__law_fields dc__law_fields pm__law_fields cd__law_fields ct__law_fields : Value} {od__law_fields an__law_fields : Option Addr} {sl__law_fields : Array (Option Value)}
    {f_law : Addr} {oc_law kV_law dc_law pm_law cd_law ct_law : Value} {od_law an_law : Option Addr} {sl_law : Array (Option Value)}
    (mB : PySem.W.nsIn K mainGlobals "InterlineError" = some (some (.ref BE)))
    (eB : PySem.W.subIn K (.ref BE) (.type "BaseException") = some true)
    (hB : PySem.W.hasDictIn K BE = true)
    (tB : PySem.W.typeIn K (.ref BE) = some (.type "type"))
    (hn : PySem.W.specialIn K (.builtin "object.__class__") "__get__" = some (some (.builtin "getset_descriptor.__get__")))
    (ht : PySem.W.takesIn K (.builtin "object.__class__") = some true)
    (a0 : PySem.W.nsIn K mainGlobals "ArgumentError" = some (some (.ref C0)))
    (x0 : K.lookup C0 = some (excClassObj nm0 q0 C0 N0 bs0 [.ref B0, .type "ValueError", .type "Exception", .type "BaseException", .type "object"] true sn0 sub0 ab0 col0 dd0 m00 m10 m20 m30 m50 "ValueError.__new__"))
    (sa0 : PySem.W.findIn K (.ref C0) "__setattr__" = some (some (.builtin "object.__setattr__")))
    (ga0 : PySem.W.findIn K (.ref C0) "__getattribute__" = some (some (.builtin "BaseException.__getattribute__")))
    (gg0 : PySem.W.findIn K (.ref C0) "__getattr__" = some none)
    (gc0 : PySem.W.findIn K (.ref C0) "__class__" = some (some (.builtin "object.__class__")))
    (mo0 : PySem.W.mroIn K C0 (.type "object") = some true)
    (no0reason : PySem.W.findIn K (.ref C0) "reason" = some none)
    (kC0 : PySem.W.keepIn K (.ref C0) = true)
    (eC0 : PySem.W.subIn K (.ref C0) (.type "BaseException") = some true)
    (vC0 : PySem.W.subIn K (.ref C0) (.type "ValueError") = some true)
    (bC0 : PySem.W.subIn K (.ref C0) (.ref BE) = some true)
    (tC0 : PySem.W.typeIn K (.ref C0) = some (.type "type"))
    (hC0 : PySem.W.hasDictIn K C0 = true)
    (ai0 : PySem.W.findIn K (.ref C0) "__init__" = some (some (.ref I0)))
    (ti0 : PySem.W.typeIn K (.ref I0) = some (.type "function"))
    (li0 : K.lookup I0 = some ⟨oc0, od0, .func (PySem.W.fnOf "__init__" "ArgumentError.__init__" (defArgs s_ArgumentErrorD_initD) (defBody s_ArgumentErrorD_initD) (defScope s_ArgumentErrorD_initD) .none kV0 dc0 pm0 an0 cd0 ct0), sl0⟩)
    (ci0 : PySem.W.codeIn K cd0 "ArgumentError.__init__" = true)
    (ki0 : PySem.W.keepIn K (.ref I0) = true)
    (a1 : PySem.W.nsIn K mainGlobals "PaperError" = some (some (.ref C1)))
    (x1 : K.lookup C1 = some (excClassObj nm1 q1 C1 N1 bs1 [.ref B1, .type "ValueError", .type "Exception", .type "BaseException", .type "object"] true sn1 sub1 ab1 col1 dd1 m01 m11 m21 m31 m51 "ValueError.__new__"))
    (sa1 : PySem.W.findIn K (.ref C1) "__setattr__" = some (some (.builtin "object.__setattr__")))
    (ga1 : PySem.W.findIn K (.ref C1) "__getattribute__" = some (some (.builtin "BaseException.__getattribute__")))
    (gg1 : PySem.W.findIn K (.ref C1) "__getattr__" = some none)
    (gc1 : PySem.W.findIn K (.ref C1) "__class__" = some (some (.builtin "object.__class__")))
    (mo1 : PySem.W.mroIn K C1 (.type "object") = some true)
    (no1reason : PySem.W.findIn K (.ref C1) "reason" = some none)
    (kC1 : PySem.W.keepIn K (.ref C1) = true)
    (eC1 : PySem.W.subIn K (.ref C1) (.type "BaseException") = some true)
    (vC1 : PySem.W.subIn K (.ref C1) (.type "ValueError") = some true)
    (bC1 : PySem.W.subIn K (.ref C1) (.ref BE) = some true)
    (tC1 : PySem.W.typeIn K (.ref C1) = some (.type "type"))
    (hC1 : PySem.W.hasDictIn K C1 = true)
    (ai1 : PySem.W.findIn K (.ref C1) "__init__" = some (some (.ref I1)))
    (ti1 : PySem.W.typeIn K (.ref I1) = some (.type "function"))
    (li1 : K.lookup I1 = some ⟨oc1, od1, .func (PySem.W.fnOf "__init__" "PaperError.__init__" (defArgs s_PaperErrorD_initD) (defBody s_PaperErrorD_initD) (defScope s_PaperErrorD_initD) .none kV1 dc1 pm1 an1 cd1 ct1), sl1⟩)
    (ci1 : PySem.W.codeIn K cd1 "PaperError.__init__" = true)
    (ki1 : PySem.W.keepIn K (.ref I1) = true)
    (a2 : PySem.W.nsIn K mainGlobals "SaleError" = some (some (.ref C2)))
    (x2 : K.lookup C2 = some (excClassObj nm2 q2 C2 N2 bs2 [.ref B2, .type "ValueError", .type "Exception", .type "BaseException", .type "object"] true sn2 sub2 ab2 col2 dd2 m02 m12 m22 m32 m52 "ValueError.__new__"))
    (sa2 : PySem.W.findIn K (.ref C2) "__setattr__" = some (some (.builtin "object.__setattr__")))
    (ga2 : PySem.W.findIn K (.ref C2) "__getattribute__" = some (some (.builtin "BaseException.__getattribute__")))
    (gg2 : PySem.W.findIn K (.ref C2) "__getattr__" = some none)
    (gc2 : PySem.W.findIn K (.ref C2) "__class__" = some (some (.builtin "object.__class__")))
    (mo2 : PySem.W.mroIn K C2 (.type "object") = some true)
    (no2reason : PySem.W.findIn K (.ref C2) "reason" = some none)
    (kC2 : PySem.W.keepIn K (.ref C2) = true)
    (eC2 : PySem.W.subIn K (.ref C2) (.type "BaseException") = some true)
    (vC2 : PySem.W.subIn K (.ref C2) (.type "ValueError") = some true)
    (bC2 : PySem.W.subIn K (.ref C2) (.ref BE) = some true)
    (tC2 : PySem.W.typeIn K (.ref C2) = some (.type "type"))
    (hC2 : PySem.W.hasDictIn K C2 = true)
    (ai2 : PySem.W.findIn K (.ref C2) "__init__" = some (some (.ref I2)))
    (ti2 : PySem.W.typeIn K (.ref I2) = some (.type "function"))
    (li2 : K.lookup I2 = some ⟨oc2, od2, .func (PySem.W.fnOf "__init__" "SaleError.__init__" (defArgs s_SaleErrorD_initD) (defBody s_SaleErrorD_initD) (defScope s_SaleErrorD_initD) .none kV2 dc2 pm2 an2 cd2 ct2), sl2⟩)
    (ci2 : PySem.W.codeIn K cd2 "SaleError.__init__" = true)
    (ki2 : PySem.W.keepIn K (.ref I2) = true)
    (a3 : PySem.W.nsIn K mainGlobals "TooMany" = some (some (.ref C3)))
    (x3 : K.lookup C3 = some (excClassObj nm3 q3 C3 N3 bs3 [.ref B3, .type "ValueError", .type "Exception", .type "BaseException", .type "object"] true sn3 sub3 ab3 col3 dd3 m03 m13 m23 m33 m53 "ValueError.__new__"))
    (sa3 : PySem.W.findIn K (.ref C3) "__setattr__" = some (some (.builtin "object.__setattr__")))
    (ga3 : PySem.W.findIn K (.ref C3) "__getattribute__" = some (some (.builtin "BaseException.__getattribute__")))
    (gg3 : PySem.W.findIn K (.ref C3) "__getattr__" = some none)
    (gc3 : PySem.W.findIn K (.ref C3) "__class__" = some (some (.builtin "object.__class__")))
    (mo3 : PySem.W.mroIn K C3 (.type "object") = some true)
    (no3reason : PySem.W.findIn K (.ref C3) "reason" = some none)
    (kC3 : PySem.W.keepIn K (.ref C3) = true)
    (eC3 : PySem.W.subIn K (.ref C3) (.type "BaseException") = some true)
    (vC3 : PySem.W.subIn K (.ref C3) (.type "ValueError") = some true)
    (bC3 : PySem.W.subIn K (.ref C3) (.ref BE) = some true)
    (tC3 : PySem.W.typeIn K (.ref C3) = some (.type "type"))
    (hC3 : PySem.W.hasDictIn K C3 = true)
    (ai3 : PySem.W.findIn K (.ref C3) "__init__" = some (some (.ref I3)))
    (ti3 : PySem.W.typeIn K (.ref I3) = some (.type "function"))
    (li3 : K.lookup I3 = some ⟨oc3, od3, .func (PySem.W.fnOf "__init__" "TooMany.__init__" (defArgs s_TooManyD_initD) (defBody s_TooManyD_initD) (defScope s_TooManyD_initD) .none kV3 dc3 pm3 an3 cd3 ct3), sl3⟩)
    (ci3 : PySem.W.codeIn K cd3 "TooMany.__init__" = true)
    (ki3 : PySem.W.keepIn K (.ref I3) = true)
    (a4 : PySem.W.nsIn K mainGlobals "TextError" = some (some (.ref C4)))
    (x4 : K.lookup C4 = some (excClassObj nm4 q4 C4 N4 bs4 [.ref B4, .type "ValueError", .type "Exception", .type "BaseException", .type "object"] true sn4 sub4 ab4 col4 dd4 m04 m14 m24 m34 m54 "ValueError.__new__"))
    (sa4 : PySem.W.findIn K (.ref C4) "__setattr__" = some (some (.builtin "object.__setattr__")))
    (ga4 : PySem.W.findIn K (.ref C4) "__getattribute__" = some (some (.builtin "BaseException.__getattribute__")))
    (gg4 : PySem.W.findIn K (.ref C4) "__getattr__" = some none)
    (gc4 : PySem.W.findIn K (.ref C4) "__class__" = some (some (.builtin "object.__class__")))
    (mo4 : PySem.W.mroIn K C4 (.type "object") = some true)
    (no4at : PySem.W.findIn K (.ref C4) "at" = some none)
    (kC4 : PySem.W.keepIn K (.ref C4) = true)
    (eC4 : PySem.W.subIn K (.ref C4) (.type "BaseException") = some true)
    (vC4 : PySem.W.subIn K (.ref C4) (.type "ValueError") = some true)
    (bC4 : PySem.W.subIn K (.ref C4) (.ref BE) = some true)
    (tC4 : PySem.W.typeIn K (.ref C4) = some (.type "type"))
    (hC4 : PySem.W.hasDictIn K C4 = true)
    (ai4 : PySem.W.findIn K (.ref C4) "__init__" = some (some (.ref I4)))
    (ti4 : PySem.W.typeIn K (.ref I4) = some (.type "function"))
    (li4 : K.lookup I4 = some ⟨oc4, od4, .func (PySem.W.fnOf "__init__" "TextError.__init__" (defArgs s_TextErrorD_initD) (defBody s_TextErrorD_initD) (defScope s_TextErrorD_initD) .none kV4 dc4 pm4 an4 cd4 ct4), sl4⟩)
    (ci4 : PySem.W.codeIn K cd4 "TextError.__init__" = true)
    (ki4 : PySem.W.keepIn K (.ref I4) = true)
    (a5 : PySem.W.nsIn K mainGlobals "NetError" = some (some (.ref C5)))
    (x5 : K.lookup C5 = some (excClassObj nm5 q5 C5 N5 bs5 [.ref B5, .type "ValueError", .type "Exception", .type "BaseException", .type "object"] true sn5 sub5 ab5 col5 dd5 m05 m15 m25 m35 m55 "ValueError.__new__"))
    (sa5 : PySem.W.findIn K (.ref C5) "__setattr__" = some (some (.builtin "object.__setattr__")))
    (ga5 : PySem.W.findIn K (.ref C5) "__getattribute__" = some (some (.builtin "BaseException.__getattribute__")))
    (gg5 : PySem.W.findIn K (.ref C5) "__getattr__" = some none)
    (gc5 : PySem.W.findIn K (.ref C5) "__class__" = some (some (.builtin "object.__class__")))
    (mo5 : PySem.W.mroIn K C5 (.type "object") = some true)
    (no5path : PySem.W.findIn K (.ref C5) "path" = some none)
    (no5reason : PySem.W.findIn K (.ref C5) "reason" = some none)
    (kC5 : PySem.W.keepIn K (.ref C5) = true)
    (eC5 : PySem.W.subIn K (.ref C5) (.type "BaseException") = some true)
    (vC5 : PySem.W.subIn K (.ref C5) (.type "ValueError") = some true)
    (bC5 : PySem.W.subIn K (.ref C5) (.ref BE) = some true)
    (tC5 : PySem.W.typeIn K (.ref C5) = some (.type "type"))
    (hC5 : PySem.W.hasDictIn K C5 = true)
    (ai5 : PySem.W.findIn K (.ref C5) "__init__" = some (some (.ref I5)))
    (ti5 : PySem.W.typeIn K (.ref I5) = some (.type "function"))
    (li5 : K.lookup I5 = some ⟨oc5, od5, .func (PySem.W.fnOf "__init__" "NetError.__init__" (defArgs s_NetErrorD_initD) (defBody s_NetErrorD_initD) (defScope s_NetErrorD_initD) .none kV5 dc5 pm5 an5 cd5 ct5), sl5⟩)
    (ci5 : PySem.W.codeIn K cd5 "NetError.__init__" = true)
    (ki5 : PySem.W.keepIn K (.ref I5) = true)
    (a6 : PySem.W.nsIn K mainGlobals "LogError" = some (some (.ref C6)))
    (x6 : K.lookup C6 = some (excClassObj nm6 q6 C6 N6 bs6 [.ref B6, .type "ValueError", .type "Exception", .type "BaseException", .type "object"] true sn6 sub6 ab6 col6 dd6 m06 m16 m26 m36 m56 "ValueError.__new__"))
    (sa6 : PySem.W.findIn K (.ref C6) "__setattr__" = some (some (.builtin "object.__setattr__")))
    (ga6 : PySem.W.findIn K (.ref C6) "__getattribute__" = some (some (.builtin "BaseException.__getattribute__")))
    (gg6 : PySem.W.findIn K (.ref C6) "__getattr__" = some none)
    (gc6 : PySem.W.findIn K (.ref C6) "__class__" = some (some (.builtin "object.__class__")))
    (mo6 : PySem.W.mroIn K C6 (.type "object") = some true)
    (no6number : PySem.W.findIn K (.ref C6) "number" = some none)
    (no6reason : PySem.W.findIn K (.ref C6) "reason" = some none)
    (kC6 : PySem.W.keepIn K (.ref C6) = true)
    (eC6 : PySem.W.subIn K (.ref C6) (.type "BaseException") = some true)
    (vC6 : PySem.W.subIn K (.ref C6) (.type "ValueError") = some true)
    (bC6 : PySem.W.subIn K (.ref C6) (.ref BE) = some true)
    (tC6 : PySem.W.typeIn K (.ref C6) = some (.type "type"))
    (hC6 : PySem.W.hasDictIn K C6 = true)
    (ai6 : PySem.W.findIn K (.ref C6) "__init__" = some (some (.ref I6)))
    (ti6 : PySem.W.typeIn K (.ref I6) = some (.type "function"))
    (li6 : K.lookup I6 = some ⟨oc6, od6, .func (PySem.W.fnOf "__init__" "LogError.__init__" (defArgs s_LogErrorD_initD) (defBody s_LogErrorD_initD) (defScope s_LogErrorD_initD) .none kV6 dc6 pm6 an6 cd6 ct6), sl6⟩)
    (ci6 : PySem.W.codeIn K cd6 "LogError.__init__" = true)
    (ki6 : PySem.W.keepIn K (.ref I6) = true)
    (a7 : PySem.W.nsIn K mainGlobals "CommandError" = some (some (.ref C7)))
    (x7 : K.lookup C7 = some (excClassObj nm7 q7 C7 N7 bs7 [.ref B7, .type "ValueError", .type "Exception", .type "BaseException", .type "object"] true sn7 sub7 ab7 col7 dd7 m07 m17 m27 m37 m57 "ValueError.__new__"))
    (sa7 : PySem.W.findIn K (.ref C7) "__setattr__" = some (some (.builtin "object.__setattr__")))
    (ga7 : PySem.W.findIn K (.ref C7) "__getattribute__" = some (some (.builtin "BaseException.__getattribute__")))
    (gg7 : PySem.W.findIn K (.ref C7) "__getattr__" = some none)
    (gc7 : PySem.W.findIn K (.ref C7) "__class__" = some (some (.builtin "object.__class__")))
    (mo7 : PySem.W.mroIn K C7 (.type "object") = some true)
    (no7line : PySem.W.findIn K (.ref C7) "line" = some none)
    (kC7 : PySem.W.keepIn K (.ref C7) = true)
    (eC7 : PySem.W.subIn K (.ref C7) (.type "BaseException") = some true)
    (vC7 : PySem.W.subIn K (.ref C7) (.type "ValueError") = some true)
    (bC7 : PySem.W.subIn K (.ref C7) (.ref BE) = some true)
    (tC7 : PySem.W.typeIn K (.ref C7) = some (.type "type"))
    (hC7 : PySem.W.hasDictIn K C7 = true)
    (ai7 : PySem.W.findIn K (.ref C7) "__init__" = some (some (.ref I7)))
    (ti7 : PySem.W.typeIn K (.ref I7) = some (.type "function"))
    (li7 : K.lookup I7 = some ⟨oc7, od7, .func (PySem.W.fnOf "__init__" "CommandError.__init__" (defArgs s_CommandErrorD_initD) (defBody s_CommandErrorD_initD) (defScope s_CommandErrorD_initD) .none kV7 dc7 pm7 an7 cd7 ct7), sl7⟩)
    (ci7 : PySem.W.codeIn K cd7 "CommandError.__init__" = true)
    (ki7 : PySem.W.keepIn K (.ref I7) = true)
    (s00 : PySem.W.subIn K (.ref C0) (.ref C0) = some true)
    (s01 : PySem.W.subIn K (.ref C0) (.ref C1) = some false)
    (s02 : PySem.W.subIn K (.ref C0) (.ref C2) = some false)
    (s03 : PySem.W.subIn K (.ref C0) (.ref C3) = some false)
    (s04 : PySem.W.subIn K (.ref C0) (.ref C4) = some false)
    (s05 : PySem.W.subIn K (.ref C0) (.ref C5) = some false)
    (s06 : PySem.W.subIn K (.ref C0) (.ref C6) = some false)
    (s07 : PySem.W.subIn K (.ref C0) (.ref C7) = some false)
    (s10 : PySem.W.subIn K (.ref C1) (.ref C0) = some false)
    (s11 : PySem.W.subIn K (.ref C1) (.ref C1) = some true)
    (s12 : PySem.W.subIn K (.ref C1) (.ref C2) = some false)
    (s13 : PySem.W.subIn K (.ref C1) (.ref C3) = some false)
    (s14 : PySem.W.subIn K (.ref C1) (.ref C4) = some false)
    (s15 : PySem.W.subIn K (.ref C1) (.ref C5) = some false)
    (s16 : PySem.W.subIn K (.ref C1) (.ref C6) = some false)
    (s17 : PySem.W.subIn K (.ref C1) (.ref C7) = some false)
    (s20 : PySem.W.subIn K (.ref C2) (.ref C0) = some false)
    (s21 : PySem.W.subIn K (.ref C2) (.ref C1) = some false)
    (s22 : PySem.W.subIn K (.ref C2) (.ref C2) = some true)
    (s23 : PySem.W.subIn K (.ref C2) (.ref C3) = some false)
    (s24 : PySem.W.subIn K (.ref C2) (.ref C4) = some false)
    (s25 : PySem.W.subIn K (.ref C2) (.ref C5) = some false)
    (s26 : PySem.W.subIn K (.ref C2) (.ref C6) = some false)
    (s27 : PySem.W.subIn K (.ref C2) (.ref C7) = some false)
    (s30 : PySem.W.subIn K (.ref C3) (.ref C0) = some false)
    (s31 : PySem.W.subIn K (.ref C3) (.ref C1) = some false)
    (s32 : PySem.W.subIn K (.ref C3) (.ref C2) = some false)
    (s33 : PySem.W.subIn K (.ref C3) (.ref C3) = some true)
    (s34 : PySem.W.subIn K (.ref C3) (.ref C4) = some false)
    (s35 : PySem.W.subIn K (.ref C3) (.ref C5) = some false)
    (s36 : PySem.W.subIn K (.ref C3) (.ref C6) = some false)
    (s37 : PySem.W.subIn K (.ref C3) (.ref C7) = some false)
    (s40 : PySem.W.subIn K (.ref C4) (.ref C0) = some false)
    (s41 : PySem.W.subIn K (.ref C4) (.ref C1) = some false)
    (s42 : PySem.W.subIn K (.ref C4) (.ref C2) = some false)
    (s43 : PySem.W.subIn K (.ref C4) (.ref C3) = some false)
    (s44 : PySem.W.subIn K (.ref C4) (.ref C4) = some true)
    (s45 : PySem.W.subIn K (.ref C4) (.ref C5) = some false)
    (s46 : PySem.W.subIn K (.ref C4) (.ref C6) = some false)
    (s47 : PySem.W.subIn K (.ref C4) (.ref C7) = some false)
    (s50 : PySem.W.subIn K (.ref C5) (.ref C0) = some false)
    (s51 : PySem.W.subIn K (.ref C5) (.ref C1) = some false)
    (s52 : PySem.W.subIn K (.ref C5) (.ref C2) = some false)
    (s53 : PySem.W.subIn K (.ref C5) (.ref C3) = some false)
    (s54 : PySem.W.subIn K (.ref C5) (.ref C4) = some false)
    (s55 : PySem.W.subIn K (.ref C5) (.ref C5) = some true)
    (s56 : PySem.W.subIn K (.ref C5) (.ref C6) = some false)
    (s57 : PySem.W.subIn K (.ref C5) (.ref C7) = some false)
    (s60 : PySem.W.subIn K (.ref C6) (.ref C0) = some false)
    (s61 : PySem.W.subIn K (.ref C6) (.ref C1) = some false)
    (s62 : PySem.W.subIn K (.ref C6) (.ref C2) = some false)
    (s63 : PySem.W.subIn K (.ref C6) (.ref C3) = some false)
    (s64 : PySem.W.subIn K (.ref C6) (.ref C4) = some false)
    (s65 : PySem.W.subIn K (.ref C6) (.ref C5) = some false)
    (s66 : PySem.W.subIn K (.ref C6) (.ref C6) = some true)
    (s67 : PySem.W.subIn K (.ref C6) (.ref C7) = some false)
    (s70 : PySem.W.subIn K (.ref C7) (.ref C0) = some false)
    (s71 : PySem.W.subIn K (.ref C7) (.ref C1) = some false)
    (s72 : PySem.W.subIn K (.ref C7) (.ref C2) = some false)
    (s73 : PySem.W.subIn K (.ref C7) (.ref C3) = some false)
    (s74 : PySem.W.subIn K (.ref C7) (.ref C4) = some false)
    (s75 : PySem.W.subIn K (.ref C7) (.ref C5) = some false)
    (s76 : PySem.W.subIn K (.ref C7) (.ref C6) = some false)
    (s77 : PySem.W.subIn K (.ref C7) (.ref C7) = some true)
    (a__law_value : PySem.W.nsIn K mainGlobals "_law_value" = some (some (.ref f__law_value)))
    (l__law_value : K.lookup f__law_value = some ⟨oc__law_value, od__law_value, .func (PySem.W.fnOf "_law_value" "_law_value" (defArgs s_law_value) (defBody s_law_value) (defScope s_law_value) .none kV__law_value dc__law_value pm__law_value an__law_value cd__law_value ct__law_value), sl__law_value⟩)
    (c__law_value : PySem.W.codeIn K cd__law_value "_law_value" = true)
    (k__law_value : PySem.W.keepIn K (.ref f__law_value) = true)
    (a__law_kinds : PySem.W.nsIn K mainGlobals "_law_kinds" = some (some (.ref f__law_kinds)))
    (l__law_kinds : K.lookup f__law_kinds = some ⟨oc__law_kinds, od__law_kinds, .func (PySem.W.fnOf "_law_kinds" "_law_kinds" (defArgs s_law_kinds) (defBody s_law_kinds) (defScope s_law_kinds) .none kV__law_kinds dc__law_kinds pm__law_kinds an__law_kinds cd__law_kinds ct__law_kinds), sl__law_kinds⟩)
    (c__law_kinds : PySem.W.codeIn K cd__law_kinds "_law_kinds" = true)
    (k__law_kinds : PySem.W.keepIn K (.ref f__law_kinds) = true)
    (a__law_raise : PySem.W.nsIn K mainGlobals "_law_raise" = some (some (.ref f__law_raise)))
    (l__law_raise : K.lookup f__law_raise = some ⟨oc__law_raise, od__law_raise, .func (PySem.W.fnOf "_law_raise" "_law_raise" (defArgs s_law_raise) (defBody s_law_raise) (defScope s_law_raise) .none kV__law_raise dc__law_raise pm__law_raise an__law_raise cd__law_raise ct__law_raise), sl__law_raise⟩)
    (c__law_raise : PySem.W.codeIn K cd__law_raise "_law_raise" = true)
    (k__law_raise : PySem.W.keepIn K (.ref f__law_raise) = true)
    (a__law_caught : PySem.W.nsIn K mainGlobals "_law_caught" = some (some (.ref f__law_caught)))
    (l__law_caught : K.lookup f__law_caught = some ⟨oc__law_caught, od__law_caught, .func (PySem.W.fnOf "_law_caught" "_law_caught" (defArgs s_law_caught) (defBody s_law_caught) (defScope s_law_caught) .none kV__law_caught dc__law_caught pm__law_caught an__law_caught cd__law_caught ct__law_caught), sl__law_caught⟩)
    (c__law_caught : PySem.W.codeIn K cd__law_caught "_law_caught" = true)
    (k__law_caught : PySem.W.keepIn K (.ref f__law_caught) = true)
    (a__law_fields : PySem.W.nsIn K mainGlobals "_law_fields" = some (some (.ref f__law_fields)))
    (l__law_fields : K.lookup f__law_fields = some ⟨oc__law_fields, od__law_fields, .func (PySem.W.fnOf "_law_fields" "_law_fields" (defArgs s_law_fields) (defBody s_law_fields) (defScope s_law_fields) .none kV__law_fields dc__law_fields pm__law_fields an__law_fields cd__law_fields ct__law_fields), sl__law_fields⟩)
    (c__law_fields : PySem.W.codeIn K cd__law_fields "_law_fields" = true)
    (k__law_fields : PySem.W.keepIn K (.ref f__law_fields) = true)
    (a_law : PySem.W.nsIn K mainGlobals "law" = some (some (.ref f_law)))
    (l_law : K.lookup f_law = some ⟨oc_law, od_law, .func (PySem.W.fnOf "law" "law" (defArgs s_law) (defBody s_law) (defScope s_law) .none kV_law dc_law pm_law an_law cd_law ct_law), sl_law⟩)
    (c_law : PySem.W.codeIn K cd_law "law" = true)
    (k_law : PySem.W.keepIn K (.ref f_law) = true)
    (z_len : PySem.W.nsIn K mainGlobals "len" = some none)
    (z_abs : PySem.W.nsIn K mainGlobals "abs" = some none)
    (z_int : PySem.W.nsIn K mainGlobals "int" = some none)
    (z_range : PySem.W.nsIn K mainGlobals "range" = some none)
    (z_isinstance : PySem.W.nsIn K mainGlobals "isinstance" = some none)
    (z_repr : PySem.W.nsIn K mainGlobals "repr" = some none)
    (z_ValueError : PySem.W.nsIn K mainGlobals "ValueError" = some none)
    : ∃ fd : FuncData, (∀ (s : Shared) (v : Value), BindsTo s fd ⟨[v], []⟩ [("script", v)]) ∧ ∀ base : Heap, K.In base → base.Ns mainGlobals mg → FnG l.prog w K mg base CX0 5 fa fd ["script"] (spLaw K) := by
  have e := hfa.symm.trans (PySem.W.mg_of X G a_law)
  cases e
  have T : Txt K mg BE (pick C0 C1 C2 C3 C4 C5 C6 C7) (pick I0 I1 I2 I3 I4 I5 I6 I7) :=
    { z_len := PySem.W.mg_none_of X G z_len,
      z_abs := PySem.W.mg_none_of X G z_abs,
      z_int := PySem.W.mg_none_of X G z_int,
      z_range := PySem.W.mg_none_of X G z_range,
      z_isinstance := PySem.W.mg_none_of X G z_isinstance,
      z_repr := PySem.W.mg_none_of X G z_repr,
      z_ValueError := PySem.W.mg_none_of X G z_ValueError,
      m_InterlineError := PySem.W.mg_of X G mB,
      eB := eB,
      hB := hB,
      tB := tB,
      exc := all8 (p := fun i => ExcC K (pick C0 C1 C2 C3 C4 C5 C6 C7 i)) ⟨ga0, gg0, eC0, hC0, gc0, hn, ht, mo0⟩ ⟨ga1, gg1, eC1, hC1, gc1, hn, ht, mo1⟩ ⟨ga2, gg2, eC2, hC2, gc2, hn, ht, mo2⟩ ⟨ga3, gg3, eC3, hC3, gc3, hn, ht, mo3⟩ ⟨ga4, gg4, eC4, hC4, gc4, hn, ht, mo4⟩ ⟨ga5, gg5, eC5, hC5, gc5, hn, ht, mo5⟩ ⟨ga6, gg6, eC6, hC6, gc6, hn, ht, mo6⟩ ⟨ga7, gg7, eC7, hC7, gc7, hn, ht, mo7⟩,
      typ := all8 (p := fun i => PySem.W.typeIn K (.ref (pick C0 C1 C2 C3 C4 C5 C6 C7 i)) = some (.type "type")) tC0 tC1 tC2 tC3 tC4 tC5 tC6 tC7,
      subB := all8 (p := fun i => PySem.W.subIn K (.ref (pick C0 C1 C2 C3 C4 C5 C6 C7 i)) (.ref BE) = some true) bC0 bC1 bC2 bC3 bC4 bC5 bC6 bC7,
      subV := all8 (p := fun i => PySem.W.subIn K (.ref (pick C0 C1 C2 C3 C4 C5 C6 C7 i)) (.type "ValueError") = some true) vC0 vC1 vC2 vC3 vC4 vC5 vC6 vC7,
      sub := fun i j hi hj => all8 (p := fun i => ∀ j, j < 8 → PySem.W.subIn K (.ref (pick C0 C1 C2 C3 C4 C5 C6 C7 i)) (.ref (pick C0 C1 C2 C3 C4 C5 C6 C7 j)) = some (decide (i = j))) (all8 (p := fun j => PySem.W.subIn K (.ref C0) (.ref (pick C0 C1 C2 C3 C4 C5 C6 C7 j)) = some (decide (0 = j))) s00 s01 s02 s03 s04 s05 s06 s07) (all8 (p := fun j => PySem.W.subIn K (.ref C1) (.ref (pick C0 C1 C2 C3 C4 C5 C6 C7 j)) = some (decide (1 = j))) s10 s11 s12 s13 s14 s15 s16 s17) (all8 (p := fun j => PySem.W.subIn K (.ref C2) (.ref (pick C0 C1 C2 C3 C4 C5 C6 C7 j)) = some (decide (2 = j))) s20 s21 s22 s23 s24 s25 s26 s27) (all8 (p := fun j => PySem.W.subIn K (.ref C3) (.ref (pick C0 C1 C2 C3 C4 C5 C6 C7 j)) = some (decide (3 = j))) s30 s31 s32 s33 s34 s35 s36 s37) (all8 (p := fun j => PySem.W.subIn K (.ref C4) (.ref (pick C0 C1 C2 C3 C4 C5 C6 C7 j)) = some (decide (4 = j))) s40 s41 s42 s43 s44 s45 s46 s47) (all8 (p := fun j => PySem.W.subIn K (.ref C5) (.ref (pick C0 C1 C2 C3 C4 C5 C6 C7 j)) = some (decide (5 = j))) s50 s51 s52 s53 s54 s55 s56 s57) (all8 (p := fun j => PySem.W.subIn K (.ref C6) (.ref (pick C0 C1 C2 C3 C4 C5 C6 C7 j)) = some (decide (6 = j))) s60 s61 s62 s63 s64 s65 s66 s67) (all8 (p := fun j => PySem.W.subIn K (.ref C7) (.ref (pick C0 C1 C2 C3 C4 C5 C6 C7 j)) = some (decide (7 = j))) s70 s71 s72 s73 s74 s75 s76 s77) i hi j hj,
      m_ArgumentError := PySem.W.mg_of X G a0,
      o_ArgumentError := ⟨⟨_, _, _, _, _, _, _, _, _, _, _, _, _, _, _, x0, rfl⟩, sa0, eC0, tC0, kC0⟩,
      x_ArgumentError := ⟨ga0, gg0, eC0, hC0⟩,
      i_ArgumentError := ai0,
      t_ArgumentError := ti0,
      n_ArgumentError_reason := no0reason,
      m_PaperError := PySem.W.mg_of X G a1,
      o_PaperError := ⟨⟨_, _, _, _, _, _, _, _, _, _, _, _, _, _, _, x1, rfl⟩, sa1, eC1, tC1, kC1⟩,
      x_PaperError := ⟨ga1, gg1, eC1, hC1⟩,
      i_PaperError := ai1,
      t_PaperError := ti1,
      n_PaperError_reason := no1reason,
      m_SaleError := PySem.W.mg_of X G a2,
      o_SaleError := ⟨⟨_, _, _, _, _, _, _, _, _, _, _, _, _, _, _, x2, rfl⟩, sa2, eC2, tC2, kC2⟩,
      x_SaleError := ⟨ga2, gg2, eC2, hC2⟩,
      i_SaleError := ai2,
      t_SaleError := ti2,
      n_SaleError_reason := no2reason,
      m_TooMany := PySem.W.mg_of X G a3,
      o_TooMany := ⟨⟨_, _, _, _, _, _, _, _, _, _, _, _, _, _, _, x3, rfl⟩, sa3, eC3, tC3, kC3⟩,
      x_TooMany := ⟨ga3, gg3, eC3, hC3⟩,
      i_TooMany := ai3,
      t_TooMany := ti3,
      n_TooMany_reason := no3reason,
      m_TextError := PySem.W.mg_of X G a4,
      o_TextError := ⟨⟨_, _, _, _, _, _, _, _, _, _, _, _, _, _, _, x4, rfl⟩, sa4, eC4, tC4, kC4⟩,
      x_TextError := ⟨ga4, gg4, eC4, hC4⟩,
      i_TextError := ai4,
      t_TextError := ti4,
      n_TextError_at := no4at,
      m_NetError := PySem.W.mg_of X G a5,
      o_NetError := ⟨⟨_, _, _, _, _, _, _, _, _, _, _, _, _, _, _, x5, rfl⟩, sa5, eC5, tC5, kC5⟩,
      x_NetError := ⟨ga5, gg5, eC5, hC5⟩,
      i_NetError := ai5,
      t_NetError := ti5,
      n_NetError_path := no5path,
      n_NetError_reason := no5reason,
      m_LogError := PySem.W.mg_of X G a6,
      o_LogError := ⟨⟨_, _, _, _, _, _, _, _, _, _, _, _, _, _, _, x6, rfl⟩, sa6, eC6, tC6, kC6⟩,
      x_LogError := ⟨ga6, gg6, eC6, hC6⟩,
      i_LogError := ai6,
      t_LogError := ti6,
      n_LogError_number := no6number,
      n_LogError_reason := no6reason,
      m_CommandError := PySem.W.mg_of X G a7,
      o_CommandError := ⟨⟨_, _, _, _, _, _, _, _, _, _, _, _, _, _, _, x7, rfl⟩, sa7, eC7, tC7, kC7⟩,
      x_CommandError := ⟨ga7, gg7, eC7, hC7⟩,
      i_CommandError := ai7,
      t_CommandError := ti7,
      n_CommandError_line := no7line }
  have F0 := fun_mk (st := s_ArgumentErrorD_initD) li0 ci0 ki0
  have fb0 := F0.binds (ps := ["self", "reason"]) fun _ _ _ _ _ _ us hl => match us, hl with | [_, _], _ => rfl
  have F1 := fun_mk (st := s_PaperErrorD_initD) li1 ci1 ki1
  have fb1 := F1.binds (ps := ["self", "reason"]) fun _ _ _ _ _ _ us hl => match us, hl with | [_, _], _ => rfl
  have F2 := fun_mk (st := s_SaleErrorD_initD) li2 ci2 ki2
  have fb2 := F2.binds (ps := ["self", "reason"]) fun _ _ _ _ _ _ us hl => match us, hl with | [_, _], _ => rfl
  have F3 := fun_mk (st := s_TooManyD_initD) li3 ci3 ki3
  have fb3 := F3.binds (ps := ["self", "reason"]) fun _ _ _ _ _ _ us hl => match us, hl with | [_, _], _ => rfl
  have F4 := fun_mk (st := s_TextErrorD_initD) li4 ci4 ki4
  have fb4 := F4.binds (ps := ["self", "at"]) fun _ _ _ _ _ _ us hl => match us, hl with | [_, _], _ => rfl
  have F5 := fun_mk (st := s_NetErrorD_initD) li5 ci5 ki5
  have fb5 := F5.binds (ps := ["self", "path", "reason"]) fun _ _ _ _ _ _ us hl => match us, hl with | [_, _, _], _ => rfl
  have F6 := fun_mk (st := s_LogErrorD_initD) li6 ci6 ki6
  have fb6 := F6.binds (ps := ["self", "number", "reason"]) fun _ _ _ _ _ _ us hl => match us, hl with | [_, _, _], _ => rfl
  have F7 := fun_mk (st := s_CommandErrorD_initD) li7 ci7 ki7
  have fb7 := F7.binds (ps := ["self", "line"]) fun _ _ _ _ _ _ us hl => match us, hl with | [_, _], _ => rfl
  have F__law_value := fun_mk (st := s_law_value) l__law_value c__law_value k__law_value
  have b__law_value := F__law_value.binds (ps := ["script", "place"]) fun _ _ _ _ _ _ us hl => match us, hl with | [_, _], _ => rfl
  have F__law_kinds := fun_mk (st := s_law_kinds) l__law_kinds c__law_kinds k__law_kinds
  have b__law_kinds := F__law_kinds.binds (ps := ["error"]) fun _ _ _ _ _ _ us hl => match us, hl with | [_], _ => rfl
  have F__law_raise := fun_mk (st := s_law_raise) l__law_raise c__law_raise k__law_raise
  have b__law_raise := F__law_raise.binds (ps := ["k", "one", "other"]) fun _ _ _ _ _ _ us hl => match us, hl with | [_, _, _], _ => rfl
  have F__law_caught := fun_mk (st := s_law_caught) l__law_caught c__law_caught k__law_caught
  have b__law_caught := F__law_caught.binds (ps := ["k", "one", "other"]) fun _ _ _ _ _ _ us hl => match us, hl with | [_, _, _], _ => rfl
  have F__law_fields := fun_mk (st := s_law_fields) l__law_fields c__law_fields k__law_fields
  have b__law_fields := F__law_fields.binds (ps := ["k", "one", "other"]) fun _ _ _ _ _ _ us hl => match us, hl with | [_, _, _], _ => rfl
  have F_law := fun_mk (st := s_law) l_law c_law k_law
  refine ⟨PySem.W.fnOf "law" "law" (defArgs s_law) (defBody s_law) (defScope s_law) .none kV_law dc_law pm_law an_law cd_law ct_law, fun s v => .of_eq rfl, fun base _ _ => ?_⟩
  have i0 := in_ArgumentError (P := l.prog) (w := w) (base := base) F0 T
  have i1 := in_PaperError (P := l.prog) (w := w) (base := base) F1 T
  have i2 := in_SaleError (P := l.prog) (w := w) (base := base) F2 T
  have i3 := in_TooMany (P := l.prog) (w := w) (base := base) F3 T
  have i4 := in_TextError (P := l.prog) (w := w) (base := base) F4 T
  have i5 := in_NetError (P := l.prog) (w := w) (base := base) F5 T
  have i6 := in_LogError (P := l.prog) (w := w) (base := base) F6 T
  have i7 := in_CommandError (P := l.prog) (w := w) (base := base) F7 T
  have G__law_value : Cg l.prog w K mg base CX0 1 "_law_value" (spValue K) := ⟨_, _, _, ok_value F__law_value T, PySem.W.mg_of X G a__law_value, k__law_value, b__law_value⟩
  have G__law_kinds : CgE l.prog w K mg base 1 "_law_kinds" (spKinds (pick C0 C1 C2 C3 C4 C5 C6 C7)) := ⟨_, _, _, ok_kinds F__law_kinds T, PySem.W.mg_of X G a__law_kinds, k__law_kinds, b__law_kinds⟩
  have G__law_raise : Cg l.prog w K mg base (L2.CX l.prog w) 3 "_law_raise" (spRaise (pick C0 C1 C2 C3 C4 C5 C6 C7)) := ⟨_, _, _, ok_raise F__law_raise T i0 fb0 i1 fb1 i2 fb2 i3 fb3 i4 fb4 i5 fb5 i6 fb6 i7 fb7, PySem.W.mg_of X G a__law_raise, k__law_raise, b__law_raise⟩
  have G__law_caught : Cg l.prog w K mg base CX0 4 "_law_caught" spCaught := ⟨_, _, _, ok_caught F__law_caught T G__law_raise G__law_kinds, PySem.W.mg_of X G a__law_caught, k__law_caught, b__law_caught⟩
  have G__law_fields : Cg l.prog w K mg base CX0 4 "_law_fields" spFields := ⟨_, _, _, ok_fields F__law_fields T G__law_raise, PySem.W.mg_of X G a__law_fields, k__law_fields, b__law_fields⟩
  exact ok_law F_law T G__law_value G__law_caught G__law_fields
end Mine
open PySem PySem.W PyProof.Rows
set_option maxHeartbeats 0 in
theorem PySem.Challenge.cw_interline_k07_errors_holds : PySem.Challenge.rw_interline_k07_errors.Holds := by
  w_on; o_law; k_head; (case hw => w_witness2)
  k_fill
  refine Ln.walkG (l := PySem.Challenge.rw_interline_k07_errors) (n := 63) (k := 5) (x := "script") (CX := fun _ => L2.CX0) (sp := fun w => Mine.spLaw _) rfl (by decide) rfl ⟨rfl, by decide, by decide⟩ (fun w h Y => PySem.W.kIn_of Y) ?F (fun _ _ a ns hl _ hS => ⟨a, ns, rfl, hS, hl, fun _ => rfl⟩) (fun _ _ _ _ _ h => h)
  case F =>
    intro w mg fa h KX G hmg
    refine' Mine.all_mk KX G hmg ?mB ?eB ?hB ?tB ?hn ?ht ?a0 ?x0 ?sa0 ?ga0 ?gg0 ?gc0 ?mo0 ?no0reason ?kC0 ?eC0 ?vC0 ?bC0 ?tC0 ?hC0 ?ai0 ?ti0 ?li0 ?ci0 ?ki0 ?a1 ?x1 ?sa1 ?ga1 ?gg1 ?gc1 ?mo1 ?no1reason ?kC1 ?eC1 ?vC1 ?bC1 ?tC1 ?hC1 ?ai1 ?ti1 ?li1 ?ci1 ?ki1 ?a2 ?x2 ?sa2 ?ga2 ?gg2 ?gc2 ?mo2 ?no2reason ?kC2 ?eC2 ?vC2 ?bC2 ?tC2 ?hC2 ?ai2 ?ti2 ?li2 ?ci2 ?ki2 ?a3 ?x3 ?sa3 ?ga3 ?gg3 ?gc3 ?mo3 ?no3reason ?kC3 ?eC3 ?vC3 ?bC3 ?tC3 ?hC3 ?ai3 ?ti3 ?li3 ?ci3 ?ki3 ?a4 ?x4 ?sa4 ?ga4 ?gg4 ?gc4 ?mo4 ?no4at ?kC4 ?eC4 ?vC4 ?bC4 ?tC4 ?hC4 ?ai4 ?ti4 ?li4 ?ci4 ?ki4 ?a5 ?x5 ?sa5 ?ga5 ?gg5 ?gc5 ?mo5 ?no5path ?no5reason ?kC5 ?eC5 ?vC5 ?bC5 ?tC5 ?hC5 ?ai5 ?ti5 ?li5 ?ci5 ?ki5 ?a6 ?x6 ?sa6 ?ga6 ?gg6 ?gc6 ?mo6 ?no6number ?no6reason ?kC6 ?eC6 ?vC6 ?bC6 ?tC6 ?hC6 ?ai6 ?ti6 ?li6 ?ci6 ?ki6 ?a7 ?x7 ?sa7 ?ga7 ?gg7 ?gc7 ?mo7 ?no7line ?kC7 ?eC7 ?vC7 ?bC7 ?tC7 ?hC7 ?ai7 ?ti7 ?li7 ?ci7 ?ki7 ?s00 ?s01 ?s02 ?s03 ?s04 ?s05 ?s06 ?s07 ?s10 ?s11 ?s12 ?s13 ?s14 ?s15 ?s16 ?s17 ?s20 ?s21 ?s22 ?s23 ?s24 ?s25 ?s26 ?s27 ?s30 ?s31 ?s32 ?s33 ?s34 ?s35 ?s36 ?s37 ?s40 ?s41 ?s42 ?s43 ?s44 ?s45 ?s46 ?s47 ?s50 ?s51 ?s52 ?s53 ?s54 ?s55 ?s56 ?s57 ?s60 ?s61 ?s62 ?s63 ?s64 ?s65 ?s66 ?s67 ?s70 ?s71 ?s72 ?s73 ?s74 ?s75 ?s76 ?s77 ?a__law_value ?l__law_value ?c__law_value ?k__law_value ?a__law_kinds ?l__law_kinds ?c__law_kinds ?k__law_kinds ?a__law_raise ?l__law_raise ?c__law_raise ?k__law_raise ?a__law_caught ?l__law_caught ?c__law_caught ?k__law_caught ?a__law_fields ?l__law_fields ?c__law_fields ?k__law_fields ?a_law ?l_law ?c_law ?k_law ?z_len ?z_abs ?z_int ?z_range ?z_isinstance ?z_repr ?z_ValueError
    (case mB => k_is)
    (case eB => k_is)
    (case hB => k_is)
    (case tB => k_is)
    (case hn => k_is)
    (case ht => k_is)
    (case a0 => k_is)
    (case x0 => k_is)
    (case sa0 => k_is)
    (case ga0 => k_is)
    (case gg0 => k_is)
    (case gc0 => k_is)
    (case mo0 => k_is)
    (case no0reason => k_is)
    (case kC0 => k_is)
    (case eC0 => k_is)
    (case vC0 => k_is)
    (case bC0 => k_is)
    (case tC0 => k_is)
    (case hC0 => k_is)
    (case ai0 => k_is)
    (case ti0 => k_is)
    (case li0 => k_is)
    (case ci0 => k_is)
    (case ki0 => k_is)
    (case a1 => k_is)
    (case x1 => k_is)
    (case sa1 => k_is)
    (case ga1 => k_is)
    (case gg1 => k_is)
    (case gc1 => k_is)
    (case mo1 => k_is)
    (case no1reason => k_is)
    (case kC1 => k_is)
    (case eC1 => k_is)
    (case vC1 => k_is)
    (case bC1 => k_is)
    (case tC1 => k_is)
    (case hC1 => k_is)
    (case ai1 => k_is)
    (case ti1 => k_is)
    (case li1 => k_is)
    (case ci1 => k_is)
    (case ki1 => k_is)
    (case a2 => k_is)
    (case x2 => k_is)
    (case sa2 => k_is)
    (case ga2 => k_is)
    (case gg2 => k_is)
    (case gc2 => k_is)
    (case mo2 => k_is)
    (case no2reason => k_is)
    (case kC2 => k_is)
    (case eC2 => k_is)
    (case vC2 => k_is)
    (case bC2 => k_is)
    (case tC2 => k_is)
    (case hC2 => k_is)
    (case ai2 => k_is)
    (case ti2 => k_is)
    (case li2 => k_is)
    (case ci2 => k_is)
    (case ki2 => k_is)
    (case a3 => k_is)
    (case x3 => k_is)
    (case sa3 => k_is)
    (case ga3 => k_is)
    (case gg3 => k_is)
    (case gc3 => k_is)
    (case mo3 => k_is)
    (case no3reason => k_is)
    (case kC3 => k_is)
    (case eC3 => k_is)
    (case vC3 => k_is)
    (case bC3 => k_is)
    (case tC3 => k_is)
    (case hC3 => k_is)
    (case ai3 => k_is)
    (case ti3 => k_is)
    (case li3 => k_is)
    (case ci3 => k_is)
    (case ki3 => k_is)
    (case a4 => k_is)
    (case x4 => k_is)
    (case sa4 => k_is)
    (case ga4 => k_is)
    (case gg4 => k_is)
    (case gc4 => k_is)
    (case mo4 => k_is)
    (case no4at => k_is)
    (case kC4 => k_is)
    (case eC4 => k_is)
    (case vC4 => k_is)
    (case bC4 => k_is)
    (case tC4 => k_is)
    (case hC4 => k_is)
    (case ai4 => k_is)
    (case ti4 => k_is)
    (case li4 => k_is)
    (case ci4 => k_is)
    (case ki4 => k_is)
    (case a5 => k_is)
    (case x5 => k_is)
    (case sa5 => k_is)
    (case ga5 => k_is)
    (case gg5 => k_is)
    (case gc5 => k_is)
    (case mo5 => k_is)
    (case no5path => k_is)
    (case no5reason => k_is)
    (case kC5 => k_is)
    (case eC5 => k_is)
    (case vC5 => k_is)
    (case bC5 => k_is)
    (case tC5 => k_is)
    (case hC5 => k_is)
    (case ai5 => k_is)
    (case ti5 => k_is)
    (case li5 => k_is)
    (case ci5 => k_is)
    (case ki5 => k_is)
    (case a6 => k_is)
    (case x6 => k_is)
    (case sa6 => k_is)
    (case ga6 => k_is)
    (case gg6 => k_is)
    (case gc6 => k_is)
    (case mo6 => k_is)
    (case no6number => k_is)
    (case no6reason => k_is)
    (case kC6 => k_is)
    (case eC6 => k_is)
    (case vC6 => k_is)
    (case bC6 => k_is)
    (case tC6 => k_is)
    (case hC6 => k_is)
    (case ai6 => k_is)
    (case ti6 => k_is)
    (case li6 => k_is)
    (case ci6 => k_is)
    (case ki6 => k_is)
    (case a7 => k_is)
    (case x7 => k_is)
    (case sa7 => k_is)
    (case ga7 => k_is)
    (case gg7 => k_is)
    (case gc7 => k_is)
    (case mo7 => k_is)
    (case no7line => k_is)
    (case kC7 => k_is)
    (case eC7 => k_is)
    (case vC7 => k_is)
    (case bC7 => k_is)
    (case tC7 => k_is)
    (case hC7 => k_is)
    (case ai7 => k_is)
    (case ti7 => k_is)
    (case li7 => k_is)
    (case ci7 => k_is)
    (case ki7 => k_is)
    (case s00 => first | rfl | k_is)
    (case s01 => first | rfl | k_is)
    (case s02 => first | rfl | k_is)
    (case s03 => first | rfl | k_is)
    (case s04 => first | rfl | k_is)
    (case s05 => first | rfl | k_is)
    (case s06 => first | rfl | k_is)
    (case s07 => first | rfl | k_is)
    (case s10 => first | rfl | k_is)
    (case s11 => first | rfl | k_is)
    (case s12 => first | rfl | k_is)
    (case s13 => first | rfl | k_is)
    (case s14 => first | rfl | k_is)
    (case s15 => first | rfl | k_is)
    (case s16 => first | rfl | k_is)
    (case s17 => first | rfl | k_is)
    (case s20 => first | rfl | k_is)
    (case s21 => first | rfl | k_is)
    (case s22 => first | rfl | k_is)
    (case s23 => first | rfl | k_is)
    (case s24 => first | rfl | k_is)
    (case s25 => first | rfl | k_is)
    (case s26 => first | rfl | k_is)
    (case s27 => first | rfl | k_is)
    (case s30 => first | rfl | k_is)
    (case s31 => first | rfl | k_is)
    (case s32 => first | rfl | k_is)
    (case s33 => first | rfl | k_is)
    (case s34 => first | rfl | k_is)
    (case s35 => first | rfl | k_is)
    (case s36 => first | rfl | k_is)
    (case s37 => first | rfl | k_is)
    (case s40 => first | rfl | k_is)
    (case s41 => first | rfl | k_is)
    (case s42 => first | rfl | k_is)
    (case s43 => first | rfl | k_is)
    (case s44 => first | rfl | k_is)
    (case s45 => first | rfl | k_is)
    (case s46 => first | rfl | k_is)
    (case s47 => first | rfl | k_is)
    (case s50 => first | rfl | k_is)
    (case s51 => first | rfl | k_is)
    (case s52 => first | rfl | k_is)
    (case s53 => first | rfl | k_is)
    (case s54 => first | rfl | k_is)
    (case s55 => first | rfl | k_is)
    (case s56 => first | rfl | k_is)
    (case s57 => first | rfl | k_is)
    (case s60 => first | rfl | k_is)
    (case s61 => first | rfl | k_is)
    (case s62 => first | rfl | k_is)
    (case s63 => first | rfl | k_is)
    (case s64 => first | rfl | k_is)
    (case s65 => first | rfl | k_is)
    (case s66 => first | rfl | k_is)
    (case s67 => first | rfl | k_is)
    (case s70 => first | rfl | k_is)
    (case s71 => first | rfl | k_is)
    (case s72 => first | rfl | k_is)
    (case s73 => first | rfl | k_is)
    (case s74 => first | rfl | k_is)
    (case s75 => first | rfl | k_is)
    (case s76 => first | rfl | k_is)
    (case s77 => first | rfl | k_is)
    (case a__law_value => k_is)
    (case l__law_value => k_is)
    (case c__law_value => k_is)
    (case k__law_value => k_is)
    (case a__law_kinds => k_is)
    (case l__law_kinds => k_is)
    (case c__law_kinds => k_is)
    (case k__law_kinds => k_is)
    (case a__law_raise => k_is)
    (case l__law_raise => k_is)
    (case c__law_raise => k_is)
    (case k__law_raise => k_is)
    (case a__law_caught => k_is)
    (case l__law_caught => k_is)
    (case c__law_caught => k_is)
    (case k__law_caught => k_is)
    (case a__law_fields => k_is)
    (case l__law_fields => k_is)
    (case c__law_fields => k_is)
    (case k__law_fields => k_is)
    (case a_law => k_is)
    (case l_law => k_is)
    (case c_law => k_is)
    (case k_law => k_is)
    (case z_len => k_is)
    (case z_abs => k_is)
    (case z_int => k_is)
    (case z_range => k_is)
    (case z_isinstance => k_is)
    (case z_repr => k_is)
    (case z_ValueError => k_is)
#print axioms PySem.Challenge.cw_interline_k07_errors_holds
