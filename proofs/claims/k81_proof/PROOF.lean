import PyProof.Rows.All
import Wide.All
import OpenK.AllK
import Wide.FinOn
import PyProof.EqAt
import PyProof.EqKinds
import PyProof.TupleCall
import PyProof.ReprRoads
import HandS.ForMost
import HandS.ForExc
import HandS.ExcInit
import HandS.ExcField
import HandS.IsInst
import HandS.Codes
import HandS.Conv
import HandS.Flow
import HandS.SortRule
import HandS.TupMul
import HandS.TupAny
import HandS.Walk
import PyProof.ReprLen
import HandS.TryMany
import HandS.ExcIs
import HandS.HotCalls
import KE.GoesEnum
import HandS.Iter
import HandS.Comp
import HandS.DictComp
import KE.SortData
import HandS.Strs
import HandS.SortKw
import KE.DataMinMax
import HandS.Style
import HandS.Deep
import HandS.Zip
import HandS.Dict
import PyProof.DictUpdate
import PyProof.Rows.ReprOcc
import HandS.WideBits
import HandS.Star
import KE.DataCmp
import PySem.Challenge.RW_interline_k81_whole_balanced_planes
import HandS.Words
set_option Elab.async false
set_option linter.all false
set_option maxRecDepth 100000
set_option maxHeartbeats 4000000
namespace Ln
open PySem PySem.Spec PyProof.Rows L2
/-! ## contracts that know that no display is under way -/
structure FnG (P : Program) (w : World) (K : PySem.W.Frag) (mg : Str → Option Value) (base : Heap) (CX : CXT) (k : Nat) (f : Addr) (fd : FuncData) (ps : List Str) (sp : Sp) : Prop where
  len : ∀ vs H Q E, sp vs H Q E → vs.length = ps.length
  run : ∀ (A : Around) (outer : List Env) (s : Shared) (H : Hp) (args : Args) (us : List Value) (vs : List V) (Q : VK) (E : XK), A.guards = some [] → Room k A → Env0 P w K mg base A outer s H →
    BindsTo s fd args (ps.zip us) → Vals vs us → sp vs H Q E → codeAny (model P w) A (.call (.ref f) args) (CR CX outer P w H s Q E) s
section
variable {P : Program} {w : World} {K : PySem.W.Frag} {mg : Str → Option Value} {base : Heap} {CX : CXT}
theorem FnG.mono {j k : Nat} {f : Addr} {fd : FuncData} {ps : List Str} {sp : Sp} (F : FnG P w K mg base CX j f fd ps sp) (h : j ≤ k) : FnG P w K mg base CX k f fd ps sp :=
  ⟨F.len, fun A o s H args us vs Q E hG hr => F.run A o s H args us vs Q E hG (hr.mono h)⟩
/-- the body of a def, walked where nothing is being shown -/
theorem fnG_of {k : Nat} {f : Addr} {name qual : Str} {params : Arguments} {body : List Stmt} {scope : Scope} {dV kV doc pm cdv ct oc : Value} {an od : Option Addr} {osl : Array (Option Value)} {N ps : List Str} {sp : Sp}
    (lk : K.lookup f = some ⟨oc, od, .func (PySem.W.fnOf name qual params body scope dV kV doc pm an cdv ct), osl⟩) (hcd : PySem.W.codeIn K cdv qual = true) (S : FnScope N ps scope) (len : ∀ vs H Q E, sp vs H Q E → vs.length = ps.length)
    (hbody : ∀ (A : Around) (outer : List Env) (s : Shared) (H : Hp) (vs : List V) (Q : VK) (E : XK), A.guards = some [] → Room k (A.deeper (envOfC qual scope s.heap.objs.size f cdv)) → sp vs H Q E →
      ∃ t, PSs (cxOf CX P w K mg base N qual scope f cdv A outer s H E) body t ∧ t { nx := fun _ H' => Q .non H', rt := Q } (start N vs) H) :
    FnG P w K mg base CX (k + 1) f (PySem.W.fnOf name qual params body scope dV kV doc pm an cdv ct) ps sp := by
  constructor
  · exact len
  intro A outer s H args us vs Q E hG hr e0 hb r hsp
  have hl := len _ _ _ _ hsp
  have KX : K.In s.heap := e0.mod.kin.keeps fun b o e => (e0.bs b o e).1
  have lim : s.heap.NoLimit := e0.mod.nolimit.keeps fun b o e => (e0.bs b o e).1
  have hkind : ∀ y ∈ ps.zip us, scope.names.lookup y.1 = some .local ∨ (scope.names.lookup y.1 = some .cell ∧ ((cellsFrom (s.heap.objs.size + 1) scope.names []).lookup y.1).isSome = true) := by
    rintro ⟨n, v⟩ hy
    cases S.par n (List.of_mem_zip hy).1 with
    | inl q => exact .inl q
    | inr q => exact .inr ⟨q, PySem.W.cellsFrom_some _ _ _ (.inl q)⟩
  apply codeAny_call_function hr.depth (KX _ _ lk) rfl S.co S.gen rfl (PySem.W.codeRec_of KX hcd) (hb _ _ _ _ ?_)
  apply wpAny_newFunctionEnv_cells S.kind hkind
  intro env he s1 x
  subst he
  constructor
  · exact lim.keeps x.toInCall.keep
  apply codeAny_func
  obtain ⟨t, ht, hq⟩ := hbody A outer s H vs Q E hG (hr.deeper _) hsp
  have I : Inv (cxOf CX P w K mg base N qual scope f cdv A outer s H E) [] (start N vs) H s1 := inv_start S hr.hd e0 hl r x
  apply wpAny_mono (ht.run [] s1 (start N vs) H _ I hq) _ (fun e s' hs => hs)
  intro fl s' hs
  cases fl with
  | ret u =>
    obtain ⟨v, σ', H', J, rv, q⟩ := hs
    exact ⟨v, H', J.os, J.bare, J.base, J.hok, rv, q⟩
  | next =>
    obtain ⟨σ', H', J, q⟩ := hs
    exact ⟨V.non, H', J.os, J.bare, J.base, J.hok, rfl, q⟩
  | brk =>
    obtain ⟨_, _, _, q⟩ := hs
    cases q
  | cont =>
    obtain ⟨_, _, _, q⟩ := hs
    cases q
/-- a def of the text that lets nothing out -/
theorem okG {x qual : Str} {st : Stmt} {f : Addr} {fd : FuncData} {N ps : List Str} {k : Nat} {sp : Sp} (F : Fun K x qual st f fd) (S : FnScope N ps (defScope st)) (len : ∀ vs H Q E, sp vs H Q E → vs.length = ps.length)
    (hbody : ∀ (cdv : Value) (A : Around) (outer : List Env) (s : Shared) (H : Hp) (vs : List V) (Q : VK) (E : XK), A.guards = some [] → Room k (A.deeper (envOfC qual (defScope st) s.heap.objs.size f cdv)) → sp vs H Q E →
      ∃ t, PSs (cxOf CX0 P w K mg base N qual (defScope st) f cdv A outer s H E).nox (defBody st) t ∧ t { nx := fun _ H' => Q .non H', rt := Q } (start N vs) H) : FnG P w K mg base CX0 (k + 1) f fd ps sp := by
  obtain ⟨oc, od, kV, doc, pm, an, cdv, ct, osl, rfl, lk, hcd⟩ := F.ex
  apply fnG_of lk hcd S len
  intro A outer s H vs Q E hG hr hsp
  obtain ⟨t, h, q⟩ := hbody cdv A outer s H vs Q E hG hr hsp
  exact ⟨t, h.nox, q⟩
/-- one that may raise -/
theorem okX {x qual : Str} {st : Stmt} {f : Addr} {fd : FuncData} {N ps : List Str} {k : Nat} {sp : Sp} (F : Fun K x qual st f fd) (S : FnScope N ps (defScope st)) (len : ∀ vs H Q E, sp vs H Q E → vs.length = ps.length)
    (hbody : ∀ (cdv : Value) (A : Around) (outer : List Env) (s : Shared) (H : Hp) (vs : List V) (Q : VK) (E : XK), A.guards = some [] → Room k (A.deeper (envOfC qual (defScope st) s.heap.objs.size f cdv)) → sp vs H Q E →
      ∃ t, PSs (cxOf (L2.CX P w) P w K mg base N qual (defScope st) f cdv A outer s H E) (defBody st) t ∧ t { nx := fun _ H' => Q .non H', rt := Q } (start N vs) H) : FnG P w K mg base (L2.CX P w) (k + 1) f fd ps sp := by
  obtain ⟨oc, od, kV, doc, pm, an, cdv, ct, osl, rfl, lk, hcd⟩ := F.ex
  exact fnG_of lk hcd S len fun A outer s H vs Q E hG hr hsp => hbody cdv A outer s H vs Q E hG hr hsp
/-- a def that may be called by its name -/
structure Cg (P : Program) (w : World) (K : PySem.W.Frag) (mg : Str → Option Value) (base : Heap) (CX : CXT) (k : Nat) (x : Str) (sp : Sp) : Prop where
  ex : ∃ (f : Addr) (fd : FuncData) (ps : List Str), FnG P w K mg base CX k f fd ps sp ∧ mg x = some (.ref f) ∧ PySem.W.keepIn K (.ref f) = true ∧ Binds K fd ps []
end
section
variable {X : Cx} {CX : CXT} {j k : Nat} {f : Addr} {fd : FuncData} {ps : List Str} {sp : Sp} {E : XK} {ES : L2.St → XK} {x : Str} {p pos : Pos} {e : Expr} {es : List Expr} {t : TA}
theorem runG {pins : List (Addr × Obj)} {σ : L2.St} {H : Hp} {s : Shared} {Q : VK} {us : List Value} {vs : List V} (F : FnG X.prog X.w X.K X.mg X.base CX k f fd ps sp) (hr : Room k X.A) (hG : X.A.guards = some []) (hb : Binds X.K fd ps [])
    (hx : PassesAt CX X σ E) (I : Inv X pins σ H s) (r : Vals vs us) (h : sp vs H Q E) : wpAny (model X.prog X.w) X.A (call (.ref f) us) (EP X pins σ Q) X.xe s := by
  have hl : us.length = ps.length := by rw [← r.length]; exact F.len _ _ _ _ h
  apply wpAny_call (codeAny_mono (F.run X.A X.stack s H ⟨us, []⟩ us vs Q E hG hr I.env0 (by have q := hb s us I.kIn (by simpa using hl); simpa using q) r h) _)
  intro r s' hq
  cases r with
  | error e => exact hx pins H s e s' I hq
  | ok fl =>
    cases fl with
    | ret u => exact I.after hq
    | next => exact hq.elim
    | brk => exact hq.elim
    | cont => exact hq.elim
/-- the reading of a call -/
def tCg (sp : Sp) (E : L2.St → XK) (t : TA) : TE := fun σ H Q => t σ H fun vs H1 => sp vs H1 Q (E σ)
theorem pe_cgS (c : Cg X.prog X.w X.K X.mg X.base CX k x sp) (hr : Room j X.A) (hk : k ≤ j) (hG : X.A.guards = some []) (hx : ∀ σ, PassesAt CX X σ (ES σ)) (hg : Gl X x) (ha : PA X (e :: es) t)
    (hdb : (x == ("__debug__" : Str)) = false := by decide) (he : starEach (e :: es) X.env = (false, eval e X.env) :: starEach es X.env := by rfl) (hpl : (backTo pos (starEach es X.env)).any (·.1) = false := by rfl) :
    PE X (.Call (.Name x p) (e :: es) [] pos) (tCg sp ES t) := by
  constructor
  intro pins s σ H Q I h
  obtain ⟨f, fd, ps, F, hm, kp, b⟩ := c.ex
  apply wpAny_Call_Name_kw (ld_glob I hg hm ?_ hdb)
  apply PySem.W.callWith_K (h₀ := X.base) I.ok.mod.kin kp (thn (ha.run pos pins s σ H _ I h) _) he hpl
  rintro us s1 ⟨vs, H1, I1, r, q⟩
  exact ⟨I1.kIn, runG F (hr.mono hk) hG b (hx σ) I1 r q⟩
theorem pe_cgS0 (c : Cg X.prog X.w X.K X.mg X.base CX k x sp) (hr : Room j X.A) (hk : k ≤ j) (hG : X.A.guards = some []) (hx : ∀ σ, PassesAt CX X σ (ES σ)) (hg : Gl X x)
    (hdb : (x == ("__debug__" : Str)) = false := by decide) : PE X (.Call (.Name x p) [] [] pos) (tCg sp ES tNil) := by
  constructor
  intro pins s σ H Q I h
  obtain ⟨f, fd, ps, F, hm, kp, b⟩ := c.ex
  apply wpAny_Call_Name_kw (ld_glob I hg hm ?_ hdb)
  exact PySem.W.callWith_K0 I.kIn kp (runG (us := []) F (hr.mono hk) hG b (hx σ) I .nil h)
theorem passE (tk : Takes X (fun cls d _ H => E cls d H)) {σ : L2.St} : PassesAt (L2.CX X.prog X.w) X σ E := fun _ _ _ e s' I c => tk e s' (XE.of_call I (fun _ _ _ h => h) c)
theorem passAt0 (σ : L2.St) : PassesAt CX0 X σ E0 := fun _ _ _ _ _ _ h => h.elim
/-- a call of a def that lets nothing out -/
theorem pe_cg (c : Cg X.prog X.w X.K X.mg X.base CX0 k x sp) (hr : Room j X.A) (hk : k ≤ j) (hG : X.A.guards = some []) (hg : Gl X x) (ha : PA X (e :: es) t)
    (hdb : (x == ("__debug__" : Str)) = false := by decide) (he : starEach (e :: es) X.env = (false, eval e X.env) :: starEach es X.env := by rfl) (hpl : (backTo pos (starEach es X.env)).any (·.1) = false := by rfl) :
    PE X (.Call (.Name x p) (e :: es) [] pos) (tCg sp (fun _ => E0) t) := pe_cgS c hr hk hG passAt0 hg ha hdb he hpl
end
/-! ## repr of data -/
def Shw (d : PyData) : Prop := d.showable = true ∧ d.depth ≤ 60 ∧ d.shown.length ≤ sizeLine
theorem Dp.nodict {K : PySem.W.Frag} {H : Hp} : ∀ (d : PyData) (v : V), Dp K H v d → d.hasDict = false ∧ True
  | .none, _, _ => ⟨by simp only [PyData.hasDict], trivial⟩
  | .bool _, _, _ => ⟨by simp only [PyData.hasDict], trivial⟩
  | .int _, _, _ => ⟨by simp only [PyData.hasDict], trivial⟩
  | .str _, _, _ => ⟨by simp only [PyData.hasDict], trivial⟩
  | .list ds, _, h => by
    cases h with
    | lst _ ha =>
      have q := nodictAll ds _ ha
      exact ⟨by simp only [PyData.hasDict]; exact q, trivial⟩
  | .tuple ds, _, h => by
    cases h with
    | tup _ ha =>
      have q := nodictAll ds _ ha
      exact ⟨by simp only [PyData.hasDict]; exact q, trivial⟩
  | .dict _, _, h => by cases h
where
  nodictAll : ∀ (ds : List PyData) (vs : List V), DpAll K H vs ds → PyData.hasDictAll ds = false
    | [], _, _ => by simp only [PyData.hasDictAll]
    | d :: ds, _, h => by
      cases h with
      | cons h1 h2 =>
        simp only [PyData.hasDictAll, Bool.or_eq_false_iff]
        exact ⟨(Dp.nodict d _ h1).1, nodictAll ds _ h2⟩
section
variable {X : Cx}
theorem call_reprD (hG : X.A.guards = some []) (hu : X.A.units + 64 < cLine) : CallR X (.builtin "repr") (fun xs H Q => ∃ x d, xs = [x] ∧ Dp X.K H x d ∧ Shw d ∧ Q (.str d.shown) H) := by
  intro pins s σ H xs us Q I r h
  obtain ⟨x, d, rfl, hd, ⟨h1, h2, h3⟩, q⟩ := h
  obtain ⟨u, rfl, ru⟩ := vals1 r
  have nd := (Dp.nodict d x hd).1
  have ref : ∀ a, x = .ref a → wpAny (model X.prog X.w) X.A (call (.builtin "repr") [u]) (EP X pins σ Q) X.xe s := by
    rintro a rfl
    obtain rfl : u = Value.ref a := ru
    obtain ⟨as, hr⟩ := Dp.reads I d _ _ hd rfl
    apply repr_of_reads' hr h1 (PyData.noDict_hsm nd) hG (by omega) (fun _ _ e => e) _ h3
    intro h' u tk hk
    exact ⟨.str d.shown, H, I.kept (t' := tk) hk, ⟨u, rfl⟩, q⟩
  cases hd with
  | non => cases ru; exact PySem.P.repr_of_none ⟨.str _, H, I.tok _, ⟨_, rfl⟩, by simpa only [PyData.shown] using q⟩
  | bl b => cases ru; exact PySem.P.repr_of_bool ⟨.str _, H, I.tok _, ⟨_, rfl⟩, by simpa only [PyData.shown] using q⟩
  | int i =>
    obtain ⟨t, rfl⟩ := ru
    exact PySem.P.repr_of_int (by simpa [PyData.showable] using h1) ⟨.str _, H, I.tok _, ⟨_, rfl⟩, by simpa only [PyData.shown] using q⟩
  | str z =>
    obtain ⟨t, rfl⟩ := ru
    exact PySem.P.repr_of_str ⟨.str _, H, I.tok _, ⟨_, rfl⟩, by simpa only [PyData.shown] using q⟩ (by simpa only [PyData.shown] using h3)
  | lst _ _ => exact ref _ rfl
  | tup _ _ => exact ref _ rfl
/-- xs[i] with i from 0 on, read for a store that changes it -/
def rGetL (K : PySem.W.Frag) : V → V → Hp → VK → Prop := fun o i H Q => ∃ (p : Addr) (xs : List V) (k : Nat) (v : V), o = .ref p ∧ i = .int k ∧ SqL K H p xs ∧ xs[k]? = some v ∧ Q v H
theorem get_list : PGet X (rGetL X.K) := by
  intro pins s σ H o i ov iv Q I ro ri h
  obtain ⟨p, xs, k, v, rfl, rfl, hq, hk, q⟩ := h
  cases ro
  obtain ⟨t, rfl⟩ := ri
  obtain ⟨its, r, pl, hz⟩ := I.list hq
  obtain ⟨u, hu, ru⟩ := r.get hk
  have hn := line63
  have hl := r.length
  have hlt : k < xs.length := (List.getElem?_eq_some_iff.mp hk).1
  exact PySem.wpAny_getItem_list pl.isList (by omega) (by omega) (by simpa using hu) ⟨v, H, I, ru, q⟩
end
/-! ## the law's end, for a contract of this kind -/
theorem lawG {P : Program} {w : World} {K : PySem.W.Frag} {mg mb : Str → Option Value} {CX : CXT} {k : Nat} {fa a : Addr} {fd : FuncData} {x : Str} {sp : Sp} {s₁ : Shared} {vs : List Value} {ns : List Int}
    (KX : K.In s₁.heap) (hns : s₁.heap.Ns mainGlobals mg) (hb : s₁.heap.Ns builtinsNs mb) (hbb : ∀ x : Str, x ≠ "__name__" → mb x = bootBuiltins x) (hlim : s₁.heap.NoLimit) (hg : s₁.gens = #[])
    (ha : s₁.heap.get? a = some { cls := .type "list", data := .seq vs.toArray }) (hi : IntsAre vs ns) (hl : ns.length ≤ sizeLine) (hr : Room k callerA)
    (F : ∀ base : Heap, K.In base → base.Ns mainGlobals mg → FnG P w K mg base CX k fa fd [x] sp) (hbind : ∀ (s : Shared) (u : Value), BindsTo s fd ⟨[u], []⟩ [(x, u)])
    (hsp : ∀ H : Hp, Only H → SqL K H a (ns.map V.int) → sp [.ref a] H (fun v _ => v = .bl true) fun _ _ _ => False) (hCX : ∀ H e s', CX [] H s₁ (fun _ _ _ => False) e s' → False) :
    codeAny (model P w) callerA (.call (.ref fa) ⟨[.ref a], []⟩) (fun r s' => r = .ok (.ret (.bool true)) ∧ OldK s₁.heap s'.heap ∧ s'.os = s₁.os ∧ AllBare s'.gens) s₁ := by
  have rv := vals_ints hi
  have lenV := hi.length
  have core : ∀ H : Hp, Only H → SqL K H a (ns.map V.int) → HOk P w H s₁.heap → (∀ b, H b ≠ none → b = a) → (H a ≠ none → K.lookup a = none) →
      codeAny (model P w) callerA (.call (.ref fa) ⟨[.ref a], []⟩) (fun r s' => r = .ok (.ret (.bool true)) ∧ OldK s₁.heap s'.heap ∧ s'.os = s₁.os ∧ AllBare s'.gens) s₁ := by
    intro H hO hS hok hA hK
    have noA : ∀ {b : Addr} {o : Obj} {es : Array DictEntry} {ep : Nat}, s₁.heap.get? b = some o → o.data = .dict es ep → H b = none := by
      intro b o es ep e d
      by_cases q : H b = none
      · exact q
      · have e' := hA b q
        subst e'
        rw [ha] at e
        cases e
        cases (show Data.seq vs.toArray _ = Data.dict es ep from d)
    have nsK : ∀ {b : Addr} {m : Str → Option Value}, s₁.heap.Ns b m → (hidT s₁.heap H).Ns b m := by
      rintro b m ⟨o, es, ep, e, d, r⟩
      exact ⟨o, es, ep, hidT_get e (noA e d), d, r⟩
    have hKb : K.In (hidT s₁.heap H) := by
      intro b o e
      apply hidT_get (KX b o e)
      by_cases q : H b = none
      · exact q
      · have e' := hA b q
        subst e'
        rw [hK q] at e
        cases e
    have hM : Mod K mg (hidT s₁.heap H) := ⟨hKb, nsK hns, ⟨mb, nsK hb, hbb⟩, by obtain ⟨mc, h1, h2⟩ := hlim; exact ⟨mc, nsK h1, h2⟩⟩
    have e0 : Env0 P w K mg (hidT s₁.heap H) callerA [] s₁ H := ⟨rfl, hM, fun b o e => of_hidT e, Nat.le_of_eq (hidT_size _ _), trivial, fun b hb => absurd (show b ∈ ([] : List Addr) from hb) (by simp), hok, .of_eq hg⟩
    apply codeAny_mono ((F _ hKb (nsK hns)).run callerA [] s₁ H ⟨[.ref a], []⟩ [.ref a] [.ref a] _ _ rfl hr e0 (hbind s₁ (.ref a)) (.cons rfl .nil) (hsp H hO hS))
    intro r s' h
    cases r with
    | error e => exact (hCX H e s' h).elim
    | ok fl =>
      cases fl with
      | ret u =>
        obtain ⟨v, H', os, bare, un, hok', r', q⟩ := h
        obtain rfl : v = .bl true := q
        obtain rfl : u = Value.bool true := r'
        refine ⟨rfl, OldK.of_keep ?_, os, bare⟩
        intro b o e
        by_cases q : H b = none
        · exact un.keep b o e q (by intro z; exact absurd (show b ∈ ([] : List Addr) from z) (by simp)) (by simp)
        · rcases hO b with z | ⟨ob, xs, z⟩
          · exact absurd z q
          · obtain ⟨e1, _⟩ := hok b _ z
            obtain ⟨e2, _⟩ := hok' b _ (un.frzs b ob _ z)
            rw [e] at e1
            cases e1
            exact e2
      | next => exact h.elim
      | brk => exact h.elim
      | cont => exact h.elim
  cases hk : K.lookup a with
  | some o =>
    have e := KX a o hk
    rw [ha] at e
    cases e
    have hS : SqL K (fun _ => none) a (ns.map V.int) := .inr ⟨_, vs.toArray, _, hk, rfl, rfl, rfl, by rw [List.size_toArray, lenV]; exact hl, by simpa using rv⟩
    exact core (fun _ => none) (fun _ => .inl rfl) hS (fun b u z => nomatch (show (none : Option HO) = some u from z)) (fun b z => absurd rfl z) fun z => absurd rfl z
  | none =>
    have no : ∀ b, b ≠ a → (if b = a then some (HO.frz { cls := .type "list", data := .seq vs.toArray } (.lst (ns.map V.int))) else none) = none := fun b hb => if_neg hb
    apply core (fun b => if b = a then some (.frz { cls := .type "list", data := .seq vs.toArray } (.lst (ns.map V.int))) else none)
    · intro b
      by_cases hb : b = a
      · exact .inr ⟨_, _, if_pos hb⟩
      · exact .inl (if_neg hb)
    · exact .inl (.inr ⟨{ cls := .type "list", data := .seq vs.toArray }, if_pos rfl⟩)
    · intro b u z
      by_cases hb : b = a
      · subst hb
        have z' := (if_pos rfl).symm.trans z
        cases z'
        exact ⟨ha, by rw [List.length_map]; exact hl, vs, _, rv, ha⟩
      · exact nomatch (no b hb).symm.trans z
    · intro b z
      by_cases hb : b = a
      · exact hb
      · exact absurd (no b hb) z
    · exact fun _ => hk
theorem walkG {l : PySem.W.OpenLaw} {n k : Nat} {q : Program} {loose : List Str} {XP : (Str → Option Value) → Heap → Prop} {YP : World → Heap → Prop} {d : DefRec} {K : Params → PySem.W.Frag} {CX : World → CXT} {sp : World → Sp} {x : Str}
    (hn : l.most = some n) (hn2 : n ≤ sizeLine) (hdf : d.params.defaults = []) (hr : Room k callerA) (hY : ∀ (w : World) (h : Heap), YP w h → (K w.params).In h)
    (F : ∀ (w : World) (mg : Str → Option Value) (fa : Addr) (h : Heap), (K w.params).In h → h.Ns mainGlobals mg → mg d.name = some (.ref fa) →
      ∃ fd : FuncData, (∀ (s : Shared) (u : Value), BindsTo s fd ⟨[u], []⟩ [(x, u)]) ∧ ∀ base : Heap, (K w.params).In base → base.Ns mainGlobals mg → FnG l.prog w (K w.params) mg base (CX w) k fa fd [x] (sp w))
    (hsp : ∀ (w : World) (H : Hp) (a : Addr) (ns : List Int), ns.length ≤ n → Only H → SqL (K w.params) H a (ns.map V.int) → sp w [.ref a] H (fun v _ => v = .bl true) fun _ _ _ => False)
    (hCX : ∀ (w : World) (H : Hp) (s : Shared) (e : Value) (s' : Shared), CX w [] H s (fun _ _ _ => False) e s' → False) :
    PySem.W.WalkO q loose XP YP l.row.toRowW d [] (fun f vs => PySem.call f vs) := by
  apply Att.attach_call hn hdf
  intro w s₀ s₁ mg mb fa o pm cd doc a vs ns G Y ho hd hcd hmg hobj hints hlen hg
  have KX := hY w _ Y
  obtain ⟨fd, hb, hF⟩ := F w mg fa _ KX G.T.g hmg
  exact lawG KX G.T.g G.T.b G.T.builtins G.T.nolimit hg hobj hints (Nat.le_trans hlen hn2) hr hF hb (fun H hO hS => hsp w H a ns hlen hO hS) fun H e s' => hCX w H s₁ e s'
end Ln
set_option Elab.async false
set_option linter.all false
set_option maxRecDepth 100000
set_option maxHeartbeats 4000000
namespace Ln
open PySem PySem.Spec PyProof.Rows L2
section
variable {prog : Program} {w : World} {A : Around} {E : Value → Shared → Prop} {s : Shared} {l : Addr} {xs : Array (Int × Tok)} {its : List Value} {ns : List Int}
theorem sum_tupG {Q : Value → Shared → Prop} (hh : A.handled = none) (hl : s.heap.IsTuple l (intItems xs))
    (h : ∀ h' tk t', (∀ b o, s.heap.get? b = some o → h'.get? b = some o) → Q (.int (preSum (numAt xs) xs.size) t') { s with heap := h', toks := tk }) :
    wpAny (model prog w) A (call (.builtin "sum") [.ref l]) Q E s := by
  have hlt : l < s.heap.objs.size := by obtain ⟨_, e, _⟩ := hl; exact Heap.lt_size e
  apply call_sum_walkG
  apply wpAny_pyIter_tuple hl
  refine ⟨_, _, _, _, _, _, numAt xs, rfl, Walks.tuple (A := A.in1) hh s.heap.objs.size l (Nat.ne_of_lt hlt) (intItems xs), ⟨⟨_, Heap.get?_push_size _ rfl, rfl, rfl⟩, hl.push _⟩, ?_, (fun _ _ => intItems_at), ?_⟩
  · intro b hb
    show b < (s.heap.push _).objs.size
    rw [Heap.size_push]
    have hb' : b = s.heap.objs.size ∨ b = l := by simpa using hb
    rcases hb' with e | e
    · rw [e]; exact Nat.lt_succ_self _
    · rw [e]; exact Nat.lt_succ_of_lt hlt
  · intro h' tk t' hk
    have old : ∀ b o, s.heap.get? b = some o → h'.get? b = some o := by
      intro b o e
      refine hk b o ?_ (Heap.get?_push_of_some _ e)
      intro hm
      have hb := Heap.lt_size e
      have e1 : b = s.heap.objs.size := by simpa using hm
      rw [e1] at hb
      exact absurd hb (Nat.lt_irrefl _)
    have := h h' tk t' old
    simpa [intItems] using this
theorem sum_rawT (hh : A.handled = none) (hl : s.heap.IsTuple l its.toArray) (hi : IntsAre its ns) {Q : Value → Shared → Prop}
    (h : ∀ h' tk t', (∀ b o, s.heap.get? b = some o → h'.get? b = some o) → Q (.int ns.sum t') { s with heap := h', toks := tk }) : wpAny (model prog w) A (call (.builtin "sum") [.ref l]) Q E s := by
  obtain ⟨xs, e⟩ := hi.allInts.items
  have hn : numsOf (intItems xs).toList = ns := by rw [← e]; exact hi.numsOf
  rw [nums_intItems] at hn
  rw [e] at hl
  apply sum_tupG hh hl
  intro h' tk t' hk
  have := h h' tk t' hk
  rw [preSum_eq, List.take_of_length_le (by simp), hn]
  exact this
end
section
variable {X : Cx}
/-- sum(t) of a tuple of ints -/
def rSumT (K : PySem.W.Frag) : List V → Hp → VK → Prop := fun vs H Q => ∃ (a : Addr) (ns : List Int), vs = [V.ref a] ∧ SqT K H a (ns.map V.int) ∧ Q (.int ns.sum) H
theorem cr_sumT (hc : X.calm = true) : CallR X (.builtin "sum") (rSumT X.K) := by
  intro pins s σ H vs us Q I r h
  obtain ⟨a, ns, rfl, hs, q⟩ := h
  obtain ⟨its, rv, hl, _⟩ := I.tuple hs
  obtain ⟨u, rfl, ru⟩ := vals1 r
  obtain rfl : u = Value.ref a := ru
  exact sum_rawT (I.ok.hd hc) hl rv.ints fun h' tk t' hk => ⟨.int _, H, I.kept hk, ⟨_, rfl⟩, q⟩
end
end Ln
set_option Elab.async false
set_option linter.all false
set_option maxRecDepth 100000
set_option maxHeartbeats 4000000
namespace Ln
open PySem PySem.Spec PyProof.Rows L2
/-! ## plain values and what isinstance says of them -/
section
variable {K : PySem.W.Frag} {H H' : Hp} {x : V}
inductive Plain (K : PySem.W.Frag) (H : Hp) : V → Prop where
  | non : Plain K H .non
  | bl (b : Bool) : Plain K H (.bl b)
  | int (i : Int) : Plain K H (.int i)
  | str (s : Str) : Plain K H (.str s)
  | tup {a : Addr} {xs : List V} (h : SqT K H a xs) : Plain K H (.ref a)
def isI : V → Bool | .int _ => true | _ => false
def isB : V → Bool | .bl _ => true | _ => false
def isS : V → Bool | .str _ => true | _ => false
def isR : V → Bool | .ref _ => true | _ => false
theorem tyx_tup {a : Addr} {xs : List V} (h : SqT K H a xs) : TyX K H (.ref a) (.type "tuple") := by
  rcases h with h | h
  · rcases h with h | ⟨o, h⟩
    · exact .base (.tup h)
    · exact .fTuple h
  · obtain ⟨o, _, _, hk, hc, _⟩ := h
    exact .kTuple hk hc
theorem Plain.kit (h : Plain K H x) : ∃ t, TyX K H x t ∧ PySem.W.kitOne K t (.type "int") = some (isI x || isB x) ∧ PySem.W.kitOne K t (.type "bool") = some (isB x) ∧
    PySem.W.kitOne K t (.type "str") = some (isS x) ∧ PySem.W.kitOne K t (.type "tuple") = some (isR x) := by
  cases h with
  | non => exact ⟨_, .base .non, kit_ty (r := false) (by decide +kernel), kit_ty (r := false) (by decide +kernel), kit_ty (r := false) (by decide +kernel), kit_ty (r := false) (by decide +kernel)⟩
  | bl b => exact ⟨_, .base (.bl b), kit_ty (r := true) (by decide +kernel), kit_ty (r := true) (by decide +kernel), kit_ty (r := false) (by decide +kernel), kit_ty (r := false) (by decide +kernel)⟩
  | int i => exact ⟨_, .base (.int i), kit_ty (r := true) (by decide +kernel), kit_ty (r := false) (by decide +kernel), kit_ty (r := false) (by decide +kernel), kit_ty (r := false) (by decide +kernel)⟩
  | str s => exact ⟨_, .base (.str s), kit_ty (r := false) (by decide +kernel), kit_ty (r := false) (by decide +kernel), kit_ty (r := true) (by decide +kernel), kit_ty (r := false) (by decide +kernel)⟩
  | tup hs => exact ⟨_, tyx_tup hs, kit_ty (r := false) (by decide +kernel), kit_ty (r := false) (by decide +kernel), kit_ty (r := false) (by decide +kernel), kit_ty (r := true) (by decide +kernel)⟩
theorem Same.tup {a : Addr} {xs : List V} (e : Same H H') (h : SqT K H a xs) : SqT K H' a xs := by
  rcases h with (h | ⟨o, h⟩) | h
  · exact .inl (.inl (e _ _ h))
  · exact .inl (.inr ⟨o, e _ _ h⟩)
  · exact .inr h
theorem Plain.same (e : Same H H') (h : Plain K H x) : Plain K H' x := by
  cases h with
  | non => exact .non
  | bl b => exact .bl b
  | int i => exact .int i
  | str s => exact .str s
  | tup h => exact .tup (Same.tup e h)
end
theorem same_upd {H : Hp} {p : Addr} {o : HO} (h : H p = none) : Same H (upd H p o) := by
  intro b x e
  rw [upd_ne (ne_of_none e h)]
  exact e
/-- all that stands but at one place stays -/
def But (at_ : Addr) (H H' : Hp) : Prop := ∀ b o, b ≠ at_ → H b = some o → H' b = some o
theorem But.refl (a : Addr) (H : Hp) : But a H H := fun _ _ _ h => h
theorem But.trans {a : Addr} {H H1 H2 : Hp} (h : But a H H1) (k : But a H1 H2) : But a H H2 := fun b o n e => k b o n (h b o n e)
theorem Same.but {a : Addr} {H H' : Hp} (h : Same H H') : But a H H' := fun b o _ e => h b o e
theorem But.upd (a : Addr) (H : Hp) (o : HO) : But a H (upd H a o) := fun b x n e => by rw [upd_ne n]; exact e
theorem But.new {a p : Addr} {H : Hp} {o : HO} (h : H p = none) : But a H (L2.upd H p o) := Same.but (same_upd h)
theorem But.tup {K : PySem.W.Frag} {a b : Addr} {H H' : Hp} {xs ys : List V} (h : But a H H') (ha : H a = some (.lst ys)) (t : SqT K H b xs) : SqT K H' b xs := by
  rcases t with (t | ⟨o, t⟩) | t
  · exact .inl (.inl (h b _ (fun z => by subst z; rw [ha] at t; cases t) t))
  · exact .inl (.inr ⟨o, h b _ (fun z => by subst z; rw [ha] at t; cases t) t⟩)
  · exact .inr t
theorem same_at {H H' : Hp} {p : Addr} {o : HO} (h : Same H H') (n : H p = none) : Same H (upd H' p o) := by
  intro b x e
  rw [upd_ne (ne_of_none e n)]
  exact h b x e
theorem small1 {n : Nat} (h : n ≤ 100000) : n < sizeLine := Nat.lt_of_le_of_lt h (by decide)
theorem small2 {n : Nat} (h : n ≤ 100000) : n ≤ sizeLine := Nat.le_of_lt (small1 h)
theorem getI {ms : List Int} {i : Nat} {x : V} (h : (ms.map V.int)[i]? = some x) : ∃ z, ms[i]? = some z ∧ x = .int z := by
  rw [List.getElem?_map] at h
  cases e : ms[i]? with
  | none => rw [e] at h; cases h
  | some z => rw [e] at h; exact ⟨z, rfl, (Option.some.inj h).symm⟩
theorem app1 (ds : List Int) (d : Int) : ds.map V.int ++ [V.int d] = (ds ++ [d]).map V.int := by rw [List.map_append]; rfl
theorem atInt {ds : List Int} {j : Nat} (h : j < ds.length) : atI (ds.map V.int) (j : Int) = some (.int ds[j]) := atI_nat (by rw [List.getElem?_map, List.getElem?_eq_getElem h]; rfl)
theorem modIx (x : Int) {n : Nat} (h : 0 < n) : ∃ j : Nat, j < n ∧ x % (n : Int) = (j : Int) := by
  have a := Int.emod_nonneg x (show (n : Int) ≠ 0 by omega)
  have b := Int.emod_lt_of_pos x (show (0 : Int) < n by omega)
  exact ⟨(x % (n : Int)).toNat, by omega, by omega⟩
/-! ## lists of pairs of ints -/
def Tp (H H' : Hp) : Prop := ∀ t xs, H t = some (.tup xs) → H' t = some (.tup xs)
theorem Same.tp {H H' : Hp} (h : Same H H') : Tp H H' := fun t xs e => h t _ e
theorem Tp.trans {H H1 H2 : Hp} (a : Tp H H1) (b : Tp H1 H2) : Tp H H2 := fun t xs e => b t xs (a t xs e)
theorem Tp.lst {H : Hp} {D : Addr} {xs ys : List V} (h : H D = some (.lst xs)) : Tp H (upd H D (.lst ys)) := fun t zs e => by
  rw [upd_ne (fun z => by subst z; rw [h] at e; cases e)]
  exact e
theorem Tp.new {H : Hp} {D : Addr} {o : HO} (h : H D = none) : Tp H (upd H D o) := Same.tp (same_upd h)
abbrev PairL (H : Hp) (xs : List V) (L : List (Int × Int)) : Prop := Paired (fun (x : V) (p : Int × Int) => ∃ t, x = V.ref t ∧ H t = some (.tup [.int p.1, .int p.2])) xs L
theorem PairL.mono {H H' : Hp} {xs : List V} {L : List (Int × Int)} (h : PairL H xs L) (k : Tp H H') : PairL H' xs L := Paired.mono (fun _ _ ⟨t, e, q⟩ => ⟨t, e, k t _ q⟩) h
theorem PairL.get {H : Hp} : ∀ {xs : List V} {L : List (Int × Int)} (h : PairL H xs L) {i : Nat} {x : V}, xs[i]? = some x → ∃ t p, L[i]? = some p ∧ x = V.ref t ∧ H t = some (.tup [.int p.1, .int p.2])
  | _, _, .nil, _, _, e => by simp at e
  | _, _, .cons ⟨t, r, q⟩ _, 0, x, e => by
    have e' := Option.some.inj e
    exact ⟨t, _, rfl, by rw [← e']; exact r, q⟩
  | _, _, .cons _ s, i + 1, x, e => PairL.get (i := i) s (by simpa using e)
theorem PairL.len {H : Hp} {xs : List V} {L : List (Int × Int)} (h : PairL H xs L) : xs.length = L.length := Paired.length h
/-- what stands in such a pair -/
def keyOf (H : Hp) : V → Int × Int
  | .ref t => match H t with
    | some (.tup [.int a, .int b]) => (a, b)
    | _ => (0, 0)
  | _ => (0, 0)
theorem PairL.keys {H : Hp} : ∀ {xs : List V} {L : List (Int × Int)}, PairL H xs L → xs.map (keyOf H) = L ∧ ∀ x ∈ xs, ∃ t, x = V.ref t ∧ H t = some (.tup [.int (keyOf H x).1, .int (keyOf H x).2])
  | _, _, .nil => ⟨rfl, by simp⟩
  | _, _, .cons (a := x) (b := p) ⟨t, r, q⟩ s => by
    obtain ⟨h1, h2⟩ := PairL.keys s
    have e : keyOf H x = p := by
      subst r
      show (match H t with | some (.tup [.int a, .int b]) => (a, b) | _ => (0, 0)) = p
      rw [q]
    refine ⟨by rw [List.map_cons, e, h1], fun y hy => ?_⟩
    rcases List.mem_cons.mp hy with z | hy
    · subst z
      exact ⟨t, r, by rw [e]; exact q⟩
    · exact h2 y hy
theorem takeS {α : Type} {l : List α} {i : Nat} {x : α} (h : l[i]? = some x) : l.take (i + 1) = l.take i ++ [x] := by rw [List.take_add_one, h]; rfl
section
variable {X : Cx}
/-- a module's constant -/
theorem pe_gl {x : Str} {pos : Pos} {v : V} (hg : Gl X x) (h : ∃ u, X.mg x = some u ∧ RelV v u) (hd : (x == ("__debug__" : Str)) = false := by decide) : PE X (.Name x pos) (tC v) := by
  obtain ⟨u, hu, r⟩ := h
  exact pe_glob hg hu r hd
end
section
variable {X : Cx}
def rLen (K : PySem.W.Frag) : List V → Hp → VK → Prop := fun xs H Q => ∃ x n, xs = [x] ∧ LenV K x H n ∧ Q (.int (n : Nat)) H
theorem c_len : CallR X (.builtin "len") (rLen X.K) := call_len
def rTupOf (K : PySem.W.Frag) : List V → Hp → VK → Prop := fun xs H Q => ∃ p ys, xs = [.ref p] ∧ ((SqL K H p ys ∧ ∀ l, H l = none → Q (.ref l) (upd H l (.tup ys))) ∨ (SqT K H p ys ∧ Q (.ref p) H))
theorem c_tuple : CallR X (.type "tuple") (rTupOf X.K) := call_tuple_of
def rListOf (K : PySem.W.Frag) : List V → Hp → VK → Prop := fun xs H Q => ∃ p ys, xs = [.ref p] ∧ (SqL K H p ys ∨ SqT K H p ys) ∧ ∀ l, H l = none → Q (.ref l) (upd H l (.lst ys))
theorem c_list : CallR X (.type "list") (rListOf X.K) := call_list_of
def rReprD (K : PySem.W.Frag) : List V → Hp → VK → Prop := fun xs H Q => ∃ x d, xs = [x] ∧ Dp K H x d ∧ Shw d ∧ Q (.str d.shown) H
theorem c_repr (hG : X.A.guards = some []) (hu : X.A.units + 64 < cLine) : CallR X (.builtin "repr") (rReprD X.K) := call_reprD hG hu
def tTruK (K : PySem.W.Frag) (ta : TE) : TT := fun σ H Q => ta σ H fun x H' => ∃ k, TruV K x H' k ∧ Q k H'
theorem pt_truthK {a : Expr} {ta : TE} (ha : PE X a ta) (he : ∀ whole, isTrue a X.env whole = (do let v ← whole; standAt a.pos; holding [v] (truthy v))) : PT X a (tTruK X.K ta) := pt_truth ha he
end
section
variable {X : Cx}
/-- t + u of tuples, told by what stands there behind it -/
def rCatS (K : PySem.W.Frag) : R2 := fun x y H Q => ∃ a b xs ys, x = .ref a ∧ y = .ref b ∧ SqT K H a xs ∧ SqT K H b ys ∧ xs.length + ys.length ≤ sizeLine ∧ ∀ c H', Same H H' → SqT K H' c (xs ++ ys) → Q (.ref c) H'
theorem op_catS : OpR X (binaryOp .Add) (rCatS X.K) := by
  intro pins s σ H x y v u Q I rx ry h
  obtain ⟨a, b, xs, ys, e1, e2, ha, hb, hz, q⟩ := h
  refine op_catA pins s σ H x y v u Q I rx ry ⟨a, b, xs, ys, e1, e2, ha, hb, hz, fun e => ?_, fun _ e => ?_, fun _ _ p np => q p _ (same_upd np) (SqT.of upd_same)⟩
  · exact q b H (Same.refl H) (by rw [e, List.nil_append]; exact hb)
  · exact q a H (Same.refl H) (by rw [e, List.append_nil]; exact ha)
def rSlS (K : PySem.W.Frag) : V → Option Int → Option Int → Hp → VK → Prop := fun x lo hi H Q => ∃ a xs, x = .ref a ∧ SqT K H a xs ∧ ∀ c H', Same H H' → SqT K H' c (cutV xs lo hi) → Q (.ref c) H'
theorem sl_tupS : SlR X (rSlS X.K) := by
  intro pins s σ H x v vl vu lo hi sl Q I rx hs pl pu h
  obtain ⟨a, xs, e, ha, q⟩ := h
  refine sl_tupA pins s σ H x v vl vu lo hi sl Q I rx hs pl pu ⟨a, xs, e, ha, fun w => ?_, fun _ p np => q p _ (same_upd np) (SqT.of upd_same)⟩
  refine q a H (Same.refl H) ?_
  have e : cutV xs lo hi = xs := by
    unfold cutV
    rw [w.1, w.2, List.drop_zero, Nat.sub_zero, List.take_length]
  rw [e]
  exact ha
end
end Ln
set_option Elab.async false
set_option linter.all false
set_option maxRecDepth 100000
set_option maxHeartbeats 4000000
namespace Ln
open PySem PySem.Spec PyProof.Rows L2
/-! ## small data can be shown -/
structure Sm (d : PyData) (k m : Nat) : Prop where
  sh : d.showable = true
  dp : d.depth ≤ k
  lv : d.leavesShort 13 = true
  wt : d.weight ≤ m
  cl : d.canLay0 = true
theorem Sm.shw {d : PyData} {k m : Nat} (h : Sm d k m) (hk : k ≤ 60) (hm : m ≤ 1000000) : Shw d :=
  ⟨h.sh, Nat.le_trans h.dp hk, PyData.shown_fits (B := 13) (by decide) (by decide) h.lv (Nat.le_trans h.wt (Nat.le_trans hm (by decide)))⟩
theorem Sm.mono {d : PyData} {k m k' m' : Nat} (h : Sm d k m) (hk : k ≤ k') (hm : m ≤ m') : Sm d k' m' := ⟨h.sh, Nat.le_trans h.dp hk, h.lv, Nat.le_trans h.wt hm, h.cl⟩
theorem log2_small {n : Nat} (h : n < 10 ^ 12) : n.log2 < 40 := by
  by_cases h0 : n = 0
  · subst h0
    decide
  · exact (Nat.log2_lt h0).mpr (Nat.lt_of_lt_of_le h (by decide))
theorem Sm.int {i : Int} (h : i.natAbs < 10 ^ 12) : Sm (.int i) 0 41 := by
  have hl := log2_small h
  refine ⟨?_, ?_, ?_, ?_, rfl⟩
  · simp only [PyData.showable, decide_eq_true_eq]
    omega
  · simp only [PyData.depth]
    exact Nat.le_refl _
  · simp only [PyData.leavesShort, decide_eq_true_eq]
    exact PyData.shown_int_le h
  · simp only [PyData.weight]
    split <;> omega
theorem Sm.none : Sm .none 0 0 := ⟨by simp only [PyData.showable], by simp only [PyData.depth]; exact Nat.le_refl _, by simp only [PyData.leavesShort], by simp only [PyData.weight]; exact Nat.le_refl _, rfl⟩
theorem Sm.bool (b : Bool) : Sm (.bool b) 0 0 := ⟨by simp only [PyData.showable], by simp only [PyData.depth]; exact Nat.le_refl _, by simp only [PyData.leavesShort], by simp only [PyData.weight]; exact Nat.le_refl _, rfl⟩
theorem Sm.str {x : Str} {m : Nat} (h : x.length ≤ m) (ha : (x.cps.toList.all fun c => decide (c < 16 ^ 8)) = true) (hk : PyData.canLay0 (.str x) = true) : Sm (.str x) 0 m :=
  ⟨by simp only [PyData.showable], by simp only [PyData.depth]; exact Nat.zero_le _, by simp only [PyData.leavesShort]; exact ha, by simp only [PyData.weight]; exact h, hk⟩
theorem Sm.all {k m : Nat} : ∀ {ds : List PyData}, (∀ d ∈ ds, Sm d k m) → PyData.showableAll ds = true ∧ PyData.depthAll ds ≤ k ∧ PyData.leavesShortAll 13 ds = true ∧ PyData.weightAll ds ≤ (m + 1) * ds.length ∧ PyData.canLayAll0 ds = true
  | [], _ => ⟨by simp only [PyData.showableAll], by simp only [PyData.depthAll]; exact Nat.zero_le _, by simp only [PyData.leavesShortAll], by simp only [PyData.weightAll]; exact Nat.zero_le _, rfl⟩
  | d :: ds, h => by
    obtain ⟨a1, a2, a3, a4, a5⟩ := h d List.mem_cons_self
    obtain ⟨b1, b2, b3, b4, b5⟩ := Sm.all (ds := ds) fun x hx => h x (List.mem_cons_of_mem _ hx)
    refine ⟨?_, ?_, ?_, ?_, by simp only [PyData.canLayAll0, a5, b5, Bool.and_self]⟩
    · simp only [PyData.showableAll, a1, b1, Bool.and_self]
    · simp only [PyData.depthAll]
      exact Nat.max_le.mpr ⟨a2, b2⟩
    · simp only [PyData.leavesShortAll, a3, b3, Bool.and_self]
    · simp only [PyData.weightAll, List.length_cons]
      rw [Nat.mul_succ]
      omega
theorem Sm.tup {k m n : Nat} {ds : List PyData} (h : ∀ d ∈ ds, Sm d k m) (hn : ds.length ≤ n) : Sm (.tuple ds) (k + 1) ((m + 1) * n) := by
  obtain ⟨b1, b2, b3, b4, b5⟩ := Sm.all h
  exact ⟨by simp only [PyData.showable]; exact b1, by simp only [PyData.depth]; omega, by simp only [PyData.leavesShort]; exact b3, by simp only [PyData.weight]; exact Nat.le_trans b4 (Nat.mul_le_mul_left _ hn), by simp only [PyData.canLay0]; exact b5⟩
theorem Sm.lst {k m n : Nat} {ds : List PyData} (h : ∀ d ∈ ds, Sm d k m) (hn : ds.length ≤ n) : Sm (.list ds) (k + 1) ((m + 1) * n) := by
  obtain ⟨b1, b2, b3, b4, b5⟩ := Sm.all h
  exact ⟨by simp only [PyData.showable]; exact b1, by simp only [PyData.depth]; omega, by simp only [PyData.leavesShort]; exact b3, by simp only [PyData.weight]; exact Nat.le_trans b4 (Nat.mul_le_mul_left _ hn), by simp only [PyData.canLay0]; exact b5⟩
/-! ## a tuple of ints as data -/
theorem dp_ints {K : PySem.W.Frag} {H : Hp} : ∀ (ns : List Int), DpAll K H (ns.map V.int) (ns.map PyData.int)
  | [] => .nil
  | n :: r => .cons (.int n) (dp_ints r)
theorem Sm.shaped {d : PyData} {k m : Nat} (h : Sm d k m) (hk : k ≤ 60) : SeqAt.shaped d = true := by
  unfold SeqAt.shaped
  rw [h.cl, Bool.true_and, decide_eq_true_eq]
  exact Nat.le_trans h.dp (Nat.le_trans hk (by decide))
theorem Sm.eqv {d : PyData} {k m : Nat} (h : Sm d k m) : PyData.eqv d d = true := SeqAt.eqv_refl d h.cl
theorem Sm.ints {ns : List Int} {n : Nat} (h : ∀ i ∈ ns, i.natAbs < 10 ^ 12) (hn : ns.length ≤ n) : Sm (.tuple (ns.map PyData.int)) 1 (42 * n) := by
  apply Sm.tup (k := 0) (m := 41)
  · intro d hd
    obtain ⟨i, hi, rfl⟩ := List.mem_map.mp hd
    exact Sm.int (h i hi)
  · rw [List.length_map]
    exact hn
end Ln
set_option Elab.async false
set_option linter.all false
set_option maxRecDepth 100000
set_option maxHeartbeats 4000000
namespace Ln
open PySem PySem.Spec PyProof.Rows L2
/-! ## several clauses, each with a name of its own -/
abbrev Suite1 : Type := Addr → Value → Option Addr → TS
/-- behind a suite the name's slot is empty -/
def freed (i : Nat) (D : Ends) : Ends where
  nx := fun τ G => D.nx (τ.set i none) G
  rt := D.rt
  bk := fun τ G => D.bk (τ.set i none) G
  ct := fun τ G => D.ct (τ.set i none) G
/-- what the clauses wish of an error of the body -/
def wNam (K : PySem.W.Frag) (Wo : WX) (D : Ends) : List (Value × Nat × Suite1) → WX
  | [] => Wo
  | (c, i, ts) :: more => fun cls d τ G => ∃ hit : Bool, PySem.W.exmOne K cls c = some hit ∧ (hit = true → ∀ a : Addr, G a = none → ts a cls d (freed i D) (τ.set i (some (.ref a))) G) ∧ (hit = false → wNam K Wo D more cls d τ G)
inductive Clauses (X : Cx) : List ExceptHandler → List (Value × Nat × Suite1) → Prop
  | done : Clauses X [] []
  | more {n x : Str} {i : Nat} {c : Value} {ts : Suite1} {s₀ : Stmt} {ss : List Stmt} {p q : Pos} {hds : List ExceptHandler} {l : List (Value × Nat × Suite1)} (at_ : X.N[i]? = some n) (loc : X.env.kindOf n = some .local) (nam : Names X x c)
      (run : ∀ (a : Addr) (oe : Obj) (cls : Value) (d : Option Addr) (pn : List (Addr × Obj)), Zc cls d oe → (∃ vs, oe.data = .fields vs) → PSs (X.suite a ((a, oe) :: pn)) (s₀ :: ss) (ts a cls d)) (rest : Clauses X hds l) :
      Clauses X (.ExceptHandler (some (.Name x p)) (some n) (s₀ :: ss) q :: hds) ((c, i, ts) :: l)
section
variable {X : Cx} {body : List Stmt} {e₀ : ExceptHandler} {es : List ExceptHandler} {l : List (Value × Nat × Suite1)} {pos : Pos} {tb : WX → TS} {Wo : WX}
/-- THE RULE: try with clauses that all have a name -/
theorem ps_try_named (stk : X.stack = X.env :: X.outer) (frm : X.env.frame = some X.env.locals) (nod : X.N.Nodup) (tk : Takes X Wo)
    (bodyOk : ∀ (W : WX) (pn : List (Addr × Obj)) (xe : Value → Shared → Prop), Takes (X.tr pn xe) W → PassesOwn (model X.prog X.w) X.A X.env xe → PSs (X.tr pn xe) body (tb W))
    (cl : Clauses X (e₀ :: es) l) : PS X (.Try body (e₀ :: es) [] [] pos) (fun D σ H => tb (wNam X.K Wo D l) D σ H) := by
  constructor
  intro pins s σ H D I want
  have oks := I.ok
  have frames : X.A.frames = some (X.env :: X.outer) := stk ▸ oks.frames
  refine wpAny_Try_except (wpAny_mono ((bodyOk (wNam X.K Wo D l) (X.pn ++ pins)
    (fun er s₁ => wpAny (model X.prog X.w) X.A (noteFrame er X.env)
      (fun _ s₂ => wpAny (model X.prog X.w) X.A (setFlight er none)
        (fun _ s₃ => wpAny (model X.prog X.w) X.A (handleBy er X.env (e₀ :: es)) (SP X pins D) X.xe s₃) X.xe s₂) X.xe s₁)
    ?caught PassesOwn.looking).run [] s σ H D (I.toTry _) want) ?calm fun _ _ z => z)
  case calm =>
    intro f s1 q
    cases f with
    | ret u => exact q.elim fun v q => q.elim fun τ q => q.elim fun G q => ⟨v, τ, G, q.1.ofTry oks, q.2⟩
    | next => exact q.elim fun τ q => q.elim fun G q => wpAny_execs_nil ⟨τ, G, q.1.ofTry oks, q.2⟩
    | brk => exact q.elim fun τ q => q.elim fun G q => ⟨τ, G, q.1.ofTry oks, q.2⟩
    | cont => exact q.elim fun τ q => q.elim fun G q => ⟨τ, G, q.1.ofTry oks, q.2⟩
  case caught =>
    rintro u s' ⟨a, B, sI, pins', τ, G, cls, d, rfl, It, nb, up, sky, na, os, ag, w⟩
    have J : Inv X pins τ G sI := It.ofTry oks
    have sk : Sky B (X.env :: X.outer) a (Zc cls d) X.env.locals s'.heap := stk ▸ sky
    refine Sky.land Zc.steady frames frm sk fun h3 fl up3 => ?_
    have upA := up.trans up3
    have J3 := (J.landed nb fl.1 upA os ag : Inv X pins τ G { s' with heap := h3 })
    obtain ⟨oe3, vs3, he3, hz3, hd3⟩ := fl.there
    have nfr : a ∉ frs (X.env :: X.outer) := fun m => by
      obtain ⟨_, o', q, nof⟩ := fl.2.2.1.mem m
      rw [he3] at q
      cases q
      exact nof _ hd3
    have nL : a ≠ X.env.locals := by
      intro z
      refine nfr (List.mem_filterMap.mpr ⟨X.env, List.mem_cons_self, ?_⟩)
      rw [frm, z]
    have nF : a ∉ X.fs := by
      intro m
      obtain ⟨e, he, q⟩ := List.mem_filterMap.mp m
      exact nfr (List.mem_filterMap.mpr ⟨e, .tail _ he, q⟩)
    have S3 := J3.suite he3 hd3 na nL nF
    refine (show ∀ {hs : List ExceptHandler} {k : List (Value × Nat × Suite1)}, Clauses X hs k → wNam X.K Wo D k cls d τ G →
      wpAny (model X.prog X.w) X.A (handleBy (.ref a) X.env hs) (SP X pins D) X.xe { s' with heap := h3 } from ?_) cl w
    intro hs k c
    induction c with
    | done =>
      intro out
      refine wpAny_handleBy_nil ?_
      obtain ⟨_, _, _, oe, vs, T, oT, ts', he, _, hd, h1, _⟩ := id fl
      unfold PySem.passOn
      refine wpAny_bind (wpAny_field he hd h1 ?_)
      have notNone : ¬ ((Value.ref T == Value.none) = true) := by simp
      rw [if_neg notNone]
      have fin : wpAny (model X.prog X.w) X.A (setFlight (.ref a) X.env.frame) (fun _ s4 => wpAny (model X.prog X.w) X.A (throw (.ref a) : Sem Flow) (SP X pins D) X.xe s4) X.xe { s' with heap := h3 } := by
        rw [frm]
        refine HandSPX.setFlight_upZ fl fun h4 hh4 up4 => wpAny_throw (tk _ _ ?_)
        exact ⟨a, B, sI, pins, τ, G, cls, d, rfl, J, nb, upA.trans up4, .inr (.inr (stk.symm ▸ hh4)), na, os, ag, out⟩
      first
        | exact wpAny_bind fin
        | exact wpAny_bind (wpAny_pure (wpAny_bind fin))
    | @more n x i c ts s₀ ss p q hds k2 at_ loc nam run rest ih =>
      rintro ⟨hit, isHit, yes, no⟩
      refine wpAny_handleBy_cons (codeAny_handlers_test ?_) (by intro q; cases q)
      have looks := PySem.W.exm_one (M := model X.prog X.w) J3.kIn (fun A Q E s k q => wpAny_typeOf_ref (k _ _ he3) (by rw [hz3.1]; exact q) : PySem.W.Looks (model X.prog X.w) h3 (typeOf (.ref a)) cls) isHit
      have test : ∀ {Q E : Value → Shared → Prop}, Q c { s' with heap := h3 } → wpAny (model X.prog X.w) (X.A.mark (some (.ref a))) (eval (.Name x p) X.env) Q E { s' with heap := h3 } := by
        intro Q E q
        obtain ⟨glo, dbg, there | ⟨gone, boot, nn⟩⟩ := nam
        · exact ld_glob (X := X.suite a ((a, oe3) :: (X.pn ++ pins))) S3 glo there q dbg
        · exact ld_blt (X := X.suite a ((a, oe3) :: (X.pn ++ pins))) S3 glo gone boot q nn dbg
      refine test (looks.here ?_)
      cases hit with
      | false => exact ih (no rfl)
      | true =>
        refine codeAny_handlers_suite_as ?_
        refine HandSPX.lands_againZ fl fun h4 fl4 up4 => ?_
        have J4 := (J.landed nb fl4.1 (upA.trans up4) os ag : Inv X pins τ G { s' with heap := h4 })
        obtain ⟨oe4, vs4, he4, hz4, hd4⟩ := fl4.there
        refine store_ok (X := X.suite a ((a, oe4) :: (X.pn ++ pins))) (v := .ref a) (J4.suite he4 hd4 na nL nF) nod at_ (.inl loc) rfl (fun s5 S5 => ?_) (.inr loc)
        refine wpAny_mono ((run a oe4 cls d (X.pn ++ pins) hz4 ⟨_, hd4⟩).run [] s5 _ G _ S5 (yes rfl a na)) (fun f s6 r => ?_) (fun _ _ z => z.elim)
        have leave : ∀ {υ : L2.St} {G6 : Hp} {Q : Shared → Prop}, Inv (X.suite a ((a, oe4) :: (X.pn ++ pins))) [] υ G6 s6 → (∀ s7, Inv X pins (υ.set i none) G6 s7 → Q s7) →
            wpAny (model X.prog X.w) X.A (do bindName X.env n .none; unbindBehindTheSuite X.env n q) (fun _ s7 => Q s7) X.xe s6 := by
          intro υ G6 Q S6 hq
          exact gone_ok (S6.unsuite oks) nod at_ loc hq
        cases f with
        | ret u =>
          obtain ⟨v6, τ6, G6, S6, r6, q6⟩ := r
          exact leave S6 fun s7 J7 => ⟨v6, _, _, J7, r6, q6⟩
        | next =>
          obtain ⟨τ6, G6, S6, q6⟩ := r
          exact leave S6 fun s7 J7 => ⟨_, _, J7, q6⟩
        | brk =>
          obtain ⟨τ6, G6, S6, q6⟩ := r
          exact leave S6 fun s7 J7 => ⟨_, _, J7, q6⟩
        | cont =>
          obtain ⟨τ6, G6, S6, q6⟩ := r
          exact leave S6 fun s7 J7 => ⟨_, _, J7, q6⟩
end
end Ln
set_option Elab.async false
set_option linter.all false
set_option maxRecDepth 100000
set_option maxHeartbeats 4000000
/-! ## isinstance of a caught error with fields -/
namespace PySem.W
open PySem PySem.Spec PySem.Calls PyProof.Rows
theorem exc_class {prog : Program} {w : World} {A : Around} {E : Value → Shared → Prop} {s : Shared} {K : Frag} {x D : Addr} {ox od : Obj} {Q : Option Value → Shared → Prop} (C : L2.ExcC K D) (X : K.In s.heap) (I : InstAt s.heap x ox D (some od))
    (want : Q (some (.ref D)) { s with toks := s.toks + 1 }) : wpAny (model prog w) A (getAttr? (.ref x) "__class__") Q E s := by
  obtain ⟨cdD, isD, _⟩ := any_some C.hd
  have found := findObj_data (od := od) (show (clsIn K D).isSome = true by rw [isD]; rfl) C.ha C.hn C.ht
  obtain ⟨hp, g, d, t, os⟩ := s
  have M0 := I.type (M := model prog w)
  have M1 := looks_findIn (M := model prog w) X C.hg
  have M2 := looks_findIn (M := model prog w) X C.hk
  have M3 := looks_find (M := model prog w) X I found
  have inst := (M0.andThen (looks_subIn X C.hs) : Looks (model prog w) hp (isInstance (.ref x) (.type "BaseException")) true)
  have b2 : (Value.builtin "BaseException.__getattribute__" == Value.builtin "object.__getattribute__") = false := by decide +kernel
  have b1 : (onTheHeap (Value.ref D) && Value.builtin "BaseException.__getattribute__" == Value.builtin "object.__getattribute__") = false := by
    rw [b2]
    rfl
  unfold getAttr? getAttrBy? getAttrBy
  refine wpAny_bind (wpAny_mkText (wpAny_bind (wpAny_attempt (wpAny_holding (wpAny_bind (M0.at (wpAny_bind (M1.at ?_))))))))
  show wpAny _ _ (ite ((onTheHeap (Value.ref D) && Value.builtin "BaseException.__getattribute__" == Value.builtin "object.__getattribute__") = true) _ _) _ _ _
  rw [b1, if_neg Bool.false_ne_true]
  unfold getAttrByItsOwn hookBefore
  apply wpAny_bind
  rw [if_pos (show onTheHeap (Value.ref D) = true from rfl)]
  apply M2.at
  apply wpAny_bind
  apply wpAny_attempt
  apply wpAny_holding
  unfold callGetattribute
  have b0 : (false && onTheHeap (Value.builtin "BaseException.__getattribute__")) = false := rfl
  rw [b0, if_neg Bool.false_ne_true]
  unfold boundAndCalled
  rw [PySem.F.excAttr_ValueError.ga.bind (.ref x)]
  apply wpAny_bind
  apply wpAny_pure
  show wpAny _ _ (call (.builtin "BaseException.__getattribute__") [.ref x, .str "__class__" t]) _ _ _
  refine wpAny_call (codeAny_call_builtin PySem.F.excAttr_ValueError.ga.plain PySem.F.entry_bexc_ga
    (@check_slot (model prog w) _ _ ⟨hp, g, d, t + 1, os⟩ "BaseException.__getattribute__" "BaseException" "__getattribute__" (.ref x) [.str "__class__" t] [] _ (by decide +kernel) (by decide +kernel) inst (PySem.F.args_bexc_ga (.ref x) (.str "__class__" t)) ?_))
  unfold Builtin.«object.__getattribute__»
  refine wpAny_bind (wpAny_of_eq (a := ((Value.ref x : Value), [Value.str "__class__" t])) (by first | (simp only [slotArgs]; rfl) | rfl) ?_)
  refine wpAny_bind (wpAny_pure (wpAny_bind (M0.at (wpAny_bind (M3.at ?_)))))
  show wpAny _ _ (holding [Value.builtin "object.__class__"] (call (.builtin "getset_descriptor.__get__") [.builtin "object.__class__", .ref x, .ref D]) >>= ret) _ _ _
  refine wpAny_bind (wpAny_holding (wpAny_call (class_get (s := ⟨hp, g, d, t + 1, os⟩) (ox := ox) (od := some od) X I C.hm (wpAny_pure ?_))))
  show wpAny _ _ (handedOut (.ref D)) _ _ _
  rw [handedOut_of (v := .ref D) rfl]
  first
    | exact wpAny_pure want
    | exact wpAny_pure (wpAny_pure want)
    | exact wpAny_pure (wpAny_bind (wpAny_pure (wpAny_pure want)))
theorem kit_exc {K : Frag} {x D : Addr} {ox : Obj} (C : L2.ExcC K D) : KitX K (.ref x) (.ref D) (fun h => ∃ od, InstAt h x ox D (some od)) where
  ty := fun _ _ _ ⟨_, I⟩ => I.type
  it := fun _ h X _ => by
    obtain ⟨cdD, isD, _⟩ := any_some C.hd
    unfold clsIn at isD
    split at isD
    · rename_i q
      intro A' Q' E' s' k want
      unfold isType loadHead
      exact wpAny_bind (wpAny_loadPart (k _ _ (X _ _ q)) (wpAny_pure want))
    · cases isD
  ne := fun h tp dd its n sl X at_ => by
    obtain ⟨cdD, isD, _⟩ := any_some C.hd
    cases e : (Value.ref D == Value.ref tp) with
    | false => rfl
    | true =>
      obtain rfl : D = tp := Value.ref.inj (beq_iff_eq.mp e)
      unfold clsIn at isD
      split at isD
      · rename_i q
        have z := (X _ _ q).symm.trans at_
        cases z
      · cases isD
  ca := fun X ⟨_, I⟩ want => exc_class C X I want
end PySem.W
namespace Ln
open PySem PySem.Spec PyProof.Rows L2 L2H
/-- isinstance(e, c): the pinned error p, of the class at D, its fields in a tracked dict -/
def rIsF (K : PySem.W.Frag) (a : Addr) (cls : Value) (d : Option Addr) : List V → Hp → VK → Prop := fun xs H Q => ∃ (c : V) (cv : Value) (b : Bool) (D dd : Addr) (fs : List (Str × V)), xs = [.ref a, c] ∧ ExcC K D ∧ cls = .ref D ∧ d = some dd ∧ H dd = some (.xd fs) ∧
  (∀ u, RelV c u → u = cv) ∧ PySem.W.kitOne K (.ref D) cv = some b ∧ Q (.bl b) H
theorem call_isF {X : Cx} {p : Addr × Obj} {cls : Value} {d : Option Addr} (hp : p ∈ X.pn) (hz : Zc cls d p.2) (hf : ∃ vs, p.2.data = .fields vs) : CallR X (.builtin "isinstance") (rIsF X.K p.1 cls d) := by
  intro pins s σ H xs us Q I r h
  obtain ⟨c, cv, b, D, dd, fs, rfl, C, rfl, rfl, hd, hcv, e, q⟩ := h
  obtain ⟨vs, hv⟩ := hf
  obtain ⟨u1, u2, rfl, r1, r2⟩ : ∃ u1 u2, us = [u1, u2] ∧ RelV (.ref p.1) u1 ∧ RelV c u2 := by
    cases r with
    | cons a b => cases b with
      | cons b c => cases c with
        | nil => exact ⟨_, _, rfl, a, b⟩
  cases r1
  obtain rfl := hcv _ r2
  obtain ⟨hget, _⟩ := I.pin p (List.mem_append_left _ hp)
  obtain ⟨mA, hns, _⟩ : ObjOk X.prog X.w H s.heap dd (.xd fs) := I.hok dd _ hd
  obtain ⟨od, ho, _⟩ := lookIn_ns hns
  have J : PySem.W.InstAt s.heap p.1 p.2 D (some od) := ⟨hget, hz.1, by unfold PySem.W.notCls; rw [hv] <;> rfl, by rw [hz.2]; exact ho⟩
  exact PySem.W.kia_one (PySem.W.kit_exc C) I.kIn ⟨od, J⟩ e (fun z => nomatch z) fun tk => ⟨.bl b, H, I.kept (t' := tk) fun _ _ z => z, rfl, q⟩
/-! ## a def that is called with the handled error at hand -/
structure FnE (P : Program) (w : World) (K : PySem.W.Frag) (mg : Str → Option Value) (base : Heap) (k : Nat) (f : Addr) (fd : FuncData) (ps : List Str) (sp : Addr → Value → Option Addr → Sp) : Prop where
  len : ∀ a cls d vs H Q E, sp a cls d vs H Q E → vs.length = ps.length
  run : ∀ (A : Around) (outer : List Env) (s : Shared) (H : Hp) (args : Args) (us : List Value) (vs : List V) (Q : VK) (p : Addr × Obj) (cls : Value) (d : Option Addr), Zc cls d p.2 → (∃ vs, p.2.data = .fields vs) → RoomH k A → PinOk outer H s p → Env0 P w K mg base A outer s H →
    BindsTo s fd args (ps.zip us) → Vals vs us → sp p.1 cls d vs H Q E0 → codeAny (model P w) A (.call (.ref f) args) (CR CX0 outer P w H s Q E0) s
theorem okE {P : Program} {w : World} {K : PySem.W.Frag} {mg : Str → Option Value} {base : Heap} {x qual : Str} {st : Stmt} {f : Addr} {fd : FuncData} {N ps : List Str} {k : Nat} {sp : Addr → Value → Option Addr → Sp} (F : Fun K x qual st f fd) (S : FnScope N ps (defScope st))
    (len : ∀ a cls d vs H Q E, sp a cls d vs H Q E → vs.length = ps.length)
    (hbody : ∀ (cdv : Value) (A : Around) (outer : List Env) (s : Shared) (H : Hp) (vs : List V) (Q : VK) (p : Addr × Obj) (cls : Value) (d : Option Addr), Zc cls d p.2 → (∃ vs, p.2.data = .fields vs) → RoomH k (A.deeper (envOfC qual (defScope st) s.heap.objs.size f cdv)) → sp p.1 cls d vs H Q E0 →
      ∃ t, PSs (cxH CX0 P w K mg base N qual (defScope st) f cdv A outer s H E0 p) (defBody st) t ∧ t { nx := fun _ H' => Q .non H', rt := Q } (start N vs) H) : FnE P w K mg base (k + 1) f fd ps sp := by
  obtain ⟨oc, od, kV, doc, pm, an, cdv, ct, osl, rfl, lk, hcd⟩ := F.ex
  constructor
  · exact len
  intro A outer s H args us vs Q p cls d hz hf hr pin e0 hb r hsp
  have hl := len _ _ _ _ _ _ _ hsp
  have same := fun b o (e : base.get? b = some o) => (e0.bs b o e).1
  have KX : K.In s.heap := e0.mod.kin.keeps same
  have kinds : ∀ y ∈ ps.zip us, (defScope st).names.lookup y.1 = some .local ∨ ((defScope st).names.lookup y.1 = some .cell ∧ ((cellsFrom (s.heap.objs.size + 1) (defScope st).names []).lookup y.1).isSome = true) := by
    intro y hy
    rcases S.par y.1 (List.of_mem_zip (a := y.1) (b := y.2) hy).1 with q | q
    · exact Or.inl q
    · exact Or.inr ⟨q, PySem.W.cellsFrom_some _ _ _ (Or.inl q)⟩
  apply codeAny_call_function hr.depth (KX _ _ lk) rfl S.co S.gen rfl (PySem.W.codeRec_of KX hcd) (hb _ _ _ _ ?_)
  refine wpAny_newFunctionEnv_cells S.kind kinds ?_
  rintro env rfl s1 c
  refine ⟨(e0.mod.nolimit.keeps same).keeps c.toInCall.keep, codeAny_func ?_⟩
  obtain ⟨t, ht, hq⟩ := hbody cdv A outer s H vs Q p cls d hz hf (hr.deeper _) hsp
  apply wpAny_mono (ht.run [] s1 (start N vs) H _ (inv_startH S pin e0 hl r c) hq) _ fun _ _ z => z
  intro fl s' z
  cases fl with
  | ret u => exact z.elim fun v z => z.elim fun τ z => z.elim fun G z => ⟨v, G, z.1.os, z.1.bare, z.1.base, z.1.hok, z.2.1, z.2.2⟩
  | next => exact z.elim fun τ z => z.elim fun G z => ⟨V.non, G, z.1.os, z.1.bare, z.1.base, z.1.hok, rfl, z.2⟩
  | brk => exact z.elim fun τ z => z.elim fun G z => z.2.elim
  | cont => exact z.elim fun τ z => z.elim fun G z => z.2.elim
structure CgE (P : Program) (w : World) (K : PySem.W.Frag) (mg : Str → Option Value) (base : Heap) (k : Nat) (x : Str) (sp : Addr → Value → Option Addr → Sp) : Prop where
  ex : ∃ (f : Addr) (fd : FuncData) (ps : List Str), FnE P w K mg base k f fd ps sp ∧ mg x = some (.ref f) ∧ PySem.W.keepIn K (.ref f) = true ∧ Binds K fd ps []
theorem pe_cgE {X : Cx} {j k : Nat} {a : Addr} {oe : Obj} {x : Str} {np pos : Pos} {e : Expr} {es : List Expr} {t : TA} {sp : Addr → Value → Option Addr → Sp} {cls : Value} {d : Option Addr} (c : CgE X.prog X.w X.K X.mg X.base k x sp) (hp : (a, oe) ∈ X.pn) (hz : Zc cls d oe) (hf : ∃ vs, oe.data = .fields vs) (hr : RoomH j X.A) (hk : k ≤ j) (hg : Gl X x) (ha : PA X (e :: es) t)
    (hdb : (x == ("__debug__" : Str)) = false := by decide) (he : starEach (e :: es) X.env = (false, eval e X.env) :: starEach es X.env := by rfl) (hpl : (backTo pos (starEach es X.env)).any (·.1) = false := by rfl) :
    PE X (.Call (.Name x np) (e :: es) [] pos) (tCg (sp a cls d) (fun _ => E0) t) := by
  constructor
  intro pins s σ H Q I h
  obtain ⟨f, fd, ps, F, hm, kp, b⟩ := c.ex
  apply wpAny_Call_Name_kw (ld_glob I hg hm ?_ hdb)
  apply PySem.W.callWith_K (h₀ := X.base) I.ok.mod.kin kp (thn (ha.run pos pins s σ H _ I h) _) he hpl
  rintro us s1 ⟨vs, H1, I1, r, q⟩
  refine ⟨I1.kIn, ?_⟩
  have hl : us.length = ps.length := r.length ▸ F.len _ _ _ _ _ _ _ q
  have pin := I1.pin (a, oe) (List.mem_append_left _ hp)
  have ok : PinOk X.stack H1 s1 (a, oe) := ⟨pin.1, pin.2.1, fun m => (List.mem_cons.mp (I1.stkSub a m)).elim pin.2.2.1 pin.2.2.2.1, pin.2.2.2.2⟩
  have bb := b s1 us I1.kIn (by simpa using hl)
  refine wpAny_call (codeAny_mono (F.run X.A X.stack s1 H1 ⟨us, []⟩ us vs Q (a, oe) cls d hz hf (hr.mono hk) ok I1.env0 (by simpa using bb) r q) ?_)
  intro res s' z
  cases res with
  | error _ => exact z.elim
  | ok fl => cases fl with
    | ret u => exact I1.after z
    | next => exact z.elim
    | brk => exact z.elim
    | cont => exact z.elim
end Ln
set_option Elab.async false
set_option linter.all false
set_option maxRecDepth 100000
set_option maxHeartbeats 4000000
/-! ## enumerate over a tuple -/
namespace PySem
open Sem (wp)
theorem meets_enum1 {v : Value} {o : Obj} {H : Heap → Prop} (B : Begins v o H) :
    Meets (Builtin.«enumerate.__new__» ⟨[.type "enumerate", v], []⟩) (fun _ R s => H s.heap ∧
      R (.ok (.ret (.ref (s.heap.push o).objs.size))) { s with heap := (s.heap.push o).push { cls := .type "enumerate", data := .fields #[.none, .bool false, .ref s.heap.objs.size, rawInt 0, .none, .none] } }) := by
  refine .of_wp fun prog w A R s h => ?_
  obtain ⟨hp, g, d, tk, os⟩ := s
  obtain ⟨h1, want⟩ := h
  have sub := sub_enumerate
  have begins : ∀ {A' : Around} {E Q : Value → Shared → Prop}, Q (.ref hp.objs.size) ⟨hp.push o, g, d, tk, os⟩ → wpAny (model prog w) A' (pyIter v) Q E ⟨hp, g, d, tk, os⟩ := by
    intro A' E Q q
    exact B.iter prog w _ _ ⟨hp, g, d, tk, os⟩ _ h1 q
  wp_walk using begins
  refine wpAny_stack_any fun st => wpAny_pure ?_
  split
  case h_1 =>
    rename_i c _ _ _ _ _
    cases (c == Value.type "enumerate") <;> (wp_walk using begins; exact ⟨_, rfl, want⟩)
  case h_2 =>
    wp_walk using begins
    exact ⟨_, rfl, want⟩
section
variable {prog : Program} {w : World} {A : Around} {E : Value → Shared → Prop} {s : Shared}
theorem call_enum_tuple {a : Addr} {items : Array Value} {Q : Value → Shared → Prop} (ht : s.heap.IsTuple a items)
    (want : ∀ h', IsEnum h' (s.heap.objs.size + 1) s.heap.objs.size 0 .none → h'.IsTupleIter s.heap.objs.size a 0 → h'.objs.size = s.heap.objs.size + 2 → (∀ b o, s.heap.get? b = some o → h'.get? b = some o) → Q (.ref (s.heap.objs.size + 1)) { s with heap := h' }) :
    wpAny (model prog w) A (call (.type "enumerate") [.ref a]) Q E s := by
  refine callType_new F.called_enumerate (by decide) (F.typeCall_enumerate_1 _) (F.newCall_enumerate_1 _) (fun obj => F.args_object_init_2 obj _) F.entry_enumerate_new (meets_enum1 (begins_tuple a items)) ⟨ht, ?_⟩
  have two : (s.heap.push { cls := .type "tuple_iterator", data := .fields #[.ref a, .int 0 0] }).objs.size = s.heap.objs.size + 1 := Heap.size_push ..
  show _ ∧ _
  rw [two]
  have it : IsEnum ((s.heap.push { cls := .type "tuple_iterator", data := .fields #[.ref a, .int 0 0] }).push { cls := .type "enumerate", data := .fields #[.none, .bool false, .ref s.heap.objs.size, rawInt 0, .none, .none] }) (s.heap.objs.size + 1) s.heap.objs.size 0 .none := by
    have g := Heap.get?_push_size (s.heap.push { cls := .type "tuple_iterator", data := .fields #[.ref a, .int 0 0] }) (o := { cls := .type "enumerate", data := .fields #[.none, .bool false, .ref s.heap.objs.size, rawInt 0, .none, .none] }) rfl
    rw [two] at g
    exact g
  refine ⟨⟨_, it, rfl⟩, want _ it ?_ (by rw [Heap.size_push, two]) fun b o x => Heap.get?_push_of_some _ (Heap.get?_push_of_some _ x)⟩
  exact ⟨_, Heap.get?_push_of_some _ (Heap.get?_push_size _ rfl), rfl, rfl⟩
end
end PySem
namespace Ln
open PySem PySem.Spec PyProof.Rows L2
def IteT (K : PySem.W.Frag) (a : Addr) : It where
  go := fun i H => ∃ (xs : List V) (x : V), SqT K H a xs ∧ xs[i]? = some x
  yld := fun i H v H' => ∃ T x, v = .ref T ∧ H T = none ∧ H' = upd H T (.tup [.int (i : Nat), x]) ∧ ∀ xs, SqT K H a xs → xs[i]? = some x
  stop := fun i H => ∃ xs : List V, SqT K H a xs ∧ xs.length = i
theorem turn_enumT {P : Program} {w : World} {K : PySem.W.Frag} {elts : List Expr} {kk : Nat} {tpos : Pos} (a e it : Addr) (hae : a ≠ e) (hai : a ≠ it) :
    Turn P w K (.Tuple elts kk tpos) (IteT K a) [e, it] e (fun i h => (∃ old, IsEnum h e it ((i : Nat) : Int) old) ∧ h.IsTupleIter it a i ∧ e ≠ it) where
  mem := by simp
  obj := by
    rintro i h ⟨⟨old, he⟩, ⟨o, ho, hc, hd⟩, _⟩ b hb
    simp only [List.mem_cons, List.not_mem_nil, or_false] at hb
    rcases hb with z | z
    · rw [z]
      exact ⟨_, he, fun v q => nomatch q⟩
    · rw [z]
      exact ⟨o, ho, fun v q => by rw [hd] at q; cases q⟩
  keep := by
    rintro i h h' ⟨⟨old, he⟩, hi, hne⟩ k
    exact ⟨⟨old, k e (by simp) _ he⟩, hi.at fun o q => k it (by simp) o q, hne⟩
  item := by
    intro X hP hw hK hc i pins s σ H E I hf st hg
    subst hP hw hK
    obtain ⟨⟨old, he⟩, hit, hne⟩ := st
    obtain ⟨xs, x, hq, hx⟩ := hg
    obtain ⟨its, rv, p, hz⟩ := I.tuple hq
    obtain ⟨u, hu, ru⟩ := rv.get hx
    have hT : s.heap.IsTuple a its.toArray := p
    have hel : e < s.heap.objs.size := Heap.lt_size he
    have hil : it < s.heap.objs.size := by
      obtain ⟨_, q, _⟩ := hit
      exact Heap.lt_size q
    have hlt : i < its.toArray.size := by
      rw [List.size_toArray, ← rv.length]
      exact (List.getElem?_eq_some_iff.mp hx).1
    refine wpAny_pyNext_enum_itemD (Draws.tuple (show X.A.in1.handled = none from I.ok.hd hc) it a hai its.toArray) he ⟨hit, hT⟩ hlt hne (by simp; exact ⟨hne, fun z => hae z.symm⟩) fun x' h' tk hx' ho hit' hTp hsz hk => ?_
    have eu : x' = u := by
      have z : (its.toArray)[i]? = some u := by simpa using hu
      rw [z] at hx'
      exact (Option.some.inj hx').symm
    subst eu
    refine ⟨_, rfl, wpAny_letOwnedTupleGo_enum (s := { s with heap := h', toks := tk + 1 }) ho fun h'' he' sb => ?_⟩
    have hT2 : h''.get? s.heap.objs.size = some { cls := .type "tuple", data := .seq #[.int i tk, x'] } := (sb.2 _ (Nat.ne_of_gt hel)).trans hTp
    have new : ObjOk X.prog X.w (upd H s.heap.objs.size (.tup [.int (i : Nat), x])) h'' s.heap.objs.size (.tup [.int (i : Nat), x]) :=
      ⟨by show 2 ≤ sizeLine; decide, [.int i tk, x'], .cons ⟨_, rfl⟩ (.cons ru .nil), ⟨_, hT2, rfl, _, rfl⟩⟩
    have far : ∀ b, b ∉ [e, it] → b ≠ e ∧ b ≠ it := fun b hb => ⟨fun z => hb (by simp [z]), fun z => hb (by simp [z])⟩
    have J := I.turnedNew (ch := [e, it]) (fun b ob hb q => (sb.2 b (far b hb).1).trans (hk b ob (far b hb).1 (far b hb).2 q)) hf (Nat.le_refl _) new (t' := tk + 1)
    refine ⟨.ref s.heap.objs.size, _, J, rfl, ⟨_, x, rfl, I.hok.fresh (Nat.le_refl _), rfl, fun ys hy => by rw [I.tuple_inj hy hq]; exact hx⟩, ⟨⟨x', ?_⟩, hit'.1.at fun o q => (sb.2 it (Ne.symm hne)).trans q, hne⟩, fun b hb => ?_⟩
    · have e1 : ((i + 1 : Nat) : Int) = (i : Int) + 1 := by omega
      rw [e1]
      exact he'
    · have hb' : b < s.heap.objs.size := by
        simp only [List.mem_cons, List.not_mem_nil, or_false] at hb
        rcases hb with z | z
        · rw [z]; exact hel
        · rw [z]; exact hil
      rw [upd_ne (Nat.ne_of_lt hb')]
      exact (hf b hb).1
  done := by
    intro X hP hw hK hc i pins s σ H E I hf st hg
    subst hP hw hK
    obtain ⟨⟨old, he⟩, hit, hne⟩ := st
    obtain ⟨xs, hq, hx⟩ := hg
    obtain ⟨its, rv, p, hz⟩ := I.tuple hq
    have hT : s.heap.IsTuple a its.toArray := p
    obtain ⟨f0, f1, f2, f3, f4, f5⟩ := hf it (by simp)
    have hlt : i = its.toArray.size := by rw [List.size_toArray, ← rv.length, hx]
    subst hlt
    exact wpAny_pyNext_enum_endD (Draws.tuple (show X.A.in1.handled = none from I.ok.hd hc) it a hai its.toArray) he ⟨hit, hT⟩ fun h' eb => ⟨rfl, I.turned (t' := s.toks) (fun b o hb q => eb b o hb q) f0 f1 f3 f4 f5⟩
  self := fun A i s Q E st want => by
    obtain ⟨⟨_, he⟩, _⟩ := st
    exact wpAny_pyIter_enum he want
theorem walk_enumT {K : PySem.W.Frag} {a : Addr} {xs : List V} : Walk (IteT K a) xs.length (fun H => SqT K H a xs) (YPair (fun i => some (.int (i : Nat))) (fun i => xs[i]?)) where
  goes := fun i H hi q => ⟨xs, xs[i], q, List.getElem?_eq_getElem hi⟩
  stops := fun H q => ⟨xs, q, rfl⟩
  yields := by
    rintro i H v H' _ q ⟨T, x, h1, h2, h3, h4⟩
    exact ⟨T, .int (i : Nat), x, h1, h2, h3, rfl, h4 xs q⟩
/-- enumerate(t), t a tuple -/
def iEnumT (K : PySem.W.Frag) (ta : TA) : TI := fun σ H R => ta σ H fun vs H1 => ∃ a xs, vs = [.ref a] ∧ SqT K H1 a xs ∧ R (IteT K a) H1
theorem pi_enumT {X : Cx} {e : Expr} {ta : TA} {p pos tpos : Pos} {elts : List Expr} {kk : Nat} (hg : Gl X "enumerate") (hm : X.mg "enumerate" = none) (ha : PA X [e] ta) (hs : starEach [e] X.env = [(false, eval e X.env)] := by rfl) :
    PI X (.Tuple elts kk tpos) (.Call (.Name "enumerate" p) [e] [] pos) (iEnumT X.K ta) := by
  constructor
  intro pins s σ H R I h
  refine Call_ (ld_blt I hg hm boot_enumerate (PyProof.Rows.callWith_type1 (thn (ha.run pos pins s σ H _ I h) ?_) hs rfl))
  rintro us s1 ⟨vs, H1, I1, r1, a, xs, rfl, hq, q⟩
  obtain ⟨u1, rfl, r⟩ := vals1 r1
  cases r
  obtain ⟨its, rv, p', hz⟩ := I1.tuple hq
  have hal : a < s1.heap.objs.size := by
    obtain ⟨o, ho, _⟩ := id p'
    exact Heap.lt_size ho
  refine call_enum_tuple (show s1.heap.IsTuple a its.toArray from p') fun h' he hit hsz hk => wpAny_pyIter_enum he ?_
  have I2 : Inv X pins σ H1 { s1 with heap := h' } := I1.kept (t' := s1.toks) hk
  refine ⟨s1.heap.objs.size + 1, [s1.heap.objs.size + 1, s1.heap.objs.size], _, _, H1, rfl, I2, turn_enumT a (s1.heap.objs.size + 1) s1.heap.objs.size (Nat.ne_of_lt (Nat.lt_succ_of_lt hal)) (Nat.ne_of_lt hal), ⟨⟨.none, he⟩, hit, Nat.succ_ne_self _⟩, fun b hb => ?_, q⟩
  have hle : s1.heap.objs.size ≤ b := by
    simp only [List.mem_cons, List.not_mem_nil, or_false] at hb
    rcases hb with z | z
    · rw [z]; exact Nat.le_add_right _ _
    · rw [z]; exact Nat.le_refl _
  exact I1.fpOk hle (I1.hok.fresh hle)
/-! ## three comparisons in one -/
section
variable {X : Cx} {CX : CXT} {E0' : XK}
/-- a def at an address, guard-aware -/
structure CgA (P : Program) (w : World) (K : PySem.W.Frag) (mg : Str → Option Value) (base : Heap) (k : Nat) (f : Addr) (sp : Sp) : Prop where
  ex : ∃ (fd : FuncData) (ps : List Str), FnG P w K mg base CX0 k f fd ps sp ∧ PySem.W.keepIn K (.ref f) = true ∧ Binds K fd ps []
def tCgL (P : Program) (w : World) (K : PySem.W.Frag) (mg : Str → Option Value) (base : Heap) (k i : Nat) (t : TA) : TE := fun σ H Q => ∃ f sp, σ[i]? = some (some (.ref f)) ∧ CgA P w K mg base k f sp ∧ t σ H fun vs H1 => sp vs H1 Q E0
theorem pe_cgL {i j k : Nat} {x : Str} {p pos : Pos} {e : Expr} {es : List Expr} {t : TA} (hr : Room j X.A) (hk : k ≤ j) (hG : X.A.guards = some []) (hN : X.N[i]? = some x) (hv : Vis X.env.scope x) (ha : PA X (e :: es) t)
    (hdb : (x == ("__debug__" : Str)) = false := by decide) (hcd : (x == ("__classdict__" : Str)) = false := by decide)
    (he : starEach (e :: es) X.env = (false, eval e X.env) :: starEach es X.env := by rfl) (hpl : (backTo pos (starEach es X.env)).any (·.1) = false := by rfl) :
    PE X (.Call (.Name x p) (e :: es) [] pos) (tCgL X.prog X.w X.K X.mg X.base k i t) := by
  constructor
  rintro pins s σ H Q I ⟨f, sp, hs, ⟨fd, ps, F, kp, b⟩, ht⟩
  refine wpAny_Call_Name_kw (thn ((pe_var (pos := p) hN hv hdb hcd).run pins s σ H (fun v H1 => v = .ref f ∧ H1 = H) I ⟨.ref f, hs, rfl, rfl⟩) ?_)
  rintro u s1 ⟨v, H1, I1, r1, rfl, rfl⟩
  cases r1
  apply PySem.W.callWith_K (h₀ := X.base) I.ok.mod.kin kp (thn (ha.run pos pins s1 σ _ _ I1 ht) _) he hpl
  rintro us s2 ⟨vs, H2, I2, r, q⟩
  exact ⟨I2.kIn, runG F (hr.mono hk) hG b (passAt0 σ) I2 r q⟩
end
end Ln
set_option Elab.async false
set_option linter.all false
set_option maxRecDepth 100000
set_option maxHeartbeats 4000000
namespace Ln
open PySem PySem.Spec PyProof.Rows L2
section
variable {X : Cx} {a b c d : Expr} {ta tb tc td : TE} {pos : Pos}
/-- a op1 b op2 c op3 d -/
def tChain3 (r r' r'' : R2) (ta tb tc td : TE) : TE := fun σ H Q => ta σ H fun x H1 => tb σ H1 fun y H2 => r x y H2 fun z H3 => ∃ k, z = .bl k ∧
  (if k = true then tc σ H3 fun w' H4 => r' y w' H4 fun z2 H5 => ∃ k2, z2 = .bl k2 ∧ (if k2 = true then td σ H5 fun v H6 => r'' w' v H6 Q else Q (.bl false) H5) else Q (.bl false) H3)
theorem pt_chain3 {op op' op2 : CmpOp} {r r' r'' : R2} (ho : OpR X (compareOp op) r) (ho' : OpR X (compareOp op') r') (ho2 : OpR X (compareOp op2) r'') (ha : PE X a ta) (hb : PE X b tb) (hc : PE X c tc) (hd : PE X d td)
    (hm : lastMarks [op, op', op2] [b, c, d] = false := by with_unfolding_all rfl) : PT X (.Compare a [op, op', op2] [b, c, d] pos) (tTest (tChain3 r r' r'' ta tb tc td)) := by
  constructor
  intro pins s σ H Q I h
  refine isTrue_chain (thn (ha.run pins s σ H _ I h) fun v s1 ⟨x, H1, I1, r1, q1⟩ => test_link (thn (hb.run pins s1 σ H1 _ I1 q1) fun u s2 ⟨y, H2, I2, r2, q2⟩ =>
    thn (ho pins s2 σ H2 x y v u _ I2 r1 r2 q2) ?_)) hm
  rintro d1 s3 ⟨z, H3, I3, r3, k, rfl, q3⟩
  cases r3
  refine wpAny_truthy_bool ?_
  cases k with
  | false =>
    obtain ⟨k', e', q'⟩ := q3
    cases e'
    exact ite_ff ⟨H3, I3, q'⟩
  | true =>
    refine ite_tt (test_link (thn (hc.run pins s3 σ H3 _ I3 q3) fun w' s4 ⟨z', H4, I4, r4, q4⟩ => thn (ho' pins s4 σ H4 y z' u w' _ I4 r2 r4 q4) ?_))
    rintro d2 s5 ⟨z2, H5, I5, r5, k2, rfl, q5⟩
    cases r5
    refine wpAny_truthy_bool ?_
    cases k2 with
    | false =>
      obtain ⟨k', e', q'⟩ := q5
      cases e'
      exact ite_ff ⟨H5, I5, q'⟩
    | true =>
      refine ite_tt (test_last (thn (hd.run pins s5 σ H5 _ I5 q5) fun w3 s6 ⟨z3, H6, I6, r6, q6⟩ => thn (ho2 pins s6 σ H6 z' z3 w' w3 _ I6 r4 r6 q6) ?_))
      rintro d3 s7 ⟨z4, H7, I7, r7, k3, rfl, q7⟩
      cases r7
      exact wpAny_truthy_bool ⟨H7, I7, q7⟩
end
end Ln
set_option Elab.async false
set_option linter.all false
set_option maxRecDepth 100000
set_option maxHeartbeats 4000000
namespace Ln
open PySem PySem.Spec PyProof.Rows L2
/-! ## a comprehension with two fors -/
section
variable {J J1 : It} {n n1 : Nat} {G G1 : Hp → Prop} {Y Y1 : Nat → Hp → V → Hp → Prop}
theorem lc2_it (w : Walk J n G Y) {g g1 : TG} {tt tt1 : TT} {wi1 : TI} {te : TE} {vs vs1 : List Nat} {σ : L2.St} {H1 : Hp} {D : Addr} {Qd : Hp → Prop} (Pv : Nat → Hp → Prop) (h0 : Pv 0 (upd H1 D (.lst []))) (hG : ∀ i H, i ≤ n → Pv i H → G H)
    (hs : ∀ i x H H', i < n → Pv i H → Y i H x H' → g x (wipe σ vs) H' fun σ2 H2 => wipe σ2 vs = wipe σ vs ∧ tt σ2 H2 fun b H3 =>
      if b = true then wi1 σ2 H3 fun J1 H4 => ∃ W1 : Nat → Nat → Hp → Prop, (∃ m, W1 0 m H4) ∧ ∀ j k H, W1 j k H →
        (J1.stop j H ∧ Pv (i + 1) H) ∨ (J1.go j H ∧ ∃ Nx1 : Hp → Prop, (∀ H', Nx1 H' → ∃ k', k' < k ∧ W1 (j + 1) k' H') ∧ ∀ x H', J1.yld j H x H' → g1 x (wipe σ2 vs1) H' fun σ3 H5 => wipe σ3 vs1 = wipe σ2 vs1 ∧ tt1 σ3 H5 fun b H6 =>
          if b = true then te σ3 H6 fun y H7 => ∃ acc, H7 D = some (.lst acc) ∧ acc.length < sizeLine ∧ Nx1 (upd H7 D (.lst (acc ++ [y]))) else Nx1 H6)
      else Pv (i + 1) H3) (hd : ∀ H, Pv n H → Qd H) :
    ∃ W : Nat → Nat → Hp → Prop, (∃ m, W 0 m (upd H1 D (.lst []))) ∧ ∀ i m H, W i m H →
      (J.stop i H ∧ Qd H) ∨ (J.go i H ∧ ∃ Nx : Hp → Prop, (∀ H', Nx H' → ∃ m', m' < m ∧ W (i + 1) m' H') ∧ ∀ x H', J.yld i H x H' → g x (wipe σ vs) H' fun σ2 H2 => wipe σ2 vs = wipe σ vs ∧ tt σ2 H2 fun b H3 =>
        if b = true then wi1 σ2 H3 fun J1 H4 => ∃ W1 : Nat → Nat → Hp → Prop, (∃ m, W1 0 m H4) ∧ ∀ j k H, W1 j k H →
          (J1.stop j H ∧ Nx H) ∨ (J1.go j H ∧ ∃ Nx1 : Hp → Prop, (∀ H', Nx1 H' → ∃ k', k' < k ∧ W1 (j + 1) k' H') ∧ ∀ x H', J1.yld j H x H' → g1 x (wipe σ2 vs1) H' fun σ3 H5 => wipe σ3 vs1 = wipe σ2 vs1 ∧ tt1 σ3 H5 fun b H6 =>
            if b = true then te σ3 H6 fun y H7 => ∃ acc, H7 D = some (.lst acc) ∧ acc.length < sizeLine ∧ Nx1 (upd H7 D (.lst (acc ++ [y]))) else Nx1 H6)
        else Nx H3) := by
  refine ⟨fun i m H => m = n - i ∧ i ≤ n ∧ Pv i H, ⟨n, by simp, Nat.zero_le _, h0⟩, ?_⟩
  rintro i m H ⟨rfl, hi, p⟩
  have q := hG i H hi p
  rcases Nat.lt_or_eq_of_le hi with lt | e
  · refine .inr ⟨w.goes i H lt q, Pv (i + 1), fun H' p' => ⟨n - (i + 1), by omega, rfl, lt, p'⟩, fun x H' y => ?_⟩
    exact hs i x H H' lt p (w.yields i H x H' lt q y)
  · subst e
    exact .inl ⟨w.stops H q, hd H p⟩
theorem inner_it (w1 : Walk J1 n1 G1 Y1) {g1 : TG} {tt1 : TT} {te : TE} {vs1 : List Nat} {σ2 : L2.St} {H4 : Hp} {D : Addr} {Done : Hp → Prop} (Pv : Nat → Hp → Prop) (h0 : Pv 0 H4) (hG : ∀ i H, i ≤ n1 → Pv i H → G1 H)
    (hs : ∀ j x H H', j < n1 → Pv j H → Y1 j H x H' → g1 x (wipe σ2 vs1) H' fun σ3 H5 => wipe σ3 vs1 = wipe σ2 vs1 ∧ tt1 σ3 H5 fun b H6 =>
      if b = true then te σ3 H6 fun y H7 => ∃ acc, H7 D = some (.lst acc) ∧ acc.length < sizeLine ∧ Pv (j + 1) (upd H7 D (.lst (acc ++ [y]))) else Pv (j + 1) H6) (hd : ∀ H, Pv n1 H → Done H) :
    ∃ W1 : Nat → Nat → Hp → Prop, (∃ m, W1 0 m H4) ∧ ∀ j k H, W1 j k H →
      (J1.stop j H ∧ Done H) ∨ (J1.go j H ∧ ∃ Nx1 : Hp → Prop, (∀ H', Nx1 H' → ∃ k', k' < k ∧ W1 (j + 1) k' H') ∧ ∀ x H', J1.yld j H x H' → g1 x (wipe σ2 vs1) H' fun σ3 H5 => wipe σ3 vs1 = wipe σ2 vs1 ∧ tt1 σ3 H5 fun b H6 =>
        if b = true then te σ3 H6 fun y H7 => ∃ acc, H7 D = some (.lst acc) ∧ acc.length < sizeLine ∧ Nx1 (upd H7 D (.lst (acc ++ [y]))) else Nx1 H6) := by
  refine ⟨fun i m H => m = n1 - i ∧ i ≤ n1 ∧ Pv i H, ⟨n1, by simp, Nat.zero_le _, h0⟩, ?_⟩
  rintro i m H ⟨rfl, hi, p⟩
  have q := hG i H hi p
  rcases Nat.lt_or_eq_of_le hi with lt | e
  · refine .inr ⟨w1.goes i H lt q, Pv (i + 1), fun H' p' => ⟨n1 - (i + 1), by omega, rfl, lt, p'⟩, fun x H' y => ?_⟩
    exact hs i x H H' lt p (w1.yields i H x H' lt q y)
  · subst e
    exact .inl ⟨w1.stops H q, hd H p⟩
end
end Ln
set_option Elab.async false
set_option linter.all false
set_option maxRecDepth 100000
set_option maxHeartbeats 4000000
namespace Ln
open PySem PySem.Spec PyProof.Rows L2
section
variable {X : Cx}
/-- name = {..: .. for ..} on one line, the name a local -/
theorem ps_setDc {i : Nat} {y : Str} {py : Pos} {kx vx tg iter : Expr} {ifs : List Expr} {scope : Scope} {own : List (Str × Nat)} {pos spos : Pos} {wi : TI} {g : TG} {tt : TT} {tk tv : TE} (calm : X.calm = true) (nod : X.N.Nodup) (at_ : X.N[i]? = some y) (loc : X.env.scope.names.lookup y = some .local)
    (sw : swapsWith (.DictComp kx vx [⟨tg, iter, ifs, 0⟩] scope pos) (some (.Name y py)) spos.line X.env = pure true) (hi : PI X tg iter wi) (ok : BlkOk X.N X.env.scope scope own)
    (hg : ∀ (s : Shared) (H : Hp) (C : Addr) (cl : List (Str × Addr)) (fp : List Addr), PG (X.blk s H scope (compEnvC scope cl C X.env) fp) tg g)
    (ht : ∀ (s : Shared) (H : Hp) (C : Addr) (cl : List (Str × Addr)) (fp : List Addr), PTs (X.blk s H scope (compEnvC scope cl C X.env) fp) ifs tt)
    (hk : ∀ (s : Shared) (H : Hp) (C : Addr) (cl : List (Str × Addr)) (fp : List Addr), PE (X.blk s H scope (compEnvC scope cl C X.env) fp) kx tk)
    (he : ∀ (s : Shared) (H : Hp) (C : Addr) (cl : List (Str × Addr)) (fp : List Addr), PE (X.blk s H scope (compEnvC scope cl C X.env) fp) vx tv) (hs : ∀ x, foldedSetIterable iter X.env x = pure x := by intro _; rfl) :
    PS X (.Assign [.Name y py] (.DictComp kx vx [⟨tg, iter, ifs, 0⟩] scope pos) spos) (tAsg (tDc wi g tt tk tv (own.map (·.2))) (gName i)) := by
  constructor
  intro pins s σ H D I h
  rw [exec_Assign_Name_used _ _ _ _ sw]
  refine wpAny_bind (wpAny_standAt (wpAny_bind ?_))
  show wpAny _ X.A (do let _ ← comprehension (.DictComp kx vx [⟨tg, iter, ifs, 0⟩] scope pos) scope X.env (firstIterPos [⟨tg, iter, ifs, 0⟩] pos) newDict false (eval iter X.env) (some (assign (.Name y py) X.env))) _ _ s
  have want : tDc wi g tt tk tv (own.map (·.2)) σ H (fun x H1 => gName i x σ H1 D.nx) := h
  refine wpAny_bind (thn (dc_core (Qf := fun _ s' => SP X pins D .next s') calm nod I hi ok hg ht hk he hs want ?_) fun _ s' hq => wpAny_pure (wpAny_pure hq))
  intro L C s' m H' I' q hn fp
  show wpAny _ _ (assign (.Name y py) X.env (.ref L)) _ _ _
  refine wpAny_assign_Name (store_ok2 (v := V.ref L) I' nod at_ (.inl loc) rfl ?_ (.inr loc))
  rintro s2 I2 ⟨a, sb, ha⟩
  obtain ⟨f0, f1, f2, f3, f4, f5⟩ := fp
  have haC : C ≠ a := ha.elim (fun z => z ▸ f1) fun z e => f4 y a z e.symm
  refine ⟨m, hn.sameBut sb haC, fun h3 sb3 => ?_⟩
  exact ⟨_, H', I2.turned (t' := s2.toks) (fun b o hb e => (sb3.2 b hb).trans e) f0 f1 f3 f4 f5, q⟩
theorem sw_trueD {kx vx : Expr} {gs : List Comprehension} {scope : Scope} {pos py : Pos} {y : Str} {l : Nat} {env : Env} (hk : env.scope.kind = .function) (hy : env.scope.names.lookup y = some .local) (hl : (py.line == pos.line) = true)
    (ha : (scope.names.any fun (n, k) => n == y && (k == .local || k == .cell)) = false) : swapsWith (.DictComp kx vx gs scope pos) (some (.Name y py)) l env = pure true := by
  have ky : env.kindOf y = some .local := hy
  have hb : env.blockKind = .function := by
    unfold Env.blockKind
    rw [hk]
    rfl
  unfold swapsWith
  simp only [hb, ky, ha, Expr.pos, hl]
  rfl
end
end Ln
set_option Elab.async false
set_option linter.all false
set_option maxRecDepth 100000
set_option maxHeartbeats 4000000
namespace Ln
open PySem PySem.Spec PyProof.Rows L2
/-- a dict comprehension over a walk -/
theorem dc_it {J : It} {n : Nat} {G : Hp → Prop} {Y : Nat → Hp → V → Hp → Prop} (w : Walk J n G Y) {g : TG} {tt : TT} {tk tv : TE} {vs : List Nat} {σ : L2.St} {H1 : Hp} {D : Addr} {Qd : Hp → Prop} (Pv : Nat → Hp → Prop) (h0 : Pv 0 (upd H1 D (.dK []))) (hG : ∀ i H, i ≤ n → Pv i H → G H)
    (hs : ∀ i x H H', i < n → Pv i H → Y i H x H' → g x (wipe σ vs) H' fun σ2 H2 => wipe σ2 vs = wipe σ vs ∧ tt σ2 H2 fun b H3 =>
      if b = true then tk σ2 H3 fun y H4 => tv σ2 H4 fun z H5 => ∃ kvs k, y = kV k ∧ H5 D = some (.dK kvs) ∧ kvs.length < sizeLine ∧ Pv (i + 1) (upd H5 D (.dK (putK kvs k z))) else Pv (i + 1) H3) (hd : ∀ H, Pv n H → Qd H) :
    ∃ W : Nat → Nat → Hp → Prop, (∃ m, W 0 m (upd H1 D (.dK []))) ∧ ∀ i m H, W i m H →
      (J.stop i H ∧ Qd H) ∨ (J.go i H ∧ ∃ Nx : Hp → Prop, (∀ H', Nx H' → ∃ m', m' < m ∧ W (i + 1) m' H') ∧ ∀ x H', J.yld i H x H' → g x (wipe σ vs) H' fun σ2 H2 => wipe σ2 vs = wipe σ vs ∧ tt σ2 H2 fun b H3 =>
        if b = true then tk σ2 H3 fun y H4 => tv σ2 H4 fun z H5 => ∃ kvs k, y = kV k ∧ H5 D = some (.dK kvs) ∧ kvs.length < sizeLine ∧ Nx (upd H5 D (.dK (putK kvs k z))) else Nx H3) := by
  refine ⟨fun i m H => m = n - i ∧ i ≤ n ∧ Pv i H, ⟨n, by simp, Nat.zero_le _, h0⟩, ?_⟩
  rintro i m H ⟨rfl, hi, p⟩
  have q := hG i H hi p
  rcases Nat.lt_or_eq_of_le hi with lt | e
  · refine .inr ⟨w.goes i H lt q, Pv (i + 1), fun H' p' => ⟨n - (i + 1), by omega, rfl, lt, p'⟩, fun x H' y => ?_⟩
    exact hs i x H H' lt p (w.yields i H x H' lt q y)
  · subst e
    exact .inl ⟨w.stops H q, hd H p⟩
/-- a class that may be made by its name; sp: its own __init__ -/
structure MakG (P : Program) (w : World) (K : PySem.W.Frag) (mg : Str → Option Value) (base : Heap) (k : Nat) (x : Str) (C : Addr) (sp : Sp) : Prop where
  ex : ∃ (f : Addr) (fd : FuncData) (ps : List Str), Mk K C f ∧ FnOk P w K mg base CX0 k f fd ps sp ∧ mg x = some (.ref C) ∧ Binds K fd ps []
theorem pe_mkG {X : Cx} {j k : Nat} {C : Addr} {x : Str} {sp : Sp} {p pos : Pos} {e : Expr} {es : List Expr} {t : TA} (c : MakG X.prog X.w X.K X.mg X.base k x C sp) (hr : Room j X.A) (hk : k + 1 ≤ j) (hg : Gl X x) (ha : PA X (e :: es) t)
    (hdb : (x == ("__debug__" : Str)) = false := by decide) (he : starEach (e :: es) X.env = (false, eval e X.env) :: starEach es X.env := by rfl) (hpl : (backTo pos (starEach es X.env)).any (·.1) = false := by rfl) :
    PE X (.Call (.Name x p) (e :: es) [] pos) (tMake C sp [] E0 t) := by
  obtain ⟨f, fd, ps, M, F, hm, b⟩ := c.ex
  exact pe_make M F (hr.mono hk) hg hm b .nil pass0 ha hdb he hpl
end Ln
set_option Elab.async false
set_option linter.all false
set_option maxRecDepth 100000
set_option maxHeartbeats 4000000
namespace Ln
open PySem PySem.Spec PyProof.Rows L2
theorem each_eq {α : Type} : ∀ l : List α, PySem.W.EachIs (fun a b => a = b) l l
  | [] => .nil
  | _ :: l => .cons rfl (each_eq l)
theorem eq_each {α : Type} : ∀ {l m : List α}, PySem.W.EachIs (fun a b => a = b) l m → l = m
  | _, _, .nil => rfl
  | _, _, .cons e t => by rw [e, eq_each t]
theorem each_self {α : Type} {R : α → α → Prop} : ∀ {l : List α}, (∀ a ∈ l, R a a) → PySem.W.EachIs R l l
  | [], _ => .nil
  | a :: l, h => .cons (h a (by simp)) (each_self fun b hb => h b (by simp [hb]))
/-- a number and two texts in a tuple -/
def t3 (k : Int × PySem.Str × PySem.Str) : PyData := .tuple [.int k.1, .str k.2.1, .str k.2.2]
theorem t3_depth (k : Int × PySem.Str × PySem.Str) : (t3 k).depth = 1 := by simp [t3, PyData.depth, PyData.depthAll]
abbrev leT3 (k : V → Int × PySem.Str × PySem.Str) : V → V → Bool := PySem.W.dataLe false fun x => t3 (k x)
/-- sorted(xs), xs a list of tuples of a number and two texts -/
def rSorted3 (K : PySem.W.Frag) : List V → Hp → VK → Prop := fun vs H Q => ∃ (a : Addr) (xs : List V) (k : V → Int × PySem.Str × PySem.Str), vs = [V.ref a] ∧ SqL K H a xs ∧
  (∀ x ∈ xs, ∃ t, x = V.ref t ∧ H t = some (.tup [.int (k x).1, .str (k x).2.1, .str (k x).2.2])) ∧ ∀ p, H p = none → Q (.ref p) (upd H p (.lst (xs.mergeSort (leT3 k))))
variable {X : Cx}
theorem cr_sorted3 (hu : X.A.units + 8 < cLine) : CallR X (.builtin "sorted") (rSorted3 X.K) := by
  intro pins s σ H vs us Q I r h
  obtain ⟨a, xs, k, rfl, hs, hx, q⟩ := h
  obtain ⟨its, rv, hl, hz⟩ := I.list hs
  obtain ⟨u, rfl, ru⟩ := vals1 r
  obtain rfl : u = Value.ref a := ru
  obtain ⟨e1, e2⟩ := refs_back rv fun x m => by
    obtain ⟨t, e, _⟩ := hx x m
    exact ⟨t, e⟩
  have er : PySem.W.EachIs (fun v b => ∃ as, Reads s.heap v (t3 (k (backV b))) as) its its := each_self fun v hv => by
    obtain ⟨t, rfl⟩ := e2 v hv
    have hm : V.ref t ∈ xs := by rw [e1]; exact List.mem_map.mpr ⟨_, hv, rfl⟩
    obtain ⟨t', e, ht⟩ := hx _ hm
    cases e
    obtain ⟨_, its2, r2, o, ho, hc, n, hd⟩ := I.hok _ _ ht
    rcases r2 with _ | ⟨ri, r2⟩
    rcases r2 with _ | ⟨rj, r2⟩
    rcases r2 with _ | ⟨rk, r2⟩
    cases r2
    obtain ⟨t1, rfl⟩ := ri
    obtain ⟨t2, rfl⟩ := rj
    obtain ⟨t3, rfl⟩ := rk
    exact ⟨_, .tuple ho hc hd (.cons (.int _ _) (.cons (.str _ _) (.cons (.str _ _) .nil)))⟩
  refine PySem.W.sorted_data (R := fun a b => a = b) (enc := fun u => t3 (k (backV u))) hl.isList (each_eq its) er (PySem.W.AllAlike.of fun _ _ => by simp [PySem.W.alike, PySem.W.alikeAll, t3]) (PySem.W.Sortable.tuples fun _ => ⟨_, _, rfl⟩) (by rw [← rv.length]; exact hz) (fun b _ => by rw [t3_depth]; omega) fun out _ eo => ?_
  have eo := eq_each eo
  subst eo
  have em : (its.mergeSort (PySem.W.dataLe false fun u => t3 (k (backV u)))).map backV = xs.mergeSort (leT3 k) := by
    rw [e1]
    exact List.map_mergeSort fun _ _ _ _ => rfl
  obtain ⟨n, hn⟩ := sortedAll_at s.heap its (its.mergeSort (PySem.W.dataLe false fun u => t3 (k (backV u)))).toArray
  have h3 : ∀ u ∈ its.mergeSort (PySem.W.dataLe false fun u => t3 (k (backV u))), ∃ a, u = Value.ref a := fun u hu => e2 u ((List.mergeSort_perm _ _).mem_iff.mp hu)
  refine ⟨.ref _, upd H (s.heap.objs.size + 1) (.lst (xs.mergeSort (leT3 k))), I.laid (t' := s.toks) (fun b o e => sortedAll_old e) (Nat.le_succ _) ⟨?_, _, n, by rw [← em]; exact vals_back h3, hn⟩, rfl, q _ (I.hok.fresh (Nat.le_succ _))⟩
  rw [List.length_mergeSort]
  exact hz
end Ln
set_option Elab.async false
set_option linter.all false
set_option maxRecDepth 100000
set_option maxHeartbeats 4000000
namespace Ln
open PySem PySem.Spec PyProof.Rows L2 PySem.W
abbrev D3 := Int × PySem.Str × PySem.Str
/-- the order of such data -/
def leD : D3 → D3 → Bool := dataLe false t3
theorem dataLt_t3 (p q : D3) : dataLt (t3 p) (t3 q) = decide (p.1 < q.1 ∨ (p.1 = q.1 ∧ (p.2.1.cps.toList < q.2.1.cps.toList ∨ (p.2.1 = q.2.1 ∧ p.2.2.cps.toList < q.2.2.cps.toList)))) := by
  have e : PyProof.Rows.lexLt itemOrd (keyToksAll []) (keyToksAll []) = false := lex_irrefl _
  rw [t3, t3, dataLt_tuple, dataLt_cons (by simp [alike]), dataLt_cons (by simp [alike]), dataLt_cons (by simp [alike]), dataLt_int, dataLt_str, dataLt_str, e]
  simp only [PyData.eqv, beq_iff_eq]
  have hs : ∀ x : List Nat, ¬ x < x := fun x => List.lt_irrefl x
  by_cases h1 : p.1 = q.1 <;> by_cases h2 : p.2.1 = q.2.1 <;> by_cases h3 : p.2.2 = q.2.2 <;> simp [h1, h2, h3, hs]
theorem leD_eq (p q : D3) : leD p q = decide (p.1 < q.1 ∨ (p.1 = q.1 ∧ (p.2.1.cps.toList < q.2.1.cps.toList ∨ (p.2.1 = q.2.1 ∧ p.2.2.cps.toList ≤ q.2.2.cps.toList)))) := by
  show (!dataLt (t3 q) (t3 p)) = _
  rw [dataLt_t3, ← decide_not]
  refine decide_eq_decide.mpr ?_
  have t : ∀ x y : List Nat, ¬ x < y ↔ y ≤ x := fun x y => List.not_lt
  have u : ∀ x y : PySem.Str, x.cps.toList = y.cps.toList → x = y := fun x y h => by
    rcases x with ⟨⟨x⟩⟩; rcases y with ⟨⟨y⟩⟩; exact congrArg (fun l => (⟨⟨l⟩⟩ : PySem.Str)) h
  by_cases h1 : q.1 < p.1
  · simp [h1]; omega
  · by_cases h2 : q.1 = p.1
    · by_cases h3 : q.2.1 = p.2.1
      · simp [h1, h2, h3, List.lt_irrefl]
      · have h3' : ¬ p.2.1 = q.2.1 := fun h => h3 h.symm
        simp only [h2, h3, h3', Int.lt_irrefl, true_and, false_or, false_and, or_false, List.not_lt]
        constructor
        · intro h
          rcases List.le_iff_lt_or_eq.mp h with h | h
          · exact h
          · exact absurd (u _ _ h) h3'
        · exact fun h => List.le_of_lt h
    · have : p.1 < q.1 := by omega
      simp [h1, h2, this]
theorem leD_anti {p q : D3} (h1 : leD p q = true) (h2 : leD q p = true) : p = q := by
  rw [leD_eq] at h1 h2
  have h1 := of_decide_eq_true h1
  have h2 := of_decide_eq_true h2
  have u : ∀ x y : PySem.Str, x.cps.toList = y.cps.toList → x = y := fun x y h => by
    rcases x with ⟨⟨x⟩⟩; rcases y with ⟨⟨y⟩⟩; exact congrArg (fun l => (⟨⟨l⟩⟩ : PySem.Str)) h
  rcases p with ⟨a, b, c⟩
  rcases q with ⟨a', b', c'⟩
  simp only at h1 h2
  obtain rfl : a = a' := by omega
  have k1 := (h1.resolve_left (by omega)).2
  have k2 := (h2.resolve_left (by omega)).2
  rcases k1 with k1 | ⟨rfl, k1⟩
  · rcases k2 with k2 | ⟨e, _⟩
    · exact absurd k2 (List.lt_asymm k1)
    · subst e; exact absurd k1 (List.lt_irrefl _)
  · rcases k2 with k2 | ⟨_, k2⟩
    · exact absurd k2 (List.lt_irrefl _)
    · rw [u _ _ (List.le_antisymm k1 k2)]
theorem leD_total : TotalLe leD := sortLe_total (listOrd itemOrd) false _
/-- a list of such data in order -/
def srt3 (l : List D3) : List D3 := l.mergeSort leD
theorem srt3_pw (l : List D3) : (srt3 l).Pairwise fun a b => leD a b = true := List.pairwise_mergeSort (fun a b c => leD_total.trans a b c) (fun a b => by have := leD_total.total a b; simpa using this) l
theorem srt3_perm (l : List D3) : (srt3 l).Perm l := List.mergeSort_perm _ _
theorem srt3_one {l m : List D3} (h : l.Perm m) : srt3 l = srt3 m :=
  List.Perm.eq_of_pairwise (fun a b _ _ h1 h2 => leD_anti h1 h2) (srt3_pw l) (srt3_pw m) ((srt3_perm l).trans (h.trans (srt3_perm m).symm))
theorem srt3_srt3 (l : List D3) : srt3 (srt3 l) = srt3 l := srt3_one (srt3_perm l)
theorem srt3_map (k : V → D3) (xs : List V) : (xs.mergeSort (leT3 k)).map k = srt3 (xs.map k) := List.map_mergeSort fun _ _ _ _ => rfl
end Ln
set_option Elab.async false
set_option linter.all false
set_option maxRecDepth 100000
set_option maxHeartbeats 4000000
/-! len(set(names)), names a list of fewer than 63 texts, twice or not -/
namespace Ln
open PySem PySem.Spec PyProof.Rows L2
/-- one name more to those met so far -/
def meet (l : List PySem.Str) (x : PySem.Str) : List PySem.Str := if l.any (· == x) then l else l ++ [x]
def met (l : List PySem.Str) : List PySem.Str := l.foldl meet []
theorem met_snoc (l : List PySem.Str) (x : PySem.Str) : met (l ++ [x]) = meet (met l) x := by
  unfold met
  rw [List.foldl_append]
  rfl
theorem met_le : ∀ (n : Nat) (l : List PySem.Str), l.length = n → (met l).length ≤ n := by
  intro n
  induction n with
  | zero => intro l h; rw [List.eq_nil_of_length_eq_zero h]; exact Nat.le_refl _
  | succ n ih =>
    intro l h
    have ne : l ≠ [] := fun e => by rw [e] at h; cases h
    rw [← List.dropLast_concat_getLast ne, met_snoc]
    have := ih l.dropLast (by rw [List.length_dropLast]; omega)
    unfold meet
    split
    · omega
    · rw [List.length_append, List.length_singleton]; omega
theorem meet_any (l : List PySem.Str) (x k : PySem.Str) : (meet l x).any (· == k) = (l.any (· == k) || decide (k = x)) := by
  unfold meet
  by_cases h : l.any (· == x) = true
  · rw [if_pos h]
    by_cases e : k = x
    · rw [e, h]; rfl
    · rw [decide_eq_false e, Bool.or_false]
  · rw [if_neg h, List.any_append]
    by_cases e : k = x
    · rw [e, decide_eq_true rfl, List.any_cons, beq_self_eq_true, Bool.true_or]
    · rw [decide_eq_false e, List.any_cons, List.any_nil, Bool.or_false, beq_eq_false_iff_ne.mpr fun z => e z.symm]
theorem meet_len (l : List PySem.Str) (x : PySem.Str) : (meet l x).length = if l.any (· == x) then l.length else l.length + 1 := by
  unfold meet
  split
  · rfl
  · exact List.length_append
theorem met_mem (l : List PySem.Str) : ∀ k, (met l).any (· == k) = l.any (· == k) := by
  induction hn : l.length generalizing l with
  | zero => rw [List.eq_nil_of_length_eq_zero hn]; intro k; rfl
  | succ n ih =>
    intro k
    have ne : l ≠ [] := fun e => by rw [e] at hn; cases hn
    have e := List.dropLast_concat_getLast ne
    rw [← e, met_snoc, meet_any, ih l.dropLast (by rw [List.length_dropLast]; omega), List.any_append, List.any_cons, List.any_nil, Bool.or_false]
    congr 1
    by_cases c : k = l.getLast ne
    · rw [decide_eq_true c, ← c, beq_self_eq_true]
    · rw [decide_eq_false c, beq_eq_false_iff_ne.mpr fun z => c z.symm]
/-- as many as there are exactly if none stands twice -/
theorem met_all : ∀ l : List PySem.Str, ((met l).length = l.length ↔ l.Nodup) := by
  intro l
  induction hn : l.length generalizing l with
  | zero => rw [List.eq_nil_of_length_eq_zero hn]; simp [met]
  | succ n ih =>
    have ne : l ≠ [] := fun e => by rw [e] at hn; cases hn
    have e := List.dropLast_concat_getLast ne
    have ld : l.dropLast.length = n := by rw [List.length_dropLast]; omega
    have i2 := ih l.dropLast ld
    have le := met_le n l.dropLast ld
    have mm := met_mem l.dropLast (l.getLast ne)
    rw [← e, met_snoc, meet_len, mm, List.nodup_append]
    by_cases c : l.getLast ne ∈ l.dropLast
    · have h : l.dropLast.any (· == l.getLast ne) = true := List.any_eq_true.mpr ⟨_, c, beq_self_eq_true _⟩
      rw [if_pos h]
      constructor
      · intro z; omega
      · exact fun z => absurd rfl (z.2.2 _ c _ (List.mem_singleton.mpr rfl))
    · have h : ¬ l.dropLast.any (· == l.getLast ne) = true := fun z => by
        obtain ⟨y, hy, ey⟩ := List.any_eq_true.mp z
        rw [eq_of_beq ey] at hy
        exact c hy
      rw [if_neg h]
      constructor
      · intro z
        refine ⟨i2.mp (by omega), List.nodup_cons.mpr ⟨List.not_mem_nil, List.nodup_nil⟩, fun a ha b hb z => c ?_⟩
        rw [List.mem_singleton.mp hb] at z
        rw [← z]; exact ha
      · intro z
        have := i2.mpr z.1
        omega
section
variable {P : Program} {w : World} {A : Around} {Rr : Result → Shared → Prop} {It_ : Addr} {fp wr : List Addr} {G : Array GenState → Array GenState → Prop} {n : Nat} {Pw : Nat → Value → Prop} {Sw : Nat → Shared → Prop}
/-- the walk that puts the names into the set -/
theorem set_walk (W : WalksS P w A.in1 It_ fp wr G n Pw Sw) (a : Addr) (ha : a ∉ fp) (xs : List PySem.Str) (hl : xs.length = n) (hb : n + 1 < scanBound) (hv : ∀ j u, Pw j u → ∃ t, u = Value.str (xs.getD j Str.empty) t) (d : Nat) :
    ∀ (j : Nat) (s : Shared), n - j = d → j ≤ n → Sw j s → s.heap.SetOf (PySem.strKind P w) a (fun k => (met (xs.take j)).any (· == k)) (met (xs.take j)).length →
      (∀ s', Moved (a :: wr) G s s' → s'.heap.SetOf (PySem.strKind P w) a (fun k => (met xs).any (· == k)) (met xs).length → Rr (.ok (.ret .none)) s') →
      codeAny (model P w) A (.builtin "set.update.loop" ⟨[.ref a, .ref It_], []⟩) Rr s := by
  have aw : a ∉ wr := fun h => ha (W.sub _ h)
  induction d with
  | zero =>
    intro j s e1 e2 st hS fin
    obtain rfl : j = n := by omega
    refine codeAny_builtin PyProof.Rows.F.entry_set_update_loop ?_; rw [Around.under_plainId PyProof.Rows.F.plain_set_update_loop _]
    show wpAny _ A.in1 (pyNext (.ref It_) >>= _) _ _ s
    refine wpAny_bind (W.done s _ _ st fun s' mv => (?_ : wpAny _ A.in1 (ret Value.none) _ _ s'))
    rw [List.take_of_length_le (by omega)] at hS
    obtain ⟨o, es, ep, t, ho, more⟩ := hS
    exact wpAny_pure (fin s' (mv.mono fun b m => List.mem_cons_of_mem _ m) ⟨o, es, ep, t, mv.heap a _ aw ho, more⟩)
  | succ d ih =>
    intro j s e1 e2 st hS fin
    have lt : j < n := by omega
    refine codeAny_builtin PyProof.Rows.F.entry_set_update_loop ?_; rw [Around.under_plainId PyProof.Rows.F.plain_set_update_loop _]
    show wpAny _ A.in1 (pyNext (.ref It_) >>= _) _ _ s
    refine wpAny_bind (W.item j s _ _ lt st fun u s' pu st' mv => ?_)
    obtain ⟨t, rfl⟩ := hv j u pu
    obtain ⟨o, es, ep, tb, ho, more⟩ := hS
    show wpAny _ A.in1 (holding [Value.str (xs.getD j Str.empty) t] (setAdd a (.str (xs.getD j Str.empty) t)) >>= _) _ _ s'
    refine wpAny_bind (wpAny_holding (?_ : wpAny _ _ (setAdd a _) _ _ _))
    unfold setAdd
    refine wpAny_holding (wpAny_bind ((PySem.strKind P w).pyHash (k := xs.getD j Str.empty) (strKind_is _ _ _ _) ?_))
    have lm : (met (xs.take j)).length ≤ j := met_le _ _ (by rw [List.length_take]; omega)
    refine wpAny_setAddHashed_of (knd := PySem.strKind P w) (s := { s' with toks := s'.toks + 1 }) (strKind_is _ _ _ _) rfl ⟨o, es, ep, tb, mv.heap a _ aw ho, more⟩ (by omega) fun h' only hS2 => ?_
    have tk : xs.take (j + 1) = xs.take j ++ [xs.getD j Str.empty] := by
      rw [List.take_add_one, List.getElem?_eq_getElem (by omega), List.getD_eq_getElem?_getD, List.getElem?_eq_getElem (by omega)]; rfl
    have nx : h'.SetOf (PySem.strKind P w) a (fun k => (met (xs.take (j + 1))).any (· == k)) (met (xs.take (j + 1))).length := SetOf_congr hS2 (fun k => by rw [tk, met_snoc, meet_any]) (by rw [tk, met_snoc, meet_len])
    have fr : ∀ b ∈ fp, ∀ o, s'.heap.get? b = some o → h'.get? b = some o := fun b m o e => by rw [only.2 b fun z => ha (z ▸ m)]; exact e
    refine wpAny_pure ⟨plainId_quiet PyProof.Rows.F.plain_set_update_loop _, ih (j + 1) _ (by omega) lt (W.frame _ s' _ _ st' (Nat.le_succ _) fr) nx fun s2 mv2 hS3 => fin s2 (Moved.trans W.gtrans ((mv.mono fun b m => List.mem_cons_of_mem _ m).then_heap (Nat.le_succ _) fun b o nb e => ?_) mv2) hS3⟩
    rw [only.2 b fun z => nb (z ▸ List.mem_cons_self)]; exact e
end
section
variable {P : Program} {w : World} {A : Around} {E : Value → Shared → Prop} {s : Shared}
abbrev bare (led : Bool) : Obj := { cls := .type "set", dict := none, data := .set #[] 0 (.fresh 0 0 led) }
set_option maxHeartbeats 8000000 in
/-- set(l), l a list of texts -/
theorem call_set_names {l : Addr} {its : Array Value} {xs : List PySem.Str} {Q : Value → Shared → Prop} (hh : A.handled = none) (hl : s.heap.IsList l its) (hi : PyProof.Rows.StrsAre its.toList xs) (hb : its.size + 1 < scanBound)
    (fin : ∀ (h' : Heap) (tk : Nat), h'.SetOf (PySem.strKind P w) s.heap.objs.size (fun k => (met xs).any (· == k)) (met xs).length → (∀ b o, b < s.heap.objs.size → s.heap.get? b = some o → h'.get? b = some o) → Q (.ref s.heap.objs.size) { s with heap := h', toks := tk }) :
    wpAny (model P w) A (call (.type "set") [.ref l]) Q E s := by
  have hn : xs.length = its.size := by rw [← StrsAre.len_eq hi, Array.length_toList]
  obtain ⟨c, tl, k1⟩ := PySem.F.called_set.mro; have k2 := PySem.F.called_set.made; have k3 := PySem.F.called_set.sub
  refine wpAny_call (codeAny_of_tree (?_ : wpAny _ _ (callAny (.type "set") _) _ _ _))
  refine wpAny_pure ⟨Code.quiet_builtin _ (by decide +kernel), codeAny_builtin PySem.F.entry_type_call ?_⟩; rw [Around.under_plain (weight_type_call_type "set" [.ref l] []) rfl]
  have k4 := PySem.F.called_set.notType; have k5 := PySem.F.called_set.canCreate; have k6 := PySem.F.typeCall_set_1 (.ref l)
  repeat any_goals (first | assumption | wp_step)
  refine codeAny_mono (code_set_new_1 (.ref l) (E := E) (Q₁ := fun o t => ∃ led : Bool, o = .ref s.heap.objs.size ∧ t = { s with heap := s.heap.push (bare led) }) fun led => ⟨led, rfl, rfl⟩) fun r t hr => ?_
  rcases r with e | f
  · exact hr
  cases f with
  | ret o =>
    obtain ⟨led, rfl, rfl⟩ := hr
    have at0 : (s.heap.push (bare led)).get? s.heap.objs.size = some (bare led) := Heap.get?_push_size _ rfl
    have ty0 : Shared.TypeIs { s with heap := s.heap.push (bare led) } (.ref s.heap.objs.size) "set" := ⟨_, at0, rfl⟩
    have k7 := PySem.F.called_set.init.lookup; have k8 := PySem.F.called_set.init.bind (.ref s.heap.objs.size)
    repeat any_goals (first | assumption | wp_step)
    refine codeAny_mono (codeAny_call_builtin (R := wants (fun r t => r = .none ∧ ∃ h' tk, t = { s with heap := h', toks := tk } ∧ h'.SetOf (PySem.strKind P w) s.heap.objs.size (fun k => (met xs).any (· == k)) (met xs).length ∧ ∀ b o, b < s.heap.objs.size → s.heap.get? b = some o → h'.get? b = some o) E)
      PySem.F.called_set.init.plain PySem.F.entry_set_init (check_set_init_1 ty0 ?_)) fun r2 t2 hr2 => ?_
    · obtain ⟨⟨oc, od, ox, os⟩, ho, hc, nl, hd⟩ := hl
      simp only at hc hd; subst hc; subst hd
      have ho2 : (s.heap.push (bare led)).get? l = some { cls := .type "list", dict := od, data := .seq its nl, slots := os } := Heap.get?_push_of_some _ ho
      have l1 := PySem.F.sub_list_set; have l2 := PySem.F.sub_list_frozenset; have l3 : (Value.type "list" == Value.type "dict") = false := by decide
      have isl : (s.heap.push (bare led)).IsList l its := ⟨_, ho2, rfl, nl, rfl⟩
      unfold Builtin.«set.__init__» noKeywords Builtin.Frozenset.updateFrom; generalize hp : pyIter = pit; wp_walk; subst hp
      refine wpAny_pyIter_list isl (wpAny_bind (wpAny_runValue ?_))
      have lt : l < s.heap.objs.size := Heap.lt_size ho
      have ne1 : l ≠ (s.heap.push (bare led)).objs.size := by rw [Heap.size_push]; exact Nat.ne_of_lt (Nat.lt_succ_of_lt lt)
      have no1 : s.heap.objs.size ∉ [(s.heap.push (bare led)).objs.size, l] := by
        rw [Heap.size_push]; intro m; rcases List.mem_cons.mp m with e | m
        · exact Nat.ne_of_lt (Nat.lt_succ_self _) e
        · exact Nat.ne_of_gt lt (List.mem_singleton.mp m)
      refine set_walk ((Walks.list (by simp [hh] : A.in1.in1.in1.handled = none) _ l ne1 its).toS) s.heap.objs.size no1 xs hn hb (fun j u hu => SS.strs_at hi j u (by rw [Array.getElem?_toList]; exact hu)) (its.size - 0) 0 _ (by omega) (Nat.zero_le _) ⟨⟨_, Heap.get?_push_size _ rfl, rfl, rfl⟩, isl.push _⟩ ?_ fun t3 mv hS => ?_
      · exact SetOf_congr ((setObjOf_fresh (knd := PySem.strKind P w) led).setOf (Heap.get?_push_of_some _ at0) (by unfold scanBound; omega)) (fun _ => rfl) rfl
      · obtain ⟨h3, g3, d3, tk3, os3⟩ := t3
        have eg : g3 = s.gens := mv.gens; have ed : d3 = s.drawn := mv.drawn; have eo : os3 = s.os := mv.os
        subst eg; subst ed; subst eo
        show wpAny _ _ _ _ _ _; refine wpAny_pure ?_; show wpAny _ _ (ret Value.none) _ _ _; refine wpAny_pure ⟨rfl, h3, tk3, rfl, hS, fun b o hb e => ?_⟩
        refine mv.heap b o (fun m => ?_) (Heap.get?_push_of_some _ (Heap.get?_push_of_some _ e))
        rw [Heap.size_push] at m; rcases List.mem_cons.mp m with z | m
        · exact Nat.ne_of_lt hb z
        · exact Nat.ne_of_lt (Nat.lt_succ_of_lt hb) (List.mem_singleton.mp m)
    · rcases r2 with e | f2
      · exact hr2
      cases f2 with
      | ret r =>
        obtain ⟨rfl, h3, tk3, rfl, hS, old⟩ := hr2
        repeat any_goals (first | assumption | wp_step)
        exact fin _ _ hS old
      | _ => exact hr2.elim
  | _ => exact hr.elim
end
section
variable {X : Cx}
def tLenNames (K : PySem.W.Frag) (ta : TE) : TE := fun σ H Q => ta σ H fun x H1 => ∃ (l : Addr) (xs : List PySem.Str), x = .ref l ∧ SqL K H1 l (xs.map V.str) ∧ xs.length ≤ 60 ∧ Q (.int ((met xs).length : Nat)) H1
theorem pe_lenNames {a : Expr} {ta : TE} {p p2 q pos : Pos} (hc : X.calm = true) (hg : Gl X "len") (hm : X.mg "len" = none) (hg2 : Gl X "set") (hm2 : X.mg "set" = none) (ha : PE X a ta)
    (na : starEach [a] X.env = (false, eval a X.env) :: starEach [] X.env := by rfl) : PE X (.Call (.Name "len" p) [.Call (.Name "set" p2) [a] [] q] [] pos) (tLenNames X.K ta) := by
  refine ⟨fun pins s σ H Q I h => Call_ (ld_blt I hg hm boot_len (PyProof.Rows.callWith_builtin1 (PyProof.Rows.args_cons ?_ rfl) rfl rfl))⟩
  refine Call_ (ld_blt I hg2 hm2 boot_set (PyProof.Rows.callWith_type1 (PyProof.Rows.args_cons (thn (ha.run pins s σ H _ I h) fun v s1 ⟨x, H1, I1, r1, q1⟩ => PyProof.Rows.args_nil ?_) na) na rfl))
  obtain ⟨l, xs, rfl, hq, h1, q1⟩ := q1
  cases r1
  obtain ⟨its, r, pl, hz⟩ := I1.list hq
  have ln : its.toArray.size = xs.length := by rw [List.size_toArray, ← r.length, List.length_map]
  refine call_set_names (I1.ok.hd hc) pl.isList (by simpa using strsAre_of r) (by rw [ln]; unfold scanBound; omega) fun h' tk hS hk => PyProof.Rows.args_nil ?_
  obtain ⟨o, es, ep, t, ho, hex, hd, _, _, _, hf, hn⟩ := hS
  have le := met_le _ xs rfl
  exact call_len_set ho hex hd hf (by rw [hn]; omega) ⟨.int (met xs).length, H1, (I1.kept (t' := tk) fun b o e => hk b o (Heap.lt_size e) e).tok _, ⟨_, by rw [hn]⟩, q1⟩
end
end Ln
set_option Elab.async false
set_option linter.all false
set_option maxRecDepth 100000
set_option maxHeartbeats 4000000
/-! min(ns, default=None), ns a list of whole numbers, empty or not -/
namespace Ln
open PySem PySem.Spec PyProof.Rows L2 PySem.W
/-- the least of a list, none of an empty one -/
def least : List Int → Option Int
  | [] => none
  | n :: ns => some (ns.foldl min n)
def vOf : Option Int → V
  | none => .non
  | some m => .int m
def rMinD (K : PySem.W.Frag) : List V → List V → Hp → VK → Prop := fun vs zs H Q => ∃ (a : Addr) (ns : List Int), vs = [V.ref a] ∧ zs = [V.non] ∧ SqL K H a (ns.map V.int) ∧ Q (vOf (least ns)) H
theorem reads_vals {h : Heap} : ∀ {ns : List Int} {us : List Value}, Vals (ns.map V.int) us → ReadsAll h us (ns.map .int) []
  | [], _, .nil => .nil
  | n :: ns, _, .cons r t => by
    obtain ⟨k, rfl⟩ := r
    exact .cons (as := []) (.int n k) (reads_vals t)
theorem depth_ints : ∀ ns : List Int, PyData.depthAll (ns.map .int) = 0
  | [] => by simp only [List.map_nil, PyData.depthAll]
  | n :: ns => by simp only [List.map_cons, PyData.depthAll, PyData.depth, depth_ints ns, Nat.max_self]
theorem alike_ints (ns : List Int) : AlikeAll (ns.map PyData.int) :=
  ⟨fun x hx y hy => by
    obtain ⟨i, _, rfl⟩ := List.mem_map.mp hx
    obtain ⟨j, _, rfl⟩ := List.mem_map.mp hy
    simp [alike], fun x hx => by
    obtain ⟨i, _, rfl⟩ := List.mem_map.mp hx
    exact nofun⟩
theorem cr_minD {X : Cx} (hc : X.calm = true) (hu : X.A.units + 8 < cLine) : CallRK X (.builtin "min") [Str.ofString "default"] (rMinD X.K) := by
  intro pins s σ H vs zs us ws Q I r rz h
  obtain ⟨a, ns, rfl, rfl, hs, q⟩ := h
  obtain rfl := Vals.ref1 r
  obtain ⟨w1, rfl, e1⟩ := vals1 rz
  obtain rfl : w1 = Value.none := e1
  obtain ⟨its, rv, pl, hz⟩ := I.list hs
  refine min_list_default (xs := ns.map .int) (as := []) (I.ok.hd hc) pl.isList (by simpa using reads_vals rv) (alike_ints ns) (by rw [depth_ints]; omega) (fun e h' tk hk => ?_) fun y ys i v h' tk bs e hv hr hk => ?_
  · obtain rfl : ns = [] := List.map_eq_nil_iff.mp e
    exact ⟨.non, H, I.kept (t' := tk) fun b o e => hk b o e, rfl, q⟩
  · cases ns with
    | nil => cases e
    | cons n ns =>
      rw [List.map_cons] at e
      injection e with e1 e2
      subst e1; subst e2
      rw [minD_ints] at hr
      cases hr with
      | int _ t => exact ⟨.int (ns.foldl min n), H, I.kept (t' := tk) fun b o e => hk b o e, ⟨t, rfl⟩, q⟩
theorem foldl_min : ∀ (ns : List Int) (n : Int), (∀ m ∈ ns, ns.foldl min n ≤ m) ∧ ns.foldl min n ≤ n ∧ (ns.foldl min n = n ∨ ns.foldl min n ∈ ns)
  | [], n => ⟨nofun, Int.le_refl _, .inl rfl⟩
  | k :: ns, n => by
    obtain ⟨h1, h2, h3⟩ := foldl_min ns (min n k)
    rw [List.foldl_cons]
    refine ⟨fun m hm => ?_, by omega, ?_⟩
    · rcases List.mem_cons.mp hm with rfl | hm
      · omega
      · exact h1 m hm
    · rcases h3 with h3 | h3
      · rw [h3]
        rcases Int.le_total n k with c | c
        · exact .inl (by omega)
        · exact .inr (List.mem_cons.mpr (.inl (by omega)))
      · exact .inr (List.mem_cons_of_mem _ h3)
end Ln
set_option Elab.async false
set_option linter.all false
set_option maxRecDepth 100000
set_option maxHeartbeats 4000000
/-! t[::-1], t a tuple -/
namespace HT
open PySem PySem.Spec PyProof.Rows
section
variable {P : Program} {w : World} {A : Around} {E : Value → Shared → Prop} {s : Shared}
theorem applied_back {sl : Addr} {t : Tok} {n : Nat} {Q : Int × Int × Nat → Shared → Prop} (hs : s.heap.IsSliceOf sl .none .none (.int (-1) t)) (h : Q ((n : Int) - 1, -1, n) s) : wpAny (model P w) A (Builtin.Slice.sliceApplied (.ref sl) (pure (n : Int))) Q E s := by
  obtain ⟨os, hos, hcs, hds⟩ := id hs
  unfold Builtin.Slice.sliceApplied Builtin.Slice.sliceFields
  refine wpAny_bind (wpAny_bind (wpAny_field hos hds (x := .none) rfl (wpAny_bind (wpAny_field hos hds (x := .none) rfl (wpAny_bind (wpAny_field hos hds (x := .int (-1) t) rfl (wpAny_pure ?_)))))))
  refine wpAny_bind (slicePart_int ?_)
  show wpAny _ _ (if ((-1 : Int) == 0) = true then _ else _) _ _ s
  rw [if_neg (by decide)]
  refine wpAny_bind (slicePart_none (wpAny_bind (slicePart_none (wpAny_bind (wpAny_pure ?_)))))
  show wpAny _ _ (match Builtin.Slice.sliceAdjust none none (-1) (n : Int) with | (lo, hi) => pure (lo, (-1 : Int), Builtin.Slice.slicePlaces lo hi (-1))) _ _ s
  have e1 : Builtin.Slice.sliceAdjust none none (-1) (n : Int) = ((n : Int) - 1, -1) := by
    unfold Builtin.Slice.sliceAdjust
    simp
  have e2 : Builtin.Slice.slicePlaces ((n : Int) - 1) (-1) (-1) = n := by
    unfold Builtin.Slice.slicePlaces
    simp
    try omega
  rw [e1]
  show wpAny _ _ (pure ((n : Int) - 1, (-1 : Int), Builtin.Slice.slicePlaces ((n : Int) - 1) (-1) (-1))) _ _ s
  rw [e2]
  exact wpAny_pure h
theorem fm_map {α β : Type} {f : α → Option β} {g : α → β} : ∀ l : List α, (∀ x ∈ l, f x = some (g x)) → l.filterMap f = l.map g
  | [], _ => rfl
  | x :: l, h => by
    rw [List.filterMap_cons, h x List.mem_cons_self, List.map_cons, fm_map l fun y hy => h y (List.mem_cons_of_mem _ hy)]
theorem pick_back (xs : Array Value) : ((List.range xs.size).filterMap fun (k : Nat) => xs[(((xs.size : Nat) : Int) - 1 + (k : Int) * (-1)).toNat]?).toArray = xs.toList.reverse.toArray := by
  congr 1
  refine List.ext_getElem? fun i => ?_
  have e : ((List.range xs.size).filterMap fun (k : Nat) => xs[(((xs.size : Nat) : Int) - 1 + (k : Int) * (-1)).toNat]?) = (List.range xs.size).map fun k => xs.getD (xs.size - 1 - k) .none := by
    refine fm_map _ fun k hk => ?_
    have hk := List.mem_range.mp hk
    rw [show (((xs.size : Nat) : Int) - 1 + (k : Int) * (-1)).toNat = xs.size - 1 - k by omega]
    have hlt : xs.size - 1 - k < xs.size := by omega
    rw [Array.getElem?_eq_getElem hlt, Array.getD_eq_getD_getElem?, Array.getElem?_eq_getElem hlt]
    rfl
  rw [e]
  by_cases c : i < xs.size
  · rw [List.getElem?_map, List.getElem?_range c, List.getElem?_reverse (by simpa using c)]
    have hlt : xs.size - 1 - i < xs.size := by omega
    rw [Array.length_toList, Array.getElem?_toList, Array.getElem?_eq_getElem hlt]
    show some (xs.getD (xs.size - 1 - i) .none) = _
    rw [Array.getD_eq_getD_getElem?, Array.getElem?_eq_getElem hlt]
    rfl
  · rw [List.getElem?_eq_none (by simp; omega), List.getElem?_eq_none (by simp; omega)]
theorem getItem_back {t sl : Addr} {items : Array Value} {u : Tok} {Q : Value → Shared → Prop} (ht : IsTup s.heap t items) (hs : s.heap.IsSliceOf sl .none .none (.int (-1) u)) (hsz : items.size ≤ sizeLine)
    (h : Q (.ref s.heap.objs.size) { s with heap := s.heap.push { cls := .type "tuple", data := .seq items.toList.reverse.toArray } }) : wpAny (model P w) A (getItem (.ref t) (.ref sl)) Q E s := by
  obtain ⟨os, hos, hcs, hds⟩ := id hs
  have tys : s.TypeIs (.ref sl) "slice" := ⟨os, hos, hcs⟩
  have fit : sizeOk (.seq items.toList.reverse.toArray) := by
    show items.toList.reverse.toArray.size ≤ sizeLine
    rw [List.size_toArray, List.length_reverse, Array.length_toList]; exact hsz
  unfold getItem
  try with_reducible refine wpAny_holding ?_
  first | refine wpAny_bind (wpAny_pure ?_) | skip
  refine wpAny_bind (wpAny_sequenceKey ht.typeIs (by decide) (wpAny_bind (wpAny_callSpecial?_slot (name := Str.ofString "__getitem__") ht.typeIs PyProof.Rows.slot_tuple_getitem (wpAny_call_entry PyProof.Rows.slot_tuple_getitem ht.typeIs entry_tuple_getitem ?_ (args_tuple_getitem _ _)))))
  show wpAny _ _ (Builtin.Tuple.tupleItemsOf (.ref t) >>= _) _ _ s
  refine wpAny_bind (tupleItemsOf_ ht (wpAny_bind (wpAny_typeOf tys ?_)))
  rw [if_pos (by decide)]
  refine wpAny_bind (applied_back hs ?_)
  have no : ¬ ((((items.size : Nat) : Int) - 1 == 0 && (-1 : Int) == 1 && items.size == items.size) = true) := by
    rw [show ((-1 : Int) == 1) = false by decide, Bool.and_false, Bool.false_and]
    exact Bool.false_ne_true
  show wpAny _ _ (if (((items.size : Nat) : Int) - 1 == 0 && (-1 : Int) == 1 && items.size == items.size) = true then _ else _) _ _ s
  rw [if_neg no, pick_back]
  first
    | exact wpAny_bind (m := Builtin.Tuple.tupleExact _) (wpAny_newObj_type (wpAny_pure ⟨_, rfl, wpAny_pure h⟩) fit)
    | exact wpAny_bind (m := Builtin.Tuple.tupleExact _) (wpAny_newObj_type (wpAny_bind (wpAny_pure (wpAny_pure ⟨_, rfl, wpAny_pure h⟩))) fit)
    | exact wpAny_bind (wpAny_bind (m := Builtin.Tuple.tupleExact _) (wpAny_newObj_type (wpAny_pure (wpAny_pure ⟨_, rfl, wpAny_pure h⟩)) fit))
    | exact wpAny_bind (wpAny_bind (m := Builtin.Tuple.tupleExact _) (wpAny_newObj_type (wpAny_pure ⟨_, rfl, wpAny_pure h⟩) fit))
end
end HT
namespace Ln
open PySem PySem.Spec PyProof.Rows L2
section
variable {X : Cx}
def tRevT (K : PySem.W.Frag) (te : TE) : TE := fun σ H Q => te σ H fun x H1 => ∃ a xs, x = .ref a ∧ SqT K H1 a xs ∧ ∀ p, H1 p = none → Q (.ref p) (upd H1 p (.tup xs.reverse))
theorem pe_revT {e : Expr} {te : TE} {k : Nat} {p1 p2 p3 pos : Pos} (he : PE X e te) : PE X (.Subscript e (.Slice none none (some (.UnaryOp .USub (.Constant (.int 1) k p1) p2)) p3) pos) (tRevT X.K te) := by
  refine ⟨fun pins s σ H Q I h => Subscript_ (thn (he.run pins s σ H _ I h) fun v s1 ⟨x, H1, I1, r1, q1⟩ => ?_)⟩
  obtain ⟨a, xs, ex, hx, q⟩ := q1
  subst ex
  cases r1
  have stp : PO X (some (.UnaryOp .USub (.Constant (.int 1) k p1) p2)) (tPart (tUn (rU fun i => .int (-i)) (tC (.int 1)))) := po_some (pe_un un_neg pe_int)
  refine wpAny_Slice (thn (po_none.run pins s1 σ H1 (fun o H2 => o = none ∧ H2 = H1) I1 ⟨rfl, rfl⟩) fun vl s2 ⟨l, H2, I2, pl, el, e2⟩ => ?_)
  subst el e2
  refine thn (po_none.run pins s2 σ H2 (fun o H3 => o = none ∧ H3 = H2) I2 ⟨rfl, rfl⟩) fun vu s3 ⟨u, H3, I3, pu, eu, e3⟩ => ?_
  subst eu e3
  refine thn (stp.run pins s3 σ H3 (fun o H4 => o = some (-1) ∧ H4 = H3) I3 ⟨1, rfl, -1, rfl, rfl, rfl⟩) fun vs s4 ⟨o, H4, I4, ps, eo, e4⟩ => ?_
  subst eo e4
  obtain rfl : vl = Value.none := by cases pl; rfl
  obtain rfl : vu = Value.none := by cases pu; rfl
  obtain ⟨tk, rfl⟩ : ∃ tk, vs = Value.int (-1) tk := by cases ps; exact ⟨_, rfl⟩
  have I5 : L2.Inv X pins σ H4 { s4 with heap := s4.heap.push { cls := .type "slice", data := .fields #[.none, .none, .int (-1) tk] } } := I4.kept (t' := s4.toks) fun b ob q => Heap.get?_push_of_some _ q
  obtain ⟨its, r, ht, hz⟩ := I5.tuple hx
  have hlen := r.length
  show wpAny (model X.prog X.w) X.A (subscriptTail e (.Slice none none (some (.UnaryOp .USub (.Constant (.int 1) k p1) p2)) p3) (.ref a) (.ref s4.heap.objs.size)) (EP X pins σ Q) X.xe { s4 with heap := s4.heap.push { cls := .type "slice", data := .fields #[.none, .none, .int (-1) tk] } }
  refine tail_any (ops := [.ref a, .ref s4.heap.objs.size]) ht.typeIs (PyProof.Rows.slot_tuple_getitem.lookup) (HT.getItem_back ht (Heap.IsSliceOf.new _ _ _ _) (by rw [List.size_toArray]; omega) ?_) (by with_unfolding_all rfl)
  refine ⟨.ref _, _, I5.laid (t' := s4.toks) (o := .tup xs.reverse) (fun b ob q => Heap.get?_push_of_some _ q) (Nat.le_refl _) ?_, rfl, q _ (I5.hok.fresh (Nat.le_refl _))⟩
  exact ⟨by rw [List.length_reverse]; exact hz, _, r.reverse, IsTup.new _ _⟩
end
end Ln
set_option Elab.async false
set_option linter.all false
set_option maxRecDepth 100000
set_option maxHeartbeats 4000000
/-! x in y, x and the items data, y a list or a tuple -/
namespace Ln
open PySem PySem.Spec PyProof.Rows L2
theorem Room.un65 {k : Nat} {A : Around} (r : Room k A) : A.units + 65 < cLine := by have := r.un; omega
section
variable {X : Cx}
def rInDT (K : PySem.W.Frag) (neg : Bool) : R2 := fun x y H Q => ∃ d ds, Dp K H x d ∧ (Dp K H y (.list ds) ∨ Dp K H y (.tuple ds)) ∧ SeqAt.shaped d = true ∧ PyData.canLayAll0 ds = true ∧ Q (.bl (if neg then !ds.any (fun z => PyData.eqv z d) else ds.any fun z => PyData.eqv z d)) H
theorem op_inDT (hu : X.A.units + 65 < cLine) : OpR X (compareOp .In) (rInDT X.K false) := by
  intro pins s σ H x y v u Q I rx ry h
  obtain ⟨d, ds, hd, he, sd, se, q⟩ := h
  obtain ⟨as, r1⟩ := Dp.reads I d x v hd rx
  rcases he with he | he
  · obtain ⟨bs, r2⟩ := Dp.reads I (.list ds) y u he ry
    exact SeqAt.in_list_reads r2 r1 se (SeqAt.canLay_of_shaped sd) (room_in_shaped sd hu) ⟨.bl _, H, I, rfl, q⟩
  · obtain ⟨bs, r2⟩ := Dp.reads I (.tuple ds) y u he ry
    exact SeqAt.in_tuple_reads r2 r1 se (SeqAt.canLay_of_shaped sd) (room_in_shaped sd hu) ⟨.bl _, H, I, rfl, q⟩
theorem op_notInDT (hu : X.A.units + 65 < cLine) : OpR X (compareOp .NotIn) (rInDT X.K true) := by
  intro pins s σ H x y v u Q I rx ry h
  obtain ⟨d, ds, hd, he, sd, se, q⟩ := h
  obtain ⟨as, r1⟩ := Dp.reads I d x v hd rx
  rcases he with he | he
  · obtain ⟨bs, r2⟩ := Dp.reads I (.list ds) y u he ry
    exact SeqAt.notIn_list_reads r2 r1 se (SeqAt.canLay_of_shaped sd) (room_in_shaped sd hu) ⟨.bl _, H, I, rfl, q⟩
  · obtain ⟨bs, r2⟩ := Dp.reads I (.tuple ds) y u he ry
    exact SeqAt.notIn_tuple_reads r2 r1 se (SeqAt.canLay_of_shaped sd) (room_in_shaped sd hu) ⟨.bl _, H, I, rfl, q⟩
end
end Ln
set_option Elab.async false
set_option linter.all false
set_option maxRecDepth 100000
set_option maxHeartbeats 4000000
/-! walks inside a comprehension: the fragment named -/
namespace Ln
open PySem PySem.Spec PyProof.Rows L2
section
variable {X : Cx} {K : PySem.W.Frag} {tg : Expr}
theorem pi_tupK {l : Expr} {tl : TE} (hl : PE X l tl) (hk : X.K = K := by rfl) : PI X tg l (iTup K tl) := by
  subst hk
  exact pi_tup hl
theorem pe_fldK {e : Expr} {ta : TE} {f : Str} {pos : Pos} (he : PE X e ta) (hb : attributeBase e f X.env (eval e X.env) = eval e X.env) (hk : X.K = K := by rfl) : PE X (.Attribute e f pos) (tFld K ta f) := by
  subst hk
  exact pe_fld he hb
theorem pe_bmK {T : String} {name : Str} {id : String} {r : V → List V → Hp → VK → Prop} {o e : Expr} {es : List Expr} {to : TE} {t : TA} {apos cpos : Pos} (pa : PlainAttrs T) (slot : Slot T name id) (hty : typeOf (.builtin id) = pure (.type "method_descriptor")) (hm : MtR X id r) (ho : PE X o to) (ha : PA X (e :: es) t)
    (hbase : attributeBase o name X.env (eval o X.env) = eval o X.env := by rfl)
    (hfew : ((backTo cpos (starEach (e :: es) X.env)).all (fun x => !x.1) && (backToKw cpos (keywordEach [] X.env)).all (fun x => x.1.isSome)
      && decide ((e :: es).length + ([] : List Keyword).length + (if ([] : List Keyword).isEmpty then 0 else 1) < 30)) = true := by rfl)
    (hline : (apos.endLine == cpos.line) = true := by rfl) (hs : starEach (e :: es) X.env = (false, eval e X.env) :: starEach es X.env := by rfl) (hplain : (backTo cpos (starEach es X.env)).any (·.1) = false := by rfl) (hk : X.K = K := by rfl) :
    PE X (.Call (.Attribute o name apos) (e :: es) [] cpos) (tBM K T r to t) := by
  subst hk
  exact pe_bm pa slot hty hm ho ha hbase hfew hline hs hplain
theorem mt_indexK (hk : X.K = K := by rfl) : MtR X "list.index" (rIndex K) := by
  subst hk
  exact mt_index
theorem pi_listK {l : Expr} {tl : TE} (hl : PE X l tl) (hk : X.K = K := by rfl) : PI X tg l (iList K tl) := by
  subst hk
  exact pi_list hl
theorem pi_enumTK {e : Expr} {ta : TA} {p pos tpos : Pos} {elts : List Expr} {kk : Nat} (hg : Gl X "enumerate") (hm : X.mg "enumerate" = none) (ha : PA X [e] ta) (hs : starEach [e] X.env = [(false, eval e X.env)] := by rfl) (hk : X.K = K := by rfl) :
    PI X (.Tuple elts kk tpos) (.Call (.Name "enumerate" p) [e] [] pos) (iEnumT K ta) := by
  subst hk
  exact pi_enumT hg hm ha hs
theorem pi_enumK {e : Expr} {ta : TA} {p pos tpos : Pos} {elts : List Expr} {kk : Nat} (hg : Gl X "enumerate") (hm : X.mg "enumerate" = none) (ha : PA X [e] ta) (hs : starEach [e] X.env = [(false, eval e X.env)] := by rfl) (hk : X.K = K := by rfl) :
    PI X (.Tuple elts kk tpos) (.Call (.Name "enumerate" p) [e] [] pos) (iEnum K ta) := by
  subst hk
  exact pi_enum hg hm ha hs
end
end Ln
set_option Elab.async false
set_option linter.all false
set_option maxRecDepth 100000
set_option maxHeartbeats 4000000
/-! written values: tuples of tuples and of what stands -/
namespace Ln
open PySem PySem.Spec PyProof.Rows L2
section
variable {K : PySem.W.Frag} {σ : L2.St} {H0 : Hp}
/-- an expression that gives this data, whatever was made before it -/
structure LitE (K : PySem.W.Frag) (σ : L2.St) (H0 : Hp) (te : TE) (d : PyData) : Prop where
  st : ∀ H H' v, Same H H' → Dp K H v d → Dp K H' v d
  run : ∀ H Q, Same H0 H → (∀ v H', Same H H' → Dp K H' v d → Q v H') → te σ H Q
structure LitA (K : PySem.W.Frag) (σ : L2.St) (H0 : Hp) (ta : TA) (ds : List PyData) : Prop where
  st : ∀ H H' vs, Same H H' → DpAll K H vs ds → DpAll K H' vs ds
  run : ∀ H Q, Same H0 H → (∀ vs H', Same H H' → DpAll K H' vs ds → Q vs H') → ta σ H Q
theorem LitE.non : LitE K σ H0 (tC .non) .none := ⟨fun _ _ _ _ h => by cases h; exact .non, fun H Q _ q => q _ H (Same.refl H) .non⟩
theorem LitE.int (i : Int) : LitE K σ H0 (tC (.int i)) (.int i) := ⟨fun _ _ _ _ h => by cases h; exact .int i, fun H Q _ q => q _ H (Same.refl H) (.int i)⟩
theorem LitE.bl (i : Bool) : LitE K σ H0 (tC (.bl i)) (.bool i) := ⟨fun _ _ _ _ h => by cases h; exact .bl i, fun H Q _ q => q _ H (Same.refl H) (.bl i)⟩
theorem LitE.str (i : Str) : LitE K σ H0 (tC (.str i)) (.str i) := ⟨fun _ _ _ _ h => by cases h; exact .str i, fun H Q _ q => q _ H (Same.refl H) (.str i)⟩
theorem LitE.var {i : Nat} {v : V} {d : PyData} (e : σ[i]? = some (some v)) (h : Dp K H0 v d) (st : ∀ H H' v, Same H H' → Dp K H v d → Dp K H' v d) : LitE K σ H0 (tVar i) d :=
  ⟨st, fun H Q s q => ⟨v, e, q v H (Same.refl H) (st _ _ _ s h)⟩⟩
theorem LitA.nil : LitA K σ H0 tNil [] := ⟨fun _ _ _ _ h => by cases h; exact .nil, fun H Q _ q => q _ H (Same.refl H) .nil⟩
theorem LitA.cons {te : TE} {ta : TA} {d : PyData} {ds : List PyData} (a : LitE K σ H0 te d) (b : LitA K σ H0 ta ds) : LitA K σ H0 (tCons te ta) (d :: ds) :=
  ⟨fun H H' vs s h => by cases h with | cons x y => exact .cons (a.st _ _ _ s x) (b.st _ _ _ s y),
   fun H Q s q => a.run H _ s fun v H1 s1 h1 => b.run H1 _ (s.trans s1) fun vs H2 s2 h2 => q _ H2 (s1.trans s2) (.cons (a.st _ _ _ s2 h1) h2)⟩
theorem DpAll.lenL {H : Hp} : ∀ {xs : List V} {ds : List PyData}, DpAll K H xs ds → xs.length = ds.length
  | _, [], h => by cases h; rfl
  | _, d :: ds, h => by cases h with | cons a b => simp [DpAll.lenL b]
theorem LitE.tup {ta : TA} {ds : List PyData} (h : LitA K σ H0 ta ds) (l : ds.length ≤ 1000) : LitE K σ H0 (tTup ta) (.tuple ds) :=
  ⟨fun H H' v s k => by cases k with | tup a b => exact .tup (Same.tup s a) (h.st _ _ _ s b),
   fun H Q s q => h.run H _ s fun vs H1 s1 h1 => ⟨by rw [DpAll.lenL h1]; exact Nat.le_trans l (by decide), fun p np => q (.ref p) _ (s1.trans (Ln.same_upd np)) (.tup (SqT.of upd_same) (h.st _ _ _ (Ln.same_upd np) h1))⟩⟩
/-- a written list -/
theorem LitA.lst {ta : TA} {ds : List PyData} (h : LitA K σ H0 ta ds) (l : ds.length ≤ 1000) {H : Hp} {Q : VK} (s : Same H0 H) (q : ∀ p us H', Same H H' → H p = none → H' p = some (.lst us) → DpAll K H' us ds → Q (.ref p) H') : tLst ta σ H Q :=
  h.run H _ s fun vs H1 s1 h1 => ⟨by rw [DpAll.lenL h1]; exact Nat.le_trans l (by decide), fun p np => q p vs _ (s1.trans (Ln.same_upd np)) (s1.free np) upd_same (h.st _ _ _ (Ln.same_upd np) h1)⟩
end
end Ln
set_option Elab.async false
set_option linter.all false
set_option maxRecDepth 100000
set_option maxHeartbeats 4000000
/-! d.update(e) -/
namespace Ln
open PySem PySem.Spec PyProof.Rows L2
section
variable {X : Cx}
def rDUpd : V → List V → Hp → VK → Prop := fun x xs H Q => ∃ (a b : Addr) (kvs more : List (Key × V)), x = .ref a ∧ xs = [.ref b] ∧ a ≠ b ∧ H a = some (.dK kvs) ∧ H b = some (.dK more) ∧ kvs.length + more.length ≤ sizeLine ∧ Q .non (upd H a (.dK (mergeK kvs more)))
theorem mt_dupdate : MtR X "dict.update" rDUpd := by
  intro pins s σ H x xs v us Q I rx rxs h
  obtain ⟨a, b, kvs, more, rfl, rfl, ne, ha, hb, hz, q⟩ := h
  obtain rfl : v = Value.ref a := rx
  cases rxs with
  | cons ry rt =>
    rename_i uy ut
    cases rt
    obtain rfl : uy = Value.ref b := ry
    obtain ⟨z1, hd1, vs1, rel1, dd1⟩ := dk_of I.hok ha
    obtain ⟨z2, hd2, vs2, rel2, dd2⟩ := dk_of I.hok hb
    refine call_meetsIn PySem.F.slot_dict_update dd1.typeIs PySem.F.entry_dict_update (PySem.F.args_dict_update_2 _ _) (meets_dict_update (mixKind X.prog X.w) a b ne hd2) ⟨vs1, vs2, dd1, dd2, by rw [← rel1.length, ← rel2.length]; exact hz, fun h' dd' _ hs => ?_⟩
    have he : ∃ q, h'.get? a = some q := let ⟨q, _, _, hq, _⟩ := dd'; ⟨q, hq⟩
    refine ⟨.non, _, ?_, rfl, q⟩
    exact d_write (t' := s.toks) I (by rw [ha]; exact True.intro) hs he (dk_new (Nat.le_trans (length_mergeK more kvs) hz) hd1 (rel2.merge rel1) dd')
end
end Ln
set_option Elab.async false
set_option linter.all false
set_option maxRecDepth 100000
set_option maxHeartbeats 4000000
/-! xs == [], the items anything -/
namespace Ln
open PySem PySem.Spec PyProof.Rows L2
section
variable {X : Cx}
def rEqE (K : PySem.W.Frag) : R2 := fun x y H Q => ∃ (a b : Addr) (xs : List V), x = .ref a ∧ y = .ref b ∧ SqL K H a xs ∧ SqL K H b [] ∧ Q (.bl xs.isEmpty) H
theorem op_eqE (hu : X.A.units < cLine) : OpR X (compareOp .Eq) (rEqE X.K) := by
  intro pins s σ H x y v u Q I rx ry h
  obtain ⟨a, b, xs, rfl, rfl, ha, hb, q⟩ := h
  obtain rfl : v = Value.ref a := rx
  obtain rfl : u = Value.ref b := ry
  obtain ⟨its, r, pl, hz⟩ := I.list ha
  obtain ⟨its2, r2, pl2, hz2⟩ := I.list hb
  have l1 := r.length
  have l2 := r2.length
  by_cases c : xs = []
  · subst c
    have q : Q (.bl true) H := q
    obtain rfl : its = [] := List.length_eq_zero_iff.mp l1.symm
    obtain rfl : its2 = [] := List.length_eq_zero_iff.mp l2.symm
    exact SeqAt.eq_listAt (e := fun _ => true) pl.isList pl2.isList rfl hu (fun i h1 _ => absurd h1 (Nat.not_lt_zero _)) ⟨.bl true, H, I, rfl, q⟩
  · have e : xs.isEmpty = false := by
      cases xs with
      | nil => exact absurd rfl c
      | cons a b => rfl
    rw [e] at q
    refine SeqAt.eq_list_lengthsAt pl.isList pl2.isList ?_ hu ⟨.bl false, H, I, rfl, q⟩
    rw [List.size_toArray, List.size_toArray, ← l1, ← l2]
    cases xs with
    | nil => exact absurd rfl c
    | cons a b => rfl
end
end Ln
set_option Elab.async false
set_option linter.all false
set_option maxRecDepth 100000
set_option maxHeartbeats 4000000
/-! sorted of tuples of two numbers and a text -/
namespace Ln
open PySem PySem.Spec PyProof.Rows L2
/-- two numbers and a text in a tuple -/
def t3i (k : Int × Int × PySem.Str) : PyData := .tuple [.int k.1, .int k.2.1, .str k.2.2]
theorem t3i_depth (k : Int × Int × PySem.Str) : (t3i k).depth = 1 := by simp [t3i, PyData.depth, PyData.depthAll]
abbrev leT3i (k : V → Int × Int × PySem.Str) : V → V → Bool := PySem.W.dataLe false fun x => t3i (k x)
/-- sorted(xs), xs a list of tuples of two numbers and a text -/
def rSorted3i (K : PySem.W.Frag) : List V → Hp → VK → Prop := fun vs H Q => ∃ (a : Addr) (xs : List V) (k : V → Int × Int × PySem.Str), vs = [V.ref a] ∧ SqL K H a xs ∧
  (∀ x ∈ xs, ∃ t, x = V.ref t ∧ H t = some (.tup [.int (k x).1, .int (k x).2.1, .str (k x).2.2])) ∧ ∀ p, H p = none → Q (.ref p) (upd H p (.lst (xs.mergeSort (leT3i k))))
variable {X : Cx}
theorem cr_sorted3i (hu : X.A.units + 8 < cLine) : CallR X (.builtin "sorted") (rSorted3i X.K) := by
  intro pins s σ H vs us Q I r h
  obtain ⟨a, xs, k, rfl, hs, hx, q⟩ := h
  obtain ⟨its, rv, hl, hz⟩ := I.list hs
  obtain ⟨u, rfl, ru⟩ := vals1 r
  obtain rfl : u = Value.ref a := ru
  obtain ⟨e1, e2⟩ := refs_back rv fun x m => by
    obtain ⟨t, e, _⟩ := hx x m
    exact ⟨t, e⟩
  have er : PySem.W.EachIs (fun v b => ∃ as, Reads s.heap v (t3i (k (backV b))) as) its its := each_self fun v hv => by
    obtain ⟨t, rfl⟩ := e2 v hv
    have hm : V.ref t ∈ xs := by rw [e1]; exact List.mem_map.mpr ⟨_, hv, rfl⟩
    obtain ⟨t', e, ht⟩ := hx _ hm
    cases e
    obtain ⟨_, its2, r2, o, ho, hc, n, hd⟩ := I.hok _ _ ht
    rcases r2 with _ | ⟨ri, r2⟩
    rcases r2 with _ | ⟨rj, r2⟩
    rcases r2 with _ | ⟨rk, r2⟩
    cases r2
    obtain ⟨t1, rfl⟩ := ri
    obtain ⟨t2, rfl⟩ := rj
    obtain ⟨t3, rfl⟩ := rk
    exact ⟨_, .tuple ho hc hd (.cons (.int _ _) (.cons (.int _ _) (.cons (.str _ _) .nil)))⟩
  refine PySem.W.sorted_data (R := fun a b => a = b) (enc := fun u => t3i (k (backV u))) hl.isList (each_eq its) er (PySem.W.AllAlike.of fun _ _ => by simp [PySem.W.alike, PySem.W.alikeAll, t3i]) (PySem.W.Sortable.tuples fun _ => ⟨_, _, rfl⟩) (by rw [← rv.length]; exact hz) (fun b _ => by rw [t3i_depth]; omega) fun out _ eo => ?_
  have eo := eq_each eo
  subst eo
  have em : (its.mergeSort (PySem.W.dataLe false fun u => t3i (k (backV u)))).map backV = xs.mergeSort (leT3i k) := by
    rw [e1]
    exact List.map_mergeSort fun _ _ _ _ => rfl
  obtain ⟨n, hn⟩ := sortedAll_at s.heap its (its.mergeSort (PySem.W.dataLe false fun u => t3i (k (backV u)))).toArray
  have h3 : ∀ u ∈ its.mergeSort (PySem.W.dataLe false fun u => t3i (k (backV u))), ∃ a, u = Value.ref a := fun u hu => e2 u ((List.mergeSort_perm _ _).mem_iff.mp hu)
  refine ⟨.ref _, upd H (s.heap.objs.size + 1) (.lst (xs.mergeSort (leT3i k))), I.laid (t' := s.toks) (fun b o e => sortedAll_old e) (Nat.le_succ _) ⟨?_, _, n, by rw [← em]; exact vals_back h3, hn⟩, rfl, q _ (I.hok.fresh (Nat.le_succ _))⟩
  rw [List.length_mergeSort]
  exact hz
end Ln
set_option Elab.async false
set_option linter.all false
namespace Vol
/-! ## least sums of bids -/
abbrev Fn := Nat → Option Int
def oMin : Option Int → Option Int → Option Int
  | none, b => b
  | a, none => a
  | some a, some b => some (min a b)
def oAdd (a : Int) (x : Option Int) : Option Int := x.map (· + a)
/-- one bid more -/
def bidT (s a : Int) (f : Fn) : Fn := fun n => oMin (f n) (oAdd a (f (n - s.toNat)))
def base : Fn := fun n => if n = 0 then some 0 else none
def rowF (bs : List (Int × Int)) : Fn := bs.foldr (fun b f => bidT b.1 b.2 f) base
def sumF (bs : List (Int × Int)) : Fn := bs.foldl (fun f b => bidT b.1 b.2 f) base
theorem oMin_comm (a b : Option Int) : oMin a b = oMin b a := by
  cases a <;> cases b <;> simp [oMin, Int.min_comm]
theorem oMin_assoc (a b c : Option Int) : oMin (oMin a b) c = oMin a (oMin b c) := by
  cases a <;> cases b <;> cases c <;> simp [oMin, Int.min_assoc]
theorem oAdd_min (a : Int) (x y : Option Int) : oAdd a (oMin x y) = oMin (oAdd a x) (oAdd a y) := by
  cases x <;> cases y <;> simp [oMin, oAdd] <;> omega
theorem oAdd_add (a b : Int) (x : Option Int) : oAdd a (oAdd b x) = oAdd b (oAdd a x) := by
  cases x <;> simp [oAdd]
  omega
theorem bid_comm (s a t c : Int) (f : Fn) : bidT s a (bidT t c f) = bidT t c (bidT s a f) := by
  funext n
  unfold bidT
  rw [oAdd_min, oAdd_min, oAdd_add a c, show n - t.toNat - s.toNat = n - s.toNat - t.toNat by omega]
  generalize f n = w
  generalize oAdd c (f (n - t.toNat)) = x
  generalize oAdd a (f (n - s.toNat)) = y
  generalize oAdd c (oAdd a (f (n - s.toNat - t.toNat))) = z
  rw [oMin_assoc, oMin_assoc, ← oMin_assoc x y, oMin_comm x y, oMin_assoc y x]
theorem fold_bid (b : Int × Int) : ∀ (bs : List (Int × Int)) (f : Fn), bs.foldl (fun f b => bidT b.1 b.2 f) (bidT b.1 b.2 f) = bidT b.1 b.2 (bs.foldl (fun f b => bidT b.1 b.2 f) f)
  | [], _ => rfl
  | c :: bs, f => by
    rw [List.foldl_cons, List.foldl_cons, bid_comm, fold_bid b bs]
theorem sum_row : ∀ bs : List (Int × Int), sumF bs = rowF bs
  | [] => rfl
  | b :: bs => by
    have ih := sum_row bs
    unfold sumF rowF at ih ⊢
    rw [List.foldl_cons, fold_bid, ih]
    rfl
theorem row_cons (b : Int × Int) (bs : List (Int × Int)) : rowF (b :: bs) = bidT b.1 b.2 (rowF bs) := rfl
theorem sum_snoc (bs : List (Int × Int)) (b : Int × Int) : sumF (bs ++ [b]) = bidT b.1 b.2 (sumF bs) := by
  unfold sumF
  rw [List.foldl_append]
  rfl
/-- none stands behind all -/
def oLe : Option Int → Option Int → Prop
  | _, none => True
  | none, some _ => False
  | some a, some b => a ≤ b
theorem oLe_refl (a : Option Int) : oLe a a := by cases a <;> simp [oLe]
theorem oLe_trans {a b c : Option Int} (h : oLe a b) (k : oLe b c) : oLe a c := by
  cases a <;> cases b <;> cases c <;> simp [oLe] at * <;> omega
theorem oMin_le {a b : Option Int} : oLe (oMin a b) a := by
  cases a <;> cases b <;> simp [oLe, oMin] <;> omega
theorem oMin_mono {a b c d : Option Int} (h : oLe a c) (k : oLe b d) : oLe (oMin a b) (oMin c d) := by
  cases a <;> cases b <;> cases c <;> cases d <;> simp [oLe, oMin] at * <;> omega
theorem oAdd_mono {a : Int} {x y : Option Int} (h : oLe x y) : oLe (oAdd a x) (oAdd a y) := by
  cases x <;> cases y <;> simp [oLe, oAdd] at * <;> omega
theorem oMin_of_le {a b : Option Int} (h : oLe a b) : oMin a b = a := by
  cases a <;> cases b <;> simp [oLe, oMin] at * <;> omega
structure Up (f : Fn) : Prop where
  z : f 0 = some 0
  mono : ∀ m n, m ≤ n → oLe (f m) (f n)
theorem up_base : Up base := ⟨rfl, fun m n h => by
  unfold base
  by_cases c : n = 0
  · rw [if_pos c, if_pos (by omega)]
    exact oLe_refl _
  · rw [if_neg c]
    split <;> trivial⟩
theorem Up.bid {f : Fn} (h : Up f) {s a : Int} (ha : 0 ≤ a) : Up (bidT s a f) := ⟨by
  unfold bidT
  rw [h.z, Nat.zero_sub, h.z]
  show some (min 0 (0 + a)) = some 0
  rw [show min 0 (0 + a) = 0 by omega], fun m n k => oMin_mono (h.mono m n k) (oAdd_mono (h.mono _ _ (by omega)))⟩
theorem up_row : ∀ {bs : List (Int × Int)}, (∀ b ∈ bs, 0 ≤ b.2) → Up (rowF bs)
  | [], _ => up_base
  | b :: bs, h => (up_row fun c hc => h c (List.mem_cons_of_mem _ hc)).bid (h b List.mem_cons_self)
theorem up_sum {bs : List (Int × Int)} (h : ∀ b ∈ bs, 0 ≤ b.2) : Up (sumF bs) := by
  rw [sum_row]
  exact up_row h
/-! ## the law's own way: from each number of seats to the further ones -/
/-- the sums behind the first k numbers -/
def part (s a : Int) (f : Fn) : Nat → Fn
  | 0 => f
  | k + 1 => fun m => if k < m ∧ m ≤ k + s.toNat then oMin (part s a f k m) (oAdd a (f k)) else part s a f k m
theorem part_le {s a : Int} {f : Fn} : ∀ (k m : Nat), oLe (part s a f k m) (f m)
  | 0, m => oLe_refl _
  | k + 1, m => by
    unfold part
    split
    · exact oLe_trans oMin_le (part_le k m)
    · exact part_le k m
/-- as long as no number from m - s on was visited nothing has changed, behind that it is done -/
theorem part_is {s a : Int} {f : Fn} (hs : 1 ≤ s) (h : Up f) (ha : 0 ≤ a) : ∀ (k m : Nat), part s a f k m = if m - s.toNat < k ∧ 0 < m then bidT s a f m else f m
  | 0, m => by
    rw [if_neg (by omega)]
    rfl
  | k + 1, m => by
    unfold part
    rw [part_is hs h ha k m]
    by_cases c : k < m ∧ m ≤ k + s.toNat
    · rw [if_pos c, if_pos (by omega : m - s.toNat < k + 1 ∧ 0 < m)]
      by_cases c2 : m - s.toNat < k ∧ 0 < m
      · rw [if_pos c2]
        refine oMin_of_le ?_
        unfold bidT
        rw [oMin_comm]
        exact oLe_trans oMin_le (oAdd_mono (h.mono _ _ (by omega)))
      · rw [if_neg c2, show k = m - s.toNat by omega]
        rfl
    · rw [if_neg c]
      by_cases c2 : m - s.toNat < k ∧ 0 < m
      · rw [if_pos c2, if_pos (by omega)]
      · rw [if_neg c2]
        by_cases c3 : m - s.toNat < k + 1 ∧ 0 < m
        · omega
        · rw [if_neg c3]
theorem part_all {s a : Int} {f : Fn} (hs : 1 ≤ s) (h : Up f) (ha : 0 ≤ a) {n m : Nat} (hm : m ≤ n) : part s a f (n + 1) m = bidT s a f m := by
  rw [part_is hs h ha]
  by_cases c : 0 < m
  · rw [if_pos (by omega)]
  · rw [if_neg (by omega), show m = 0 by omega, h.z, (h.bid ha).z]
/-! ## the names -/
/-- the bids that are taken, by their places, and the seats that are still to be given -/
def takes : List (Int × Int) → Nat → List Bool
  | [], _ => []
  | b :: bs, l => if rowF (b :: bs) l ≠ rowF bs l then true :: takes bs (l - b.1.toNat) else false :: takes bs l
def pay : List (Int × Int) → List Bool → Int
  | b :: bs, t :: ts => (if t then b.2 else 0) + pay bs ts
  | _, _ => 0
def give : List (Int × Int) → List Bool → Int
  | b :: bs, t :: ts => (if t then b.1 else 0) + give bs ts
  | _, _ => 0
theorem takes_len : ∀ (bs : List (Int × Int)) (l : Nat), (takes bs l).length = bs.length
  | [], _ => rfl
  | b :: bs, l => by
    unfold takes
    split <;> simp [takes_len bs]
theorem oMin_or (a b : Option Int) : oMin a b = a ∨ oMin a b = b := by
  cases a <;> cases b <;> simp [oMin] <;> omega
theorem takes_ok : ∀ (bs : List (Int × Int)) (l : Nat) (d : Int), (∀ b ∈ bs, 1 ≤ b.1) → rowF bs l = some d → pay bs (takes bs l) = d ∧ (l : Int) ≤ give bs (takes bs l)
  | [], l, d, _, h => by
    unfold rowF base at h
    rw [List.foldr_nil] at h
    by_cases c : l = 0
    · rw [if_pos c] at h
      cases h
      exact ⟨rfl, by rw [c]; exact Int.le_refl _⟩
    · rw [if_neg c] at h
      cases h
  | b :: bs, l, d, hb, h => by
    have h1 := hb b List.mem_cons_self
    have h2 : ∀ c ∈ bs, 1 ≤ c.1 := fun c hc => hb c (List.mem_cons_of_mem _ hc)
    unfold takes
    by_cases c : rowF (b :: bs) l ≠ rowF bs l
    · rw [if_pos c]
      have e : rowF (b :: bs) l = oAdd b.2 (rowF bs (l - b.1.toNat)) := by
        rcases oMin_or (rowF bs l) (oAdd b.2 (rowF bs (l - b.1.toNat))) with e | e
        · exact absurd e c
        · exact e
      rw [h] at e
      cases q : rowF bs (l - b.1.toNat) with
      | none => rw [q] at e; cases e
      | some d' =>
        rw [q] at e
        have e : some d = some (d' + b.2) := e
        obtain ⟨k1, k2⟩ := takes_ok bs _ d' h2 q
        have e := Option.some.inj e
        refine ⟨?_, ?_⟩
        · show b.2 + pay bs _ = d
          rw [k1]; omega
        · show (l : Int) ≤ b.1 + give bs _
          omega
    · rw [if_neg c]
      have c : rowF (b :: bs) l = rowF bs l := Classical.byContradiction c
      rw [c] at h
      obtain ⟨k1, k2⟩ := takes_ok bs l d h2 h
      refine ⟨?_, ?_⟩
      · show 0 + pay bs _ = d
        rw [k1]; omega
      · show (l : Int) ≤ 0 + give bs _
        omega
/-- none where all together give too few, and only there -/
theorem row_none : ∀ (bs : List (Int × Int)) (l : Nat), (∀ b ∈ bs, 1 ≤ b.1) → (rowF bs l = none ↔ (bs.map (·.1)).sum < (l : Int))
  | [], l, _ => by
    unfold rowF base
    rw [List.foldr_nil]
    by_cases c : l = 0
    · rw [if_pos c]; simp [c]
    · rw [if_neg c]; simp; omega
  | b :: bs, l, hb => by
    have h1 := hb b List.mem_cons_self
    have ih := row_none bs (l - b.1.toNat) fun c hc => hb c (List.mem_cons_of_mem _ hc)
    have ih2 := row_none bs l fun c hc => hb c (List.mem_cons_of_mem _ hc)
    have pos : 0 ≤ (bs.map (·.1)).sum := by
      clear ih ih2
      have q : ∀ c ∈ bs, 1 ≤ c.1 := fun c hc => hb c (List.mem_cons_of_mem _ hc)
      clear hb
      induction bs with
      | nil => exact Int.le_refl _
      | cons c bs ih =>
        rw [List.map_cons, List.sum_cons]
        have i1 := q c List.mem_cons_self
        have i2 := ih fun d hd => q d (List.mem_cons_of_mem _ hd)
        omega
    rw [row_cons, List.map_cons, List.sum_cons]
    unfold bidT
    constructor
    · intro h
      cases q1 : rowF bs l <;> cases q2 : rowF bs (l - b.1.toNat) <;> rw [q1, q2] at h <;> simp [oMin, oAdd] at h
      have := ih.mp q2
      omega
    · intro h
      rw [ih2.mpr (by omega), ih.mpr (by omega)]
      rfl
end Vol
set_option Elab.async false
set_option linter.all false
set_option maxRecDepth 100000
set_option maxHeartbeats 4000000
/-! the text of a table of numbers and None tells the table -/
namespace Vol
open PySem PyProof.Rows Ln
def oD : Option Int → PyData
  | none => .none
  | some i => .int i
def tx (s : PySem.Str) : List Nat := s.cps.toList
theorem tx_inj {a b : PySem.Str} (h : tx a = tx b) : a = b := by
  rcases a with ⟨⟨a⟩⟩
  rcases b with ⟨⟨b⟩⟩
  exact congrArg (fun l => (⟨⟨l⟩⟩ : PySem.Str)) h
theorem tx_app (a b : PySem.Str) : tx (a ++ b) = tx a ++ tx b := by
  unfold tx
  show (a.cps ++ b.cps).toList = _
  exact Array.toList_append
theorem cut_at {α : Type} {c : α} : ∀ {a b x y : List α}, c ∉ a → c ∉ b → a ++ c :: x = b ++ c :: y → a = b ∧ x = y
  | [], [], _, _, _, _, h => ⟨rfl, (List.cons.inj h).2⟩
  | [], b0 :: b, _, _, _, hb, h => absurd (by rw [(List.cons.inj h).1]; exact List.mem_cons_self) hb
  | a0 :: a, [], _, _, ha, _, h => absurd (by rw [← (List.cons.inj h).1]; exact List.mem_cons_self) ha
  | a0 :: a, b0 :: b, x, y, ha, hb, h => by
    obtain ⟨h1, h2⟩ := List.cons.inj h
    obtain ⟨e1, e2⟩ := cut_at (fun m => ha (List.mem_cons_of_mem _ m)) (fun m => hb (List.mem_cons_of_mem _ m)) h2
    exact ⟨by rw [h1, e1], e2⟩
theorem oD_inj {x y : Option Int} (h : (oD x).shown = (oD y).shown) : x = y := by
  have e : ∀ i : Int, (PyData.int i).shown = Str.ofString (toString i) := fun i => by simp only [PyData.shown]
  have n : PyData.none.shown = Str.ofString "None" := by simp only [PyData.shown]
  have bad : ∀ i : Int, Str.ofString (toString i) ≠ Str.ofString "None" := fun i z => by
    have h1 := congrArg (fun s : PySem.Str => decide (78 ∈ s.cps.toList)) z
    have h2 : (78 ∈ (Str.ofString "None").cps.toList) := by decide +kernel
    have h3 : ¬ 78 ∈ (Str.ofString (toString i)).cps.toList := int_text_free' 78 ⟨by decide, by decide⟩ i
    simp only [decide_eq_true h2, decide_eq_false h3] at h1
    cases h1
  have inj : ∀ i j : Int, Str.ofString (toString i) = Str.ofString (toString j) → i = j := fun i j z => by
    have z1 := congrArg Str.cps z
    rw [Str.ofString_eq_toList, Str.ofString_eq_toList] at z1
    have z2 : (toString i).toList.map Char.toNat = (toString j).toList.map Char.toNat := by simpa using z1
    have z3 : (toString i).toList = (toString j).toList := (List.map_inj_right fun a b q => Char.ext (by
      have : a.val.toNat = b.val.toNat := q
      exact UInt32.toNat_inj.mp this)).mp z2
    have z4 : toString i = toString j := String.toList_inj.mp z3
    exact Int.repr_inj.mp z4
  cases x <;> cases y
  · rfl
  · exact absurd (by simpa only [oD, e, n] using h.symm) (bad _)
  · exact absurd (by simpa only [oD, e, n] using h) (bad _)
  · exact congrArg some (inj _ _ (by simpa only [oD, e] using h))
theorem oD_free (x : Option Int) : 44 ∉ tx (oD x).shown ∧ 41 ∉ tx (oD x).shown := by
  cases x with
  | none => unfold oD; simp only [PyData.shown]; decide +kernel
  | some i =>
    unfold oD
    simp only [PyData.shown]
    exact ⟨int_text_free' 44 ⟨by decide, by decide⟩ i, int_text_free' 41 ⟨by decide, by decide⟩ i⟩
theorem shownAll_map {α : Type} (f : α → PyData) : ∀ l : List α, PyData.shownAll (l.map f) = l.map fun x => (f x).shown
  | [] => by simp only [List.map_nil, PyData.shownAll]
  | x :: l => by simp only [List.map_cons, PyData.shownAll, shownAll_map f l]
def jn (l : List PySem.Str) : List Nat := tx (Str.join ", " l)
theorem jn_two (a b : PySem.Str) (l : List PySem.Str) : jn (a :: b :: l) = tx a ++ 44 :: 32 :: jn (b :: l) := by
  show tx (a ++ ", " ++ Str.join ", " (b :: l)) = _
  rw [tx_app, tx_app, List.append_assoc]
  rfl
theorem jn_inj : ∀ {l m : List PySem.Str}, l.length = m.length → (∀ x ∈ l, 44 ∉ tx x) → (∀ x ∈ m, 44 ∉ tx x) → jn l = jn m → l = m
  | [], [], _, _, _, _ => rfl
  | [a], [b], _, _, _, h => by
    have h : a = b := tx_inj h
    rw [h]
  | a :: b :: l, c :: d :: m, e, hl, hm, h => by
    rw [jn_two, jn_two] at h
    obtain ⟨e1, e2⟩ := cut_at (hl a List.mem_cons_self) (hm c List.mem_cons_self) h
    have e2 := (List.cons.inj e2).2
    have := jn_inj (l := b :: l) (m := d :: m) (by simpa using e) (fun x hx => hl x (List.mem_cons_of_mem _ hx)) (fun x hx => hm x (List.mem_cons_of_mem _ hx)) e2
    rw [tx_inj e1, this]
  | [], _ :: _, e, _, _, _ => by cases e
  | _ :: _, [], e, _, _, _ => by cases e
  | [_], _ :: _ :: _, e, _, _, _ => by simp at e
  | _ :: _ :: _, [_], e, _, _, _ => by simp at e
theorem jn_free {c : Nat} (h1 : c ≠ 44) (h2 : c ≠ 32) : ∀ {l : List PySem.Str}, (∀ x ∈ l, c ∉ tx x) → c ∉ jn l
  | [], _ => nofun
  | [a], h => h a List.mem_cons_self
  | a :: b :: l, h => by
    rw [jn_two]
    intro m
    rcases List.mem_append.mp m with m | m
    · exact h a List.mem_cons_self m
    · rcases List.mem_cons.mp m with m | m
      · exact h1 m
      · rcases List.mem_cons.mp m with m | m
        · exact h2 m
        · exact jn_free h1 h2 (fun x hx => h x (List.mem_cons_of_mem _ hx)) m
theorem tuple_tx (l : List PySem.Str) : tx (tupleText l) = 40 :: ((jn l ++ if l.length = 1 then [44] else []) ++ [41]) := by
  unfold tupleText
  rw [tx_app, tx_app]
  by_cases c : l.length = 1
  · rw [if_pos (by rw [c]; rfl), if_pos c]
    show [40] ++ jn l ++ [44, 41] = _
    simp
  · rw [if_neg (by simpa using c), if_neg c]
    show [40] ++ jn l ++ [41] = _
    simp
/-- a row's text -/
theorem row_inj {l m : List (Option Int)} (e : l.length = m.length) (h : (PyData.tuple (l.map oD)).shown = (PyData.tuple (m.map oD)).shown) : l = m := by
  simp only [PyData.shown, shownAll_map] at h
  have h := congrArg tx h
  rw [tuple_tx, tuple_tx, List.length_map, List.length_map, e] at h
  have h := List.append_cancel_right (List.append_cancel_right (List.cons.inj h).2)
  have q := jn_inj (by rw [List.length_map, List.length_map, e]) (fun x hx => by
    obtain ⟨y, _, rfl⟩ := List.mem_map.mp hx
    exact (oD_free y).1) (fun x hx => by
    obtain ⟨y, _, rfl⟩ := List.mem_map.mp hx
    exact (oD_free y).1) h
  exact (List.map_inj_right fun a b z => oD_inj z).mp q
def rowD (l : List (Option Int)) : PyData := .tuple (l.map oD)
theorem row_tx (l : List (Option Int)) : ∃ b, tx (rowD l).shown = 40 :: (b ++ [41]) ∧ 41 ∉ b := by
  unfold rowD
  simp only [PyData.shown, shownAll_map]
  rw [tuple_tx]
  refine ⟨_, rfl, fun m => ?_⟩
  rcases List.mem_append.mp m with m | m
  · exact jn_free (by decide) (by decide) (fun x hx => by
      obtain ⟨y, _, rfl⟩ := List.mem_map.mp hx
      exact (oD_free y).2) m
  · split at m
    · simp at m
    · cases m
theorem rows_jn : ∀ {l m : List (List (Option Int))}, l.length = m.length → jn (l.map fun r => (rowD r).shown) = jn (m.map fun r => (rowD r).shown) → (l.map fun r => (rowD r).shown) = m.map fun r => (rowD r).shown
  | [], [], _, _ => rfl
  | [a], [b], _, h => by
    have h : (rowD a).shown = (rowD b).shown := tx_inj h
    rw [List.map_cons, List.map_cons, h]
  | a :: b :: l, c :: d :: m, e, h => by
    rw [List.map_cons, List.map_cons, List.map_cons, List.map_cons, jn_two, jn_two] at h
    obtain ⟨x, hx, fx⟩ := row_tx a
    obtain ⟨y, hy, fy⟩ := row_tx c
    rw [hx, hy] at h
    have h : (x ++ [41]) ++ 44 :: 32 :: jn ((rowD b).shown :: List.map (fun r => (rowD r).shown) l) = (y ++ [41]) ++ 44 :: 32 :: jn ((rowD d).shown :: List.map (fun r => (rowD r).shown) m) := (List.cons.inj h).2
    rw [List.append_assoc, List.append_assoc] at h
    obtain ⟨e1, e2⟩ := cut_at fx fy h
    have e2 := (List.cons.inj (List.cons.inj e2).2).2
    have ih := rows_jn (l := b :: l) (m := d :: m) (by simpa using e) e2
    have ac : (rowD a).shown = (rowD c).shown := tx_inj (by rw [hx, hy, e1])
    rw [List.map_cons, List.map_cons (l := d :: m), ih, ac]
  | [], _ :: _, e, _ => by cases e
  | _ :: _, [], e, _ => by cases e
  | [_], _ :: _ :: _, e, _ => by simp at e
  | _ :: _ :: _, [_], e, _ => by simp at e
/-- the text of a table tells the table -/
theorem table_inj {n : Nat} {l m : List (List (Option Int))} (e : l.length = m.length) (hl : ∀ r ∈ l, r.length = n) (hm : ∀ r ∈ m, r.length = n) (h : (PyData.tuple (l.map rowD)).shown = (PyData.tuple (m.map rowD)).shown) : l = m := by
  simp only [PyData.shown, shownAll_map] at h
  have h := congrArg tx h
  rw [tuple_tx, tuple_tx, List.length_map, List.length_map, e] at h
  have h := List.append_cancel_right (List.append_cancel_right (List.cons.inj h).2)
  have q := rows_jn e h
  refine List.ext_getElem e fun i h1 h2 => ?_
  have z := congrArg (fun w => w[i]?) q
  simp only [List.getElem?_map, List.getElem?_eq_getElem h1, List.getElem?_eq_getElem h2, Option.map_some, Option.some.injEq] at z
  exact row_inj (by rw [hl _ (List.getElem_mem h1), hm _ (List.getElem_mem h2)]) z
end Vol
set_option Elab.async false
set_option autoImplicit false
set_option linter.all false
set_option maxRecDepth 100000
set_option maxHeartbeats 4000000
/-! Dl: data in the place of heaps. Slots tell data, a list of one's own is told by its address and its items; what is frozen (F) only grows. -/
namespace Dl
open PySem PySem.Spec PyProof.Rows L2 Ln
/-! ## words -/
mutual
theorem Dp.mono {K : PySem.W.Frag} {H H' : Hp} (sm : Same H H') : ∀ (d : PyData) (v : V), Dp K H v d → Dp K H' v d
  | .none, _, h => by cases h; exact .non
  | .bool b, _, h => by cases h; exact .bl b
  | .int b, _, h => by cases h; exact .int b
  | .str b, _, h => by cases h; exact .str b
  | .dict _, _, h => by cases h
  | .list ds, _, h => by
    cases h with
    | lst a b => exact .lst (sm.seq a) (DpAll.mono sm ds _ b)
  | .tuple ds, _, h => by
    cases h with
    | tup a b => exact .tup (Same.tup sm a) (DpAll.mono sm ds _ b)
theorem DpAll.mono {K : PySem.W.Frag} {H H' : Hp} (sm : Same H H') : ∀ (ds : List PyData) (vs : List V), DpAll K H vs ds → DpAll K H' vs ds
  | [], _, h => by cases h; exact .nil
  | d :: ds, _, h => by
    cases h with
    | cons a b => exact .cons (Dp.mono sm d _ a) (DpAll.mono sm ds _ b)
end
/-- what is read there is read there still -/
def IsDk (u : HO) : Prop := (∃ kvs, u = .dK kvs) ∨ ∃ kvs, u = .dT kvs
structure Ry (F F' : Hp) : Prop where
  rd : ∀ b u, (∀ o w, u ≠ .frz o w) → Rd F b u → Rd F' b u
  ex : ∀ b u, ¬ IsDk u → (∀ o w, u ≠ .frz o w) → F b = some u → F' b = some u
theorem Ry.of {F F' : Hp} (s : Same F F') : Ry F F' := ⟨fun b u _ h => by
  rcases h with h | ⟨o, h⟩
  · exact .inl (s _ _ h)
  · exact .inr ⟨o, s _ _ h⟩, fun b u _ _ h => s b u h⟩
theorem IsDk.mut {u : HO} (h : IsDk u) : Mut (some u) := by
  rcases h with ⟨_, rfl⟩ | ⟨_, rfl⟩ <;> trivial
theorem IsDk.nt {u : HO} (h : IsDk u) : ∀ xs, u ≠ .tup xs := by
  rcases h with ⟨_, rfl⟩ | ⟨_, rfl⟩ <;> exact fun _ z => by cases z
theorem Ry.tup {K : PySem.W.Frag} {F F' : Hp} (r : Ry F F') {a : Addr} {xs : List V} (h : SqT K F a xs) : SqT K F' a xs := by
  rcases h with h | h
  · exact .inl (r.rd _ _ (fun _ _ z => by cases z) h)
  · exact .inr h
theorem Ry.seq {K : PySem.W.Frag} {F F' : Hp} (r : Ry F F') {a : Addr} {xs : List V} (h : SqL K F a xs) : SqL K F' a xs := by
  rcases h with h | h
  · exact .inl (r.rd _ _ (fun _ _ z => by cases z) h)
  · exact .inr h
mutual
theorem Dp.ry {K : PySem.W.Frag} {H H' : Hp} (sm : Ry H H') : ∀ (d : PyData) (v : V), Dp K H v d → Dp K H' v d
  | .none, _, h => by cases h; exact .non
  | .bool b, _, h => by cases h; exact .bl b
  | .int b, _, h => by cases h; exact .int b
  | .str b, _, h => by cases h; exact .str b
  | .dict _, _, h => by cases h
  | .list ds, _, h => by
    cases h with
    | lst a b => exact .lst (sm.seq a) (DpAll.ry sm ds _ b)
  | .tuple ds, _, h => by
    cases h with
    | tup a b => exact .tup (sm.tup a) (DpAll.ry sm ds _ b)
theorem DpAll.ry {K : PySem.W.Frag} {H H' : Hp} (sm : Ry H H') : ∀ (ds : List PyData) (vs : List V), DpAll K H vs ds → DpAll K H' vs ds
  | [], _, h => by cases h; exact .nil
  | d :: ds, _, h => by
    cases h with
    | cons a b => exact .cons (Dp.ry sm d _ a) (DpAll.ry sm ds _ b)
end
structure Mo where
  P : Hp → V → Prop
  mono : ∀ {F F' : Hp} {v : V}, Ry F F' → P F v → P F' v
/-- what is known of a value -/
inductive Sv where
  | any
  | dat (d : PyData)
  | ptr (D : Addr)
  | hdl (m : Mo)
def SvOk (K : PySem.W.Frag) (F : Hp) (v : V) : Sv → Prop
  | .any => True
  | .dat d => Dp K F v d
  | .ptr D => v = .ref D
  | .hdl m => m.P F v
def OvOk (K : PySem.W.Frag) (F : Hp) : Option V → Sv → Prop
  | _, .any => True
  | some v, s => SvOk K F v s
  | none, _ => False
theorem SvOk.mono {K : PySem.W.Frag} {F F' : Hp} (sm : Same F F') {v : V} : ∀ {s : Sv}, SvOk K F v s → SvOk K F' v s
  | .any, _ => trivial
  | .dat d, h => Dp.mono sm d v h
  | .ptr _, h => h
  | .hdl m, h => m.mono (Ry.of sm) h
theorem SvOk.ry {K : PySem.W.Frag} {F F' : Hp} (sm : Ry F F') {v : V} : ∀ {s : Sv}, SvOk K F v s → SvOk K F' v s
  | .any, _ => trivial
  | .dat d, h => Dp.ry sm d v h
  | .ptr _, h => h
  | .hdl m, h => m.mono sm h
theorem OvOk.of {K : PySem.W.Frag} {F : Hp} {v : V} : ∀ {s : Sv}, SvOk K F v s → OvOk K F (some v) s
  | .any, _ => trivial
  | .dat _, h => h
  | .ptr _, h => h
  | .hdl _, h => h
theorem OvOk.mono {K : PySem.W.Frag} {F F' : Hp} (sm : Same F F') : ∀ {ov : Option V} {s : Sv}, OvOk K F ov s → OvOk K F' ov s
  | _, .any, _ => trivial
  | some v, .dat d, h => SvOk.mono (K := K) (s := .dat d) sm h
  | some v, .ptr d, h => SvOk.mono (K := K) (s := .ptr d) sm h
  | some v, .hdl d, h => SvOk.mono (K := K) (s := .hdl d) sm h
  | none, .dat _, h => h
  | none, .ptr _, h => h
  | none, .hdl _, h => h
theorem OvOk.ry {K : PySem.W.Frag} {F F' : Hp} (sm : Ry F F') : ∀ {ov : Option V} {s : Sv}, OvOk K F ov s → OvOk K F' ov s
  | _, .any, _ => trivial
  | some v, .dat d, h => SvOk.ry (K := K) (s := .dat d) sm h
  | some v, .ptr d, h => SvOk.ry (K := K) (s := .ptr d) sm h
  | some v, .hdl d, h => SvOk.ry (K := K) (s := .hdl d) sm h
  | none, .dat _, h => h
  | none, .ptr _, h => h
  | none, .hdl _, h => h
/-- an object of one's own -/
inductive Ob where
  | lst (ss : List Sv)
  | dK (kvs : List (Key × Sv))
def ObOk (K : PySem.W.Frag) (F : Hp) (u : HO) : Ob → Prop
  | .lst ss => ∃ xs, u = .lst xs ∧ Paired (SvOk K F) xs ss
  | .dK kvs => ∃ ys, u = .dK ys ∧ Paired (fun p q => p.1 = q.1 ∧ SvOk K F p.2 q.2) ys kvs
theorem ObOk.mono {K : PySem.W.Frag} {F F' : Hp} (sm : Same F F') {u : HO} : ∀ {o : Ob}, ObOk K F u o → ObOk K F' u o
  | .lst ss, ⟨xs, e, h⟩ => ⟨xs, e, Paired.mono (fun _ _ q => SvOk.mono sm q) h⟩
  | .dK ss, ⟨xs, e, h⟩ => ⟨xs, e, Paired.mono (fun _ _ q => ⟨q.1, SvOk.mono sm q.2⟩) h⟩
theorem ObOk.ry {K : PySem.W.Frag} {F F' : Hp} (sm : Ry F F') {u : HO} : ∀ {o : Ob}, ObOk K F u o → ObOk K F' u o
  | .lst ss, ⟨xs, e, h⟩ => ⟨xs, e, Paired.mono (fun _ _ q => SvOk.ry sm q) h⟩
  | .dK ss, ⟨xs, e, h⟩ => ⟨xs, e, Paired.mono (fun _ _ q => ⟨q.1, SvOk.ry sm q.2⟩) h⟩
theorem ObOk.notup {K : PySem.W.Frag} {F : Hp} {u : HO} : ∀ {o : Ob}, ObOk K F u o → (∀ xs, u ≠ .tup xs) ∧ ∀ ob xs, u ≠ .frz ob xs
  | .lst ss, ⟨xs, e, h⟩ => by subst e; exact ⟨fun _ z => (by cases z), fun _ _ z => (by cases z)⟩
  | .dK ss, ⟨xs, e, h⟩ => by subst e; exact ⟨fun _ z => (by cases z), fun _ _ z => (by cases z)⟩
abbrev Ow := List (Addr × Ob)
/-! ## the surroundings of a def's run -/
structure Cy where
  K : PySem.W.Frag
  B : List Addr
  A : List Addr
  dw : Hp → Prop
  H0 : Hp
  F0 : Hp
  dwS : ∀ H H', (∀ a ∈ A, H' a = H a) → dw H → dw H'
  dwT : ∀ H, dw H → ∀ a ∈ A, H a ≠ none
structure Rq (C : Cy) (F H : Hp) : Prop where
  sub : Same F H
  old : Same C.F0 F
  but : ∀ b o, b ∉ C.B → C.H0 b = some o → H b = some o
  thr : ∀ b, C.H0 b ≠ none → H b ≠ none
  non : ∀ b, C.F0 b = none → C.H0 b ≠ none → F b = none
  tup : ∀ b xs, Rd H b (.tup xs) → Rd F b (.tup xs)
  dw : C.dw H
  na : ∀ a ∈ C.A, F a = none
  lk : ∀ b o u, IsDk u → F b = some (.frz o u) → C.F0 b = some (.frz o u)
structure Rp (C : Cy) (F H : Hp) (σ : L2.St) (G : List Sv) (O : Ow) : Prop where
  q : Rq C F H
  len : σ.length = G.length
  sl : ∀ (i : Nat) (s : Sv), G[i]? = some s → ∃ ov, σ[i]? = some ov ∧ OvOk C.K F ov s
  ow : ∀ D ob, (D, ob) ∈ O → (D ∈ C.B ∨ C.H0 D = none) ∧ F D = none ∧ D ∉ C.A ∧ ∃ u, H D = some u ∧ ObOk C.K F u ob
  nd : (O.map Prod.fst).Nodup
section
variable {C : Cy} {F H F' H' : Hp} {σ : L2.St} {G : List Sv} {O : Ow}
theorem Rq.h0 (h : Rq C F H) {p : Addr} (n : H p = none) : C.H0 p = none := by
  cases e : C.H0 p with
  | none => rfl
  | some o => exact absurd n (h.thr p (by rw [e]; exact fun z => by cases z))
theorem Rq.f0 (h : Rq C F H) {p : Addr} (n : H p = none) : F p = none := by
  cases e : F p with
  | none => rfl
  | some o => rw [h.sub p o e] at n; cases n
theorem Rq.nA (h : Rq C F H) {p : Addr} (n : H p = none) : p ∉ C.A := fun m => C.dwT H h.dw p m n
/-- a new thing, frozen at once -/
theorem Rq.newF (h : Rq C F H) {p : Addr} {o : HO} (n : H p = none) (nz : ∀ ob u, o ≠ .frz ob u) : Rq C (upd F p o) (upd H p o) ∧ Same F (upd F p o) := by
  have nF := h.f0 n
  have n0 := h.h0 n
  have nA := h.nA n
  refine ⟨⟨?_, ?_, ?_, ?_, ?_, ?_, ?_, ?_, ?_⟩, Ln.same_upd nF⟩
  · intro b x e
    by_cases z : b = p
    · subst z; rw [upd_same] at e ⊢; exact e
    · rw [upd_ne z] at e ⊢; exact h.sub b x e
  · exact h.old.trans (Ln.same_upd nF)
  · intro b x nb e
    rw [upd_ne (fun z => by rw [z, n0] at e; cases e)]
    exact h.but b x nb e
  · intro b e
    rw [upd_ne (fun z => e (by rw [z]; exact n0))]
    exact h.thr b e
  · intro b e1 e2
    rw [upd_ne (fun z => e2 (by rw [z]; exact n0))]
    exact h.non b e1 e2
  · intro b xs r
    by_cases z : b = p
    · subst z
      rcases r with r | ⟨ob, r⟩
      · rw [upd_same] at r; exact .inl (by rw [upd_same]; exact r)
      · rw [upd_same] at r; exact .inr ⟨ob, by rw [upd_same]; exact r⟩
    · rcases r with r | ⟨ob, r⟩
      · rw [upd_ne z] at r
        rcases h.tup b xs (.inl r) with k | ⟨ob, k⟩
        · exact .inl (by rw [upd_ne z]; exact k)
        · exact .inr ⟨ob, by rw [upd_ne z]; exact k⟩
      · rw [upd_ne z] at r
        rcases h.tup b xs (.inr ⟨ob, r⟩) with k | ⟨ob, k⟩
        · exact .inl (by rw [upd_ne z]; exact k)
        · exact .inr ⟨ob, by rw [upd_ne z]; exact k⟩
  · exact C.dwS H _ (fun a ha => upd_ne (fun z => nA (by rw [← z]; exact ha))) h.dw
  · intro a ha
    rw [upd_ne (fun z => nA (by rw [← z]; exact ha))]
    exact h.na a ha
  · intro b ob u k e
    by_cases z : b = p
    · rw [z, upd_same] at e; cases e; exact absurd rfl (nz _ _)
    · rw [upd_ne z] at e; exact h.lk b ob u k e
/-- a change at a place that is not frozen -/
theorem Rq.wr (h : Rq C F H) {D : Addr} {u : HO} (hB : D ∈ C.B ∨ C.H0 D = none) (nF : F D = none) (nA : D ∉ C.A) (nt : (∀ xs, u ≠ .tup xs) ∧ ∀ ob xs, u ≠ .frz ob xs) : Rq C F (upd H D u) := by
  refine ⟨?_, h.old, ?_, ?_, h.non, ?_, ?_, h.na, h.lk⟩
  · intro b x e
    rw [upd_ne (fun z => by rw [z, nF] at e; cases e)]
    exact h.sub b x e
  · intro b x nb e
    have z : b ≠ D := by
      rintro rfl
      rcases hB with hB | hB
      · exact nb hB
      · rw [hB] at e; cases e
    rw [upd_ne z]
    exact h.but b x nb e
  · intro b e
    by_cases z : b = D
    · rw [z, upd_same]; exact fun z => by cases z
    · rw [upd_ne z]; exact h.thr b e
  · intro b xs r
    have z : b ≠ D := by
      rintro rfl
      rcases r with r | ⟨ob, r⟩
      · rw [upd_same] at r; cases r; exact nt.1 _ rfl
      · rw [upd_same] at r; cases r; exact nt.2 _ _ rfl
    rcases r with r | ⟨ob, r⟩
    · rw [upd_ne z] at r; exact h.tup b xs (.inl r)
    · rw [upd_ne z] at r; exact h.tup b xs (.inr ⟨ob, r⟩)
  · exact C.dwS H _ (fun a ha => upd_ne (fun z => nA (by rw [← z]; exact ha))) h.dw
theorem Rp.step (h : Rp C F H σ G O) (sm : Same F F') (q : Rq C F' H') (k : ∀ D ob, (D, ob) ∈ O → H' D = H D ∧ F' D = none) : Rp C F' H' σ G O where
  q := q
  len := h.len
  sl := fun i s e => by
    obtain ⟨ov, a, b⟩ := h.sl i s e
    exact ⟨ov, a, b.mono sm⟩
  ow := fun D ob m => by
    obtain ⟨a, b, c, u, e, r⟩ := h.ow D ob m
    obtain ⟨k1, k2⟩ := k D ob m
    exact ⟨a, k2, c, u, by rw [k1]; exact e, r.mono sm⟩
  nd := h.nd
theorem Rp.newF (h : Rp C F H σ G O) {p : Addr} {o : HO} (n : H p = none) (nz : ∀ ob u, o ≠ .frz ob u := by exact fun _ _ z => by cases z) : Rp C (upd F p o) (upd H p o) σ G O := by
  obtain ⟨a, b⟩ := h.q.newF (o := o) n nz
  refine h.step b a fun D ob m => ?_
  obtain ⟨_, c, _, u, e, _⟩ := h.ow D ob m
  have z : D ≠ p := fun z => by rw [z, n] at e; cases e
  exact ⟨upd_ne z, by rw [upd_ne z]; exact c⟩
theorem Rp.sm (h : Rp C F H σ G O) {p : Addr} {o : HO} (n : H p = none) : Same F (upd F p o) := Ln.same_upd (h.q.f0 n)
theorem Rp.newO (h : Rp C F H σ G O) {p : Addr} {u : HO} {ob : Ob} (n : H p = none) (r : ObOk C.K F u ob) : Rp C F (upd H p u) σ G ((p, ob) :: O) := by
  have q := h.q.wr (D := p) (u := u) (.inr (h.q.h0 n)) (h.q.f0 n) (h.q.nA n) r.notup
  have ne : ∀ D ob', (D, ob') ∈ O → D ≠ p := fun D ob' m z => by
    obtain ⟨_, _, _, u, e, _⟩ := h.ow D ob' m
    rw [z, n] at e; cases e
  refine ⟨q, h.len, h.sl, ?_, ?_⟩
  · intro D ob' m
    rcases List.mem_cons.mp m with e | m
    · cases e
      exact ⟨.inr (h.q.h0 n), h.q.f0 n, h.q.nA n, u, upd_same, r⟩
    · obtain ⟨a, b, c, u', e, k⟩ := h.ow D ob' m
      exact ⟨a, b, c, u', by rw [upd_ne (ne D ob' m)]; exact e, k⟩
  · rw [List.map_cons, List.nodup_cons]
    refine ⟨fun m => ?_, h.nd⟩
    obtain ⟨⟨D, ob'⟩, m', e⟩ := List.mem_map.mp m
    exact ne D ob' m' e
/-- fewer things of one's own -/
theorem Rp.less (h : Rp C F H σ G O) {O' : Ow} (s : O'.Sublist O) : Rp C F H σ G O' := ⟨h.q, h.len, h.sl, fun D ob m => h.ow D ob (s.subset m), h.nd.sublist (s.map _)⟩
theorem Rp.set (h : Rp C F H σ G O) {i : Nat} {v : V} {s : Sv} (r : SvOk C.K F v s) : Rp C F H (σ.set i (some v)) (G.set i s) O := by
  refine ⟨h.q, by rw [List.length_set, List.length_set]; exact h.len, ?_, h.ow, h.nd⟩
  intro j s' e
  by_cases z : i = j
  · subst z
    have hl : i < G.length := by
      have := (List.getElem?_eq_some_iff.mp e).1
      rwa [List.length_set] at this
    rw [List.getElem?_set_self hl] at e
    cases e
    exact ⟨some v, List.getElem?_set_self (by rw [h.len]; exact hl), OvOk.of r⟩
  · rw [List.getElem?_set_ne z] at e
    obtain ⟨ov, a, b⟩ := h.sl j s' e
    exact ⟨ov, by rw [List.getElem?_set_ne z]; exact a, b⟩
theorem Rp.get (h : Rp C F H σ G O) {i : Nat} {s : Sv} (e : G[i]? = some s) (n : s ≠ .any) : ∃ v, σ[i]? = some (some v) ∧ SvOk C.K F v s := by
  obtain ⟨ov, a, b⟩ := h.sl i s e
  cases s with
  | any => exact absurd rfl n
  | dat d => cases ov with
    | none => exact b.elim
    | some v => exact ⟨v, a, b⟩
  | ptr d => cases ov with
    | none => exact b.elim
    | some v => exact ⟨v, a, b⟩
  | hdl d => cases ov with
    | none => exact b.elim
    | some v => exact ⟨v, a, b⟩
theorem nd_key {α β : Type} : ∀ {l : List (α × β)}, (l.map Prod.fst).Nodup → ∀ {a : α} {b b' : β}, (a, b) ∈ l → (a, b') ∈ l → b = b'
  | [], _, _, _, _, m, _ => by cases m
  | (x, y) :: l, nd, a, b, b', m, m' => by
    rw [List.map_cons, List.nodup_cons] at nd
    rcases List.mem_cons.mp m with e | m
    · rcases List.mem_cons.mp m' with e' | m'
      · cases e; cases e'; rfl
      · cases e
        exact absurd (List.mem_map.mpr ⟨_, m', rfl⟩) nd.1
    · rcases List.mem_cons.mp m' with e' | m'
      · cases e'
        exact absurd (List.mem_map.mpr ⟨_, m, rfl⟩) nd.1
      · exact nd_key nd.2 m m'
theorem map_set_fst {α β : Type} : ∀ {l : List (α × β)} {n : Nat} {a : α} {b b' : β}, l[n]? = some (a, b) → (l.set n (a, b')).map Prod.fst = l.map Prod.fst
  | [], _, _, _, _, e => by simp at e
  | (x, y) :: l, 0, a, b, b', e => by cases e; rfl
  | (x, y) :: l, n + 1, a, b, b', e => by
    have e' : l[n]? = some (a, b) := by simpa using e
    show x :: (l.set n (a, b')).map Prod.fst = x :: l.map Prod.fst
    rw [map_set_fst e']
theorem mem_set_key {α β : Type} : ∀ {l : List (α × β)} {n : Nat} {a : α} {b b' : β}, (l.map Prod.fst).Nodup → l[n]? = some (a, b) → ∀ {x : α} {y : β}, (x, y) ∈ l.set n (a, b') → (x = a ∧ y = b') ∨ (x ≠ a ∧ (x, y) ∈ l)
  | [], _, _, _, _, _, e, _, _, _ => by simp at e
  | (u, w) :: l, 0, a, b, b', nd, e, x, y, m => by
    cases e
    rcases List.mem_cons.mp m with e | m
    · cases e; exact .inl ⟨rfl, rfl⟩
    · refine .inr ⟨fun z => ?_, List.mem_cons_of_mem _ m⟩
      rw [List.map_cons, List.nodup_cons] at nd
      exact nd.1 (List.mem_map.mpr ⟨_, m, z⟩)
  | (u, w) :: l, n + 1, a, b, b', nd, e, x, y, m => by
    have e' : l[n]? = some (a, b) := by simpa using e
    have m' : (x, y) ∈ (u, w) :: l.set n (a, b') := m
    rw [List.map_cons, List.nodup_cons] at nd
    rcases List.mem_cons.mp m' with q | q
    · cases q
      refine .inr ⟨fun z => ?_, List.mem_cons_self⟩
      rw [z] at nd
      exact nd.1 (List.mem_map.mpr ⟨_, List.mem_of_getElem? e', rfl⟩)
    · rcases mem_set_key nd.2 e' q with q | q
      · exact .inl q
      · exact .inr ⟨q.1, List.mem_cons_of_mem _ q.2⟩
theorem erase_key {α β : Type} : ∀ {l : List (α × β)} {n : Nat} {a : α} {b b' : β}, (l.map Prod.fst).Nodup → l[n]? = some (a, b) → (a, b') ∈ l.eraseIdx n → False
  | [], _, _, _, _, _, e, _ => by simp at e
  | (u, w) :: l, 0, a, b, b', nd, e, m => by
    cases e
    rw [List.map_cons, List.nodup_cons] at nd
    exact nd.1 (List.mem_map.mpr ⟨_, m, rfl⟩)
  | (u, w) :: l, n + 1, a, b, b', nd, e, m => by
    have e' : l[n]? = some (a, b) := by simpa using e
    have m' : (a, b') ∈ (u, w) :: l.eraseIdx n := m
    rw [List.map_cons, List.nodup_cons] at nd
    rcases List.mem_cons.mp m' with q | q
    · cases q
      exact nd.1 (List.mem_map.mpr ⟨_, List.mem_of_getElem? e', rfl⟩)
    · exact erase_key nd.2 e' q
/-- an object of one's own changes -/
theorem Rp.wr (h : Rp C F H σ G O) {n : Nat} {D : Addr} {ob ob' : Ob} {u : HO} (m : O[n]? = some (D, ob)) (r : ObOk C.K F u ob') : Rp C F (upd H D u) σ G (O.set n (D, ob')) := by
  obtain ⟨a, b, c, u0, e, k⟩ := h.ow D ob (List.mem_of_getElem? m)
  refine ⟨h.q.wr a b c r.notup, h.len, h.sl, ?_, by rw [map_set_fst m]; exact h.nd⟩
  intro D' ob'' m'
  rcases mem_set_key h.nd m m' with ⟨rfl, rfl⟩ | ⟨ne, m''⟩
  · exact ⟨a, b, c, u, upd_same, r⟩
  · obtain ⟨a', b', c', u', e', k'⟩ := h.ow D' ob'' m''
    exact ⟨a', b', c', u', by rw [upd_ne ne]; exact e', k'⟩
theorem Rp.obj (h : Rp C F H σ G O) {n : Nat} {D : Addr} {ob : Ob} (m : O[n]? = some (D, ob)) : ∃ u, H D = some u ∧ ObOk C.K F u ob := by
  obtain ⟨_, _, _, u, e, k⟩ := h.ow D ob (List.mem_of_getElem? m)
  exact ⟨u, e, k⟩
/-- one's own thing is frozen -/
theorem Rp.frz (h : Rp C F H σ G O) {n : Nat} {D : Addr} {ob : Ob} (h0 : C.H0 D = none) (m : O[n]? = some (D, ob)) : ∃ F' u, Same F F' ∧ F' D = some u ∧ ObOk C.K F' u ob ∧ Rp C F' H σ G (O.eraseIdx n) := by
  obtain ⟨a, b, c, u, e, k⟩ := h.ow D ob (List.mem_of_getElem? m)
  have sm : Same F (upd F D u) := Ln.same_upd b
  refine ⟨upd F D u, u, sm, upd_same, k.mono sm, ⟨⟨?_, h.q.old.trans sm, h.q.but, h.q.thr, ?_, ?_, h.q.dw, ?_, ?_⟩, h.len, ?_, ?_, ?_⟩⟩
  · intro b' x e'
    by_cases z : b' = D
    · subst z; rw [upd_same] at e'; cases e'; exact e
    · rw [upd_ne z] at e'; exact h.q.sub b' x e'
  · intro b' e1 e2
    rw [upd_ne (fun z => e2 (by rw [z]; exact h0))]
    exact h.q.non b' e1 e2
  · intro b' xs r
    rcases h.q.tup b' xs r with k | ⟨o, k⟩
    · exact .inl (sm _ _ k)
    · exact .inr ⟨o, sm _ _ k⟩
  · intro a' ha
    rw [upd_ne (fun z => c (by rw [← z]; exact ha))]
    exact h.q.na a' ha
  · intro b' o w kd e'
    by_cases z : b' = D
    · rw [z, upd_same] at e'; cases e'; exact absurd rfl (k.notup.2 _ _)
    · rw [upd_ne z] at e'; exact h.q.lk b' o w kd e'
  · intro i s e
    obtain ⟨ov, p, r⟩ := h.sl i s e
    exact ⟨ov, p, r.mono sm⟩
  · intro D' ob' m'
    have m0 := (List.eraseIdx_sublist _ _).subset m'
    obtain ⟨a', b', c', u', e', k'⟩ := h.ow D' ob' m0
    have z : D' ≠ D := by
      rintro rfl
      exact erase_key h.nd m m'
    exact ⟨a', by rw [upd_ne z]; exact b', c', u', e', k'.mono sm⟩
  · exact h.nd.sublist ((List.eraseIdx_sublist _ _).map _)
/-- what is frozen grows, one's own things stand as they stood -/
structure Gw (O : Ow) (F H F' H' : Hp) : Prop where
  sf : Same F F'
  ow : ∀ D ob, (D, ob) ∈ O → H' D = H D
theorem Gw.refl {O : Ow} {F H : Hp} : Gw O F H F H := ⟨Same.refl F, fun _ _ _ => rfl⟩
theorem Gw.trans {O : Ow} {F H F' H' F2 H2 : Hp} (a : Gw O F H F' H') (b : Gw O F' H' F2 H2) : Gw O F H F2 H2 := ⟨a.sf.trans b.sf, fun D ob m => (b.ow D ob m).trans (a.ow D ob m)⟩
theorem Gw.of {O : Ow} {F H F' : Hp} (s : Same F F') : Gw O F H F' H := ⟨s, fun _ _ _ => rfl⟩
theorem Rp.gm (h : Rp C F H σ G O) {p : Addr} {o : HO} (n : H p = none) : Gw O F H (upd F p o) (upd H p o) := ⟨h.sm n, fun D ob m => by
  obtain ⟨_, c, _, u, e, _⟩ := h.ow D ob m
  exact upd_ne (fun z => by rw [z, n] at e; cases e)⟩
theorem Rp.gn (h : Rp C F H σ G O) {p : Addr} {o : HO} (n : H p = none) : Gw O F H F (upd H p o) := ⟨Same.refl F, fun D ob m => by
  obtain ⟨_, c, _, u, e, _⟩ := h.ow D ob m
  exact upd_ne (fun z => by rw [z, n] at e; cases e)⟩
theorem Gw.sub {O O' : Ow} {F H F' H' : Hp} (g : Gw O F H F' H') (s : ∀ x ∈ O', x ∈ O) : Gw O' F H F' H' := ⟨g.sf, fun D ob m => g.ow D ob (s _ m)⟩
/-! ## a lock -/
abbrev lkC (C : Cy) (d : Addr) (od : Obj) (u : HO) : Cy := { K := C.K, B := C.B, A := C.A, dw := C.dw, H0 := upd C.H0 d (.frz od u), F0 := upd C.F0 d (.frz od u), dwS := C.dwS, dwT := C.dwT }
theorem ry_lock {F : Hp} {d : Addr} {od : Obj} {u : HO} (h : F d = some u) (dk : IsDk u) : Ry F (upd F d (.frz od u)) := by
  have mu := dk.mut
  refine ⟨fun b w n r => ?_, fun b w nd nf e => ?_⟩
  rotate_left
  · rw [upd_ne (fun z => by rw [z, h] at e; cases e; exact nd dk)]
    exact e
  by_cases z : b = d
  · subst z
    rcases r with r | ⟨o, r⟩
    · rw [h] at r; cases r
      exact .inr ⟨od, upd_same⟩
    · rw [h] at r; cases r; exact mu.elim
  · rcases r with r | ⟨o, r⟩
    · exact .inl (by rw [upd_ne z]; exact r)
    · exact .inr ⟨o, by rw [upd_ne z]; exact r⟩
theorem ry_unlock {F : Hp} {d : Addr} {od : Obj} {u : HO} (h : F d = some (.frz od u)) : Ry F (upd F d u) := by
  refine ⟨fun b w n r => ?_, fun b w nd nf e => ?_⟩
  rotate_left
  · rw [upd_ne (fun z => by rw [z, h] at e; cases e; exact nf _ _ rfl)]
    exact e
  by_cases z : b = d
  · subst z
    rcases r with r | ⟨o, r⟩
    · rw [h] at r; cases r; exact absurd rfl (n _ _)
    · rw [h] at r; cases r; exact .inl upd_same
  · rcases r with r | ⟨o, r⟩
    · exact .inl (by rw [upd_ne z]; exact r)
    · exact .inr ⟨o, by rw [upd_ne z]; exact r⟩
theorem Rp.lock (h : Rp C F H σ G O) {d : Addr} {od : Obj} {u : HO} (e : F d = some u) (dk : IsDk u) : Rp (lkC C d od u) (upd F d (.frz od u)) (upd H d (.frz od u)) σ G O := by
  have eH := h.q.sub d u e
  have ry := ry_lock (od := od) e dk
  have nt := dk.nt
  have hA : d ∉ C.A := fun m => by have := h.q.na d m; rw [e] at this; cases this
  refine ⟨⟨?_, ?_, ?_, ?_, ?_, ?_, ?_, ?_, ?_⟩, h.len, ?_, ?_, h.nd⟩
  · intro b o q
    by_cases z : b = d
    · subst z; rw [upd_same] at q ⊢; exact q
    · rw [upd_ne z] at q ⊢; exact h.q.sub b o q
  · intro b o q
    have q : upd C.F0 d (.frz od u) b = some o := q
    by_cases z : b = d
    · rw [z, upd_same] at q ⊢; exact q
    · rw [upd_ne z] at q ⊢; exact h.q.old b o q
  · intro b o nb q
    have q : upd C.H0 d (.frz od u) b = some o := q
    by_cases z : b = d
    · rw [z, upd_same] at q ⊢; exact q
    · rw [upd_ne z] at q ⊢; exact h.q.but b o nb q
  · intro b q
    have q : upd C.H0 d (.frz od u) b ≠ none := q
    by_cases z : b = d
    · rw [z, upd_same]; exact fun z => by cases z
    · rw [upd_ne z] at q ⊢; exact h.q.thr b q
  · intro b q1 q2
    have q1 : upd C.F0 d (.frz od u) b = none := q1
    have q2 : upd C.H0 d (.frz od u) b ≠ none := q2
    by_cases z : b = d
    · rw [z, upd_same] at q1; cases q1
    · rw [upd_ne z] at q1 q2 ⊢; exact h.q.non b q1 q2
  · intro b xs r
    by_cases z : b = d
    · subst z
      rcases r with r | ⟨o, r⟩
      · rw [upd_same] at r; cases r
      · rw [upd_same] at r; cases r; exact absurd rfl (nt xs)
    · have k : Rd F b (.tup xs) := h.q.tup b xs (by
        rcases r with r | ⟨o, r⟩
        · rw [upd_ne z] at r; exact .inl r
        · rw [upd_ne z] at r; exact .inr ⟨o, r⟩)
      exact ry.rd b _ (fun _ _ z => by cases z) k
  · exact C.dwS H _ (fun a ha => upd_ne (fun z => hA (by rw [← z]; exact ha))) h.q.dw
  · intro a ha
    rw [upd_ne (fun z => hA (by rw [← z]; exact ha))]
    exact h.q.na a ha
  · intro b o w kd q
    show upd C.F0 d (.frz od u) b = _
    by_cases z : b = d
    · rw [z, upd_same] at q ⊢; exact q
    · rw [upd_ne z] at q ⊢; exact h.q.lk b o w kd q
  · intro i s q
    obtain ⟨ov, a, b⟩ := h.sl i s q
    exact ⟨ov, a, b.ry ry⟩
  · intro D ob m
    obtain ⟨a, b, c, w, q, k⟩ := h.ow D ob m
    have z : D ≠ d := fun z => by rw [z, e] at b; cases b
    refine ⟨?_, by rw [upd_ne z]; exact b, c, w, by rw [upd_ne z]; exact q, k.ry ry⟩
    rcases a with a | a
    · exact .inl a
    · exact .inr (by show upd C.H0 d (.frz od u) D = none; rw [upd_ne z]; exact a)
theorem Rp.unlock {C : Cy} {F H F2 H2 : Hp} {σ σ0 : L2.St} {G G0 : List Sv} {O O0 : Ow} {d : Addr} {od : Obj} {u : HO} (r0 : Rp C F H σ0 G0 O0) (eF : F d = some u) (h : Rp (lkC C d od u) F2 H2 σ G O) (e : F2 d = some (.frz od u)) (dk : IsDk u) : Rp C (upd F2 d u) (upd H2 d u) σ G O := by
  have eH := h.q.sub d _ e
  have ry := ry_unlock e
  have mu := dk.mut
  have nt := dk.nt
  have eH0 := r0.q.sub d u eF
  have hA : d ∉ C.A := fun m => by have := r0.q.na d m; rw [eF] at this; cases this
  refine ⟨⟨?_, ?_, ?_, ?_, ?_, ?_, ?_, ?_, ?_⟩, h.len, ?_, ?_, h.nd⟩
  · intro b o q
    by_cases z : b = d
    · subst z; rw [upd_same] at q ⊢; exact q
    · rw [upd_ne z] at q ⊢; exact h.q.sub b o q
  · intro b o q
    by_cases z : b = d
    · subst z
      have := r0.q.old b o q
      rw [eF] at this
      rw [upd_same]; exact this
    · rw [upd_ne z]
      exact h.q.old b o (by show upd C.F0 d (.frz od u) b = _; rw [upd_ne z]; exact q)
  · intro b o nb q
    by_cases z : b = d
    · subst z
      have := r0.q.but b o nb q
      rw [eH0] at this
      rw [upd_same]; exact this
    · rw [upd_ne z]
      exact h.q.but b o nb (by show upd C.H0 d (.frz od u) b = _; rw [upd_ne z]; exact q)
  · intro b q
    by_cases z : b = d
    · subst z; rw [upd_same]; exact fun z => by cases z
    · rw [upd_ne z]
      exact h.q.thr b (by show upd C.H0 d (.frz od u) b ≠ none; rw [upd_ne z]; exact q)
  · intro b q1 q2
    by_cases z : b = d
    · subst z
      have := r0.q.non b q1 q2
      rw [eF] at this; cases this
    · rw [upd_ne z]
      exact h.q.non b (by show upd C.F0 d (.frz od u) b = none; rw [upd_ne z]; exact q1) (by show upd C.H0 d (.frz od u) b ≠ none; rw [upd_ne z]; exact q2)
  · intro b xs r
    by_cases z : b = d
    · subst z
      rcases r with r | ⟨o, r⟩
      · rw [upd_same] at r; cases r; exact absurd rfl (nt xs)
      · rw [upd_same] at r; cases r; exact mu.elim
    · have k : Rd F2 b (.tup xs) := h.q.tup b xs (by
        rcases r with r | ⟨o, r⟩
        · rw [upd_ne z] at r; exact .inl r
        · rw [upd_ne z] at r; exact .inr ⟨o, r⟩)
      exact ry.rd b _ (fun _ _ z => by cases z) k
  · exact C.dwS H2 _ (fun a ha => upd_ne (fun z => hA (by rw [← z]; exact ha))) h.q.dw
  · intro a ha
    rw [upd_ne (fun z => hA (by rw [← z]; exact ha))]
    exact h.q.na a ha
  · intro b o w kd q
    by_cases z : b = d
    · rw [z, upd_same] at q; cases q; exact mu.elim
    · rw [upd_ne z] at q
      have q : upd C.F0 d (.frz od u) b = some (.frz o w) := h.q.lk b o w kd q
      rw [upd_ne z] at q
      exact q
  · intro i s q
    obtain ⟨ov, a, b⟩ := h.sl i s q
    exact ⟨ov, a, b.ry ry⟩
  · intro D ob m
    obtain ⟨a, b, c, w, q, k⟩ := h.ow D ob m
    have z : D ≠ d := fun z => by rw [z, e] at b; cases b
    refine ⟨?_, by rw [upd_ne z]; exact b, c, w, by rw [upd_ne z]; exact q, k.ry ry⟩
    rcases a with a | a
    · exact .inl a
    · have a : upd C.H0 d (.frz od u) D = none := a
      rw [upd_ne z] at a
      exact .inr a
/-- what is frozen, where the heap has grown -/
def unfz : Option HO → Option HO
  | some (.frz _ (.dK _)) => none
  | some (.frz _ (.dT _)) => none
  | x => x
def grow (F H H' : Hp) : Hp := fun b => match F b with
  | some o => some o
  | none => match H b with
    | none => unfz (H' b)
    | some _ => none
theorem grow_new (F : Hp) {H H' : Hp} {b : Addr} (h : F b = none) (n : H b = none) : grow F H H' b = unfz (H' b) := by unfold grow; rw [h, n]
theorem unfz_some {x : Option HO} {u : HO} (h : unfz x = some u) : x = some u := by
  unfold unfz at h
  split at h
  · cases h
  · cases h
  · exact h
theorem unfz_tup {xs : List V} {x : Option HO} : (x = some (.tup xs) → unfz x = some (.tup xs)) ∧ ∀ o, x = some (.frz o (.tup xs)) → unfz x = some (.frz o (.tup xs)) :=
  ⟨fun e => by rw [e]; rfl, fun o e => by rw [e]; rfl⟩
theorem unfz_nd {x : Option HO} {o : Obj} {u : HO} (dk : IsDk u) : unfz x ≠ some (.frz o u) := fun h => by
  have e := unfz_some h
  rcases dk with ⟨_, rfl⟩ | ⟨_, rfl⟩ <;> (rw [e] at h; cases h)
theorem grow_old {F H H' : Hp} {b : Addr} {o : HO} (h : F b = some o) : grow F H H' b = some o := by unfold grow; rw [h]
theorem grow_none {F H H' : Hp} {b : Addr} (h : F b = none) (n : H b ≠ none) : grow F H H' b = none := by
  unfold grow
  rw [h]
  cases e : H b with
  | none => exact absurd e n
  | some o => rfl
theorem grow_same (F H H' : Hp) : Same F (grow F H H') := fun b o e => grow_old e
theorem Rp.ext (h : Rp C F H σ G O) (s : Same H H') : Rp C (grow F H H') H' σ G O ∧ (∀ b xs, Rd H' b (.tup xs) → Rd (grow F H H') b (.tup xs)) := by
  have tup : ∀ b xs, Rd H' b (.tup xs) → Rd (grow F H H') b (.tup xs) := by
    intro b xs r
    cases e : H b with
    | none =>
      have g := grow_new F (H' := H') (h.q.f0 e) e
      rcases r with r | ⟨o, r⟩
      · exact .inl (by rw [g]; exact unfz_tup.1 r)
      · exact .inr ⟨o, by rw [g]; exact unfz_tup.2 o r⟩
    | some u =>
      have e' := s b u e
      have k : Rd H b (.tup xs) := by
        rcases r with r | ⟨o, r⟩
        · rw [e'] at r; exact .inl (by rw [e]; exact r)
        · rw [e'] at r; exact .inr ⟨o, by rw [e]; exact r⟩
      rcases h.q.tup b xs k with k | ⟨o, k⟩
      · exact .inl (grow_old k)
      · exact .inr ⟨o, grow_old k⟩
  refine ⟨h.step (grow_same F H H') ⟨?_, h.q.old.trans (grow_same F H H'), fun b o nb e => s b o (h.q.but b o nb e), ?_, ?_, tup, ?_, ?_, ?_⟩ ?_, tup⟩
  · intro b o e
    unfold grow at e
    cases q : F b with
    | some x => rw [q] at e; exact s b o (h.q.sub b o (by rw [q]; exact e))
    | none =>
      rw [q] at e
      cases q2 : H b with
      | none => rw [q2] at e; exact unfz_some e
      | some y => rw [q2] at e; cases e
  · intro b e
    have := h.q.thr b e
    cases q : H b with
    | none => exact absurd q this
    | some o => rw [s b o q]; exact fun z => by cases z
  · intro b e1 e2
    exact grow_none (h.q.non b e1 e2) (h.q.thr b e2)
  · refine C.dwS H _ (fun a ha => ?_) h.q.dw
    have := C.dwT H h.q.dw a ha
    cases q : H a with
    | none => exact absurd q this
    | some o => exact s a o q
  · intro a ha
    exact grow_none (h.q.na a ha) (C.dwT H h.q.dw a ha)
  · intro b o u kd e
    unfold grow at e
    cases q : F b with
    | some x => rw [q] at e; exact h.q.lk b o u kd (by rw [q]; exact e)
    | none =>
      rw [q] at e
      cases q2 : H b with
      | none => rw [q2] at e; exact absurd e (unfz_nd kd)
      | some y => rw [q2] at e; cases e
  · intro D ob m
    obtain ⟨_, b, _, u, e, _⟩ := h.ow D ob m
    exact ⟨(s D u e).trans e.symm, grow_none b (by rw [e]; exact fun z => by cases z)⟩
theorem Rp.gs (h : Rp C F H σ G O) (s : Same H H') (F' : Hp) (sf : Same F F') : Gw O F H F' H' := ⟨sf, fun D ob m => by
  obtain ⟨_, c, _, u, e, _⟩ := h.ow D ob m
  rw [e]
  exact s D u e⟩
theorem sqT_rd {K : PySem.W.Frag} {a : Addr} {xs : List V} (f : ∀ b xs, Rd H b (.tup xs) → Rd F b (.tup xs)) (h : SqT K H a xs) : SqT K F a xs := by
  rcases h with h | h
  · exact .inl (f _ _ h)
  · exact .inr h
end
end Dl
set_option Elab.async false
set_option autoImplicit false
set_option linter.all false
set_option maxRecDepth 100000
set_option maxHeartbeats 4000000
namespace Dl
open PySem PySem.Spec PyProof.Rows L2 Ln
/-! ## what an expression's reading comes to -/
def Dv (C : Cy) (G : List Sv) (O : Ow) (t : TE) (k : Sv → Prop) : Prop := ∀ X F H σ Q, Rp C F H σ G (O ++ X) → (∀ F' v H' s, Gw (O ++ X) F H F' H' → Rp C F' H' σ G (O ++ X) → SvOk C.K F' v s → k s → Q v H') → t σ H Q
def Dx (C : Cy) (G : List Sv) (O : Ow) (t : TE) (k : PyData → Prop) : Prop := ∀ X F H σ Q, Rp C F H σ G (O ++ X) → (∀ F' v H' d, Gw (O ++ X) F H F' H' → Rp C F' H' σ G (O ++ X) → Dp C.K F' v d → k d → Q v H') → t σ H Q
def Dl (C : Cy) (G : List Sv) (O : Ow) (t : TE) (k : List Sv → Prop) : Prop := ∀ X F H σ Q, Rp C F H σ G (O ++ X) → (∀ F' D H' ss, Gw (O ++ X) F H F' H' → C.H0 D = none → Rp C F' H' σ G ((D, .lst ss) :: (O ++ X)) → k ss → Q (.ref D) H') → t σ H Q
def Dt (C : Cy) (G : List Sv) (O : Ow) (t : TT) (k : Bool → Prop) : Prop := ∀ X F H σ Q, Rp C F H σ G (O ++ X) → (∀ F' b H', Gw (O ++ X) F H F' H' → Rp C F' H' σ G (O ++ X) → k b → Q b H') → t σ H Q
def Da (C : Cy) (G : List Sv) (O : Ow) (t : TA) (k : List Sv → Prop) : Prop := ∀ X F H σ Q, Rp C F H σ G (O ++ X) → (∀ F' vs H' ss, Gw (O ++ X) F H F' H' → Rp C F' H' σ G (O ++ X) → Paired (SvOk C.K F') vs ss → k ss → Q vs H') → t σ H Q
def Do (C : Cy) (G : List Sv) (O : Ow) (t : TO) (k : Option Int → Prop) : Prop := ∀ X F H σ Q, Rp C F H σ G (O ++ X) → (∀ F' o H', Gw (O ++ X) F H F' H' → Rp C F' H' σ G (O ++ X) → k o → Q o H') → t σ H Q
structure isI (k : Int → Prop) (d : PyData) : Prop where
  ex : ∃ i, d = .int i ∧ k i
structure isB (k : Bool → Prop) (d : PyData) : Prop where
  ex : ∃ b, d = .bool b ∧ k b
structure isS (k : Str → Prop) (d : PyData) : Prop where
  ex : ∃ x, d = .str x ∧ k x
structure isT (k : List PyData → Prop) (d : PyData) : Prop where
  ex : ∃ ds, d = .tuple ds ∧ k ds
structure isQ (k : List PyData → Prop) (d : PyData) : Prop where
  ex : ∃ ds, (d = .tuple ds ∨ d = .list ds) ∧ k ds
structure isD (k : PyData → Prop) (s : Sv) : Prop where
  ex : ∃ d, s = .dat d ∧ k d
def szk (n : Nat) (p : Prop) : Prop := n ≤ sizeLine ∧ p
theorem isI_mk {k : Int → Prop} {i : Int} (h : k i) : isI k (.int i) := ⟨⟨i, rfl, h⟩⟩
theorem isB_mk {k : Bool → Prop} {i : Bool} (h : k i) : isB k (.bool i) := ⟨⟨i, rfl, h⟩⟩
theorem isS_mk {k : Str → Prop} {i : Str} (h : k i) : isS k (.str i) := ⟨⟨i, rfl, h⟩⟩
theorem isT_mk {k : List PyData → Prop} {i : List PyData} (h : k i) : isT k (.tuple i) := ⟨⟨i, rfl, h⟩⟩
theorem isQ_t {k : List PyData → Prop} {i : List PyData} (h : k i) : isQ k (.tuple i) := ⟨⟨i, .inl rfl, h⟩⟩
theorem isQ_l {k : List PyData → Prop} {i : List PyData} (h : k i) : isQ k (.list i) := ⟨⟨i, .inr rfl, h⟩⟩
theorem isD_mk {k : PyData → Prop} {i : PyData} (h : k i) : isD k (.dat i) := ⟨⟨i, rfl, h⟩⟩
theorem szk_mk {n : Nat} {p : Prop} (h : p) (hn : Nat.ble n 1000 = true := by with_unfolding_all rfl) : szk n p := ⟨Nat.le_trans (Nat.le_of_ble_eq_true hn) (by decide), h⟩
theorem ifB {b : Bool} {A B : Prop} (h1 : b = true → A) (h2 : b = false → B) : if b = true then A else B := by
  cases b
  · exact (if_neg Bool.false_ne_true).mpr (h2 rfl)
  · exact (if_pos rfl).mpr (h1 rfl)
theorem ifP {p : Prop} [Decidable p] {A B : Prop} (h1 : p → A) (h2 : ¬p → B) : if decide p = true then A else B := ifB (fun h => h1 (of_decide_eq_true h)) fun h => h2 (of_decide_eq_false h)
theorem ifT {b : Bool} {A B : Prop} (e : b = true) (h1 : A) : if b = true then A else B := (if_pos e).mpr h1
theorem ifF {b : Bool} {A B : Prop} (e : b = false) (h1 : B) : if b = true then A else B := (if_neg (by rw [e]; exact Bool.false_ne_true)).mpr h1
theorem Paired.det {K : PySem.W.Frag} {F : Hp} : ∀ {vs : List V} {ss : List Sv} {ds : List PyData}, Paired (SvOk K F) vs ss → ss = ds.map Sv.dat → DpAll K F vs ds
  | _, _, [], .nil, _ => .nil
  | _, _, d :: ds, .nil, e => by cases e
  | _, _, [], .cons _ _, e => by cases e
  | _, _, d :: ds, .cons a b, e => by
    rw [List.map_cons] at e
    injection e with e1 e2
    subst e1
    exact .cons a (Paired.det b e2)
theorem Paired.ofAll {K : PySem.W.Frag} {F : Hp} : ∀ {vs : List V} {ds : List PyData}, DpAll K F vs ds → Paired (SvOk K F) vs (ds.map Sv.dat)
  | _, _, .nil => .nil
  | _, _, .cons a b => .cons a (Paired.ofAll b)
theorem app_get {α : Type} {O X : List α} {n : Nat} {x : α} (m : O[n]? = some x) : (O ++ X)[n]? = some x := by
  rw [List.getElem?_append_left (List.getElem?_eq_some_iff.mp m).1]; exact m
theorem app_set {α : Type} {O X : List α} {n : Nat} {x y : α} (m : O[n]? = some x) : (O ++ X).set n y = O.set n y ++ X := by
  rw [List.set_append_left _ _ (List.getElem?_eq_some_iff.mp m).1]
theorem dpAll_get {K : PySem.W.Frag} {F : Hp} : ∀ {vs : List V} {ds : List PyData}, DpAll K F vs ds → ∀ {i : Nat} {v : V}, vs[i]? = some v → ∃ d, ds[i]? = some d ∧ Dp K F v d
  | _, _, .nil, i, v, e => by simp at e
  | _, _, .cons a b, 0, v, e => by cases e; exact ⟨_, rfl, a⟩
  | _, _, .cons a b, i + 1, v, e => dpAll_get b (i := i) (by simpa using e)
theorem dpAll_get' {K : PySem.W.Frag} {F : Hp} : ∀ {vs : List V} {ds : List PyData}, DpAll K F vs ds → ∀ {i : Nat} {d : PyData}, ds[i]? = some d → ∃ v, vs[i]? = some v ∧ Dp K F v d
  | _, _, .nil, i, v, e => by simp at e
  | _, _, .cons a b, 0, v, e => by cases e; exact ⟨_, rfl, a⟩
  | _, _, .cons a b, i + 1, v, e => dpAll_get' b (i := i) (by simpa using e)
theorem dpAll_len {K : PySem.W.Frag} {F : Hp} : ∀ {vs : List V} {ds : List PyData}, DpAll K F vs ds → vs.length = ds.length
  | _, _, .nil => rfl
  | _, _, .cons a b => by rw [List.length_cons, List.length_cons, dpAll_len b]
theorem paired_get {α β : Type} {R : α → β → Prop} : ∀ {vs : List α} {ds : List β}, Paired R vs ds → ∀ {i : Nat} {v : α}, vs[i]? = some v → ∃ d, ds[i]? = some d ∧ R v d
  | _, _, .nil, i, v, e => by simp at e
  | _, _, .cons a b, 0, v, e => by cases e; exact ⟨_, rfl, a⟩
  | _, _, .cons a b, i + 1, v, e => paired_get b (i := i) (by simpa using e)
theorem paired_get' {α β : Type} {R : α → β → Prop} : ∀ {vs : List α} {ds : List β}, Paired R vs ds → ∀ {i : Nat} {d : β}, ds[i]? = some d → ∃ v, vs[i]? = some v ∧ R v d
  | _, _, .nil, i, v, e => by simp at e
  | _, _, .cons a b, 0, v, e => by cases e; exact ⟨_, rfl, a⟩
  | _, _, .cons a b, i + 1, v, e => paired_get' b (i := i) (by simpa using e)
theorem atI_dp {K : PySem.W.Frag} {F : Hp} {vs : List V} {ds : List PyData} (h : DpAll K F vs ds) {i : Int} {d : PyData} (e : atI ds i = some d) : ∃ v, atI vs i = some v ∧ Dp K F v d := by
  unfold atI at e ⊢
  rw [dpAll_len h]
  cases q : ixN ds.length i with
  | none => rw [q] at e; cases e
  | some j =>
    rw [q] at e
    obtain ⟨v, a, b⟩ := dpAll_get' h (i := j) e
    exact ⟨v, a, b⟩
theorem atI_paired {β : Type} {R : V → β → Prop} {vs : List V} {ds : List β} (h : Paired R vs ds) {i : Int} {d : β} (e : atI ds i = some d) : ∃ v, atI vs i = some v ∧ R v d := by
  unfold atI at e ⊢
  rw [Paired.length h]
  cases q : ixN ds.length i with
  | none => rw [q] at e; cases e
  | some j =>
    rw [q] at e
    obtain ⟨v, a, b⟩ := paired_get' h (i := j) e
    exact ⟨v, a, b⟩
section
variable {C : Cy} {G : List Sv} {O : Ow} {t ta tb tc : TE} {k : PyData → Prop}
theorem Dx.mono {k' : PyData → Prop} (h : Dx C G O t k) (m : ∀ d, k d → k' d) : Dx C G O t k' := fun X F H σ Q r c => h X F H σ Q r fun F' v H' d s r' p q => c F' v H' d s r' p (m d q)
theorem Dv.mono {k k' : Sv → Prop} (h : Dv C G O t k) (m : ∀ d, k d → k' d) : Dv C G O t k' := fun X F H σ Q r c => h X F H σ Q r fun F' v H' d s r' p q => c F' v H' d s r' p (m d q)
theorem Dl.mono {k k' : List Sv → Prop} (h : Dl C G O t k) (m : ∀ d, k d → k' d) : Dl C G O t k' := fun X F H σ Q r c => h X F H σ Q r fun F' v H' d s p r' q => c F' v H' d s p r' (m d q)
theorem Dt.mono {u : TT} {k k' : Bool → Prop} (h : Dt C G O u k) (m : ∀ d, k d → k' d) : Dt C G O u k' := fun X F H σ Q r c => h X F H σ Q r fun F' v H' s r' q => c F' v H' s r' (m v q)
/-! ### from one to the other -/
theorem dv_dx {k : Sv → Prop} (h : Dx C G O t fun d => k (.dat d)) : Dv C G O t k := fun X F H σ Q r c => h X F H σ Q r fun F' v H' d s r' p q => c F' v H' (.dat d) s r' p q
theorem dx_dv (h : Dv C G O t (isD k)) : Dx C G O t k := fun X F H σ Q r c => h X F H σ Q r fun F' v H' s sm r' p q => by
  obtain ⟨d, rfl, q⟩ := q
  exact c F' v H' d sm r' p q
/-- a new list, frozen -/
theorem dx_dl (h : Dl C G O t fun ss => ∃ ds : List PyData, ss = ds.map Sv.dat ∧ k (.list ds)) : Dx C G O t k := fun X F H σ Q r c => h X F H σ Q r fun F' D H' ss s h0 r' q => by
  obtain ⟨ds, rfl, q⟩ := q
  obtain ⟨F2, u, s2, e, ⟨xs, rfl, p⟩, r2⟩ := r'.frz (n := 0) (ob := .lst (ds.map Sv.dat)) h0 rfl
  exact c F2 (.ref D) H' (.list ds) (s.trans (Gw.of s2)) r2 (.lst (SqL.of e) (Paired.det p rfl)) q
/-! ### names, constants -/
theorem dx_var {i : Nat} {d : PyData} (h : G[i]? = some (.dat d)) (q : k d) : Dx C G O (tVar i) k := fun X F H σ Q r c => by
  obtain ⟨v, a, b⟩ := r.get h (fun z => by cases z)
  exact ⟨v, a, c F v H d (Gw.refl) r b q⟩
theorem dv_var {i : Nat} {s : Sv} {k : Sv → Prop} (h : G[i]? = some s) (n : s ≠ .any) (q : k s) : Dv C G O (tVar i) k := fun X F H σ Q r c => by
  obtain ⟨v, a, b⟩ := r.get h n
  exact ⟨v, a, c F v H s (Gw.refl) r b q⟩
theorem dv_dat {i : Nat} {d : PyData} {k : Sv → Prop} (h : G[i]? = some (.dat d)) (q : k (.dat d)) : Dv C G O (tVar i) k := dv_var h (fun z => by cases z) q
theorem dv_ptr {i : Nat} {d : Addr} {k : Sv → Prop} (h : G[i]? = some (.ptr d)) (q : k (.ptr d)) : Dv C G O (tVar i) k := dv_var h (fun z => by cases z) q
theorem dv_hdl {i : Nat} {d : Mo} {k : Sv → Prop} (h : G[i]? = some (.hdl d)) (q : k (.hdl d)) : Dv C G O (tVar i) k := dv_var h (fun z => by cases z) q
theorem dx_int {n : Int} (q : k (.int n)) : Dx C G O (tC (.int n)) k := fun X F H σ Q r c => c F _ H _ (Gw.refl) r (.int n) q
theorem dx_str {n : Str} (q : k (.str n)) : Dx C G O (tC (.str n)) k := fun X F H σ Q r c => c F _ H _ (Gw.refl) r (.str n) q
theorem dx_bl {n : Bool} (q : k (.bool n)) : Dx C G O (tC (.bl n)) k := fun X F H σ Q r c => c F _ H _ (Gw.refl) r (.bl n) q
theorem dx_non (q : k .none) : Dx C G O (tC .non) k := fun X F H σ Q r c => c F _ H _ (Gw.refl) r .non q
theorem dx_con {v : V} {d : PyData} (h : ∀ F, Dp C.K F v d) (q : k d) : Dx C G O (tC v) k := fun X F H σ Q r c => c F v H d (Gw.refl) r (h F) q
/-! ### numbers -/
theorem dx_rI0 {g : Int → Int → Int} (h : Dx C G O ta (isI fun i => Dx C G O tb (isI fun j => k (.int (g i j))))) : Dx C G O (tOp (rI0 fun i j => V.int (g i j)) ta tb) k := fun X F H σ Q r c =>
  h X F H σ _ r fun F1 v H1 d s1 r1 p1 ⟨i, e, h2⟩ => by
    subst e; cases p1
    exact h2 X F1 H1 σ _ r1 fun F2 w H2 d2 s2 r2 p2 ⟨j, e, q⟩ => by
      subst e; cases p2
      exact ⟨i, j, rfl, rfl, c F2 _ H2 _ (s1.trans s2) r2 (.int _) q⟩
theorem dx_add (h : Dx C G O ta (isI fun i => Dx C G O tb (isI fun j => k (.int (i + j))))) : Dx C G O (tOp (rI0 fun i j => V.int (i + j)) ta tb) k := dx_rI0 (g := fun i j => i + j) h
theorem dx_sub (h : Dx C G O ta (isI fun i => Dx C G O tb (isI fun j => k (.int (i - j))))) : Dx C G O (tOp (rI0 fun i j => V.int (i - j)) ta tb) k := dx_rI0 (g := fun i j => i - j) h
theorem dx_rI {P : Int → Int → Prop} {g : Int → Int → Int} (h : Dx C G O ta (isI fun i => Dx C G O tb (isI fun j => P i j ∧ k (.int (g i j))))) : Dx C G O (tOp (rI P fun i j => V.int (g i j)) ta tb) k := fun X F H σ Q r c =>
  h X F H σ _ r fun F1 v H1 d s1 r1 p1 ⟨i, e, h2⟩ => by
    subst e; cases p1
    exact h2 X F1 H1 σ _ r1 fun F2 w H2 d2 s2 r2 p2 ⟨j, e, hp, q⟩ => by
      subst e; cases p2
      exact ⟨i, j, rfl, rfl, hp, c F2 _ H2 _ (s1.trans s2) r2 (.int _) q⟩
theorem dx_mul (h : Dx C G O ta (isI fun i => Dx C G O tb (isI fun j => CMul i j ∧ k (.int (i * j))))) : Dx C G O (tOp (rI CMul fun i j => V.int (i * j)) ta tb) k := dx_rI (g := fun i j => i * j) h
theorem dx_fdiv (h : Dx C G O ta (isI fun i => Dx C G O tb (isI fun j => CDiv i j ∧ k (.int (i / j))))) : Dx C G O (tOp (rI CDiv fun i j => V.int (i / j)) ta tb) k := dx_rI (g := fun i j => i / j) h
theorem dx_mod (h : Dx C G O ta (isI fun i => Dx C G O tb (isI fun j => 0 < j ∧ k (.int (i % j))))) : Dx C G O (tOp (rI (fun _ j => 0 < j) fun i j => V.int (i % j)) ta tb) k := dx_rI (P := fun _ j => 0 < j) (g := fun i j => i % j) h
theorem dx_rB {g : Int → Int → Bool} (h : Dx C G O ta (isI fun i => Dx C G O tb (isI fun j => k (.bool (g i j))))) : Dx C G O (tOp (rI0 fun i j => V.bl (g i j)) ta tb) k := fun X F H σ Q r c =>
  h X F H σ _ r fun F1 v H1 d s1 r1 p1 ⟨i, e, h2⟩ => by
    subst e; cases p1
    exact h2 X F1 H1 σ _ r1 fun F2 w H2 d2 s2 r2 p2 ⟨j, e, q⟩ => by
      subst e; cases p2
      exact ⟨i, j, rfl, rfl, c F2 _ H2 _ (s1.trans s2) r2 (.bl _) q⟩
theorem dx_lt (h : Dx C G O ta (isI fun i => Dx C G O tb (isI fun j => k (.bool (decide (i < j)))))) : Dx C G O (tOp (rI0 fun i j => V.bl (decide (i < j))) ta tb) k := dx_rB (g := fun i j => decide (i < j)) h
theorem dx_le (h : Dx C G O ta (isI fun i => Dx C G O tb (isI fun j => k (.bool (decide (i ≤ j)))))) : Dx C G O (tOp (rI0 fun i j => V.bl (decide (i ≤ j))) ta tb) k := dx_rB (g := fun i j => decide (i ≤ j)) h
theorem dx_gt (h : Dx C G O ta (isI fun i => Dx C G O tb (isI fun j => k (.bool (decide (j < i)))))) : Dx C G O (tOp (rI0 fun i j => V.bl (decide (j < i))) ta tb) k := dx_rB (g := fun i j => decide (j < i)) h
theorem dx_ge (h : Dx C G O ta (isI fun i => Dx C G O tb (isI fun j => k (.bool (decide (j ≤ i)))))) : Dx C G O (tOp (rI0 fun i j => V.bl (decide (j ≤ i))) ta tb) k := dx_rB (g := fun i j => decide (j ≤ i)) h
theorem dx_neg (h : Dx C G O ta (isI fun i => k (.int (-i)))) : Dx C G O (tUn (rU fun i => V.int (-i)) ta) k := fun X F H σ Q r c =>
  h X F H σ _ r fun F1 v H1 d s1 r1 p1 ⟨i, e, q⟩ => by
    subst e; cases p1
    exact ⟨i, rfl, c F1 _ H1 _ s1 r1 (.int _) q⟩
/-! ### equality of plain things, None -/
def scD : PyData → PyData → Bool
  | .none, .none => true
  | .none, .int _ => true
  | .int _, .none => true
  | .none, .bool _ => true
  | .bool _, .none => true
  | .none, .str _ => true
  | .str _, .none => true
  | .int _, .int _ => true
  | .bool _, .bool _ => true
  | .str _, .str _ => true
  | .int _, .str _ => true
  | .str _, .int _ => true
  | .bool _, .str _ => true
  | .str _, .bool _ => true
  | _, _ => false
def seq : PyData → PyData → Bool
  | .none, .none => true
  | .int i, .int j => decide (i = j)
  | .bool i, .bool j => decide (i = j)
  | .str i, .str j => decide (i = j)
  | _, _ => false
theorem dec_inj {α β : Type} {f : α → β} [DecidableEq α] [DecidableEq β] (inj : ∀ a b, f a = f b → a = b) (a b : α) : decide (f a = f b) = decide (a = b) := by
  by_cases h : a = b
  · rw [decide_eq_true h, decide_eq_true (congrArg f h)]
  · rw [decide_eq_false h, decide_eq_false fun z => h (inj a b z)]
theorem dp_scal {K : PySem.W.Frag} {F : Hp} {v w : V} {a b : PyData} (h1 : Dp K F v a) (h2 : Dp K F w b) (h : scD a b = true) : scal v w = true ∧ decide (v = w) = seq a b := by
  cases h1 <;> cases h2 <;> first
    | exact ⟨rfl, rfl⟩
    | (refine ⟨rfl, ?_⟩; exact dec_inj (f := V.int) (fun _ _ z => V.int.inj z) _ _)
    | (refine ⟨rfl, ?_⟩; exact dec_inj (f := V.str) (fun _ _ z => V.str.inj z) _ _)
    | (refine ⟨rfl, ?_⟩; exact dec_inj (f := V.bl) (fun _ _ z => V.bl.inj z) _ _)
    | (refine ⟨rfl, ?_⟩; exact decide_eq_false (fun z => by cases z))
    | cases h
/-- a == b of plain things: k of the answer -/
def sEq (k : Bool → Prop) (a b : PyData) : Prop := scD a b = true ∧ k (seq a b)
theorem sEq_mk {k : Bool → Prop} {a b : PyData} (q : k (seq a b)) (h : scD a b = true := by with_unfolding_all rfl) : sEq k a b := ⟨h, q⟩
theorem sEq_ii {k : Bool → Prop} {a b : Int} (q : k (decide (a = b))) : sEq k (.int a) (.int b) := ⟨rfl, q⟩
theorem sEq_ss {k : Bool → Prop} {a b : Str} (q : k (decide (a = b))) : sEq k (.str a) (.str b) := ⟨rfl, q⟩
theorem sEq_bb {k : Bool → Prop} {a b : Bool} (q : k (decide (a = b))) : sEq k (.bool a) (.bool b) := ⟨rfl, q⟩
theorem sEq_si {k : Bool → Prop} {a : Str} {b : Int} (q : k false) : sEq k (.str a) (.int b) := ⟨rfl, q⟩
theorem sEq_is {k : Bool → Prop} {a : Str} {b : Int} (q : k false) : sEq k (.int b) (.str a) := ⟨rfl, q⟩
theorem sEq_nn {k : Bool → Prop} (q : k true) : sEq k .none .none := ⟨rfl, q⟩
theorem sEq_ns {k : Bool → Prop} {b : Str} (q : k false) : sEq k .none (.str b) := ⟨rfl, q⟩
theorem sEq_sn {k : Bool → Prop} {b : Str} (q : k false) : sEq k (.str b) .none := ⟨rfl, q⟩
theorem sEq_ni {k : Bool → Prop} {b : Int} (q : k false) : sEq k .none (.int b) := ⟨rfl, q⟩
theorem sEq_in {k : Bool → Prop} {b : Int} (q : k false) : sEq k (.int b) .none := ⟨rfl, q⟩
theorem dx_eq (h : Dx C G O ta fun a => Dx C G O tb fun b => sEq (fun c => k (.bool c)) a b) : Dx C G O (tOp rEq ta tb) k := fun X F H σ Q r c =>
  h X F H σ _ r fun F1 v H1 d s1 r1 p1 h2 => h2 X F1 H1 σ _ r1 fun F2 w H2 d2 s2 r2 p2 ⟨e, q⟩ => by
    obtain ⟨e1, e2⟩ := dp_scal (Dp.mono s2.sf _ _ p1) p2 e
    exact ⟨e1, c F2 _ H2 _ (s1.trans s2) r2 (by rw [e2]; exact .bl _) q⟩
theorem dx_ne (h : Dx C G O ta fun a => Dx C G O tb fun b => sEq (fun c => k (.bool (!c))) a b) : Dx C G O (tOp rNe ta tb) k := fun X F H σ Q r c =>
  h X F H σ _ r fun F1 v H1 d s1 r1 p1 h2 => h2 X F1 H1 σ _ r1 fun F2 w H2 d2 s2 r2 p2 ⟨e, q⟩ => by
    obtain ⟨e1, e2⟩ := dp_scal (Dp.mono s2.sf _ _ p1) p2 e
    exact ⟨e1, c F2 _ H2 _ (s1.trans s2) r2 (by rw [e2]; exact .bl _) q⟩
def nonB : PyData → Bool
  | .none => true
  | _ => false
theorem dp_non {K : PySem.W.Frag} {F : Hp} {v : V} {a : PyData} (h : Dp K F v a) : decide (v = .non) = nonB a := by
  cases h <;> first | rfl | exact decide_eq_false (fun z => by cases z)
theorem dx_isN (h : Dx C G O ta fun a => k (.bool (nonB a))) : Dx C G O (tOp (fun x y H Q => y = V.non ∧ Q (V.bl (decide (x = V.non))) H) ta (tC .non)) k := fun X F H σ Q r c =>
  h X F H σ _ r fun F1 v H1 d s1 r1 p1 q => ⟨rfl, c F1 _ H1 _ s1 r1 (by rw [dp_non p1]; exact .bl _) q⟩
theorem dx_notN (h : Dx C G O ta fun a => k (.bool (!nonB a))) : Dx C G O (tOp (fun x y H Q => y = V.non ∧ Q (V.bl (!decide (x = V.non))) H) ta (tC .non)) k := fun X F H σ Q r c =>
  h X F H σ _ r fun F1 v H1 d s1 r1 p1 q => ⟨rfl, c F1 _ H1 _ s1 r1 (by rw [dp_non p1]; exact .bl _) q⟩
/-! ### equality of data -/
theorem dx_eqD (h : Dx C G O ta fun a => Dx C G O tb fun b => SeqAt.shaped a = true ∧ SeqAt.shaped b = true ∧ k (.bool (PyData.eqv a b))) : Dx C G O (tOp (rEqD C.K) ta tb) k := fun X F H σ Q r c =>
  h X F H σ _ r fun F1 v H1 d s1 r1 p1 h2 => h2 X F1 H1 σ _ r1 fun F2 w H2 d2 s2 r2 p2 ⟨e1, e2, q⟩ =>
    ⟨d, d2, Dp.mono r2.q.sub _ _ (Dp.mono s2.sf _ _ p1), Dp.mono r2.q.sub _ _ p2, e1, e2, c F2 _ H2 _ (s1.trans s2) r2 (.bl _) q⟩
theorem dx_neD (h : Dx C G O ta fun a => Dx C G O tb fun b => SeqAt.shaped a = true ∧ SeqAt.shaped b = true ∧ k (.bool (!PyData.eqv a b))) : Dx C G O (tOp (rNeD C.K) ta tb) k := fun X F H σ Q r c =>
  h X F H σ _ r fun F1 v H1 d s1 r1 p1 h2 => h2 X F1 H1 σ _ r1 fun F2 w H2 d2 s2 r2 p2 ⟨e1, e2, q⟩ =>
    ⟨d, d2, Dp.mono r2.q.sub _ _ (Dp.mono s2.sf _ _ p1), Dp.mono r2.q.sub _ _ p2, e1, e2, c F2 _ H2 _ (s1.trans s2) r2 (.bl _) q⟩
/-! ### tests, and, or, not, if -/
theorem dt_b {k : Bool → Prop} (h : Dx C G O t (isB k)) : Dt C G O (tB t) k := fun X F H σ Q r c => h X F H σ _ r fun F1 v H1 d s1 r1 p1 ⟨b, e, q⟩ => by
  subst e; cases p1
  exact ⟨b, rfl, c F1 b H1 s1 r1 q⟩
theorem dt_test {k : Bool → Prop} (h : Dx C G O t (isB k)) : Dt C G O (tTest t) k := fun X F H σ Q r c => h X F H σ _ r fun F1 v H1 d s1 r1 p1 ⟨b, e, q⟩ => by
  subst e; cases p1
  exact ⟨b, rfl, c F1 b H1 s1 r1 q⟩
theorem dt_not {u : TT} {k : Bool → Prop} (h : Dt C G O u fun b => k (!b)) : Dt C G O (tNot u) k := fun X F H σ Q r c => h X F H σ _ r fun F1 b H1 s1 r1 q => c F1 _ H1 s1 r1 q
theorem dt_and {u w : TT} {k : Bool → Prop} (h : Dt C G O u fun b => if b = true then Dt C G O w k else k false) : Dt C G O (tAnd u w) k := fun X F H σ Q r c => h X F H σ _ r fun F1 b H1 s1 r1 q => by
  cases b
  · exact iteF (c F1 false H1 s1 r1 (by simpa using q))
  · refine iteT ?_
    have q : Dt C G O w k := by simpa using q
    exact q X F1 H1 σ _ r1 fun F2 b H2 s2 r2 q => c F2 b H2 (s1.trans s2) r2 q
theorem dt_or {u w : TT} {k : Bool → Prop} (h : Dt C G O u fun b => if b = true then k true else Dt C G O w k) : Dt C G O (tOr u w) k := fun X F H σ Q r c => h X F H σ _ r fun F1 b H1 s1 r1 q => by
  cases b
  · refine iteF ?_
    have q : Dt C G O w k := by simpa using q
    exact q X F1 H1 σ _ r1 fun F2 b H2 s2 r2 q => c F2 b H2 (s1.trans s2) r2 q
  · exact iteT (c F1 true H1 s1 r1 (by simpa using q))
theorem dx_andV (h : Dx C G O ta (isB fun b => if b = true then Dx C G O tb k else k (.bool false))) : Dx C G O (tAndV ta tb) k := fun X F H σ Q r c => h X F H σ _ r fun F1 v H1 d s1 r1 p1 ⟨b, e, q⟩ => by
  subst e; cases p1
  refine ⟨b, rfl, ?_⟩
  cases b
  · exact iteF (c F1 _ H1 _ s1 r1 (.bl false) (by simpa using q))
  · refine iteT ?_
    have q : Dx C G O tb k := by simpa using q
    exact q X F1 H1 σ _ r1 fun F2 w H2 d s2 r2 p q => c F2 w H2 d (s1.trans s2) r2 p q
theorem dx_orV (h : Dx C G O ta (isB fun b => if b = true then k (.bool true) else Dx C G O tb k)) : Dx C G O (tOrV ta tb) k := fun X F H σ Q r c => h X F H σ _ r fun F1 v H1 d s1 r1 p1 ⟨b, e, q⟩ => by
  subst e; cases p1
  refine ⟨b, rfl, ?_⟩
  cases b
  · refine iteF ?_
    have q : Dx C G O tb k := by simpa using q
    exact q X F1 H1 σ _ r1 fun F2 w H2 d s2 r2 p q => c F2 w H2 d (s1.trans s2) r2 p q
  · exact iteT (c F1 _ H1 _ s1 r1 (.bl true) (by simpa using q))
theorem dx_notV (h : Dx C G O ta (isB fun b => k (.bool (!b)))) : Dx C G O (tNotV ta) k := fun X F H σ Q r c => h X F H σ _ r fun F1 v H1 d s1 r1 p1 ⟨b, e, q⟩ => by
  subst e; cases p1
  exact ⟨b, rfl, c F1 _ H1 _ s1 r1 (.bl _) q⟩
theorem dx_if {u : TT} (h : Dt C G O u fun b => if b = true then Dx C G O ta k else Dx C G O tb k) : Dx C G O (tIf u ta tb) k := fun X F H σ Q r c => h X F H σ _ r fun F1 b H1 s1 r1 q => by
  cases b
  · refine iteF ?_
    have q : Dx C G O tb k := by simpa using q
    exact q X F1 H1 σ _ r1 fun F2 w H2 d s2 r2 p q => c F2 w H2 d (s1.trans s2) r2 p q
  · refine iteT ?_
    have q : Dx C G O ta k := by simpa using q
    exact q X F1 H1 σ _ r1 fun F2 w H2 d s2 r2 p q => c F2 w H2 d (s1.trans s2) r2 p q
theorem dx_chain {p p' : Int → Int → Bool} (h : Dx C G O ta (isI fun i => Dx C G O tb (isI fun j => if p i j = true then Dx C G O tc (isI fun l => k (.bool (p' j l))) else k (.bool false)))) :
    Dx C G O (tChain (rI0 fun i j => V.bl (p i j)) (rI0 fun i j => V.bl (p' i j)) ta tb tc) k := fun X F H σ Q r c =>
  h X F H σ _ r fun F1 v H1 d s1 r1 p1 ⟨i, e, h2⟩ => by
    subst e; cases p1
    exact h2 X F1 H1 σ _ r1 fun F2 w H2 d2 s2 r2 p2 ⟨j, e, q⟩ => by
      subst e; cases p2
      refine ⟨i, j, rfl, rfl, p i j, rfl, ?_⟩
      cases e : p i j
      · rw [e] at q
        exact iteF (c F2 _ H2 _ (s1.trans s2) r2 (.bl false) (by simpa using q))
      · rw [e] at q
        refine iteT ?_
        have q : Dx C G O tc (isI fun l => k (.bool (p' j l))) := by simpa using q
        exact q X F2 H2 σ _ r2 fun F3 w H3 d3 s3 r3 p3 ⟨l, e, q⟩ => by
          subst e; cases p3
          exact ⟨j, l, rfl, rfl, c F3 _ H3 _ ((s1.trans s2).trans s3) r3 (.bl _) q⟩
/-! ### arguments -/
theorem da_nil {k : List Sv → Prop} (q : k []) : Da C G O tNil k := fun X F H σ Q r c => c F [] H [] (Gw.refl) r .nil q
theorem da_cons {u : TA} {k : List Sv → Prop} (h : Dv C G O t fun s => Da C G O u fun ss => k (s :: ss)) : Da C G O (tCons t u) k := fun X F H σ Q r c =>
  h X F H σ _ r fun F1 v H1 d s1 r1 p1 h2 => h2 X F1 H1 σ _ r1 fun F2 vs H2 ss s2 r2 p2 q => c F2 (v :: vs) H2 (d :: ss) (s1.trans s2) r2 (.cons (p1.mono s2.sf) p2) q
/-- arguments that are data -/
def Dd (C : Cy) (G : List Sv) (O : Ow) (t : TA) (k : List PyData → Prop) : Prop := ∀ X F H σ Q, Rp C F H σ G (O ++ X) → (∀ F' vs H' ds, Gw (O ++ X) F H F' H' → Rp C F' H' σ G (O ++ X) → DpAll C.K F' vs ds → k ds → Q vs H') → t σ H Q
theorem dd_nil {k : List PyData → Prop} (q : k []) : Dd C G O tNil k := fun X F H σ Q r c => c F [] H [] (Gw.refl) r .nil q
theorem dd_cons {u : TA} {k : List PyData → Prop} (h : Dx C G O t fun s => Dd C G O u fun ss => k (s :: ss)) : Dd C G O (tCons t u) k := fun X F H σ Q r c =>
  h X F H σ _ r fun F1 v H1 d s1 r1 p1 h2 => h2 X F1 H1 σ _ r1 fun F2 vs H2 ss s2 r2 p2 q => c F2 (v :: vs) H2 (d :: ss) (s1.trans s2) r2 (.cons (Dp.mono s2.sf _ _ p1) p2) q
theorem da_dd {u : TA} {k : List Sv → Prop} (h : Dd C G O u fun ds => k (ds.map Sv.dat)) : Da C G O u k := fun X F H σ Q r c => h X F H σ _ r fun F1 vs H1 ds s1 r1 p q => c F1 vs H1 _ s1 r1 (Paired.ofAll p) q
/-! ### displays -/
theorem dpAll_app {K : PySem.W.Frag} {F : Hp} : ∀ {vs ws : List V} {ds es : List PyData}, DpAll K F vs ds → DpAll K F ws es → DpAll K F (vs ++ ws) (ds ++ es)
  | _, _, _, _, .nil, h => h
  | _, _, _, _, .cons a b, h => .cons a (dpAll_app b h)
theorem dx_tup {u : TA} (h : Dd C G O u fun ds => szk ds.length (k (.tuple ds))) : Dx C G O (tTup u) k := fun X F H σ Q r c => h X F H σ _ r fun F1 vs H1 ds s1 r1 p q => by
  refine ⟨by rw [dpAll_len p]; exact q.1, fun l nl => ?_⟩
  have r2 := r1.newF (o := .tup vs) nl
  have s2 := r1.gm (o := .tup vs) nl
  exact c _ _ _ _ (s1.trans s2) r2 (.tup (SqT.of upd_same) (DpAll.mono s2.sf _ _ p)) q.2
theorem dl_lst {u : TA} {k : List Sv → Prop} (h : Da C G O u fun ss => szk ss.length (k ss)) : Dl C G O (tLst u) k := fun X F H σ Q r c => h X F H σ _ r fun F1 vs H1 ss s1 r1 p q => by
  refine ⟨by rw [Paired.length p]; exact q.1, fun l nl => ?_⟩
  exact c _ l _ ss (s1.trans (r1.gn nl)) (r1.q.h0 nl) (r1.newO (ob := .lst ss) nl ⟨vs, rfl, p⟩) q.2
/-! ### items -/
theorem dx_ixT (h : Dx C G O ta (isT fun ds => Dx C G O tb (isI fun i => ∃ d, atI ds i = some d ∧ k d))) : Dx C G O (tOp (rIxT C.K) ta tb) k := fun X F H σ Q r c =>
  h X F H σ _ r fun F1 v H1 d s1 r1 p1 ⟨ds, e, h2⟩ => by
    subst e
    exact h2 X F1 H1 σ _ r1 fun F2 w H2 d2 s2 r2 p2 ⟨i, e, x, hx, q⟩ => by
      subst e; cases p2
      cases Dp.mono s2.sf _ _ p1 with
      | @tup a xs _ ht ha =>
        obtain ⟨y, hy, py⟩ := atI_dp ha hx
        exact ⟨a, xs, i, y, rfl, rfl, Same.tup r2.q.sub ht, hy, c F2 y H2 x (s1.trans s2) r2 py q⟩
theorem dx_ixL (h : Dx C G O ta fun a => ∃ ds, a = .list ds ∧ Dx C G O tb (isI fun i => ∃ d, atI ds i = some d ∧ k d)) : Dx C G O (tOp (rIxL C.K) ta tb) k := fun X F H σ Q r c =>
  h X F H σ _ r fun F1 v H1 d s1 r1 p1 ⟨ds, e, h2⟩ => by
    subst e
    exact h2 X F1 H1 σ _ r1 fun F2 w H2 d2 s2 r2 p2 ⟨i, e, x, hx, q⟩ => by
      subst e; cases p2
      cases Dp.mono s2.sf _ _ p1 with
      | @lst a xs _ ht ha =>
        obtain ⟨y, hy, py⟩ := atI_dp ha hx
        exact ⟨a, xs, i, y, rfl, rfl, r2.q.sub.seq ht, hy, c F2 y H2 x (s1.trans s2) r2 py q⟩
theorem dx_ix (h : Dx C G O ta (isQ fun ds => Dx C G O tb (isI fun i => ∃ d, atI ds i = some d ∧ k d))) : Dx C G O (tOp (rIx C.K) ta tb) k := fun X F H σ Q r c =>
  h X F H σ _ r fun F1 v H1 d s1 r1 p1 ⟨ds, e, h2⟩ => by
    exact h2 X F1 H1 σ _ r1 fun F2 w H2 d2 s2 r2 p2 ⟨i, ei, x, hx, q⟩ => by
      subst ei; cases p2
      rcases e with e | e
      · subst e
        cases Dp.mono s2.sf _ _ p1 with
        | @tup a xs _ ht ha =>
          obtain ⟨y, hy, py⟩ := atI_dp ha hx
          exact .inr (.inl ⟨a, xs, i, y, rfl, rfl, Same.tup r2.q.sub ht, hy, c F2 y H2 x (s1.trans s2) r2 py q⟩)
      · subst e
        cases Dp.mono s2.sf _ _ p1 with
        | @lst a xs _ ht ha =>
          obtain ⟨y, hy, py⟩ := atI_dp ha hx
          exact .inl ⟨a, xs, i, y, rfl, rfl, r2.q.sub.seq ht, hy, c F2 y H2 x (s1.trans s2) r2 py q⟩
/-- of a list of one's own -/
theorem dv_ixO {i n : Nat} {D : Addr} {ss : List Sv} {k : Sv → Prop} (h : G[i]? = some (.ptr D)) (m : O[n]? = some (D, .lst ss)) (h2 : Dx C G O tb (isI fun j => ∃ s, atI ss j = some s ∧ k s)) : Dv C G O (tOp (rIxL C.K) (tVar i) tb) k := fun X F H σ Q r c => by
  obtain ⟨v, a, b⟩ := r.get h (fun z => by cases z)
  cases b
  refine ⟨_, a, ?_⟩
  exact h2 X F H σ _ r fun F2 w H2 d2 s2 r2 p2 ⟨j, ej, x, hx, q⟩ => by
    subst ej; cases p2
    obtain ⟨u, hu, xs, rfl, p⟩ := r2.obj (app_get m)
    obtain ⟨y, hy, py⟩ := atI_paired p hx
    exact ⟨D, xs, j, y, rfl, rfl, SqL.of hu, hy, c F2 y H2 x s2 r2 py q⟩
theorem dv_ixO' {i n : Nat} {D : Addr} {ss : List Sv} {k : Sv → Prop} (h : G[i]? = some (.ptr D)) (m : O[n]? = some (D, .lst ss)) (h2 : Dx C G O tb (isI fun j => ∃ s, atI ss j = some s ∧ k s)) : Dv C G O (tOp (rIx C.K) (tVar i) tb) k := fun X F H σ Q r c => by
  obtain ⟨v, a, b⟩ := r.get h (fun z => by cases z)
  cases b
  refine ⟨_, a, ?_⟩
  exact h2 X F H σ _ r fun F2 w H2 d2 s2 r2 p2 ⟨j, ej, x, hx, q⟩ => by
    subst ej; cases p2
    obtain ⟨u, hu, xs, rfl, p⟩ := r2.obj (app_get m)
    obtain ⟨y, hy, py⟩ := atI_paired p hx
    exact .inl ⟨D, xs, j, y, rfl, rfl, SqL.of hu, hy, c F2 y H2 x s2 r2 py q⟩
/-! ### slices, sums of tuples -/
theorem do_no {k : Option Int → Prop} (q : k none) : Do C G O tNoPart k := fun X F H σ Q r c => c F none H (Gw.refl) r q
theorem do_some {k : Option Int → Prop} (h : Dx C G O t (isI fun i => k (some i))) : Do C G O (tPart t) k := fun X F H σ Q r c => h X F H σ _ r fun F1 v H1 d s1 r1 p1 ⟨i, e, q⟩ => by
  subst e; cases p1
  exact ⟨i, rfl, c F1 _ H1 s1 r1 q⟩
def cutD {α : Type} (xs : List α) (lo hi : Option Int) : List α := (xs.drop (HT.sIx xs.length 0 lo)).take (HT.sIx xs.length xs.length hi - HT.sIx xs.length 0 lo)
theorem dpAll_take {K : PySem.W.Frag} {F : Hp} : ∀ {vs : List V} {ds : List PyData} (n : Nat), DpAll K F vs ds → DpAll K F (vs.take n) (ds.take n)
  | _, _, 0, _ => by rw [List.take_zero, List.take_zero]; exact .nil
  | _, _, n + 1, .nil => by rw [List.take_nil, List.take_nil]; exact .nil
  | _, _, n + 1, .cons a b => .cons a (dpAll_take n b)
theorem dpAll_drop {K : PySem.W.Frag} {F : Hp} : ∀ {vs : List V} {ds : List PyData} (n : Nat), DpAll K F vs ds → DpAll K F (vs.drop n) (ds.drop n)
  | _, _, 0, h => h
  | _, _, n + 1, .nil => by rw [List.drop_nil, List.drop_nil]; exact .nil
  | _, _, n + 1, .cons a b => dpAll_drop n b
theorem dpAll_cut {K : PySem.W.Frag} {F : Hp} {vs : List V} {ds : List PyData} {lo hi : Option Int} (h : DpAll K F vs ds) : DpAll K F (cutV vs lo hi) (cutD ds lo hi) := by
  unfold cutV cutD
  rw [dpAll_len h]
  exact dpAll_take _ (dpAll_drop _ h)
theorem dx_slT {tl th : TO} (h : Dx C G O t (isT fun ds => Do C G O tl fun lo => Do C G O th fun hi => k (.tuple (cutD ds lo hi)))) : Dx C G O (tSl (Ln.rSlS C.K) t tl th) k := fun X F H σ Q r c =>
  h X F H σ _ r fun F1 v H1 d s1 r1 p1 ⟨ds, e, h2⟩ => by
    subst e
    exact h2 X F1 H1 σ _ r1 fun F2 lo H2 s2 r2 h3 => h3 X F2 H2 σ _ r2 fun F3 hi H3 s3 r3 q => by
      cases Dp.mono (s2.trans s3).sf _ _ p1 with
      | @tup a xs _ ht ha =>
        refine ⟨a, xs, rfl, Same.tup r3.q.sub ht, fun p H4 s4 ht4 => ?_⟩
        obtain ⟨r4, tp⟩ := r3.ext s4
        have g := r3.gs s4 _ (grow_same F3 H3 H4)
        exact c _ _ _ _ (((s1.trans s2).trans s3).trans g) r4 (.tup (sqT_rd tp ht4) (DpAll.mono g.sf _ _ (dpAll_cut ha))) q
theorem dx_catT (h : Dx C G O ta (isT fun ds => Dx C G O tb (isT fun es => szk (ds.length + es.length) (k (.tuple (ds ++ es)))))) : Dx C G O (tOp (Ln.rCatS C.K) ta tb) k := fun X F H σ Q r c =>
  h X F H σ _ r fun F1 v H1 d s1 r1 p1 ⟨ds, e, h2⟩ => by
    subst e
    exact h2 X F1 H1 σ _ r1 fun F2 w H2 d2 s2 r2 p2 ⟨es, e, hz, q⟩ => by
      subst e
      cases Dp.mono s2.sf _ _ p1 with
      | @tup a xs _ ht ha => cases p2 with
        | @tup b ys _ ht' ha' =>
          refine ⟨a, b, xs, ys, rfl, rfl, Same.tup r2.q.sub ht, Same.tup r2.q.sub ht', by rw [dpAll_len ha, dpAll_len ha']; exact hz, fun p H4 s4 ht4 => ?_⟩
          obtain ⟨r4, tp⟩ := r2.ext s4
          have g := r2.gs s4 _ (grow_same F2 H2 H4)
          exact c _ _ _ _ ((s1.trans s2).trans g) r4 (.tup (sqT_rd tp ht4) (DpAll.mono g.sf _ _ (dpAll_app ha ha'))) q
end
end Dl
set_option Elab.async false
set_option autoImplicit false
set_option linter.all false
set_option maxRecDepth 100000
set_option maxHeartbeats 4000000
namespace Dl
open PySem PySem.Spec PyProof.Rows L2 Ln
/-! ## what is walked -/
structure DWk (C : Cy) (F : Hp) (J : It) (ds : List PyData) : Prop where
  ex : ∃ (Gd : Hp → Prop) (Y : Nat → Hp → V → Hp → Prop), L2.Walk J ds.length Gd Y ∧ (∀ F' H', Same F F' → Same F' H' → Gd H') ∧
    ∀ i F' H' x H'', i < ds.length → Same F F' → Same F' H' → Y i H' x H'' → ∃ d, ds[i]? = some d ∧ ((H'' = H' ∧ Dp C.K F' x d) ∨ ∃ T xs es, x = V.ref T ∧ H' T = none ∧ H'' = upd H' T (.tup xs) ∧ DpAll C.K F' xs es ∧ d = .tuple es)
def Dw (C : Cy) (G : List Sv) (O : Ow) (wi : TI) (k : List PyData → Prop) : Prop := ∀ X F H σ (R : It → Hp → Prop), Rp C F H σ G (O ++ X) → (∀ F' H' J ds, Gw (O ++ X) F H F' H' → Rp C F' H' σ G (O ++ X) → DWk C F' J ds → k ds → R J H') → wi σ H R
theorem DWk.mono {C : Cy} {F F' : Hp} {J : It} {ds : List PyData} (h : DWk C F J ds) (s : Same F F') : DWk C F' J ds := by
  obtain ⟨Gd, Y, w, a, b⟩ := h.ex
  exact ⟨Gd, Y, w, fun F2 H2 s2 => a F2 H2 (s.trans s2), fun i F2 H2 x H3 hi s2 => b i F2 H2 x H3 hi (s.trans s2)⟩
/-- a turn's item -/
theorem Rp.item {C : Cy} {F H : Hp} {σ : L2.St} {G : List Sv} {O : Ow} {x : V} {H' : Hp} {d : PyData} (r : Rp C F H σ G O) (h : (H' = H ∧ Dp C.K F x d) ∨ ∃ T xs es, x = V.ref T ∧ H T = none ∧ H' = upd H T (.tup xs) ∧ DpAll C.K F xs es ∧ d = .tuple es) :
    ∃ F', Gw O F H F' H' ∧ Rp C F' H' σ G O ∧ Dp C.K F' x d := by
  rcases h with ⟨rfl, h⟩ | ⟨T, xs, es, rfl, n, rfl, h, rfl⟩
  · exact ⟨F, Gw.refl, r, h⟩
  · have s := r.gm (o := .tup xs) n
    exact ⟨_, s, r.newF n, .tup (SqT.of upd_same) (DpAll.mono s.sf _ _ h)⟩
section
variable {C : Cy} {G : List Sv} {O : Ow} {t : TE} {ta : TA} {k : List PyData → Prop}
theorem dw_list {K' : PySem.W.Frag} (h : Dx C G O t fun a => ∃ ds, a = .list ds ∧ k ds) (hK : K' = C.K := by with_unfolding_all rfl) : Dw C G O (iList K' t) k := fun X F H σ R r c => by
  subst hK
  exact
  h X F H σ _ r fun F1 v H1 d s1 r1 p1 ⟨ds, e, q⟩ => by
    subst e
    cases p1 with
    | @lst a xs _ hs ha =>
      refine ⟨a, rfl, ⟨xs, r1.q.sub.seq hs⟩, c F1 H1 _ ds s1 r1 ⟨_, YAt xs, ?_, fun F2 H2 s2 u2 => u2.seq (s2.seq hs), ?_⟩ q⟩
      · have w := walk_list (K := C.K) (a := a) (xs := xs)
        rw [dpAll_len ha] at w
        exact w
      · rintro i F2 H2 x H3 hi s2 u2 ⟨rfl, hx⟩
        obtain ⟨d, hd, p⟩ := dpAll_get ha hx
        exact ⟨d, hd, .inl ⟨rfl, Dp.mono s2 _ _ p⟩⟩
theorem dw_tup {K' : PySem.W.Frag} (h : Dx C G O t (isT k)) (hK : K' = C.K := by with_unfolding_all rfl) : Dw C G O (iTup K' t) k := fun X F H σ R r c => by
  subst hK
  exact
  h X F H σ _ r fun F1 v H1 d s1 r1 p1 ⟨ds, e, q⟩ => by
    subst e
    cases p1 with
    | @tup a xs _ hs ha =>
      refine ⟨a, rfl, ⟨xs, Same.tup r1.q.sub hs⟩, c F1 H1 _ ds s1 r1 ⟨_, YAt xs, ?_, fun F2 H2 s2 u2 => Same.tup u2 (Same.tup s2 hs), ?_⟩ q⟩
      · have w := walk_tup (K := C.K) (a := a) (xs := xs)
        rw [dpAll_len ha] at w
        exact w
      · rintro i F2 H2 x H3 hi s2 u2 ⟨rfl, hx⟩
        obtain ⟨d, hd, p⟩ := dpAll_get ha hx
        exact ⟨d, hd, .inl ⟨rfl, Dp.mono s2 _ _ p⟩⟩
theorem mapI_get {n : Nat} {f : Nat → PyData} {i : Nat} (h : i < n) : ((List.range n).map f)[i]? = some (f i) := by
  rw [List.getElem?_map, List.getElem?_range h]; rfl
theorem dw_rng1 (h : Dd C G O ta fun ds => ∃ j : Int, ds = [.int j] ∧ -(2 ^ 62) ≤ j ∧ j < 2 ^ 62 ∧ k ((List.range j.toNat).map fun i : Nat => PyData.int (i : Int))) : Dw C G O (iRng1 ta) k := fun X F H σ R r c =>
  h X F H σ _ r fun F1 vs H1 ds s1 r1 p1 ⟨j, e, b1, b2, q⟩ => by
    subst e
    cases p1 with | cons p1 p2 => cases p2; cases p1; exact ⟨j, rfl, b1, b2, c F1 H1 _ _ s1 r1 ⟨_, _, by rw [List.length_map, List.length_range]; exact walk_range (lo := 0) (n := j.toNat), fun _ _ _ _ => trivial, fun i F2 H2 x H3 hi s2 u2 hy => by
      obtain ⟨rfl, rfl⟩ := hy
      rw [List.length_map, List.length_range] at hi
      exact ⟨_, mapI_get hi, .inl ⟨rfl, by show Dp C.K F2 (V.int (0 + (i : Int))) _; rw [Int.zero_add]; exact .int _⟩⟩⟩ q⟩
theorem dw_rng2 (h : Dd C G O ta fun ds => ∃ i j : Int, ds = [.int i, .int j] ∧ (-(2 ^ 62) ≤ i ∧ i < 2 ^ 62 ∧ -(2 ^ 62) ≤ j ∧ j < 2 ^ 62) ∧ k ((List.range (j - i).toNat).map fun n : Nat => PyData.int (i + (n : Int)))) : Dw C G O (iRng2 ta) k := fun X F H σ R r c =>
  h X F H σ _ r fun F1 vs H1 ds s1 r1 p1 ⟨i, j, e, b, q⟩ => by
    subst e
    cases p1 with | cons p1 p2 => cases p2 with | cons p2 p3 => cases p3; cases p1; cases p2; exact ⟨i, j, rfl, b, c F1 H1 _ _ s1 r1 ⟨_, _, by rw [List.length_map, List.length_range]; exact walk_range (lo := i) (n := (j - i).toNat), fun _ _ _ _ => trivial, fun n F2 H2 x H3 hi s2 u2 hy => by
      obtain ⟨rfl, rfl⟩ := hy
      rw [List.length_map, List.length_range] at hi
      exact ⟨_, mapI_get hi, .inl ⟨rfl, .int _⟩⟩⟩ q⟩
def enumD (ds : List PyData) : List PyData := ds.mapIdx fun i d => .tuple [.int (i : Int), d]
theorem dw_enumT {K' : PySem.W.Frag} (h : Dd C G O ta fun ds => ∃ es, ds = [.tuple es] ∧ k (enumD es)) (hK : K' = C.K := by with_unfolding_all rfl) : Dw C G O (Ln.iEnumT K' ta) k := fun X F H σ R r c => by
  subst hK
  exact
  h X F H σ _ r fun F1 vs H1 ds s1 r1 p1 ⟨es, e, q⟩ => by
    subst e
    cases p1 with
    | cons p1 p2 =>
      cases p2
      cases p1 with
      | @tup a xs _ hs ha =>
        refine ⟨a, xs, rfl, Same.tup r1.q.sub hs, c F1 H1 _ _ s1 r1 ⟨_, YPair (fun i => some (.int (i : Nat))) (fun i => xs[i]?), ?_, fun F2 H2 s2 u2 => Same.tup u2 (Same.tup s2 hs), ?_⟩ q⟩
        · have w := Ln.walk_enumT (K := C.K) (a := a) (xs := xs)
          rw [dpAll_len ha] at w
          unfold enumD
          rw [List.length_mapIdx]
          exact w
        · rintro i F2 H2 x H3 hi s2 u2 ⟨T, y, z, rfl, n, rfl, e1, e2⟩
          obtain ⟨d, hd, p⟩ := dpAll_get ha e2
          cases e1
          refine ⟨.tuple [.int (i : Int), d], by unfold enumD; rw [List.getElem?_mapIdx, hd]; rfl, .inr ⟨T, _, [.int (i : Int), d], rfl, n, rfl, .cons (.int _) (.cons (Dp.mono s2 _ _ p) .nil), rfl⟩⟩
theorem dw_enum {K' : PySem.W.Frag} (h : Dd C G O ta fun ds => ∃ es, ds = [.list es] ∧ k (enumD es)) (hK : K' = C.K := by with_unfolding_all rfl) : Dw C G O (iEnum K' ta) k := fun X F H σ R r c => by
  subst hK
  exact
  h X F H σ _ r fun F1 vs H1 ds s1 r1 p1 ⟨es, e, q⟩ => by
    subst e
    cases p1 with
    | cons p1 p2 =>
      cases p2
      cases p1 with
      | @lst a xs _ hs ha =>
        refine ⟨a, xs, rfl, r1.q.sub.seq hs, c F1 H1 _ _ s1 r1 ⟨_, YPair (fun i => some (.int (i : Nat))) (fun i => xs[i]?), ?_, fun F2 H2 s2 u2 => u2.seq (s2.seq hs), ?_⟩ q⟩
        · have w := walk_enum (K := C.K) (a := a) (xs := xs)
          rw [dpAll_len ha] at w
          unfold enumD
          rw [List.length_mapIdx]
          exact w
        · rintro i F2 H2 x H3 hi s2 u2 ⟨T, y, z, rfl, n, rfl, e1, e2⟩
          obtain ⟨d, hd, p⟩ := dpAll_get ha e2
          cases e1
          refine ⟨.tuple [.int (i : Int), d], by unfold enumD; rw [List.getElem?_mapIdx, hd]; rfl, .inr ⟨T, _, [.int (i : Int), d], rfl, n, rfl, .cons (.int _) (.cons (Dp.mono s2 _ _ p) .nil), rfl⟩⟩
end
/-! ## targets -/
def Dg (C : Cy) (G : List Sv) (O : Ow) (vz : Option (List Nat)) (g : TG) (d : PyData) (k : List Sv → Prop) : Prop :=
  ∀ X F H σ v Q, Rp C F H σ G (O ++ X) → Dp C.K F v d → (∀ σ' G', Rp C F H σ' G' (O ++ X) → (∀ l : List Nat, vz = some l → wipe σ' l = wipe σ l) → k G' → Q σ' H) → g v σ H Q
def Dgs (C : Cy) (G : List Sv) (O : Ow) (vz : Option (List Nat)) (g : TGs) (ds : List PyData) (k : List Sv → Prop) : Prop :=
  ∀ X F H σ vs Q, Rp C F H σ G (O ++ X) → DpAll C.K F vs ds → (∀ σ' G', Rp C F H σ' G' (O ++ X) → (∀ l : List Nat, vz = some l → wipe σ' l = wipe σ l) → k G' → Q σ' H) → g vs σ H Q
theorem wipe_get (σ : L2.St) : ∀ (vs : List Nat) (i : Nat), (wipe σ vs)[i]? = if i ∈ vs then (if i < σ.length then some none else none) else σ[i]?
  | [], i => by simp [wipe]
  | v :: vs, i => by
    show ((wipe σ vs).set v none)[i]? = _
    by_cases e : v = i
    · subst e
      by_cases hl : v < σ.length
      · rw [List.getElem?_set_self (by rw [wipe_length]; exact hl), if_pos List.mem_cons_self, if_pos hl]
      · rw [List.getElem?_eq_none (by rw [List.length_set, wipe_length]; omega), if_pos List.mem_cons_self, if_neg hl]
    · rw [List.getElem?_set_ne e, wipe_get σ vs i]
      by_cases m : i ∈ vs
      · rw [if_pos m, if_pos (List.mem_cons_of_mem _ m)]
      · rw [if_neg m, if_neg (fun z => by
          rcases List.mem_cons.mp z with z | z
          · exact e z.symm
          · exact m z)]
theorem wipe_set {σ : L2.St} {vs : List Nat} {j : Nat} {x : Option V} (m : j ∈ vs) : wipe (σ.set j x) vs = wipe σ vs := by
  refine List.ext_getElem? fun i => ?_
  rw [wipe_get, wipe_get]
  by_cases e : i ∈ vs
  · rw [if_pos e, if_pos e, List.length_set]
  · rw [if_neg e, if_neg e, List.getElem?_set_ne (fun z => e (by rw [← z]; exact m))]
section
variable {C : Cy} {G : List Sv} {O : Ow}
theorem dg_name {i : Nat} {d : PyData} {k : List Sv → Prop} (q : k (G.set i (.dat d))) : Dg C G O none (gName i) d k := fun X F H σ v Q r p c =>
  c _ _ (r.set (s := .dat d) p) (fun _ h => by cases h) q
theorem dg_nameS {l : List Nat} {i : Nat} {d : PyData} {k : List Sv → Prop} (q : k (G.set i (.dat d))) (m : i ∈ l := by decide) : Dg C G O (some l) (gName i) d k := fun X F H σ v Q r p c =>
  c _ _ (r.set (s := .dat d) p) (fun _ h => by cases h; exact wipe_set m) q
variable {vz : Option (List Nat)}
theorem dgs_nil {k : List Sv → Prop} (q : k G) : Dgs C G O vz gNil [] k := fun X F H σ vs Q r p c => by
  cases p
  exact ⟨rfl, c σ G r (fun _ _ => rfl) q⟩
theorem dgs_cons {g : TG} {gs : TGs} {d : PyData} {ds : List PyData} {k : List Sv → Prop} (h : Dg C G O vz g d fun G' => Dgs C G' O vz gs ds k) : Dgs C G O vz (gCons g gs) (d :: ds) k := fun X F H σ vs Q r p c => by
  cases p with
  | cons p ps =>
    refine ⟨_, _, rfl, h X F H σ _ _ r p fun σ1 G1 r1 w1 h1 => h1 X F H σ1 _ _ r1 ps fun σ2 G2 r2 w2 q => c σ2 G2 r2 (fun l hm => ?_) q⟩
    rw [w2 l hm, w1 l hm]
theorem dg_tup {K' : PySem.W.Frag} {n : Nat} {gs : TGs} {ds : List PyData} {k : List Sv → Prop} (h : Dgs C G O vz gs ds k) (hl : ds.length = n := by with_unfolding_all rfl) (hK : K' = C.K := by with_unfolding_all rfl) : Dg C G O vz (gTup K' n gs) (.tuple ds) k := fun X F H σ v Q r p c => by
  subst hK
  cases p with
  | @tup a xs _ hs ha => exact ⟨a, xs, rfl, Same.tup r.q.sub hs, by rw [dpAll_len ha]; exact hl, h X F H σ xs Q r ha c⟩
end
/-! ## comprehensions -/
def wipeG (G : List Sv) : List Nat → List Sv
  | [] => G
  | v :: vs => (wipeG G vs).set v .any
theorem Rp.clr {C : Cy} {F H : Hp} {σ : L2.St} {G : List Sv} {O : Ow} (h : Rp C F H σ G O) (i : Nat) : Rp C F H (σ.set i none) (G.set i .any) O := by
  refine ⟨h.q, by rw [List.length_set, List.length_set]; exact h.len, ?_, h.ow, h.nd⟩
  intro j s' e
  by_cases z : i = j
  · subst z
    have hl : i < G.length := by
      have := (List.getElem?_eq_some_iff.mp e).1
      rwa [List.length_set] at this
    rw [List.getElem?_set_self hl] at e
    cases e
    exact ⟨none, List.getElem?_set_self (by rw [h.len]; exact hl), trivial⟩
  · rw [List.getElem?_set_ne z] at e
    obtain ⟨ov, a, b⟩ := h.sl j s' e
    exact ⟨ov, by rw [List.getElem?_set_ne z]; exact a, b⟩
theorem Rp.wipe {C : Cy} {F H : Hp} {σ : L2.St} {G : List Sv} {O : Ow} (h : Rp C F H σ G O) : ∀ vs : List Nat, Rp C F H (L2.wipe σ vs) (wipeG G vs) O
  | [] => h
  | v :: vs => (Rp.wipe h vs).clr v
section
variable {C : Cy} {G : List Sv} {O : Ow} {wi : TI} {g : TG} {tt : TT} {te : TE} {vs : List Nat}
theorem Rp.dis {C : Cy} {F H : Hp} {σ : L2.St} {G : List Sv} {O : Ow} {D : Addr} {ob ob' : Ob} (r : Rp C F H σ G ((D, ob) :: O)) (m : (D, ob') ∈ O) : False := by
  have := r.nd
  rw [List.map_cons, List.nodup_cons] at this
  exact this.1 (List.mem_map.mpr ⟨_, m, rfl⟩)
theorem mid (O X : Ow) {y : Addr × Ob} : ∀ x ∈ O ++ X, x ∈ O ++ (y :: X) := fun x m => by
  rcases List.mem_append.mp m with m | m
  · exact List.mem_append_left _ m
  · exact List.mem_append_right _ (List.mem_cons_of_mem _ m)
theorem dl_lc {k : List Sv → Prop} (h : Dw C G O wi fun ds => ds.length ≤ sizeLine ∧ ∃ R : Nat → List Sv → Prop, R 0 [] ∧ (∀ i d acc, ds[i]? = some d → R i acc → Dg C (wipeG G vs) O (some vs) g d fun G' => Dt C G' O tt fun b => if b = true then Dv C G' O te fun s => R (i + 1) (acc ++ [s]) else R (i + 1) acc) ∧ ∀ ss, R ds.length ss → k ss) :
    Dl C G O (tLc wi g tt te vs) k := fun X F H σ Q r c =>
  h X F H σ _ r fun F1 H1 J ds s1 r1 wk ⟨hz, R, h0, hs, hk⟩ => by
    intro D nD
    obtain ⟨Gd, Y, w, hG, hY⟩ := wk.ex
    have hD0 := r1.q.h0 nD
    refine lc_it w (fun i H' => ∃ F' acc, Gw (O ++ X) F1 H1 F' H' ∧ Rp C F' H' (L2.wipe σ vs) (wipeG G vs) ((D, .lst acc) :: (O ++ X)) ∧ Rp C F' H' σ G ((D, .lst acc) :: (O ++ X)) ∧ acc.length ≤ i ∧ R i acc) ?_ ?_ ?_ ?_
    · have r2 := r1.newO (p := D) (u := .lst []) (ob := .lst []) nD ⟨[], rfl, .nil⟩
      exact ⟨F1, [], r1.gn nD, r2.wipe vs, r2, Nat.zero_le _, h0⟩
    · rintro i H' hi ⟨F', acc, s', r', _, _⟩
      exact hG F' H' s'.sf r'.q.sub
    · rintro i x Hx H' hi ⟨F', acc, s', rw', r', hl, hR⟩ y
      obtain ⟨d, hd, hx⟩ := hY i F' Hx x H' hi s'.sf r'.q.sub y
      obtain ⟨F2, s2, r2, p2⟩ := rw'.item hx
      have r2' : Rp C F2 H' σ G ((D, .lst acc) :: (O ++ X)) := by
        obtain ⟨F3, s3, r3, p3⟩ := r'.item hx
        refine ⟨r2.q, r'.len, ?_, r2.ow, r2.nd⟩
        intro j s e
        obtain ⟨ov, a, b⟩ := r'.sl j s e
        exact ⟨ov, a, b.mono s2.sf⟩
      have s2 := s2.sub fun x hx => List.mem_cons_of_mem (D, Ob.lst acc) hx
      have perm : Rp C F2 H' (L2.wipe σ vs) (wipeG G vs) (O ++ ((D, .lst acc) :: X)) := by
        refine ⟨r2.q, r2.len, r2.sl, fun D' ob m => r2.ow D' ob ?_, ?_⟩
        · rcases List.mem_append.mp m with m | m
          · exact List.mem_cons_of_mem _ (List.mem_append_left _ m)
          · rcases List.mem_cons.mp m with m | m
            · rw [m]; exact List.mem_cons_self
            · exact List.mem_cons_of_mem _ (List.mem_append_right _ m)
        · have := r2.nd
          rw [List.map_append, List.map_cons]
          rw [List.map_cons, List.map_append] at this
          exact (List.perm_middle.nodup_iff).mpr this
      refine hs i d acc hd hR ((D, .lst acc) :: X) F2 H' (L2.wipe σ vs) x _ perm p2 fun σ2 G2 r3 w3 h3 => ⟨?_, ?_⟩
      · rw [w3 vs rfl]
        refine List.ext_getElem? fun i => ?_
        rw [wipe_get, wipe_get, wipe_length]
        by_cases m : i ∈ vs
        · rw [if_pos m, if_pos m]
        · rw [if_neg m, if_neg m]
      · refine h3 ((D, .lst acc) :: X) F2 H' σ2 _ r3 fun F4 b H4 s4 r4 h4 => ?_
        have back : ∀ {F5 H5 : Hp} {ob : Ob}, Same F2 F5 → Rp C F5 H5 σ2 G2 (O ++ ((D, ob) :: X)) → Rp C F5 H5 (L2.wipe σ vs) (wipeG G vs) ((D, ob) :: (O ++ X)) ∧ Rp C F5 H5 σ G ((D, ob) :: (O ++ X)) := by
          intro F5 H5 ob s5 r5
          have ow : ∀ D' ob', (D', ob') ∈ (D, ob) :: (O ++ X) → (D', ob') ∈ O ++ ((D, ob) :: X) := by
            intro D' ob' m
            rcases List.mem_cons.mp m with m | m
            · rw [m]; exact List.mem_append_right _ List.mem_cons_self
            · rcases List.mem_append.mp m with m | m
              · exact List.mem_append_left _ m
              · exact List.mem_append_right _ (List.mem_cons_of_mem _ m)
          have nd : (((D, ob) :: (O ++ X)).map Prod.fst).Nodup := by
            have := r5.nd
            rw [List.map_append, List.map_cons] at this
            rw [List.map_cons, List.map_append]
            exact (List.perm_middle.nodup_iff).mp this
          have go : ∀ {σ' : L2.St} {G' : List Sv}, Rp C F2 H' σ' G' ((D, .lst acc) :: (O ++ X)) → Rp C F5 H5 σ' G' ((D, ob) :: (O ++ X)) := fun {σ' G'} rr =>
            ⟨r5.q, rr.len, fun j s e => by
              obtain ⟨ov, a, b⟩ := rr.sl j s e
              exact ⟨ov, a, b.mono s5⟩, fun D' ob' m => r5.ow D' ob' (ow D' ob' m), nd⟩
          exact ⟨go r2, go r2'⟩
        cases b
        · refine iteF ?_
          obtain ⟨k1, k2⟩ := back s4.sf r4
          have s4 := s4.sub (mid O X)
          exact ⟨F4, acc, (s'.trans s2).trans s4, k1, k2, Nat.le_succ_of_le hl, by simpa using h4⟩
        · refine iteT ?_
          have h4 : Dv C G2 O te fun s => R (i + 1) (acc ++ [s]) := by simpa using h4
          refine h4 ((D, .lst acc) :: X) F4 H4 σ2 _ r4 fun F5 v H5 s s5 r5 p5 q5 => ?_
          obtain ⟨u, hu, xs, rfl, px⟩ := r5.obj (n := O.length) (by rw [List.getElem?_append_right (Nat.le_refl _), Nat.sub_self]; rfl)
          refine ⟨xs, hu, ?_, ?_⟩
          · rw [Paired.length px]
            omega
          · have r6 := r5.wr (n := O.length) (D := D) (ob := .lst acc) (ob' := .lst (acc ++ [s])) (u := .lst (xs ++ [v])) (by rw [List.getElem?_append_right (Nat.le_refl _), Nat.sub_self]; rfl) ⟨_, rfl, Paired.snoc px p5⟩
            have e : (O ++ (D, Ob.lst acc) :: X).set O.length (D, Ob.lst (acc ++ [s])) = O ++ (D, Ob.lst (acc ++ [s])) :: X := by
              rw [List.set_append_right _ _ (Nat.le_refl _), Nat.sub_self]
              rfl
            rw [e] at r6
            obtain ⟨k1, k2⟩ := back (s4.trans s5).sf r6
            have g6 : Gw (O ++ X) F5 H5 F5 (upd H5 D (.lst (xs ++ [v]))) := ⟨Same.refl _, fun D' ob m => upd_ne (fun z => r'.dis (by rw [← z]; exact m))⟩
            exact ⟨F5, acc ++ [s], (((s'.trans s2).trans (s4.sub (mid O X))).trans (s5.sub (mid O X))).trans g6, k1, k2, by rw [List.length_append, List.length_singleton]; omega, q5⟩
    · rintro H' ⟨F', acc, s', _, r', _, hR⟩
      exact c F' D H' acc (s1.trans s') hD0 r' (hk acc hR)
/-- [e for x in xs]: by a function of the items -/
theorem dl_map {k : List Sv → Prop} (h : Dw C G O wi fun ds => ds.length ≤ sizeLine ∧ ∃ (α : Type) (xs : List α) (g0 : α → PyData) (f : α → Sv), ds = xs.map g0 ∧ (∀ (i : Nat) x, xs[i]? = some x → Dg C (wipeG G vs) O (some vs) g (g0 x) fun G' => Dv C G' O te fun s => s = f x) ∧ k (xs.map f)) :
    Dl C G O (tLc wi g tYes te vs) k := by
  refine dl_lc fun X F H σ R r c => h X F H σ R r fun F' H' J ds s r' w ⟨hz, α, xs, g0, f, e, hs, q⟩ => c F' H' J ds s r' w ⟨hz, fun i acc => acc = (xs.take i).map f, rfl, fun i d acc hd ha => ?_, fun ss e' => ?_⟩
  · subst e ha
    rw [List.getElem?_map] at hd
    obtain ⟨x, hx, rfl⟩ := Option.map_eq_some_iff.mp hd
    refine fun X F H σ v Q r p c => hs i x hx X F H σ v Q r p fun σ' G' r' w' h' => c σ' G' r' w' fun X F H σ Q r c => c F true H Gw.refl r (by
      refine (if_pos rfl).mpr ?_
      exact h'.mono fun s e => by show _ = _; rw [takeS hx, List.map_append, e]; rfl)
  · subst e e'
    rw [List.length_map, List.take_length]
    exact q
/-- [e for x in xs if t] -/
theorem dl_filt {k : List Sv → Prop} (h : Dw C G O wi fun ds => ds.length ≤ sizeLine ∧ ∃ (α : Type) (xs : List α) (g0 : α → PyData) (p : α → Bool) (f : α → Sv), ds = xs.map g0 ∧ (∀ (i : Nat) x, xs[i]? = some x → Dg C (wipeG G vs) O (some vs) g (g0 x) fun G' => Dt C G' O tt fun b => b = p x ∧ (b = true → Dv C G' O te fun s => s = f x)) ∧ k ((xs.filter p).map f)) :
    Dl C G O (tLc wi g tt te vs) k := by
  refine dl_lc fun X F H σ R r c => h X F H σ R r fun F' H' J ds s r' w ⟨hz, α, xs, g0, p, f, e, hs, q⟩ => c F' H' J ds s r' w ⟨hz, fun i acc => acc = ((xs.take i).filter p).map f, rfl, fun i d acc hd ha => ?_, fun ss e' => ?_⟩
  · subst e ha
    rw [List.getElem?_map] at hd
    obtain ⟨x, hx, rfl⟩ := Option.map_eq_some_iff.mp hd
    refine fun X F H σ v Q r pp c => hs i x hx X F H σ v Q r pp fun σ' G' r' w' h' => c σ' G' r' w' (h'.mono fun b ⟨e, hb⟩ => ?_)
    cases b
    · rw [if_neg Bool.false_ne_true]
      show List.map f (List.filter p (List.take i xs)) = List.map f (List.filter p (List.take (i + 1) xs))
      rw [takeS hx, List.filter_append]
      have : [x].filter p = [] := by rw [List.filter_cons, ← e]; rfl
      rw [this, List.append_nil]
    · rw [if_pos rfl]
      have : [x].filter p = [x] := by rw [List.filter_cons, ← e]; rfl
      refine (hb rfl).mono fun s e => ?_
      show List.map f (List.filter p (List.take i xs)) ++ [s] = List.map f (List.filter p (List.take (i + 1) xs))
      rw [takeS hx, List.filter_append, this, List.map_append, e]
      rfl
  · subst e e'
    rw [List.length_map, List.take_length]
    exact q
/-- the same, by the items themselves -/
theorem dl_mapD {k : List Sv → Prop} (h : Dw C G O wi fun ds => ds.length ≤ sizeLine ∧ ∃ f : PyData → Sv, (∀ (i : Nat) d, ds[i]? = some d → Dg C (wipeG G vs) O (some vs) g d fun G' => Dv C G' O te fun s => s = f d) ∧ k (ds.map f)) :
    Dl C G O (tLc wi g tYes te vs) k := dl_map fun X F H σ R r c => h X F H σ R r fun F' H' J ds s r' w ⟨hz, f, hs, q⟩ => c F' H' J ds s r' w ⟨hz, _, ds, id, f, (List.map_id ds).symm, hs, q⟩
theorem dl_filtD {k : List Sv → Prop} (h : Dw C G O wi fun ds => ds.length ≤ sizeLine ∧ ∃ (p : PyData → Bool) (f : PyData → Sv), (∀ (i : Nat) d, ds[i]? = some d → Dg C (wipeG G vs) O (some vs) g d fun G' => Dt C G' O tt fun b => b = p d ∧ (b = true → Dv C G' O te fun s => s = f d)) ∧ k ((ds.filter p).map f)) :
    Dl C G O (tLc wi g tt te vs) k := dl_filt fun X F H σ R r c => h X F H σ R r fun F' H' J ds s r' w ⟨hz, p, f, hs, q⟩ => c F' H' J ds s r' w ⟨hz, _, ds, id, p, f, (List.map_id ds).symm, hs, q⟩
end
end Dl
set_option Elab.async false
set_option autoImplicit false
set_option linter.all false
set_option maxRecDepth 100000
set_option maxHeartbeats 4000000
namespace Dl
open PySem PySem.Spec PyProof.Rows L2 Ln
/-! ## statements -/
/-- what a def gives back: a value, or a new list -/
inductive Rs where
  | v (s : Sv)
  | l (ss : List Sv)
structure En where
  nx : List Sv → Ow → Prop
  rt : Rs → Prop
  bk : List Sv → Ow → Prop := fun _ _ => False
  ct : List Sv → Ow → Prop := fun _ _ => False
/-- what is to be shown where a value is handed back -/
structure RtOk (C : Cy) (F : Hp) (rt : Rs → Prop) (q : VK) : Prop where
  v : ∀ F' v H' s, Same F F' → Rq C F' H' → SvOk C.K F' v s → rt (.v s) → q v H'
  l : ∀ F' D H' ss xs, Same F F' → Rq C F' H' → C.H0 D = none → F' D = none → D ∉ C.A → H' D = some (.lst xs) → Paired (SvOk C.K F') xs ss → rt (.l ss) → q (.ref D) H'
def NxOk (C : Cy) (F : Hp) (X : Ow) (nx : List Sv → Ow → Prop) (q : L2.St → Hp → Prop) : Prop := ∀ F' σ' H' G' O', Same F F' → Rp C F' H' σ' G' (O' ++ X) → nx G' O' → q σ' H'
def Ds (C : Cy) (G : List Sv) (O : Ow) (t : TS) (E : En) : Prop := ∀ X F H σ (D : Ends), Rp C F H σ G (O ++ X) → NxOk C F X E.nx D.nx → RtOk C F E.rt D.rt → NxOk C F X E.bk D.bk → NxOk C F X E.ct D.ct → t D σ H
section
variable {C : Cy} {G : List Sv} {O : Ow} {t u : TS} {te ta tb : TE} {E : En} {F F' : Hp} {X : Ow}
theorem NxOk.mono {nx : List Sv → Ow → Prop} {q : L2.St → Hp → Prop} (h : NxOk C F X nx q) (s : Same F F') : NxOk C F' X nx q := fun F2 σ H G O s2 r p => h F2 σ H G O (s.trans s2) r p
theorem RtOk.mono {rt : Rs → Prop} {q : VK} (h : RtOk C F rt q) (s : Same F F') : RtOk C F' rt q :=
  ⟨fun F2 v H s' s2 => h.v F2 v H s' (s.trans s2), fun F2 D H ss xs s2 => h.l F2 D H ss xs (s.trans s2)⟩
theorem ds_seq (h : Ds C G O t { E with nx := fun G' O' => Ds C G' O' u E }) : Ds C G O (tSeq t u) E := fun X F H σ D r n1 n2 n3 n4 =>
  h X F H σ { D with nx := u D } r (fun F2 σ2 H2 G2 O2 s2 r2 h2 => h2 X F2 H2 σ2 D r2 (n1.mono s2) (n2.mono s2) (n3.mono s2) (n4.mono s2)) n2 n3 n4
theorem ds_set {i : Nat} (h : Dx C G O te fun d => E.nx (G.set i (.dat d)) O) : Ds C G O (tAsg te (gName i)) E := fun X F H σ D r n1 _ _ _ =>
  h X F H σ _ r fun F1 v H1 d s1 r1 p1 q => n1 F1 _ H1 _ O s1.sf (r1.set (s := .dat d) p1) q
theorem ds_setV {i : Nat} (h : Dv C G O te fun s => E.nx (G.set i s) O) : Ds C G O (tAsg te (gName i)) E := fun X F H σ D r n1 _ _ _ =>
  h X F H σ _ r fun F1 v H1 d s1 r1 p1 q => n1 F1 _ H1 _ O s1.sf (r1.set p1) q
theorem ds_setL {i : Nat} (h : Dl C G O te fun ss => ∀ D, C.H0 D = none → E.nx (G.set i (.ptr D)) ((D, .lst ss) :: O)) : Ds C G O (tAsg te (gName i)) E := fun X F H σ D r n1 _ _ _ =>
  h X F H σ _ r fun F1 v H1 d s1 h0 r1 q => n1 F1 _ H1 _ _ s1.sf (r1.set (s := .ptr v) rfl) (q v h0)
theorem ds_asg {g : TG} (h : Dx C G O te fun d => Dg C G O none g d fun G' => E.nx G' O) : Ds C G O (tAsg te g) E := fun X F H σ D r n1 _ _ _ =>
  h X F H σ _ r fun F1 v H1 d s1 r1 p1 q => q X F1 H1 σ v _ r1 p1 fun σ' G' r' _ h' => n1 F1 σ' H1 G' O s1.sf r' h'
theorem ds_if {c : TT} (h : Dt C G O c fun b => if b = true then Ds C G O t E else Ds C G O u E) : Ds C G O (tIfS c t u) E := fun X F H σ D r n1 n2 n3 n4 =>
  h X F H σ _ r fun F1 b H1 s1 r1 q => by
    cases b
    · refine iteF ?_
      have q : Ds C G O u E := by simpa using q
      exact q X F1 H1 σ D r1 (n1.mono s1.sf) (n2.mono s1.sf) (n3.mono s1.sf) (n4.mono s1.sf)
    · refine iteT ?_
      have q : Ds C G O t E := by simpa using q
      exact q X F1 H1 σ D r1 (n1.mono s1.sf) (n2.mono s1.sf) (n3.mono s1.sf) (n4.mono s1.sf)
theorem ds_ret (h : Dv C G O te fun s => E.rt (.v s)) : Ds C G O (tRet te) E := fun X F H σ D r _ n2 _ _ =>
  h X F H σ _ r fun F1 v H1 d s1 r1 p1 q => n2.v F1 v H1 d s1.sf r1.q p1 q
theorem ds_retD (h : Dx C G O te fun d => E.rt (.v (.dat d))) : Ds C G O (tRet te) E := ds_ret (dv_dx h)
theorem ds_retL (h : Dl C G O te fun ss => E.rt (.l ss)) : Ds C G O (tRet te) E := fun X F H σ D r _ n2 _ _ =>
  h X F H σ _ r fun F1 v H1 ss s1 h0 r1 q => by
    obtain ⟨a, b, c, w, e, xs, rfl, p⟩ := r1.ow v (.lst ss) List.mem_cons_self
    exact n2.l F1 v H1 ss xs s1.sf r1.q h0 b c e p q
theorem ds_retO {i n : Nat} {D : Addr} {ss : List Sv} (hG : G[i]? = some (.ptr D)) (hO : O[n]? = some (D, .lst ss)) (h0 : C.H0 D = none) (q : E.rt (.l ss)) : Ds C G O (tRet (tVar i)) E := fun X F H σ D' r _ n2 _ _ => by
  obtain ⟨v, a, b⟩ := r.get hG (fun z => by cases z)
  cases b
  obtain ⟨a', b', c', w, e, xs, rfl, p⟩ := r.ow D (.lst ss) (List.mem_of_getElem? (app_get hO))
  exact ⟨_, a, n2.l F D H ss xs (Same.refl F) r.q h0 b' c' e p q⟩
theorem ds_retN (h : E.rt (.v (.dat .none))) : Ds C G O tRetN E := fun X F H σ D r _ n2 _ _ => n2.v F .non H (.dat .none) (Same.refl F) r.q .non h
theorem ds_pass (h : E.nx G O) : Ds C G O tNext E := fun X F H σ D r n1 _ _ _ => n1 F σ H G O (Same.refl F) r h
theorem ds_break (h : E.bk G O) : Ds C G O tBreak E := fun X F H σ D r _ _ n3 _ => n3 F σ H G O (Same.refl F) r h
theorem ds_cont (h : E.ct G O) : Ds C G O tCont E := fun X F H σ D r _ _ _ n4 => n4 F σ H G O (Same.refl F) r h
theorem ds_drop (h : Dv C G O te fun _ => E.nx G O) : Ds C G O (tDrop te) E := fun X F H σ D r n1 _ _ _ =>
  h X F H σ _ r fun F1 v H1 d s1 r1 p1 q => n1 F1 σ H1 G O s1.sf r1 q
/-- what is frozen from here on -/
theorem ds_frz {n i : Nat} {D : Addr} {ds : List PyData} (hO : O[n]? = some (D, .lst (ds.map Sv.dat))) (hG : G[i]? = some (.ptr D)) (h0 : C.H0 D = none) (h : Ds C (G.set i (.dat (.list ds))) (O.eraseIdx n) t E) : Ds C G O t E := fun X F H σ D' r n1 n2 n3 n4 => by
  obtain ⟨F2, w, s2, e, ⟨xs, rfl, p⟩, r2⟩ := r.frz h0 (app_get (X := X) hO)
  have eO : (O ++ X).eraseIdx n = O.eraseIdx n ++ X := List.eraseIdx_append_of_lt_length (List.getElem?_eq_some_iff.mp hO).1 _
  rw [eO] at r2
  obtain ⟨v, a, b⟩ := r2.get hG (fun z => by cases z)
  cases b
  have r3 := r2.set (i := i) (v := .ref D) (s := .dat (.list ds)) (.lst (SqL.of e) (Paired.det p rfl))
  have eσ : σ.set i (some (V.ref D)) = σ := by
    refine List.ext_getElem? fun j => ?_
    by_cases z : i = j
    · subst z
      rw [List.getElem?_set_self (List.getElem?_eq_some_iff.mp a).1, a]
    · rw [List.getElem?_set_ne z]
  rw [eσ] at r3
  exact h X F2 H σ D' r3 (n1.mono s2) (n2.mono s2) (n3.mono s2) (n4.mono s2)
/-- fewer slots are known -/
theorem Rp.forget {H : Hp} {σ : L2.St} {G G' : List Sv} (r : Rp C F H σ G O) (hl : G'.length = G.length) (h : ∀ (i : Nat) s, G'[i]? = some s → s = .any ∨ G[i]? = some s) : Rp C F H σ G' O := by
  refine ⟨r.q, by rw [hl]; exact r.len, fun i s e => ?_, r.ow, r.nd⟩
  rcases h i s e with rfl | e'
  · have : i < σ.length := by
      rw [r.len, ← hl]
      exact (List.getElem?_eq_some_iff.mp e).1
    exact ⟨σ[i], List.getElem?_eq_getElem this, trivial⟩
  · exact r.sl i s e'
/-! ### lists of one's own change -/
theorem ds_append {K' : PySem.W.Frag} {i n : Nat} {D : Addr} {ss : List Sv} (hG : G[i]? = some (.ptr D)) (hO : O[n]? = some (D, .lst ss)) (hz : ss.length < sizeLine) (h : Dv C G O te fun s => E.nx G (O.set n (D, .lst (ss ++ [s])))) (hK : K' = C.K := by with_unfolding_all rfl) : Ds C G O (tDrop (tBM K' "list" rAppend (tVar i) (tCons te tNil))) E := fun X F H σ D' r n1 _ _ _ => by
  subst hK
  obtain ⟨v, a, b⟩ := r.get hG (fun z => by cases z)
  cases b
  obtain ⟨w, e, xs, rfl, p⟩ := r.obj (app_get (X := X) hO)
  refine ⟨_, a, .inl ⟨rfl, xs, SqL.of e⟩, h X F H σ _ r fun F1 v H1 s s1 r1 p1 q => ?_⟩
  obtain ⟨w, e, xs, rfl, p⟩ := r1.obj (app_get (X := X) hO)
  refine ⟨D, xs, v, rfl, rfl, e, by rw [Paired.length p]; exact hz, ?_⟩
  have r2 := r1.wr (app_get (X := X) hO) (ob' := .lst (ss ++ [s])) (u := .lst (xs ++ [v])) ⟨_, rfl, Paired.snoc p p1⟩
  rw [app_set hO] at r2
  exact n1 F1 σ _ G _ s1.sf r2 q
theorem paired_set {α β : Type} {R : α → β → Prop} : ∀ {xs : List α} {ys : List β} (j : Nat) {x : α} {y : β}, Paired R xs ys → R x y → Paired R (xs.set j x) (ys.set j y)
  | _, _, _, _, _, .nil, _ => .nil
  | _, _, 0, _, _, .cons _ t, r => .cons r t
  | _, _, j + 1, _, _, .cons q t, r => .cons q (paired_set j t r)
/-- xs[j] = e -/
theorem ds_setIt {i n : Nat} {D : Addr} {ss : List Sv} (hG : G[i]? = some (.ptr D)) (hO : O[n]? = some (D, .lst ss)) (h : Dv C G O te fun s => Dx C G O tb (isI fun j => ∃ m, ixN ss.length j = some m ∧ E.nx G (O.set n (D, .lst (ss.set m s))))) : Ds C G O (tAsg te (gSub (tVar i) tb rSetL)) E := fun X F H σ D' r n1 _ _ _ =>
  h X F H σ _ r fun F1 v H1 s s1 r1 p1 h2 => by
    obtain ⟨v', a, b⟩ := r1.get hG (fun z => by cases z)
    cases b
    refine ⟨_, a, h2 X F1 H1 σ _ r1 fun F2 w H2 d2 s2 r2 p2 ⟨j, ej, m, hm, q⟩ => ?_⟩
    subst ej; cases p2
    obtain ⟨u, e, xs, rfl, p⟩ := r2.obj (app_get (X := X) hO)
    refine ⟨D, xs, j, m, rfl, rfl, e, by rw [Paired.length p]; exact hm, ?_⟩
    have r3 := r2.wr (app_get (X := X) hO) (ob' := .lst (ss.set m s)) (u := .lst (xs.set m v)) ⟨_, rfl, paired_set m p (p1.mono s2.sf)⟩
    rw [app_set hO] at r3
    exact n1 F2 σ _ G _ (s1.trans s2).sf r3 q
/-- x += e, whole numbers -/
theorem ds_aug {i : Nat} {a : Int} (hG : G[i]? = some (.dat (.int a))) (h : Dx C G O te (isI fun j => E.nx (G.set i (.dat (.int (a + j)))) O)) : Ds C G O (tAug i te rAdd) E := fun X F H σ D' r n1 _ _ _ => by
  obtain ⟨v, e, b⟩ := r.get hG (fun z => by cases z)
  cases b
  refine ⟨_, e, h X F H σ _ r fun F1 w H1 d s1 r1 p1 ⟨j, ej, q⟩ => ?_⟩
  subst ej; cases p1
  exact ⟨a, j, rfl, rfl, n1 F1 _ H1 _ O s1.sf (r1.set (s := .dat (.int (a + j))) (.int _)) q⟩
theorem ds_augS {i : Nat} {a : Int} (hG : G[i]? = some (.dat (.int a))) (h : Dx C G O te (isI fun j => E.nx (G.set i (.dat (.int (a - j)))) O)) : Ds C G O (tAug i te rSub) E := fun X F H σ D' r n1 _ _ _ => by
  obtain ⟨v, e, b⟩ := r.get hG (fun z => by cases z)
  cases b
  refine ⟨_, e, h X F H σ _ r fun F1 w H1 d s1 r1 p1 ⟨j, ej, q⟩ => ?_⟩
  subst ej; cases p1
  exact ⟨a, j, rfl, rfl, n1 F1 _ H1 _ O s1.sf (r1.set (s := .dat (.int (a - j))) (.int _)) q⟩
/-! ### loops -/
theorem ds_for {wi : TI} {g : TG} {tb : TS} (h : Dw C G O wi fun ds => ∃ I : Nat → List Sv → Ow → Prop, I 0 G O ∧ (∀ (i : Nat) d G' O', ds[i]? = some d → I i G' O' → Dg C G' O' none g d fun G2 => Ds C G2 O' tb { nx := I (i + 1), rt := E.rt, bk := E.nx, ct := I (i + 1) }) ∧ ∀ G' O', I ds.length G' O' → E.nx G' O') : Ds C G O (tFor wi g tb) E := fun X F H σ D r n1 n2 _ _ =>
  h X F H σ _ r fun F1 H1 J ds s1 r1 wk ⟨I, h0, hs, hd⟩ => by
    obtain ⟨Gd, Y, w, hG, hY⟩ := wk.ex
    refine for_it w (fun i σ' H' => ∃ F' G' O', Same F1 F' ∧ Rp C F' H' σ' G' (O' ++ X) ∧ I i G' O') ?_ ?_ ?_ ?_
    · exact ⟨F1, G, O, Same.refl _, r1, h0⟩
    · rintro i σ' H' hi ⟨F', G', O', s', r', _⟩
      exact hG F' H' s' r'.q.sub
    · rintro i x σ' Hx H' hi ⟨F', G', O', s', r', hI⟩ y
      obtain ⟨d, hd, hx⟩ := hY i F' Hx x H' hi s' r'.q.sub y
      obtain ⟨F2, s2, r2, p2⟩ := r'.item hx
      refine hs i d G' O' hd hI X F2 H' σ' x _ r2 p2 fun σ2 G2 r3 _ h3 => h3 X F2 H' σ2 _ r3 ?_ (n2.mono ((s1.sf.trans s').trans s2.sf)) (n1.mono ((s1.sf.trans s').trans s2.sf)) ?_
      · exact fun F3 σ3 H3 G3 O3 s3 r3 hI3 => ⟨F3, G3, O3, (s'.trans s2.sf).trans s3, r3, hI3⟩
      · exact fun F3 σ3 H3 G3 O3 s3 r3 hI3 => ⟨F3, G3, O3, (s'.trans s2.sf).trans s3, r3, hI3⟩
    · rintro σ' H' ⟨F', G', O', s', r', hI⟩
      exact n1 F' σ' H' G' O' (s1.sf.trans s') r' (hd G' O' hI)
theorem ds_while {c : TT} {tb : TS} (I : Nat → List Sv → Ow → Prop) (h0 : ∃ m, I m G O) (hs : ∀ m G' O', I m G' O' → Dt C G' O' c fun b => if b = true then Ds C G' O' tb { nx := fun G2 O2 => ∃ m', m' < m ∧ I m' G2 O2, rt := E.rt, bk := E.nx, ct := fun G2 O2 => ∃ m', m' < m ∧ I m' G2 O2 } else E.nx G' O') : Ds C G O (tWhile c tb) E := fun X F H σ D r n1 n2 _ _ => by
  refine ⟨fun m σ' H' => ∃ F' G' O', Same F F' ∧ Rp C F' H' σ' G' (O' ++ X) ∧ I m G' O', ?_, ?_⟩
  · obtain ⟨m, h⟩ := h0
    exact ⟨m, F, G, O, Same.refl _, r, h⟩
  · rintro m σ' H' ⟨F', G', O', s', r', hI⟩
    refine hs m G' O' hI X F' H' σ' _ r' fun F2 b H2 s2 r2 h2 => ?_
    cases b
    · refine iteF ?_
      exact n1 F2 σ' H2 G' O' (s'.trans s2.sf) r2 (by simpa using h2)
    · refine iteT ?_
      have h2 : Ds C G' O' tb { nx := fun G2 O2 => ∃ m', m' < m ∧ I m' G2 O2, rt := E.rt, bk := E.nx, ct := fun G2 O2 => ∃ m', m' < m ∧ I m' G2 O2 } := by simpa using h2
      refine ⟨fun σ3 H3 => ∃ m', m' < m ∧ ∃ F3 G3 O3, Same F F3 ∧ Rp C F3 H3 σ3 G3 (O3 ++ X) ∧ I m' G3 O3, fun σ3 H3 ⟨m', hm, x⟩ => ⟨m', hm, x⟩, ?_⟩
      have s2 := s2.sf
      refine h2 X F2 H2 σ' _ r2 ?_ (n2.mono (s'.trans s2)) (n1.mono (s'.trans s2)) ?_
      · rintro F3 σ3 H3 G3 O3 s3 r3 ⟨m', hm, hI3⟩
        exact ⟨m', hm, F3, G3, O3, (s'.trans s2).trans s3, r3, hI3⟩
      · rintro F3 σ3 H3 G3 O3 s3 r3 ⟨m', hm, hI3⟩
        exact ⟨m', hm, F3, G3, O3, (s'.trans s2).trans s3, r3, hI3⟩
end
/-! ## contracts -/
abbrev Ke := Addr → List (Str × PyData) → Prop
abbrev Wt := List Sv → (Rs → Prop) → Ke → Prop
/-- an error's fields -/
def FsOk (K : PySem.W.Frag) (F : Hp) (fs : List (Str × V)) (es : List (Str × PyData)) : Prop := Paired (fun (p : Str × V) (q : Str × PyData) => p.1 = q.1 ∧ Dp K F p.2 q.2) fs es
/-- what stands behind a call -/
structure Bh (F H F' H' : Hp) : Prop where
  sf : Same F F'
  sub : Same F' H'
  sm : Same H H'
  non : ∀ b, F b = none → H b ≠ none → F' b = none
  tup : ∀ b xs, Rd H' b (.tup xs) → Rd F' b (.tup xs)
  lk : ∀ b o u, IsDk u → F' b = some (.frz o u) → F b = some (.frz o u)
structure SpP (K : PySem.W.Frag) (n : Nat) (W : Wt) (vs : List V) (H : Hp) (Q : VK) (E : XK) : Prop where
  ex : vs.length = n ∧ ∃ (F : Hp) (as : List Sv) (k : Rs → Prop) (ke : Ke), Same F H ∧ (∀ b xs, Rd H b (.tup xs) → Rd F b (.tup xs)) ∧ Paired (SvOk K F) vs as ∧ W as k ke ∧
    (∀ F' v H' s, Bh F H F' H' → SvOk K F' v s → k (.v s) → Q v H') ∧
    (∀ F' D H' xs ss, Bh F H F' H' → H D = none → F' D = none → H' D = some (.lst xs) → Paired (SvOk K F') xs ss → k (.l ss) → Q (.ref D) H') ∧
    (∀ F' cls dx H' fs es, Bh F H F' H' → H dx = none → F' dx = some (.xd fs) → FsOk K F' fs es → ke cls es → E (.ref cls) (some dx) H')
def spP (K : PySem.W.Frag) (n : Nat) (W : Wt) : Sp := fun vs H Q E => SpP K n W vs H Q E
/-- the surroundings of a call from F, H -/
abbrev cyP (K : PySem.W.Frag) (F H : Hp) : Cy := { K := K, B := [], A := [], dw := fun _ => True, H0 := H, F0 := F, dwS := fun _ _ _ _ => trivial, dwT := fun _ _ a ha => by cases ha }
def EOk (C : Cy) (E : XK) (ke : Ke) : Prop := ∀ F H cls dx fs es, Rq C F H → C.H0 dx = none → F dx = some (.xd fs) → FsOk C.K F fs es → ke cls es → E (.ref cls) (some dx) H
/-- the wish about errors, from where one stands -/
def EOs (C : Cy) (X : Ow) (F : Hp) (σ : L2.St) (G : List Sv) (O : Ow) (E : XK) (ke : Ke) : Prop := ∀ F' H' cls dx fs es, Same F F' → Rp C F' H' σ G (O ++ X) → C.H0 dx = none → F' dx = some (.xd fs) → FsOk C.K F' fs es → ke cls es → E (.ref cls) (some dx) H'
theorem EOk.s {C : Cy} {X : Ow} {F : Hp} {σ : L2.St} {G : List Sv} {O : Ow} {E : XK} {ke : Ke} (h : EOk C E ke) : EOs C X F σ G O E ke := fun F' H' cls dx fs es _ r => h F' H' cls dx fs es r.q
theorem EOk.none (C : Cy) (E : XK) : EOk C E (fun _ _ => False) := fun _ _ _ _ _ _ _ _ _ _ h => h.elim
theorem rq_start {K : PySem.W.Frag} {F H : Hp} (s : Same F H) (t : ∀ b xs, Rd H b (.tup xs) → Rd F b (.tup xs)) : Rq (cyP K F H) F H :=
  ⟨s, Same.refl F, fun _ _ _ e => e, fun _ e => e, fun _ e _ => e, t, trivial, (fun a ha => by cases ha), fun _ _ _ _ e => e⟩
theorem rq_bh {K : PySem.W.Frag} {F H F' H' : Hp} (q : Rq (cyP K F H) F' H') : Bh F H F' H' := ⟨q.old, q.sub, fun b o e => q.but b o (by exact List.not_mem_nil) e, q.non, q.tup, q.lk⟩
/-- behind a call the surroundings are as they were -/
theorem Rp.called {C : Cy} {F H F' H' : Hp} {σ : L2.St} {G : List Sv} {O : Ow} (r : Rp C F H σ G O) (b : Bh F H F' H') : Rp C F' H' σ G O := by
  have keep : ∀ {a : Addr}, H a ≠ none → H' a = H a := fun {a} n => by
    cases q : H a with
    | none => exact absurd q n
    | some o => exact b.sm a o q
  refine r.step b.sf ⟨b.sub, r.q.old.trans b.sf, fun c o nb e => b.sm c o (r.q.but c o nb e), ?_, fun c e1 e2 => b.non c (r.q.non c e1 e2) (r.q.thr c e2), b.tup, ?_, ?_, fun c o u kd e => r.q.lk c o u kd (b.lk c o u kd e)⟩ ?_
  · intro c e
    have := r.q.thr c e
    rw [keep this]
    exact this
  · exact C.dwS H _ (fun a ha => keep (C.dwT H r.q.dw a ha)) r.q.dw
  · intro a ha
    exact b.non a (r.q.na a ha) (C.dwT H r.q.dw a ha)
  · intro D ob m
    obtain ⟨_, c, _, u, e, _⟩ := r.ow D ob m
    have n : H D ≠ none := by rw [e]; exact fun z => by cases z
    exact ⟨keep n, b.non D c n⟩
theorem Rp.gb {C : Cy} {F H F' H' : Hp} {σ : L2.St} {G : List Sv} {O : Ow} (r : Rp C F H σ G O) (b : Bh F H F' H') : Gw O F H F' H' := ⟨b.sf, fun D ob m => by
  obtain ⟨_, c, _, u, e, _⟩ := r.ow D ob m
  rw [e]
  exact b.sm D u e⟩
section
variable {C : Cy} {G : List Sv} {O : Ow} {ta : TA} {n : Nat} {W : Wt} {ES : L2.St → XK} {ke : Ke}
theorem ke_of {F1 H1 F' H' : Hp} {σ : L2.St} {X : Ow} (hE : ∀ σ, EOk C (ES σ) ke) (r1 : Rp C F1 H1 σ G (O ++ X)) (b : Bh F1 H1 F' H') {cls dx : Addr} {fs : List (Str × V)} {es : List (Str × PyData)} (nd : H1 dx = none) (hd : F' dx = some (.xd fs)) (p : FsOk C.K F' fs es) (q : ke cls es) : ES σ (.ref cls) (some dx) H' :=
  hE σ F' H' cls dx fs es (r1.called b).q (r1.q.h0 nd) hd p q
theorem dv_call {k : Sv → Prop} (hE : ∀ σ, EOk C (ES σ) ke) (h : Da C G O ta fun as => as.length = n ∧ W as (fun r => match r with | .v s => k s | .l _ => False) ke) : Dv C G O (Ln.tCg (spP C.K n W) ES ta) k := fun X F H σ Q r c =>
  h X F H σ _ r fun F1 vs H1 as s1 r1 p ⟨e, w⟩ => ⟨by rw [Paired.length p]; exact e, F1, as, _, ke, r1.q.sub, r1.q.tup, p, w,
    fun F' v H' s b sv q => c F' v H' s (s1.trans (r1.gb b)) (r1.called b) sv q, fun _ _ _ _ _ _ _ _ _ _ q => q.elim, fun F' cls dx H' fs es b nd hd p q => ke_of hE r1 b nd hd p q⟩
theorem dl_call {k : List Sv → Prop} (hE : ∀ σ, EOk C (ES σ) ke) (h : Da C G O ta fun as => as.length = n ∧ W as (fun r => match r with | .v _ => False | .l ss => k ss) ke) : Dl C G O (Ln.tCg (spP C.K n W) ES ta) k := fun X F H σ Q r c =>
  h X F H σ _ r fun F1 vs H1 as s1 r1 p ⟨e, w⟩ => by
    refine ⟨by rw [Paired.length p]; exact e, F1, as, _, ke, r1.q.sub, r1.q.tup, p, w, fun _ _ _ _ _ _ q => q.elim, ?_, fun F' cls dx H' fs es b nd hd p q => ke_of hE r1 b nd hd p q⟩
    intro F' D H' xs ss b nd nf hD pp q
    have r2 := r1.called b
    refine c F' D H' ss (s1.trans (r1.gb b)) (r1.q.h0 nd) ⟨r2.q, r2.len, r2.sl, ?_, ?_⟩ q
    · intro D' ob m
      rcases List.mem_cons.mp m with m | m
      · cases m
        exact ⟨.inr (r1.q.h0 nd), nf, r1.q.nA nd, _, hD, xs, rfl, pp⟩
      · exact r2.ow D' ob m
    · rw [List.map_cons, List.nodup_cons]
      refine ⟨fun m => ?_, r2.nd⟩
      obtain ⟨⟨D', ob⟩, m', e'⟩ := List.mem_map.mp m
      obtain ⟨_, _, _, u, e1, _⟩ := r1.ow D' ob m'
      have e' : D' = D := e'
      rw [e', nd] at e1
      cases e1
theorem dx_call {k : PyData → Prop} (hE : ∀ σ, EOk C (ES σ) ke) (h : Da C G O ta fun as => as.length = n ∧ W as (fun r => match r with | .v s => isD k s | .l _ => False) ke) : Dx C G O (Ln.tCg (spP C.K n W) ES ta) k := dx_dv (dv_call hE h)
/-- a def that lets nothing out -/
theorem dx_callP {k : PyData → Prop} (h : Da C G O ta fun as => as.length = n ∧ W as (fun r => match r with | .v s => isD k s | .l _ => False) (fun _ _ => False)) : Dx C G O (Ln.tCg (spP C.K n W) ES ta) k := dx_call (ke := fun _ _ => False) (fun σ => EOk.none C _) h
theorem dv_callP {k : Sv → Prop} (h : Da C G O ta fun as => as.length = n ∧ W as (fun r => match r with | .v s => k s | .l _ => False) (fun _ _ => False)) : Dv C G O (Ln.tCg (spP C.K n W) ES ta) k := dv_call (ke := fun _ _ => False) (fun σ => EOk.none C _) h
theorem dl_callP {k : List Sv → Prop} (h : Da C G O ta fun as => as.length = n ∧ W as (fun r => match r with | .v _ => False | .l ss => k ss) (fun _ _ => False)) : Dl C G O (Ln.tCg (spP C.K n W) ES ta) k := dl_call (ke := fun _ _ => False) (fun σ => EOk.none C _) h
end
/-! ## a def's body -/
theorem rp_start {K : PySem.W.Frag} {F H : Hp} {vs : List V} {as : List Sv} {N : List Str} (s : Same F H) (t : ∀ b xs, Rd H b (.tup xs) → Rd F b (.tup xs)) (p : Paired (SvOk K F) vs as) : Rp (cyP K F H) F H (L2.start N vs) (as ++ List.replicate (N.length - vs.length) .any) [] := by
  refine ⟨rq_start s t, ?_, ?_, (fun _ _ m => by cases m), List.nodup_nil⟩
  · unfold L2.start
    rw [List.length_append, List.length_append, List.length_map, List.length_replicate, List.length_replicate, Paired.length p]
  · intro i sv e
    unfold L2.start
    by_cases c : i < as.length
    · rw [List.getElem?_append_left c] at e
      obtain ⟨v, hv, ok⟩ := paired_get' p e
      refine ⟨some v, ?_, OvOk.of ok⟩
      rw [List.getElem?_append_left (by rw [List.length_map, Paired.length p]; exact c), List.getElem?_map, hv]
      rfl
    · have e0 := e
      rw [List.getElem?_append_right (by omega)] at e
      have h1 := (List.getElem?_eq_some_iff.mp e).1
      rw [List.length_replicate] at h1
      rw [List.getElem?_replicate_of_lt h1] at e
      cases e
      refine ⟨none, ?_, trivial⟩
      rw [List.getElem?_append_right (by rw [List.length_map, Paired.length p]; omega), List.length_map, Paired.length p, List.getElem?_replicate_of_lt (by rw [Paired.length p] at h1; exact h1)]
theorem ds_body {K : PySem.W.Frag} {n : Nat} {W : Wt} {vs : List V} {H : Hp} {Q : VK} {E : XK} {N : List Str} {t : TS} (h : SpP K n W vs H Q E)
    (hb : ∀ (F0 H0 : Hp) (as : List Sv) (k : Rs → Prop) (ke : Ke), as.length = n → W as k ke → EOk (cyP K F0 H0) E ke → Ds (cyP K F0 H0) (as ++ List.replicate (N.length - n) .any) [] t { nx := fun _ _ => k (.v (.dat .none)), rt := k }) : t { nx := fun _ H' => Q .non H', rt := Q } (L2.start N vs) H := by
  obtain ⟨e, F, as, k, ke, s, tp, p, w, q1, q2, q3⟩ := h.ex
  have r := rp_start (N := N) s tp p
  rw [e] at r
  refine hb F H as k ke (by rw [← Paired.length p]; exact e) w ?_ [] F H _ _ r ?_ ⟨?_, ?_⟩ (fun _ _ _ _ _ _ _ z => z.elim) (fun _ _ _ _ _ _ _ z => z.elim)
  · exact fun F' H' cls dx fs es rq nd hd p q => q3 F' cls dx H' fs es (rq_bh rq) nd hd p q
  · exact fun F' σ' H' G' O' s' r' hk => q1 F' .non H' (.dat .none) (rq_bh r'.q) .non hk
  · exact fun F' v H' s' _ rq sv hk => q1 F' v H' s' (rq_bh rq) sv hk
  · exact fun F' D H' ss xs _ rq n0 nf _ hD pp hk => q2 F' D H' xs ss (rq_bh rq) n0 nf hD pp hk
/-- a def of the text, told by data -/
theorem okP {P : Program} {w : World} {K : PySem.W.Frag} {mg : Str → Option Value} {base : Heap} {x qual : Str} {st : Stmt} {f : Addr} {fd : FuncData} {N ps : List Str} {k n : Nat} {W : Wt} (F : Fun K x qual st f fd) (S : FnScope N ps (defScope st)) (hn : ps.length = n)
    (hbody : ∀ (cdv : Value) (A : Around) (outer : List Env) (s : Shared) (H : Hp) (E : XK), A.guards = some [] → Room k (A.deeper (envOfC qual (defScope st) s.heap.objs.size f cdv)) →
      ∃ t, PSs (cxOf CX0 P w K mg base N qual (defScope st) f cdv A outer s H E).nox (defBody st) t ∧ ∀ (F0 H0 : Hp) (as : List Sv) (k : Rs → Prop) (ke : Ke), as.length = n → W as k ke → Ds (cyP K F0 H0) (as ++ List.replicate (N.length - n) .any) [] t { nx := fun _ _ => k (.v (.dat .none)), rt := k }) : FnG P w K mg base CX0 (k + 1) f fd ps (spP K n W) :=
  okG F S (fun vs H Q E h => by rw [h.ex.1, hn]) fun cdv A outer s H vs Q E hG hr h => by
    obtain ⟨t, ht, hd⟩ := hbody cdv A outer s H E hG hr
    exact ⟨t, ht, ds_body h fun F0 H0 as k ke e w _ => hd F0 H0 as k ke e w⟩
theorem okPX {P : Program} {w : World} {K : PySem.W.Frag} {mg : Str → Option Value} {base : Heap} {x qual : Str} {st : Stmt} {f : Addr} {fd : FuncData} {N ps : List Str} {k n : Nat} {W : Wt} (F : Fun K x qual st f fd) (S : FnScope N ps (defScope st)) (hn : ps.length = n)
    (hbody : ∀ (cdv : Value) (A : Around) (outer : List Env) (s : Shared) (H : Hp) (E : XK), A.guards = some [] → Room k (A.deeper (envOfC qual (defScope st) s.heap.objs.size f cdv)) →
      ∃ t, PSs (cxOf (L2.CX P w) P w K mg base N qual (defScope st) f cdv A outer s H E) (defBody st) t ∧ ∀ (F0 H0 : Hp) (as : List Sv) (k : Rs → Prop) (ke : Ke), as.length = n → W as k ke → EOk (cyP K F0 H0) E ke → Ds (cyP K F0 H0) (as ++ List.replicate (N.length - n) .any) [] t { nx := fun _ _ => k (.v (.dat .none)), rt := k }) : FnG P w K mg base (L2.CX P w) (k + 1) f fd ps (spP K n W) :=
  okX F S (fun vs H Q E h => by rw [h.ex.1, hn]) fun cdv A outer s H vs Q E hG hr h => by
    obtain ⟨t, ht, hd⟩ := hbody cdv A outer s H E hG hr
    exact ⟨t, ht, ds_body h fun F0 H0 as k ke e w hE => hd F0 H0 as k ke e w hE⟩
end Dl
set_option Elab.async false
set_option autoImplicit false
set_option linter.all false
set_option maxRecDepth 100000
set_option maxHeartbeats 4000000
namespace Dl
open PySem PySem.Spec PyProof.Rows L2 Ln
section
variable {C : Cy} {G : List Sv} {O : Ow} {t ta : TE} {k : PyData → Prop}
/-! ## builtins -/
/-- len(x) of data -/
def lenD (k : Nat → Prop) (d : PyData) : Prop := (∃ ds, (d = .tuple ds ∨ d = .list ds) ∧ k ds.length) ∨ ∃ x : Str, d = .str x ∧ x.length ≤ sizeLine ∧ k x.length
theorem lenD_t {k : Nat → Prop} {ds : List PyData} (q : k ds.length) : lenD k (.tuple ds) := .inl ⟨ds, .inl rfl, q⟩
theorem lenD_l {k : Nat → Prop} {ds : List PyData} (q : k ds.length) : lenD k (.list ds) := .inl ⟨ds, .inr rfl, q⟩
theorem dx_len (h : Dx C G O t (lenD fun n => k (.int (n : Nat)))) : Dx C G O (tCB (Ln.rLen C.K) (tCons t tNil)) k := fun X F H σ Q r c =>
  h X F H σ _ r fun F1 v H1 d s1 r1 p1 q => by
    rcases q with ⟨ds, e, q⟩ | ⟨x, e, hz, q⟩
    · rcases e with e | e
      · subst e
        cases p1 with
        | @tup a xs _ hs ha => exact ⟨_, xs.length, rfl, .inr ⟨xs, Same.tup r1.q.sub hs, rfl⟩, c F1 _ H1 _ s1 r1 (.int _) (by rw [dpAll_len ha]; exact q)⟩
      · subst e
        cases p1 with
        | @lst a xs _ hs ha => exact ⟨_, xs.length, rfl, .inl ⟨xs, r1.q.sub.seq hs, rfl⟩, c F1 _ H1 _ s1 r1 (.int _) (by rw [dpAll_len ha]; exact q)⟩
    · subst e
      cases p1
      exact ⟨_, x.length, rfl, ⟨hz, rfl⟩, c F1 _ H1 _ s1 r1 (.int _) q⟩
theorem dx_lenO {i n : Nat} {D : Addr} {ss : List Sv} (hG : G[i]? = some (.ptr D)) (hO : O[n]? = some (D, .lst ss)) (q : k (.int (ss.length : Nat))) : Dx C G O (tCB (Ln.rLen C.K) (tCons (tVar i) tNil)) k := fun X F H σ Q r c => by
  obtain ⟨v, a, b⟩ := r.get hG (fun z => by cases z)
  cases b
  obtain ⟨u, e, xs, rfl, p⟩ := r.obj (app_get (X := X) hO)
  exact ⟨_, a, _, xs.length, rfl, .inl ⟨xs, SqL.of e, rfl⟩, c F _ H _ (Gw.refl) r (.int _) (by rw [Paired.length p]; exact q)⟩
/-- isinstance -/
def isiD (T : String) (d : PyData) : Bool := match d with
  | .none => false
  | .bool _ => T == "int" || T == "bool"
  | .int _ => T == "int"
  | .str _ => T == "str"
  | .list _ => T == "list"
  | .tuple _ => T == "tuple"
  | .dict _ => false
def knownT (T : String) : Bool := T == "int" || T == "bool" || T == "str" || T == "tuple"
theorem tyx_lst {K : PySem.W.Frag} {H : Hp} {a : Addr} {xs : List V} (h : SqL K H a xs) (nf : ∀ o, H a ≠ some (.frz o (.lst xs))) : TyX K H (.ref a) (.type "list") := by
  rcases h with h | h
  · rcases h with h | ⟨o, h⟩
    · exact .base (.lst h)
    · exact absurd h (nf o)
  · obtain ⟨o, _, _, hk, hc, _⟩ := h
    exact .kList hk hc
/-- no list that is locked as another thing stands within -/
def flatK (d : PyData) : Bool := match d with
  | .list _ => false
  | .dict _ => false
  | _ => true
theorem isi_kit {K : PySem.W.Frag} {H : Hp} {v : V} {d : PyData} {T : String} (h : Dp K H v d) (hT : knownT T = true) (hf : flatK d = true) : ∃ t, TyX K H v t ∧ PySem.W.kitOne K t (.type T) = some (isiD T d) := by
  have pl : Plain K H v := by
    cases h with
    | non => exact .non
    | bl b => exact .bl b
    | int i => exact .int i
    | str x => exact .str x
    | lst a b => cases hf
    | tup a b => exact .tup a
  obtain ⟨t, ty, k1, k2, k3, k4⟩ := pl.kit
  refine ⟨t, ty, ?_⟩
  unfold knownT at hT
  rw [Bool.or_eq_true, Bool.or_eq_true, Bool.or_eq_true] at hT
  rcases hT with ((hT | hT) | hT) | hT
  · have e : T = "int" := eq_of_beq hT
    subst e
    rw [k1]
    cases h <;> first | rfl | cases hf
  · have e : T = "bool" := eq_of_beq hT
    subst e
    rw [k2]
    cases h <;> first | rfl | cases hf
  · have e : T = "str" := eq_of_beq hT
    subst e
    rw [k3]
    cases h <;> first | rfl | cases hf
  · have e : T = "tuple" := eq_of_beq hT
    subst e
    rw [k4]
    cases h <;> first | rfl | cases hf
theorem dx_isi {T : String} (h : Dx C G O t fun d => flatK d = true ∧ k (.bool (isiD T d))) (hT : knownT T = true := by with_unfolding_all rfl) : Dx C G O (tCB (rIsi C.K) (tCons t (tCons (tC (.ty T)) tNil))) k := fun X F H σ Q r c =>
  h X F H σ _ r fun F1 v H1 d s1 r1 p1 ⟨hf, q⟩ => by
    obtain ⟨t, ty, kk⟩ := isi_kit (Dp.mono r1.q.sub _ _ p1) hT hf
    exact ⟨v, _, t, _, _, rfl, .ty T, ty, kk, c F1 _ H1 _ s1 r1 (.bl _) q⟩
/-! ### of lists made for it -/
theorem paired_bools {K : PySem.W.Frag} {F : Hp} : ∀ {vs : List V} {bs : List Bool}, Paired (SvOk K F) vs (bs.map fun b => Sv.dat (.bool b)) → vs = bs.map V.bl
  | _, [], .nil => rfl
  | _, b :: bs, .cons a t => by cases a; rw [paired_bools t]; rfl
theorem paired_ints {K : PySem.W.Frag} {F : Hp} : ∀ {vs : List V} {bs : List Int}, Paired (SvOk K F) vs (bs.map fun b => Sv.dat (.int b)) → vs = bs.map V.int
  | _, [], .nil => rfl
  | _, b :: bs, .cons a t => by cases a; rw [paired_ints t]; rfl
theorem dx_all (h : Dl C G O t fun ss => ∃ bs : List Bool, ss = bs.map (fun b => Sv.dat (.bool b)) ∧ k (.bool (bs.all id))) : Dx C G O (tCB (rAll C.K) (tCons t tNil)) k := fun X F H σ Q r c =>
  h X F H σ _ r fun F1 D H1 ss s1 h0 r1 ⟨bs, e, q⟩ => by
    subst e
    obtain ⟨u, e, xs, rfl, p⟩ := r1.obj (n := 0) rfl
    rw [paired_bools p] at e
    exact ⟨D, bs, rfl, SqL.of e, c F1 _ H1 _ s1 (r1.less (List.sublist_cons_self _ _)) (.bl _) q⟩
theorem dx_any (h : Dl C G O t fun ss => ∃ bs : List Bool, ss = bs.map (fun b => Sv.dat (.bool b)) ∧ k (.bool (bs.any id))) : Dx C G O (tCB (rAny C.K) (tCons t tNil)) k := fun X F H σ Q r c =>
  h X F H σ _ r fun F1 D H1 ss s1 h0 r1 ⟨bs, e, q⟩ => by
    subst e
    obtain ⟨u, e, xs, rfl, p⟩ := r1.obj (n := 0) rfl
    rw [paired_bools p] at e
    exact ⟨D, bs, rfl, SqL.of e, c F1 _ H1 _ s1 (r1.less (List.sublist_cons_self _ _)) (.bl _) q⟩
theorem dx_sum (h : Dl C G O t fun ss => ∃ bs : List Int, ss = bs.map (fun b => Sv.dat (.int b)) ∧ k (.int bs.sum)) : Dx C G O (tCB (rSum C.K) (tCons t tNil)) k := fun X F H σ Q r c =>
  h X F H σ _ r fun F1 D H1 ss s1 h0 r1 ⟨bs, e, q⟩ => by
    subst e
    obtain ⟨u, e, xs, rfl, p⟩ := r1.obj (n := 0) rfl
    rw [paired_ints p] at e
    exact ⟨D, bs, rfl, SqL.of e, c F1 _ H1 _ s1 (r1.less (List.sublist_cons_self _ _)) (.int _) q⟩
theorem dx_lenL (h : Dl C G O t fun ss => k (.int (ss.length : Nat))) : Dx C G O (tCB (Ln.rLen C.K) (tCons t tNil)) k := fun X F H σ Q r c =>
  h X F H σ _ r fun F1 D H1 ss s1 h0 r1 q => by
    obtain ⟨u, e, xs, rfl, p⟩ := r1.obj (n := 0) rfl
    exact ⟨_, xs.length, rfl, .inl ⟨xs, SqL.of e, rfl⟩, c F1 _ H1 _ s1 (r1.less (List.sublist_cons_self _ _)) (.int _) (by rw [Paired.length p]; exact q)⟩
theorem dx_tupOf (h : Dl C G O t fun ss => ∃ ds : List PyData, ss = ds.map Sv.dat ∧ k (.tuple ds)) : Dx C G O (tCB (Ln.rTupOf C.K) (tCons t tNil)) k := fun X F H σ Q r c =>
  h X F H σ _ r fun F1 D H1 ss s1 h0 r1 ⟨ds, e, q⟩ => by
    subst e
    obtain ⟨u, e, xs, rfl, p⟩ := r1.obj (n := 0) rfl
    refine ⟨D, xs, rfl, .inl ⟨SqL.of e, fun l nl => ?_⟩⟩
    have r2 := r1.newF (o := .tup xs) nl
    have s2 := r1.gm (o := .tup xs) nl
    exact c _ _ _ _ (s1.trans (s2.sub fun x m => List.mem_cons_of_mem _ m)) (r2.less (List.sublist_cons_self _ _)) (.tup (SqT.of upd_same) (DpAll.mono s2.sf _ _ (Paired.det p rfl))) q
/-- tuple(xs), xs one's own -/
theorem dx_tupOfO {i n : Nat} {D : Addr} {ds : List PyData} (hG : G[i]? = some (.ptr D)) (hO : O[n]? = some (D, .lst (ds.map Sv.dat))) (q : k (.tuple ds)) : Dx C G O (tCB (Ln.rTupOf C.K) (tCons (tVar i) tNil)) k := fun X F H σ Q r c => by
  obtain ⟨v, a, b⟩ := r.get hG (fun z => by cases z)
  cases b
  obtain ⟨u, e, xs, rfl, p⟩ := r.obj (app_get (X := X) hO)
  refine ⟨_, a, D, xs, rfl, .inl ⟨SqL.of e, fun l nl => ?_⟩⟩
  have r2 := r.newF (o := .tup xs) nl
  have s2 := r.gm (o := .tup xs) nl
  exact c _ _ _ _ s2 r2 (.tup (SqT.of upd_same) (DpAll.mono s2.sf _ _ (Paired.det p rfl))) q
theorem dx_tupOfT (h : Dx C G O t fun d => (∃ ds, d = .tuple ds ∧ k (.tuple ds)) ∨ ∃ ds, d = .list ds ∧ k (.tuple ds)) : Dx C G O (tCB (Ln.rTupOf C.K) (tCons t tNil)) k := fun X F H σ Q r c =>
  h X F H σ _ r fun F1 v H1 d s1 r1 p1 q => by
    rcases q with ⟨ds, e, q⟩ | ⟨ds, e, q⟩
    · subst e
      cases p1 with
      | @tup a xs _ hs ha => exact ⟨a, xs, rfl, .inr ⟨Same.tup r1.q.sub hs, c F1 _ H1 _ s1 r1 (.tup hs ha) q⟩⟩
    · subst e
      cases p1 with
      | @lst a xs _ hs ha =>
        refine ⟨a, xs, rfl, .inl ⟨r1.q.sub.seq hs, fun l nl => ?_⟩⟩
        have r2 := r1.newF (o := .tup xs) nl
        have s2 := r1.gm (o := .tup xs) nl
        exact c _ _ _ _ (s1.trans s2) r2 (.tup (SqT.of upd_same) (DpAll.mono s2.sf _ _ ha)) q
theorem dl_listOf {k : List Sv → Prop} (h : Dx C G O t (isQ fun ds => k (ds.map Sv.dat))) : Dl C G O (tCB (Ln.rListOf C.K) (tCons t tNil)) k := fun X F H σ Q r c =>
  h X F H σ _ r fun F1 v H1 d s1 r1 p1 ⟨ds, e, q⟩ => by
    have fin : ∀ (a : Addr) (xs : List V), DpAll C.K F1 xs ds → ∀ l, H1 l = none → Q (.ref l) (upd H1 l (.lst xs)) := fun a xs ha l nl =>
      c F1 l _ (ds.map Sv.dat) (s1.trans (r1.gn nl)) (r1.q.h0 nl) (r1.newO (ob := .lst (ds.map Sv.dat)) nl ⟨xs, rfl, Paired.ofAll ha⟩) q
    rcases e with e | e
    · subst e
      cases p1 with
      | @tup a xs _ hs ha => exact ⟨a, xs, rfl, .inr (Same.tup r1.q.sub hs), fin a xs ha⟩
    · subst e
      cases p1 with
      | @lst a xs _ hs ha => exact ⟨a, xs, rfl, .inl (r1.q.sub.seq hs), fin a xs ha⟩
theorem dl_listOfO {i n : Nat} {D : Addr} {ss : List Sv} {k : List Sv → Prop} (hG : G[i]? = some (.ptr D)) (hO : O[n]? = some (D, .lst ss)) (q : k ss) : Dl C G O (tCB (Ln.rListOf C.K) (tCons (tVar i) tNil)) k := fun X F H σ Q r c => by
  obtain ⟨v, a, b⟩ := r.get hG (fun z => by cases z)
  cases b
  obtain ⟨u, e, xs, rfl, p⟩ := r.obj (app_get (X := X) hO)
  exact ⟨_, a, D, xs, rfl, .inl (SqL.of e), fun l nl => c F l _ ss (r.gn nl) (r.q.h0 nl) (r.newO (ob := .lst ss) nl ⟨xs, rfl, p⟩) q⟩
/-! ### numbers -/
theorem dx_abs (h : Dx C G O t (isI fun i => k (.int (if i < 0 then -i else i)))) : Dx C G O (tCB (fun xs H Q => ∃ i, xs = [V.int i] ∧ Q (V.int (if i < 0 then -i else i)) H) (tCons t tNil)) k := fun X F H σ Q r c =>
  h X F H σ _ r fun F1 v H1 d s1 r1 p1 ⟨i, e, q⟩ => by
    subst e; cases p1
    exact ⟨i, rfl, c F1 _ H1 _ s1 r1 (.int _) q⟩
theorem dx_min2 (h : Dx C G O t (isI fun i => Dx C G O ta (isI fun j => k (.int (if j < i then j else i))))) : Dx C G O (tCB (fun xs H Q => ∃ i j, xs = [V.int i, V.int j] ∧ Q (V.int (if j < i then j else i)) H) (tCons t (tCons ta tNil))) k := fun X F H σ Q r c =>
  h X F H σ _ r fun F1 v H1 d s1 r1 p1 ⟨i, e, h2⟩ => by
    subst e; cases p1
    exact h2 X F1 H1 σ _ r1 fun F2 w H2 d2 s2 r2 p2 ⟨j, e, q⟩ => by
      subst e; cases p2
      exact ⟨i, j, rfl, c F2 _ H2 _ (s1.trans s2) r2 (.int _) q⟩
theorem dx_max2 (h : Dx C G O t (isI fun i => Dx C G O ta (isI fun j => k (.int (if i < j then j else i))))) : Dx C G O (tCB (fun xs H Q => ∃ i j, xs = [V.int i, V.int j] ∧ Q (V.int (if i < j then j else i)) H) (tCons t (tCons ta tNil))) k := fun X F H σ Q r c =>
  h X F H σ _ r fun F1 v H1 d s1 r1 p1 ⟨i, e, h2⟩ => by
    subst e; cases p1
    exact h2 X F1 H1 σ _ r1 fun F2 w H2 d2 s2 r2 p2 ⟨j, e, q⟩ => by
      subst e; cases p2
      exact ⟨i, j, rfl, c F2 _ H2 _ (s1.trans s2) r2 (.int _) q⟩
theorem dx_str1 (h : Dx C G O t (isI fun i => i.natAbs.log2 < 1920 ∧ k (.str (Str.ofString (toString i))))) : Dx C G O (tCB (fun xs H Q => ∃ i, xs = [V.int i] ∧ i.natAbs.log2 < 1920 ∧ Q (V.str (Str.ofString (toString i))) H) (tCons t tNil)) k := fun X F H σ Q r c =>
  h X F H σ _ r fun F1 v H1 d s1 r1 p1 ⟨i, e, b, q⟩ => by
    subst e; cases p1
    exact ⟨i, rfl, b, c F1 _ H1 _ s1 r1 (.str _) q⟩
theorem dx_addS (h : Dx C G O t (isS fun i => Dx C G O ta (isS fun j => i.length + j.length ≤ sizeLine ∧ k (.str (i ++ j))))) : Dx C G O (tOp (fun x y H Q => ∃ i j, x = V.str i ∧ y = V.str j ∧ i.length + j.length ≤ sizeLine ∧ Q (V.str (i ++ j)) H) t ta) k := fun X F H σ Q r c =>
  h X F H σ _ r fun F1 v H1 d s1 r1 p1 ⟨i, e, h2⟩ => by
    subst e; cases p1
    exact h2 X F1 H1 σ _ r1 fun F2 w H2 d2 s2 r2 p2 ⟨j, e, b, q⟩ => by
      subst e; cases p2
      exact ⟨i, j, rfl, rfl, b, c F2 _ H2 _ (s1.trans s2) r2 (.str _) q⟩
theorem dx_repr (h : Dx C G O t fun d => Ln.Shw d ∧ k (.str d.shown)) : Dx C G O (tCB (Ln.rReprD C.K) (tCons t tNil)) k := fun X F H σ Q r c =>
  h X F H σ _ r fun F1 v H1 d s1 r1 p1 ⟨hs, q⟩ => ⟨v, d, rfl, Dp.mono r1.q.sub _ _ p1, hs, c F1 _ H1 _ s1 r1 (.str _) q⟩
/-! ### in, of plain things -/
def flatD : PyData → Bool
  | .none => true
  | .bool _ => true
  | .int _ => true
  | .str _ => true
  | _ => false
def eqvS : PyData → PyData → Bool
  | .none, .none => true
  | .bool a, .bool b => a == b
  | .bool a, .int b => (if a = true then 1 else 0) == b
  | .int a, .bool b => a == if b = true then 1 else 0
  | .int a, .int b => a == b
  | .str a, .str b => a == b
  | _, _ => false
def inD (d : PyData) (ds : List PyData) : Bool := ds.any fun e => eqvS e d
theorem dp_flat {K : PySem.W.Frag} {F : Hp} {v : V} {d : PyData} (h : Dp K F v d) (f : flatD d = true) : flatV v = true := by
  cases h <;> first | rfl | cases f
theorem dp_eqv {K : PySem.W.Frag} {F : Hp} {v w : V} {d e : PyData} (h : Dp K F v d) (f : flatD d = true) (h' : Dp K F w e) (f' : flatD e = true) : eqV v w = eqvS d e := by
  cases h <;> cases h' <;> first | rfl | cases f | cases f'
theorem dpAll_in {K : PySem.W.Frag} {F : Hp} {v : V} {d : PyData} (h : Dp K F v d) (f : flatD d = true) : ∀ {vs : List V} {ds : List PyData}, DpAll K F vs ds → ds.all flatD = true → vs.all flatV = true ∧ inV v vs = inD d ds
  | _, _, .nil, _ => ⟨rfl, rfl⟩
  | _, _, .cons (v := w) (d := e) a b, q => by
    rw [List.all_cons, Bool.and_eq_true] at q
    obtain ⟨i1, i2⟩ := dpAll_in h f b q.2
    refine ⟨by rw [List.all_cons, dp_flat a q.1, i1]; rfl, ?_⟩
    have i2 : List.any _ (fun y => eqV y v) = List.any _ (fun e => eqvS e d) := i2
    show List.any _ (fun y => eqV y v) = List.any _ (fun e => eqvS e d)
    rw [List.any_cons, List.any_cons, i2, dp_eqv a q.1 h f]
theorem dx_in {neg : Bool} (h : Dx C G O t fun d => Dx C G O ta (isQ fun ds => flatD d = true ∧ ds.all flatD = true ∧ k (.bool (if neg then !inD d ds else inD d ds)))) : Dx C G O (tOp (rIn C.K neg) t ta) k := fun X F H σ Q r c =>
  h X F H σ _ r fun F1 v H1 d s1 r1 p1 h2 => h2 X F1 H1 σ _ r1 fun F2 w H2 d2 s2 r2 p2 ⟨ds, e, f, fs, q⟩ => by
    rcases e with e | e
    · subst e
      cases p2 with
      | @tup a xs _ hs ha =>
        obtain ⟨e1, e2⟩ := dpAll_in (Dp.mono s2.sf _ _ p1) f ha fs
        exact ⟨a, xs, rfl, .inr (Same.tup r2.q.sub hs), dp_flat (Dp.mono s2.sf _ _ p1) f, e1, c F2 _ H2 _ (s1.trans s2) r2 (by rw [e2]; exact .bl _) q⟩
    · subst e
      cases p2 with
      | @lst a xs _ hs ha =>
        obtain ⟨e1, e2⟩ := dpAll_in (Dp.mono s2.sf _ _ p1) f ha fs
        exact ⟨a, xs, rfl, .inl (r2.q.sub.seq hs), dp_flat (Dp.mono s2.sf _ _ p1) f, e1, c F2 _ H2 _ (s1.trans s2) r2 (by rw [e2]; exact .bl _) q⟩
/-! ## a list of one's own, lent -/
mutual
def noLd : PyData → Bool
  | .list _ => false
  | .dict _ => false
  | .tuple ds => noLds ds
  | _ => true
def noLds : List PyData → Bool
  | [] => true
  | d :: ds => noLd d && noLds ds
end
mutual
theorem Dp.tups {K : PySem.W.Frag} {F F' : Hp} (sm : ∀ b xs, Rd F b (.tup xs) → Rd F' b (.tup xs)) : ∀ (d : PyData) (v : V), noLd d = true → Dp K F v d → Dp K F' v d
  | .none, _, _, h => by cases h; exact .non
  | .bool b, _, _, h => by cases h; exact .bl b
  | .int b, _, _, h => by cases h; exact .int b
  | .str b, _, _, h => by cases h; exact .str b
  | .list _, _, q, _ => by simp [noLd] at q
  | .dict _, _, q, _ => by simp [noLd] at q
  | .tuple ds, _, q, h => by
    cases h with
    | tup a b => exact .tup (sqT_rd sm a) (DpAll.tups sm ds _ (by simpa only [noLd] using q) b)
theorem DpAll.tups {K : PySem.W.Frag} {F F' : Hp} (sm : ∀ b xs, Rd F b (.tup xs) → Rd F' b (.tup xs)) : ∀ (ds : List PyData) (vs : List V), noLds ds = true → DpAll K F vs ds → DpAll K F' vs ds
  | [], _, _, h => by cases h; exact .nil
  | d :: ds, _, q, h => by
    cases h with
    | cons a b =>
      have q' : (noLd d && noLds ds) = true := by simpa only [noLds] using q
      obtain ⟨q1, q2⟩ := Bool.and_eq_true_iff.mp q'
      exact .cons (Dp.tups sm d _ q1 a) (DpAll.tups sm ds _ q2 b)
end
theorem mem_erase {α β : Type} : ∀ {l : List (α × β)} {n : Nat} {a : α} {b : β}, l[n]? = some (a, b) → ∀ {x : α} {y : β}, (x, y) ∈ l → x ≠ a → (x, y) ∈ l.eraseIdx n
  | [], _, _, _, e, _, _, _, _ => by simp at e
  | (u, w) :: l, 0, a, b, e, x, y, m, ne => by
    cases e
    rcases List.mem_cons.mp m with q | q
    · cases q; exact absurd rfl ne
    · exact q
  | (u, w) :: l, n + 1, a, b, e, x, y, m, ne => by
    have e' : l[n]? = some (a, b) := by simpa using e
    show (x, y) ∈ (u, w) :: l.eraseIdx n
    rcases List.mem_cons.mp m with q | q
    · rw [q]; exact List.mem_cons_self
    · exact List.mem_cons_of_mem _ (mem_erase e' q ne)
/-- lent for an expression -/
theorem Rp.lend {F H : Hp} {σ : L2.St} {X : Ow} {i n : Nat} {D : Addr} {ds : List PyData} (hG : G[i]? = some (.ptr D)) (hO : O[n]? = some (D, .lst (ds.map Sv.dat))) (h0 : C.H0 D = none) (r : Rp C F H σ G (O ++ X)) :
    ∃ F2, Rp C F2 H σ (G.set i (.dat (.list ds))) (O.eraseIdx n ++ X) ∧ ∀ F' H', Gw (O.eraseIdx n ++ X) F2 H F' H' → Rp C F' H' σ (G.set i (.dat (.list ds))) (O.eraseIdx n ++ X) →
      ∃ F3, Gw (O ++ X) F H F3 H' ∧ Rp C F3 H' σ G (O ++ X) ∧ ∀ b xs, Rd F' b (.tup xs) → Rd F3 b (.tup xs) := by
  obtain ⟨F2, u, s2, e, ⟨xs, rfl, p⟩, r2⟩ := r.frz h0 (app_get (X := X) hO)
  have eO : (O ++ X).eraseIdx n = O.eraseIdx n ++ X := List.eraseIdx_append_of_lt_length (List.getElem?_eq_some_iff.mp hO).1 _
  have hOX := app_get (X := X) hO
  rw [eO] at r2
  obtain ⟨v, a, b⟩ := r2.get hG (fun z => by cases z)
  cases b
  have r3 := r2.set (i := i) (v := .ref D) (s := .dat (.list ds)) (.lst (SqL.of e) (Paired.det p rfl))
  have eσ : σ.set i (some (V.ref D)) = σ := by
    refine List.ext_getElem? fun j => ?_
    by_cases z : i = j
    · subst z
      rw [List.getElem?_set_self (List.getElem?_eq_some_iff.mp a).1, a]
    · rw [List.getElem?_set_ne z]
  rw [eσ] at r3
  refine ⟨F2, r3, fun F' H' g r' => ?_⟩
  obtain ⟨_, nF, _, _⟩ := r.ow D _ (List.mem_of_getElem? hOX)
  have fD : F' D = some (.lst xs) := g.sf D _ e
  have hD' : H' D = some (.lst xs) := r'.q.sub D _ fD
  have hD : H D = some (.lst xs) := r3.q.sub D _ e
  have mem : ∀ {D' : Addr} {ob : Ob}, (D', ob) ∈ O ++ X → D' ≠ D → (D', ob) ∈ O.eraseIdx n ++ X := fun {D' ob} m ne => by
    rw [← eO]
    exact mem_erase hOX m ne
  have sF : Same F (fun b => if b = D then none else F' b) := fun b o e' => by
    have z : b ≠ D := fun z => by rw [z, nF] at e'; cases e'
    show (if b = D then none else F' b) = some o
    rw [if_neg z]
    exact g.sf b o (s2 b o e')
  have tp : ∀ b xs, Rd F' b (.tup xs) → Rd (fun b => if b = D then none else F' b) b (.tup xs) := fun b ys k => by
    have z : b ≠ D := by
      rintro rfl
      rcases k with k | ⟨o, k⟩
      · rw [fD] at k; cases k
      · rw [fD] at k; cases k
    rcases k with k | ⟨o, k⟩
    · exact .inl (by show (if b = D then none else F' b) = _; rw [if_neg z]; exact k)
    · exact .inr ⟨o, by show (if b = D then none else F' b) = _; rw [if_neg z]; exact k⟩
  have gw : Gw (O ++ X) F H (fun b => if b = D then none else F' b) H' := ⟨sF, fun D' ob m => by
    by_cases z : D' = D
    · rw [z, hD', hD]
    · exact g.ow D' ob (mem m z)⟩
  refine ⟨fun b => if b = D then none else F' b, gw, ⟨⟨?_, r.q.old.trans sF, r'.q.but, r'.q.thr, ?_, fun b xs k => tp b xs (r'.q.tup b xs k), r'.q.dw, ?_, ?_⟩, r.len, ?_, ?_, r.nd⟩, tp⟩
  · intro b o e'
    have e' : (if b = D then none else F' b) = some o := e'
    by_cases z : b = D
    · rw [if_pos z] at e'; cases e'
    · rw [if_neg z] at e'; exact r'.q.sub b o e'
  · intro b e1 e2
    show (if b = D then none else F' b) = none
    by_cases z : b = D
    · rw [if_pos z]
    · rw [if_neg z]; exact r'.q.non b e1 e2
  · intro b hb
    show (if b = D then none else F' b) = none
    by_cases z : b = D
    · rw [if_pos z]
    · rw [if_neg z]; exact r'.q.na b hb
  · intro b o w kd e'
    have e' : (if b = D then none else F' b) = some (.frz o w) := e'
    by_cases z : b = D
    · rw [if_pos z] at e'; cases e'
    · rw [if_neg z] at e'; exact r'.q.lk b o w kd e'
  · intro j s ej
    obtain ⟨ov, a1, b1⟩ := r.sl j s ej
    exact ⟨ov, a1, b1.mono sF⟩
  · intro D' ob m
    obtain ⟨a1, b1, c1, u1, e1, k1⟩ := r.ow D' ob m
    refine ⟨a1, ?_, c1, u1, by rw [gw.ow D' ob m]; exact e1, k1.mono sF⟩
    show (if D' = D then none else F' D') = none
    by_cases z : D' = D
    · rw [if_pos z]
    · rw [if_neg z]
      exact (r'.ow D' ob (mem m z)).2.1
theorem dx_bor {i n : Nat} {D : Addr} {ds : List PyData} (hG : G[i]? = some (.ptr D)) (hO : O[n]? = some (D, .lst (ds.map Sv.dat))) (h0 : C.H0 D = none) (h : Dx C (G.set i (.dat (.list ds))) (O.eraseIdx n) t fun d => noLd d = true ∧ k d) : Dx C G O t k := fun X F H σ Q r c => by
  obtain ⟨F2, r2, back⟩ := r.lend hG hO h0
  exact h X F2 H σ _ r2 fun F' v H' d g r' p ⟨nl, q⟩ => by
    obtain ⟨F3, g3, r3, tp⟩ := back F' H' g r'
    exact c F3 v H' d g3 r3 (Dp.tups tp d v nl p) q
theorem dt_bor {u : TT} {k : Bool → Prop} {i n : Nat} {D : Addr} {ds : List PyData} (hG : G[i]? = some (.ptr D)) (hO : O[n]? = some (D, .lst (ds.map Sv.dat))) (h0 : C.H0 D = none) (h : Dt C (G.set i (.dat (.list ds))) (O.eraseIdx n) u k) : Dt C G O u k := fun X F H σ Q r c => by
  obtain ⟨F2, r2, back⟩ := r.lend hG hO h0
  exact h X F2 H σ _ r2 fun F' b H' g r' q => by
    obtain ⟨F3, g3, r3, tp⟩ := back F' H' g r'
    exact c F3 b H' g3 r3 q
end
end Dl
set_option Elab.async false
set_option autoImplicit false
set_option linter.all false
set_option maxRecDepth 100000
set_option maxHeartbeats 4000000
namespace Dl
open PySem PySem.Spec PyProof.Rows L2 Ln
/-- one step: p is shown by q -/
class Stp (p : Prop) (q : outParam Prop) : Prop where
  h : q → p
structure isLs (k : List PyData → Prop) (d : PyData) : Prop where
  ex : ∃ ds, d = .list ds ∧ k ds
class Lk (G : List Sv) (i : Nat) (s : outParam Sv) : Prop where
  h : G[i]? = some s
instance lk0 {s : Sv} {G : List Sv} : Lk (s :: G) 0 s := ⟨rfl⟩
instance lkS {x s : Sv} {G : List Sv} {i : Nat} [e : Lk G i s] : Lk (x :: G) (i + 1) s := ⟨by rw [List.getElem?_cons_succ]; exact e.h⟩
class St (G : List Sv) (i : Nat) (s : Sv) (G' : outParam (List Sv)) : Prop where
  h : G.set i s = G'
instance st0 {x s : Sv} {G : List Sv} : St (x :: G) 0 s (s :: G) := ⟨rfl⟩
instance stS {x s : Sv} {G G' : List Sv} {i : Nat} [e : St G i s G'] : St (x :: G) (i + 1) s (x :: G') := ⟨by rw [List.set_cons_succ, e.h]⟩
/-- a list of one's own by its address -/
class Ok (O : Ow) (D : Addr) (n : outParam Nat) (ob : outParam Ob) : Prop where
  h : O[n]? = some (D, ob)
instance ok0 {O : Ow} {D : Addr} {ob : Ob} : Ok ((D, ob) :: O) D 0 ob := ⟨rfl⟩
instance (priority := low) okS {O : Ow} {D : Addr} {ob : Ob} {x : Addr × Ob} {n : Nat} [e : Ok O D n ob] : Ok (x :: O) D (n + 1) ob := ⟨by rw [List.getElem?_cons_succ]; exact e.h⟩
class So (O : Ow) (n : Nat) (x : Addr × Ob) (O' : outParam Ow) : Prop where
  h : O.set n x = O'
instance so0 {x y : Addr × Ob} {O : Ow} : So (x :: O) 0 y (y :: O) := ⟨rfl⟩
instance soS {x y : Addr × Ob} {O O' : Ow} {i : Nat} [e : So O i y O'] : So (x :: O) (i + 1) y (x :: O') := ⟨by rw [List.set_cons_succ, e.h]⟩
/-- the same fragment -/
class Lkk (K K' : PySem.W.Frag) : Prop where
  h : K = K'
instance lkk {K : PySem.W.Frag} : Lkk K K := ⟨rfl⟩
instance lkk3 {CX : CXT} {P : Program} {w : World} {K : PySem.W.Frag} {mg : Str → Option Value} {base : Heap} {N : List Str} {qual : Str} {scope : Scope} {f : Addr} {cd : Value} {A : Around} {outer : List Env} {s : Shared} {H : Hp} {E : XK} : Lkk (cxOf CX P w K mg base N qual scope f cd A outer s H E).K K := ⟨rfl⟩
instance lkk4 {CX : CXT} {P : Program} {w : World} {K : PySem.W.Frag} {mg : Str → Option Value} {base : Heap} {N : List Str} {qual : Str} {scope : Scope} {f : Addr} {cd : Value} {A : Around} {outer : List Env} {s : Shared} {H : Hp} {E : XK} : Lkk (cxOf CX P w K mg base N qual scope f cd A outer s H E).nox.K K := ⟨rfl⟩
section
variable {C : Cy} {G : List Sv} {O : Ow} {t ta tb tc : TE} {k : PyData → Prop} {q : Prop}
instance s_var {i : Nat} {d : PyData} [e : Lk G i (.dat d)] : Stp (Dx C G O (tVar i) k) (k d) := ⟨dx_var e.h⟩
instance s_int {n : Int} : Stp (Dx C G O (tC (.int n)) k) (k (.int n)) := ⟨dx_int⟩
instance s_str {n : Str} : Stp (Dx C G O (tC (.str n)) k) (k (.str n)) := ⟨dx_str⟩
instance s_bl {n : Bool} : Stp (Dx C G O (tC (.bl n)) k) (k (.bool n)) := ⟨dx_bl⟩
instance s_non : Stp (Dx C G O (tC .non) k) (k .none) := ⟨dx_non⟩
instance s_add : Stp (Dx C G O (tOp (rI0 fun i j => V.int (i + j)) ta tb) k) (Dx C G O ta (isI fun i => Dx C G O tb (isI fun j => k (.int (i + j))))) := ⟨dx_add⟩
instance s_sub : Stp (Dx C G O (tOp (rI0 fun i j => V.int (i - j)) ta tb) k) (Dx C G O ta (isI fun i => Dx C G O tb (isI fun j => k (.int (i - j))))) := ⟨dx_sub⟩
instance s_mul : Stp (Dx C G O (tOp (rI CMul fun i j => V.int (i * j)) ta tb) k) (Dx C G O ta (isI fun i => Dx C G O tb (isI fun j => CMul i j ∧ k (.int (i * j))))) := ⟨dx_mul⟩
instance s_fdiv : Stp (Dx C G O (tOp (rI CDiv fun i j => V.int (i / j)) ta tb) k) (Dx C G O ta (isI fun i => Dx C G O tb (isI fun j => CDiv i j ∧ k (.int (i / j))))) := ⟨dx_fdiv⟩
instance s_mod : Stp (Dx C G O (tOp (rI (fun _ j => 0 < j) fun i j => V.int (i % j)) ta tb) k) (Dx C G O ta (isI fun i => Dx C G O tb (isI fun j => 0 < j ∧ k (.int (i % j))))) := ⟨dx_mod⟩
instance s_lt : Stp (Dx C G O (tOp (rI0 fun i j => V.bl (decide (i < j))) ta tb) k) (Dx C G O ta (isI fun i => Dx C G O tb (isI fun j => k (.bool (decide (i < j)))))) := ⟨dx_lt⟩
instance s_le : Stp (Dx C G O (tOp (rI0 fun i j => V.bl (decide (i ≤ j))) ta tb) k) (Dx C G O ta (isI fun i => Dx C G O tb (isI fun j => k (.bool (decide (i ≤ j)))))) := ⟨dx_le⟩
instance s_gt : Stp (Dx C G O (tOp (rI0 fun i j => V.bl (decide (j < i))) ta tb) k) (Dx C G O ta (isI fun i => Dx C G O tb (isI fun j => k (.bool (decide (j < i)))))) := ⟨dx_gt⟩
instance s_ge : Stp (Dx C G O (tOp (rI0 fun i j => V.bl (decide (j ≤ i))) ta tb) k) (Dx C G O ta (isI fun i => Dx C G O tb (isI fun j => k (.bool (decide (j ≤ i)))))) := ⟨dx_ge⟩
instance s_neg : Stp (Dx C G O (tUn (rU fun i => V.int (-i)) ta) k) (Dx C G O ta (isI fun i => k (.int (-i)))) := ⟨dx_neg⟩
instance s_eq : Stp (Dx C G O (tOp rEq ta tb) k) (Dx C G O ta fun a => Dx C G O tb fun b => sEq (fun c => k (.bool c)) a b) := ⟨dx_eq⟩
instance s_ne : Stp (Dx C G O (tOp rNe ta tb) k) (Dx C G O ta fun a => Dx C G O tb fun b => sEq (fun c => k (.bool (!c))) a b) := ⟨dx_ne⟩
instance s_isN : Stp (Dx C G O (tOp (fun x y H Q => y = V.non ∧ Q (V.bl (decide (x = V.non))) H) ta (tC .non)) k) (Dx C G O ta fun a => k (.bool (nonB a))) := ⟨dx_isN⟩
instance s_notN : Stp (Dx C G O (tOp (fun x y H Q => y = V.non ∧ Q (V.bl (!decide (x = V.non))) H) ta (tC .non)) k) (Dx C G O ta fun a => k (.bool (!nonB a))) := ⟨dx_notN⟩
instance s_eqD {K' : PySem.W.Frag} [e : Lkk K' C.K] : Stp (Dx C G O (tOp (rEqD K') ta tb) k) (Dx C G O ta fun a => Dx C G O tb fun b => SeqAt.shaped a = true ∧ SeqAt.shaped b = true ∧ k (.bool (PyData.eqv a b))) := ⟨by rw [e.h]; exact dx_eqD⟩
instance s_neD {K' : PySem.W.Frag} [e : Lkk K' C.K] : Stp (Dx C G O (tOp (rNeD K') ta tb) k) (Dx C G O ta fun a => Dx C G O tb fun b => SeqAt.shaped a = true ∧ SeqAt.shaped b = true ∧ k (.bool (!PyData.eqv a b))) := ⟨by rw [e.h]; exact dx_neD⟩
instance s_if {u : TT} : Stp (Dx C G O (tIf u ta tb) k) (Dt C G O u fun b => if b = true then Dx C G O ta k else Dx C G O tb k) := ⟨dx_if⟩
instance s_andV : Stp (Dx C G O (tAndV ta tb) k) (Dx C G O ta (isB fun b => if b = true then Dx C G O tb k else k (.bool false))) := ⟨dx_andV⟩
instance s_orV : Stp (Dx C G O (tOrV ta tb) k) (Dx C G O ta (isB fun b => if b = true then k (.bool true) else Dx C G O tb k)) := ⟨dx_orV⟩
instance s_notV : Stp (Dx C G O (tNotV ta) k) (Dx C G O ta (isB fun b => k (.bool (!b)))) := ⟨dx_notV⟩
instance s_chain {p p' : Int → Int → Bool} : Stp (Dx C G O (tChain (rI0 fun i j => V.bl (p i j)) (rI0 fun i j => V.bl (p' i j)) ta tb tc) k) (Dx C G O ta (isI fun i => Dx C G O tb (isI fun j => if p i j = true then Dx C G O tc (isI fun l => k (.bool (p' j l))) else k (.bool false)))) := ⟨dx_chain⟩
instance s_tup {u : TA} : Stp (Dx C G O (tTup u) k) (Dd C G O u fun ds => szk ds.length (k (.tuple ds))) := ⟨dx_tup⟩
instance s_ixT {K' : PySem.W.Frag} [e : Lkk K' C.K] : Stp (Dx C G O (tOp (rIxT K') ta tb) k) (Dx C G O ta (isT fun ds => Dx C G O tb (isI fun i => ∃ d, atI ds i = some d ∧ k d))) := ⟨by rw [e.h]; exact dx_ixT⟩
instance s_ixL {K' : PySem.W.Frag} [e : Lkk K' C.K] : Stp (Dx C G O (tOp (rIxL K') ta tb) k) (Dx C G O ta (isLs fun ds => Dx C G O tb (isI fun i => ∃ d, atI ds i = some d ∧ k d))) := ⟨by rw [e.h]; exact fun h => dx_ixL (h.mono fun _ x => x.ex)⟩
instance s_ix {K' : PySem.W.Frag} [e : Lkk K' C.K] : Stp (Dx C G O (tOp (rIx K') ta tb) k) (Dx C G O ta (isQ fun ds => Dx C G O tb (isI fun i => ∃ d, atI ds i = some d ∧ k d))) := ⟨by rw [e.h]; exact dx_ix⟩
instance (priority := high) s_ixO {K' : PySem.W.Frag} {i n : Nat} {D : Addr} {ss : List Sv} [e : Lkk K' C.K] [e1 : Lk G i (.ptr D)] [e2 : Ok O D n (.lst ss)] : Stp (Dx C G O (tOp (rIxL K') (tVar i) tb) k) (Dx C G O tb (isI fun j => ∃ d, atI ss j = some (.dat d) ∧ k d)) := ⟨by
  rw [e.h]; exact fun h => dx_dv (dv_ixO e1.h e2.h (h.mono fun _ ⟨i, e, d, h1, h2⟩ => ⟨i, e, .dat d, h1, d, rfl, h2⟩))⟩
instance (priority := high) s_ixO' {K' : PySem.W.Frag} {i n : Nat} {D : Addr} {ss : List Sv} [e : Lkk K' C.K] [e1 : Lk G i (.ptr D)] [e2 : Ok O D n (.lst ss)] : Stp (Dx C G O (tOp (rIx K') (tVar i) tb) k) (Dx C G O tb (isI fun j => ∃ d, atI ss j = some (.dat d) ∧ k d)) := ⟨by
  rw [e.h]; exact fun h => dx_dv (dv_ixO' e1.h e2.h (h.mono fun _ ⟨i, e, d, h1, h2⟩ => ⟨i, e, .dat d, h1, d, rfl, h2⟩))⟩
instance s_slT {K' : PySem.W.Frag} {tl th : TO} [e : Lkk K' C.K] : Stp (Dx C G O (tSl (Ln.rSlS K') t tl th) k) (Dx C G O t (isT fun ds => Do C G O tl fun lo => Do C G O th fun hi => k (.tuple (cutD ds lo hi)))) := ⟨by rw [e.h]; exact dx_slT⟩
instance s_catT {K' : PySem.W.Frag} [e : Lkk K' C.K] : Stp (Dx C G O (tOp (Ln.rCatS K') ta tb) k) (Dx C G O ta (isT fun ds => Dx C G O tb (isT fun es => szk (ds.length + es.length) (k (.tuple (ds ++ es)))))) := ⟨by rw [e.h]; exact dx_catT⟩
instance s_len {K' : PySem.W.Frag} [e : Lkk K' C.K] : Stp (Dx C G O (tCB (Ln.rLen K') (tCons t tNil)) k) (Dx C G O t (lenD fun n => k (.int (n : Nat)))) := ⟨by rw [e.h]; exact dx_len⟩
instance (priority := high) s_lenO {K' : PySem.W.Frag} {i n : Nat} {D : Addr} {ss : List Sv} [e : Lkk K' C.K] [e1 : Lk G i (.ptr D)] [e2 : Ok O D n (.lst ss)] : Stp (Dx C G O (tCB (Ln.rLen K') (tCons (tVar i) tNil)) k) (k (.int (ss.length : Nat))) := ⟨by rw [e.h]; exact dx_lenO e1.h e2.h⟩
class KnT (T : String) : Prop where
  h : knownT T = true
instance : KnT "int" := ⟨rfl⟩
instance : KnT "bool" := ⟨rfl⟩
instance : KnT "str" := ⟨rfl⟩
instance : KnT "tuple" := ⟨rfl⟩
def isiK (k : Bool → Prop) (T : String) (d : PyData) : Prop := flatK d = true ∧ k (isiD T d)
instance s_isi {K' : PySem.W.Frag} {T : String} [e : Lkk K' C.K] [kt : KnT T] : Stp (Dx C G O (tCB (rIsi K') (tCons t (tCons (tC (.ty T)) tNil))) k) (Dx C G O t (isiK (fun b => k (.bool b)) T)) := ⟨by rw [e.h]; exact fun h => dx_isi h kt.h⟩
instance s_all {K' : PySem.W.Frag} [e : Lkk K' C.K] : Stp (Dx C G O (tCB (rAll K') (tCons t tNil)) k) (Dl C G O t fun ss => ∃ bs : List Bool, ss = bs.map (fun b => Sv.dat (.bool b)) ∧ k (.bool (bs.all id))) := ⟨by rw [e.h]; exact dx_all⟩
instance s_any {K' : PySem.W.Frag} [e : Lkk K' C.K] : Stp (Dx C G O (tCB (rAny K') (tCons t tNil)) k) (Dl C G O t fun ss => ∃ bs : List Bool, ss = bs.map (fun b => Sv.dat (.bool b)) ∧ k (.bool (bs.any id))) := ⟨by rw [e.h]; exact dx_any⟩
instance s_sum {K' : PySem.W.Frag} [e : Lkk K' C.K] : Stp (Dx C G O (tCB (rSum K') (tCons t tNil)) k) (Dl C G O t fun ss => ∃ bs : List Int, ss = bs.map (fun b => Sv.dat (.int b)) ∧ k (.int bs.sum)) := ⟨by rw [e.h]; exact dx_sum⟩
instance s_tupOf {K' : PySem.W.Frag} [e : Lkk K' C.K] : Stp (Dx C G O (tCB (Ln.rTupOf K') (tCons t tNil)) k) (Dl C G O t fun ss => ∃ ds : List PyData, ss = ds.map Sv.dat ∧ k (.tuple ds)) := ⟨by rw [e.h]; exact dx_tupOf⟩
instance s_abs : Stp (Dx C G O (tCB (fun xs H Q => ∃ i, xs = [V.int i] ∧ Q (V.int (if i < 0 then -i else i)) H) (tCons t tNil)) k) (Dx C G O t (isI fun i => k (.int (if i < 0 then -i else i)))) := ⟨dx_abs⟩
instance s_min2 : Stp (Dx C G O (tCB (fun xs H Q => ∃ i j, xs = [V.int i, V.int j] ∧ Q (V.int (if j < i then j else i)) H) (tCons t (tCons ta tNil))) k) (Dx C G O t (isI fun i => Dx C G O ta (isI fun j => k (.int (if j < i then j else i))))) := ⟨dx_min2⟩
instance s_max2 : Stp (Dx C G O (tCB (fun xs H Q => ∃ i j, xs = [V.int i, V.int j] ∧ Q (V.int (if i < j then j else i)) H) (tCons t (tCons ta tNil))) k) (Dx C G O t (isI fun i => Dx C G O ta (isI fun j => k (.int (if i < j then j else i))))) := ⟨dx_max2⟩
instance s_str1 : Stp (Dx C G O (tCB (fun xs H Q => ∃ i, xs = [V.int i] ∧ i.natAbs.log2 < 1920 ∧ Q (V.str (Str.ofString (toString i))) H) (tCons t tNil)) k) (Dx C G O t (isI fun i => i.natAbs.log2 < 1920 ∧ k (.str (Str.ofString (toString i))))) := ⟨dx_str1⟩
instance s_addS : Stp (Dx C G O (tOp (fun x y H Q => ∃ i j, x = V.str i ∧ y = V.str j ∧ i.length + j.length ≤ sizeLine ∧ Q (V.str (i ++ j)) H) t ta) k) (Dx C G O t (isS fun i => Dx C G O ta (isS fun j => i.length + j.length ≤ sizeLine ∧ k (.str (i ++ j))))) := ⟨dx_addS⟩
instance s_repr {K' : PySem.W.Frag} [e : Lkk K' C.K] : Stp (Dx C G O (tCB (Ln.rReprD K') (tCons t tNil)) k) (Dx C G O t fun d => Ln.Shw d ∧ k (.str d.shown)) := ⟨by rw [e.h]; exact dx_repr⟩
instance s_in {K' : PySem.W.Frag} {neg : Bool} [e : Lkk K' C.K] : Stp (Dx C G O (tOp (rIn K' neg) t ta) k) (Dx C G O t fun d => Dx C G O ta (isQ fun ds => flatD d = true ∧ ds.all flatD = true ∧ k (.bool (if neg then !inD d ds else inD d ds)))) := ⟨by rw [e.h]; exact dx_in⟩
instance s_call {K' : PySem.W.Frag} {n : Nat} {W : Wt} {ES : L2.St → XK} {u : TA} [e : Lkk K' C.K] : Stp (Dx C G O (Ln.tCg (spP K' n W) ES u) k) (Da C G O u fun as => as.length = n ∧ W as (fun r => match r with | .v s => isD k s | .l _ => False) (fun _ _ => False)) := ⟨by rw [e.h]; exact dx_callP⟩
/-! ### arguments -/
instance s_ddnil {k : List PyData → Prop} : Stp (Dd C G O tNil k) (k []) := ⟨dd_nil⟩
instance s_ddcons {u : TA} {k : List PyData → Prop} : Stp (Dd C G O (tCons t u) k) (Dx C G O t fun s => Dd C G O u fun ss => k (s :: ss)) := ⟨dd_cons⟩
instance s_danil {k : List Sv → Prop} : Stp (Da C G O tNil k) (k []) := ⟨da_nil⟩
instance s_dacons {u : TA} {k : List Sv → Prop} : Stp (Da C G O (tCons t u) k) (Dv C G O t fun s => Da C G O u fun ss => k (s :: ss)) := ⟨da_cons⟩
instance (priority := low) s_dv {k : Sv → Prop} : Stp (Dv C G O t k) (Dx C G O t fun d => k (.dat d)) := ⟨dv_dx⟩
class NAny (s : Sv) : Prop where
  h : s ≠ .any
instance {d : PyData} : NAny (.dat d) := ⟨fun z => by cases z⟩
instance {d : Addr} : NAny (.ptr d) := ⟨fun z => by cases z⟩
instance {d : Mo} : NAny (.hdl d) := ⟨fun z => by cases z⟩
instance s_dvvar {i : Nat} {s : Sv} {k : Sv → Prop} [e : Lk G i s] [n : NAny s] : Stp (Dv C G O (tVar i) k) (k s) := ⟨dv_var e.h n.h⟩
/-! ### tests -/
instance s_dtb {k : Bool → Prop} : Stp (Dt C G O (tB t) k) (Dx C G O t (isB k)) := ⟨dt_b⟩
instance s_dtt {k : Bool → Prop} : Stp (Dt C G O (tTest t) k) (Dx C G O t (isB k)) := ⟨dt_test⟩
instance s_dtn {u : TT} {k : Bool → Prop} : Stp (Dt C G O (tNot u) k) (Dt C G O u fun b => k (!b)) := ⟨dt_not⟩
instance s_dta {u w : TT} {k : Bool → Prop} : Stp (Dt C G O (tAnd u w) k) (Dt C G O u fun b => if b = true then Dt C G O w k else k false) := ⟨dt_and⟩
instance s_dto {u w : TT} {k : Bool → Prop} : Stp (Dt C G O (tOr u w) k) (Dt C G O u fun b => if b = true then k true else Dt C G O w k) := ⟨dt_or⟩
instance s_dty {k : Bool → Prop} : Stp (Dt C G O tYes k) (k true) := ⟨fun h X F H σ Q r c => c F true H Gw.refl r h⟩
instance s_ift {A B : Prop} : Stp (if true = true then A else B) A := ⟨fun h => (if_pos rfl).mpr h⟩
instance s_iff {A B : Prop} : Stp (if false = true then A else B) B := ⟨fun h => (if_neg Bool.false_ne_true).mpr h⟩
instance s_do0 {k : Option Int → Prop} : Stp (Do C G O tNoPart k) (k none) := ⟨do_no⟩
instance s_do1 {k : Option Int → Prop} : Stp (Do C G O (tPart t) k) (Dx C G O t (isI fun i => k (some i))) := ⟨do_some⟩
/-! ### what data is -/
instance s_isI {k : Int → Prop} {i : Int} : Stp (isI k (.int i)) (k i) := ⟨isI_mk⟩
instance s_isB {k : Bool → Prop} {i : Bool} : Stp (isB k (.bool i)) (k i) := ⟨isB_mk⟩
instance s_isS {k : Str → Prop} {i : Str} : Stp (isS k (.str i)) (k i) := ⟨isS_mk⟩
instance s_isT {k : List PyData → Prop} {i : List PyData} : Stp (isT k (.tuple i)) (k i) := ⟨isT_mk⟩
instance s_isL {k : List PyData → Prop} {i : List PyData} : Stp (isLs k (.list i)) (k i) := ⟨fun h => ⟨⟨i, rfl, h⟩⟩⟩
instance s_isQt {k : List PyData → Prop} {i : List PyData} : Stp (isQ k (.tuple i)) (k i) := ⟨isQ_t⟩
instance s_isQl {k : List PyData → Prop} {i : List PyData} : Stp (isQ k (.list i)) (k i) := ⟨isQ_l⟩
instance s_isD {k : PyData → Prop} {i : PyData} : Stp (isD k (.dat i)) (k i) := ⟨isD_mk⟩
instance s_lent {k : Nat → Prop} {ds : List PyData} : Stp (lenD k (.tuple ds)) (k ds.length) := ⟨lenD_t⟩
instance s_lenl {k : Nat → Prop} {ds : List PyData} : Stp (lenD k (.list ds)) (k ds.length) := ⟨lenD_l⟩
instance s_eii {k : Bool → Prop} {a b : Int} : Stp (sEq k (.int a) (.int b)) (k (decide (a = b))) := ⟨sEq_ii⟩
instance s_ess {k : Bool → Prop} {a b : Str} : Stp (sEq k (.str a) (.str b)) (k (decide (a = b))) := ⟨sEq_ss⟩
instance s_ebb {k : Bool → Prop} {a b : Bool} : Stp (sEq k (.bool a) (.bool b)) (k (decide (a = b))) := ⟨sEq_bb⟩
instance s_esi {k : Bool → Prop} {a : Str} {b : Int} : Stp (sEq k (.str a) (.int b)) (k false) := ⟨sEq_si⟩
instance s_eis {k : Bool → Prop} {a : Str} {b : Int} : Stp (sEq k (.int b) (.str a)) (k false) := ⟨sEq_is⟩
instance s_enn {k : Bool → Prop} : Stp (sEq k .none .none) (k true) := ⟨sEq_nn⟩
instance s_ens {k : Bool → Prop} {b : Str} : Stp (sEq k .none (.str b)) (k false) := ⟨sEq_ns⟩
instance s_esn {k : Bool → Prop} {b : Str} : Stp (sEq k (.str b) .none) (k false) := ⟨sEq_sn⟩
instance s_eni {k : Bool → Prop} {b : Int} : Stp (sEq k .none (.int b)) (k false) := ⟨sEq_ni⟩
instance s_ein {k : Bool → Prop} {b : Int} : Stp (sEq k (.int b) .none) (k false) := ⟨sEq_in⟩
instance s_kn_int {k : Bool → Prop} : Stp (isiK k "int" .none) (k false) := ⟨fun h => ⟨rfl, h⟩⟩
instance s_ki_int {k : Bool → Prop} {i : Int} : Stp (isiK k "int" (.int i)) (k true) := ⟨fun h => ⟨rfl, h⟩⟩
instance s_kb_int {k : Bool → Prop} {i : Bool} : Stp (isiK k "int" (.bool i)) (k true) := ⟨fun h => ⟨rfl, h⟩⟩
instance s_ks_int {k : Bool → Prop} {i : Str} : Stp (isiK k "int" (.str i)) (k false) := ⟨fun h => ⟨rfl, h⟩⟩
instance s_kt_int {k : Bool → Prop} {i : List PyData} : Stp (isiK k "int" (.tuple i)) (k false) := ⟨fun h => ⟨rfl, h⟩⟩
instance s_kn_bool {k : Bool → Prop} : Stp (isiK k "bool" .none) (k false) := ⟨fun h => ⟨rfl, h⟩⟩
instance s_ki_bool {k : Bool → Prop} {i : Int} : Stp (isiK k "bool" (.int i)) (k false) := ⟨fun h => ⟨rfl, h⟩⟩
instance s_kb_bool {k : Bool → Prop} {i : Bool} : Stp (isiK k "bool" (.bool i)) (k true) := ⟨fun h => ⟨rfl, h⟩⟩
instance s_ks_bool {k : Bool → Prop} {i : Str} : Stp (isiK k "bool" (.str i)) (k false) := ⟨fun h => ⟨rfl, h⟩⟩
instance s_kt_bool {k : Bool → Prop} {i : List PyData} : Stp (isiK k "bool" (.tuple i)) (k false) := ⟨fun h => ⟨rfl, h⟩⟩
instance s_kn_str {k : Bool → Prop} : Stp (isiK k "str" .none) (k false) := ⟨fun h => ⟨rfl, h⟩⟩
instance s_ki_str {k : Bool → Prop} {i : Int} : Stp (isiK k "str" (.int i)) (k false) := ⟨fun h => ⟨rfl, h⟩⟩
instance s_kb_str {k : Bool → Prop} {i : Bool} : Stp (isiK k "str" (.bool i)) (k false) := ⟨fun h => ⟨rfl, h⟩⟩
instance s_ks_str {k : Bool → Prop} {i : Str} : Stp (isiK k "str" (.str i)) (k true) := ⟨fun h => ⟨rfl, h⟩⟩
instance s_kt_str {k : Bool → Prop} {i : List PyData} : Stp (isiK k "str" (.tuple i)) (k false) := ⟨fun h => ⟨rfl, h⟩⟩
instance s_kn_tuple {k : Bool → Prop} : Stp (isiK k "tuple" .none) (k false) := ⟨fun h => ⟨rfl, h⟩⟩
instance s_ki_tuple {k : Bool → Prop} {i : Int} : Stp (isiK k "tuple" (.int i)) (k false) := ⟨fun h => ⟨rfl, h⟩⟩
instance s_kb_tuple {k : Bool → Prop} {i : Bool} : Stp (isiK k "tuple" (.bool i)) (k false) := ⟨fun h => ⟨rfl, h⟩⟩
instance s_ks_tuple {k : Bool → Prop} {i : Str} : Stp (isiK k "tuple" (.str i)) (k false) := ⟨fun h => ⟨rfl, h⟩⟩
instance s_kt_tuple {k : Bool → Prop} {i : List PyData} : Stp (isiK k "tuple" (.tuple i)) (k true) := ⟨fun h => ⟨rfl, h⟩⟩
instance (priority := low) s_refl {α : Type} {a : α} : Stp (a = a ∧ q) q := ⟨fun h => ⟨rfl, h⟩⟩
/-! ### targets, walks -/
variable {vz : Option (List Nat)}
instance s_dgn {i : Nat} {d : PyData} {G' : List Sv} {k : List Sv → Prop} [e : St G i (.dat d) G'] : Stp (Dg C G O none (gName i) d k) (k G') := ⟨by rw [← e.h]; exact dg_name⟩
class Mem (i : Nat) (l : List Nat) : Prop where
  h : i ∈ l
instance {i : Nat} {l : List Nat} : Mem i (i :: l) := ⟨List.mem_cons_self⟩
instance (priority := low) {i j : Nat} {l : List Nat} [e : Mem i l] : Mem i (j :: l) := ⟨List.mem_cons_of_mem _ e.h⟩
instance s_dgnS {i : Nat} {d : PyData} {G' : List Sv} {l : List Nat} {k : List Sv → Prop} [e : St G i (.dat d) G'] [m : Mem i l] : Stp (Dg C G O (some l) (gName i) d k) (k G') := ⟨fun h => by rw [← e.h] at h; exact dg_nameS h m.h⟩
class Snd (own : List (Str × Nat)) (l : outParam (List Nat)) : Prop where
  h : own.map (fun x => x.snd) = l
instance : Snd [] [] := ⟨rfl⟩
instance {x : Str} {n : Nat} {r : List (Str × Nat)} {l : List Nat} [e : Snd r l] : Snd ((x, n) :: r) (n :: l) := ⟨by rw [List.map_cons, e.h]⟩
class Wp (G : List Sv) (l : List Nat) (G' : outParam (List Sv)) : Prop where
  h : wipeG G l = G'
instance {G : List Sv} : Wp G [] G := ⟨rfl⟩
instance {G G' G2 : List Sv} {v : Nat} {l : List Nat} [e : Wp G l G'] [e2 : St G' v .any G2] : Wp G (v :: l) G2 := ⟨by show (wipeG G l).set v .any = G2; rw [e.h, e2.h]⟩
instance (priority := high) s_dgW {own : List (Str × Nat)} {l : List Nat} {G' : List Sv} {g : TG} {d : PyData} {k : List Sv → Prop} [e1 : Snd own l] [e2 : Wp G l G'] : Stp (Dg C (wipeG G (own.map (fun x => x.snd))) O (some (own.map (fun x => x.snd))) g d k) (Dg C G' O (some l) g d k) := ⟨by rw [e1.h, e2.h]; exact id⟩
instance s_dgs0 {k : List Sv → Prop} : Stp (Dgs C G O vz gNil [] k) (k G) := ⟨dgs_nil⟩
instance s_dgs1 {g : TG} {gs : TGs} {d : PyData} {ds : List PyData} {k : List Sv → Prop} : Stp (Dgs C G O vz (gCons g gs) (d :: ds) k) (Dg C G O vz g d fun G' => Dgs C G' O vz gs ds k) := ⟨dgs_cons⟩
instance s_dwT {K' : PySem.W.Frag} {k : List PyData → Prop} [e : Lkk K' C.K] : Stp (Dw C G O (iTup K' t) k) (Dx C G O t (isT k)) := ⟨fun h => dw_tup h e.h⟩
instance s_dwL {K' : PySem.W.Frag} {k : List PyData → Prop} [e : Lkk K' C.K] : Stp (Dw C G O (iList K' t) k) (Dx C G O t (isLs k)) := ⟨fun h => dw_list (h.mono fun _ x => x.ex) e.h⟩
instance s_dwE {K' : PySem.W.Frag} {k : List PyData → Prop} [e : Lkk K' C.K] : Stp (Dw C G O (Ln.iEnumT K' (tCons t tNil)) k) (Dx C G O t (isT fun es => k (enumD es))) := ⟨fun h => dw_enumT (dd_cons (h.mono fun d x => dd_nil (by obtain ⟨es, e, q⟩ := x.ex; exact ⟨es, by rw [e], q⟩))) e.h⟩
instance s_dwEL {K' : PySem.W.Frag} {k : List PyData → Prop} [e : Lkk K' C.K] : Stp (Dw C G O (iEnum K' (tCons t tNil)) k) (Dx C G O t (isLs fun es => k (enumD es))) := ⟨fun h => dw_enum (dd_cons (h.mono fun d x => dd_nil (by obtain ⟨es, e, q⟩ := x.ex; exact ⟨es, by rw [e], q⟩))) e.h⟩
def rngOk (j : Int) : Prop := -(2 ^ 62) ≤ j ∧ j < 2 ^ 62
instance s_dwR1 {k : List PyData → Prop} : Stp (Dw C G O (iRng1 (tCons t tNil)) k) (Dx C G O t (isI fun j => rngOk j ∧ k ((List.range j.toNat).map fun i : Nat => PyData.int (i : Int)))) := ⟨fun h => dw_rng1 (dd_cons (h.mono fun d x => dd_nil (by obtain ⟨j, e, b, q⟩ := x; exact ⟨j, by rw [e], b.1, b.2, q⟩)))⟩
instance s_dwR2 {k : List PyData → Prop} : Stp (Dw C G O (iRng2 (tCons ta (tCons tb tNil))) k) (Dx C G O ta (isI fun i => Dx C G O tb (isI fun j => rngOk i ∧ rngOk j ∧ k ((List.range (j - i).toNat).map fun n : Nat => PyData.int (i + (n : Int)))))) := ⟨fun h => dw_rng2 (dd_cons (h.mono fun d x => by
  obtain ⟨i, e, x⟩ := x
  exact dd_cons (x.mono fun d2 y => dd_nil (by obtain ⟨j, e2, b, b2, q⟩ := y; exact ⟨i, j, by rw [e, e2], ⟨b.1, b.2, b2.1, b2.2⟩, q⟩))))⟩
/-! ### statements -/
variable {u w : TS} {E : En}
instance s_seq : Stp (Ds C G O (tSeq u w) E) (Ds C G O u { E with nx := fun G' O' => Ds C G' O' w E }) := ⟨ds_seq⟩
def SetD (G : List Sv) (i : Nat) (s : Sv) (k : List Sv → Prop) : Prop := k (G.set i s)
instance s_setD {i : Nat} {s : Sv} {G' : List Sv} {k : List Sv → Prop} [e : St G i s G'] : Stp (SetD G i s k) (k G') := ⟨fun h => by unfold SetD; rw [e.h]; exact h⟩
instance (priority := low) s_set {i : Nat} : Stp (Ds C G O (tAsg t (gName i)) E) (Dx C G O t fun d => SetD G i (.dat d) fun G' => E.nx G' O) := ⟨ds_set⟩
instance (priority := low) s_asg {g : TG} : Stp (Ds C G O (tAsg t g) E) (Dx C G O t fun d => Dg C G O none g d fun G' => E.nx G' O) := ⟨ds_asg⟩
instance s_lcs {wi : TI} {g : TG} {tt : TT} {te : TE} {vs : List Nat} {i : Nat} : Stp (Ds C G O (tAsg (tLc wi g tt te vs) (gName i)) E) (Dl C G O (tLc wi g tt te vs) fun ss => ∀ D, C.H0 D = none → SetD G i (.ptr D) fun G' => E.nx G' ((D, .lst ss) :: O)) := ⟨ds_setL⟩
instance s_lsts {ta : TA} {i : Nat} : Stp (Ds C G O (tAsg (tLst ta) (gName i)) E) (Da C G O ta fun ss => szk ss.length (∀ D, C.H0 D = none → SetD G i (.ptr D) fun G' => E.nx G' ((D, .lst ss) :: O))) := ⟨fun h => ds_setL (dl_lst h)⟩
instance s_ifS {c : TT} : Stp (Ds C G O (tIfS c u w) E) (Dt C G O c fun b => if b = true then Ds C G O u E else Ds C G O w E) := ⟨ds_if⟩
instance (priority := low) s_ret : Stp (Ds C G O (tRet t) E) (Dx C G O t fun d => E.rt (.v (.dat d))) := ⟨ds_retD⟩
instance s_retO {i n : Nat} {D : Addr} {ss : List Sv} [e1 : Lk G i (.ptr D)] [e2 : Ok O D n (.lst ss)] : Stp (Ds C G O (tRet (tVar i)) E) (C.H0 D = none ∧ E.rt (.l ss)) := ⟨fun h => ds_retO e1.h e2.h h.1 h.2⟩
instance s_retL {wi : TI} {g : TG} {tt : TT} {te : TE} {vs : List Nat} : Stp (Ds C G O (tRet (tLc wi g tt te vs)) E) (Dl C G O (tLc wi g tt te vs) fun ss => E.rt (.l ss)) := ⟨ds_retL⟩
instance s_retN : Stp (Ds C G O tRetN E) (E.rt (.v (.dat .none))) := ⟨ds_retN⟩
instance s_pass : Stp (Ds C G O tNext E) (E.nx G O) := ⟨ds_pass⟩
instance s_break : Stp (Ds C G O tBreak E) (E.bk G O) := ⟨ds_break⟩
instance s_cont : Stp (Ds C G O tCont E) (E.ct G O) := ⟨ds_cont⟩
instance (priority := low) s_drop : Stp (Ds C G O (tDrop t) E) (Dv C G O t fun _ => E.nx G O) := ⟨ds_drop⟩
def SetO (O : Ow) (n : Nat) (x : Addr × Ob) (k : Ow → Prop) : Prop := k (O.set n x)
instance s_setO {n : Nat} {x : Addr × Ob} {O' : Ow} {k : Ow → Prop} [e : So O n x O'] : Stp (SetO O n x k) (k O') := ⟨fun h => by unfold SetO; rw [e.h]; exact h⟩
instance s_app {K' : PySem.W.Frag} {i n : Nat} {D : Addr} {ss : List Sv} [e : Lkk K' C.K] [e1 : Lk G i (.ptr D)] [e2 : Ok O D n (.lst ss)] : Stp (Ds C G O (tDrop (tBM K' "list" rAppend (tVar i) (tCons t tNil))) E) (ss.length < sizeLine ∧ Dv C G O t fun s => SetO O n (D, .lst (ss ++ [s])) fun O' => E.nx G O') := ⟨fun h => ds_append e1.h e2.h h.1 h.2 e.h⟩
instance s_setIt {i n : Nat} {D : Addr} {ss : List Sv} [e1 : Lk G i (.ptr D)] [e2 : Ok O D n (.lst ss)] : Stp (Ds C G O (tAsg t (gSub (tVar i) tb rSetL)) E) (Dv C G O t fun s => Dx C G O tb (isI fun j => ∃ m, ixN ss.length j = some m ∧ SetO O n (D, .lst (ss.set m s)) fun O' => E.nx G O')) := ⟨fun h => ds_setIt e1.h e2.h h⟩
instance s_aug {i : Nat} {a : Int} [e1 : Lk G i (.dat (.int a))] : Stp (Ds C G O (tAug i t rAdd) E) (Dx C G O t (isI fun j => SetD G i (.dat (.int (a + j))) fun G' => E.nx G' O)) := ⟨fun h => ds_aug e1.h h⟩
instance s_augS {i : Nat} {a : Int} [e1 : Lk G i (.dat (.int a))] : Stp (Ds C G O (tAug i t rSub) E) (Dx C G O t (isI fun j => SetD G i (.dat (.int (a - j))) fun G' => E.nx G' O)) := ⟨fun h => ds_augS e1.h h⟩
end
end Dl
set_option Elab.async false
set_option autoImplicit false
set_option linter.all false
set_option maxRecDepth 100000
set_option maxHeartbeats 4000000
namespace Dl
open PySem PySem.Spec PyProof.Rows L2 Ln
/-! ## raise -/
/-- what an error's __init__ does -/
def spIni (C : Addr) (fs : List Str) : Sp := fun vs H Q _ => ∃ (a : Addr) (zs : List V), vs = V.ref a :: zs ∧ zs.length = fs.length ∧ H a = some (exo a C none) ∧ ∀ dx, H dx = none → dx ≠ a → Q .non (upd (upd H dx (exd dx (fs.zip zs))) a (exo a C (some dx)))
section
variable {C : Cy} {G : List Sv} {O : Ow} {ta : TA} {E : XK}
theorem fsOk_zip {K : PySem.W.Frag} {F : Hp} : ∀ {fs : List Str} {vs : List V} {ds : List PyData}, DpAll K F vs ds → FsOk K F (fs.zip vs) (fs.zip ds)
  | [], _, _, _ => .nil
  | _ :: _, _, _, .nil => .nil
  | _ :: fs, _, _, .cons a b => .cons ⟨rfl, a⟩ (fsOk_zip b)
theorem FsOk.mono {K : PySem.W.Frag} {F F' : Hp} {fs : List (Str × V)} {es : List (Str × PyData)} (h : FsOk K F fs es) (s : Same F F') : FsOk K F' fs es := Paired.mono (fun _ _ q => ⟨q.1, Dp.mono s _ _ q.2⟩) h
/-- an error is made and leaves -/
theorem raised {C : Cy} {F H : Hp} {σ : L2.St} {G : List Sv} {O : Ow} {cls : Addr} {fs : List Str} {vs : List V} {ds : List PyData} {W : Value → Option Addr → Hp → Prop} (r : Rp C F H σ G O) (p : DpAll C.K F vs ds) (hl : vs.length = fs.length) (hz : vs.length ≤ 1000)
    (q : ∀ F' H' dx gs, Same F F' → Rp C F' H' σ G O → C.H0 dx = none → F' dx = some (.xd gs) → FsOk C.K F' gs (fs.zip ds) → W (.ref cls) (some dx) H') : vs.length ≤ 1000 ∧ ∀ a, H a = none → spIni cls fs (.ref a :: (vs ++ [])) (upd H a (exo a cls none))
  (fun v H2 => v = .non ∧ ∃ (d : Addr) (gs : List (Str × V)), H2 a = some (exo a cls (some d)) ∧ H2 d = some (exd d gs) ∧ H d = none ∧ W (.ref cls) (some d) (upd (del H2 a) d (.xd gs))) (fun _ _ _ => False) := by
  refine ⟨hz, fun a na => ⟨a, vs, by rw [List.append_nil], hl, upd_same, fun dx n1 n2 => ⟨rfl, dx, fs.zip vs, upd_same, ?_, ?_, ?_⟩⟩⟩
  · rw [upd_ne n2]
    exact upd_same
  · rw [upd_ne n2] at n1
    exact n1
  · have nd : H dx = none := by rw [upd_ne n2] at n1; exact n1
    have e : (upd (del (upd (upd (upd H a (exo a cls none)) dx (exd dx (fs.zip vs))) a (exo a cls (some dx))) a) dx (.xd (fs.zip vs))) = upd H dx (.xd (fs.zip vs)) := by
      funext b
      by_cases b1 : b = dx
      · rw [b1, upd_same, upd_same]
      · by_cases b2 : b = a
        · rw [upd_ne b1, b2, del_same, upd_ne (fun z => b1 (b2.trans z)), na]
        · rw [upd_ne b1, del_ne b2, upd_ne b2, upd_ne b1, upd_ne b2, upd_ne b1]
    rw [e]
    have s := r.sm (o := .xd (fs.zip vs)) nd
    exact q _ _ dx (fs.zip vs) s (r.newF nd) (r.q.h0 nd) upd_same ((fsOk_zip p).mono s)
theorem ds_raise {cls : Addr} {fs : List Str} {ke : Ke} {D : En} (hE : EOk C E ke) (h : Dd C G O ta fun ds => ds.length = fs.length ∧ ds.length ≤ 1000 ∧ ke cls (fs.zip ds)) : Ds C G O (fun _ σ H => tMkO cls (spIni cls fs) [] ta σ H fun c d H' => E c d H') D := fun X F H σ D' r _ _ _ _ =>
  h X F H σ _ r fun F1 vs H1 ds s1 r1 p ⟨e1, e2, q⟩ => raised r1 p (by rw [dpAll_len p]; exact e1) (by rw [dpAll_len p]; exact e2) fun F' H' dx gs s r' nd e f => hE F' H' cls dx gs _ r'.q nd e f q
/-! ## try -/
def excM (a d : Addr) (K : PySem.W.Frag) (es : List (Str × PyData)) : Mo where
  P := fun F v => v = .ref a ∧ ∃ fs, F d = some (.xd fs) ∧ FsOk K F fs es
  mono := fun s ⟨e, fs, h, k⟩ => ⟨e, fs, s.ex _ _ (fun z => by rcases z with ⟨_, z⟩ | ⟨_, z⟩ <;> cases z) (fun _ _ z => by cases z) h, Paired.mono (fun _ _ q => ⟨q.1, Dp.ry s _ _ q.2⟩) k⟩
/-- statements with a wish of errors -/
def DsW (C : Cy) (G : List Sv) (O : Ow) (tb : WX → TS) (E : En) (ke : Ke) : Prop := ∀ X F H σ (D : Ends) (W : WX), Rp C F H σ G (O ++ X) → NxOk C F X E.nx D.nx → RtOk C F E.rt D.rt → NxOk C F X E.bk D.bk → NxOk C F X E.ct D.ct →
  EOs C X F σ G O (fun c d H => W c d σ H) ke → tb W D σ H
variable {En0 : En} {ke : Ke}
theorem fsOk_look {K : PySem.W.Frag} {F : Hp} : ∀ {fs : List (Str × V)} {es : List (Str × PyData)}, FsOk K F fs es → ∀ {f : Str} {d : PyData}, es.lookup f = some d → ∃ v, fs.lookup f = some v ∧ Dp K F v d
  | _, _, .nil, f, d, e => by cases e
  | (x, v) :: fs, (y, d0) :: es, .cons ⟨h1, h2⟩ t, f, d, e => by
    have h1 : x = y := h1
    subst h1
    rw [List.lookup_cons] at e ⊢
    by_cases c : (f == x) = true
    · rw [c] at e ⊢
      cases e
      exact ⟨v, rfl, h2⟩
    · have c := Bool.eq_false_iff.mpr c
      rw [c] at e ⊢
      exact fsOk_look t e
/-- e.f of a caught error -/
theorem dx_xf {a d cls : Addr} {i : Nat} {f : Str} {es : List (Str × PyData)} {x : PyData} {k : PyData → Prop} (hG : G[i]? = some (.hdl (excM a d C.K es))) (hl : es.lookup f = some x) (q : k x) : Dx C G O (tXf a (.ref cls) (some d) cls f (tVar i)) k := fun X F H σ Q r c => by
  obtain ⟨v, e, rfl, fs, h1, h2⟩ := r.get hG (fun z => by cases z)
  obtain ⟨w, l, p⟩ := fsOk_look h2 hl
  exact ⟨_, e, rfl, rfl, d, fs, w, rfl, r.q.sub _ _ h1, l, c F w H x Gw.refl r p q⟩
def frE (i : Nat) (E : En) : En := { nx := fun G' O' => E.nx (G'.set i .any) O', rt := E.rt, bk := fun G' O' => E.bk (G'.set i .any) O', ct := fun G' O' => E.ct (G'.set i .any) O' }
theorem NxOk.fr {F : Hp} {X : Ow} {nx : List Sv → Ow → Prop} {q : L2.St → Hp → Prop} {i : Nat} (h : NxOk C F X nx q) : NxOk C F X (fun G' O' => nx (G'.set i .any) O') (fun σ' H' => q (σ'.set i none) H') := fun F' σ' H' G' O' s r n => h F' _ H' _ O' s (r.clr i) n
/-- a clause with a name -/
theorem ds_try_as {c : Value} {i : Nat} {ts : Addr → Value → Option Addr → TS} {Wout : WX} {tb : WX → TS} {K' : PySem.W.Frag} (hb : DsW C G O tb En0 ke) (hc : ∀ cls es, ke cls es → PySem.W.exmOne C.K (.ref cls) c = some true ∧ ∀ a d, Ds C (G.set i (.hdl (excM a d C.K es))) O (ts a (.ref cls) (some d)) (frE i En0)) (hK : K' = C.K := by with_unfolding_all rfl) :
    Ds C G O (fun D σ H => tb (wAs K' c i ts Wout D) D σ H) En0 := fun X F H σ D r n1 n2 n3 n4 => by
  subst hK
  refine hb X F H σ D _ r n1 n2 n3 n4 fun F' H' cls dx fs es s r' nd e f q => ?_
  obtain ⟨h1, h2⟩ := hc cls es q
  refine ⟨true, h1, fun _ a na => ?_, fun z => by cases z⟩
  exact h2 a dx X F' H' _ _ (r'.set (s := .hdl (excM a dx C.K es)) ⟨rfl, fs, e, f⟩) (n1.mono s).fr (n2.mono s) (n3.mono s).fr (n4.mono s).fr
/-- several clauses -/
inductive ClsOk (C : Cy) (G : List Sv) (O : Ow) (E : En) (cls : Addr) (es : List (Str × PyData)) : List (Value × Nat × Suite1) → Prop
  | hit {c : Value} {i : Nat} {ts : Suite1} {l : List (Value × Nat × Suite1)} (h : PySem.W.exmOne C.K (.ref cls) c = some true) (q : ∀ a d, Ds C (G.set i (.hdl (excM a d C.K es))) O (ts a (.ref cls) (some d)) (frE i E)) : ClsOk C G O E cls es ((c, i, ts) :: l)
  | no {c : Value} {i : Nat} {ts : Suite1} {l : List (Value × Nat × Suite1)} (h : PySem.W.exmOne C.K (.ref cls) c = some false) (q : ClsOk C G O E cls es l) : ClsOk C G O E cls es ((c, i, ts) :: l)
theorem ds_try_named {Wo : WX} {l : List (Value × Nat × Suite1)} {tb : WX → TS} {K' : PySem.W.Frag} (hb : DsW C G O tb En0 ke) (hc : ∀ cls es, ke cls es → ClsOk C G O En0 cls es l) (hK : K' = C.K := by with_unfolding_all rfl) : Ds C G O (fun D σ H => tb (wNam K' Wo D l) D σ H) En0 := fun X F H σ D r n1 n2 n3 n4 => by
  subst hK
  refine hb X F H σ D _ r n1 n2 n3 n4 fun F' H' cls dx fs es s r' nd e f q => ?_
  have h := hc cls es q
  show wNam C.K Wo D l (.ref cls) (some dx) σ H'
  clear hb hc
  induction h with
  | @hit c i ts l h q => exact ⟨true, h, fun _ a na => q a dx X F' H' _ _ (r'.set (s := .hdl (excM a dx C.K es)) ⟨rfl, fs, e, f⟩) (n1.mono s).fr (n2.mono s) (n3.mono s).fr (n4.mono s).fr, fun z => by cases z⟩
  | no h q ih => exact ⟨false, h, (fun z => by cases z), fun _ => ih⟩
/-! ### what may stand within -/
theorem dw_const {t : TS} (h : Ds C G O t En0) : DsW C G O (fun _ => t) En0 ke := fun X F H σ D W r n1 n2 n3 n4 _ => h X F H σ D r n1 n2 n3 n4
theorem dw_if {c : TT} {t u : WX → TS} (h : Dt C G O c fun b => if b = true then DsW C G O t En0 ke else DsW C G O u En0 ke) : DsW C G O (fun W => tIfS c (t W) (u W)) En0 ke := fun X F H σ D W r n1 n2 n3 n4 e =>
  h X F H σ _ r fun F1 b H1 s1 r1 q => by
    have e1 : EOs C X F1 σ G O (fun c d H => W c d σ H) ke := fun F' H' cls dx fs es s => e F' H' cls dx fs es (s1.sf.trans s)
    cases b
    · refine iteF ?_
      have q : DsW C G O u En0 ke := by simpa using q
      exact q X F1 H1 σ D W r1 (n1.mono s1.sf) (n2.mono s1.sf) (n3.mono s1.sf) (n4.mono s1.sf) e1
    · refine iteT ?_
      have q : DsW C G O t En0 ke := by simpa using q
      exact q X F1 H1 σ D W r1 (n1.mono s1.sf) (n2.mono s1.sf) (n3.mono s1.sf) (n4.mono s1.sf) e1
/-- a call that may raise -/
theorem dw_call {n : Nat} {Wc : Wt} {f : TE → TS} {k : Rs → Prop} (hf : ∀ (X : Ow) (F H : Hp) (σ : L2.St) (D : Ends) (t : TE), Rp C F H σ G (O ++ X) → NxOk C F X En0.nx D.nx → RtOk C F En0.rt D.rt → (∀ Q : VK, (∀ F' v H' s, Gw (O ++ X) F H F' H' → Rp C F' H' σ G (O ++ X) → SvOk C.K F' v s → k (.v s) → Q v H') →
      (∀ F' D' H' ss, Gw (O ++ X) F H F' H' → C.H0 D' = none → Rp C F' H' σ G ((D', .lst ss) :: (O ++ X)) → k (.l ss) → Q (.ref D') H') → t σ H Q) → f t D σ H)
    (h : Da C G O ta fun as => as.length = n ∧ Wc as k ke) : DsW C G O (fun W => f (Ln.tCg (spP C.K n Wc) (fun σ => fun cls d H => W cls d σ H) ta)) En0 ke := fun X F H σ D W r n1 n2 n3 n4 e => by
  refine hf X F H σ D _ r n1 n2 fun Q q1 q2 => ?_
  refine h X F H σ _ r fun F1 vs H1 as s1 r1 p ⟨el, w⟩ => ?_
  refine ⟨by rw [Paired.length p]; exact el, F1, as, _, ke, r1.q.sub, r1.q.tup, p, w, fun F' v H' s b sv q => q1 F' v H' s (s1.trans (r1.gb b)) (r1.called b) sv q, ?_, ?_⟩
  · intro F' D' H' xs ss b nd nf hD pp q
    have r2 := r1.called b
    refine q2 F' D' H' ss (s1.trans (r1.gb b)) (r1.q.h0 nd) ⟨r2.q, r2.len, r2.sl, ?_, ?_⟩ q
    · intro D2 ob m
      rcases List.mem_cons.mp m with m | m
      · cases m
        exact ⟨.inr (r1.q.h0 nd), nf, r1.q.nA nd, _, hD, xs, rfl, pp⟩
      · exact r2.ow D2 ob m
    · rw [List.map_cons, List.nodup_cons]
      refine ⟨fun m => ?_, r2.nd⟩
      obtain ⟨⟨D2, ob⟩, m', e'⟩ := List.mem_map.mp m
      obtain ⟨_, _, _, u, e1, _⟩ := r1.ow D2 ob m'
      have e' : D2 = D' := e'
      rw [e', nd] at e1
      cases e1
  · intro F' cls dx H' fs es b nd hd p q
    exact e F' H' cls dx fs es (s1.sf.trans b.sf) (r1.called b) (r1.q.h0 nd) hd p q
/-- f(..) as a statement -/
theorem dw_drop {n : Nat} {Wc : Wt} {K' : PySem.W.Frag} (h : Da C G O ta fun as => as.length = n ∧ Wc as (fun r => match r with | .v _ => En0.nx G O | .l _ => En0.nx G O) ke) (hK : K' = C.K := by with_unfolding_all rfl) : DsW C G O (fun W => tDrop (Ln.tCg (spP K' n Wc) (fun σ => fun cls d H => W cls d σ H) ta)) En0 ke := by
  subst hK
  exact dw_call (f := tDrop) (fun X F H σ D t r n1 n2 ht => ht _ (fun F' v H' s g r' _ q => n1 F' σ H' G O g.sf r' q) fun F' D' H' ss g n0 r' q => n1 F' σ H' G O g.sf (r'.less (List.sublist_cons_self _ _)) q) h
/-- return f(..) -/
theorem dw_ret {n : Nat} {Wc : Wt} {K' : PySem.W.Frag} (h : Da C G O ta fun as => as.length = n ∧ Wc as En0.rt ke) (hK : K' = C.K := by with_unfolding_all rfl) : DsW C G O (fun W => tRet (Ln.tCg (spP K' n Wc) (fun σ => fun cls d H => W cls d σ H) ta)) En0 ke := by
  subst hK
  refine dw_call (f := tRet) (fun X F H σ D t r n1 n2 ht => ht _ (fun F' v H' s g r' sv q => n2.v F' v H' s g.sf r'.q sv q) fun F' D' H' ss g n0 r' q => ?_) h
  obtain ⟨a, b, c, w, e, xs, rfl, p⟩ := r'.ow D' (.lst ss) List.mem_cons_self
  exact n2.l F' D' H' ss xs g.sf r'.q n0 b c e p q
/-- x = f(..), a value that is data -/
theorem dw_set {n i : Nat} {Wc : Wt} {K' : PySem.W.Frag} (h : Da C G O ta fun as => as.length = n ∧ Wc as (fun r => match r with | .v s => En0.nx (G.set i s) O | .l _ => False) ke) (hK : K' = C.K := by with_unfolding_all rfl) : DsW C G O (fun W => tAsg (Ln.tCg (spP K' n Wc) (fun σ => fun cls d H => W cls d σ H) ta) (gName i)) En0 ke := by
  subst hK
  exact dw_call (f := fun t => tAsg t (gName i)) (fun X F H σ D t r n1 n2 ht => ht _ (fun F' v H' s g r' sv q => n1 F' _ H' _ O g.sf (r'.set sv) q) fun _ _ _ _ _ _ _ q => q.elim) h
end
end Dl
set_option Elab.async false
set_option autoImplicit false
set_option linter.all false
set_option maxRecDepth 100000
set_option maxHeartbeats 4000000
/-! min, max, sorted of data of any shape; bits -/
namespace Dl
open PySem PySem.Spec PyProof.Rows L2 Ln PySem.W
theorem u8 {k : Nat} {A : Around} (h : Room k A) : A.units + 8 < cLine := by
  have := h.units
  omega
theorem vals_at : ∀ {xs : List V} {us : List Value}, Vals xs us → ∀ {i : Nat} {u : Value}, us[i]? = some u → ∃ v, xs[i]? = some v ∧ RelV v u
  | _, _, .nil, i, u, e => by simp at e
  | _, _, .cons r t, 0, u, e => by cases e; exact ⟨_, rfl, r⟩
  | _, _, .cons r t, i + 1, u, e => vals_at t (i := i) (by simpa using e)
theorem foldl_mem {α : Type} {f : α → α → α} (hf : ∀ a b, f a b = a ∨ f a b = b) : ∀ (xs : List α) (x : α), xs.foldl f x ∈ x :: xs
  | [], x => by simp
  | y :: ys, x => by
    rw [List.foldl_cons]
    have := foldl_mem hf ys (f x y)
    rcases List.mem_cons.mp this with e | e
    · rw [e]
      rcases hf x y with z | z
      · rw [z]; simp
      · rw [z]; simp
    · exact List.mem_cons_of_mem _ (List.mem_cons_of_mem _ e)
theorem minD_mem (x : PyData) (xs : List PyData) : minD x xs ∈ x :: xs := foldl_mem (fun a b => by by_cases c : dataLt b a = true <;> simp [c]) xs x
theorem maxD_mem (x : PyData) (xs : List PyData) : maxD x xs ∈ x :: xs := foldl_mem (fun a b => by by_cases c : dataLt a b = true <;> simp [c]) xs x
/-- data that can be compared with one another -/
structure Cmpb (ds : List PyData) : Prop where
  al : AlikeAll ds
  dp : PyData.depthAll ds ≤ 4
section
variable {X : Cx}
/-- the item that reads as d -/
theorem item_of {X : Cx} {pins : List (Addr × Obj)} {σ : L2.St} {H : Hp} {s : Shared} {xs : List V} {us : List Value} {ds : List PyData} (I : Inv X pins σ H s) (rv : Vals xs us) (ha : DpAll X.K H xs ds) (hc : AlikeAll ds) {i : Nat} {u : Value} {h' : Heap} {bs : List Addr} {d : PyData} (hu : us[i]? = some u) (md : d ∈ ds) (rd : PySem.Reads h' u d bs)
    (k : ∀ b o, s.heap.get? b = some o → h'.get? b = some o) : ∃ v, RelV v u ∧ xs[i]? = some v ∧ ds[i]? = some d := by
  obtain ⟨v, hv, r⟩ := vals_at rv hu
  obtain ⟨e, he, p⟩ := dpAll_get ha hv
  obtain ⟨as, q⟩ := L2.Dp.reads I e v u p r
  have := alike_unique e d u as bs (hc.1 _ (List.mem_of_getElem? he) _ md) (reads_keeps k q) rd
  subst this
  exact ⟨v, r, hv, he⟩
def rMinG (K : PySem.W.Frag) : List V → Hp → VK → Prop := fun vs H Q => ∃ (a : Addr) (xs : List V) (x : PyData) (ds : List PyData), vs = [V.ref a] ∧ (SqL K H a xs ∨ SqT K H a xs) ∧ DpAll K H xs (x :: ds) ∧ Cmpb (x :: ds) ∧ ∀ (i : Nat) v, xs[i]? = some v → (x :: ds)[i]? = some (minD x ds) → Q v H
def rMaxG (K : PySem.W.Frag) : List V → Hp → VK → Prop := fun vs H Q => ∃ (a : Addr) (xs : List V) (x : PyData) (ds : List PyData), vs = [V.ref a] ∧ (SqL K H a xs ∨ SqT K H a xs) ∧ DpAll K H xs (x :: ds) ∧ Cmpb (x :: ds) ∧ ∀ (i : Nat) v, xs[i]? = some v → (x :: ds)[i]? = some (maxD x ds) → Q v H
theorem cr_minG (hc : X.calm = true) (hu : X.A.units + 8 < cLine) : CallR X (.builtin "min") (rMinG X.K) := by
  intro pins s σ H vs us Q I r h
  obtain ⟨a, xs, x, ds, rfl, hs, ha, cb, q⟩ := h
  obtain rfl := Vals.ref1 r
  have dp := cb.dp
  rcases hs with hs | hs
  · obtain ⟨its, rv, pl, hz⟩ := I.list hs
    obtain ⟨as, ra⟩ := L2.Dp.readsAll I _ _ _ ha rv
    refine min_list_data (I.ok.hd hc) pl.isList (by simpa using ra) cb.al (by omega) fun i u h' tk bs hv hr hk => ?_
    obtain ⟨v, rr, p, p'⟩ := item_of I rv ha cb.al (by simpa using hv) (minD_mem _ _) hr hk
    exact ⟨v, H, I.kept (t' := tk) hk, rr, q i v p p'⟩
  · obtain ⟨its, rv, pl, hz⟩ := I.tuple hs
    obtain ⟨as, ra⟩ := L2.Dp.readsAll I _ _ _ ha rv
    refine min_tuple_data (I.ok.hd hc) pl (by simpa using ra) cb.al (by omega) fun i u h' tk bs hv hr hk => ?_
    obtain ⟨v, rr, p, p'⟩ := item_of I rv ha cb.al (by simpa using hv) (minD_mem _ _) hr hk
    exact ⟨v, H, I.kept (t' := tk) hk, rr, q i v p p'⟩
theorem cr_maxG (hc : X.calm = true) (hu : X.A.units + 8 < cLine) : CallR X (.builtin "max") (rMaxG X.K) := by
  intro pins s σ H vs us Q I r h
  obtain ⟨a, xs, x, ds, rfl, hs, ha, cb, q⟩ := h
  obtain rfl := Vals.ref1 r
  have dp := cb.dp
  rcases hs with hs | hs
  · obtain ⟨its, rv, pl, hz⟩ := I.list hs
    obtain ⟨as, ra⟩ := L2.Dp.readsAll I _ _ _ ha rv
    refine max_list_data (I.ok.hd hc) pl.isList (by simpa using ra) cb.al (by omega) fun i u h' tk bs hv hr hk => ?_
    obtain ⟨v, rr, p, p'⟩ := item_of I rv ha cb.al (by simpa using hv) (maxD_mem _ _) hr hk
    exact ⟨v, H, I.kept (t' := tk) hk, rr, q i v p p'⟩
  · obtain ⟨its, rv, pl, hz⟩ := I.tuple hs
    obtain ⟨as, ra⟩ := L2.Dp.readsAll I _ _ _ ha rv
    refine max_tuple_data (I.ok.hd hc) pl (by simpa using ra) cb.al (by omega) fun i u h' tk bs hv hr hk => ?_
    obtain ⟨v, rr, p, p'⟩ := item_of I rv ha cb.al (by simpa using hv) (maxD_mem _ _) hr hk
    exact ⟨v, H, I.kept (t' := tk) hk, rr, q i v p p'⟩
/-- min(xs, default=d) -/
def rMinGD (K : PySem.W.Frag) : List V → List V → Hp → VK → Prop := fun vs zs H Q => ∃ (a : Addr) (xs : List V) (z : V) (ds : List PyData), vs = [V.ref a] ∧ zs = [z] ∧ (SqL K H a xs ∨ SqT K H a xs) ∧ DpAll K H xs ds ∧ Cmpb ds ∧ (ds = [] → Q z H) ∧ ∀ x es (i : Nat) v, ds = x :: es → xs[i]? = some v → ds[i]? = some (minD x es) → Q v H
def rMaxGD (K : PySem.W.Frag) : List V → List V → Hp → VK → Prop := fun vs zs H Q => ∃ (a : Addr) (xs : List V) (z : V) (ds : List PyData), vs = [V.ref a] ∧ zs = [z] ∧ (SqL K H a xs ∨ SqT K H a xs) ∧ DpAll K H xs ds ∧ Cmpb ds ∧ (ds = [] → Q z H) ∧ ∀ x es (i : Nat) v, ds = x :: es → xs[i]? = some v → ds[i]? = some (maxD x es) → Q v H
theorem cr_minGD (hc : X.calm = true) (hu : X.A.units + 8 < cLine) : CallRK X (.builtin "min") [Str.ofString "default"] (rMinGD X.K) := by
  intro pins s σ H vs zs us ws Q I r rz h
  obtain ⟨a, xs, z, ds, rfl, rfl, hs, ha, cb, q0, q⟩ := h
  obtain rfl := Vals.ref1 r
  obtain ⟨w1, rfl, e1⟩ := vals1 rz
  have dp := cb.dp
  rcases hs with hs | hs
  · obtain ⟨its, rv, pl, hz⟩ := I.list hs
    obtain ⟨as, ra⟩ := L2.Dp.readsAll I _ _ _ ha rv
    refine min_list_default (xs := ds) (I.ok.hd hc) pl.isList (by simpa using ra) cb.al (by omega) (fun e h' tk hk => ⟨z, H, I.kept (t' := tk) hk, e1, q0 e⟩) fun y ys i u h' tk bs e hv hr hk => ?_
    obtain ⟨v, rr, p, p'⟩ := item_of I rv ha cb.al (by simpa using hv) (by rw [e]; exact minD_mem _ _) hr hk
    exact ⟨v, H, I.kept (t' := tk) hk, rr, q y ys i v e p p'⟩
  · obtain ⟨its, rv, pl, hz⟩ := I.tuple hs
    obtain ⟨as, ra⟩ := L2.Dp.readsAll I _ _ _ ha rv
    refine min_tuple_default (xs := ds) (I.ok.hd hc) pl (by simpa using ra) cb.al (by omega) (fun e h' tk hk => ⟨z, H, I.kept (t' := tk) hk, e1, q0 e⟩) fun y ys i u h' tk bs e hv hr hk => ?_
    obtain ⟨v, rr, p, p'⟩ := item_of I rv ha cb.al (by simpa using hv) (by rw [e]; exact minD_mem _ _) hr hk
    exact ⟨v, H, I.kept (t' := tk) hk, rr, q y ys i v e p p'⟩
theorem cr_maxGD (hc : X.calm = true) (hu : X.A.units + 8 < cLine) : CallRK X (.builtin "max") [Str.ofString "default"] (rMaxGD X.K) := by
  intro pins s σ H vs zs us ws Q I r rz h
  obtain ⟨a, xs, z, ds, rfl, rfl, hs, ha, cb, q0, q⟩ := h
  obtain rfl := Vals.ref1 r
  obtain ⟨w1, rfl, e1⟩ := vals1 rz
  have dp := cb.dp
  rcases hs with hs | hs
  · obtain ⟨its, rv, pl, hz⟩ := I.list hs
    obtain ⟨as, ra⟩ := L2.Dp.readsAll I _ _ _ ha rv
    refine max_list_default (xs := ds) (I.ok.hd hc) pl.isList (by simpa using ra) cb.al (by omega) (fun e h' tk hk => ⟨z, H, I.kept (t' := tk) hk, e1, q0 e⟩) fun y ys i u h' tk bs e hv hr hk => ?_
    obtain ⟨v, rr, p, p'⟩ := item_of I rv ha cb.al (by simpa using hv) (by rw [e]; exact maxD_mem _ _) hr hk
    exact ⟨v, H, I.kept (t' := tk) hk, rr, q y ys i v e p p'⟩
  · obtain ⟨its, rv, pl, hz⟩ := I.tuple hs
    obtain ⟨as, ra⟩ := L2.Dp.readsAll I _ _ _ ha rv
    refine max_tuple_default (xs := ds) (I.ok.hd hc) pl (by simpa using ra) cb.al (by omega) (fun e h' tk hk => ⟨z, H, I.kept (t' := tk) hk, e1, q0 e⟩) fun y ys i u h' tk bs e hv hr hk => ?_
    obtain ⟨v, rr, p, p'⟩ := item_of I rv ha cb.al (by simpa using hv) (by rw [e]; exact maxD_mem _ _) hr hk
    exact ⟨v, H, I.kept (t' := tk) hk, rr, q y ys i v e p p'⟩
/-! ### sorted -/
def sortD (rev : Bool) (ds : List PyData) : List PyData := ds.mergeSort (dataLe rev id)
def rSortG (K : PySem.W.Frag) : List V → Hp → VK → Prop := fun vs H Q => ∃ (a : Addr) (xs : List V) (ds : List PyData), vs = [V.ref a] ∧ SqL K H a xs ∧ DpAll K H xs ds ∧ Cmpb ds ∧ Sortable ds ∧ ∀ p zs, H p = none → (∀ F', DpAll K F' xs ds → DpAll K F' zs (sortD false ds)) → Q (.ref p) (upd H p (.lst zs))
theorem each_zip {us : List Value} : ∀ {xs : List V} {ds : List PyData}, Vals xs us → xs.length = ds.length → EachIs (fun u (b : V × PyData) => RelV b.1 u) us (xs.zip ds) := by
  induction us with
  | nil => intro xs ds r e; cases r; exact .nil
  | cons u us ih =>
    intro xs ds r e
    cases r with
    | cons r t => cases ds with
      | nil => cases e
      | cons d ds => exact .cons r (ih t (by simpa using e))
theorem each_vals : ∀ {us : List Value} {bs : List (V × PyData)}, EachIs (fun u (b : V × PyData) => RelV b.1 u) us bs → Vals (bs.map Prod.fst) us
  | _, _, .nil => .nil
  | _, _, .cons r t => .cons r (each_vals t)
theorem dpAll_zip {K : PySem.W.Frag} {H : Hp} : ∀ {xs : List V} {ds : List PyData}, DpAll K H xs ds → ∀ b ∈ xs.zip ds, Dp K H b.1 b.2
  | _, _, .nil, b, m => by cases m
  | _, _, .cons h t, b, m => by
    rcases List.mem_cons.mp m with e | m
    · rw [e]; exact h
    · exact dpAll_zip t b m
theorem dpAll_of {K : PySem.W.Frag} {H : Hp} : ∀ {bs : List (V × PyData)}, (∀ b ∈ bs, Dp K H b.1 b.2) → DpAll K H (bs.map Prod.fst) (bs.map Prod.snd)
  | [], _ => .nil
  | b :: bs, h => .cons (h b List.mem_cons_self) (dpAll_of fun c m => h c (List.mem_cons_of_mem _ m))
theorem zip_snd : ∀ {xs : List V} {ds : List PyData}, xs.length = ds.length → (xs.zip ds).map Prod.snd = ds
  | [], [], _ => rfl
  | [], _ :: _, e => by cases e
  | _ :: _, [], e => by cases e
  | _ :: xs, d :: ds, e => by
    show d :: (xs.zip ds).map Prod.snd = d :: ds
    rw [zip_snd (by simpa using e)]
theorem depth_mem : ∀ {ds : List PyData} {d : PyData}, d ∈ ds → d.depth ≤ PyData.depthAll ds
  | x :: xs, d, m => by
    simp only [PyData.depthAll]
    rcases List.mem_cons.mp m with e | m
    · rw [e]; exact Nat.le_max_left _ _
    · exact Nat.le_trans (depth_mem m) (Nat.le_max_right _ _)
theorem cr_sortG (hu : X.A.units + 8 < cLine) : CallR X (.builtin "sorted") (rSortG X.K) := by
  intro pins s σ H vs us Q I r h
  obtain ⟨a, xs, ds, rfl, hs, ha, cb, so, q⟩ := h
  obtain rfl := Vals.ref1 r
  have dp := cb.dp
  obtain ⟨its, rv, hl, hz⟩ := I.list hs
  have el := dpAll_len ha
  have e := each_zip rv el
  have es := zip_snd el
  have er : EachIs (fun v (b : V × PyData) => ∃ as, PySem.Reads s.heap v b.2 as) its (xs.zip ds) := by
    have hm := dpAll_zip ha
    clear es el dp so cb q hs hl hz ha
    generalize xs.zip ds = bs at e hm
    clear rv
    induction e with
    | nil => exact .nil
    | @cons u b us bs r t ih => exact .cons (L2.Dp.reads I b.2 b.1 u (hm b List.mem_cons_self) r) (ih fun c m => hm c (List.mem_cons_of_mem _ m))
  refine sorted_data (R := fun u (b : V × PyData) => RelV b.1 u) (enc := Prod.snd) hl.isList e er (by rw [es]; exact fun d hd d' hd' => cb.al.1 d hd d' hd') (by rw [es]; exact so) (by rw [List.length_zip, el, Nat.min_self, ← el]; exact hz) (fun b hb => ?_) fun out _ eo => ?_
  · have : b.2 ∈ ds := by rw [← es]; exact List.mem_map_of_mem hb
    have := depth_mem this
    omega
  · have em : ((xs.zip ds).mergeSort (dataLe false Prod.snd)).map Prod.snd = sortD false ds := by
      unfold sortD
      conv => rhs; rw [← es]
      exact List.map_mergeSort fun _ _ _ _ => rfl
    obtain ⟨n, hn⟩ := sortedAll_at s.heap its out.toArray
    have rz := each_vals eo
    have hzz : (((xs.zip ds).mergeSort (dataLe false Prod.snd)).map Prod.fst).length ≤ sizeLine := by
      rw [List.length_map, List.length_mergeSort, List.length_zip, el, Nat.min_self, ← el]
      exact hz
    refine ⟨.ref _, upd H (s.heap.objs.size + 1) (.lst (((xs.zip ds).mergeSort (dataLe false Prod.snd)).map Prod.fst)), I.laid (t' := s.toks) (fun b o e => sortedAll_old e) (Nat.le_succ _) ⟨hzz, out, n, rz, hn⟩, rfl, q _ _ (I.hok.fresh (Nat.le_succ _)) ?_⟩
    intro F' ha'
    rw [← em]
    exact dpAll_of fun b hb => dpAll_zip ha' b ((List.mergeSort_perm _ _).mem_iff.mp hb)
end
/-! ## by data -/
section
variable {C : Cy} {G : List Sv} {O : Ow} {t : TE} {k : PyData → Prop}
def minK (k : PyData → Prop) (ds : List PyData) : Prop := ∃ x es, ds = x :: es ∧ Cmpb ds ∧ k (minD x es)
def maxK (k : PyData → Prop) (ds : List PyData) : Prop := ∃ x es, ds = x :: es ∧ Cmpb ds ∧ k (maxD x es)
theorem dx_minG {K' : PySem.W.Frag} [e : Lkk K' C.K] (h : Dx C G O t (isQ (minK k))) : Dx C G O (tCB (rMinG K') (tCons t tNil)) k := fun X F H σ Q r c => by
  rw [e.h]
  exact h X F H σ _ r fun F1 v H1 d s1 r1 p1 ⟨ds, ed, x, es, e, cb, q⟩ => by
    subst e
    have fin : ∀ (a : Addr) (xs : List V), (SqL C.K F1 a xs ∨ SqT C.K F1 a xs) → DpAll C.K F1 xs (x :: es) → rMinG C.K [V.ref a] H1 Q := fun a xs hs ha =>
      ⟨a, xs, x, es, rfl, hs.elim (fun z => .inl (r1.q.sub.seq z)) (fun z => .inr (Same.tup r1.q.sub z)), DpAll.mono r1.q.sub _ _ ha, cb, fun i v e1 e2 => by
        obtain ⟨d, hd, pd⟩ := dpAll_get ha e1
        rw [e2] at hd; cases hd
        exact c F1 v H1 _ s1 r1 pd q⟩
    rcases ed with ed | ed
    · subst ed
      cases p1 with
      | @tup a xs _ hs ha => exact fin a xs (.inr hs) ha
    · subst ed
      cases p1 with
      | @lst a xs _ hs ha => exact fin a xs (.inl hs) ha
theorem dx_maxG {K' : PySem.W.Frag} [e : Lkk K' C.K] (h : Dx C G O t (isQ (maxK k))) : Dx C G O (tCB (rMaxG K') (tCons t tNil)) k := fun X F H σ Q r c => by
  rw [e.h]
  exact h X F H σ _ r fun F1 v H1 d s1 r1 p1 ⟨ds, ed, x, es, e, cb, q⟩ => by
    subst e
    have fin : ∀ (a : Addr) (xs : List V), (SqL C.K F1 a xs ∨ SqT C.K F1 a xs) → DpAll C.K F1 xs (x :: es) → rMaxG C.K [V.ref a] H1 Q := fun a xs hs ha =>
      ⟨a, xs, x, es, rfl, hs.elim (fun z => .inl (r1.q.sub.seq z)) (fun z => .inr (Same.tup r1.q.sub z)), DpAll.mono r1.q.sub _ _ ha, cb, fun i v e1 e2 => by
        obtain ⟨d, hd, pd⟩ := dpAll_get ha e1
        rw [e2] at hd; cases hd
        exact c F1 v H1 _ s1 r1 pd q⟩
    rcases ed with ed | ed
    · subst ed
      cases p1 with
      | @tup a xs _ hs ha => exact fin a xs (.inr hs) ha
    · subst ed
      cases p1 with
      | @lst a xs _ hs ha => exact fin a xs (.inl hs) ha
def minKD (k : PyData → Prop) (ds : List PyData) (z : PyData) : Prop := Cmpb ds ∧ (ds = [] → k z) ∧ ∀ x es, ds = x :: es → k (minD x es)
def maxKD (k : PyData → Prop) (ds : List PyData) (z : PyData) : Prop := Cmpb ds ∧ (ds = [] → k z) ∧ ∀ x es, ds = x :: es → k (maxD x es)
theorem dx_minGD {K' : PySem.W.Frag} {td : TE} [e : Lkk K' C.K] (h : Dx C G O t (isQ fun ds => Dx C G O td fun z => minKD k ds z)) : Dx C G O (tCKw (rMinGD K') (tCons t tNil) (tCons td tNil)) k := fun X F H σ Q r c => by
  rw [e.h]
  exact h X F H σ _ r fun F1 v H1 d s1 r1 p1 ⟨ds, ed, h2⟩ => h2 X F1 H1 σ _ r1 fun F2 w H2 z s2 r2 p2 ⟨cb, q0, q⟩ => by
    have fin : ∀ (a : Addr) (xs : List V), (SqL C.K F2 a xs ∨ SqT C.K F2 a xs) → DpAll C.K F2 xs ds → rMinGD C.K [V.ref a] [w] H2 Q := fun a xs hs ha =>
      ⟨a, xs, w, ds, rfl, rfl, hs.elim (fun z => .inl (r2.q.sub.seq z)) (fun z => .inr (Same.tup r2.q.sub z)), DpAll.mono r2.q.sub _ _ ha, cb, fun e => c F2 w H2 z (s1.trans s2) r2 p2 (q0 e), fun x es i v e e1 e2 => by
        obtain ⟨d, hd, pd⟩ := dpAll_get ha e1
        rw [e2] at hd; cases hd
        exact c F2 v H2 _ (s1.trans s2) r2 pd (q x es e)⟩
    rcases ed with ed | ed
    · subst ed
      cases Dp.mono s2.sf _ _ p1 with
      | @tup a xs _ hs ha => exact fin a xs (.inr hs) ha
    · subst ed
      cases Dp.mono s2.sf _ _ p1 with
      | @lst a xs _ hs ha => exact fin a xs (.inl hs) ha
theorem dx_maxGD {K' : PySem.W.Frag} {td : TE} [e : Lkk K' C.K] (h : Dx C G O t (isQ fun ds => Dx C G O td fun z => maxKD k ds z)) : Dx C G O (tCKw (rMaxGD K') (tCons t tNil) (tCons td tNil)) k := fun X F H σ Q r c => by
  rw [e.h]
  exact h X F H σ _ r fun F1 v H1 d s1 r1 p1 ⟨ds, ed, h2⟩ => h2 X F1 H1 σ _ r1 fun F2 w H2 z s2 r2 p2 ⟨cb, q0, q⟩ => by
    have fin : ∀ (a : Addr) (xs : List V), (SqL C.K F2 a xs ∨ SqT C.K F2 a xs) → DpAll C.K F2 xs ds → rMaxGD C.K [V.ref a] [w] H2 Q := fun a xs hs ha =>
      ⟨a, xs, w, ds, rfl, rfl, hs.elim (fun z => .inl (r2.q.sub.seq z)) (fun z => .inr (Same.tup r2.q.sub z)), DpAll.mono r2.q.sub _ _ ha, cb, fun e => c F2 w H2 z (s1.trans s2) r2 p2 (q0 e), fun x es i v e e1 e2 => by
        obtain ⟨d, hd, pd⟩ := dpAll_get ha e1
        rw [e2] at hd; cases hd
        exact c F2 v H2 _ (s1.trans s2) r2 pd (q x es e)⟩
    rcases ed with ed | ed
    · subst ed
      cases Dp.mono s2.sf _ _ p1 with
      | @tup a xs _ hs ha => exact fin a xs (.inr hs) ha
    · subst ed
      cases Dp.mono s2.sf _ _ p1 with
      | @lst a xs _ hs ha => exact fin a xs (.inl hs) ha
instance s_minG {K' : PySem.W.Frag} [e : Lkk K' C.K] : Stp (Dx C G O (tCB (rMinG K') (tCons t tNil)) k) (Dx C G O t (isQ (minK k))) := ⟨dx_minG⟩
instance s_maxG {K' : PySem.W.Frag} [e : Lkk K' C.K] : Stp (Dx C G O (tCB (rMaxG K') (tCons t tNil)) k) (Dx C G O t (isQ (maxK k))) := ⟨dx_maxG⟩
instance s_minGD {K' : PySem.W.Frag} {td : TE} [e : Lkk K' C.K] : Stp (Dx C G O (tCKw (rMinGD K') (tCons t tNil) (tCons td tNil)) k) (Dx C G O t (isQ fun ds => Dx C G O td fun z => minKD k ds z)) := ⟨dx_minGD⟩
instance s_maxGD {K' : PySem.W.Frag} {td : TE} [e : Lkk K' C.K] : Stp (Dx C G O (tCKw (rMaxGD K') (tCons t tNil) (tCons td tNil)) k) (Dx C G O t (isQ fun ds => Dx C G O td fun z => maxKD k ds z)) := ⟨dx_maxGD⟩
def sortK (k : List Sv → Prop) (ds : List PyData) : Prop := Cmpb ds ∧ Sortable ds ∧ k ((sortD false ds).map Sv.dat)
theorem dl_sortG {K' : PySem.W.Frag} {k : List Sv → Prop} [e : Lkk K' C.K] (h : Dx C G O t (isLs (sortK k))) : Dl C G O (tCB (rSortG K') (tCons t tNil)) k := fun X F H σ Q r c => by
  rw [e.h]
  exact h X F H σ _ r fun F1 v H1 d s1 r1 p1 ⟨ds, ed, cb, so, q⟩ => by
    subst ed
    cases p1 with
    | @lst a xs _ hs ha =>
      exact ⟨a, xs, ds, rfl, r1.q.sub.seq hs, DpAll.mono r1.q.sub _ _ ha, cb, so, fun p zs np hz => c F1 p _ _ (s1.trans (r1.gn np)) (r1.q.h0 np) (r1.newO (ob := .lst ((sortD false ds).map Sv.dat)) np ⟨zs, rfl, Paired.ofAll (hz F1 ha)⟩) q⟩
instance s_sortX {K' : PySem.W.Frag} [e : Lkk K' C.K] : Stp (Dx C G O (tCB (rSortG K') (tCons t tNil)) k) (Dx C G O t (isLs (sortK fun ss => ∃ ds : List PyData, ss = ds.map Sv.dat ∧ k (.list ds)))) := ⟨fun h => dx_dl (dl_sortG h)⟩
/-! ### lists made, of data -/
theorem dx_lstD {u : TA} (h : Dd C G O u fun ds => szk ds.length (k (.list ds))) : Dx C G O (tLst u) k := dx_dl (dl_lst (da_dd fun X F H σ Q r c => h X F H σ Q r fun F' vs H' ds g r' p q => c F' vs H' ds g r' p ⟨by rw [List.length_map]; exact q.1, ds, rfl, q.2⟩))
instance s_lstD {u : TA} : Stp (Dx C G O (tLst u) k) (Dd C G O u fun ds => szk ds.length (k (.list ds))) := ⟨dx_lstD⟩
/-- a comprehension, frozen -/
instance (priority := low) s_lcX {wi : TI} {g : TG} {tt : TT} {te : TE} {vs : List Nat} : Stp (Dx C G O (tLc wi g tt te vs) k) (Dl C G O (tLc wi g tt te vs) fun ss => ∃ ds : List PyData, ss = ds.map Sv.dat ∧ k (.list ds)) := ⟨dx_dl⟩
/-! ### bits -/
theorem dx_and2 {ta tb : TE} (h : Dx C G O ta (isI fun i => Dx C G O tb (isI fun j => k (.int (Builtin.bitAnd i j))))) : Dx C G O (tOp (rI0 fun i j => V.int (Builtin.bitAnd i j)) ta tb) k := dx_rI0 (g := fun i j => Builtin.bitAnd i j) h
instance s_and2 {ta tb : TE} : Stp (Dx C G O (tOp (rI0 fun i j => V.int (Builtin.bitAnd i j)) ta tb) k) (Dx C G O ta (isI fun i => Dx C G O tb (isI fun j => k (.int (Builtin.bitAnd i j))))) := ⟨dx_and2⟩
instance s_shl {ta tb : TE} : Stp (Dx C G O (tOp (rI CPow fun i j => V.int (i * 2 ^ j.toNat)) ta tb) k) (Dx C G O ta (isI fun i => Dx C G O tb (isI fun j => CPow i j ∧ k (.int (i * 2 ^ j.toNat))))) := ⟨dx_rI (g := fun i j => i * 2 ^ j.toNat)⟩
instance s_shr {ta tb : TE} : Stp (Dx C G O (tOp (rI (fun _ j => 0 ≤ j) fun i j => V.int (i / 2 ^ j.toNat)) ta tb) k) (Dx C G O ta (isI fun i => Dx C G O tb (isI fun j => 0 ≤ j ∧ k (.int (i / 2 ^ j.toNat))))) := ⟨dx_rI (P := fun _ j => 0 ≤ j) (g := fun i j => i / 2 ^ j.toNat)⟩
theorem dx_bits (h : Dx C G O t (isI fun i => k (.int (Builtin.Int.intBits i : Nat)))) : Dx C G O (tBits t) k := fun X F H σ Q r c =>
  h X F H σ _ r fun F1 v H1 d s1 r1 p1 ⟨i, e, q⟩ => by
    subst e; cases p1
    exact ⟨i, rfl, c F1 _ H1 _ s1 r1 (.int _) q⟩
instance s_bits : Stp (Dx C G O (tBits t) k) (Dx C G O t (isI fun i => k (.int (Builtin.Int.intBits i : Nat)))) := ⟨dx_bits⟩
/-! ### truth -/
def truD : PyData → Option Bool
  | .none => some false
  | .bool b => some b
  | .int i => some (i != 0)
  | .tuple ds => some (!ds.isEmpty)
  | .list ds => some (!ds.isEmpty)
  | _ => none
structure truK (k : Bool → Prop) (d : PyData) : Prop where
  ex : ∃ b, truD d = some b ∧ k b
theorem dt_tru {K' : PySem.W.Frag} {k : Bool → Prop} [e : Lkk K' C.K] (h : Dx C G O t (truK k)) : Dt C G O (Ln.tTruK K' t) k := fun X F H σ Q r c => by
  rw [e.h]
  exact h X F H σ _ r fun F1 v H1 d s1 r1 p1 ⟨b, e, q⟩ => by
    refine ⟨b, ?_, c F1 b H1 s1 r1 q⟩
    cases p1 with
    | non => cases e; rfl
    | bl b => cases e; rfl
    | int i => cases e; rfl
    | str x => cases e
    | @lst a xs ds hs ha =>
      cases e
      refine .inl ⟨xs, r1.q.sub.seq hs, ?_⟩
      have := dpAll_len ha
      cases xs <;> cases ds <;> first | rfl | cases this
    | @tup a xs ds hs ha =>
      cases e
      refine .inr (.inl ⟨xs, Same.tup r1.q.sub hs, ?_⟩)
      have := dpAll_len ha
      cases xs <;> cases ds <;> first | rfl | cases this
instance s_tru {K' : PySem.W.Frag} {k : Bool → Prop} [e : Lkk K' C.K] : Stp (Dt C G O (Ln.tTruK K' t) k) (Dx C G O t (truK k)) := ⟨dt_tru⟩
instance s_trub {k : Bool → Prop} {b : Bool} : Stp (truK k (.bool b)) (k b) := ⟨fun h => ⟨b, rfl, h⟩⟩
instance s_trui {k : Bool → Prop} {b : Int} : Stp (truK k (.int b)) (k (b != 0)) := ⟨fun h => ⟨_, rfl, h⟩⟩
instance s_trun {k : Bool → Prop} : Stp (truK k .none) (k false) := ⟨fun h => ⟨_, rfl, h⟩⟩
instance s_trut {k : Bool → Prop} {ds : List PyData} : Stp (truK k (.tuple ds)) (k (!ds.isEmpty)) := ⟨fun h => ⟨_, rfl, h⟩⟩
instance s_trul {k : Bool → Prop} {ds : List PyData} : Stp (truK k (.list ds)) (k (!ds.isEmpty)) := ⟨fun h => ⟨_, rfl, h⟩⟩
theorem dpAll_strs {K : PySem.W.Frag} {F : Hp} : ∀ {us : List V} {xs : List Str}, DpAll K F us (xs.map .str) → us = xs.map V.str
  | _, [], .nil => rfl
  | _, x :: xs, .cons a b => by cases a; rw [dpAll_strs b]; rfl
theorem dpAll_ints {K : PySem.W.Frag} {F : Hp} : ∀ {us : List V} {xs : List Int}, DpAll K F us (xs.map .int) → us = xs.map V.int
  | _, [], .nil => rfl
  | _, x :: xs, .cons a b => by cases a; rw [dpAll_ints b]; rfl
end
end Dl
set_option Elab.async false
set_option autoImplicit false
set_option linter.all false
set_option maxRecDepth 100000
set_option maxHeartbeats 4000000
/-! lists within lists, reversed lists, and bits of numbers -/
namespace Dl
open PySem PySem.Spec PyProof.Rows L2 Ln
/-! ## what one's own thing reads as -/
mutual
inductive OwD (O : Ow) : Sv → PyData → Prop
  | dat (d : PyData) : OwD O (.dat d) d
  | ptr {D : Addr} {ss : List Sv} {ds : List PyData} (m : (D, Ob.lst ss) ∈ O) (h : OwDs O ss ds) : OwD O (.ptr D) (.list ds)
inductive OwDs (O : Ow) : List Sv → List PyData → Prop
  | nil : OwDs O [] []
  | cons {s : Sv} {d : PyData} {ss : List Sv} {ds : List PyData} (a : OwD O s d) (b : OwDs O ss ds) : OwDs O (s :: ss) (d :: ds)
end
mutual
theorem OwD.dp {C : Cy} {F H : Hp} {σ : L2.St} {G : List Sv} {O X : Ow} (r : Rp C F H σ G (O ++ X)) : ∀ {s : Sv} {d : PyData} {v : V}, OwD O s d → SvOk C.K F v s → Dp C.K H v d
  | _, _, _, .dat d, p => Dp.mono r.q.sub _ _ p
  | _, _, _, .ptr (D := D) m h, p => by
    cases p
    obtain ⟨_, _, _, u, e, xs, rfl, k⟩ := r.ow D _ (List.mem_append_left _ m)
    exact .lst (SqL.of e) (OwDs.dp r h k)
theorem OwDs.dp {C : Cy} {F H : Hp} {σ : L2.St} {G : List Sv} {O X : Ow} (r : Rp C F H σ G (O ++ X)) : ∀ {ss : List Sv} {ds : List PyData} {vs : List V}, OwDs O ss ds → Paired (SvOk C.K F) vs ss → DpAll C.K H vs ds
  | _, _, _, .nil, .nil => .nil
  | _, _, _, .cons a b, .cons p q => .cons (OwD.dp r a p) (OwDs.dp r b q)
end
section
variable {C : Cy} {G : List Sv} {O : Ow} {t ta tb : TE} {k : PyData → Prop}
theorem dx_eqO (h : Dv C G O ta fun a => Dv C G O tb fun b => ∃ d e, OwD O a d ∧ OwD O b e ∧ SeqAt.shaped d = true ∧ SeqAt.shaped e = true ∧ k (.bool (PyData.eqv d e))) : Dx C G O (tOp (rEqD C.K) ta tb) k := fun X F H σ Q r c =>
  h X F H σ _ r fun F1 v H1 s s1 r1 p1 h2 => h2 X F1 H1 σ _ r1 fun F2 w H2 s' s2 r2 p2 ⟨d, e, o1, o2, e1, e2, q⟩ =>
    ⟨d, e, o1.dp r2 (p1.mono s2.sf), o2.dp r2 p2, e1, e2, c F2 _ H2 _ (s1.trans s2) r2 (.bl _) q⟩
theorem dx_neO (h : Dv C G O ta fun a => Dv C G O tb fun b => ∃ d e, OwD O a d ∧ OwD O b e ∧ SeqAt.shaped d = true ∧ SeqAt.shaped e = true ∧ k (.bool (!PyData.eqv d e))) : Dx C G O (tOp (rNeD C.K) ta tb) k := fun X F H σ Q r c =>
  h X F H σ _ r fun F1 v H1 s s1 r1 p1 h2 => h2 X F1 H1 σ _ r1 fun F2 w H2 s' s2 r2 p2 ⟨d, e, o1, o2, e1, e2, q⟩ =>
    ⟨d, e, o1.dp r2 (p1.mono s2.sf), o2.dp r2 p2, e1, e2, c F2 _ H2 _ (s1.trans s2) r2 (.bl _) q⟩
/-- t.append(e), t any expression that is a list of one's own -/
theorem ds_appendV {E : En} {K' : PySem.W.Frag} (h : Dv C G O ta fun s => ∃ D n ss, s = .ptr D ∧ O[n]? = some (D, .lst ss) ∧ ss.length < sizeLine ∧ Dv C G O tb fun s => E.nx G (O.set n (D, .lst (ss ++ [s])))) (hK : K' = C.K := by with_unfolding_all rfl) : Ds C G O (tDrop (tBM K' "list" rAppend ta (tCons tb tNil))) E := fun X F H σ D' r n1 _ _ _ => by
  subst hK
  refine h X F H σ _ r fun F1 v H1 s s1 r1 p1 ⟨D, n, ss, es, hO, hz, h2⟩ => ?_
  subst es; cases p1
  obtain ⟨w, e, xs, rfl, p⟩ := r1.obj (app_get (X := X) hO)
  refine ⟨.inl ⟨rfl, xs, SqL.of e⟩, h2 X F1 H1 σ _ r1 fun F2 v H2 s s2 r2 p2 q => ?_⟩
  obtain ⟨w, e, xs, rfl, p⟩ := r2.obj (app_get (X := X) hO)
  refine ⟨D, xs, v, rfl, rfl, e, by rw [Paired.length p]; exact hz, ?_⟩
  have r3 := r2.wr (app_get (X := X) hO) (ob' := .lst (ss ++ [s])) (u := .lst (xs ++ [v])) ⟨_, rfl, Paired.snoc p p2⟩
  rw [app_set hO] at r3
  exact n1 F2 σ _ G _ (s1.trans s2).sf r3 q
/-! ## reversed -/
theorem dpAll_snoc {K : PySem.W.Frag} {F : Hp} {v : V} {d : PyData} : ∀ {vs : List V} {ds : List PyData}, DpAll K F vs ds → Dp K F v d → DpAll K F (vs ++ [v]) (ds ++ [d])
  | _, _, .nil, h => .cons h .nil
  | _, _, .cons a b, h => .cons a (dpAll_snoc b h)
theorem dpAll_rev {K : PySem.W.Frag} {F : Hp} : ∀ {vs : List V} {ds : List PyData}, DpAll K F vs ds → DpAll K F vs.reverse ds.reverse
  | _, _, .nil => .nil
  | _, _, .cons a b => by rw [List.reverse_cons, List.reverse_cons]; exact dpAll_snoc (dpAll_rev b) a
theorem dx_revT {K' : PySem.W.Frag} [e : Lkk K' C.K] (h : Dx C G O t (isT fun ds => k (.tuple ds.reverse))) : Dx C G O (tRevT K' t) k := fun X F H σ Q r c => by
  rw [e.h]
  exact h X F H σ _ r fun F1 v H1 d s1 r1 p1 ⟨ds, ed, q⟩ => by
    subst ed
    cases p1 with
    | @tup a xs _ hs ha =>
      refine ⟨a, xs, rfl, Same.tup r1.q.sub hs, fun p np => ?_⟩
      have r2 := r1.newF (o := .tup xs.reverse) np
      have s2 := r1.gm (o := .tup xs.reverse) np
      exact c _ _ _ _ (s1.trans s2) r2 (.tup (SqT.of upd_same) (DpAll.mono s2.sf _ _ (dpAll_rev ha))) q
instance s_revT {K' : PySem.W.Frag} [e : Lkk K' C.K] : Stp (Dx C G O (tRevT K' t) k) (Dx C G O t (isT fun ds => k (.tuple ds.reverse))) := ⟨dx_revT⟩
theorem paired_rev {α β : Type} {R : α → β → Prop} {xs : List α} {ys : List β} (h : Paired R xs ys) : Paired R xs.reverse ys.reverse := by
  induction h with
  | nil => exact .nil
  | cons a b ih => rw [List.reverse_cons, List.reverse_cons]; exact Paired.snoc ih a
/-- of a list of one's own -/
theorem dl_revLO {K' : PySem.W.Frag} {i n : Nat} {D : Addr} {ss : List Sv} {k : List Sv → Prop} [e : Lkk K' C.K] (hG : G[i]? = some (.ptr D)) (hO : O[n]? = some (D, .lst ss)) (q : k ss.reverse) : Dl C G O (tRevL K' (tVar i)) k := fun X F H σ Q r c => by
  rw [e.h]
  obtain ⟨v, a, b⟩ := r.get hG (fun z => by cases z)
  cases b
  obtain ⟨u, e, xs, rfl, p⟩ := r.obj (app_get (X := X) hO)
  exact ⟨_, a, D, xs, rfl, SqL.of e, fun l nl => c F l _ _ (r.gn nl) (r.q.h0 nl) (r.newO (ob := .lst ss.reverse) nl ⟨_, rfl, paired_rev p⟩) q⟩
instance s_retRev {K' : PySem.W.Frag} {E : En} {i n : Nat} {D : Addr} {ss : List Sv} [e : Lkk K' C.K] [e1 : Lk G i (.ptr D)] [e2 : Ok O D n (.lst ss)] : Stp (Ds C G O (tRet (tRevL K' (tVar i))) E) (E.rt (.l ss.reverse)) := ⟨fun h => ds_retL (dl_revLO e1.h e2.h h)⟩
/-! ## lists within a list are frozen -/
theorem Rp.melt {H : Hp} {σ : L2.St} {P : Addr} : ∀ {rows : List (Addr × List PyData)} {ds0 : List PyData} {F : Hp} {O2 : Ow}, (∀ r ∈ rows, C.H0 r.1 = none) → Rp C F H σ G ((P, .lst (ds0.map Sv.dat ++ rows.map fun r => Sv.ptr r.1)) :: (rows.map (fun r => (r.1, Ob.lst (r.2.map Sv.dat))) ++ O2)) →
    ∃ F', Same F F' ∧ Rp C F' H σ G ((P, .lst ((ds0 ++ rows.map fun r => PyData.list r.2).map Sv.dat)) :: O2)
  | [], ds0, F, O2, _, r => ⟨F, Same.refl F, by simpa using r⟩
  | (D, es) :: rows, ds0, F, O2, h0, r => by
    obtain ⟨F1, u, s1, e1, ⟨xs, rfl, p⟩, r1⟩ := r.frz (n := 1) (D := D) (ob := .lst (es.map Sv.dat)) (h0 (D, es) List.mem_cons_self) rfl
    have r1 : Rp C F1 H σ G ((P, .lst (ds0.map Sv.dat ++ (Sv.ptr D :: rows.map fun r => Sv.ptr r.1))) :: (rows.map (fun r => (r.1, Ob.lst (r.2.map Sv.dat))) ++ O2)) := r1
    have r2 : Rp C F1 H σ G ((P, .lst ((ds0 ++ [PyData.list es]).map Sv.dat ++ rows.map fun r => Sv.ptr r.1)) :: (rows.map (fun r => (r.1, Ob.lst (r.2.map Sv.dat))) ++ O2)) := by
      refine ⟨r1.q, r1.len, r1.sl, fun D' ob m => ?_, r1.nd⟩
      rcases List.mem_cons.mp m with m | m
      · cases m
        obtain ⟨a, b, c, u, eu, xs', rfl, pp⟩ := r1.ow P _ List.mem_cons_self
        refine ⟨a, b, c, _, eu, xs', rfl, ?_⟩
        rw [List.map_append, List.append_assoc]
        have gen : ∀ {as : List Sv} {zs : List V} {bs : List Sv}, Paired (SvOk C.K F1) zs (as ++ Sv.ptr D :: bs) → Paired (SvOk C.K F1) zs (as ++ ([PyData.list es].map Sv.dat ++ bs)) := by
          intro as
          induction as with
          | nil => intro zs bs h; cases h with
            | cons a b => cases a; exact .cons (.lst (SqL.of e1) (Paired.det p rfl)) b
          | cons a as ih => intro zs bs h; cases h with
            | cons a b => exact .cons a (ih b)
        exact gen pp
      · exact r1.ow D' ob (List.mem_cons_of_mem _ m)
    obtain ⟨F2, s2, r3⟩ := Rp.melt (fun r hr => h0 r (List.mem_cons_of_mem _ hr)) r2
    exact ⟨F2, s1.trans s2, by simpa using r3⟩
theorem ds_melt {t : TS} {E : En} {i : Nat} {P : Addr} {rows : List (Addr × List PyData)} {O2 : Ow} (h0 : ∀ r ∈ rows, C.H0 r.1 = none) (hP : C.H0 P = none) (hG : G[i]? = some (.ptr P)) (h : Ds C (G.set i (.dat (.list (rows.map fun r => PyData.list r.2)))) O2 t E) : Ds C G ((P, .lst (rows.map fun r => Sv.ptr r.1)) :: (rows.map (fun r => (r.1, Ob.lst (r.2.map Sv.dat))) ++ O2)) t E := fun X F H σ D r n1 n2 n3 n4 => by
  have r' : Rp C F H σ G ((P, .lst (([] : List PyData).map Sv.dat ++ rows.map fun r => Sv.ptr r.1)) :: (rows.map (fun r => (r.1, Ob.lst (r.2.map Sv.dat))) ++ (O2 ++ X))) := by
    rw [← List.append_assoc]; exact r
  obtain ⟨F1, s1, r1⟩ := Rp.melt h0 r'
  have hh : Ds C G ((P, .lst ((rows.map fun r => PyData.list r.2).map Sv.dat)) :: O2) t E := ds_frz (n := 0) rfl hG hP h
  exact hh X F1 H σ D r1 (n1.mono s1) (n2.mono s1) (n3.mono s1) (n4.mono s1)
end
/-! ## bits -/
theorem bitAnd_nn (m n : Nat) : Builtin.bitAnd (m : Int) (n : Int) = ((m &&& n : Nat) : Int) := by
  unfold Builtin.bitAnd
  rw [decide_eq_true (Int.natCast_nonneg m), decide_eq_true (Int.natCast_nonneg n)]
  rfl
theorem and_pow_pos (n p : Nat) : decide (0 < n &&& 2 ^ p) = n.testBit p := by
  have h : n &&& 2 ^ p = if n.testBit p then 2 ^ p else 0 := by
    refine Nat.eq_of_testBit_eq fun i => ?_
    rw [Nat.testBit_and, Nat.testBit_two_pow]
    by_cases e : p = i
    · subst e
      cases n.testBit p <;> simp [Nat.testBit_two_pow]
    · rw [decide_eq_false e, Bool.and_false]
      cases n.testBit p <;> simp [Nat.testBit_two_pow, e]
  rw [h]
  cases n.testBit p
  · rfl
  · simpa using Nat.two_pow_pos p
theorem bit_test (n p : Nat) : decide (0 < Builtin.bitAnd (n : Int) ((1 : Int) * 2 ^ p)) = n.testBit p := by
  rw [show ((1 : Int) * 2 ^ p) = ((2 ^ p : Nat) : Int) by rw [Int.one_mul, Int.natCast_pow]; rfl, bitAnd_nn, ← and_pow_pos]
  exact decide_eq_decide.mpr (by omega)
theorem bit_low (n : Nat) : Builtin.bitAnd (n : Int) 1 = ((n % 2 : Nat) : Int) := by
  rw [show (1 : Int) = ((1 : Nat) : Int) from rfl, bitAnd_nn, Nat.and_one_is_mod]
theorem shr_nat (n p : Nat) : (n : Int) / (2 : Int) ^ p = ((n / 2 ^ p : Nat) : Int) := by
  rw [Int.natCast_ediv, Int.natCast_pow]; rfl
theorem bit_shr (n p : Nat) : decide (Builtin.bitAnd ((n : Int) / (2 : Int) ^ p) 1 = 1) = n.testBit p := by
  rw [shr_nat, bit_low, Nat.testBit_eq_decide_div_mod_eq]
  exact decide_eq_decide.mpr (by omega)
/-- the bits, from the least on -/
def bitsOf (n : Nat) : List Nat := (List.range (Builtin.Int.intBits (n : Int))).filter n.testBit
theorem intBits_lt (n : Nat) : n < 2 ^ Builtin.Int.intBits (n : Int) := by
  unfold Builtin.Int.intBits
  by_cases h : n = 0
  · subst h; decide
  · rw [if_neg (by simpa using h)]
    exact Nat.lt_log2_self
theorem testBit_lt {n i G : Nat} (h : n < 2 ^ G) (b : n.testBit i = true) : i < G := by
  refine Nat.lt_of_not_le fun z => ?_
  rw [Nat.testBit_lt_two_pow (Nat.lt_of_lt_of_le h (Nat.pow_le_pow_right (by decide) z))] at b
  cases b
theorem filter_range_ext {p : Nat → Bool} : ∀ (m n : Nat), m ≤ n → (∀ i, m ≤ i → p i = false) → (List.range n).filter p = (List.range m).filter p
  | m, n, h, hp => by
    obtain ⟨d, rfl⟩ := Nat.exists_eq_add_of_le h
    clear h
    induction d with
    | zero => rfl
    | succ d ih =>
      rw [← Nat.add_assoc, List.range_succ, List.filter_append, ih]
      simp [hp (m + d) (by omega)]
theorem bitsOf_range {n G : Nat} (h : n < 2 ^ G) : (List.range G).filter n.testBit = bitsOf n := by
  unfold bitsOf
  have a : ∀ m, n < 2 ^ m → ∀ i, m ≤ i → n.testBit i = false := fun m hm i hi => Nat.testBit_lt_two_pow (Nat.lt_of_lt_of_le hm (Nat.pow_le_pow_right (by decide) hi))
  by_cases z : G ≤ Builtin.Int.intBits (n : Int)
  · rw [filter_range_ext _ _ z (a G h)]
  · rw [filter_range_ext _ _ (by omega) (a _ (intBits_lt n))]
theorem mem_bitsOf {n i : Nat} : i ∈ bitsOf n ↔ n.testBit i = true := by
  unfold bitsOf
  rw [List.mem_filter, List.mem_range]
  exact ⟨fun h => h.2, fun h => ⟨testBit_lt (intBits_lt n) h, h⟩⟩
theorem bitsOf_nodup (n : Nat) : (bitsOf n).Nodup := List.Nodup.sublist List.filter_sublist List.nodup_range
theorem bit_le {n p : Nat} (h : n.testBit p = true) : 2 ^ p ≤ n := Nat.ge_two_pow_of_testBit h
theorem testBit_sub {n p : Nat} (h : n.testBit p = true) (q : Nat) : (n - 2 ^ p).testBit q = (n.testBit q && decide (q ≠ p)) := by
  have e : n = 2 ^ p * (n / 2 ^ p) + n % 2 ^ p := (Nat.div_add_mod n (2 ^ p)).symm
  have hb : n % 2 ^ p < 2 ^ p := Nat.mod_lt _ (Nat.two_pow_pos p)
  have ho : (n / 2 ^ p) % 2 = 1 := by
    rw [Nat.testBit_eq_decide_div_mod_eq] at h
    exact of_decide_eq_true h
  obtain ⟨a, ha⟩ : ∃ a, n / 2 ^ p = 2 * a + 1 := ⟨n / 2 ^ p / 2, by omega⟩
  rw [ha] at e
  have e2 : n - 2 ^ p = 2 ^ p * (2 * a) + n % 2 ^ p := by
    rw [Nat.mul_add, Nat.mul_one] at e
    omega
  rw [e2]
  conv => rhs; rw [e]
  rw [Nat.testBit_two_pow_mul_add _ hb, Nat.testBit_two_pow_mul_add _ hb]
  by_cases c : q < p
  · rw [if_pos c, if_pos c, decide_eq_true (by omega), Bool.and_true]
  · rw [if_neg c, if_neg c]
    by_cases z : q = p
    · subst z
      rw [Nat.sub_self, decide_eq_false (by omega), Bool.and_false, Nat.testBit_zero]
      exact decide_eq_false (by omega)
    · rw [decide_eq_true z, Bool.and_true]
      obtain ⟨m, hm⟩ : ∃ m, q - p = m + 1 := ⟨q - p - 1, by omega⟩
      rw [hm, Nat.testBit_succ, Nat.testBit_succ, show 2 * a / 2 = (2 * a + 1) / 2 by omega]
theorem bitsOf_sub {n p : Nat} (h : n.testBit p = true) : (p :: bitsOf (n - 2 ^ p)).Perm (bitsOf n) := by
  refine (List.perm_ext_iff_of_nodup ?_ (bitsOf_nodup n)).mpr fun q => ?_
  · rw [List.nodup_cons]
    exact ⟨fun m => by rw [mem_bitsOf, testBit_sub h] at m; simp at m, bitsOf_nodup _⟩
  · rw [List.mem_cons, mem_bitsOf, mem_bitsOf, testBit_sub h]
    by_cases z : q = p
    · subst z; simp [h]
    · simp [z]
theorem bitsOf_zero : bitsOf 0 = [] := by decide
theorem bitsOf_ne {n : Nat} (h : 0 < n) : bitsOf n ≠ [] := by
  intro e
  obtain ⟨i, hi⟩ := Nat.exists_testBit_of_ne_zero (by omega : n ≠ 0)
  have := mem_bitsOf.mpr hi
  rw [e] at this
  cases this
end Dl
namespace Dl
open PySem PySem.Spec PyProof.Rows L2 Ln PySem.W
section
variable {C : Cy} {G : List Sv} {O : Ow} {ta : TA} {n : Nat} {W : Wt} {ES : L2.St → XK} {ke : Ke}
/-- a call's value or its new list, frozen -/
theorem dx_callB {k : PyData → Prop} (hE : ∀ σ, EOk C (ES σ) ke) (h : Da C G O ta fun as => as.length = n ∧ W as (fun r => match r with | .v s => isD k s | .l ss => ∃ ds : List PyData, ss = ds.map Sv.dat ∧ k (.list ds)) ke) : Dx C G O (Ln.tCg (spP C.K n W) ES ta) k := fun X F H σ Q r c =>
  h X F H σ _ r fun F1 vs H1 as s1 r1 p ⟨e, w⟩ => by
    refine ⟨by rw [Paired.length p]; exact e, F1, as, _, ke, r1.q.sub, r1.q.tup, p, w, ?_, ?_, fun F' cls dx H' fs es b nd hd p q => ke_of hE r1 b nd hd p q⟩
    · intro F' v H' s b sv q
      obtain ⟨d, rfl, q⟩ := q
      exact c F' v H' d (s1.trans (r1.gb b)) (r1.called b) sv q
    · intro F' D H' xs ss b nd nf hD pp q
      obtain ⟨ds, rfl, q⟩ := q
      have r2 := r1.called b
      have r3 : Rp C F' H' σ G ((D, .lst (ds.map Sv.dat)) :: (O ++ X)) := by
        refine ⟨r2.q, r2.len, r2.sl, ?_, ?_⟩
        · intro D' ob m
          rcases List.mem_cons.mp m with m | m
          · cases m
            exact ⟨.inr (r1.q.h0 nd), nf, r1.q.nA nd, _, hD, xs, rfl, pp⟩
          · exact r2.ow D' ob m
        · rw [List.map_cons, List.nodup_cons]
          refine ⟨fun m => ?_, r2.nd⟩
          obtain ⟨⟨D', ob⟩, m', e'⟩ := List.mem_map.mp m
          obtain ⟨_, _, _, u, e1, _⟩ := r1.ow D' ob m'
          have e' : D' = D := e'
          rw [e', nd] at e1
          cases e1
      obtain ⟨F2, u, s2, e, ⟨xs', rfl, p'⟩, r4⟩ := r3.frz (n := 0) (ob := .lst (ds.map Sv.dat)) (r1.q.h0 nd) rfl
      exact c F2 (.ref D) H' (.list ds) ((s1.trans (r1.gb b)).trans (Gw.of s2)) r4 (.lst (SqL.of e) (Paired.det p' rfl)) q
theorem dx_callBP {k : PyData → Prop} (h : Da C G O ta fun as => as.length = n ∧ W as (fun r => match r with | .v s => isD k s | .l ss => ∃ ds : List PyData, ss = ds.map Sv.dat ∧ k (.list ds)) (fun _ _ => False)) : Dx C G O (Ln.tCg (spP C.K n W) ES ta) k := dx_callB (ke := fun _ _ => False) (fun σ => EOk.none C _) h
/-- what may leave a call, and be asked for -/
class EkI (C : Cy) (ES : L2.St → XK) (ke : outParam Ke) : Prop where
  h : ∀ σ, EOk C (ES σ) ke
instance (priority := low) ekFalse {C : Cy} {ES : L2.St → XK} : EkI C ES (fun _ _ => False) := ⟨fun σ => EOk.none C _⟩
theorem EkI.of {C : Cy} {E : XK} {ke : Ke} (h : EOk C E ke) : EkI C (fun _ => E) ke := ⟨fun _ => h⟩
instance s_callB {K' : PySem.W.Frag} {k : PyData → Prop} {u : TA} [e : Lkk K' C.K] [e2 : EkI C ES ke] : Stp (Dx C G O (Ln.tCg (spP K' n W) ES u) k) (Da C G O u fun as => as.length = n ∧ W as (fun r => match r with | .v s => isD k s | .l ss => ∃ ds : List PyData, ss = ds.map Sv.dat ∧ k (.list ds)) ke) := ⟨by rw [e.h]; exact dx_callB e2.h⟩
instance s_callL {K' : PySem.W.Frag} {k : List Sv → Prop} {u : TA} [e : Lkk K' C.K] [e2 : EkI C ES ke] : Stp (Dl C G O (Ln.tCg (spP K' n W) ES u) k) (Da C G O u fun as => as.length = n ∧ W as (fun r => match r with | .v _ => False | .l ss => k ss) ke) := ⟨by rw [e.h]; exact dl_call e2.h⟩
instance s_callS {K' : PySem.W.Frag} {E : En} {u : TA} [e : Lkk K' C.K] [e2 : EkI C ES ke] : Stp (Ds C G O (tDrop (Ln.tCg (spP K' n W) ES u)) E) (Da C G O u fun as => as.length = n ∧ W as (fun r => match r with | .v s => E.nx G O | .l ss => False) ke) := ⟨by rw [e.h]; exact fun h => ds_drop (dv_call e2.h h)⟩
instance s_retC {K' : PySem.W.Frag} {E : En} {u : TA} [e : Lkk K' C.K] [e2 : EkI C ES ke] : Stp (Ds C G O (tRet (Ln.tCg (spP K' n W) ES u)) E) (Da C G O u fun as => as.length = n ∧ W as (fun r => match r with | .v s => E.rt (.v s) | .l ss => False) ke) := ⟨by rw [e.h]; exact fun h => ds_ret (dv_call e2.h h)⟩
end
/-! ## pairs of numbers -/
abbrev entD (e : Int × Int) : PyData := .tuple [.int e.1, .int e.2]
def ltE (a b : Int × Int) : Prop := a.1 < b.1 ∨ (a.1 = b.1 ∧ a.2 < b.2)
instance (a b : Int × Int) : Decidable (ltE a b) := by unfold ltE; infer_instance
def minE (x : Int × Int) (xs : List (Int × Int)) : Int × Int := xs.foldl (fun a y => if ltE y a then y else a) x
def maxE (x : Int × Int) (xs : List (Int × Int)) : Int × Int := xs.foldl (fun a y => if ltE a y then y else a) x
theorem lt_ent (a b : Int × Int) : dataLt (entD a) (entD b) = decide (ltE a b) := by
  unfold ltE
  rw [dataLt_ii]
theorem minD_ent : ∀ (xs : List (Int × Int)) (x : Int × Int), minD (entD x) (xs.map entD) = entD (minE x xs)
  | [], x => rfl
  | y :: ys, x => by
    show minD (if dataLt (entD y) (entD x) = true then entD y else entD x) (ys.map entD) = _
    rw [lt_ent, show (if decide (ltE y x) = true then entD y else entD x) = entD (if ltE y x then y else x) by by_cases c : ltE y x <;> simp [c], minD_ent ys]
    rfl
theorem maxD_ent : ∀ (xs : List (Int × Int)) (x : Int × Int), maxD (entD x) (xs.map entD) = entD (maxE x xs)
  | [], x => rfl
  | y :: ys, x => by
    show maxD (if dataLt (entD x) (entD y) = true then entD y else entD x) (ys.map entD) = _
    rw [lt_ent, show (if decide (ltE x y) = true then entD y else entD x) = entD (if ltE x y then y else x) by by_cases c : ltE x y <;> simp [c], maxD_ent ys]
    rfl
theorem depthAll_le {n : Nat} : ∀ {ds : List PyData}, (∀ d ∈ ds, d.depth ≤ n) → PyData.depthAll ds ≤ n
  | [], _ => by simp [PyData.depthAll]
  | d :: ds, h => by
    simp only [PyData.depthAll]
    exact Nat.max_le.mpr ⟨h d List.mem_cons_self, depthAll_le fun e he => h e (List.mem_cons_of_mem _ he)⟩
theorem Cmpb.of {ds : List PyData} (h : ∀ a ∈ ds, ∀ b ∈ ds, alike a b = true) (n : ∀ a ∈ ds, a ≠ .none) (d : ∀ a ∈ ds, a.depth ≤ 4) : Cmpb ds := ⟨⟨h, n⟩, depthAll_le d⟩
theorem cmpb_ent (xs : List (Int × Int)) : Cmpb (xs.map entD) := by
  refine Cmpb.of ?_ ?_ ?_
  · intro a ha b hb
    obtain ⟨x, _, rfl⟩ := List.mem_map.mp ha
    obtain ⟨y, _, rfl⟩ := List.mem_map.mp hb
    simp [alike, alikeAll]
  · intro a ha
    obtain ⟨x, _, rfl⟩ := List.mem_map.mp ha
    exact fun z => by cases z
  · intro a ha
    obtain ⟨x, _, rfl⟩ := List.mem_map.mp ha
    simp [PyData.depth, PyData.depthAll]
theorem minE_mem (x : Int × Int) (xs : List (Int × Int)) : minE x xs ∈ x :: xs := foldl_mem (fun a b => by by_cases c : ltE b a <;> simp [c]) xs x
theorem maxE_mem (x : Int × Int) (xs : List (Int × Int)) : maxE x xs ∈ x :: xs := foldl_mem (fun a b => by by_cases c : ltE a b <;> simp [c]) xs x
end Dl
namespace Dl
open PySem PySem.Spec PyProof.Rows L2 Ln PySem.W
theorem atI_map {α β : Type} {g : α → β} {xs : List α} {i : Int} {m : Nat} {x : α} (e : i = (m : Int)) (h : xs[m]? = some x) : atI (xs.map g) i = some (g x) := by
  rw [e]; exact atI_nat (by rw [List.getElem?_map, h]; rfl)
theorem bit_sub {n p : Nat} (h : n.testBit p = true) : (n : Int) - 1 * (2 : Int) ^ ((p : Int)).toNat = ((n - 2 ^ p : Nat) : Int) := by
  have := bit_le h
  rw [Int.toNat_natCast, Int.one_mul, Int.natCast_sub this, Int.natCast_pow]
  rfl
theorem get_getD {α : Type} {xs : List α} {m : Nat} {z : α} (h : m < xs.length) : xs[m]? = some (xs.getD m z) := by
  rw [List.getD_eq_getElem?_getD, List.getElem?_eq_getElem h]; rfl
end Dl
namespace Dl
open PySem PySem.Spec PyProof.Rows L2 Ln PySem.W
theorem isQ_of {k : List PyData → Prop} {td : PyData} {ds : List PyData} (h : td = .tuple ds ∨ td = .list ds) (q : k ds) : isQ k td := ⟨ds, h, q⟩
theorem minKD_ent {k : PyData → Prop} {xs : List (Int × Int)} {z : PyData} (h0 : xs = [] → k z) (h : ∀ y ys, xs = y :: ys → k (entD (minE y ys))) : minKD k (xs.map entD) z := by
  refine ⟨cmpb_ent xs, fun e => h0 (List.map_eq_nil_iff.mp e), fun x es e => ?_⟩
  cases xs with
  | nil => cases e
  | cons y ys =>
    cases e
    rw [minD_ent]
    exact h y ys rfl
theorem maxK_ent {k : PyData → Prop} {xs : List (Int × Int)} {y : Int × Int} {ys : List (Int × Int)} (e : xs = y :: ys) (h : k (entD (maxE y ys))) : maxK k (xs.map entD) := by
  subst e
  exact ⟨_, _, rfl, cmpb_ent _, by rw [maxD_ent]; exact h⟩
theorem minK_ent {k : PyData → Prop} {xs : List (Int × Int)} {y : Int × Int} {ys : List (Int × Int)} (e : xs = y :: ys) (h : k (entD (minE y ys))) : minK k (xs.map entD) := by
  subst e
  exact ⟨_, _, rfl, cmpb_ent _, by rw [minD_ent]; exact h⟩
end Dl
namespace Dl
open PySem PySem.Spec PyProof.Rows L2 Ln PySem.W
class Er (O : Ow) (n : Nat) (O' : outParam Ow) : Prop where
  h : O.eraseIdx n = O'
instance er0 {x : Addr × Ob} {O : Ow} : Er (x :: O) 0 O := ⟨rfl⟩
instance erS {x : Addr × Ob} {O O' : Ow} {i : Nat} [e : Er O i O'] : Er (x :: O) (i + 1) (x :: O') := ⟨by rw [List.eraseIdx_cons_succ, e.h]⟩
section
variable {C : Cy} {G G' : List Sv} {O O' : Ow} {t : TE} {k : PyData → Prop} {n : Nat} {D : Addr} {ds : List PyData}
theorem dx_lend (i : Nat) [e1 : Lk G i (.ptr D)] [e2 : Ok O D n (.lst (ds.map Sv.dat))] [e3 : St G i (.dat (.list ds)) G'] [e4 : Er O n O'] (h0 : C.H0 D = none) (h : Dx C G' O' t fun d => noLd d = true ∧ k d) : Dx C G O t k :=
  dx_bor e1.h e2.h h0 (by rw [e3.h, e4.h]; exact h)
theorem dt_lend (i : Nat) {u : TT} {k : Bool → Prop} [e1 : Lk G i (.ptr D)] [e2 : Ok O D n (.lst (ds.map Sv.dat))] [e3 : St G i (.dat (.list ds)) G'] [e4 : Er O n O'] (h0 : C.H0 D = none) (h : Dt C G' O' u k) : Dt C G O u k :=
  dt_bor e1.h e2.h h0 (by rw [e3.h, e4.h]; exact h)
/-- from here on it changes no more -/
theorem ds_keep (i : Nat) {t : TS} {E : En} [e1 : Lk G i (.ptr D)] [e2 : Ok O D n (.lst (ds.map Sv.dat))] [e3 : St G i (.dat (.list ds)) G'] [e4 : Er O n O'] (h0 : C.H0 D = none) (h : Ds C G' O' t E) : Ds C G O t E :=
  ds_frz e2.h e1.h h0 (by rw [e3.h, e4.h]; exact h)
end
end Dl
namespace Dl
open PySem PySem.Spec PyProof.Rows L2 Ln PySem.W
theorem Rp.perm {C : Cy} {F H : Hp} {σ : L2.St} {G : List Sv} {O O' : Ow} (r : Rp C F H σ G O) (p : O'.Perm O) : Rp C F H σ G O' :=
  ⟨r.q, r.len, r.sl, fun D ob m => r.ow D ob (p.mem_iff.mp m), ((p.map Prod.fst).nodup_iff).mpr r.nd⟩
section
variable {C : Cy} {G : List Sv} {O : Ow} {te tb : TE} {E : En} {k : PyData → Prop}
/-- xs.append(a new list) -/
theorem ds_appendL {K' : PySem.W.Frag} {i n : Nat} {D : Addr} {ss : List Sv} (hG : G[i]? = some (.ptr D)) (hO : O[n]? = some (D, .lst ss)) (hz : ss.length < sizeLine) (h : Dl C G O te fun es => ∀ D2, C.H0 D2 = none → ∃ O', O'.Perm ((D2, .lst es) :: O.set n (D, .lst (ss ++ [.ptr D2]))) ∧ E.nx G O') (hK : K' = C.K := by with_unfolding_all rfl) : Ds C G O (tDrop (tBM K' "list" rAppend (tVar i) (tCons te tNil))) E := fun X F H σ D' r n1 _ _ _ => by
  subst hK
  obtain ⟨v, a, b⟩ := r.get hG (fun z => by cases z)
  cases b
  obtain ⟨w, e, xs, rfl, p⟩ := r.obj (app_get (X := X) hO)
  refine ⟨_, a, .inl ⟨rfl, xs, SqL.of e⟩, h X F H σ _ r fun F1 D2 H1 es s1 h0 r1 q => ?_⟩
  obtain ⟨w, e, xs, rfl, p⟩ := r1.obj (n := n + 1) (by rw [List.getElem?_cons_succ]; exact app_get (X := X) hO)
  refine ⟨D, xs, .ref D2, rfl, rfl, e, by rw [Paired.length p]; exact hz, ?_⟩
  have r2 := r1.wr (n := n + 1) (by rw [List.getElem?_cons_succ]; exact app_get (X := X) hO) (ob' := .lst (ss ++ [.ptr D2])) (u := .lst (xs ++ [.ref D2])) ⟨_, rfl, Paired.snoc p (show SvOk C.K F1 (.ref D2) (.ptr D2) from rfl)⟩
  rw [List.set_cons_succ, app_set hO] at r2
  obtain ⟨O', po, q⟩ := q D2 h0
  exact n1 F1 σ _ G O' s1.sf (r2.perm (po.append_right X)) q
/-- a list of one's own held against [] -/
instance (priority := high) s_eqNil {K' : PySem.W.Frag} {i n : Nat} {D : Addr} {ss : List Sv} [e : Lkk K' C.K] [e1 : Lk G i (.ptr D)] [e2 : Ok O D n (.lst ss)] : Stp (Dx C G O (tOp (rEqD K') (tVar i) (tLst tNil)) k) (∃ ds, OwDs O ss ds ∧ SeqAt.shaped (.list ds) = true ∧ k (.bool ss.isEmpty)) := ⟨fun h => by
  rw [e.h]
  obtain ⟨ds, o, sh, q⟩ := h
  refine dx_eqO (dv_var e1.h (fun z => by cases z) (dv_dx (dx_dl (dl_lst (da_nil ⟨by decide, [], rfl, .list ds, .list [], .ptr (List.mem_of_getElem? e2.h) o, .dat _, sh, rfl, ?_⟩)))))
  have : PyData.eqv (.list ds) (.list []) = ss.isEmpty := by
    cases o <;> simp [PyData.eqv, PyData.eqvAll]
  rw [this]
  exact q⟩
end
theorem canLayAll_map {α : Type} {g : α → PyData} : ∀ {xs : List α}, (∀ x ∈ xs, (g x).canLay0 = true) → PyData.canLayAll0 (xs.map g) = true
  | [], _ => rfl
  | x :: xs, h => by
    rw [List.map_cons]
    simp only [PyData.canLayAll0, h x List.mem_cons_self, canLayAll_map fun y hy => h y (List.mem_cons_of_mem _ hy), Bool.and_self]
theorem depthAll_map {α : Type} {g : α → PyData} {n : Nat} : ∀ {xs : List α}, (∀ x ∈ xs, (g x).depth ≤ n) → PyData.depthAll (xs.map g) ≤ n
  | [], _ => by simp [PyData.depthAll]
  | x :: xs, h => by
    rw [List.map_cons]
    simp only [PyData.depthAll]
    exact Nat.max_le.mpr ⟨h x List.mem_cons_self, depthAll_map fun y hy => h y (List.mem_cons_of_mem _ hy)⟩
/-- may be held against another, and is not deep -/
def Shp (n : Nat) (d : PyData) : Prop := d.canLay0 = true ∧ d.depth ≤ n
theorem Shp.list {α : Type} {g : α → PyData} {n : Nat} {xs : List α} (h : ∀ x ∈ xs, Shp n (g x)) : Shp (n + 1) (.list (xs.map g)) := ⟨by simp only [PyData.canLay0]; exact canLayAll_map fun x hx => (h x hx).1, by simp only [PyData.depth]; exact Nat.succ_le_succ (depthAll_map fun x hx => (h x hx).2)⟩
theorem Shp.tuple {α : Type} {g : α → PyData} {n : Nat} {xs : List α} (h : ∀ x ∈ xs, Shp n (g x)) : Shp (n + 1) (.tuple (xs.map g)) := ⟨by simp only [PyData.canLay0]; exact canLayAll_map fun x hx => (h x hx).1, by simp only [PyData.depth]; exact Nat.succ_le_succ (depthAll_map fun x hx => (h x hx).2)⟩
theorem Shp.int {n : Nat} (i : Int) : Shp n (.int i) := ⟨rfl, Nat.zero_le _⟩
theorem Shp.bool {n : Nat} (i : Bool) : Shp n (.bool i) := ⟨rfl, Nat.zero_le _⟩
theorem Shp.non {n : Nat} : Shp n .none := ⟨rfl, Nat.zero_le _⟩
theorem Shp.str {n : Nat} {x : Str} (h : PyData.strOk x = true) : Shp n (.str x) := ⟨by simpa only [PyData.canLay0] using h, Nat.zero_le _⟩
theorem Shp.shaped {n : Nat} {d : PyData} (h : Shp n d) (hn : n ≤ 64) : SeqAt.shaped d = true := by
  unfold SeqAt.shaped
  rw [h.1, decide_eq_true (Nat.le_trans h.2 hn)]
  rfl
theorem OwDs.ofDat {O : Ow} : ∀ (ds : List PyData), OwDs O (ds.map Sv.dat) ds
  | [] => .nil
  | d :: ds => .cons (.dat d) (OwDs.ofDat ds)
theorem OwDs.rows {O : Ow} : ∀ {rows : List (Addr × List PyData)}, (∀ r ∈ rows, (r.1, Ob.lst (r.2.map Sv.dat)) ∈ O) → OwDs O (rows.map fun r => Sv.ptr r.1) (rows.map fun r => PyData.list r.2)
  | [], _ => .nil
  | r :: rows, h => .cons (.ptr (h r List.mem_cons_self) (OwDs.ofDat _)) (OwDs.rows fun x hx => h x (List.mem_cons_of_mem _ hx))
end Dl
namespace Dl
open PySem PySem.Spec PyProof.Rows L2 Ln PySem.W
section
variable {C : Cy} {G : List Sv} {O : Ow} {k : PyData → Prop} {i : Nat} {ds : List PyData}
instance (priority := high) s_tupOfL {K' : PySem.W.Frag} [e : Lkk K' C.K] [e1 : Lk G i (.dat (.list ds))] : Stp (Dx C G O (tCB (Ln.rTupOf K') (tCons (tVar i) tNil)) k) (k (.tuple ds)) := ⟨fun h => by rw [e.h]; exact dx_tupOfT (dx_var e1.h (.inr ⟨ds, rfl, h⟩))⟩
instance (priority := high) s_tupOfV {K' : PySem.W.Frag} [e : Lkk K' C.K] [e1 : Lk G i (.dat (.tuple ds))] : Stp (Dx C G O (tCB (Ln.rTupOf K') (tCons (tVar i) tNil)) k) (k (.tuple ds)) := ⟨fun h => by rw [e.h]; exact dx_tupOfT (dx_var e1.h (.inl ⟨ds, rfl, h⟩))⟩
end
end Dl
set_option Elab.async false
set_option autoImplicit false
set_option linter.all false
set_option maxRecDepth 100000
set_option maxHeartbeats 4000000
/-! dicts of data: a handle by its address, its keys and its values -/
namespace Dl
open PySem PySem.Spec PyProof.Rows L2 Ln
theorem rd_same {F F' : Hp} (s : Same F F') {a : Addr} {u : HO} (h : Rd F a u) : Rd F' a u := by
  rcases h with h | ⟨o, h⟩
  · exact .inl (s _ _ h)
  · exact .inr ⟨o, s _ _ h⟩
def keyD : Key → PyData
  | .inl i => .int i
  | .inr x => .str x
theorem dp_key {K : PySem.W.Frag} {F : Hp} {v : V} {k : Key} (h : Dp K F v (keyD k)) : v = kV k := by
  cases k <;> (cases h; rfl)
theorem key_dp {K : PySem.W.Frag} {F : Hp} (k : Key) : Dp K F (kV k) (keyD k) := by
  cases k
  · exact .int _
  · exact .str _
/-- keys are the same, values are told -/
def DKs (K : PySem.W.Frag) (F : Hp) (ys : List (Key × V)) (kvs : List (Key × Sv)) : Prop := Paired (fun (p : Key × V) (q : Key × Sv) => p.1 = q.1 ∧ SvOk K F p.2 q.2) ys kvs
theorem DKs.ry {K : PySem.W.Frag} {F F' : Hp} {ys : List (Key × V)} {kvs : List (Key × Sv)} (h : DKs K F ys kvs) (r : Ry F F') : DKs K F' ys kvs := Paired.mono (fun _ _ q => ⟨q.1, SvOk.ry r q.2⟩) h
theorem DKs.mono {K : PySem.W.Frag} {F F' : Hp} {ys : List (Key × V)} {kvs : List (Key × Sv)} (h : DKs K F ys kvs) (r : Same F F') : DKs K F' ys kvs := h.ry (Ry.of r)
def dvM (K : PySem.W.Frag) (a : Addr) (kvs : List (Key × Sv)) : Mo where
  P := fun F v => v = .ref a ∧ ∃ ys, Rd F a (.dK ys) ∧ DKs K F ys kvs
  mono := fun r ⟨e, ys, h1, h2⟩ => ⟨e, ys, r.rd _ _ (fun _ _ z => by cases z) h1, h2.ry r⟩
/-- values that are data -/
abbrev datS (kvs : List (Key × PyData)) : List (Key × Sv) := kvs.map fun p => (p.1, .dat p.2)
abbrev dcM (K : PySem.W.Frag) (a : Addr) (kvs : List (Key × PyData)) : Mo := dvM K a (datS kvs)
def lookD {β : Type} (kvs : List (Key × β)) (k : Key) : Option β := (kvs.find? fun kv => decide (kv.1 = k)).map Prod.snd
theorem look_pair {K : PySem.W.Frag} {F : Hp} (k : Key) : ∀ {ys : List (Key × V)} {kvs : List (Key × Sv)}, DKs K F ys kvs → (∀ d, lookD kvs k = some d → ∃ v, valV ys k = some v ∧ SvOk K F v d) ∧ (valV ys k).isSome = (lookD kvs k).isSome
  | _, _, .nil => ⟨fun d e => (by cases e), rfl⟩
  | (k1, v) :: ys, (k2, d) :: kvs, .cons ⟨e, p⟩ t => by
    have e : k1 = k2 := e
    subst e
    unfold lookD valV
    rw [List.find?_cons, List.find?_cons]
    by_cases c : k1 = k
    · rw [decide_eq_true (show (k1, v).1 = k from c)]
      exact ⟨fun d' e => by cases e; exact ⟨v, rfl, p⟩, rfl⟩
    · rw [decide_eq_false (show ¬ (k1, v).1 = k from c)]
      exact look_pair k t
theorem lookD_dat (k : Key) : ∀ (kvs : List (Key × PyData)), lookD (datS kvs) k = (lookD kvs k).map Sv.dat
  | [] => rfl
  | (k1, d) :: kvs => by
    unfold lookD datS
    rw [List.map_cons, List.find?_cons, List.find?_cons]
    by_cases c : k1 = k
    · rw [decide_eq_true (show (k1, d).1 = k from c)]; rfl
    · rw [decide_eq_false (show ¬ (k1, d).1 = k from c)]
      exact lookD_dat k kvs
def putG {β : Type} (kvs : List (Key × β)) (k : Key) (v : β) : List (Key × β) :=
  if (kvs.any fun kv => decide (kv.1 = k)) = true then kvs.map (fun kv => if kv.1 = k then (kv.1, v) else kv) else kvs ++ [(k, v)]
def mergeG {β : Type} (kvs more : List (Key × β)) : List (Key × β) := more.foldl (fun acc kv => putG acc kv.1 kv.2) kvs
theorem any_pair {K : PySem.W.Frag} {F : Hp} (k : Key) : ∀ {ys : List (Key × V)} {kvs : List (Key × Sv)}, DKs K F ys kvs → (ys.any fun kv => decide (kv.1 = k)) = (kvs.any fun kv => decide (kv.1 = k))
  | _, _, .nil => rfl
  | (k1, v) :: ys, (k2, d) :: kvs, .cons ⟨e, p⟩ t => by
    have e : k1 = k2 := e
    subst e
    rw [List.any_cons, List.any_cons, any_pair k t]
theorem DKs.put {K : PySem.W.Frag} {F : Hp} {k : Key} {z : V} {d : Sv} {ys : List (Key × V)} {kvs : List (Key × Sv)} (h : DKs K F ys kvs) (p : SvOk K F z d) : DKs K F (putK ys k z) (putG kvs k d) := by
  unfold putK putG
  rw [any_pair k h]
  by_cases c : (kvs.any fun kv => decide (kv.1 = k)) = true
  · rw [if_pos c, if_pos c]
    clear c
    unfold DKs at h ⊢
    induction h with
    | nil => exact .nil
    | @cons a b as bs r t ih =>
      rw [List.map_cons, List.map_cons]
      refine .cons ?_ ih
      rw [r.1]
      by_cases c : b.1 = k
      · rw [if_pos c, if_pos c]; exact ⟨rfl, p⟩
      · rw [if_neg c, if_neg c]; exact r
  · rw [if_neg c, if_neg c]
    exact Paired.snoc h ⟨rfl, p⟩
theorem DKs.merge {K : PySem.W.Frag} {F : Hp} : ∀ {zs : List (Key × V)} {more : List (Key × Sv)} {ys : List (Key × V)} {kvs : List (Key × Sv)}, DKs K F zs more → DKs K F ys kvs → DKs K F (mergeK ys zs) (mergeG kvs more)
  | _, _, _, _, .nil, h => h
  | z :: zs, m :: more, ys, kvs, .cons r t, h => by
    show DKs K F (mergeK (putK ys z.1 z.2) zs) (mergeG (putG kvs m.1 m.2) more)
    rw [r.1]
    exact DKs.merge t (h.put r.2)
theorem datS_put (kvs : List (Key × PyData)) (k : Key) (v : PyData) : datS (putG kvs k v) = putG (datS kvs) k (.dat v) := by
  unfold putG datS
  have e : ((kvs.map fun p : Key × PyData => (p.1, Sv.dat p.2)).any fun kv => decide (kv.1 = k)) = (kvs.any fun kv => decide (kv.1 = k)) := by rw [List.any_map]; rfl
  rw [e]
  by_cases c : (kvs.any fun kv => decide (kv.1 = k)) = true
  · rw [if_pos c, if_pos c, List.map_map, List.map_map]
    refine List.map_congr_left fun p _ => ?_
    show (fun p : Key × PyData => (p.1, Sv.dat p.2)) (if p.1 = k then (p.1, v) else p) = if p.1 = k then (p.1, Sv.dat v) else (p.1, .dat p.2)
    by_cases c : p.1 = k
    · rw [if_pos c, if_pos c]
    · rw [if_neg c, if_neg c]
  · rw [if_neg c, if_neg c, List.map_append]; rfl
theorem datS_merge : ∀ (more : List (Key × PyData)) {kvs : List (Key × PyData)}, datS (mergeG kvs more) = mergeG (datS kvs) (datS more)
  | [], _ => rfl
  | m :: more, kvs => by
    show datS (mergeG (putG kvs m.1 m.2) more) = mergeG (putG (datS kvs) m.1 (.dat m.2)) (datS more)
    rw [datS_merge more, datS_put]
theorem putG_new {β : Type} {kvs : List (Key × β)} {k : Key} {v : β} (h : ∀ p ∈ kvs, p.1 ≠ k) : putG kvs k v = kvs ++ [(k, v)] := by
  unfold putG
  rw [if_neg]
  intro c
  obtain ⟨p, hp, e⟩ := List.any_eq_true.mp c
  exact h p hp (of_decide_eq_true e)
theorem mergeG_new {β : Type} : ∀ {more kvs : List (Key × β)}, ((kvs ++ more).map Prod.fst).Nodup → mergeG kvs more = kvs ++ more
  | [], kvs, _ => (List.append_nil kvs).symm
  | m :: more, kvs, h => by
    show mergeG (putG kvs m.1 m.2) more = _
    have hn : ∀ p ∈ kvs, p.1 ≠ m.1 := by
      intro p hp e
      rw [List.map_append, List.nodup_append] at h
      exact h.2.2 p.1 (List.mem_map_of_mem hp) m.1 (by simp) e
    rw [putG_new hn, mergeG_new (by rw [List.append_assoc]; exact h), List.append_assoc]
    rfl
theorem lookD_map {α β : Type} {f : α → Key} {g : α → β} : ∀ {xs : List α} {x : α}, (xs.map f).Nodup → x ∈ xs → lookD (xs.map fun x => (f x, g x)) (f x) = some (g x)
  | y :: ys, x, nd, m => by
    unfold lookD
    rw [List.map_cons, List.find?_cons]
    rw [List.map_cons, List.nodup_cons] at nd
    by_cases c : f y = f x
    · rw [decide_eq_true (show (f y, g y).1 = f x from c)]
      rcases List.mem_cons.mp m with e | m
      · rw [e]; rfl
      · exact absurd (List.mem_map.mpr ⟨x, m, c.symm⟩) nd.1
    · rw [decide_eq_false (show ¬ (f y, g y).1 = f x from c)]
      rcases List.mem_cons.mp m with e | m
      · rw [e] at c; exact absurd rfl c
      · exact lookD_map nd.2 m
theorem lookD_none {β : Type} {kvs : List (Key × β)} {k : Key} (h : k ∉ kvs.map Prod.fst) : lookD kvs k = none := by
  unfold lookD
  rw [List.find?_eq_none.mpr]
  · rfl
  · intro p hp e
    exact h (List.mem_map.mpr ⟨p, hp, of_decide_eq_true e⟩)
structure keyK (k : Key → Prop) (d : PyData) : Prop where
  ex : ∃ key, d = keyD key ∧ k key
section
variable {C : Cy} {G : List Sv} {O : Ow} {t td ty tx : TE} {k : PyData → Prop}
instance s_keyS {k : Key → Prop} {x : Str} : Stp (keyK k (.str x)) (k (.inr x)) := ⟨fun h => ⟨⟨_, rfl, h⟩⟩⟩
instance s_keyI {k : Key → Prop} {x : Int} : Stp (keyK k (.int x)) (k (.inl x)) := ⟨fun h => ⟨⟨_, rfl, h⟩⟩⟩
/-- a handle on a dict -/
structure isDc (K : PySem.W.Frag) (k : Addr → List (Key × Sv) → Prop) (s : Sv) : Prop where
  ex : ∃ a kvs, s = .hdl (dvM K a kvs) ∧ k a kvs
instance s_isDc {K K' : PySem.W.Frag} {k : Addr → List (Key × Sv) → Prop} {a : Addr} {kvs : List (Key × Sv)} [e : Lkk K' K] : Stp (isDc K k (.hdl (dvM K' a kvs))) (k a kvs) := ⟨fun h => ⟨⟨a, kvs, by rw [e.h], h⟩⟩⟩
/-! ## reading -/
/-- the value behind a key -/
def lookK (kvs : List (Key × Sv)) (key : Key) (k : Sv → Prop) : Prop := ∃ s, lookD kvs key = some s ∧ k s
theorem lookK_dat {kvs : List (Key × PyData)} {key : Key} {k : Sv → Prop} {d : PyData} (h : lookD kvs key = some d) (q : k (.dat d)) : lookK (datS kvs) key k := ⟨.dat d, by rw [lookD_dat, h]; rfl, q⟩
theorem dv_dget {k : Sv → Prop} (h : Dv C G O td (isDc C.K fun _ kvs => Dx C G O ty (keyK fun key => lookK kvs key k))) : Dv C G O (tDGet td ty) k := fun X F H σ Q r c =>
  h X F H σ _ r fun F1 v H1 s s1 r1 p1 ⟨a, kvs, es, h2⟩ => h2 X F1 H1 σ _ r1 fun F2 y H2 d2 s2 r2 p2 ⟨key, ed, d, hd, q⟩ => by
    subst es ed
    obtain ⟨rfl, ys, hr, hk⟩ := SvOk.mono s2.sf p1
    obtain ⟨w, hw, pw⟩ := (look_pair key hk).1 d hd
    exact ⟨a, w, rfl, .inl ⟨ys, key, rd_same r2.q.sub hr, dp_key p2, hw.symm⟩, c F2 w H2 d (s1.trans s2) r2 pw q⟩
theorem dx_din (h : Dx C G O ty (keyK fun key => Dv C G O td (isDc C.K fun _ kvs => k (.bool (lookD kvs key).isSome)))) : Dx C G O (tDIn ty td) k := fun X F H σ Q r c =>
  h X F H σ _ r fun F1 y H1 d s1 r1 p1 ⟨key, ed, h2⟩ => h2 X F1 H1 σ _ r1 fun F2 v H2 s s2 r2 p2 ⟨a, kvs, es, q⟩ => by
    subst es ed
    obtain ⟨rfl, ys, hr, hk⟩ := p2
    exact ⟨a, _, rfl, .inl ⟨ys, key, rd_same r2.q.sub hr, dp_key (Dp.mono s2.sf _ _ p1), rfl⟩, c F2 _ H2 _ (s1.trans s2) r2 (by rw [(look_pair key hk).2]; exact .bl _) q⟩
theorem dx_dnotin (h : Dx C G O ty (keyK fun key => Dv C G O td (isDc C.K fun _ kvs => k (.bool (!(lookD kvs key).isSome))))) : Dx C G O (tDNotIn ty td) k := fun X F H σ Q r c =>
  h X F H σ _ r fun F1 y H1 d s1 r1 p1 ⟨key, ed, h2⟩ => h2 X F1 H1 σ _ r1 fun F2 v H2 s s2 r2 p2 ⟨a, kvs, es, q⟩ => by
    subst es ed
    obtain ⟨rfl, ys, hr, hk⟩ := p2
    exact ⟨a, _, rfl, .inl ⟨ys, key, rd_same r2.q.sub hr, dp_key (Dp.mono s2.sf _ _ p1), rfl⟩, c F2 _ H2 _ (s1.trans s2) r2 (by rw [(look_pair key hk).2]; exact .bl _) q⟩
/-- d.get(y) -/
def getK (k : Sv → Prop) (o : Option Sv) (z : Sv) : Prop := (o = none → k z) ∧ ∀ d, o = some d → k d
theorem getK_dat {kvs : List (Key × PyData)} {key : Key} {k : Sv → Prop} {z : Sv} (h0 : lookD kvs key = none → k z) (h1 : ∀ d, lookD kvs key = some d → k (.dat d)) : getK k (lookD (datS kvs) key) z := by
  rw [lookD_dat]
  cases e : lookD kvs key with
  | none => exact ⟨fun _ => h0 e, fun d z => (by cases z)⟩
  | some d => exact ⟨fun z => (by cases z), fun d' z => (by cases z; exact h1 d e)⟩
theorem dv_dget1 {k : Sv → Prop} (h : Dv C G O td (isDc C.K fun _ kvs => Dx C G O ty (keyK fun key => getK k (lookD kvs key) (.dat .none)))) : Dv C G O (tDGet1 td ty) k := fun X F H σ Q r c =>
  h X F H σ _ r fun F1 v H1 s s1 r1 p1 ⟨a, kvs, es, h2⟩ => by
    subst es
    obtain ⟨rfl, ys, hr, hk⟩ := id p1
    refine ⟨a, rfl, .inl ⟨ys, rd_same r1.q.sub hr⟩, h2 X F1 H1 σ _ r1 fun F2 y H2 d2 s2 r2 p2 ⟨key, ed, q0, q1⟩ => ?_⟩
    subst ed
    obtain ⟨_, ys, hr, hk⟩ := SvOk.mono s2.sf p1
    refine ⟨valV ys key, .inl ⟨ys, key, rd_same r2.q.sub hr, dp_key p2, rfl⟩, ?_⟩
    obtain ⟨l1, l2⟩ := look_pair key hk
    cases e : lookD kvs key with
    | none =>
      rw [e] at l2
      cases e2 : valV ys key with
      | none => exact c F2 _ H2 (.dat .none) (s1.trans s2) r2 .non (q0 e)
      | some w => rw [e2] at l2; cases l2
    | some d =>
      obtain ⟨w, hw, pw⟩ := l1 d e
      rw [hw]
      exact c F2 _ H2 d (s1.trans s2) r2 pw (q1 d e)
theorem dv_dget2 {k : Sv → Prop} (h : Dv C G O td (isDc C.K fun _ kvs => Dx C G O ty (keyK fun key => Dv C G O tx fun z => getK k (lookD kvs key) z))) : Dv C G O (tDGet2 td ty tx) k := fun X F H σ Q r c =>
  h X F H σ _ r fun F1 v H1 s s1 r1 p1 ⟨a, kvs, es, h2⟩ => by
    subst es
    obtain ⟨rfl, ys, hr, hk⟩ := id p1
    refine ⟨a, rfl, .inl ⟨ys, rd_same r1.q.sub hr⟩, h2 X F1 H1 σ _ r1 fun F2 y H2 d2 s2 r2 p2 ⟨key, ed, h3⟩ => h3 X F2 H2 σ _ r2 fun F3 z H3 dz s3 r3 p3 ⟨q0, q1⟩ => ?_⟩
    subst ed
    obtain ⟨_, ys, hr, hk⟩ := SvOk.mono (s2.trans s3).sf p1
    refine ⟨valV ys key, .inl ⟨ys, key, rd_same r3.q.sub hr, dp_key (Dp.mono s3.sf _ _ p2), rfl⟩, ?_⟩
    obtain ⟨l1, l2⟩ := look_pair key hk
    cases e : lookD kvs key with
    | none =>
      rw [e] at l2
      cases e2 : valV ys key with
      | none => exact c F3 _ H3 dz ((s1.trans s2).trans s3) r3 p3 (q0 e)
      | some w => rw [e2] at l2; cases l2
    | some d =>
      obtain ⟨w, hw, pw⟩ := l1 d e
      rw [hw]
      exact c F3 _ H3 d ((s1.trans s2).trans s3) r3 pw (q1 d e)
instance s_dgetV {k : Sv → Prop} : Stp (Dv C G O (tDGet td ty) k) (Dv C G O td (isDc C.K fun _ kvs => Dx C G O ty (keyK fun key => lookK kvs key k))) := ⟨dv_dget⟩
instance s_dget : Stp (Dx C G O (tDGet td ty) k) (Dv C G O td (isDc C.K fun _ kvs => Dx C G O ty (keyK fun key => lookK kvs key (isD k)))) := ⟨fun h => dx_dv (dv_dget h)⟩
instance s_din : Stp (Dx C G O (tDIn ty td) k) (Dx C G O ty (keyK fun key => Dv C G O td (isDc C.K fun _ kvs => k (.bool (lookD kvs key).isSome)))) := ⟨dx_din⟩
instance s_dnotin : Stp (Dx C G O (tDNotIn ty td) k) (Dx C G O ty (keyK fun key => Dv C G O td (isDc C.K fun _ kvs => k (.bool (!(lookD kvs key).isSome))))) := ⟨dx_dnotin⟩
instance s_dget1V {k : Sv → Prop} : Stp (Dv C G O (tDGet1 td ty) k) (Dv C G O td (isDc C.K fun _ kvs => Dx C G O ty (keyK fun key => getK k (lookD kvs key) (.dat .none)))) := ⟨dv_dget1⟩
instance s_dget1 : Stp (Dx C G O (tDGet1 td ty) k) (Dv C G O td (isDc C.K fun _ kvs => Dx C G O ty (keyK fun key => getK (isD k) (lookD kvs key) (.dat .none)))) := ⟨fun h => dx_dv (dv_dget1 h)⟩
instance s_dget2V {k : Sv → Prop} : Stp (Dv C G O (tDGet2 td ty tx) k) (Dv C G O td (isDc C.K fun _ kvs => Dx C G O ty (keyK fun key => Dv C G O tx fun z => getK k (lookD kvs key) z))) := ⟨dv_dget2⟩
instance s_dget2 : Stp (Dx C G O (tDGet2 td ty tx) k) (Dv C G O td (isDc C.K fun _ kvs => Dx C G O ty (keyK fun key => Dv C G O tx fun z => getK (isD k) (lookD kvs key) z))) := ⟨fun h => dx_dv (dv_dget2 h)⟩
/-! ## dict(xs) -/
def rDictP (K : PySem.W.Frag) : List V → Hp → VK → Prop := fun xs H Q => ∃ (a : Addr) (ps : List Addr) (kvs : List (Key × V)), xs = [.ref a] ∧ SqL K H a (ps.map V.ref) ∧ Paired (fun p kv => SqT K H p [kV kv.1, kv.2]) ps kvs ∧
    ∀ p, H p = none → Q (.ref p) (upd H p (.dK (mergeK [] kvs)))
theorem cr_dictP {X : Cx} (hcalm : X.calm = true) : CallR X (.type "dict") (rDictP X.K) := call_dictP hcalm
abbrev pairD (p : Key × PyData) : PyData := .tuple [keyD p.1, p.2]
theorem pairs_dp {K : PySem.W.Frag} {F : Hp} : ∀ {kvs : List (Key × PyData)} {xs : List V}, DpAll K F xs (kvs.map pairD) → ∃ (ps : List Addr) (ys : List (Key × V)), xs = ps.map V.ref ∧ Paired (fun p (kv : Key × V) => SqT K F p [kV kv.1, kv.2]) ps ys ∧ DKs K F ys (datS kvs)
  | [], _, .nil => ⟨[], [], rfl, .nil, .nil⟩
  | (key, d) :: kvs, _, .cons (v := w) a b => by
    obtain ⟨ps, ys, rfl, h1, h2⟩ := pairs_dp b
    cases a with
    | @tup p us _ hs ha =>
      cases ha with
      | cons a1 a2 => cases a2 with
        | @cons v2 _ _ _ a2 a3 =>
          cases a3
          have := dp_key a1
          subst this
          exact ⟨p :: ps, (key, v2) :: ys, rfl, .cons hs h1, .cons ⟨rfl, a2⟩ h2⟩
theorem dv_dictP {k : Sv → Prop} (h : Dx C G O t (isLs fun ds => ∃ kvs : List (Key × PyData), ds = kvs.map pairD ∧ ∀ a, k (.hdl (dcM C.K a (mergeG [] kvs))))) : Dv C G O (tCB (rDictP C.K) (tCons t tNil)) k := fun X F H σ Q r c =>
  h X F H σ _ r fun F1 v H1 d s1 r1 p1 ⟨ds, ed, kvs, ek, q⟩ => by
    subst ed ek
    cases p1 with
    | @lst a xs _ hs ha =>
      obtain ⟨ps, ys, rfl, h1, h2⟩ := pairs_dp ha
      refine ⟨a, ps, ys, rfl, r1.q.sub.seq hs, Paired.mono (fun _ _ z => Same.tup r1.q.sub z) h1, fun l nl => ?_⟩
      have r2 := r1.newF (o := .dK (mergeK [] ys)) nl
      have s2 := r1.gm (o := .dK (mergeK [] ys)) nl
      exact c _ _ _ (.hdl (dcM C.K l (mergeG [] kvs))) (s1.trans s2) r2 ⟨rfl, _, .inl upd_same, by rw [datS_merge]; exact (DKs.merge h2 .nil).mono s2.sf⟩ (q l)
instance s_setDictP {K' : PySem.W.Frag} {i : Nat} {E : En} [e : Lkk K' C.K] : Stp (Ds C G O (tAsg (tCB (rDictP K') (tCons t tNil)) (gName i)) E) (Dx C G O t (isLs fun ds => ∃ kvs : List (Key × PyData), ds = kvs.map pairD ∧ ∀ a, SetD G i (.hdl (dcM K' a (mergeG [] kvs))) fun G' => E.nx G' O)) := ⟨fun h => ds_setV (by
  rw [e.h] at h ⊢
  exact dv_dictP h)⟩
end
/-! ## lists put together -/
theorem Paired.app {α β : Type} {R : α → β → Prop} : ∀ {as cs : List α} {bs ds : List β}, Paired R as bs → Paired R cs ds → Paired R (as ++ cs) (bs ++ ds)
  | _, _, _, _, .nil, h => h
  | _, _, _, _, .cons a b, h => .cons a (Paired.app b h)
section
variable {C : Cy} {G : List Sv} {O O' : Ow} {ta tb : TE} {k : List Sv → Prop} {i n : Nat} {D : Addr} {ss : List Sv}
/-- less is one's own from here on -/
theorem ds_less {t : TS} {E : En} (s : O'.Sublist O) (h : Ds C G O' t E) : Ds C G O t E := fun X F H σ D r => h X F H σ D (r.less (s.append (List.Sublist.refl X)))
theorem dl_catO (hG : G[i]? = some (.ptr D)) (hO : O[n]? = some (D, .lst ss)) (h : Dl C G O tb fun es => ss.length + es.length ≤ sizeLine ∧ k (ss ++ es)) : Dl C G O (tOp rCat (tVar i) tb) k := fun X F H σ Q r c => by
  obtain ⟨v, a, b⟩ := r.get hG (fun z => by cases z)
  cases b
  refine ⟨_, a, h X F H σ _ r fun F1 D1 H1 es s1 h0 r1 ⟨hz, q⟩ => ?_⟩
  obtain ⟨u1, e1, xs, rfl, p1⟩ := r1.obj (n := n + 1) (by rw [List.getElem?_cons_succ]; exact app_get (X := X) hO)
  obtain ⟨u2, e2, zs, rfl, p2⟩ := r1.obj (n := 0) rfl
  refine ⟨D, D1, xs, zs, rfl, rfl, e1, e2, by rw [Paired.length p1, Paired.length p2]; exact hz, fun l nl => ?_⟩
  have r2 := r1.newO (ob := .lst (ss ++ es)) (u := .lst (xs ++ zs)) nl ⟨_, rfl, Paired.app p1 p2⟩
  have g2 : Gw (O ++ X) F1 H1 F1 (upd H1 l (.lst (xs ++ zs))) := (r1.gn nl).sub fun x m => List.mem_cons_of_mem _ m
  exact c F1 l _ _ (s1.trans g2) (r1.q.h0 nl) (r2.less (List.Sublist.cons_cons _ (List.sublist_cons_self _ _))) q
instance s_catO [e1 : Lk G i (.ptr D)] [e2 : Ok O D n (.lst ss)] : Stp (Dl C G O (tOp rCat (tVar i) tb) k) (Dl C G O tb fun es => ss.length + es.length ≤ sizeLine ∧ k (ss ++ es)) := ⟨dl_catO e1.h e2.h⟩
instance s_setCat {E : En} {j : Nat} : Stp (Ds C G O (tAsg (tOp rCat ta tb) (gName j)) E) (Dl C G O (tOp rCat ta tb) fun ss => ∀ D, C.H0 D = none → SetD G j (.ptr D) fun G' => E.nx G' ((D, .lst ss) :: O)) := ⟨ds_setL⟩
end
end Dl
namespace Dl
instance s_ifNT {A B : Prop} : Stp (if (!true) = true then A else B) B := ⟨fun h => (if_neg (by decide)).mpr h⟩
instance s_ifNF {A B : Prop} : Stp (if (!false) = true then A else B) A := ⟨fun h => (if_pos (by decide)).mpr h⟩
end Dl
namespace Dl
open PySem PySem.Spec PyProof.Rows L2 Ln PySem.W
theorem Shp.mem {n : Nat} {ds : List PyData} (h : Shp (n + 1) (.tuple ds)) : ∀ x ∈ ds, Shp n x := by
  intro x hx
  obtain ⟨h1, h2⟩ := h
  simp only [PyData.canLay0] at h1
  simp only [PyData.depth] at h2
  refine ⟨?_, Nat.le_trans (depth_mem hx) (by omega)⟩
  clear h2
  induction ds with
  | nil => cases hx
  | cons y ys ih =>
    simp only [PyData.canLayAll0, Bool.and_eq_true] at h1
    rcases List.mem_cons.mp hx with e | hx
    · rw [e]; exact h1.1
    · exact ih hx h1.2
theorem Shp.lst {n : Nat} {ds : List PyData} (h : ∀ x ∈ ds, Shp n x) : Shp (n + 1) (.list ds) := by
  have := Shp.list (g := id) (xs := ds) h
  rwa [List.map_id] at this
theorem eqv_nil (ds : List PyData) : PyData.eqv (.list ds) (.list []) = ds.isEmpty := by
  cases ds <;> simp [PyData.eqv, PyData.eqvAll]
end Dl
namespace Dl
open PySem PySem.Spec PyProof.Rows L2 Ln PySem.W
theorem inD_strs (x : Str) (xs : List Str) : inD (.str x) (xs.map .str) = decide (x ∈ xs) := by
  unfold inD
  rw [List.any_map, Bool.eq_iff_iff, List.any_eq_true, decide_eq_true_iff]
  constructor
  · rintro ⟨y, hy, e⟩
    have e : (y == x) = true := e
    rw [← eq_of_beq e]; exact hy
  · intro h
    exact ⟨x, h, by show (x == x) = true; exact beq_self_eq_true x⟩
theorem flat_strs (xs : List Str) : (xs.map PyData.str).all flatD = true := by
  rw [List.all_map, List.all_eq_true]; intro x _; rfl
section
variable {C : Cy} {G G' : List Sv} {O O' : Ow} {n : Nat} {D : Addr} {ds : List PyData}
/-- a test that reads one's own list -/
theorem ds_ifLend (i : Nat) {c : TT} {t u : TS} {E : En} [e1 : Lk G i (.ptr D)] [e2 : Ok O D n (.lst (ds.map Sv.dat))] [e3 : St G i (.dat (.list ds)) G'] [e4 : Er O n O'] (h0 : C.H0 D = none) (h : Dt C G' O' c fun b => if b = true then Ds C G O t E else Ds C G O u E) : Ds C G O (tIfS c t u) E := ds_if (dt_lend i h0 h)
end
end Dl
namespace Dl
open PySem PySem.Spec PyProof.Rows L2 Ln PySem.W
theorem sIx_nat {n d x : Nat} (h : x ≤ n) : HT.sIx n d (some (x : Int)) = x := by
  unfold HT.sIx
  simp
  rw [if_neg (by omega)]
  omega
theorem cutD_take {α : Type} {xs : List α} {x : Nat} (h : x ≤ xs.length) : cutD xs none (some (x : Int)) = xs.take x := by
  unfold cutD
  rw [sIx_nat h]
  rfl
theorem cutD_drop {α : Type} {xs : List α} {x : Nat} (h : x ≤ xs.length) : cutD xs (some (x : Int)) none = xs.drop x := by
  unfold cutD
  rw [sIx_nat h]
  show List.take (xs.length - x) (xs.drop x) = xs.drop x
  rw [List.take_of_length_le (by rw [List.length_drop]; exact Nat.le_refl _)]
theorem filter_no {α : Type} (xs : List α) : xs.filter (fun _ => false) = [] := List.filter_eq_nil_iff.mpr (fun _ _ z => by cases z)
end Dl
namespace Dl
open PySem PySem.Spec PyProof.Rows L2 Ln PySem.W
section
variable {C : Cy} {G : List Sv} {O : Ow} {t : TE} {k : List Sv → Prop}
instance s_listOf {K' : PySem.W.Frag} [e : Lkk K' C.K] : Stp (Dl C G O (tCB (Ln.rListOf K') (tCons t tNil)) k) (Dx C G O t (isQ fun ds => k (ds.map Sv.dat))) := ⟨by rw [e.h]; exact dl_listOf⟩
instance (priority := high) s_listOfO {K' : PySem.W.Frag} {i n : Nat} {D : Addr} {ss : List Sv} [e : Lkk K' C.K] [e1 : Lk G i (.ptr D)] [e2 : Ok O D n (.lst ss)] : Stp (Dl C G O (tCB (Ln.rListOf K') (tCons (tVar i) tNil)) k) (k ss) := ⟨by rw [e.h]; exact dl_listOfO e1.h e2.h⟩
instance s_setListOf {K' : PySem.W.Frag} {E : En} {j : Nat} : Stp (Ds C G O (tAsg (tCB (Ln.rListOf K') (tCons t tNil)) (gName j)) E) (Dl C G O (tCB (Ln.rListOf K') (tCons t tNil)) fun ss => ∀ D, C.H0 D = none → SetD G j (.ptr D) fun G' => E.nx G' ((D, .lst ss) :: O)) := ⟨ds_setL⟩
instance (priority := low) s_xListOf {K' : PySem.W.Frag} {k : PyData → Prop} : Stp (Dx C G O (tCB (Ln.rListOf K') (tCons t tNil)) k) (Dl C G O (tCB (Ln.rListOf K') (tCons t tNil)) fun ss => ∃ ds : List PyData, ss = ds.map Sv.dat ∧ k (.list ds)) := ⟨dx_dl⟩
end
end Dl
namespace Dl
open PySem PySem.Spec PyProof.Rows L2 Ln PySem.W
instance s_xf {C : Cy} {G : List Sv} {O : Ow} {k : PyData → Prop} {a d cls : Addr} {i : Nat} {f : Str} {es : List (Str × PyData)} {K' : PySem.W.Frag} [e : Lkk K' C.K] [e1 : Lk G i (.hdl (excM a d K' es))] : Stp (Dx C G O (tXf a (.ref cls) (some d) cls f (tVar i)) k) (∃ x, es.lookup f = some x ∧ k x) := ⟨fun ⟨x, hx, q⟩ => dx_xf (es := es) (by rw [← e.h]; exact e1.h) hx q⟩
end Dl
namespace Ln
open PySem PySem.Spec PyProof.Rows L2
/-- a promise where nothing is raised -/
def calm (sp : Sp) : Sp := fun vs H Q _ => sp vs H Q E0
theorem Cg.calm {P : Program} {w : World} {K : PySem.W.Frag} {mg : Str → Option Value} {base : Heap} {k : Nat} {x : Str} {sp : Sp} (c : Cg P w K mg base (L2.CX P w) k x sp) : Cg P w K mg base CX0 k x (Ln.calm sp) := by
  obtain ⟨f, fd, ps, F, h1, h2, h3⟩ := c.ex
  refine ⟨f, fd, ps, ⟨fun vs H Q E h => F.len vs H Q E0 h, fun A outer s H args us vs Q E hG hr he hb r h => codeAny_mono (F.run A outer s H args us vs Q E0 hG hr he hb r h) fun r s' q => ?_⟩, h1, h2, h3⟩
  cases r with
  | ok fl =>
    cases fl <;> exact q
  | error e =>
    obtain ⟨_, _, _, _, _, _, _, _, _, _, _, _, z⟩ := q
    exact z.elim
end Ln
namespace Dl
open PySem PySem.Spec PyProof.Rows L2 Ln PySem.W
section
variable {C : Cy} {G : List Sv} {O : Ow} {n : Nat} {W : Wt} {ES : L2.St → XK} {u : TA}
/-- calls of what might raise, and doesn't -/
instance s_callC {K' : PySem.W.Frag} {k : PyData → Prop} [e : Lkk K' C.K] : Stp (Dx C G O (Ln.tCg (Ln.calm (spP K' n W)) ES u) k) (Da C G O u fun as => as.length = n ∧ W as (fun r => match r with | .v s => isD k s | .l ss => ∃ ds : List PyData, ss = ds.map Sv.dat ∧ k (.list ds)) (fun _ _ => False)) := ⟨fun h => by
  rw [e.h]
  exact (dx_callBP (ES := fun _ => E0) h : Dx C G O (Ln.tCg (spP C.K n W) (fun _ => E0) u) k)⟩
instance s_callCS {K' : PySem.W.Frag} {E : En} [e : Lkk K' C.K] : Stp (Ds C G O (tDrop (Ln.tCg (Ln.calm (spP K' n W)) ES u)) E) (Da C G O u fun as => as.length = n ∧ W as (fun r => match r with | .v s => E.nx G O | .l ss => False) (fun _ _ => False)) := ⟨fun h => by
  rw [e.h]
  exact (ds_drop (dv_callP (ES := fun _ => E0) h) : Ds C G O (tDrop (Ln.tCg (spP C.K n W) (fun _ => E0) u)) E)⟩
instance s_callCL {K' : PySem.W.Frag} {k : List Sv → Prop} [e : Lkk K' C.K] : Stp (Dl C G O (Ln.tCg (Ln.calm (spP K' n W)) ES u) k) (Da C G O u fun as => as.length = n ∧ W as (fun r => match r with | .v _ => False | .l ss => k ss) (fun _ _ => False)) := ⟨fun h => by
  rw [e.h]
  exact (dl_callP (ES := fun _ => E0) h : Dl C G O (Ln.tCg (spP C.K n W) (fun _ => E0) u) k)⟩
end
/-! ## least and greatest of numbers -/
theorem cmpb_int (xs : List Int) : Cmpb (xs.map .int) := by
  refine Cmpb.of ?_ ?_ ?_
  · intro a ha b hb
    obtain ⟨x, _, rfl⟩ := List.mem_map.mp ha
    obtain ⟨y, _, rfl⟩ := List.mem_map.mp hb
    simp [alike]
  · intro a ha
    obtain ⟨x, _, rfl⟩ := List.mem_map.mp ha
    exact fun z => by cases z
  · intro a ha
    obtain ⟨x, _, rfl⟩ := List.mem_map.mp ha
    simp [PyData.depth]
theorem maxD_int : ∀ (xs : List Int) (x : Int), ∃ M ∈ x :: xs, maxD (.int x) (xs.map .int) = .int M ∧ ∀ y ∈ x :: xs, y ≤ M
  | [], x => ⟨x, List.mem_cons_self, rfl, fun y hy => by rw [List.mem_singleton.mp hy]; exact Int.le_refl _⟩
  | z :: zs, x => by
    have e : maxD (.int x) ((z :: zs).map .int) = maxD (if dataLt (.int x) (.int z) = true then PyData.int z else .int x) (zs.map .int) := rfl
    rw [e, dataLt_int]
    by_cases c : x < z
    · rw [if_pos (decide_eq_true c)]
      obtain ⟨M, m, e, h⟩ := maxD_int zs z
      refine ⟨M, List.mem_cons_of_mem _ m, e, fun y hy => ?_⟩
      rcases List.mem_cons.mp hy with hy | hy
      · have := h z List.mem_cons_self; omega
      · exact h y hy
    · rw [if_neg (by simpa using c)]
      obtain ⟨M, m, e, h⟩ := maxD_int zs x
      refine ⟨M, ?_, e, fun y hy => ?_⟩
      · rcases List.mem_cons.mp m with m | m
        · rw [m]; exact List.mem_cons_self
        · exact List.mem_cons_of_mem _ (List.mem_cons_of_mem _ m)
      · rcases List.mem_cons.mp hy with hy | hy
        · rw [hy]; exact h x List.mem_cons_self
        · rcases List.mem_cons.mp hy with hy | hy
          · have := h x List.mem_cons_self; omega
          · exact h y (List.mem_cons_of_mem _ hy)
theorem minD_int : ∀ (xs : List Int) (x : Int), ∃ M ∈ x :: xs, minD (.int x) (xs.map .int) = .int M ∧ ∀ y ∈ x :: xs, M ≤ y
  | [], x => ⟨x, List.mem_cons_self, rfl, fun y hy => by rw [List.mem_singleton.mp hy]; exact Int.le_refl _⟩
  | z :: zs, x => by
    have e : minD (.int x) ((z :: zs).map .int) = minD (if dataLt (.int z) (.int x) = true then PyData.int z else .int x) (zs.map .int) := rfl
    rw [e, dataLt_int]
    by_cases c : z < x
    · rw [if_pos (decide_eq_true c)]
      obtain ⟨M, m, e, h⟩ := minD_int zs z
      refine ⟨M, List.mem_cons_of_mem _ m, e, fun y hy => ?_⟩
      rcases List.mem_cons.mp hy with hy | hy
      · have := h z List.mem_cons_self; omega
      · exact h y hy
    · rw [if_neg (by simpa using c)]
      obtain ⟨M, m, e, h⟩ := minD_int zs x
      refine ⟨M, ?_, e, fun y hy => ?_⟩
      · rcases List.mem_cons.mp m with m | m
        · rw [m]; exact List.mem_cons_self
        · exact List.mem_cons_of_mem _ (List.mem_cons_of_mem _ m)
      · rcases List.mem_cons.mp hy with hy | hy
        · rw [hy]; exact h x List.mem_cons_self
        · rcases List.mem_cons.mp hy with hy | hy
          · have := h x List.mem_cons_self; omega
          · exact h y (List.mem_cons_of_mem _ hy)
theorem maxK_int {k : PyData → Prop} {xs : List Int} (ne : xs ≠ []) (h : ∀ M ∈ xs, (∀ x ∈ xs, x ≤ M) → k (.int M)) : maxK k (xs.map .int) := by
  cases xs with
  | nil => exact absurd rfl ne
  | cons x xs =>
    obtain ⟨M, m, e, g⟩ := maxD_int xs x
    exact ⟨_, _, rfl, cmpb_int (x :: xs), by rw [e]; exact h M m g⟩
theorem minK_int {k : PyData → Prop} {xs : List Int} (ne : xs ≠ []) (h : ∀ M ∈ xs, (∀ x ∈ xs, M ≤ x) → k (.int M)) : minK k (xs.map .int) := by
  cases xs with
  | nil => exact absurd rfl ne
  | cons x xs =>
    obtain ⟨M, m, e, g⟩ := minD_int xs x
    exact ⟨_, _, rfl, cmpb_int (x :: xs), by rw [e]; exact h M m g⟩
end Dl
set_option Elab.async false
set_option autoImplicit false
set_option linter.all false
set_option maxRecDepth 100000
set_option maxHeartbeats 4000000
/-! records, walks over dicts, locks -/
namespace Dl
open PySem PySem.Spec PyProof.Rows L2 Ln
/-! ## records -/
/-- a record of class Cc at x, its fields told -/
def rcM (K : PySem.W.Frag) (Cc x : Addr) (fs : List (Str × Sv)) : Mo where
  P := fun F v => v = .ref x ∧ Cls K Cc ∧ (∀ q ∈ fs, NoAttr K Cc q.1) ∧ ∃ dx gs, F x = some (.ins Cc dx gs) ∧ Paired (fun (p : Str × V) (q : Str × Sv) => p.1 = q.1 ∧ SvOk K F p.2 q.2) gs fs
  mono := fun r ⟨e, h1, h2, dx, gs, h3, h4⟩ => ⟨e, h1, h2, dx, gs, r.ex _ _ (fun z => by rcases z with ⟨_, z⟩ | ⟨_, z⟩ <;> cases z) (fun _ _ z => by cases z) h3, Paired.mono (fun _ _ q => ⟨q.1, SvOk.ry r q.2⟩) h4⟩
theorem fs_look {K : PySem.W.Frag} {F : Hp} : ∀ {gs : List (Str × V)} {fs : List (Str × Sv)}, Paired (fun (p : Str × V) (q : Str × Sv) => p.1 = q.1 ∧ SvOk K F p.2 q.2) gs fs → ∀ {f : Str} {s : Sv}, fs.lookup f = some s → ∃ v, gs.lookup f = some v ∧ SvOk K F v s
  | _, _, .nil, f, s, e => by cases e
  | (x, v) :: gs, (y, s0) :: fs, .cons ⟨h1, h2⟩ t, f, s, e => by
    have h1 : x = y := h1
    subst h1
    rw [List.lookup_cons] at e ⊢
    by_cases c : (f == x) = true
    · rw [c] at e ⊢
      cases e
      exact ⟨v, rfl, h2⟩
    · have c := Bool.eq_false_iff.mpr c
      rw [c] at e ⊢
      exact fs_look t e
theorem look_mem {β : Type} : ∀ {fs : List (Str × β)} {f : Str} {s : β}, fs.lookup f = some s → ∃ q ∈ fs, q.1 = f
  | (y, s0) :: fs, f, s, e => by
    rw [List.lookup_cons] at e
    by_cases c : (f == y) = true
    · exact ⟨_, List.mem_cons_self, (eq_of_beq c).symm⟩
    · rw [Bool.eq_false_iff.mpr c] at e
      obtain ⟨q, m, h⟩ := look_mem e
      exact ⟨q, List.mem_cons_of_mem _ m, h⟩
structure isRc (K : PySem.W.Frag) (f : Str) (k : Sv → Prop) (s : Sv) : Prop where
  ex : ∃ Cc x fs t, s = .hdl (rcM K Cc x fs) ∧ fs.lookup f = some t ∧ k t
def fldK (fs : List (Str × Sv)) (f : Str) (k : Sv → Prop) : Prop := ∃ t, fs.lookup f = some t ∧ k t
theorem fldK_mk {fs : List (Str × Sv)} {f : Str} {k : Sv → Prop} {t : Sv} (h : k t) (e : fs.lookup f = some t := by with_unfolding_all rfl) : fldK fs f k := ⟨t, e, h⟩
section
variable {C : Cy} {G : List Sv} {O : Ow} {t td : TE} {k : Sv → Prop} {f : Str}
theorem dv_fld (h : Dv C G O t (isRc C.K f k)) : Dv C G O (tFld C.K t f) k := fun X F H σ Q r c =>
  h X F H σ _ r fun F1 v H1 s s1 r1 p1 ⟨Cc, x, fs, s2, es, el, q⟩ => by
    subst es
    obtain ⟨rfl, h1, h2, dx, gs, h3, h4⟩ := p1
    obtain ⟨w, hw, pw⟩ := fs_look h4 el
    obtain ⟨q0, m, e⟩ := look_mem el
    exact ⟨x, Cc, dx, gs, w, rfl, r1.q.sub _ _ h3, h1, by rw [← e]; exact h2 _ m, hw, c F1 w H1 s2 s1 r1 pw q⟩
instance s_isRc {K K' : PySem.W.Frag} {Cc x : Addr} {fs : List (Str × Sv)} [e : Lkk K' K] : Stp (isRc K f k (.hdl (rcM K' Cc x fs))) (fldK fs f k) := ⟨fun ⟨t, h1, h2⟩ => ⟨⟨Cc, x, fs, t, by rw [e.h], h1, h2⟩⟩⟩
instance s_fldV {K' : PySem.W.Frag} [e : Lkk K' C.K] : Stp (Dv C G O (tFld K' t f) k) (Dv C G O t (isRc C.K f k)) := ⟨by rw [e.h]; exact dv_fld⟩
instance s_fldX {K' : PySem.W.Frag} {k : PyData → Prop} [e : Lkk K' C.K] : Stp (Dx C G O (tFld K' t f) k) (Dv C G O t (isRc C.K f (isD k))) := ⟨by rw [e.h]; exact fun h => dx_dv (dv_fld h)⟩
end
/-! ## what is walked, of any kind -/
/-- an item: something known, or a pair made for the turn -/
inductive Wi where
  | s (v : Sv)
  | p (a : PyData) (v : Sv)
structure SWk (C : Cy) (F : Hp) (J : It) (ws : List Wi) : Prop where
  ex : ∃ (Gd : Hp → Prop) (Y : Nat → Hp → V → Hp → Prop), L2.Walk J ws.length Gd Y ∧ (∀ F' H', Same F F' → Same F' H' → Gd H') ∧
    ∀ i F' H' x H'', i < ws.length → Same F F' → Same F' H' → Y i H' x H'' → ∃ w, ws[i]? = some w ∧ ((∃ s, w = .s s ∧ H'' = H' ∧ SvOk C.K F' x s) ∨ ∃ T y z d s, w = .p d s ∧ x = V.ref T ∧ H' T = none ∧ H'' = upd H' T (.tup [y, z]) ∧ Dp C.K F' y d ∧ SvOk C.K F' z s)
/-- a locked dict -/
def Lkd (C : Cy) (a : Addr) : Prop := ∃ o ys, C.F0 a = some (.frz o (.dK ys))
def Sw (C : Cy) (G : List Sv) (O : Ow) (wi : TI) (k : List Wi → Prop) : Prop := ∀ X F H σ (R : It → Hp → Prop), Rp C F H σ G (O ++ X) → (∀ F' H' J ws, Gw (O ++ X) F H F' H' → Rp C F' H' σ G (O ++ X) → SWk C F' J ws → k ws → R J H') → wi σ H R
theorem paired_at {α β : Type} {R : α → β → Prop} {xs : List α} {ys : List β} (h : Paired R xs ys) {i : Nat} {x : α} (e : xs[i]? = some x) : ∃ y, ys[i]? = some y ∧ R x y := paired_get h e
section
variable {C : Cy} {G : List Sv} {O : Ow} {td : TE} {k : List Wi → Prop}
/-- what a locked dict's handle says -/
theorem dvM_lk {K : PySem.W.Frag} {F F0 : Hp} {a : Addr} {kvs : List (Key × Sv)} {v : V} (s : Same F0 F) (h : (dvM K a kvs).P F v) (l : ∃ o ys, F0 a = some (.frz o (.dK ys))) : ∃ o ys, v = .ref a ∧ F a = some (.frz o (.dK ys)) ∧ DKs K F ys kvs := by
  obtain ⟨rfl, ys, hr, hk⟩ := h
  obtain ⟨o, zs, e⟩ := l
  have e := s _ _ e
  rcases hr with hr | ⟨o', hr⟩
  · rw [e] at hr; cases hr
  · rw [e] at hr; cases hr
    exact ⟨o, _, rfl, e, hk⟩
theorem sw_vals (h : Dv C G O td (isDc C.K fun a kvs => Lkd C a ∧ k (kvs.map fun p => .s p.2))) : Sw C G O (iVals td) k := fun X F H σ R r c =>
  h X F H σ _ r fun F1 v H1 s s1 r1 p1 ⟨a, kvs, es, l, q⟩ => by
    subst es
    obtain ⟨o, ys, rfl, e, hk⟩ := dvM_lk r1.q.old p1 l
    refine ⟨a, o, ys, rfl, r1.q.sub _ _ e, c F1 H1 _ _ s1 r1 ⟨_, _, by rw [List.length_map, ← Paired.length hk]; exact walk_values (d := a) (o := o) (kvs := ys), fun F' H' s2 u2 => u2 _ _ (s2 _ _ e), fun i F' H' x H'' hi s2 u2 y => ?_⟩ q⟩
    obtain ⟨rfl, key, ey⟩ := y
    obtain ⟨q, hq, h1, h2⟩ := paired_at hk ey
    exact ⟨_, by rw [List.getElem?_map, hq]; rfl, .inl ⟨q.2, rfl, rfl, h2.mono s2⟩⟩
theorem sw_items (h : Dv C G O td (isDc C.K fun a kvs => Lkd C a ∧ k (kvs.map fun p => .p (keyD p.1) p.2))) : Sw C G O (iItems td) k := fun X F H σ R r c =>
  h X F H σ _ r fun F1 v H1 s s1 r1 p1 ⟨a, kvs, es, l, q⟩ => by
    subst es
    obtain ⟨o, ys, rfl, e, hk⟩ := dvM_lk r1.q.old p1 l
    refine ⟨a, o, ys, rfl, r1.q.sub _ _ e, c F1 H1 _ _ s1 r1 ⟨_, _, by rw [List.length_map, ← Paired.length hk]; exact walk_items (d := a) (o := o) (kvs := ys), fun F' H' s2 u2 => u2 _ _ (s2 _ _ e), fun i F' H' x H'' hi s2 u2 y => ?_⟩ q⟩
    obtain ⟨T, y, z, rfl, n, rfl, e1, e2⟩ := y
    have e1 : (ys[i]?).map (fun kv => kV kv.1) = some y := e1
    have e2 : (ys[i]?).map Prod.snd = some z := e2
    cases ey : ys[i]? with
    | none => rw [ey] at e1; cases e1
    | some p =>
      rw [ey] at e1 e2
      cases e1; cases e2
      obtain ⟨q, hq, h1, h2⟩ := paired_at hk ey
      exact ⟨_, by rw [List.getElem?_map, hq]; rfl, .inr ⟨T, _, _, keyD q.1, q.2, rfl, rfl, n, rfl, by show Dp C.K F' (kV p.1) (keyD q.1); rw [show p.1 = q.1 from h1]; exact key_dp _, h2.mono s2⟩⟩
/-- the keys are data -/
theorem dw_keys {k : List PyData → Prop} (h : Dv C G O td (isDc C.K fun a kvs => Lkd C a ∧ k (kvs.map fun p => keyD p.1))) : Dw C G O (iKeys td) k := fun X F H σ R r c =>
  h X F H σ _ r fun F1 v H1 s s1 r1 p1 ⟨a, kvs, es, l, q⟩ => by
    subst es
    obtain ⟨o, ys, rfl, e, hk⟩ := dvM_lk r1.q.old p1 l
    refine ⟨a, o, rfl, .inl ⟨ys, r1.q.sub _ _ e, c F1 H1 _ _ s1 r1 ⟨_, _, by rw [List.length_map, ← Paired.length hk]; exact walk_keys (d := a) (o := o) (kvs := ys), fun F' H' s2 u2 => u2 _ _ (s2 _ _ e), fun i F' H' x H'' hi s2 u2 y => ?_⟩ q⟩⟩
    obtain ⟨rfl, key, v, ey, rfl⟩ := y
    obtain ⟨q, hq, h1, h2⟩ := paired_at hk ey
    refine ⟨_, by rw [List.getElem?_map, hq]; rfl, .inl ⟨rfl, ?_⟩⟩
    show Dp C.K F' (kV key) (keyD q.1)
    rw [show q.1 = key from h1.symm]
    exact key_dp _
end
/-! ## targets of items -/
def Wg (C : Cy) (G : List Sv) (O : Ow) (vz : Option (List Nat)) (g : TG) (w : Wi) (k : List Sv → Prop) : Prop :=
  ∀ X F H σ x Q, Rp C F H σ G (O ++ X) → ((∃ s, w = .s s ∧ SvOk C.K F x s) ∨ ∃ T y z d s, w = .p d s ∧ x = V.ref T ∧ SqT C.K F T [y, z] ∧ Dp C.K F y d ∧ SvOk C.K F z s) → (∀ σ' G', Rp C F H σ' G' (O ++ X) → (∀ l : List Nat, vz = some l → wipe σ' l = wipe σ l) → k G' → Q σ' H) → g x σ H Q
section
variable {C : Cy} {G : List Sv} {O : Ow}
theorem wg_name {vz : Option (List Nat)} {i : Nat} {s : Sv} {k : List Sv → Prop} (q : k (G.set i s)) (m : ∀ l, vz = some l → i ∈ l) : Wg C G O vz (gName i) (.s s) k := fun X F H σ x Q r p c => by
  rcases p with ⟨s', e, p⟩ | ⟨_, _, _, _, _, e, _⟩
  · cases e
    exact c _ _ (r.set p) (fun l e => wipe_set (m l e)) q
  · cases e
theorem wg_data {vz : Option (List Nat)} {g : TG} {d : PyData} {k : List Sv → Prop} (h : Dg C G O vz g d k) : Wg C G O vz g (.s (.dat d)) k := fun X F H σ x Q r p c => by
  rcases p with ⟨s', e, p⟩ | ⟨_, _, _, _, _, e, _⟩
  · cases e
    exact h X F H σ x Q r p c
  · cases e
theorem wg_pair {vz : Option (List Nat)} {K' : PySem.W.Frag} {n i j : Nat} {d : PyData} {s : Sv} {k : List Sv → Prop} (q : k ((G.set i (.dat d)).set j s)) (m : ∀ l, vz = some l → i ∈ l ∧ j ∈ l) (hn : n = 2 := by with_unfolding_all rfl) (hK : K' = C.K := by with_unfolding_all rfl) : Wg C G O vz (gTup K' n (gCons (gName i) (gCons (gName j) gNil))) (.p d s) k := fun X F H σ x Q r p c => by
  subst hK hn
  rcases p with ⟨_, e, _⟩ | ⟨T, y, z, d', s', e, rfl, ht, p1, p2⟩
  · cases e
  · cases e
    refine ⟨T, [y, z], rfl, Same.tup r.q.sub ht, rfl, y, [z], rfl, z, [], rfl, rfl, ?_⟩
    refine c _ _ ((r.set (s := .dat d) p1).set p2) (fun l e => ?_) q
    rw [wipe_set (m l e).2, wipe_set (m l e).1]
/-! ## an item of a turn -/
theorem Rp.wi {F H : Hp} {σ : L2.St} {x : V} {H' : Hp} {w : Wi} (r : Rp C F H σ G O) (h : (∃ s, w = .s s ∧ H' = H ∧ SvOk C.K F x s) ∨ ∃ T y z d s, w = .p d s ∧ x = V.ref T ∧ H T = none ∧ H' = upd H T (.tup [y, z]) ∧ Dp C.K F y d ∧ SvOk C.K F z s) :
    ∃ F', Gw O F H F' H' ∧ Rp C F' H' σ G O ∧ ((∃ s, w = .s s ∧ SvOk C.K F' x s) ∨ ∃ T y z d s, w = .p d s ∧ x = V.ref T ∧ SqT C.K F' T [y, z] ∧ Dp C.K F' y d ∧ SvOk C.K F' z s) := by
  rcases h with ⟨s, e, rfl, p⟩ | ⟨T, y, z, d, s, e, rfl, n, rfl, p1, p2⟩
  · exact ⟨F, Gw.refl, r, .inl ⟨s, e, p⟩⟩
  · have g := r.gm (o := .tup [y, z]) n
    exact ⟨_, g, r.newF n, .inr ⟨T, y, z, d, s, e, rfl, SqT.of upd_same, Dp.mono g.sf _ _ p1, p2.mono g.sf⟩⟩
theorem ds_forW {E : En} {wi : TI} {g : TG} {tb : TS} (h : Sw C G O wi fun ws => ∃ I : Nat → List Sv → Ow → Prop, I 0 G O ∧ (∀ (i : Nat) w G' O', ws[i]? = some w → I i G' O' → Wg C G' O' none g w fun G2 => Ds C G2 O' tb { nx := I (i + 1), rt := E.rt, bk := E.nx, ct := I (i + 1) }) ∧ ∀ G' O', I ws.length G' O' → E.nx G' O') : Ds C G O (tFor wi g tb) E := fun X F H σ D r n1 n2 _ _ =>
  h X F H σ _ r fun F1 H1 J ws s1 r1 wk ⟨I, h0, hs, hd⟩ => by
    obtain ⟨Gd, Y, w, hG, hY⟩ := wk.ex
    refine for_it w (fun i σ' H' => ∃ F' G' O', Same F1 F' ∧ Rp C F' H' σ' G' (O' ++ X) ∧ I i G' O') ?_ ?_ ?_ ?_
    · exact ⟨F1, G, O, Same.refl _, r1, h0⟩
    · rintro i σ' H' hi ⟨F', G', O', s', r', _⟩
      exact hG F' H' s' r'.q.sub
    · rintro i x σ' Hx H' hi ⟨F', G', O', s', r', hI⟩ y
      obtain ⟨d, hd, hx⟩ := hY i F' Hx x H' hi s' r'.q.sub y
      obtain ⟨F2, s2, r2, p2⟩ := r'.wi hx
      refine hs i d G' O' hd hI X F2 H' σ' x _ r2 p2 fun σ2 G2 r3 _ h3 => h3 X F2 H' σ2 _ r3 ?_ (n2.mono ((s1.sf.trans s').trans s2.sf)) (n1.mono ((s1.sf.trans s').trans s2.sf)) ?_
      · exact fun F3 σ3 H3 G3 O3 s3 r3 hI3 => ⟨F3, G3, O3, (s'.trans s2.sf).trans s3, r3, hI3⟩
      · exact fun F3 σ3 H3 G3 O3 s3 r3 hI3 => ⟨F3, G3, O3, (s'.trans s2.sf).trans s3, r3, hI3⟩
    · rintro σ' H' ⟨F', G', O', s', r', hI⟩
      exact n1 F' σ' H' G' O' (s1.sf.trans s') r' (hd G' O' hI)
end
/-! ## comprehensions over such walks -/
theorem dl_lcW {C : Cy} {G : List Sv} {O : Ow} {wi : TI} {g : TG} {tt : TT} {te : TE} {vs : List Nat} {k : List Sv → Prop} (h : Sw C G O wi fun ws => ws.length ≤ sizeLine ∧ ∃ R : Nat → List Sv → Prop, R 0 [] ∧ (∀ i d acc, ws[i]? = some d → R i acc → Wg C (wipeG G vs) O (some vs) g d fun G' => Dt C G' O tt fun b => if b = true then Dv C G' O te fun s => R (i + 1) (acc ++ [s]) else R (i + 1) acc) ∧ ∀ ss, R ws.length ss → k ss) :
    Dl C G O (tLc wi g tt te vs) k := fun X F H σ Q r c =>
  h X F H σ _ r fun F1 H1 J ws s1 r1 wk ⟨hz, R, h0, hs, hk⟩ => by
    intro D nD
    obtain ⟨Gd, Y, w, hG, hY⟩ := wk.ex
    have hD0 := r1.q.h0 nD
    refine lc_it w (fun i H' => ∃ F' acc, Gw (O ++ X) F1 H1 F' H' ∧ Rp C F' H' (L2.wipe σ vs) (wipeG G vs) ((D, .lst acc) :: (O ++ X)) ∧ Rp C F' H' σ G ((D, .lst acc) :: (O ++ X)) ∧ acc.length ≤ i ∧ R i acc) ?_ ?_ ?_ ?_
    · have r2 := r1.newO (p := D) (u := .lst []) (ob := .lst []) nD ⟨[], rfl, .nil⟩
      exact ⟨F1, [], r1.gn nD, r2.wipe vs, r2, Nat.zero_le _, h0⟩
    · rintro i H' hi ⟨F', acc, s', r', _, _⟩
      exact hG F' H' s'.sf r'.q.sub
    · rintro i x Hx H' hi ⟨F', acc, s', rw', r', hl, hR⟩ y
      obtain ⟨d, hd, hx⟩ := hY i F' Hx x H' hi s'.sf r'.q.sub y
      obtain ⟨F2, s2, r2, p2⟩ := rw'.wi hx
      have r2' : Rp C F2 H' σ G ((D, .lst acc) :: (O ++ X)) := by
        obtain ⟨F3, s3, r3, p3⟩ := r'.wi hx
        refine ⟨r2.q, r'.len, ?_, r2.ow, r2.nd⟩
        intro j s e
        obtain ⟨ov, a, b⟩ := r'.sl j s e
        exact ⟨ov, a, b.mono s2.sf⟩
      have s2 := s2.sub fun x hx => List.mem_cons_of_mem (D, Ob.lst acc) hx
      have perm : Rp C F2 H' (L2.wipe σ vs) (wipeG G vs) (O ++ ((D, .lst acc) :: X)) := by
        refine ⟨r2.q, r2.len, r2.sl, fun D' ob m => r2.ow D' ob ?_, ?_⟩
        · rcases List.mem_append.mp m with m | m
          · exact List.mem_cons_of_mem _ (List.mem_append_left _ m)
          · rcases List.mem_cons.mp m with m | m
            · rw [m]; exact List.mem_cons_self
            · exact List.mem_cons_of_mem _ (List.mem_append_right _ m)
        · have := r2.nd
          rw [List.map_append, List.map_cons]
          rw [List.map_cons, List.map_append] at this
          exact (List.perm_middle.nodup_iff).mpr this
      refine hs i d acc hd hR ((D, .lst acc) :: X) F2 H' (L2.wipe σ vs) x _ perm p2 fun σ2 G2 r3 w3 h3 => ⟨?_, ?_⟩
      · rw [w3 vs rfl]
        refine List.ext_getElem? fun i => ?_
        rw [wipe_get, wipe_get, wipe_length]
        by_cases m : i ∈ vs
        · rw [if_pos m, if_pos m]
        · rw [if_neg m, if_neg m]
      · refine h3 ((D, .lst acc) :: X) F2 H' σ2 _ r3 fun F4 b H4 s4 r4 h4 => ?_
        have back : ∀ {F5 H5 : Hp} {ob : Ob}, Same F2 F5 → Rp C F5 H5 σ2 G2 (O ++ ((D, ob) :: X)) → Rp C F5 H5 (L2.wipe σ vs) (wipeG G vs) ((D, ob) :: (O ++ X)) ∧ Rp C F5 H5 σ G ((D, ob) :: (O ++ X)) := by
          intro F5 H5 ob s5 r5
          have ow : ∀ D' ob', (D', ob') ∈ (D, ob) :: (O ++ X) → (D', ob') ∈ O ++ ((D, ob) :: X) := by
            intro D' ob' m
            rcases List.mem_cons.mp m with m | m
            · rw [m]; exact List.mem_append_right _ List.mem_cons_self
            · rcases List.mem_append.mp m with m | m
              · exact List.mem_append_left _ m
              · exact List.mem_append_right _ (List.mem_cons_of_mem _ m)
          have nd : (((D, ob) :: (O ++ X)).map Prod.fst).Nodup := by
            have := r5.nd
            rw [List.map_append, List.map_cons] at this
            rw [List.map_cons, List.map_append]
            exact (List.perm_middle.nodup_iff).mp this
          have go : ∀ {σ' : L2.St} {G' : List Sv}, Rp C F2 H' σ' G' ((D, .lst acc) :: (O ++ X)) → Rp C F5 H5 σ' G' ((D, ob) :: (O ++ X)) := fun {σ' G'} rr =>
            ⟨r5.q, rr.len, fun j s e => by
              obtain ⟨ov, a, b⟩ := rr.sl j s e
              exact ⟨ov, a, b.mono s5⟩, fun D' ob' m => r5.ow D' ob' (ow D' ob' m), nd⟩
          exact ⟨go r2, go r2'⟩
        cases b
        · refine iteF ?_
          obtain ⟨k1, k2⟩ := back s4.sf r4
          have s4 := s4.sub (mid O X)
          exact ⟨F4, acc, (s'.trans s2).trans s4, k1, k2, Nat.le_succ_of_le hl, by simpa using h4⟩
        · refine iteT ?_
          have h4 : Dv C G2 O te fun s => R (i + 1) (acc ++ [s]) := by simpa using h4
          refine h4 ((D, .lst acc) :: X) F4 H4 σ2 _ r4 fun F5 v H5 s s5 r5 p5 q5 => ?_
          obtain ⟨u, hu, xs, rfl, px⟩ := r5.obj (n := O.length) (by rw [List.getElem?_append_right (Nat.le_refl _), Nat.sub_self]; rfl)
          refine ⟨xs, hu, ?_, ?_⟩
          · rw [Paired.length px]
            omega
          · have r6 := r5.wr (n := O.length) (D := D) (ob := .lst acc) (ob' := .lst (acc ++ [s])) (u := .lst (xs ++ [v])) (by rw [List.getElem?_append_right (Nat.le_refl _), Nat.sub_self]; rfl) ⟨_, rfl, Paired.snoc px p5⟩
            have e : (O ++ (D, Ob.lst acc) :: X).set O.length (D, Ob.lst (acc ++ [s])) = O ++ (D, Ob.lst (acc ++ [s])) :: X := by
              rw [List.set_append_right _ _ (Nat.le_refl _), Nat.sub_self]
              rfl
            rw [e] at r6
            obtain ⟨k1, k2⟩ := back (s4.trans s5).sf r6
            have g6 : Gw (O ++ X) F5 H5 F5 (upd H5 D (.lst (xs ++ [v]))) := ⟨Same.refl _, fun D' ob m => upd_ne (fun z => r'.dis (by rw [← z]; exact m))⟩
            exact ⟨F5, acc ++ [s], (((s'.trans s2).trans (s4.sub (mid O X))).trans (s5.sub (mid O X))).trans g6, k1, k2, by rw [List.length_append, List.length_singleton]; omega, q5⟩
    · rintro H' ⟨F', acc, s', _, r', _, hR⟩
      exact c F' D H' acc (s1.trans s') hD0 r' (hk acc hR)
/-- [e for x in xs]: by a function of the items -/
theorem dl_mapW {C : Cy} {G : List Sv} {O : Ow} {wi : TI} {g : TG} {te : TE} {vs : List Nat} {k : List Sv → Prop} (h : Sw C G O wi fun ws => ws.length ≤ sizeLine ∧ ∃ (α : Type) (xs : List α) (g0 : α → Wi) (f : α → Sv), ws = xs.map g0 ∧ (∀ (i : Nat) x, xs[i]? = some x → Wg C (wipeG G vs) O (some vs) g (g0 x) fun G' => Dv C G' O te fun s => s = f x) ∧ k (xs.map f)) :
    Dl C G O (tLc wi g tYes te vs) k := by
  refine dl_lcW fun X F H σ R r c => h X F H σ R r fun F' H' J ds s r' w ⟨hz, α, xs, g0, f, e, hs, q⟩ => c F' H' J ds s r' w ⟨hz, fun i acc => acc = (xs.take i).map f, rfl, fun i d acc hd ha => ?_, fun ss e' => ?_⟩
  · subst e ha
    rw [List.getElem?_map] at hd
    obtain ⟨x, hx, rfl⟩ := Option.map_eq_some_iff.mp hd
    refine fun X F H σ v Q r p c => hs i x hx X F H σ v Q r p fun σ' G' r' w' h' => c σ' G' r' w' fun X F H σ Q r c => c F true H Gw.refl r (by
      refine (if_pos rfl).mpr ?_
      exact h'.mono fun s e => by show _ = _; rw [takeS hx, List.map_append, e]; rfl)
  · subst e e'
    rw [List.length_map, List.take_length]
    exact q
theorem dl_filtW {C : Cy} {G : List Sv} {O : Ow} {wi : TI} {g : TG} {tt : TT} {te : TE} {vs : List Nat} {k : List Sv → Prop} (h : Sw C G O wi fun ws => ws.length ≤ sizeLine ∧ ∃ (α : Type) (xs : List α) (g0 : α → Wi) (p : α → Bool) (f : α → Sv), ws = xs.map g0 ∧ (∀ (i : Nat) x, xs[i]? = some x → Wg C (wipeG G vs) O (some vs) g (g0 x) fun G' => Dt C G' O tt fun b => b = p x ∧ (b = true → Dv C G' O te fun s => s = f x)) ∧ k ((xs.filter p).map f)) :
    Dl C G O (tLc wi g tt te vs) k := by
  refine dl_lcW fun X F H σ R r c => h X F H σ R r fun F' H' J ds s r' w ⟨hz, α, xs, g0, p, f, e, hs, q⟩ => c F' H' J ds s r' w ⟨hz, fun i acc => acc = ((xs.take i).filter p).map f, rfl, fun i d acc hd ha => ?_, fun ss e' => ?_⟩
  · subst e ha
    rw [List.getElem?_map] at hd
    obtain ⟨x, hx, rfl⟩ := Option.map_eq_some_iff.mp hd
    refine fun X F H σ v Q r pp c => hs i x hx X F H σ v Q r pp fun σ' G' r' w' h' => c σ' G' r' w' (h'.mono fun b ⟨e, hb⟩ => ?_)
    cases b
    · rw [if_neg Bool.false_ne_true]
      show List.map f (List.filter p (List.take i xs)) = List.map f (List.filter p (List.take (i + 1) xs))
      rw [takeS hx, List.filter_append]
      have : [x].filter p = [] := by rw [List.filter_cons, ← e]; rfl
      rw [this, List.append_nil]
    · rw [if_pos rfl]
      have : [x].filter p = [x] := by rw [List.filter_cons, ← e]; rfl
      refine (hb rfl).mono fun s e => ?_
      show List.map f (List.filter p (List.take i xs)) ++ [s] = List.map f (List.filter p (List.take (i + 1) xs))
      rw [takeS hx, List.filter_append, this, List.map_append, e]
      rfl
  · subst e e'
    rw [List.length_map, List.take_length]
    exact q
/-! ## locks -/
/-- the statement, its dict locked where it is not locked -/
def tLockQ (t : TS) : TS := fun D σ H => tLock t D σ H ∨ t D σ H
def tLockEQ (t : TE) : TE := fun σ H Q => tLockE t σ H Q ∨ t σ H Q
theorem ps_lockQ {X : Cx} {st : Stmt} {t : TS} (h : PS X st t) : PS X st (tLockQ t) := ⟨fun pins s σ H D I q => q.elim (fun q => (ps_lock h).run pins s σ H D I q) fun q => h.run pins s σ H D I q⟩
theorem pe_lockQ {X : Cx} {e : Expr} {t : TE} (h : PE X e t) : PE X e (tLockEQ t) := ⟨fun pins s σ H Q I q => q.elim (fun q => (pe_lock h).run pins s σ H Q I q) fun q => h.run pins s σ H Q I q⟩
/-- the same surroundings, begun elsewhere -/
abbrev reC (C : Cy) (H0 F0 : Hp) : Cy := { K := C.K, B := C.B, A := C.A, dw := C.dw, H0 := H0, F0 := F0, dwS := C.dwS, dwT := C.dwT }
/-- what is known of the locked surroundings -/
structure LkI (C : Cy) (O : Ow) (a : Addr) (H0' F0' : Hp) : Prop where
  lk : Lkd (reC C H0' F0') a
  dn : ∀ D ob, (D, ob) ∈ O → C.H0 D = none → H0' D = none
  up : ∀ D, H0' D = none → C.H0 D = none
section
variable {C : Cy} {G : List Sv} {O : Ow}
theorem Rq.unlock {C : Cy} {F H F2 H2 : Hp} {σ0 : L2.St} {G0 : List Sv} {O0 : Ow} {d : Addr} {od : Obj} {u : HO} (r0 : Rp C F H σ0 G0 O0) (eF : F d = some u) (h : Rq (lkC C d od u) F2 H2) (e : F2 d = some (.frz od u)) (dk : IsDk u) : Rq C (upd F2 d u) (upd H2 d u) :=
  (Rp.unlock (σ := []) (G := []) (O := []) r0 eF ⟨h, rfl, (fun i s e => by cases e), (fun _ _ m => by cases m), List.nodup_nil⟩ e dk).q
theorem same_unlock {F F2 : Hp} {d : Addr} {od : Obj} {u : HO} (eF : F d = some u) (s : Same (upd F d (.frz od u)) F2) : Same F (upd F2 d u) := fun b o e => by
  by_cases z : b = d
  · rw [z] at e ⊢
    rw [eF] at e
    rw [upd_same]; exact e
  · rw [upd_ne z]
    exact s b o (by rw [upd_ne z]; exact e)
theorem ds_lockQ {t : TS} {E : En} {i : Nat} {a : Addr} {kvs : List (Key × Sv)} (hG : G[i]? = some (.hdl (dvM C.K a kvs))) (h : ∀ H0' F0', LkI C O a H0' F0' → Ds (reC C H0' F0') G O t E) : Ds C G O (tLockQ t) E := fun X F H σ D r n1 n2 n3 n4 => by
  obtain ⟨v, e, rfl, ys, hr, hk⟩ := r.get hG (fun z => by cases z)
  rcases hr with hr | ⟨o, hr⟩
  · left
    have dk : IsDk (.dK ys) := .inl ⟨ys, rfl⟩
    refine ⟨a, .dK ys, r.q.sub _ _ hr, dk.mut, fun od => ?_⟩
    have rl := r.lock (od := od) hr dk
    have fd : ∀ {F2 : Hp}, Same (upd F a (.frz od (.dK ys))) F2 → F2 a = some (.frz od (.dK ys)) := fun s => s _ _ upd_same
    have hne : ∀ D ob, (D, ob) ∈ O → D ≠ a := fun D ob m z => by
      obtain ⟨_, b, _⟩ := r.ow D ob (List.mem_append_left _ m)
      rw [z, hr] at b; cases b
    refine h (upd C.H0 a (.frz od (.dK ys))) (upd C.F0 a (.frz od (.dK ys))) ⟨⟨od, ys, upd_same⟩, fun D ob m e => by rw [upd_ne (hne D ob m)]; exact e, fun D e => ?_⟩ X _ _ σ _ rl ?_ ⟨?_, ?_⟩ ?_ ?_
    · by_cases z : D = a
      · rw [z, upd_same] at e; cases e
      · rw [upd_ne z] at e; exact e
    · intro F2 σ2 H2 G2 O2 s2 r2 hn
      have e2 := fd s2
      exact ⟨r2.q.sub _ _ e2, n1 _ _ _ G2 O2 (same_unlock hr s2) (Rp.unlock r hr r2 e2 dk) hn⟩
    · intro F2 w H2 s s2 q2 sv hn
      have e2 := fd s2
      exact ⟨q2.sub _ _ e2, n2.v _ w _ s (same_unlock hr s2) (Rq.unlock r hr q2 e2 dk) (sv.ry (ry_unlock e2)) hn⟩
    · intro F2 D2 H2 ss xs s2 q2 h0 nf nA hD pp hn
      have e2 := fd s2
      have z : D2 ≠ a := fun z => by rw [z, e2] at nf; cases nf
      refine ⟨q2.sub _ _ e2, n2.l _ D2 _ ss xs (same_unlock hr s2) (Rq.unlock r hr q2 e2 dk) ?_ (by rw [upd_ne z]; exact nf) nA (by rw [upd_ne z]; exact hD) (Paired.mono (fun _ _ q => SvOk.ry (ry_unlock e2) q) pp) hn⟩
      have h0 : upd C.H0 a (.frz od (.dK ys)) D2 = none := h0
      rwa [upd_ne z] at h0
    · intro F2 σ2 H2 G2 O2 s2 r2 hn
      have e2 := fd s2
      exact ⟨r2.q.sub _ _ e2, n3 _ _ _ G2 O2 (same_unlock hr s2) (Rp.unlock r hr r2 e2 dk) hn⟩
    · intro F2 σ2 H2 G2 O2 s2 r2 hn
      have e2 := fd s2
      exact ⟨r2.q.sub _ _ e2, n4 _ _ _ G2 O2 (same_unlock hr s2) (Rp.unlock r hr r2 e2 dk) hn⟩
  · right
    exact h C.H0 C.F0 ⟨⟨o, ys, r.q.lk _ _ _ (.inl ⟨ys, rfl⟩) hr⟩, fun _ _ _ e => e, fun _ e => e⟩ X F H σ D r n1 n2 n3 n4
/-- the lock of an expression, and what stands behind it -/
theorem lockE {X : Ow} {F H : Hp} {σ : L2.St} {t : TE} {Q : VK} {i : Nat} {a : Addr} {kvs : List (Key × Sv)} (hG : G[i]? = some (.hdl (dvM C.K a kvs))) (r : Rp C F H σ G (O ++ X))
    (h : ∀ H0' F0' F1 H1 (Q' : VK), LkI C O a H0' F0' → Rp (reC C H0' F0') F1 H1 σ G (O ++ X) →
      (∀ v F2 H2 (O2 : Ow), Gw (O ++ X) F1 H1 F2 H2 → Rp (reC C H0' F0') F2 H2 σ G O2 → (∀ F3 H3, Ry F2 F3 → Rp C F3 H3 σ G O2 → Gw (O ++ X) F H F3 H3 → Q v H3) → Q' v H2) → t σ H1 Q') : tLockEQ t σ H Q := by
  obtain ⟨v, e, rfl, ys, hr, hk⟩ := r.get hG (fun z => by cases z)
  have dk : IsDk (.dK ys) := .inl ⟨ys, rfl⟩
  rcases hr with hr | ⟨o, hr⟩
  · left
    refine ⟨a, .dK ys, r.q.sub _ _ hr, dk.mut, fun od => ?_⟩
    have rl := r.lock (od := od) hr dk
    have fd : ∀ {F2 : Hp}, Same (upd F a (.frz od (.dK ys))) F2 → F2 a = some (.frz od (.dK ys)) := fun s => s _ _ upd_same
    have hne : ∀ D ob, (D, ob) ∈ O ++ X → D ≠ a := fun D ob m z => by
      obtain ⟨_, b, _⟩ := r.ow D ob m
      rw [z, hr] at b; cases b
    refine h (upd C.H0 a (.frz od (.dK ys))) (upd C.F0 a (.frz od (.dK ys))) _ _ _ ⟨⟨od, ys, upd_same⟩, fun D ob m e => by rw [upd_ne (hne D ob (List.mem_append_left _ m))]; exact e, fun D e => ?_⟩ rl ?_
    · by_cases z : D = a
      · rw [z, upd_same] at e; cases e
      · rw [upd_ne z] at e; exact e
    · intro v F2 H2 O2 g r2 c
      have e2 := fd g.sf
      refine ⟨r2.q.sub _ _ e2, c (upd F2 a (.dK ys)) (upd H2 a (.dK ys)) (ry_unlock e2) (Rp.unlock r hr r2 e2 dk) ⟨same_unlock hr g.sf, fun D ob m => ?_⟩⟩
      rw [upd_ne (hne D ob m), g.ow D ob m, upd_ne (hne D ob m)]
  · right
    exact h C.H0 C.F0 F H Q ⟨⟨o, ys, r.q.lk _ _ _ dk hr⟩, fun _ _ _ e => e, fun _ e => e⟩ r fun v F2 H2 O2 g r2 c => c F2 H2 (Ry.of (Same.refl F2)) r2 g
theorem dl_lockQ {t : TE} {k : List Sv → Prop} {i : Nat} {a : Addr} {kvs : List (Key × Sv)} (hG : G[i]? = some (.hdl (dvM C.K a kvs))) (h : ∀ H0' F0', LkI C O a H0' F0' → Dl (reC C H0' F0') G O t k) : Dl C G O (tLockEQ t) k := fun X F H σ Q r c =>
  lockE hG r fun H0' F0' F1 H1 Q' l r1 fin => h H0' F0' l X F1 H1 σ Q' r1 fun F2 D H2 ss g h0 r2 q =>
    fin _ F2 H2 _ g r2 fun F3 H3 ry r3 g3 => c F3 D H3 ss g3 (l.up D h0) r3 q
theorem dv_lockQ {t : TE} {k : Sv → Prop} {i : Nat} {a : Addr} {kvs : List (Key × Sv)} (hG : G[i]? = some (.hdl (dvM C.K a kvs))) (h : ∀ H0' F0', LkI C O a H0' F0' → Dv (reC C H0' F0') G O t k) : Dv C G O (tLockEQ t) k := fun X F H σ Q r c =>
  lockE hG r fun H0' F0' F1 H1 Q' l r1 fin => h H0' F0' l X F1 H1 σ Q' r1 fun F2 v H2 s g r2 p q =>
    fin _ F2 H2 _ g r2 fun F3 H3 ry r3 g3 => c F3 v H3 s g3 r3 (p.ry ry) q
theorem dx_lockQ {t : TE} {k : PyData → Prop} {i : Nat} {a : Addr} {kvs : List (Key × Sv)} (hG : G[i]? = some (.hdl (dvM C.K a kvs))) (h : ∀ H0' F0', LkI C O a H0' F0' → Dx (reC C H0' F0') G O t k) : Dx C G O (tLockEQ t) k := dx_dv (dv_lockQ hG fun H0' F0' l => (h H0' F0' l) |> fun z => dv_dx (z.mono fun d q => ⟨d, rfl, q⟩))
end
/-! ## dict comprehensions -/
theorem putG_len {β : Type} (kvs : List (Key × β)) (k : Key) (v : β) : (putG kvs k v).length ≤ kvs.length + 1 := by
  unfold putG
  split
  · rw [List.length_map]; omega
  · rw [List.length_append]; exact Nat.le_refl _
theorem dv_dcW {C : Cy} {G : List Sv} {O : Ow} {wi : TI} {g : TG} {tt : TT} {tk tv : TE} {vs : List Nat} {k : Sv → Prop} (h : Sw C G O wi fun ws => ws.length ≤ sizeLine ∧ ∃ R : Nat → List (Key × Sv) → Prop, R 0 [] ∧ (∀ i d acc, ws[i]? = some d → R i acc → Wg C (wipeG G vs) O (some vs) g d fun G' => Dt C G' O tt fun b => if b = true then Dx C G' O tk (keyK fun key => Dv C G' O tv fun s => R (i + 1) (putG acc key s)) else R (i + 1) acc) ∧ ∀ kvs, R ws.length kvs → ∀ D, k (.hdl (dvM C.K D kvs))) :
    Dv C G O (tDc wi g tt tk tv vs) k := fun X F H σ Q r c =>
  h X F H σ _ r fun F1 H1 J ws s1 r1 wk ⟨hz, R, h0, hs, hk⟩ => by
    intro D nD
    obtain ⟨Gd, Y, w, hG, hY⟩ := wk.ex
    have hD0 := r1.q.h0 nD
    refine dc_it w (fun i H' => ∃ F' acc, Gw (O ++ X) F1 H1 F' H' ∧ Rp C F' H' (L2.wipe σ vs) (wipeG G vs) ((D, .dK acc) :: (O ++ X)) ∧ Rp C F' H' σ G ((D, .dK acc) :: (O ++ X)) ∧ acc.length ≤ i ∧ R i acc) ?_ ?_ ?_ ?_
    · have r2 := r1.newO (p := D) (u := .dK []) (ob := .dK []) nD ⟨[], rfl, .nil⟩
      exact ⟨F1, [], r1.gn nD, r2.wipe vs, r2, Nat.zero_le _, h0⟩
    · rintro i H' hi ⟨F', acc, s', r', _, _⟩
      exact hG F' H' s'.sf r'.q.sub
    · rintro i x Hx H' hi ⟨F', acc, s', rw', r', hl, hR⟩ y
      obtain ⟨d, hd, hx⟩ := hY i F' Hx x H' hi s'.sf r'.q.sub y
      obtain ⟨F2, s2, r2, p2⟩ := rw'.wi hx
      have r2' : Rp C F2 H' σ G ((D, .dK acc) :: (O ++ X)) := by
        obtain ⟨F3, s3, r3, p3⟩ := r'.wi hx
        refine ⟨r2.q, r'.len, ?_, r2.ow, r2.nd⟩
        intro j s e
        obtain ⟨ov, a, b⟩ := r'.sl j s e
        exact ⟨ov, a, b.mono s2.sf⟩
      have s2 := s2.sub fun x hx => List.mem_cons_of_mem (D, Ob.dK acc) hx
      have perm : Rp C F2 H' (L2.wipe σ vs) (wipeG G vs) (O ++ ((D, .dK acc) :: X)) := by
        refine ⟨r2.q, r2.len, r2.sl, fun D' ob m => r2.ow D' ob ?_, ?_⟩
        · rcases List.mem_append.mp m with m | m
          · exact List.mem_cons_of_mem _ (List.mem_append_left _ m)
          · rcases List.mem_cons.mp m with m | m
            · rw [m]; exact List.mem_cons_self
            · exact List.mem_cons_of_mem _ (List.mem_append_right _ m)
        · have := r2.nd
          rw [List.map_append, List.map_cons]
          rw [List.map_cons, List.map_append] at this
          exact (List.perm_middle.nodup_iff).mpr this
      refine hs i d acc hd hR ((D, .dK acc) :: X) F2 H' (L2.wipe σ vs) x _ perm p2 fun σ2 G2 r3 w3 h3 => ⟨?_, ?_⟩
      · rw [w3 vs rfl]
        refine List.ext_getElem? fun i => ?_
        rw [wipe_get, wipe_get, wipe_length]
        by_cases m : i ∈ vs
        · rw [if_pos m, if_pos m]
        · rw [if_neg m, if_neg m]
      · refine h3 ((D, .dK acc) :: X) F2 H' σ2 _ r3 fun F4 b H4 s4 r4 h4 => ?_
        have back : ∀ {F5 H5 : Hp} {ob : Ob}, Same F2 F5 → Rp C F5 H5 σ2 G2 (O ++ ((D, ob) :: X)) → Rp C F5 H5 (L2.wipe σ vs) (wipeG G vs) ((D, ob) :: (O ++ X)) ∧ Rp C F5 H5 σ G ((D, ob) :: (O ++ X)) := by
          intro F5 H5 ob s5 r5
          have ow : ∀ D' ob', (D', ob') ∈ (D, ob) :: (O ++ X) → (D', ob') ∈ O ++ ((D, ob) :: X) := by
            intro D' ob' m
            rcases List.mem_cons.mp m with m | m
            · rw [m]; exact List.mem_append_right _ List.mem_cons_self
            · rcases List.mem_append.mp m with m | m
              · exact List.mem_append_left _ m
              · exact List.mem_append_right _ (List.mem_cons_of_mem _ m)
          have nd : (((D, ob) :: (O ++ X)).map Prod.fst).Nodup := by
            have := r5.nd
            rw [List.map_append, List.map_cons] at this
            rw [List.map_cons, List.map_append]
            exact (List.perm_middle.nodup_iff).mp this
          have go : ∀ {σ' : L2.St} {G' : List Sv}, Rp C F2 H' σ' G' ((D, .dK acc) :: (O ++ X)) → Rp C F5 H5 σ' G' ((D, ob) :: (O ++ X)) := fun {σ' G'} rr =>
            ⟨r5.q, rr.len, fun j s e => by
              obtain ⟨ov, a, b⟩ := rr.sl j s e
              exact ⟨ov, a, b.mono s5⟩, fun D' ob' m => r5.ow D' ob' (ow D' ob' m), nd⟩
          exact ⟨go r2, go r2'⟩
        cases b
        · refine iteF ?_
          obtain ⟨k1, k2⟩ := back s4.sf r4
          have s4 := s4.sub (mid O X)
          exact ⟨F4, acc, (s'.trans s2).trans s4, k1, k2, Nat.le_succ_of_le hl, by simpa using h4⟩
        · refine iteT ?_
          have h4 : Dx C G2 O tk (keyK fun key => Dv C G2 O tv fun s => R (i + 1) (putG acc key s)) := by simpa using h4
          refine h4 ((D, .dK acc) :: X) F4 H4 σ2 _ r4 fun F5 v H5 dk s5 r5 p5 ⟨key, ed, q5⟩ => q5 ((D, .dK acc) :: X) F5 H5 σ2 _ r5 fun F6 z H6 s s6 r6 p6 q6 => ?_
          subst ed
          obtain ⟨u, hu, xs, rfl, px⟩ := r6.obj (n := O.length) (by rw [List.getElem?_append_right (Nat.le_refl _), Nat.sub_self]; rfl)
          refine ⟨xs, key, dp_key p5, hu, ?_, ?_⟩
          · rw [Paired.length px]
            omega
          · have r7 := r6.wr (n := O.length) (D := D) (ob := .dK acc) (ob' := .dK (putG acc key s)) (u := .dK (putK xs key z)) (by rw [List.getElem?_append_right (Nat.le_refl _), Nat.sub_self]; rfl) ⟨_, rfl, DKs.put px p6⟩
            have e : (O ++ (D, Ob.dK acc) :: X).set O.length (D, Ob.dK (putG acc key s)) = O ++ (D, Ob.dK (putG acc key s)) :: X := by
              rw [List.set_append_right _ _ (Nat.le_refl _), Nat.sub_self]
              rfl
            rw [e] at r7
            obtain ⟨k1, k2⟩ := back ((s4.trans s5).trans s6).sf r7
            have g7 : Gw (O ++ X) F6 H6 F6 (upd H6 D (.dK (putK xs key z))) := ⟨Same.refl _, fun D' ob m => upd_ne (fun z => r'.dis (by rw [← z]; exact m))⟩
            exact ⟨F6, putG acc key s, ((((s'.trans s2).trans (s4.sub (mid O X))).trans (s5.sub (mid O X))).trans (s6.sub (mid O X))).trans g7, k1, k2, Nat.le_trans (putG_len acc key s) (by omega), q6⟩
    · rintro H' ⟨F', acc, s', _, r', _, hR⟩
      obtain ⟨F2, u, s2, e, ⟨ys, rfl, p⟩, r2⟩ := r'.frz (n := 0) (ob := .dK acc) hD0 rfl
      exact c F2 (.ref D) H' (.hdl (dvM C.K D acc)) ((s1.trans s').trans (Gw.of s2)) r2 ⟨rfl, ys, .inl e, p⟩ (hk acc hR D)
theorem dv_dc {C : Cy} {G : List Sv} {O : Ow} {wi : TI} {g : TG} {tt : TT} {tk tv : TE} {vs : List Nat} {k : Sv → Prop} (h : Dw C G O wi fun ws => ws.length ≤ sizeLine ∧ ∃ R : Nat → List (Key × Sv) → Prop, R 0 [] ∧ (∀ i d acc, ws[i]? = some d → R i acc → Dg C (wipeG G vs) O (some vs) g d fun G' => Dt C G' O tt fun b => if b = true then Dx C G' O tk (keyK fun key => Dv C G' O tv fun s => R (i + 1) (putG acc key s)) else R (i + 1) acc) ∧ ∀ kvs, R ws.length kvs → ∀ D, k (.hdl (dvM C.K D kvs))) :
    Dv C G O (tDc wi g tt tk tv vs) k := fun X F H σ Q r c =>
  h X F H σ _ r fun F1 H1 J ws s1 r1 wk ⟨hz, R, h0, hs, hk⟩ => by
    intro D nD
    obtain ⟨Gd, Y, w, hG, hY⟩ := wk.ex
    have hD0 := r1.q.h0 nD
    refine dc_it w (fun i H' => ∃ F' acc, Gw (O ++ X) F1 H1 F' H' ∧ Rp C F' H' (L2.wipe σ vs) (wipeG G vs) ((D, .dK acc) :: (O ++ X)) ∧ Rp C F' H' σ G ((D, .dK acc) :: (O ++ X)) ∧ acc.length ≤ i ∧ R i acc) ?_ ?_ ?_ ?_
    · have r2 := r1.newO (p := D) (u := .dK []) (ob := .dK []) nD ⟨[], rfl, .nil⟩
      exact ⟨F1, [], r1.gn nD, r2.wipe vs, r2, Nat.zero_le _, h0⟩
    · rintro i H' hi ⟨F', acc, s', r', _, _⟩
      exact hG F' H' s'.sf r'.q.sub
    · rintro i x Hx H' hi ⟨F', acc, s', rw', r', hl, hR⟩ y
      obtain ⟨d, hd, hx⟩ := hY i F' Hx x H' hi s'.sf r'.q.sub y
      obtain ⟨F2, s2, r2, p2⟩ := rw'.item hx
      have r2' : Rp C F2 H' σ G ((D, .dK acc) :: (O ++ X)) := by
        obtain ⟨F3, s3, r3, p3⟩ := r'.item hx
        refine ⟨r2.q, r'.len, ?_, r2.ow, r2.nd⟩
        intro j s e
        obtain ⟨ov, a, b⟩ := r'.sl j s e
        exact ⟨ov, a, b.mono s2.sf⟩
      have s2 := s2.sub fun x hx => List.mem_cons_of_mem (D, Ob.dK acc) hx
      have perm : Rp C F2 H' (L2.wipe σ vs) (wipeG G vs) (O ++ ((D, .dK acc) :: X)) := by
        refine ⟨r2.q, r2.len, r2.sl, fun D' ob m => r2.ow D' ob ?_, ?_⟩
        · rcases List.mem_append.mp m with m | m
          · exact List.mem_cons_of_mem _ (List.mem_append_left _ m)
          · rcases List.mem_cons.mp m with m | m
            · rw [m]; exact List.mem_cons_self
            · exact List.mem_cons_of_mem _ (List.mem_append_right _ m)
        · have := r2.nd
          rw [List.map_append, List.map_cons]
          rw [List.map_cons, List.map_append] at this
          exact (List.perm_middle.nodup_iff).mpr this
      refine hs i d acc hd hR ((D, .dK acc) :: X) F2 H' (L2.wipe σ vs) x _ perm p2 fun σ2 G2 r3 w3 h3 => ⟨?_, ?_⟩
      · rw [w3 vs rfl]
        refine List.ext_getElem? fun i => ?_
        rw [wipe_get, wipe_get, wipe_length]
        by_cases m : i ∈ vs
        · rw [if_pos m, if_pos m]
        · rw [if_neg m, if_neg m]
      · refine h3 ((D, .dK acc) :: X) F2 H' σ2 _ r3 fun F4 b H4 s4 r4 h4 => ?_
        have back : ∀ {F5 H5 : Hp} {ob : Ob}, Same F2 F5 → Rp C F5 H5 σ2 G2 (O ++ ((D, ob) :: X)) → Rp C F5 H5 (L2.wipe σ vs) (wipeG G vs) ((D, ob) :: (O ++ X)) ∧ Rp C F5 H5 σ G ((D, ob) :: (O ++ X)) := by
          intro F5 H5 ob s5 r5
          have ow : ∀ D' ob', (D', ob') ∈ (D, ob) :: (O ++ X) → (D', ob') ∈ O ++ ((D, ob) :: X) := by
            intro D' ob' m
            rcases List.mem_cons.mp m with m | m
            · rw [m]; exact List.mem_append_right _ List.mem_cons_self
            · rcases List.mem_append.mp m with m | m
              · exact List.mem_append_left _ m
              · exact List.mem_append_right _ (List.mem_cons_of_mem _ m)
          have nd : (((D, ob) :: (O ++ X)).map Prod.fst).Nodup := by
            have := r5.nd
            rw [List.map_append, List.map_cons] at this
            rw [List.map_cons, List.map_append]
            exact (List.perm_middle.nodup_iff).mp this
          have go : ∀ {σ' : L2.St} {G' : List Sv}, Rp C F2 H' σ' G' ((D, .dK acc) :: (O ++ X)) → Rp C F5 H5 σ' G' ((D, ob) :: (O ++ X)) := fun {σ' G'} rr =>
            ⟨r5.q, rr.len, fun j s e => by
              obtain ⟨ov, a, b⟩ := rr.sl j s e
              exact ⟨ov, a, b.mono s5⟩, fun D' ob' m => r5.ow D' ob' (ow D' ob' m), nd⟩
          exact ⟨go r2, go r2'⟩
        cases b
        · refine iteF ?_
          obtain ⟨k1, k2⟩ := back s4.sf r4
          have s4 := s4.sub (mid O X)
          exact ⟨F4, acc, (s'.trans s2).trans s4, k1, k2, Nat.le_succ_of_le hl, by simpa using h4⟩
        · refine iteT ?_
          have h4 : Dx C G2 O tk (keyK fun key => Dv C G2 O tv fun s => R (i + 1) (putG acc key s)) := by simpa using h4
          refine h4 ((D, .dK acc) :: X) F4 H4 σ2 _ r4 fun F5 v H5 dk s5 r5 p5 ⟨key, ed, q5⟩ => q5 ((D, .dK acc) :: X) F5 H5 σ2 _ r5 fun F6 z H6 s s6 r6 p6 q6 => ?_
          subst ed
          obtain ⟨u, hu, xs, rfl, px⟩ := r6.obj (n := O.length) (by rw [List.getElem?_append_right (Nat.le_refl _), Nat.sub_self]; rfl)
          refine ⟨xs, key, dp_key p5, hu, ?_, ?_⟩
          · rw [Paired.length px]
            omega
          · have r7 := r6.wr (n := O.length) (D := D) (ob := .dK acc) (ob' := .dK (putG acc key s)) (u := .dK (putK xs key z)) (by rw [List.getElem?_append_right (Nat.le_refl _), Nat.sub_self]; rfl) ⟨_, rfl, DKs.put px p6⟩
            have e : (O ++ (D, Ob.dK acc) :: X).set O.length (D, Ob.dK (putG acc key s)) = O ++ (D, Ob.dK (putG acc key s)) :: X := by
              rw [List.set_append_right _ _ (Nat.le_refl _), Nat.sub_self]
              rfl
            rw [e] at r7
            obtain ⟨k1, k2⟩ := back ((s4.trans s5).trans s6).sf r7
            have g7 : Gw (O ++ X) F6 H6 F6 (upd H6 D (.dK (putK xs key z))) := ⟨Same.refl _, fun D' ob m => upd_ne (fun z => r'.dis (by rw [← z]; exact m))⟩
            exact ⟨F6, putG acc key s, ((((s'.trans s2).trans (s4.sub (mid O X))).trans (s5.sub (mid O X))).trans (s6.sub (mid O X))).trans g7, k1, k2, Nat.le_trans (putG_len acc key s) (by omega), q6⟩
    · rintro H' ⟨F', acc, s', _, r', _, hR⟩
      obtain ⟨F2, u, s2, e, ⟨ys, rfl, p⟩, r2⟩ := r'.frz (n := 0) (ob := .dK acc) hD0 rfl
      exact c F2 (.ref D) H' (.hdl (dvM C.K D acc)) ((s1.trans s').trans (Gw.of s2)) r2 ⟨rfl, ys, .inl e, p⟩ (hk acc hR D)
/-! ## values of any kind -/
section
variable {C : Cy} {G : List Sv} {O : Ow} {t : TE} {E : En} {n : Nat} {W : Wt} {ES : L2.St → XK} {u : TA} {ke : Ke}
instance (priority := 200) s_setV {i : Nat} : Stp (Ds C G O (tAsg t (gName i)) E) (Dv C G O t fun s => SetD G i s fun G' => E.nx G' O) := ⟨ds_setV⟩
instance (priority := 200) s_retV : Stp (Ds C G O (tRet t) E) (Dv C G O t fun s => E.rt (.v s)) := ⟨ds_ret⟩
theorem dv_callB {k : Sv → Prop} (hE : ∀ σ, EOk C (ES σ) ke) (h : Da C G O u fun as => as.length = n ∧ W as (fun r => match r with | .v s => k s | .l ss => ∃ ds : List PyData, ss = ds.map Sv.dat ∧ k (.dat (.list ds))) ke) : Dv C G O (Ln.tCg (spP C.K n W) ES u) k := fun X F H σ Q r c =>
  h X F H σ _ r fun F1 vs H1 as s1 r1 p ⟨e, w⟩ => by
    refine ⟨by rw [Paired.length p]; exact e, F1, as, _, ke, r1.q.sub, r1.q.tup, p, w, ?_, ?_, fun F' cls dx H' fs es b nd hd p q => ke_of hE r1 b nd hd p q⟩
    · intro F' v H' s b sv q
      exact c F' v H' s (s1.trans (r1.gb b)) (r1.called b) sv q
    · intro F' D H' xs ss b nd nf hD pp q
      obtain ⟨ds, rfl, q⟩ := q
      have r2 := r1.called b
      have r3 : Rp C F' H' σ G ((D, .lst (ds.map Sv.dat)) :: (O ++ X)) := by
        refine ⟨r2.q, r2.len, r2.sl, ?_, ?_⟩
        · intro D' ob m
          rcases List.mem_cons.mp m with m | m
          · cases m
            exact ⟨.inr (r1.q.h0 nd), nf, r1.q.nA nd, _, hD, xs, rfl, pp⟩
          · exact r2.ow D' ob m
        · rw [List.map_cons, List.nodup_cons]
          refine ⟨fun m => ?_, r2.nd⟩
          obtain ⟨⟨D', ob⟩, m', e'⟩ := List.mem_map.mp m
          obtain ⟨_, _, _, u, e1, _⟩ := r1.ow D' ob m'
          have e' : D' = D := e'
          rw [e', nd] at e1
          cases e1
      obtain ⟨F2, u, s2, e, ⟨xs', rfl, p'⟩, r4⟩ := r3.frz (n := 0) (ob := .lst (ds.map Sv.dat)) (r1.q.h0 nd) rfl
      exact c F2 (.ref D) H' (.dat (.list ds)) ((s1.trans (r1.gb b)).trans (Gw.of s2)) r4 (.lst (SqL.of e) (Paired.det p' rfl)) q
instance s_callV {K' : PySem.W.Frag} {k : Sv → Prop} [e : Lkk K' C.K] [e2 : EkI C ES ke] : Stp (Dv C G O (Ln.tCg (spP K' n W) ES u) k) (Da C G O u fun as => as.length = n ∧ W as (fun r => match r with | .v s => k s | .l ss => ∃ ds : List PyData, ss = ds.map Sv.dat ∧ k (.dat (.list ds))) ke) := ⟨by rw [e.h]; exact dv_callB e2.h⟩
instance s_callCV {K' : PySem.W.Frag} {k : Sv → Prop} [e : Lkk K' C.K] : Stp (Dv C G O (Ln.tCg (Ln.calm (spP K' n W)) ES u) k) (Da C G O u fun as => as.length = n ∧ W as (fun r => match r with | .v s => k s | .l ss => ∃ ds : List PyData, ss = ds.map Sv.dat ∧ k (.dat (.list ds))) (fun _ _ => False)) := ⟨fun h => by
  rw [e.h]
  exact (dv_callB (ES := fun _ => E0) (fun σ => EOk.none C _) h : Dv C G O (Ln.tCg (spP C.K n W) (fun _ => E0) u) k)⟩
end
end Dl
set_option Elab.async false
set_option autoImplicit false
set_option linter.all false
set_option maxRecDepth 100000
set_option maxHeartbeats 4000000
/-! texts, zip, reversed, longer chains -/
namespace Dl
open PySem PySem.Spec PyProof.Rows L2 Ln RZ
/-- a text of one sign -/
abbrev sgnS (c : Nat) : Str := ⟨#[c]⟩
section
variable {C : Cy} {G : List Sv} {O : Ow} {t ta tb tc td : TE} {k : PyData → Prop}
structure isSg (k : Nat → Prop) (d : PyData) : Prop where
  ex : ∃ c, d = .str (sgnS c) ∧ k c
instance s_isSg {k : Nat → Prop} {c : Nat} : Stp (isSg k (.str (sgnS c))) (k c) := ⟨fun h => ⟨⟨c, rfl, h⟩⟩⟩
theorem dx_inSg (h : Dx C G O ta (isSg fun c => Dx C G O tb (isS fun z => k (.bool (decide (c ∈ z.cps.toList)))))) : Dx C G O (tOp (fun x y H Q => ∃ (c : Nat) (z : Str), x = V.str ⟨#[c]⟩ ∧ y = V.str z ∧ Q (V.bl (decide (c ∈ z.cps.toList))) H) ta tb) k := fun X F H σ Q r c =>
  h X F H σ _ r fun F1 v H1 d s1 r1 p1 ⟨g, e, h2⟩ => by
    subst e; cases p1
    exact h2 X F1 H1 σ _ r1 fun F2 w H2 d2 s2 r2 p2 ⟨z, e, q⟩ => by
      subst e; cases p2
      exact ⟨g, z, rfl, rfl, c F2 _ H2 _ (s1.trans s2) r2 (.bl _) q⟩
theorem dx_notInSg (h : Dx C G O ta (isSg fun c => Dx C G O tb (isS fun z => k (.bool (!decide (c ∈ z.cps.toList)))))) : Dx C G O (tOp (fun x y H Q => ∃ (c : Nat) (z : Str), x = V.str ⟨#[c]⟩ ∧ y = V.str z ∧ Q (V.bl (!decide (c ∈ z.cps.toList))) H) ta tb) k := fun X F H σ Q r c =>
  h X F H σ _ r fun F1 v H1 d s1 r1 p1 ⟨g, e, h2⟩ => by
    subst e; cases p1
    exact h2 X F1 H1 σ _ r1 fun F2 w H2 d2 s2 r2 p2 ⟨z, e, q⟩ => by
      subst e; cases p2
      exact ⟨g, z, rfl, rfl, c F2 _ H2 _ (s1.trans s2) r2 (.bl _) q⟩
instance s_inSg : Stp (Dx C G O (tOp (fun x y H Q => ∃ (c : Nat) (z : Str), x = V.str ⟨#[c]⟩ ∧ y = V.str z ∧ Q (V.bl (decide (c ∈ z.cps.toList))) H) ta tb) k) (Dx C G O ta (isSg fun c => Dx C G O tb (isS fun z => k (.bool (decide (c ∈ z.cps.toList)))))) := ⟨dx_inSg⟩
instance s_notInSg : Stp (Dx C G O (tOp (fun x y H Q => ∃ (c : Nat) (z : Str), x = V.str ⟨#[c]⟩ ∧ y = V.str z ∧ Q (V.bl (!decide (c ∈ z.cps.toList))) H) ta tb) k) (Dx C G O ta (isSg fun c => Dx C G O tb (isS fun z => k (.bool (!decide (c ∈ z.cps.toList)))))) := ⟨dx_notInSg⟩
theorem dx_ixS (h : Dx C G O ta (isS fun z => Dx C G O tb (isI fun i => z.length ≤ sizeLine ∧ ∃ c, atI z.cps.toList i = some c ∧ k (.str (sgnS c))))) : Dx C G O (tOp rIxS ta tb) k := fun X F H σ Q r c =>
  h X F H σ _ r fun F1 v H1 d s1 r1 p1 ⟨z, e, h2⟩ => by
    subst e; cases p1
    exact h2 X F1 H1 σ _ r1 fun F2 w H2 d2 s2 r2 p2 ⟨i, e, hz, g, hg, q⟩ => by
      subst e; cases p2
      exact ⟨z, i, g, rfl, rfl, hz, hg, c F2 _ H2 _ (s1.trans s2) r2 (.str _) q⟩
instance s_ixS : Stp (Dx C G O (tOp rIxS ta tb) k) (Dx C G O ta (isS fun z => Dx C G O tb (isI fun i => z.length ≤ sizeLine ∧ ∃ c, atI z.cps.toList i = some c ∧ k (.str (sgnS c))))) := ⟨dx_ixS⟩
theorem dx_slS {tl th : TO} (h : Dx C G O t (isS fun z => Do C G O tl fun lo => Do C G O th fun hi => z.length ≤ sizeLine ∧ k (.str (cutS z lo hi)))) : Dx C G O (tSl L2.rSlS t tl th) k := fun X F H σ Q r c =>
  h X F H σ _ r fun F1 v H1 d s1 r1 p1 ⟨z, e, h2⟩ => by
    subst e; cases p1
    exact h2 X F1 H1 σ _ r1 fun F2 lo H2 s2 r2 h3 => h3 X F2 H2 σ _ r2 fun F3 hi H3 s3 r3 ⟨hz, q⟩ =>
      ⟨z, rfl, hz, c F3 _ H3 _ ((s1.trans s2).trans s3) r3 (.str _) q⟩
instance s_slS {tl th : TO} : Stp (Dx C G O (tSl L2.rSlS t tl th) k) (Dx C G O t (isS fun z => Do C G O tl fun lo => Do C G O th fun hi => z.length ≤ sizeLine ∧ k (.str (cutS z lo hi)))) := ⟨dx_slS⟩
/-- a text, sign by sign -/
theorem dw_str {k : List PyData → Prop} (h : Dx C G O t (isS fun z => k (z.cps.toList.map fun c => .str (sgnS c)))) : Dw C G O (iStr t) k := fun X F H σ R r c =>
  h X F H σ _ r fun F1 v H1 d s1 r1 p1 ⟨z, e, q⟩ => by
    subst e; cases p1
    refine ⟨z, rfl, c F1 H1 _ _ s1 r1 ⟨_, _, by rw [List.length_map, Array.length_toList]; exact walk_str (z := z), fun _ _ _ _ => trivial, fun i F2 H2 x H3 hi s2 u2 y => ?_⟩ q⟩
    obtain ⟨rfl, g, hg, rfl⟩ := y
    exact ⟨.str (sgnS g), by rw [List.getElem?_map, Array.getElem?_toList, hg]; rfl, .inl ⟨rfl, .str _⟩⟩
instance s_dwStr {k : List PyData → Prop} : Stp (Dw C G O (iStr t) k) (Dx C G O t (isS fun z => k (z.cps.toList.map fun c => .str (sgnS c)))) := ⟨dw_str⟩
/-! ## zip -/
def zipD (as bs : List PyData) : List PyData := (as.zip bs).map fun p => .tuple [p.1, p.2]
theorem zipD_get {as bs : List PyData} {i : Nat} {a b : PyData} (h1 : as[i]? = some a) (h2 : bs[i]? = some b) : (zipD as bs)[i]? = some (.tuple [a, b]) := by
  unfold zipD
  rw [List.getElem?_map, show (as.zip bs)[i]? = some (a, b) from List.getElem?_zip_eq_some.mpr ⟨h1, h2⟩]
  rfl
theorem walk_zipT {K : PySem.W.Frag} {a b : Addr} {xs ys : List V} {n : Nat} (hn : n = min xs.length ys.length) : Walk (ItzT K a b) n (fun H => SqT K H a xs ∧ SqT K H b ys) (YPair (fun i => xs[i]?) (fun i => ys[i]?)) := by
  subst hn
  refine ⟨fun i _ hi q => ?_, fun _ q => ⟨xs, ys, q.1, q.2, by omega⟩, fun i H v H' _ q y => ?_⟩
  · have h1 : i < xs.length := by omega
    have h2 : i < ys.length := by omega
    exact ⟨xs, ys, xs[i], ys[i], q.1, q.2, List.getElem?_eq_getElem h1, List.getElem?_eq_getElem h2⟩
  · obtain ⟨T, x, z, h1, h2, h3, h4, h5⟩ := y
    exact ⟨T, x, z, h1, h2, h3, h4 xs q.1, h5 ys q.2⟩
theorem zip_item {F' F1 H' : Hp} {x : V} {H'' : Hp} {xs ys : List V} {as bs : List PyData} {i : Nat} (s2 : Same F1 F') (ha : DpAll C.K F1 xs as) (hb : DpAll C.K F1 ys bs) (y : YPair (fun i => xs[i]?) (fun i => ys[i]?) i H' x H'') :
    ∃ d, (zipD as bs)[i]? = some d ∧ ((H'' = H' ∧ Dp C.K F' x d) ∨ ∃ T xs es, x = V.ref T ∧ H' T = none ∧ H'' = upd H' T (.tup xs) ∧ DpAll C.K F' xs es ∧ d = .tuple es) := by
  obtain ⟨T, y1, y2, rfl, n, rfl, e1, e2⟩ := y
  obtain ⟨d1, hd1, p1⟩ := dpAll_get ha e1
  obtain ⟨d2, hd2, p2⟩ := dpAll_get hb e2
  exact ⟨_, zipD_get hd1 hd2, .inr ⟨T, _, [d1, d2], rfl, n, rfl, .cons (Dp.mono s2 _ _ p1) (.cons (Dp.mono s2 _ _ p2) .nil), rfl⟩⟩
theorem zipD_len (as bs : List PyData) : (zipD as bs).length = min as.length bs.length := by
  unfold zipD
  rw [List.length_map, List.length_zip]
/-- zip of two tuples, or of two lists -/
theorem dw_zipA {K' : PySem.W.Frag} {k : List PyData → Prop} [e : Lkk K' C.K] (h : Dx C G O ta fun a => Dx C G O tb fun b => ∃ as bs, ((a = .tuple as ∧ b = .tuple bs) ∨ (a = .list as ∧ b = .list bs)) ∧ k (zipD as bs)) : Dw C G O (iZipA K' (tCons ta (tCons tb tNil))) k := fun X F H σ R r c => by
  rw [e.h]
  exact h X F H σ _ r fun F1 v H1 d s1 r1 p1 h2 => h2 X F1 H1 σ _ r1 fun F2 w H2 d2 s2 r2 p2 ⟨as, bs, ec, q⟩ => by
    have p1 := Dp.mono s2.sf _ _ p1
    rcases ec with ⟨rfl, rfl⟩ | ⟨rfl, rfl⟩
    · cases p1 with
      | @tup a xs _ hs ha => cases p2 with
        | @tup b ys _ hs' hb =>
          refine ⟨a, b, xs, ys, rfl, .inr ⟨Same.tup r2.q.sub hs, Same.tup r2.q.sub hs', c F2 H2 _ _ (s1.trans s2) r2 ⟨fun H => SqT C.K H a xs ∧ SqT C.K H b ys, YPair (fun i => xs[i]?) (fun i => ys[i]?), by rw [zipD_len, ← dpAll_len ha, ← dpAll_len hb]; exact walk_zipT (a := a) (b := b) (xs := xs) (ys := ys) rfl, fun F' H' s u => ⟨Same.tup u (Same.tup s hs), Same.tup u (Same.tup s hs')⟩, fun i F' H' x H'' hi s u y => zip_item s ha hb y⟩ q⟩⟩
    · cases p1 with
      | @lst a xs _ hs ha => cases p2 with
        | @lst b ys _ hs' hb =>
          refine ⟨a, b, xs, ys, rfl, .inl ⟨r2.q.sub.seq hs, r2.q.sub.seq hs', c F2 H2 _ _ (s1.trans s2) r2 ⟨fun H => SqL C.K H a xs ∧ SqL C.K H b ys, YPair (fun i => xs[i]?) (fun i => ys[i]?), by rw [zipD_len, ← dpAll_len ha, ← dpAll_len hb]; exact walk_zip (a := a) (b := b) (xs := xs) (ys := ys) rfl, fun F' H' s u => ⟨u.seq (s.seq hs), u.seq (s.seq hs')⟩, fun i F' H' x H'' hi s u y => zip_item s ha hb y⟩ q⟩⟩
instance s_dwZip {K' : PySem.W.Frag} {k : List PyData → Prop} [e : Lkk K' C.K] : Stp (Dw C G O (iZipA K' (tCons ta (tCons tb tNil))) k) (Dx C G O ta (isT fun as => Dx C G O tb (isT fun bs => k (zipD as bs)))) := ⟨fun h => dw_zipA (h.mono fun a x => by
  obtain ⟨as, rfl, x⟩ := x
  exact x.mono fun b y => by
    obtain ⟨bs, rfl, q⟩ := y
    exact ⟨as, bs, .inl ⟨rfl, rfl⟩, q⟩)⟩
/-! ## a op b op c op d, of numbers -/
theorem dx_chain3 {p p' p'' : Int → Int → Bool} (h : Dx C G O ta (isI fun i => Dx C G O tb (isI fun j => if p i j = true then Dx C G O tc (isI fun l => if p' j l = true then Dx C G O td (isI fun m => k (.bool (p'' l m))) else k (.bool false)) else k (.bool false)))) :
    Dx C G O (tChain3 (rI0 fun i j => V.bl (p i j)) (rI0 fun i j => V.bl (p' i j)) (rI0 fun i j => V.bl (p'' i j)) ta tb tc td) k := fun X F H σ Q r c =>
  h X F H σ _ r fun F1 v H1 d s1 r1 p1 ⟨i, e, h2⟩ => by
    subst e; cases p1
    exact h2 X F1 H1 σ _ r1 fun F2 w H2 d2 s2 r2 p2 ⟨j, e, q⟩ => by
      subst e; cases p2
      refine ⟨i, j, rfl, rfl, p i j, rfl, ?_⟩
      cases e : p i j
      · rw [e] at q
        exact iteF (c F2 _ H2 _ (s1.trans s2) r2 (.bl false) (by simpa using q))
      · rw [e] at q
        refine iteT ?_
        have q : Dx C G O tc (isI fun l => if p' j l = true then Dx C G O td (isI fun m => k (.bool (p'' l m))) else k (.bool false)) := by simpa using q
        exact q X F2 H2 σ _ r2 fun F3 w H3 d3 s3 r3 p3 ⟨l, e, q⟩ => by
          subst e; cases p3
          refine ⟨j, l, rfl, rfl, p' j l, rfl, ?_⟩
          cases e : p' j l
          · rw [e] at q
            exact iteF (c F3 _ H3 _ ((s1.trans s2).trans s3) r3 (.bl false) (by simpa using q))
          · rw [e] at q
            refine iteT ?_
            have q : Dx C G O td (isI fun m => k (.bool (p'' l m))) := by simpa using q
            exact q X F3 H3 σ _ r3 fun F4 w H4 d4 s4 r4 p4 ⟨m, e, q⟩ => by
              subst e; cases p4
              exact ⟨l, m, rfl, rfl, c F4 _ H4 _ (((s1.trans s2).trans s3).trans s4) r4 (.bl _) q⟩
instance s_chain3 {p p' p'' : Int → Int → Bool} : Stp (Dx C G O (tChain3 (rI0 fun i j => V.bl (p i j)) (rI0 fun i j => V.bl (p' i j)) (rI0 fun i j => V.bl (p'' i j)) ta tb tc td) k) (Dx C G O ta (isI fun i => Dx C G O tb (isI fun j => if p i j = true then Dx C G O tc (isI fun l => if p' j l = true then Dx C G O td (isI fun m => k (.bool (p'' l m))) else k (.bool false)) else k (.bool false)))) := ⟨dx_chain3⟩
end
/-! ## errors of several fields: the last is kept first -/
def spIniR (C : Addr) (fs : List Str) : Sp := fun vs H Q _ => ∃ (a : Addr) (zs : List V), vs = V.ref a :: zs ∧ zs.length = fs.length ∧ H a = some (exo a C none) ∧ ∀ dx, H dx = none → dx ≠ a → Q .non (upd (upd H dx (exd dx (fs.zip zs).reverse)) a (exo a C (some dx)))
section
variable {C : Cy} {G : List Sv} {O : Ow} {ta : TA} {E : XK}
/-- an error is made and leaves -/
theorem raisedR {C : Cy} {F H : Hp} {σ : L2.St} {G : List Sv} {O : Ow} {cls : Addr} {fs : List Str} {vs : List V} {ds : List PyData} {W : Value → Option Addr → Hp → Prop} (r : Rp C F H σ G O) (p : DpAll C.K F vs ds) (hl : vs.length = fs.length) (hz : vs.length ≤ 1000)
    (q : ∀ F' H' dx gs, Same F F' → Rp C F' H' σ G O → C.H0 dx = none → F' dx = some (.xd gs) → FsOk C.K F' gs ((fs.zip ds).reverse) → W (.ref cls) (some dx) H') : vs.length ≤ 1000 ∧ ∀ a, H a = none → spIniR cls fs (.ref a :: (vs ++ [])) (upd H a (exo a cls none))
  (fun v H2 => v = .non ∧ ∃ (d : Addr) (gs : List (Str × V)), H2 a = some (exo a cls (some d)) ∧ H2 d = some (exd d gs) ∧ H d = none ∧ W (.ref cls) (some d) (upd (del H2 a) d (.xd gs))) (fun _ _ _ => False) := by
  refine ⟨hz, fun a na => ⟨a, vs, by rw [List.append_nil], hl, upd_same, fun dx n1 n2 => ⟨rfl, dx, (fs.zip vs).reverse, upd_same, ?_, ?_, ?_⟩⟩⟩
  · rw [upd_ne n2]
    exact upd_same
  · rw [upd_ne n2] at n1
    exact n1
  · have nd : H dx = none := by rw [upd_ne n2] at n1; exact n1
    have e : (upd (del (upd (upd (upd H a (exo a cls none)) dx (exd dx ((fs.zip vs).reverse))) a (exo a cls (some dx))) a) dx (.xd ((fs.zip vs).reverse))) = upd H dx (.xd ((fs.zip vs).reverse)) := by
      funext b
      by_cases b1 : b = dx
      · rw [b1, upd_same, upd_same]
      · by_cases b2 : b = a
        · rw [upd_ne b1, b2, del_same, upd_ne (fun z => b1 (b2.trans z)), na]
        · rw [upd_ne b1, del_ne b2, upd_ne b2, upd_ne b1, upd_ne b2, upd_ne b1]
    rw [e]
    have s := r.sm (o := .xd ((fs.zip vs).reverse)) nd
    exact q _ _ dx ((fs.zip vs).reverse) s (r.newF nd) (r.q.h0 nd) upd_same (FsOk.mono (show FsOk C.K F _ _ from paired_rev (fsOk_zip p)) s)
theorem ds_raiseR {cls : Addr} {fs : List Str} {ke : Ke} {D : En} (hE : EOk C E ke) (h : Dd C G O ta fun ds => ds.length = fs.length ∧ ds.length ≤ 1000 ∧ ke cls ((fs.zip ds).reverse)) : Ds C G O (fun _ σ H => tMkO cls (spIniR cls fs) [] ta σ H fun c d H' => E c d H') D := fun X F H σ D' r _ _ _ _ =>
  h X F H σ _ r fun F1 vs H1 ds s1 r1 p ⟨e1, e2, q⟩ => raisedR r1 p (by rw [dpAll_len p]; exact e1) (by rw [dpAll_len p]; exact e2) fun F' H' dx gs s r' nd e f => hE F' H' cls dx gs _ r'.q nd e f q
theorem ini2 {H : Hp} {a dx C : Addr} {f g : Str} {v z : V} (ne : dx ≠ a) : upd (upd (upd H dx (exd dx [(f, v)])) a (exo a C (some dx))) dx (exd dx [(g, z), (f, v)]) = upd (upd H dx (exd dx [(g, z), (f, v)])) a (exo a C (some dx)) := by
  funext b
  by_cases b1 : b = dx
  · rw [b1, upd_same, upd_ne ne, upd_same]
  · rw [upd_ne b1]
    by_cases b2 : b = a
    · rw [b2, upd_same, upd_same]
    · rw [upd_ne b2, upd_ne b1, upd_ne b2, upd_ne b1]
end
end Dl
set_option Elab.async false
set_option autoImplicit false
set_option linter.all false
set_option maxRecDepth 100000
set_option maxHeartbeats 4000000
/-! Dl13: sorted of a tuple, of whole numbers downwards; set of a tuple of names; *xs, xs + ys, xs[a:b] of lists; list.index; bodies of try in rows -/
namespace PySem.W
open PySem PyProof.Rows
section
variable {prog : Program} {w : World} {A : Around} {E : Value → Shared → Prop} {s : Shared}
theorem collect_tup {l : Addr} {vs : List Value} {Q : List Value → Shared → Prop} (hl : s.heap.IsTuple l vs.toArray)
    (h : Q vs { s with heap := (s.heap.push (seqObj "list" #[] 0)).update s.heap.objs.size (Obj.mapSeq (· ++ vs.toArray)) }) (hsz : vs.length ≤ sizeLine) :
    wpAny (model prog w) A (collect (.ref l)) Q E s := by
  obtain ⟨o, ho, hc, n, hd⟩ := id hl
  unfold collect
  refine wpAny_bind (wpAny_runValue (codeAny_builtin entry_proto_collect' ?_))
  show wpAny _ _ (do again (.builtin "list.__iadd__" ⟨[← newList [], .ref l], []⟩)) _ _ s
  refine wpAny_bind (wpAny_newList (wpAny_pure ⟨Code.quiet_builtin _ (by decide +kernel), codeAny_builtin entry_list_iadd' ?_⟩))
  show wpAny _ _ (Builtin.List.listExtendWith (.ref s.heap.objs.size) (.ref l) (.ref s.heap.objs.size)) _ _ { s with heap := s.heap.push (seqObj "list" #[] 0) }
  unfold Builtin.List.listExtendWith
  have ho' : (s.heap.push (seqObj "list" #[] 0)).get? l = some o := Heap.get?_push_of_some _ ho
  refine wpAny_bind (wpAny_typeOf (T := "tuple") ⟨o, ho', hc⟩ ?_)
  have ht : (Value.type "tuple" == Value.type "tuple") = true := by rfl
  rw [if_pos (by rw [ht]; simp)]
  refine wpAny_bind (listItems_at ho' hd ?_)
  refine wpAny_bind (listItems_at (xs := #[]) (n := 0) (Heap.get?_push_size _ rfl) rfl ?_)
  rw [if_neg (by simp)]
  refine wpAny_bind (listUpdate_at (xs := #[]) (n := 0) (Heap.get?_push_size _ rfl) rfl ?_ (Nat.zero_le _) (by show (#[] ++ vs.toArray).size ≤ sizeLine + 1; simp only [Array.size_append, List.size_toArray, List.length_nil]; omega))
  refine wpAny_pure ?_
  show wpAny (model prog w) A (do
      let o ← load s.heap.objs.size
      match o.data with
      | .seq xs _ => pure xs.toList
      | _ => unsupported "internal:collect") Q E { s with heap := (s.heap.push (seqObj "list" #[] 0)).update s.heap.objs.size (Obj.mapSeq (· ++ vs.toArray)) }
  refine wpAny_bind (wpAny_load (get?_update_seq (Heap.get?_push_size _ rfl) _) ?_)
  show wpAny _ _ (pure ((#[] : Array Value) ++ vs.toArray).toList) Q E _
  rw [show ((#[] : Array Value) ++ vs.toArray).toList = vs by simp]
  exact wpAny_pure h
theorem sorted_of_sortT {l : Addr} {vs : List Value} {kw : List (Str × Value)} {Q : Value → Shared → Prop} (hl : s.heap.IsTuple l vs.toArray) (hL : vs.length ≤ sizeLine) (ha1 : argsOk "sorted" ⟨[.ref l], kw⟩) (ha2 : ∀ x, argsOk "list.sort" ⟨[.ref x], kw⟩)
    (body : ∀ E' : Value → Shared → Prop, wpAny (model prog w) A.in1.in1 (Builtin.«list.sort» ⟨[.ref (s.heap.objs.size + 1)], kw⟩) (fun f s' => f = .done (.ret .none) ∧ Q (.ref (s.heap.objs.size + 1)) s') E' { s with heap := copyHeap s.heap vs }) :
    wpAny (model prog w) A (call (.builtin "sorted") [.ref l] kw) Q E s := by
  refine call_function_entry_kw kind_sorted plain_sorted entry_sorted ha1 ?_
  unfold Builtin.«sorted»
  refine wpAny_bind (m := checkCount "sorted" 1 1 _) (wpAny_pure ?_)
  refine wpAny_bind (collect_tup hl ?_ hL)
  refine wpAny_bind (wpAny_newList ?_ hL)
  have hsz : ((s.heap.push (seqObj "list" #[] 0)).update s.heap.objs.size (Obj.mapSeq (· ++ vs.toArray))).objs.size = s.heap.objs.size + 1 := by
    rw [Heap.size_update, size_push']
  show wpAny _ _ _ _ _ { s with heap := copyHeap s.heap vs }
  rw [hsz]
  refine wpAny_bind (wpAny_holding (wpAny_call_entry_kw slot_list_sort ⟨_, copyHeap_at s.heap vs, rfl⟩ entry_list_sort ?body (ha2 _)))
  case body =>
    show wpAny (model prog w) A.in1.in1 (Builtin.«list.sort» ⟨[.ref (s.heap.objs.size + 1)], kw⟩) _ _ _
    refine wpAny_mono (body _) (fun f s' hf => ?_) fun _ _ e => e
    obtain ⟨rfl, hq⟩ := hf
    exact ⟨_, rfl, wpAny_pure ⟨_, rfl, hq⟩⟩
variable {β : Type} {R : Value → β → Prop} {enc : β → PyData} {vs : List Value} {bs : List β}
theorem sorted_dataT {l : Addr} {Q : Value → Shared → Prop} (hl : s.heap.IsTuple l vs.toArray) (e : EachIs R vs bs) (er : EachIs (fun v b => ∃ as, Reads s.heap v (enc b) as) vs bs) (hal : AllAlike (bs.map enc)) (hk : Sortable (bs.map enc)) (hL : bs.length ≤ sizeLine)
    (hu : ∀ b, b ∈ bs → A.units + 2 + (enc b).depth < cLine) (h : ∀ out, out.length = bs.length → EachIs R out (bs.mergeSort (dataLe false enc)) → Q (.ref (s.heap.objs.size + 1)) { s with heap := sortedAll s.heap vs (List.toArray out) }) :
    wpAny (model prog w) A (call (.builtin "sorted") [.ref l]) Q E s := by
  have er' : EachIs (fun v b => ∃ as, Reads (sortingHeap (copyHeap s.heap vs) (s.heap.objs.size + 1) vs) v (enc b) as) vs bs := er.mono fun _ _ ⟨as, r⟩ => ⟨as, PyProof.Rows.Reads.keeps (fun _ _ => sorting_copy_old) r⟩
  have S := SortsAt.data (prog := prog) (w := w) (A := A.in1.in1) (s := { s with heap := sortingHeap (copyHeap s.heap vs) (s.heap.objs.size + 1) vs }) (each_map (R := fun v d => ∃ as, Reads (sortingHeap (copyHeap s.heap vs) (s.heap.objs.size + 1) vs) v d as) enc er') hal hk (bound_map hu)
  exact sorted_of_sortT hl (by rw [e.length]; exact hL) (args_sorted1 _) (fun _ => args_list_sort _) fun _ => list_sort_vals (s := { s with heap := copyHeap s.heap vs }) (copyHeap_at s.heap vs) S (by rw [e.length]; exact hL)
    ⟨rfl, h _ (by rw [sortVals_length false rfl]; exact e.length) (sortVals_data false e er' hal)⟩
end
end PySem.W
set_option Elab.async false
set_option autoImplicit false
set_option linter.all false
set_option maxRecDepth 100000
set_option maxHeartbeats 4000000
/-! Dl14: the rules of Dl13 by data -/
namespace Dl
open PySem PySem.Spec PyProof.Rows L2 Ln PySem.W
/-! ## sorted of a tuple -/
def rSortT (K : PySem.W.Frag) : List V → Hp → VK → Prop := fun vs H Q => ∃ (a : Addr) (xs : List V) (ds : List PyData), vs = [V.ref a] ∧ SqT K H a xs ∧ DpAll K H xs ds ∧ Cmpb ds ∧ Sortable ds ∧ ∀ p zs, H p = none → (∀ F', DpAll K F' xs ds → DpAll K F' zs (sortD false ds)) → Q (.ref p) (upd H p (.lst zs))
section
variable {X : Cx}
theorem cr_sortT (hu : X.A.units + 8 < cLine) : CallR X (.builtin "sorted") (rSortT X.K) := by
  intro pins s σ H vs us Q I r h
  obtain ⟨a, xs, ds, rfl, hs, ha, cb, so, q⟩ := h
  obtain rfl := Vals.ref1 r
  have dp := cb.dp
  obtain ⟨its, rv, hl, hz⟩ := I.tuple hs
  have el := dpAll_len ha
  have e := each_zip rv el
  have es := zip_snd el
  have er : EachIs (fun v (b : V × PyData) => ∃ as, PySem.Reads s.heap v b.2 as) its (xs.zip ds) := by
    have hm := dpAll_zip ha
    clear es el dp so cb q hs hl hz ha
    generalize xs.zip ds = bs at e hm
    clear rv
    induction e with
    | nil => exact .nil
    | @cons u b us bs r t ih => exact .cons (L2.Dp.reads I b.2 b.1 u (hm b List.mem_cons_self) r) (ih fun c m => hm c (List.mem_cons_of_mem _ m))
  refine PySem.W.sorted_dataT (R := fun u (b : V × PyData) => RelV b.1 u) (enc := Prod.snd) hl e er (by rw [es]; exact fun d hd d' hd' => cb.al.1 d hd d' hd') (by rw [es]; exact so) (by rw [List.length_zip, el, Nat.min_self, ← el]; exact hz) (fun b hb => ?_) fun out _ eo => ?_
  · have : b.2 ∈ ds := by rw [← es]; exact List.mem_map_of_mem hb
    have := depth_mem this
    omega
  · have em : ((xs.zip ds).mergeSort (dataLe false Prod.snd)).map Prod.snd = sortD false ds := by
      unfold sortD
      conv => rhs; rw [← es]
      exact List.map_mergeSort fun _ _ _ _ => rfl
    obtain ⟨n, hn⟩ := sortedAll_at s.heap its out.toArray
    have rz := each_vals eo
    have hzz : (((xs.zip ds).mergeSort (dataLe false Prod.snd)).map Prod.fst).length ≤ sizeLine := by
      rw [List.length_map, List.length_mergeSort, List.length_zip, el, Nat.min_self, ← el]
      exact hz
    refine ⟨.ref _, upd H (s.heap.objs.size + 1) (.lst (((xs.zip ds).mergeSort (dataLe false Prod.snd)).map Prod.fst)), I.laid (t' := s.toks) (fun b o e => sortedAll_old e) (Nat.le_succ _) ⟨hzz, out, n, rz, hn⟩, rfl, q _ _ (I.hok.fresh (Nat.le_succ _)) ?_⟩
    intro F' ha'
    rw [← em]
    exact dpAll_of fun b hb => dpAll_zip ha' b ((List.mergeSort_perm _ _).mem_iff.mp hb)
end
section
variable {C : Cy} {G : List Sv} {O : Ow} {t ta tb : TE} {k : PyData → Prop}
theorem dl_sortT {K' : PySem.W.Frag} {k : List Sv → Prop} [e : Lkk K' C.K] (h : Dx C G O t (isT (sortK k))) : Dl C G O (tCB (rSortT K') (tCons t tNil)) k := fun X F H σ Q r c => by
  rw [e.h]
  exact h X F H σ _ r fun F1 v H1 d s1 r1 p1 ⟨ds, ed, cb, so, q⟩ => by
    subst ed
    cases p1 with
    | @tup a xs _ hs ha =>
      exact ⟨a, xs, ds, rfl, Same.tup r1.q.sub hs, DpAll.mono r1.q.sub _ _ ha, cb, so, fun p zs np hz => c F1 p _ _ (s1.trans (r1.gn np)) (r1.q.h0 np) (r1.newO (ob := .lst ((sortD false ds).map Sv.dat)) np ⟨zs, rfl, Paired.ofAll (hz F1 ha)⟩) q⟩
instance s_sortTX {K' : PySem.W.Frag} [e : Lkk K' C.K] : Stp (Dx C G O (tCB (rSortT K') (tCons t tNil)) k) (Dx C G O t (isT (sortK fun ss => ∃ ds : List PyData, ss = ds.map Sv.dat ∧ k (.list ds)))) := ⟨fun h => dx_dl (dl_sortT h)⟩
instance s_sortTL {K' : PySem.W.Frag} {k : List Sv → Prop} [e : Lkk K' C.K] : Stp (Dl C G O (tCB (rSortT K') (tCons t tNil)) k) (Dx C G O t (isT (sortK k))) := ⟨dl_sortT⟩
instance s_sortL {K' : PySem.W.Frag} {k : List Sv → Prop} [e : Lkk K' C.K] : Stp (Dl C G O (tCB (rSortG K') (tCons t tNil)) k) (Dx C G O t (isLs (sortK k))) := ⟨dl_sortG⟩
/-! ## whole numbers downwards -/
def descK (k : List Sv → Prop) (ds : List PyData) : Prop := ∃ ns : List Int, ds = ns.map .int ∧ ∀ ns' : List Int, ns'.Perm ns → ns'.Pairwise (· ≥ ·) → k (ns'.map fun i => .dat (.int i))
theorem dl_desc {K' : PySem.W.Frag} {k : List Sv → Prop} [e : Lkk K' C.K] (h : Dl C G O t fun ss => ∃ ns : List Int, ss = ns.map (fun i => .dat (.int i)) ∧ ∀ ns' : List Int, ns'.Perm ns → ns'.Pairwise (· ≥ ·) → k (ns'.map fun i => .dat (.int i))) : Dl C G O (tCKw (rSortedKw K' true [.bl true]) (tCons t tNil) (tCons (tC (.bl true)) tNil)) k := fun X F H σ Q r c => by
  rw [e.h]
  refine h X F H σ _ r fun F1 D H1 ss s1 h0 r1 ⟨ns, es, q⟩ => ?_
  obtain ⟨u, hu, xs, rfl, px⟩ := r1.obj (n := 0) rfl
  subst es
  have := paired_ints px
  subst this
  refine ⟨D, ns, rfl, rfl, SqL.of hu, fun ns' p hp hd np => ?_⟩
  have r2 := r1.newO (ob := .lst (ns'.map fun i => .dat (.int i))) (u := .lst (ns'.map V.int)) np ⟨_, rfl, by
    clear hp hd
    induction ns' with
    | nil => exact .nil
    | cons a as ih => exact .cons (.int a) ih⟩
  have s1' : Gw (O ++ X) F H F1 H1 := s1
  refine c F1 p _ _ (s1'.trans ((r1.gn np).sub fun x hx => List.mem_cons_of_mem _ hx)) (r1.q.h0 np) (r2.less (List.Sublist.cons₂ _ (List.sublist_cons_self _ _))) (q ns' hp hd)
/-- of a list of one's own -/
theorem dl_descO {K' : PySem.W.Frag} {k : List Sv → Prop} {i n : Nat} {D : Addr} {ss : List Sv} {ns : List Int} [e : Lkk K' C.K] (hG : G[i]? = some (.ptr D)) (hO : O[n]? = some (D, .lst ss)) (es : ss = ns.map (fun i => .dat (.int i))) (q : ∀ ns' : List Int, ns'.Perm ns → ns'.Pairwise (· ≥ ·) → k (ns'.map fun i => .dat (.int i))) : Dl C G O (tCKw (rSortedKw K' true [.bl true]) (tCons (tVar i) tNil) (tCons (tC (.bl true)) tNil)) k := fun X F H σ Q r c => by
  rw [e.h]
  obtain ⟨v, ev, b⟩ := r.get hG (fun z => by cases z)
  cases b
  obtain ⟨u, hu, xs, rfl, px⟩ := r.obj (app_get (X := X) hO)
  subst es
  have := paired_ints px
  subst this
  refine ⟨_, ev, D, ns, rfl, rfl, SqL.of hu, fun ns' p hp hd np => ?_⟩
  have r2 := r.newO (ob := .lst (ns'.map fun i => .dat (.int i))) (u := .lst (ns'.map V.int)) np ⟨_, rfl, by
    clear hp hd
    induction ns' with
    | nil => exact .nil
    | cons a as ih => exact .cons (.int a) ih⟩
  exact c F p _ _ (r.gn np) (r.q.h0 np) r2 (q ns' hp hd)
/-! ## lists as they stand -/
/-- a list: one's own, or new -/
def Dk (C : Cy) (G : List Sv) (O : Ow) (t : TE) (k : List Sv → Prop) : Prop := ∀ X F H σ Q, Rp C F H σ G (O ++ X) → (∀ F' D H' ss X', Gw (O ++ X) F H F' H' → Rp C F' H' σ G (O ++ X') → X.Sublist X' → (D, Ob.lst ss) ∈ O ++ X' → k ss → Q (.ref D) H') → t σ H Q
theorem dk_dl {k : List Sv → Prop} (h : Dl C G O t k) : Dk C G O t k := fun X F H σ Q r c => h X F H σ Q r fun F' D H' ss g h0 r' q =>
  c F' D H' ss ((D, .lst ss) :: X) g (r'.perm List.perm_middle) (List.sublist_cons_self _ _) (List.mem_append_right _ List.mem_cons_self) q
theorem dk_var {i n : Nat} {D : Addr} {ss : List Sv} {k : List Sv → Prop} (hG : G[i]? = some (.ptr D)) (hO : O[n]? = some (D, .lst ss)) (q : k ss) : Dk C G O (tVar i) k := fun X F H σ Q r c => by
  obtain ⟨v, ev, b⟩ := r.get hG (fun z => by cases z)
  cases b
  exact ⟨_, ev, c F D H ss X Gw.refl r (List.Sublist.refl _) (List.mem_append_left _ (List.mem_of_getElem? hO)) q⟩
theorem Rp.objM {F H : Hp} {σ : L2.St} {G : List Sv} {O : Ow} (r : Rp C F H σ G O) {D : Addr} {ob : Ob} (m : (D, ob) ∈ O) : ∃ u, H D = some u ∧ ObOk C.K F u ob := by
  obtain ⟨_, _, _, u, e, k⟩ := r.ow D ob m
  exact ⟨u, e, k⟩
theorem paired_app {α β : Type} {R : α → β → Prop} {xs zs : List α} {ys ws : List β} (p : Paired R xs ys) (q : Paired R zs ws) : Paired R (xs ++ zs) (ys ++ ws) := by
  induction p with
  | nil => exact q
  | cons a _ ih => exact .cons a ih
theorem dl_cat {k : List Sv → Prop} (h : Dk C G O ta fun ss => Dk C G O tb fun es => ss.length + es.length ≤ sizeLine ∧ k (ss ++ es)) : Dl C G O (tOp rCat ta tb) k := fun X F H σ Q r c =>
  h X F H σ _ r fun F1 D1 H1 ss X1 s1 r1 b1 m1 h2 => h2 X1 F1 H1 σ _ r1 fun F2 D2 H2 es X2 s2 r2 b2 m2 ⟨hz, q⟩ => by
    have sb : ∀ {A B : Ow}, A.Sublist B → (O ++ A).Sublist (O ++ B) := fun h => (List.Sublist.refl O).append h
    obtain ⟨u1, hu1, xs, rfl, p1⟩ := r2.objM (D := D1) (ob := .lst ss) ((sb b2).subset m1)
    obtain ⟨u2, hu2, ys, rfl, p2⟩ := r2.objM m2
    refine ⟨D1, D2, xs, ys, rfl, rfl, hu1, hu2, by rw [Paired.length p1, Paired.length p2]; exact hz, fun p np => ?_⟩
    have r3 := r2.newO (p := p) (u := .lst (xs ++ ys)) (ob := .lst (ss ++ es)) np ⟨_, rfl, paired_app p1 p2⟩
    refine c F2 p _ _ ((s1.trans (s2.sub fun x hx => (sb b1).subset hx)).trans ((r2.gn np).sub fun x hx => (sb (b1.trans b2)).subset hx)) (r2.q.h0 np) (r3.less (List.Sublist.cons₂ _ (sb (b1.trans b2)))) q
/-- xs[a:b] -/
theorem dl_slK {tl th : TO} {K' : PySem.W.Frag} {k : List Sv → Prop} [e : Lkk K' C.K] (h : Dk C G O t fun ss => Do C G O tl fun lo => Do C G O th fun hi => k (cutD ss lo hi)) : Dl C G O (tSl (rSlL K') t tl th) k := fun X F H σ Q r c => by
  rw [e.h]
  exact h X F H σ _ r fun F1 D H1 ss X1 s1 r1 b1 m1 h2 => h2 X1 F1 H1 σ _ r1 fun F2 lo H2 s2 r2 h3 => h3 X1 F2 H2 σ _ r2 fun F3 hi H3 s3 r3 q => by
    have sb : ∀ {A B : Ow}, A.Sublist B → (O ++ A).Sublist (O ++ B) := fun h => (List.Sublist.refl O).append h
    obtain ⟨u1, hu1, xs, rfl, p1⟩ := r3.objM m1
    refine ⟨D, xs, rfl, SqL.of hu1, fun p np => ?_⟩
    have pc : Paired (SvOk C.K F3) (cutV xs lo hi) (cutD ss lo hi) := by
      unfold cutV cutD
      rw [Paired.length p1]
      have dr : ∀ (n : Nat) {vs : List V} {ws : List Sv}, Paired (SvOk C.K F3) vs ws → Paired (SvOk C.K F3) (vs.drop n) (ws.drop n) := by
        intro n vs ws p
        induction p generalizing n with
        | nil => simp; exact .nil
        | cons a b ih => cases n with
          | zero => exact .cons a b
          | succ n => exact ih n
      have tk : ∀ (n : Nat) {vs : List V} {ws : List Sv}, Paired (SvOk C.K F3) vs ws → Paired (SvOk C.K F3) (vs.take n) (ws.take n) := by
        intro n vs ws p
        induction p generalizing n with
        | nil => simp; exact .nil
        | cons a b ih => cases n with
          | zero => exact .nil
          | succ n => exact .cons a (ih n)
      exact tk _ (dr _ p1)
    have r4 := r3.newO (p := p) (u := .lst (cutV xs lo hi)) (ob := .lst (cutD ss lo hi)) np ⟨_, rfl, pc⟩
    exact c F3 p _ _ (((s1.trans (s2.sub fun x hx => (sb b1).subset hx)).trans (s3.sub fun x hx => (sb b1).subset hx)).trans ((r3.gn np).sub fun x hx => (sb b1).subset hx)) (r3.q.h0 np) (r4.less (List.Sublist.cons₂ _ (sb b1))) q
/-- xs[a:b], xs data -/
theorem dl_slD {tl th : TO} {K' : PySem.W.Frag} {k : List Sv → Prop} [e : Lkk K' C.K] (h : Dx C G O t (isLs fun ds => Do C G O tl fun lo => Do C G O th fun hi => k ((cutD ds lo hi).map Sv.dat))) : Dl C G O (tSl (rSlL K') t tl th) k := fun X F H σ Q r c => by
  rw [e.h]
  exact h X F H σ _ r fun F1 v H1 d s1 r1 p1 ⟨ds, ed, h2⟩ => by
    subst ed
    exact h2 X F1 H1 σ _ r1 fun F2 lo H2 s2 r2 h3 => h3 X F2 H2 σ _ r2 fun F3 hi H3 s3 r3 q => by
      cases Dp.mono (s2.trans s3).sf _ _ p1 with
      | @lst a xs _ hs ha =>
        refine ⟨a, xs, rfl, r3.q.sub.seq hs, fun p np => ?_⟩
        have r4 := r3.newO (p := p) (u := .lst (cutV xs lo hi)) (ob := .lst ((cutD ds lo hi).map Sv.dat)) np ⟨_, rfl, Paired.ofAll (dpAll_cut ha)⟩
        exact c F3 p _ _ (((s1.trans s2).trans s3).trans (r3.gn np)) (r3.q.h0 np) r4 q
class Lko (G : List Sv) (O : Ow) (i : Nat) (ss : outParam (List Sv)) : Prop where
  h : ∃ (D : Addr) (n : Nat), G[i]? = some (.ptr D) ∧ O[n]? = some (D, Ob.lst ss)
instance {i n : Nat} {D : Addr} {ss : List Sv} [e1 : Lk G i (.ptr D)] [e2 : Ok O D n (.lst ss)] : Lko G O i ss := ⟨⟨D, n, e1.h, e2.h⟩⟩
instance (priority := high) s_dkvar {i : Nat} {ss : List Sv} {k : List Sv → Prop} [e : Lko G O i ss] : Stp (Dk C G O (tVar i) k) (k ss) := ⟨fun q => by obtain ⟨D, n, e1, e2⟩ := e.h; exact dk_var e1 e2 q⟩
instance (priority := low) s_dk {k : List Sv → Prop} : Stp (Dk C G O t k) (Dl C G O t k) := ⟨dk_dl⟩
instance s_catL {k : List Sv → Prop} : Stp (Dl C G O (tOp rCat ta tb) k) (Dk C G O ta fun ss => Dk C G O tb fun es => ss.length + es.length ≤ sizeLine ∧ k (ss ++ es)) := ⟨dl_cat⟩
instance s_catX : Stp (Dx C G O (tOp rCat ta tb) k) (Dk C G O ta fun ss => Dk C G O tb fun es => ss.length + es.length ≤ sizeLine ∧ ∃ ds : List PyData, ss ++ es = ds.map Sv.dat ∧ k (.list ds)) := ⟨fun h => dx_dl (dl_cat h)⟩
instance s_catS {E : En} {i : Nat} : Stp (Ds C G O (tAsg (tOp rCat ta tb) (gName i)) E) (Dk C G O ta fun ss => Dk C G O tb fun es => ss.length + es.length ≤ sizeLine ∧ ∀ D, C.H0 D = none → SetD G i (.ptr D) fun G' => E.nx G' ((D, .lst (ss ++ es)) :: O)) := ⟨fun h => ds_setL (dl_cat h)⟩
instance s_dllst {u : TA} {k : List Sv → Prop} : Stp (Dl C G O (tLst u) k) (Da C G O u fun ss => szk ss.length (k ss)) := ⟨dl_lst⟩
/-! ## *xs in a row -/
theorem dd_star {K' : PySem.W.Frag} {u : TA} {k : List PyData → Prop} [e : Lkk K' C.K] (h : Dx C G O t (isQ fun ds => Dd C G O u fun es => k (ds ++ es))) : Dd C G O (StX.tStar K' t u) k := fun X F H σ Q r c => by
  rw [e.h]
  exact h X F H σ _ r fun F1 v H1 d s1 r1 p1 ⟨ds, ed, h2⟩ => by
    have fin : ∀ (a : Addr) (xs : List V), (SqT C.K F1 a xs ∨ SqL C.K F1 a xs) → DpAll C.K F1 xs ds → ∃ p zs, V.ref a = V.ref p ∧ (SqT C.K H1 p zs ∨ SqL C.K H1 p zs) ∧ u σ H1 fun ys H2 => Q (zs ++ ys) H2 := fun a xs hs ha =>
      ⟨a, xs, rfl, hs.elim (fun z => .inl (Same.tup r1.q.sub z)) (fun z => .inr (r1.q.sub.seq z)), h2 X F1 H1 σ _ r1 fun F2 ws H2 es s2 r2 p2 q => c F2 _ H2 _ (s1.trans s2) r2 (dpAll_app (DpAll.mono s2.sf _ _ ha) p2) q⟩
    rcases ed with ed | ed
    · subst ed
      cases p1 with
      | @tup a xs _ hs ha => exact fin a xs (.inl hs) ha
    · subst ed
      cases p1 with
      | @lst a xs _ hs ha => exact fin a xs (.inr hs) ha
instance s_star {K' : PySem.W.Frag} {u : TA} {k : List PyData → Prop} [e : Lkk K' C.K] : Stp (Dd C G O (StX.tStar K' t u) k) (Dx C G O t (isQ fun ds => Dd C G O u fun es => k (ds ++ es))) := ⟨dd_star⟩
/-! ## xs.index(x), xs of one's own or written, of texts -/
theorem dx_indexS {K' : PySem.W.Frag} [e : Lkk K' C.K] (h : Dk C G O ta fun ss => Dx C G O tb (isS fun z => ∃ (ys : List Str) (j : Nat), ss = ys.map (fun y => .dat (.str y)) ∧ ys[j]? = some z ∧ (∀ m < j, ys[m]? ≠ some z) ∧ k (.int (j : Nat)))) : Dx C G O (tBM K' "list" (rIndex K') ta (tCons tb tNil)) k := fun X F H σ Q r c => by
  rw [e.h]
  exact h X F H σ _ r fun F1 D H1 ss X1 s1 r1 b1 m1 h2 => by
    have sb : ∀ {A B : Ow}, A.Sublist B → (O ++ A).Sublist (O ++ B) := fun h => (List.Sublist.refl O).append h
    obtain ⟨u1, hu1, xs, rfl, p1⟩ := r1.objM m1
    refine ⟨.inl ⟨rfl, xs, SqL.of hu1⟩, h2 X1 F1 H1 σ _ r1 fun F2 v H2 d s2 r2 p2 ⟨z, ed, ys, j, es, hj, hm, q⟩ => ?_⟩
    subst ed es
    obtain ⟨u1, hu1, xs, rfl, p1⟩ := r2.objM m1
    cases p2
    have ex : xs = ys.map V.str := by
      have : Paired (SvOk C.K F2) xs ((ys.map PyData.str).map Sv.dat) := by rw [List.map_map]; exact p1
      exact dpAll_strs (Paired.det this rfl)
    subst ex
    refine ⟨D, _, .str z, j, .str z, rfl, rfl, SqL.of hu1, rfl, ?_, by rw [List.getElem?_map, hj]; rfl, by show (z == z) = true; exact beq_self_eq_true z, fun m z' hmj e => ?_, c F2 _ H2 _ (s1.trans (s2.sub fun x hx => (sb b1).subset hx)) (r2.less (sb b1)) (.int _) q⟩
    · rw [List.all_map]
      exact List.all_eq_true.mpr fun _ _ => rfl
    · rw [List.getElem?_map] at e
      obtain ⟨y, hy, rfl⟩ := Option.map_eq_some_iff.mp e
      show (y == z) = false
      exact beq_eq_false_iff_ne.mpr fun e => hm m hmj (e ▸ hy)
instance s_indexS {K' : PySem.W.Frag} [e : Lkk K' C.K] : Stp (Dx C G O (tBM K' "list" (rIndex K') ta (tCons tb tNil)) k) (Dk C G O ta fun ss => Dx C G O tb (isS fun z => ∃ (ys : List Str) (j : Nat), ss = ys.map (fun y => .dat (.str y)) ∧ ys[j]? = some z ∧ (∀ m < j, ys[m]? ≠ some z) ∧ k (.int (j : Nat)))) := ⟨dx_indexS⟩
/-! ## rows in a try: what stands behind the first raises nothing -/
theorem dw_seqC {t : WX → TS} {u : TS} {E : En} {ke : Ke} (h : DsW C G O t { E with nx := fun G' O' => Ds C G' O' u E } ke) : DsW C G O (fun W => tSeq (t W) u) E ke := fun X F H σ D W r n1 n2 n3 n4 e =>
  h X F H σ { D with nx := u D } W r (fun F2 σ2 H2 G2 O2 s2 r2 h2 => h2 X F2 H2 σ2 D r2 (n1.mono s2) (n2.mono s2) (n3.mono s2) (n4.mono s2)) n2 n3 n4 e
end
end Dl
set_option Elab.async false
set_option linter.all false
set_option maxRecDepth 100000
set_option maxHeartbeats 4000000
/-! Dl15: len(set(names)), names a list or a tuple -/
namespace Ln
open PySem PySem.Spec PyProof.Rows L2
section
variable {P : Program} {w : World} {A : Around} {E : Value → Shared → Prop} {s : Shared}
set_option maxHeartbeats 8000000 in
/-- set(l), l a list of texts -/
theorem call_set_namesT {l : Addr} {its : Array Value} {xs : List PySem.Str} {Q : Value → Shared → Prop} (hh : A.handled = none) (hl : s.heap.IsTuple l its) (hi : PyProof.Rows.StrsAre its.toList xs) (hb : its.size + 1 < scanBound)
    (fin : ∀ (h' : Heap) (tk : Nat), h'.SetOf (PySem.strKind P w) s.heap.objs.size (fun k => (met xs).any (· == k)) (met xs).length → (∀ b o, b < s.heap.objs.size → s.heap.get? b = some o → h'.get? b = some o) → Q (.ref s.heap.objs.size) { s with heap := h', toks := tk }) :
    wpAny (model P w) A (call (.type "set") [.ref l]) Q E s := by
  have hn : xs.length = its.size := by rw [← StrsAre.len_eq hi, Array.length_toList]
  obtain ⟨c, tl, k1⟩ := PySem.F.called_set.mro; have k2 := PySem.F.called_set.made; have k3 := PySem.F.called_set.sub
  refine wpAny_call (codeAny_of_tree (?_ : wpAny _ _ (callAny (.type "set") _) _ _ _))
  refine wpAny_pure ⟨Code.quiet_builtin _ (by decide +kernel), codeAny_builtin PySem.F.entry_type_call ?_⟩; rw [Around.under_plain (weight_type_call_type "set" [.ref l] []) rfl]
  have k4 := PySem.F.called_set.notType; have k5 := PySem.F.called_set.canCreate; have k6 := PySem.F.typeCall_set_1 (.ref l)
  repeat any_goals (first | assumption | wp_step)
  refine codeAny_mono (code_set_new_1 (.ref l) (E := E) (Q₁ := fun o t => ∃ led : Bool, o = .ref s.heap.objs.size ∧ t = { s with heap := s.heap.push (bare led) }) fun led => ⟨led, rfl, rfl⟩) fun r t hr => ?_
  rcases r with e | f
  · exact hr
  cases f with
  | ret o =>
    obtain ⟨led, rfl, rfl⟩ := hr
    have at0 : (s.heap.push (bare led)).get? s.heap.objs.size = some (bare led) := Heap.get?_push_size _ rfl
    have ty0 : Shared.TypeIs { s with heap := s.heap.push (bare led) } (.ref s.heap.objs.size) "set" := ⟨_, at0, rfl⟩
    have k7 := PySem.F.called_set.init.lookup; have k8 := PySem.F.called_set.init.bind (.ref s.heap.objs.size)
    repeat any_goals (first | assumption | wp_step)
    refine codeAny_mono (codeAny_call_builtin (R := wants (fun r t => r = .none ∧ ∃ h' tk, t = { s with heap := h', toks := tk } ∧ h'.SetOf (PySem.strKind P w) s.heap.objs.size (fun k => (met xs).any (· == k)) (met xs).length ∧ ∀ b o, b < s.heap.objs.size → s.heap.get? b = some o → h'.get? b = some o) E)
      PySem.F.called_set.init.plain PySem.F.entry_set_init (check_set_init_1 ty0 ?_)) fun r2 t2 hr2 => ?_
    · obtain ⟨⟨oc, od, ox, os⟩, ho, hc, nl, hd⟩ := hl
      simp only at hc hd; subst hc; subst hd
      have ho2 : (s.heap.push (bare led)).get? l = some { cls := .type "tuple", dict := od, data := .seq its nl, slots := os } := Heap.get?_push_of_some _ ho
      have l1 := PySem.F.sub_tuple_set; have l2 := PySem.F.sub_tuple_frozenset; have l3 : (Value.type "tuple" == Value.type "dict") = false := by decide
      have isl : (s.heap.push (bare led)).IsTuple l its := ⟨_, ho2, rfl, nl, rfl⟩
      unfold Builtin.«set.__init__» noKeywords Builtin.Frozenset.updateFrom; generalize hp : pyIter = pit; wp_walk; subst hp
      refine wpAny_pyIter_tuple isl (wpAny_bind (wpAny_runValue ?_))
      have lt : l < s.heap.objs.size := Heap.lt_size ho
      have ne1 : l ≠ (s.heap.push (bare led)).objs.size := by rw [Heap.size_push]; exact Nat.ne_of_lt (Nat.lt_succ_of_lt lt)
      have no1 : s.heap.objs.size ∉ [(s.heap.push (bare led)).objs.size, l] := by
        rw [Heap.size_push]; intro m; rcases List.mem_cons.mp m with e | m
        · exact Nat.ne_of_lt (Nat.lt_succ_self _) e
        · exact Nat.ne_of_gt lt (List.mem_singleton.mp m)
      refine set_walk ((Walks.tuple (by simp [hh] : A.in1.in1.in1.handled = none) _ l ne1 its).toS) s.heap.objs.size no1 xs hn hb (fun j u hu => SS.strs_at hi j u (by rw [Array.getElem?_toList]; exact hu)) (its.size - 0) 0 _ (by omega) (Nat.zero_le _) ⟨⟨_, Heap.get?_push_size _ rfl, rfl, rfl⟩, isl.push _⟩ ?_ fun t3 mv hS => ?_
      · exact SetOf_congr ((setObjOf_fresh (knd := PySem.strKind P w) led).setOf (Heap.get?_push_of_some _ at0) (by unfold scanBound; omega)) (fun _ => rfl) rfl
      · obtain ⟨h3, g3, d3, tk3, os3⟩ := t3
        have eg : g3 = s.gens := mv.gens; have ed : d3 = s.drawn := mv.drawn; have eo : os3 = s.os := mv.os
        subst eg; subst ed; subst eo
        show wpAny _ _ _ _ _ _; refine wpAny_pure ?_; show wpAny _ _ (ret Value.none) _ _ _; refine wpAny_pure ⟨rfl, h3, tk3, rfl, hS, fun b o hb e => ?_⟩
        refine mv.heap b o (fun m => ?_) (Heap.get?_push_of_some _ (Heap.get?_push_of_some _ e))
        rw [Heap.size_push] at m; rcases List.mem_cons.mp m with z | m
        · exact Nat.ne_of_lt hb z
        · exact Nat.ne_of_lt (Nat.lt_succ_of_lt hb) (List.mem_singleton.mp m)
    · rcases r2 with e | f2
      · exact hr2
      cases f2 with
      | ret r =>
        obtain ⟨rfl, h3, tk3, rfl, hS, old⟩ := hr2
        repeat any_goals (first | assumption | wp_step)
        exact fin _ _ hS old
      | _ => exact hr2.elim
  | _ => exact hr.elim
end
section
variable {X : Cx}
def tLenNamesA (K : PySem.W.Frag) (ta : TE) : TE := fun σ H Q => ta σ H fun x H1 => ∃ (l : Addr) (xs : List PySem.Str), x = .ref l ∧ (SqL K H1 l (xs.map V.str) ∨ SqT K H1 l (xs.map V.str)) ∧ xs.length ≤ 60 ∧ Q (.int ((met xs).length : Nat)) H1
theorem pe_lenNamesA {a : Expr} {ta : TE} {p p2 q pos : Pos} (hc : X.calm = true) (hg : Gl X "len") (hm : X.mg "len" = none) (hg2 : Gl X "set") (hm2 : X.mg "set" = none) (ha : PE X a ta)
    (na : starEach [a] X.env = (false, eval a X.env) :: starEach [] X.env := by rfl) : PE X (.Call (.Name "len" p) [.Call (.Name "set" p2) [a] [] q] [] pos) (tLenNamesA X.K ta) := by
  refine ⟨fun pins s σ H Q I h => Call_ (ld_blt I hg hm boot_len (PyProof.Rows.callWith_builtin1 (PyProof.Rows.args_cons ?_ rfl) rfl rfl))⟩
  refine Call_ (ld_blt I hg2 hm2 boot_set (PyProof.Rows.callWith_type1 (PyProof.Rows.args_cons (thn (ha.run pins s σ H _ I h) fun v s1 ⟨x, H1, I1, r1, q1⟩ => PyProof.Rows.args_nil ?_) na) na rfl))
  obtain ⟨l, xs, rfl, hq, h1, q1⟩ := q1
  cases r1
  have fin : ∀ (its : List Value), Vals (xs.map V.str) its → ∀ (h' : Heap) (tk : Nat), h'.SetOf (PySem.strKind X.prog X.w) s1.heap.objs.size (fun k => (met xs).any (· == k)) (met xs).length →
      (∀ b o, b < s1.heap.objs.size → s1.heap.get? b = some o → h'.get? b = some o) →
      wpAny (model X.prog X.w) X.A (spliced (backTo pos (starEach [] X.env))) (fun vs s₂ => wpAny (model X.prog X.w) X.A (call (.builtin "len") (Value.ref s1.heap.objs.size :: vs)) (EP X pins σ Q) X.xe s₂) X.xe { s1 with heap := h', toks := tk } := fun its r h' tk hS hk => by
    refine PyProof.Rows.args_nil ?_
    obtain ⟨o, es, ep, t, ho, hex, hd, _, _, _, hf, hn⟩ := hS
    have le := met_le _ xs rfl
    exact call_len_set ho hex hd hf (by rw [hn]; omega) ⟨.int (met xs).length, H1, (I1.kept (t' := tk) fun b o e => hk b o (Heap.lt_size e) e).tok _, ⟨_, by rw [hn]⟩, q1⟩
  rcases hq with hq | hq
  · obtain ⟨its, r, pl, hz⟩ := I1.list hq
    have ln : its.toArray.size = xs.length := by rw [List.size_toArray, ← r.length, List.length_map]
    exact call_set_names (I1.ok.hd hc) pl.isList (by simpa using strsAre_of r) (by rw [ln]; unfold scanBound; omega) fun h' tk hS hk => fin its r h' tk hS hk
  · obtain ⟨its, r, pl, hz⟩ := I1.tuple hq
    have ln : its.toArray.size = xs.length := by rw [List.size_toArray, ← r.length, List.length_map]
    exact call_set_namesT (I1.ok.hd hc) pl (by simpa using strsAre_of r) (by rw [ln]; unfold scanBound; omega) fun h' tk hS hk => fin its r h' tk hS hk
end
end Ln
set_option Elab.async false
set_option autoImplicit false
set_option linter.all false
set_option maxRecDepth 100000
set_option maxHeartbeats 4000000
/-! Dl16: what sorted gives, numbers of places, what is in a row -/
namespace Dl
open PySem PySem.Spec PyProof.Rows L2 Ln PySem.W
section
variable {C : Cy} {G : List Sv} {O : Ow} {t ta tb : TE} {k : PyData → Prop}
instance s_slLX {tl th : TO} {K' : PySem.W.Frag} [e : Lkk K' C.K] : Stp (Dx C G O (tSl (rSlL K') t tl th) k) (Dx C G O t (isLs fun ds => Do C G O tl fun lo => Do C G O th fun hi => k (.list (cutD ds lo hi)))) :=
  ⟨fun h => dx_dl (dl_slD fun X F H σ Q r c => h X F H σ Q r fun F1 v H1 d s1 r1 p1 ⟨ds, ed, h2⟩ => c F1 v H1 d s1 r1 p1 ⟨ds, ed, fun X F H σ Q r c => h2 X F H σ Q r fun F2 lo H2 s2 r2 h3 => c F2 lo H2 s2 r2 fun X F H σ Q r c => h3 X F H σ Q r fun F3 hi H3 s3 r3 q => c F3 hi H3 s3 r3 ⟨_, rfl, q⟩⟩)⟩
end
theorem cutD_takeA {α : Type} (xs : List α) (n : Nat) : cutD xs none (some (n : Int)) = xs.take n := by
  unfold cutD
  rw [HT.sIx_nat, HT.sIx_none, List.drop_zero, Nat.sub_zero]
  by_cases h : n ≤ xs.length
  · rw [Nat.min_eq_left h]
  · rw [Nat.min_eq_right (by omega), List.take_of_length_le (Nat.le_refl _), List.take_of_length_le (by omega)]
theorem cutD_dropA {α : Type} (xs : List α) (n : Nat) : cutD xs (some (n : Int)) none = xs.drop n := by
  unfold cutD
  rw [HT.sIx_nat, HT.sIx_none]
  by_cases h : n ≤ xs.length
  · rw [Nat.min_eq_left h, List.take_of_length_le (by rw [List.length_drop]; exact Nat.le_refl _)]
  · rw [Nat.min_eq_right (by omega), List.drop_of_length_le (Nat.le_refl _), List.drop_of_length_le (by omega)]
    exact List.take_nil
theorem enumD_zip {α : Type} (f : α → PyData) (xs : List α) : enumD (xs.map f) = xs.zipIdx.map fun p => .tuple [.int (p.2 : Int), f p.1] := by
  refine List.ext_getElem? fun i => ?_
  unfold enumD
  rw [List.getElem?_mapIdx, List.getElem?_map, List.getElem?_map, List.getElem?_zipIdx]
  cases xs[i]? <;> simp
theorem enumD_len (ds : List PyData) : (enumD ds).length = ds.length := by unfold enumD; rw [List.length_mapIdx]
theorem inD_ints (x : Int) (xs : List Int) : inD (.int x) (xs.map .int) = decide (x ∈ xs) := by
  unfold inD
  rw [List.any_map, Bool.eq_iff_iff, List.any_eq_true, decide_eq_true_iff]
  constructor
  · rintro ⟨y, hy, e⟩
    have : y = x := by simpa [eqvS] using e
    rw [← this]; exact hy
  · intro h
    exact ⟨x, h, by simp [eqvS]⟩
theorem flat_ints (xs : List Int) : (xs.map PyData.int).all flatD = true := by
  rw [List.all_map]; exact List.all_eq_true.mpr fun _ _ => rfl
theorem dle_not {α : Type} (f : α → PyData) (a b : α) : dataLe false f a b = !dataLt (f b) (f a) := rfl
theorem sort_by {α : Type} (f : α → PyData) (xs : List α) : ∃ ys : List α, sortD false (xs.map f) = ys.map f ∧ ys.Perm xs ∧ ys.Pairwise fun a b => dataLt (f b) (f a) = false := by
  have tl : TotalLe (dataLe false f) := sortLe_total (listOrd itemOrd) false _
  refine ⟨xs.mergeSort (dataLe false f), ?_, List.mergeSort_perm _ _, ?_⟩
  · unfold sortD
    exact (List.map_mergeSort (f := f) (r := dataLe false f) (s := dataLe false id) fun _ _ _ _ => rfl).symm
  · refine List.Pairwise.imp ?_ (List.pairwise_mergeSort (fun a b c => tl.trans a b c) (fun a b => by have := tl.total a b; simpa using this) xs)
    intro a b h
    have h : (!dataLt (f b) (f a)) = true := h
    simpa using h
theorem sort_ents (xs : List (Int × Int)) : ∃ ys : List (Int × Int), sortD false (xs.map entD) = ys.map entD ∧ ys.Perm xs ∧ ys.Pairwise fun a b => ¬ ltE b a := by
  obtain ⟨ys, h1, h2, h3⟩ := sort_by entD xs
  refine ⟨ys, h1, h2, h3.imp fun h => ?_⟩
  rw [lt_ent] at h
  exact of_decide_eq_false h
theorem sortable_ents (xs : List (Int × Int)) : Sortable (xs.map entD) := .inl fun d hd => by
  obtain ⟨x, _, rfl⟩ := List.mem_map.mp hd
  exact ⟨_, _, rfl⟩
theorem cmpb_strs (xs : List Str) : Cmpb (xs.map .str) := by
  refine Cmpb.of (fun a ha b hb => ?_) (fun a ha => ?_) (fun a ha => ?_)
  · obtain ⟨x, _, rfl⟩ := List.mem_map.mp ha
    obtain ⟨y, _, rfl⟩ := List.mem_map.mp hb
    simp [alike]
  · obtain ⟨x, _, rfl⟩ := List.mem_map.mp ha
    exact fun z => by cases z
  · obtain ⟨x, _, rfl⟩ := List.mem_map.mp ha
    simp [PyData.depth]
theorem sortable_strs (xs : List Str) : Sortable (xs.map .str) := .inr fun d hd => by
  obtain ⟨x, _, rfl⟩ := List.mem_map.mp hd
  exact ⟨(fun z => by cases z), (fun ys z => by cases z)⟩
theorem str_cps {x y : PySem.Str} (h : x.cps.toList = y.cps.toList) : x = y := by
  rcases x with ⟨⟨x⟩⟩; rcases y with ⟨⟨y⟩⟩; exact congrArg (fun l => (⟨⟨l⟩⟩ : PySem.Str)) h
theorem sort_strs (xs : List Str) : ∃ ys : List Str, sortD false (xs.map .str) = ys.map .str ∧ ys.Perm xs ∧ ys.Pairwise fun a b => a.cps.toList ≤ b.cps.toList := by
  obtain ⟨ys, h1, h2, h3⟩ := sort_by PyData.str xs
  refine ⟨ys, h1, h2, h3.imp fun h => ?_⟩
  rw [dataLt_str] at h
  exact List.not_lt.mp (of_decide_eq_false h)
/-- two sorted rows of texts are alike exactly if they are permutations -/
theorem sort_strs_eq {xs ys : List Str} : sortD false (xs.map .str) = sortD false (ys.map .str) ↔ xs.Perm ys := by
  obtain ⟨as, a1, a2, a3⟩ := sort_strs xs
  obtain ⟨bs, b1, b2, b3⟩ := sort_strs ys
  rw [a1, b1]
  constructor
  · intro h
    have : as = bs := (List.map_inj_right (f := PyData.str) fun a b e => PyData.str.inj e).mp h
    rw [this] at a2
    exact a2.symm.trans b2
  · intro h
    have p : as.Perm bs := a2.trans (h.trans b2.symm)
    rw [List.Perm.eq_of_pairwise (le := fun a b : Str => a.cps.toList ≤ b.cps.toList) (fun a b _ _ h1 h2 => str_cps (List.le_antisymm h1 h2)) a3 b3 p]
end Dl
set_option Elab.async false
set_option autoImplicit false
set_option linter.all false
set_option maxRecDepth 100000
set_option maxHeartbeats 4000000
/-! Dl17: a walk over a list or a tuple; sorted downwards -/
namespace Dl
open PySem PySem.Spec PyProof.Rows L2 Ln PySem.W
def iEither (K : PySem.W.Frag) (t : TE) : TI := fun σ H R => iList K t σ H R ∨ iTup K t σ H R
theorem pi_either {X : Cx} {tg l : Expr} {tl : TE} (hl : PE X l tl) : PI X tg l (iEither X.K tl) := ⟨fun pins s σ H R I q => q.elim (fun q => (pi_list hl).run pins s σ H R I q) fun q => (pi_tup hl).run pins s σ H R I q⟩
section
variable {C : Cy} {G : List Sv} {O : Ow} {t ta tb : TE} {k : PyData → Prop}
/-- x is data, of which it is known what it is -/
theorem dw_eitherT {K' : PySem.W.Frag} {i : Nat} {ds : List PyData} {k : List PyData → Prop} [e : Lkk K' C.K] (h : G[i]? = some (.dat (.tuple ds))) (q : k ds) : Dw C G O (iEither K' (tVar i)) k := fun X F H σ R r c =>
  .inr (dw_tup (K' := K') (dx_var h ⟨_, rfl, q⟩) e.h X F H σ R r c)
theorem dw_eitherL {K' : PySem.W.Frag} {i : Nat} {ds : List PyData} {k : List PyData → Prop} [e : Lkk K' C.K] (h : G[i]? = some (.dat (.list ds))) (q : k ds) : Dw C G O (iEither K' (tVar i)) k := fun X F H σ R r c =>
  .inl (dw_list (K' := K') (dx_var h ⟨_, rfl, q⟩) e.h X F H σ R r c)
class Lkq (G : List Sv) (i : Nat) (ds : outParam (List PyData)) : Prop where
  h : G[i]? = some (.dat (.tuple ds)) ∨ G[i]? = some (.dat (.list ds))
instance {i : Nat} {ds : List PyData} [e : Lk G i (.dat (.tuple ds))] : Lkq G i ds := ⟨.inl e.h⟩
instance {i : Nat} {ds : List PyData} [e : Lk G i (.dat (.list ds))] : Lkq G i ds := ⟨.inr e.h⟩
instance s_either {K' : PySem.W.Frag} {i : Nat} {ds : List PyData} {k : List PyData → Prop} [e : Lkk K' C.K] [e2 : Lkq G i ds] : Stp (Dw C G O (iEither K' (tVar i)) k) (k ds) := ⟨fun q => e2.h.elim (fun h => dw_eitherT h q) fun h => dw_eitherL h q⟩
theorem dw_eitherQ {K' : PySem.W.Frag} {i : Nat} {d : PyData} {ds : List PyData} {k : List PyData → Prop} [e : Lkk K' C.K] [e2 : Lk G i (.dat d)] (hd : d = .tuple ds ∨ d = .list ds) (q : k ds) : Dw C G O (iEither K' (tVar i)) k := by
  rcases hd with rfl | rfl
  · exact dw_eitherT e2.h q
  · exact dw_eitherL e2.h q
instance s_descL {K' : PySem.W.Frag} {k : List Sv → Prop} {i : Nat} {ss : List Sv} [e : Lkk K' C.K] [e2 : Lko G O i ss] : Stp (Dl C G O (tCKw (rSortedKw K' true [.bl true]) (tCons (tVar i) tNil) (tCons (tC (.bl true)) tNil)) k) (∃ ns : List Int, ss = ns.map (fun i => .dat (.int i)) ∧ ∀ ns' : List Int, ns'.Perm ns → ns'.Pairwise (· ≥ ·) → k (ns'.map fun i => .dat (.int i))) :=
  ⟨fun ⟨ns, es, q⟩ => by obtain ⟨D, n, e1, e3⟩ := e2.h; exact dl_descO e1 e3 es q⟩
instance s_descX {K' : PySem.W.Frag} {i : Nat} {ss : List Sv} [e : Lkk K' C.K] [e2 : Lko G O i ss] : Stp (Dx C G O (tCKw (rSortedKw K' true [.bl true]) (tCons (tVar i) tNil) (tCons (tC (.bl true)) tNil)) k) (∃ ns : List Int, ss = ns.map (fun i => .dat (.int i)) ∧ ∀ ns' : List Int, ns'.Perm ns → ns'.Pairwise (· ≥ ·) → k (.list (ns'.map .int))) :=
  ⟨fun ⟨ns, es, q⟩ => by obtain ⟨D, n, e1, e3⟩ := e2.h; exact dx_dl (dl_descO e1 e3 es fun ns' p1 p2 => ⟨ns'.map .int, by rw [List.map_map]; rfl, q ns' p1 p2⟩)⟩
instance s_slKL {tl th : TO} {K' : PySem.W.Frag} {k : List Sv → Prop} [e : Lkk K' C.K] : Stp (Dl C G O (tSl (rSlL K') t tl th) k) (Dk C G O t fun ss => Do C G O tl fun lo => Do C G O th fun hi => k (cutD ss lo hi)) := ⟨dl_slK⟩
end
end Dl
namespace Dl
open PySem PySem.Spec PyProof.Rows L2 Ln PySem.W
def datOf : Sv → PyData | .dat d => d | _ => .none
section
variable {C : Cy} {G G' : List Sv} {O O' : Ow} {D : Addr} {n : Nat}
/-- a list that has been written out changes no more -/
theorem ds_keepL (i : Nat) {t : TS} {E : En} {ss : List Sv} [e1 : Lk G i (.ptr D)] [e2 : Ok O D n (.lst ss)] [e3 : St G i (.dat (.list (ss.map datOf))) G'] [e4 : Er O n O'] (h0 : C.H0 D = none) (h : Ds C G' O' t E) (hss : ss = (ss.map datOf).map Sv.dat := by rfl) : Ds C G O t E :=
  ds_keep (G' := G') (O' := O') (ds := ss.map datOf) (n := n) i (e2 := ⟨by rw [← hss]; exact e2.h⟩) h0 h
end
end Dl

namespace Dl
open PySem PySem.Spec PyProof.Rows L2 Ln PySem.W
section
variable {C : Cy} {G : List Sv} {O : Ow}
theorem Ds.nxMono {u : TS} {E : En} {nx' : List Sv → Ow → Prop} (h : Ds C G O u E) (m : ∀ G' O', E.nx G' O' → nx' G' O') : Ds C G O u { E with nx := nx' } := fun X F H σ D r n1 n2 n3 n4 =>
  h X F H σ D r (fun F' σ' H' G' O' s r' p => n1 F' σ' H' G' O' s r' (m _ _ p)) n2 n3 n4
/-- if without else, and what stands behind it: N says what is known there -/
theorem if_cont {c : Bool} {u t : TS} {E : En} (N : List Sv → Prop) (h1 : c = true → Ds C G O u { E with nx := fun G' O' => O' = O ∧ N G' }) (h2 : c = false → N G) (h3 : ∀ G', N G' → Ds C G' O t E) : if c = true then Ds C G O u { E with nx := fun G' O' => Ds C G' O' t E } else Ds C G O tNext { E with nx := fun G' O' => Ds C G' O' t E } := by
  refine ifB (fun h => ?_) (fun h => ?_)
  · exact (h1 h).nxMono (nx' := fun G' O' => Ds C G' O' t E) fun G' O' p => by
      obtain ⟨e, p⟩ := p
      rw [e]; exact h3 G' p
  · exact ds_pass (h3 G (h2 h))
end
end Dl
set_option Elab.async false
set_option autoImplicit false
set_option linter.all false
set_option maxRecDepth 100000
set_option maxHeartbeats 4000000
/-! Dl18: < of data; pop(i) into append -/
namespace Dl
open PySem PySem.Spec PyProof.Rows L2 Ln PySem.W
def rLtG (K : PySem.W.Frag) : R2 := fun x y H Q => ∃ d e, L2.Dp K H x d ∧ L2.Dp K H y e ∧ alike d e = true ∧ d ≠ .none ∧ d.depth ≤ 4 ∧ Q (V.bl (dataLt d e)) H
theorem op_ltG {X : Cx} (hu : X.A.units + 8 < cLine) : OpR X (compareOp .Lt) (rLtG X.K) := by
  intro pins s σ H x y v u Q I rx ry h
  obtain ⟨d, e, hd, he, ha, hn, hdp, q⟩ := h
  obtain ⟨as, r1⟩ := L2.Dp.reads I d x v hd rx
  obtain ⟨bs, r2⟩ := L2.Dp.reads I e y u he ry
  exact PySem.W.lt_data r1 r2 ha hn (by omega) ⟨.bl _, H, I, rfl, q⟩
section
variable {C : Cy} {G : List Sv} {O : Ow} {t ta tb : TE} {k : PyData → Prop}
def ltK (k : Bool → Prop) (d e : PyData) : Prop := alike d e = true ∧ d ≠ .none ∧ d.depth ≤ 4 ∧ k (dataLt d e)
theorem dx_ltG {K' : PySem.W.Frag} [e : Lkk K' C.K] (h : Dx C G O ta fun a => Dx C G O tb fun b => ltK (fun c => k (.bool c)) a b) : Dx C G O (tOp (rLtG K') ta tb) k := fun X F H σ Q r c => by
  rw [e.h]
  exact h X F H σ _ r fun F1 v H1 a s1 r1 p1 h2 => h2 X F1 H1 σ _ r1 fun F2 w H2 b s2 r2 p2 ⟨ha, hn, hd, q⟩ =>
    ⟨a, b, DpAll_up r2 (Dp.mono s2.sf _ _ p1), DpAll_up r2 p2, ha, hn, hd, c F2 _ H2 _ (s1.trans s2) r2 (.bl _) q⟩
where
  DpAll_up {X : Ow} {F H : Hp} {σ : L2.St} {v : V} {d : PyData} (r : Rp C F H σ G (O ++ X)) (p : L2.Dp C.K F v d) : L2.Dp C.K H v d := Dp.mono r.q.sub _ _ p
instance s_ltG {K' : PySem.W.Frag} [e : Lkk K' C.K] : Stp (Dx C G O (tOp (rLtG K') ta tb) k) (Dx C G O ta fun a => Dx C G O tb fun b => ltK (fun c => k (.bool c)) a b) := ⟨dx_ltG⟩
theorem paired_erase {α β : Type} {R : α → β → Prop} : ∀ {xs : List α} {ys : List β} (p : Nat), Paired R xs ys → Paired R (xs.eraseIdx p) (ys.eraseIdx p)
  | _, _, _, .nil => .nil
  | _, _, 0, .cons _ t => t
  | _, _, p + 1, .cons a t => .cons a (paired_erase p t)
/-- xs.append(ys.pop(i)) -/
theorem ds_appPop {K' : PySem.W.Frag} {E : En} {i j n m : Nat} {D D' : Addr} {ss rs : List Sv} [e : Lkk K' C.K] (hi : G[i]? = some (.ptr D)) (hj : G[j]? = some (.ptr D')) (hO : O[n]? = some (D, .lst ss)) (hO' : O[m]? = some (D', .lst rs)) (ne : n ≠ m) (hz : ss.length < sizeLine)
    (h : Dx C G O t (isI fun a => -(2 ^ 63) ≤ a ∧ a < 2 ^ 63 ∧ ∃ (p : Nat) (s : Sv), ixN rs.length a = some p ∧ rs[p]? = some s ∧ E.nx G ((O.set m (D', .lst (rs.eraseIdx p))).set n (D, .lst (ss ++ [s]))))) :
    Ds C G O (tDrop (tBM K' "list" rAppend (tVar i) (tCons (tBM K' "list" rPopAt (tVar j) (tCons t tNil)) tNil))) E := fun X F H σ De r n1 _ _ _ => by
  rw [e.h]
  obtain ⟨v, a, b⟩ := r.get hi (fun z => by cases z)
  cases b
  obtain ⟨v', a', b'⟩ := r.get hj (fun z => by cases z)
  cases b'
  obtain ⟨w, ew, xs, rfl, px⟩ := r.obj (app_get (X := X) hO)
  obtain ⟨w', ew', ys, rfl, py⟩ := r.obj (app_get (X := X) hO')
  refine ⟨_, a, .inl ⟨rfl, xs, SqL.of ew⟩, _, a', .inl ⟨rfl, ys, SqL.of ew'⟩, h X F H σ _ r fun F1 v H1 d s1 r1 p1 ⟨x, ed, b1, b2, p, s, e1, e2, q⟩ => ?_⟩
  subst ed
  cases p1
  obtain ⟨w, ew, xs, rfl, px⟩ := r1.obj (app_get (X := X) hO)
  obtain ⟨w', ew', ys, rfl, py⟩ := r1.obj (app_get (X := X) hO')
  obtain ⟨y, hy, sy⟩ := paired_get' py e2
  obtain ⟨q1, q2, _, _⟩ := ixN_seq e1
  refine ⟨D', ys, x, p, y, rfl, rfl, ew', b1, b2, by rw [Paired.length py]; exact q1, hy, ?_⟩
  have er : Paired (SvOk C.K F1) (ys.eraseIdx p) (rs.eraseIdx p) := paired_erase p py
  have r2 := r1.wr (app_get (X := X) hO') (ob' := .lst (rs.eraseIdx p)) (u := .lst (ys.eraseIdx p)) ⟨_, rfl, er⟩
  rw [app_set hO'] at r2
  have hO2 : (O.set m (D', .lst (rs.eraseIdx p)))[n]? = some (D, .lst ss) := by rw [List.getElem?_set_ne (fun z => ne z.symm)]; exact hO
  obtain ⟨w, ew, xs', e3, px'⟩ := r2.obj (app_get (X := X) hO2)
  subst e3
  refine ⟨D, xs', y, rfl, rfl, ew, by rw [Paired.length px']; exact hz, ?_⟩
  have r3 := r2.wr (app_get (X := X) hO2) (ob' := .lst (ss ++ [s])) (u := .lst (xs' ++ [y])) ⟨_, rfl, Paired.snoc px' sy⟩
  rw [app_set hO2] at r3
  exact n1 F1 σ _ G _ s1.sf r3 q
end
end Dl
set_option Elab.async false
set_option autoImplicit false
set_option linter.all false
set_option maxRecDepth 100000
set_option maxHeartbeats 4000000
/-! Dl19: data with numbers of up to eighteen digits can be shown -/
namespace Ln
open PySem PySem.Spec PyProof.Rows L2
structure Sl (d : PyData) (k m : Nat) : Prop where
  sh : d.showable = true
  dp : d.depth ≤ k
  lv : d.leavesShort 19 = true
  wt : d.weight ≤ m
  cl : d.canLay0 = true
theorem Sl.shw {d : PyData} {k m : Nat} (h : Sl d k m) (hk : k ≤ 60) (hm : m ≤ 100000) : Shw d := by
  refine ⟨h.sh, Nat.le_trans h.dp hk, ?_⟩
  have h1 := PyData.shown_le 19 (by decide) d h.lv
  have h2 : (19 + 2) * d.weight ≤ 21 * 100000 := Nat.mul_le_mul (by omega) (Nat.le_trans h.wt hm)
  rw [sizeLine_eq]
  omega
theorem Sl.mono {d : PyData} {k m k' m' : Nat} (h : Sl d k m) (hk : k ≤ k') (hm : m ≤ m') : Sl d k' m' := ⟨h.sh, Nat.le_trans h.dp hk, h.lv, Nat.le_trans h.wt hm, h.cl⟩
theorem log2_18d {n : Nat} (h : n < 10 ^ 18) : n.log2 < 60 := by
  by_cases h0 : n = 0
  · subst h0
    decide
  · exact (Nat.log2_lt h0).mpr (Nat.lt_of_lt_of_le h (by decide))
theorem Sl.int {i : Int} (h : i.natAbs < 10 ^ 18) : Sl (.int i) 0 100 := by
  have hl := log2_18d h
  refine ⟨?_, ?_, ?_, ?_, rfl⟩
  · simp only [PyData.showable, decide_eq_true_eq]; omega
  · simp only [PyData.depth]; exact Nat.le_refl _
  · simp only [PyData.leavesShort, decide_eq_true_eq]
    have := int_text_length_le10 (k := 18) (by decide) h
    show (Str.ofString (toString i)).length ≤ 19
    rw [PySem.ofString_length]; exact this
  · simp only [PyData.weight]; split <;> omega
theorem Sl.none : Sl .none 0 100 := ⟨by simp only [PyData.showable], by simp only [PyData.depth]; exact Nat.le_refl _, by simp only [PyData.leavesShort], by simp only [PyData.weight]; decide, rfl⟩
theorem Sl.bool (b : Bool) : Sl (.bool b) 0 100 := ⟨by simp only [PyData.showable], by simp only [PyData.depth]; exact Nat.le_refl _, by simp only [PyData.leavesShort], by simp only [PyData.weight]; decide, rfl⟩
theorem Sl.str {x : PySem.Str} (h : x.length ≤ 100) (ha : (x.cps.toList.all fun c => decide (c < 16 ^ 8)) = true) (hk : PyData.canLay0 (.str x) = true) : Sl (.str x) 0 100 :=
  ⟨by simp only [PyData.showable], by simp only [PyData.depth]; exact Nat.zero_le _, by simp only [PyData.leavesShort]; exact ha, by simp only [PyData.weight]; exact h, hk⟩
theorem Sl.all {k m : Nat} : ∀ {ds : List PyData}, (∀ d ∈ ds, Sl d k m) → PyData.showableAll ds = true ∧ PyData.depthAll ds ≤ k ∧ PyData.leavesShortAll 19 ds = true ∧ PyData.weightAll ds ≤ (m + 1) * ds.length ∧ PyData.canLayAll0 ds = true
  | [], _ => ⟨by simp only [PyData.showableAll], by simp only [PyData.depthAll]; exact Nat.zero_le _, by simp only [PyData.leavesShortAll], by simp only [PyData.weightAll]; exact Nat.zero_le _, rfl⟩
  | d :: ds, h => by
    obtain ⟨a1, a2, a3, a4, a5⟩ := h d List.mem_cons_self
    obtain ⟨b1, b2, b3, b4, b5⟩ := Sl.all (ds := ds) fun x hx => h x (List.mem_cons_of_mem _ hx)
    refine ⟨?_, ?_, ?_, ?_, by simp only [PyData.canLayAll0, a5, b5, Bool.and_self]⟩
    · simp only [PyData.showableAll, a1, b1, Bool.and_self]
    · simp only [PyData.depthAll]
      exact Nat.max_le.mpr ⟨a2, b2⟩
    · simp only [PyData.leavesShortAll, a3, b3, Bool.and_self]
    · simp only [PyData.weightAll, List.length_cons]
      rw [Nat.mul_succ]
      omega
theorem Sl.tup {k m n : Nat} {ds : List PyData} (h : ∀ d ∈ ds, Sl d k m) (hn : ds.length ≤ n) : Sl (.tuple ds) (k + 1) ((m + 1) * n) := by
  obtain ⟨b1, b2, b3, b4, b5⟩ := Sl.all h
  exact ⟨by simp only [PyData.showable]; exact b1, by simp only [PyData.depth]; omega, by simp only [PyData.leavesShort]; exact b3, by simp only [PyData.weight]; exact Nat.le_trans b4 (Nat.mul_le_mul_left _ hn), by simp only [PyData.canLay0]; exact b5⟩
end Ln
namespace Dl
open PySem PySem.Spec PyProof.Rows L2 Ln PySem.W
/-- a if c else b, where both give d -/
theorem if_dx {C : Cy} {G : List Sv} {O : Ow} {c : Bool} {ta tb : TE} {k : PyData → Prop} (d : PyData) (h1 : c = true → Dx C G O ta fun x => x = d) (h2 : c = false → Dx C G O tb fun x => x = d) (h3 : k d) : if c = true then Dx C G O ta k else Dx C G O tb k :=
  ifB (fun h => (h1 h).mono fun x e => by rw [e]; exact h3) (fun h => (h2 h).mono fun x e => by rw [e]; exact h3)
end Dl
namespace Dl
open PySem PySem.Spec PyProof.Rows L2 Ln PySem.W
/-- some of one's own things, in any order -/
theorem ds_pick {C : Cy} {G : List Sv} {O O0 : Ow} {t : TS} {E : En} (hs : ∃ O1, O0.Perm O1 ∧ O1.Sublist O) (h : Ds C G O0 t E) : Ds C G O t E := fun X F H σ D r n1 n2 n3 n4 => by
  obtain ⟨O1, p, s⟩ := hs
  exact h X F H σ D ((r.less (s.append (List.Sublist.refl X))).perm (p.append_right X)) n1 n2 n3 n4
end Dl
set_option Elab.async false
set_option autoImplicit false
set_option linter.all false
set_option maxRecDepth 100000
set_option maxHeartbeats 4000000
/-! Dl20: a list of one's own, lent to what gives a new list -/
namespace Dl
open PySem PySem.Spec PyProof.Rows L2 Ln PySem.W
section
variable {C : Cy} {G : List Sv} {O : Ow} {t : TE}
theorem Rp.lendL {F H : Hp} {σ : L2.St} {X : Ow} {i n : Nat} {D : Addr} {ds : List PyData} (hG : G[i]? = some (.ptr D)) (hO : O[n]? = some (D, .lst (ds.map Sv.dat))) (h0 : C.H0 D = none) (r : Rp C F H σ G (O ++ X)) :
    ∃ F2, Rp C F2 H σ (G.set i (.dat (.list ds))) (O.eraseIdx n ++ X) ∧ ∀ F' H', Gw (O.eraseIdx n ++ X) F2 H F' H' → Rp C F' H' σ (G.set i (.dat (.list ds))) (O.eraseIdx n ++ X) →
      ∃ F3, Gw (O ++ X) F H F3 H' ∧ Rp C F3 H' σ G (O ++ X) ∧ (∀ b xs, Rd F' b (.tup xs) → Rd F3 b (.tup xs)) ∧ (∀ b, F' b = none → F3 b = none ∧ b ≠ D) ∧ (∀ {D' : Addr} {ob : Ob}, (D', ob) ∈ O ++ X → D' ≠ D → (D', ob) ∈ O.eraseIdx n ++ X) := by
  obtain ⟨F2, u, s2, e, ⟨xs, rfl, p⟩, r2⟩ := r.frz h0 (app_get (X := X) hO)
  have eO : (O ++ X).eraseIdx n = O.eraseIdx n ++ X := List.eraseIdx_append_of_lt_length (List.getElem?_eq_some_iff.mp hO).1 _
  have hOX := app_get (X := X) hO
  rw [eO] at r2
  obtain ⟨v, a, b⟩ := r2.get hG (fun z => by cases z)
  cases b
  have r3 := r2.set (i := i) (v := .ref D) (s := .dat (.list ds)) (.lst (SqL.of e) (Paired.det p rfl))
  have eσ : σ.set i (some (V.ref D)) = σ := by
    refine List.ext_getElem? fun j => ?_
    by_cases z : i = j
    · subst z
      rw [List.getElem?_set_self (List.getElem?_eq_some_iff.mp a).1, a]
    · rw [List.getElem?_set_ne z]
  rw [eσ] at r3
  refine ⟨F2, r3, fun F' H' g r' => ?_⟩
  obtain ⟨_, nF, _, _⟩ := r.ow D _ (List.mem_of_getElem? hOX)
  have fD : F' D = some (.lst xs) := g.sf D _ e
  have hD' : H' D = some (.lst xs) := r'.q.sub D _ fD
  have hD : H D = some (.lst xs) := r3.q.sub D _ e
  have mem : ∀ {D' : Addr} {ob : Ob}, (D', ob) ∈ O ++ X → D' ≠ D → (D', ob) ∈ O.eraseIdx n ++ X := fun {D' ob} m ne => by
    rw [← eO]
    exact mem_erase hOX m ne
  have sF : Same F (fun b => if b = D then none else F' b) := fun b o e' => by
    have z : b ≠ D := fun z => by rw [z, nF] at e'; cases e'
    show (if b = D then none else F' b) = some o
    rw [if_neg z]
    exact g.sf b o (s2 b o e')
  have tp : ∀ b xs, Rd F' b (.tup xs) → Rd (fun b => if b = D then none else F' b) b (.tup xs) := fun b ys k => by
    have z : b ≠ D := by
      rintro rfl
      rcases k with k | ⟨o, k⟩
      · rw [fD] at k; cases k
      · rw [fD] at k; cases k
    rcases k with k | ⟨o, k⟩
    · exact .inl (by show (if b = D then none else F' b) = _; rw [if_neg z]; exact k)
    · exact .inr ⟨o, by show (if b = D then none else F' b) = _; rw [if_neg z]; exact k⟩
  have gw : Gw (O ++ X) F H (fun b => if b = D then none else F' b) H' := ⟨sF, fun D' ob m => by
    by_cases z : D' = D
    · rw [z, hD', hD]
    · exact g.ow D' ob (mem m z)⟩
  refine ⟨fun b => if b = D then none else F' b, gw, ⟨⟨?_, r.q.old.trans sF, r'.q.but, r'.q.thr, ?_, fun b xs k => tp b xs (r'.q.tup b xs k), r'.q.dw, ?_, ?_⟩, r.len, ?_, ?_, r.nd⟩, tp, ?_, mem⟩
  · intro b o e'
    have e' : (if b = D then none else F' b) = some o := e'
    by_cases z : b = D
    · rw [if_pos z] at e'; cases e'
    · rw [if_neg z] at e'; exact r'.q.sub b o e'
  · intro b e1 e2
    show (if b = D then none else F' b) = none
    by_cases z : b = D
    · rw [if_pos z]
    · rw [if_neg z]; exact r'.q.non b e1 e2
  · intro b hb
    show (if b = D then none else F' b) = none
    by_cases z : b = D
    · rw [if_pos z]
    · rw [if_neg z]; exact r'.q.na b hb
  · intro b o w kd e'
    have e' : (if b = D then none else F' b) = some (.frz o w) := e'
    by_cases z : b = D
    · rw [if_pos z] at e'; cases e'
    · rw [if_neg z] at e'; exact r'.q.lk b o w kd e'
  · intro j s ej
    obtain ⟨ov, a1, b1⟩ := r.sl j s ej
    exact ⟨ov, a1, b1.mono sF⟩
  · intro D' ob m
    obtain ⟨a1, b1, c1, u1, e1, k1⟩ := r.ow D' ob m
    refine ⟨a1, ?_, c1, u1, by rw [gw.ow D' ob m]; exact e1, k1.mono sF⟩
    show (if D' = D then none else F' D') = none
    by_cases z : D' = D
    · rw [if_pos z]
    · rw [if_neg z]
      exact (r'.ow D' ob (mem m z)).2.1
  · intro b e'
    have z : b ≠ D := fun z => by rw [z, fD] at e'; cases e'
    exact ⟨by show (if b = D then none else F' b) = none; rw [if_neg z]; exact e', z⟩
theorem dl_bor {i n : Nat} {D : Addr} {ds : List PyData} {k : List Sv → Prop} (hG : G[i]? = some (.ptr D)) (hO : O[n]? = some (D, .lst (ds.map Sv.dat))) (h0 : C.H0 D = none) (h : Dl C (G.set i (.dat (.list ds))) (O.eraseIdx n) t fun ss => ∃ es : List PyData, ss = es.map Sv.dat ∧ noLds es = true ∧ k ss) : Dl C G O t k := fun X F H σ Q r c => by
  obtain ⟨F2, r2, back⟩ := r.lendL hG hO h0
  refine h X F2 H σ _ r2 fun F' D' H' ss g hD' r' ⟨es, ess, nl, q⟩ => ?_
  obtain ⟨F3, g3, r3, tp, no, mem⟩ := back F' H' g (r'.less (List.sublist_cons_self _ _))
  obtain ⟨a1, b1, c1, u, e1, k1⟩ := r'.ow D' _ List.mem_cons_self
  obtain ⟨b3, ne⟩ := no D' b1
  refine c F3 D' H' ss g3 hD' ⟨r3.q, r3.len, r3.sl, ?_, ?_⟩ q
  · intro D2 ob m
    rcases List.mem_cons.mp m with m | m
    · cases m
      refine ⟨a1, b3, c1, u, e1, ?_⟩
      subst ess
      obtain ⟨xs, rfl, p⟩ := k1
      exact ⟨xs, rfl, Paired.ofAll (DpAll.tups tp es xs nl (Paired.det p rfl))⟩
    · exact r3.ow D2 ob m
  · refine List.nodup_cons.mpr ⟨fun m => ?_, r3.nd⟩
    obtain ⟨⟨D2, ob⟩, m1, rfl⟩ := List.mem_map.mp m
    exact (List.nodup_cons.mp r'.nd).1 (List.mem_map.mpr ⟨_, mem m1 ne, rfl⟩)
end
end Dl
set_option Elab.async false
namespace Mine
open PySem
def topS (i : Nat) : Stmt := PySem.Challenge.pw_interline_k81_whole_balanced_planes.main.body.getD i (.Pass ⟨0, 0, 0, 0⟩)
/-- a promise that is not looked into where two are compared -/
structure Hide (sp : L2.Sp) (vs : List L2.V) (H : L2.Hp) (Q : L2.VK) (E : L2.XK) : Prop where
  h : sp vs H Q E
def hid (sp : L2.Sp) : L2.Sp := fun vs H Q E => Hide sp vs H Q E
end Mine
set_option Elab.async false
set_option linter.all false
set_option maxRecDepth 100000
set_option maxHeartbeats 4000000
namespace Mine
open PySem PySem.Spec PyProof.Rows L2 Ln
abbrev s_law_draws : Stmt := topS 33
abbrev N_law_draws : List Str := ["script", "draws", "cell", "rest", "k", "mixed"]
theorem sc_law_draws : FnScope N_law_draws ["script"] (defScope s_law_draws) := ⟨rfl, rfl, rfl, by decide +kernel, rfl, by decide +kernel, by decide +kernel⟩
-- slots: 0 script, 1 draws, 2 cell, 3 rest, 4 k, 5 mixed
abbrev s_law_more : Stmt := topS 34
abbrev N_law_more : List Str := ["draws", "place", "mixed", "k"]
theorem sc_law_more : FnScope N_law_more ["draws", "place"] (defScope s_law_more) := ⟨rfl, rfl, rfl, by decide +kernel, rfl, by decide +kernel, by decide +kernel⟩
-- slots: 0 draws, 1 place, 2 mixed, 3 k
abbrev s_law_take : Stmt := topS 35
abbrev N_law_take : List Str := ["draws", "at", "many", "place"]
theorem sc_law_take : FnScope N_law_take ["draws", "at", "many"] (defScope s_law_take) := ⟨rfl, rfl, rfl, by decide +kernel, rfl, by decide +kernel, by decide +kernel⟩
-- slots: 0 draws, 1 at, 2 many, 3 place
abbrev s_law_one : Stmt := topS 36
abbrev N_law_one : List Str := ["rows", "draws", "at"]
theorem sc_law_one : FnScope N_law_one ["rows", "draws", "at"] (defScope s_law_one) := ⟨rfl, rfl, rfl, by decide +kernel, rfl, by decide +kernel, by decide +kernel⟩
-- slots: 0 rows, 1 draws, 2 at
structure LawTxt (mg : Str → Option Value) : Prop where
  z_len : mg "len" = none
  z_abs : mg "abs" = none
  z_int : mg "int" = none
  z_str : mg "str" = none
  z_tuple : mg "tuple" = none
  z_range : mg "range" = none
  z_min : mg "min" = none
  z_max : mg "max" = none
  z_sorted : mg "sorted" = none
section
variable {P : Program} {w : World} {K : PySem.W.Frag} {mg : Str → Option Value} {base : Heap}
/-! ## the draws -/
def Good (ds : List Int) : Prop := ds.length ≤ 3780 ∧ ∀ d ∈ ds, 0 ≤ d ∧ d < 4294967296
def spDraws (K : PySem.W.Frag) : Sp := fun vs H Q _ => ∃ (a : Addr) (ns : List Int), vs = [.ref a] ∧ SqL K H a (ns.map V.int) ∧ ns.length ≤ 63 ∧
  ∀ H' p ds, Same H H' → H p = none → H' p = some (.lst (ds.map V.int)) → Good ds → Q (.ref p) H'
theorem cut63 (ns : List Int) : ∃ ms : List Int, cutV (ns.map V.int) none (some 63) = ms.map V.int ∧ ms.length ≤ 63 := by
  refine ⟨(ns.drop 0).take (HT.sIx ns.length ns.length (some 63) - 0), ?_, ?_⟩
  · unfold cutV
    rw [List.length_map, List.map_take, List.map_drop]
    rfl
  · rw [List.length_take]
    have e : HT.sIx ns.length ns.length (some ((63 : Nat) : Int)) = min 63 ns.length := HT.sIx_nat ns.length ns.length 63
    have e' : HT.sIx ns.length ns.length (some 63) = min 63 ns.length := e
    rw [e']
    omega
theorem good_app {ds : List Int} {d : Int} (h : ∀ x ∈ ds, 0 ≤ x ∧ x < 4294967296) (h1 : 0 ≤ d) (h2 : d < 4294967296) : ∀ x ∈ ds ++ [d], 0 ≤ x ∧ x < 4294967296 := by
  intro x hx
  rcases List.mem_append.mp hx with hx | hx
  · exact h x hx
  · have e : x = d := by simpa using hx
    subst e
    exact ⟨h1, h2⟩
theorem ok_draws {f : Addr} {fd : FuncData} (F : Fun K "_law_draws" "_law_draws" s_law_draws f fd) (T : LawTxt mg) : FnG P w K mg base CX0 1 f fd ["script"] (spDraws K) := by
  refine okG F sc_law_draws (fun vs H Q E h => ?_) (fun cdv A outer s H vs Q E hG hr h => ?_)
  · obtain ⟨a, ns, rfl, _⟩ := h
    rfl
  · obtain ⟨a, ns, rfl, hS, hlen, q⟩ := h
    refine ⟨_, (pss_cons (ps_set (i := 1) sc_law_draws.nd rfl (.inl rfl) (pe_lst pa_nil))
    (pss_cons (ps_for PassesOwn.never rfl (pi_list (pe_slice (r := rSlL K) sl_list (pv 0) po_none (po_some pe_int))) (pg_name (i := 2) sc_law_draws.nd rfl (.inl rfl))
    (pss_cons (ps_set (i := 3) sc_law_draws.nd rfl (.inl rfl) (pe_callB (id := "abs") call_abs (by rfl) T.z_abs (by decide +kernel) (pa_cons (pv 2) pa_nil)))
    (pss_one (ps_if (pt_cmpR op_ge (pv 3) (pe_op op_pow pe_int pe_int) (nomark _))
    (pss_one (ps_for PassesOwn.never rfl (pi_range1 (by rfl) T.z_range (pa_cons pe_int pa_nil)) (pg_name (i := 4) sc_law_draws.nd rfl (.inl rfl))
    (pss_one (ps_if (pt_cmpR op_gt (pv 3) pe_int (nomark _))
    (pss_cons (ps_expr (pe_bm PySem.F.plainAttrs_list PySem.F.slot_list_append PySem.F.type_list_append mt_append (pv 1) (pa_cons (pe_op op_mod (pe_callTy (T := "int") call_int1 (by rfl) T.z_int (by decide +kernel) (pa_cons (pv 3) pa_nil)) pe_int) pa_nil)))
    (pss_one (ps_set (i := 3) sc_law_draws.nd rfl (.inl rfl) (pe_op op_fdiv (pv 3) pe_int))))
    pss_nil))))
    (pss_cons (ps_set (i := 5) sc_law_draws.nd rfl (.inl rfl) (pe_op op_mod (pe_callTy (T := "int") call_int1 (by rfl) T.z_int (by decide +kernel) (pa_cons (pe_op op_add (pe_op op_mul (pv 3) pe_int) pe_int) pa_nil)) pe_int))
    (pss_one (ps_for PassesOwn.never rfl (pi_range1 (by rfl) T.z_range (pa_cons pe_int pa_nil)) (pg_name (i := 4) sc_law_draws.nd rfl (.inl rfl))
    (pss_cons (ps_set (i := 5) sc_law_draws.nd rfl (.inl rfl) (pe_op op_mod (pe_callTy (T := "int") call_int1 (by rfl) T.z_int (by decide +kernel) (pa_cons (pe_op op_add (pe_op op_add (pe_op op_mul (pv 5) pe_int) (pe_op op_mul pe_int (pv 4))) pe_int) pa_nil)) pe_int))
    (pss_one (ps_expr (pe_bm PySem.F.plainAttrs_list PySem.F.slot_list_append PySem.F.type_list_append mt_append (pv 1) (pa_cons (pe_op op_fdiv (pv 5) pe_int) pa_nil))))))))))))
    (pss_one (ps_ret (pv 1))))), ?_⟩
    refine ⟨Nat.zero_le _, fun D nD => ?_⟩
    have s1 : Same H (upd H D (.lst [])) := Ln.same_upd nD
    refine ⟨_, rfl, 63, rfl, a, ns.map V.int, rfl, s1.seq hS, fun c nc => ?_⟩
    obtain ⟨ms, ems, hms⟩ := cut63 ns
    rw [ems]
    have ncD : c ≠ D := fun e => by rw [e, upd_same] at nc; cases nc
    refine ⟨c, rfl, ⟨_, SqL.of upd_same⟩, for_list (K := K) (a := c) (xs := ms.map V.int) (fun i σ H' => ∃ (v2 v3 v4 v5 : Option V) (ds : List Int), σ = [some (.ref a), some (.ref D), v2, v3, v4, v5] ∧ Same H H' ∧ H' c = some (.lst (ms.map V.int)) ∧
        H' D = some (.lst (ds.map V.int)) ∧ ds.length ≤ 60 * i ∧ ∀ d ∈ ds, 0 ≤ d ∧ d < 4294967296) ?_ ?_ ?_ ?_⟩
    · refine ⟨none, none, none, none, [], rfl, s1.trans (Ln.same_upd nc), upd_same, ?_, Nat.zero_le _, by simp⟩
      rw [upd_ne ncD.symm]
      exact upd_same
    · rintro i σ H' hi ⟨_, _, _, _, _, _, _, hc, _⟩
      exact SqL.of hc
    · rintro i x σ H1 hx ⟨v2, v3, v4, v5, ds, rfl, sm, hc, hD, hl, hb⟩
      obtain ⟨z, hz, rfl⟩ := getI hx
      have hi : i < ms.length := (List.getElem?_eq_some_iff.mp hz).1
      -- rest = abs(cell)
      refine ⟨_, rfl, z, rfl, ?_⟩
      -- if rest >= 10 ** 18
      refine ⟨_, rfl, 10, 18, rfl, rfl, ⟨by decide, by decide, by decide⟩, _, _, rfl, rfl, _, rfl, ?_⟩
      have hnn : (0 : Int) ≤ (if z < 0 then -z else z) := by split <;> omega
      generalize (if z < 0 then -z else z) = r0 at hnn ⊢
      refine ite2 (fun _ => ?_) (fun _ => ?_)
      · -- the great ones
        refine ⟨60, rfl, by decide, by decide, for_range (lo := 0) (n := 60) (fun k σ H' => ∃ (r : Int) (v4 : Option V) (ds : List Int), σ = [some (.ref a), some (.ref D), some (.int z), some (.int r), v4, v5] ∧ 0 ≤ r ∧ Same H H' ∧ H' c = some (.lst (ms.map V.int)) ∧
          H' D = some (.lst (ds.map V.int)) ∧ ds.length ≤ 60 * i + k ∧ ∀ d ∈ ds, 0 ≤ d ∧ d < 4294967296) ?_ ?_ ?_⟩
        · exact ⟨r0, v4, ds, rfl, hnn, sm, hc, hD, by omega, hb⟩
        · rintro k σ H' hk ⟨r, u4, ds, rfl, hr0, sm, hc, hD, hl, hb⟩
          refine ⟨_, rfl, _, _, rfl, rfl, _, rfl, ite2 (fun _ => ?_) (fun _ => ?_)⟩
          · refine ⟨.ref D, rfl, .inl ⟨rfl, _, SqL.of hD⟩, _, rfl, .inl ⟨r, rfl, _, _, rfl, rfl, by show (0 : Int) < 1009; decide, D, _, _, rfl, rfl, hD, ?_, ?_⟩⟩
            · rw [List.length_map]; exact small1 (by omega)
            · rw [app1]
              refine ⟨_, rfl, _, _, rfl, rfl, ⟨by decide, by decide⟩, r / 1009, _, ds ++ [r % 1009], rfl, by omega, same_at sm nD, ?_, upd_same, by rw [List.length_append, List.length_singleton]; omega, good_app hb (by omega) (by omega)⟩
              rw [upd_ne ncD]
              exact hc
          · exact ⟨r, _, ds, rfl, hr0, sm, hc, hD, by omega, hb⟩
        · rintro σ H' ⟨r, u4, ds, rfl, hr0, sm, hc, hD, hl, hb⟩
          exact ⟨_, _, _, _, ds, rfl, sm, hc, hD, by omega, hb⟩
      · -- the small ones
        refine ⟨_, rfl, _, _, rfl, rfl, .inr ⟨by decide, by decide⟩, _, _, rfl, rfl, .inl ⟨_, rfl, _, _, rfl, rfl, by show (0 : Int) < 2147483647; decide, ?_⟩⟩
        refine ⟨12, rfl, by decide, by decide, for_range (lo := 0) (n := 12) (fun k σ H' => ∃ (m : Int) (v4 : Option V) (ds : List Int), σ = [some (.ref a), some (.ref D), some (.int z), some (.int r0), v4, some (.int m)] ∧ Same H H' ∧ H' c = some (.lst (ms.map V.int)) ∧
          H' D = some (.lst (ds.map V.int)) ∧ ds.length ≤ 60 * i + k ∧ ∀ d ∈ ds, 0 ≤ d ∧ d < 4294967296) ?_ ?_ ?_⟩
        · exact ⟨_, v4, ds, rfl, sm, hc, hD, by omega, hb⟩
        · rintro k σ H' hk ⟨m, u4, ds, rfl, sm, hc, hD, hl, hb⟩
          refine ⟨_, rfl, _, _, rfl, rfl, .inr ⟨by decide, by decide⟩, _, rfl, _, _, rfl, rfl, .inl ⟨by decide, by decide⟩, _, _, rfl, rfl, _, _, rfl, rfl, .inl ⟨_, rfl, _, _, rfl, rfl, by show (0 : Int) < 2147483629; decide, ?_⟩⟩
          have b0 := Int.emod_nonneg (m * 16807 + 69621 * (0 + (k : Int)) + 5) (show (2147483629 : Int) ≠ 0 by decide)
          have b1 := Int.emod_lt_of_pos (m * 16807 + 69621 * (0 + (k : Int)) + 5) (show (0 : Int) < 2147483629 by decide)
          refine ⟨.ref D, rfl, .inl ⟨rfl, _, SqL.of hD⟩, _, rfl, _, _, rfl, rfl, ⟨by decide, by decide⟩, D, _, _, rfl, rfl, hD, ?_, ?_⟩
          · rw [List.length_map]; exact small1 (by omega)
          · rw [app1]
            refine ⟨_, _, ds ++ [(m * 16807 + 69621 * (0 + (k : Int)) + 5) % 2147483629 / 1009], rfl, same_at sm nD, ?_, upd_same, by rw [List.length_append, List.length_singleton]; omega, good_app hb (by omega) (by omega)⟩
            rw [upd_ne ncD]
            exact hc
        · rintro σ H' ⟨r, u4, ds, rfl, sm, hc, hD, hl, hb⟩
          exact ⟨_, _, _, _, ds, rfl, sm, hc, hD, by omega, hb⟩
    · rintro σ H' ⟨v2, v3, v4, v5, ds, rfl, sm, hc, hD, hl, hb⟩
      rw [List.length_map] at hl
      exact ⟨_, rfl, q H' D ds sm nD hD ⟨by omega, hb⟩⟩
/-- where the draws stand -/
def Drw (dr at_ : Addr) (H : Hp) : Prop := ∃ (ds : List Int) (p : Int), H dr = some (.lst (ds.map V.int)) ∧ H at_ = some (.lst [.int p]) ∧ dr ≠ at_ ∧ Good ds ∧ 0 ≤ p
def spMore (K : PySem.W.Frag) : Sp := fun vs H Q _ => ∃ (dr : Addr) (ds : List Int) (p : Int), vs = [.ref dr, .int p] ∧ H dr = some (.lst (ds.map V.int)) ∧ Good ds ∧ ∀ v, Q (.int v) H
theorem ok_more {f : Addr} {fd : FuncData} (F : Fun K "_law_more" "_law_more" s_law_more f fd) (T : LawTxt mg) : FnG P w K mg base CX0 1 f fd ["draws", "place"] (spMore K) := by
  refine okG F sc_law_more (fun vs H Q E h => ?_) (fun cdv A outer s H vs Q E hG hr h => ?_)
  · obtain ⟨a, ds, p, rfl, _⟩ := h
    rfl
  · obtain ⟨a, ds, p, rfl, hd, ⟨hl, hb⟩, q⟩ := h
    refine ⟨_, (pss_cons (ps_set (i := 2) sc_law_more.nd rfl (.inl rfl) (pe_op op_mod (pe_callTy (T := "int") call_int1 (by rfl) T.z_int (by decide +kernel) (pa_cons (pe_op op_add (pe_op op_add (pe_op op_mul (pv 1) pe_int) (pe_callB (r := Ln.rLen K) (id := "len") c_len (by rfl) T.z_len (by decide +kernel) (pa_cons (pv 0) pa_nil))) pe_int) pa_nil)) pe_int))
    (pss_cons (ps_for PassesOwn.never rfl (pi_range1 (by rfl) T.z_range (pa_cons pe_int pa_nil)) (pg_name (i := 3) sc_law_more.nd rfl (.inl rfl))
    (pss_cons (ps_if (pt_truthK (pv 0) (by intro _; rfl))
    (pss_one (ps_set (i := 2) sc_law_more.nd rfl (.inl rfl) (pe_op op_add (pv 2) (pe_ix (r := rIxL K) ix_list (pv 0) (pe_op op_mod (pe_callTy (T := "int") call_int1 (by rfl) T.z_int (by decide +kernel) (pa_cons (pe_op op_add (pe_op op_mul (pv 1) (pe_op op_add (pv 3) pe_int)) (pv 3)) pa_nil)) (pe_callB (r := Ln.rLen K) (id := "len") c_len (by rfl) T.z_len (by decide +kernel) (pa_cons (pv 0) pa_nil))) (fun _ _ => rfl)))))
    pss_nil)
    (pss_one (ps_set (i := 2) sc_law_more.nd rfl (.inl rfl) (pe_op op_mod (pe_callTy (T := "int") call_int1 (by rfl) T.z_int (by decide +kernel) (pa_cons (pe_op op_add (pe_op op_add (pe_op op_mul (pv 2) pe_int) (pe_op op_mul pe_int (pv 3))) pe_int) pa_nil)) pe_int)))))
    (pss_one (ps_ret (pe_op op_fdiv (pv 2) pe_int))))), ?_⟩
    have hS : SqL K H a (ds.map V.int) := SqL.of hd
    refine ⟨_, rfl, _, _, rfl, rfl, .inr ⟨by decide, by decide⟩, .ref a, rfl, .ref a, ds.length, rfl, .inl ⟨_, hS, by rw [List.length_map]⟩, _, _, rfl, rfl, _, _, rfl, rfl, .inl ⟨_, rfl, _, _, rfl, rfl, by show (0 : Int) < 2147483629; decide, ?_⟩⟩
    refine ⟨3, rfl, by decide, by decide, for_range (lo := 0) (n := 3) (fun k σ H' => ∃ (m : Int) (v3 : Option V), σ = [some (.ref a), some (.int p), some (.int m), v3] ∧ H' = H) ?_ ?_ ?_⟩
    · exact ⟨_, none, rfl, rfl⟩
    · rintro k σ H' hk ⟨m, v3, rfl, rfl⟩
      have fin : ∀ m2 : Int, (fun σ' H'' => ∃ (m : Int) (v3 : Option V), σ' = [some (.ref a), some (.int p), some (.int m), v3] ∧ H'' = H') [some (.ref a), some (.int p), some (.int m2), some (.int (0 + (k : Int)))] H' := fun m2 => ⟨m2, _, rfl, rfl⟩
      refine ⟨.ref a, rfl, !ds.isEmpty, .inl ⟨_, hS, by rw [List.isEmpty_map]⟩, ite2 (fun hne => ?_) (fun _ => ?_)⟩
      · have hpos : 0 < ds.length := by
          cases ds with
          | nil => cases hne
          | cons x r => exact Nat.succ_pos _
        refine ⟨_, rfl, .ref a, rfl, _, rfl, _, rfl, _, _, rfl, rfl, _, _, rfl, rfl, .inr ⟨by omega, by omega⟩, _, rfl, _, _, rfl, rfl, .inl ⟨_, rfl, .ref a, rfl, .ref a, ds.length, rfl, .inl ⟨_, hS, by rw [List.length_map]⟩, _, _, rfl, rfl, by omega, ?_⟩⟩
        obtain ⟨j', hj, he⟩ := modIx (p * (0 + (k : Int) + 5) + (0 + (k : Int))) hpos
        refine ⟨a, _, _, .int ds[j'], rfl, rfl, hS, by rw [he]; exact atInt hj, _, _, rfl, rfl, ?_⟩
        refine ⟨_, rfl, _, _, rfl, rfl, .inr ⟨by decide, by decide⟩, _, rfl, _, _, rfl, rfl, .inl ⟨by decide, by decide⟩, _, _, rfl, rfl, _, _, rfl, rfl, .inl ⟨_, rfl, _, _, rfl, rfl, by show (0 : Int) < 2147483629; decide, ?_⟩⟩
        exact fin _
      · refine ⟨_, rfl, _, _, rfl, rfl, .inr ⟨by decide, by decide⟩, _, rfl, _, _, rfl, rfl, .inl ⟨by decide, by decide⟩, _, _, rfl, rfl, _, _, rfl, rfl, .inl ⟨_, rfl, _, _, rfl, rfl, by show (0 : Int) < 2147483629; decide, ?_⟩⟩
        exact fin _
    · rintro σ H' ⟨m, v3, rfl, rfl⟩
      exact ⟨_, rfl, _, _, rfl, rfl, ⟨by decide, by decide⟩, q _⟩
def spTake (K : PySem.W.Frag) : Sp := hid fun vs H Q _ => ∃ (dr at_ : Addr) (m : Int), vs = [.ref dr, .ref at_, .int m] ∧ Drw dr at_ H ∧ 0 < m ∧ ∀ v H', 0 ≤ v → v < m → But at_ H H' → Drw dr at_ H' → Q (.int v) H'
theorem ok_take {f : Addr} {fd : FuncData} (F : Fun K "_law_take" "_law_take" s_law_take f fd) (T : LawTxt mg) (c__law_more : Cg P w K mg base CX0 1 "_law_more" (spMore K)) : FnG P w K mg base CX0 2 f fd ["draws", "at", "many"] (spTake K) := by
  refine okG F sc_law_take (fun vs H Q E h => ?_) (fun cdv A outer s H vs Q E hG hr h => ?_)
  · obtain ⟨a, b, m, rfl, _⟩ := h
    rfl
  · obtain ⟨dr, at_, m, rfl, ⟨ds, p, hd, ha, ne, hgood, hp⟩, hm, q⟩ := h
    refine ⟨_, (pss_cons (ps_set (i := 3) sc_law_take.nd rfl (.inl rfl) (pe_ix (r := rIxL K) ix_list (pv 1) pe_int (fun _ _ => rfl)))
    (pss_cons (ps_asg (pe_op op_add (pv 3) pe_int) (pg_sub (pv 1) pe_int set_list))
    (pss_one (ps_ret (pe_op op_mod (pe_callTy (T := "int") call_int1 (by rfl) T.z_int (by decide +kernel) (pa_cons (pe_ifExp (pt_cmpR op_lt (pv 3) (pe_callB (r := Ln.rLen K) (id := "len") c_len (by rfl) T.z_len (by decide +kernel) (pa_cons (pv 0) pa_nil)) (nomark _)) (pe_ix (r := rIxL K) ix_list (pv 0) (pv 3) (fun _ _ => rfl)) (pe_cg c__law_more hr (by decide) hG (by rfl) (pa_cons (pv 0) (pa_cons (pv 3) pa_nil)))) pa_nil)) (pv 2)))))), ?_⟩
    refine ⟨_, rfl, at_, _, 0, .int p, rfl, rfl, SqL.of ha, atI_nat (j := 0) rfl, ?_⟩
    refine ⟨_, rfl, _, _, rfl, rfl, .ref at_, rfl, at_, _, 0, 0, rfl, rfl, ha, rfl, ?_⟩
    have hd' : (upd H at_ (.lst [.int (p + 1)])) dr = some (.lst (ds.map V.int)) := by rw [upd_ne ne]; exact hd
    have hS := SqL.of (K := K) hd'
    have fin : ∀ x : Int, Q (.int (x % m)) (upd H at_ (.lst [.int (p + 1)])) := fun x =>
      q _ _ (Int.emod_nonneg _ (by omega)) (Int.emod_lt_of_pos _ hm) (But.upd _ _ _) ⟨ds, p + 1, hd', upd_same, ne, hgood, by omega⟩
    refine ⟨_, rfl, .ref dr, rfl, .ref dr, ds.length, rfl, .inl ⟨_, hS, by rw [List.length_map]⟩, _, _, rfl, rfl, _, rfl, ite2 (fun hlt => ?_) (fun _ => ?_)⟩
    · have hlt' := of_decide_eq_true hlt
      obtain ⟨j, rfl⟩ : ∃ j : Nat, p = j := ⟨p.toNat, by omega⟩
      have hj : j < ds.length := by omega
      exact ⟨_, rfl, _, rfl, dr, _, _, .int ds[j], rfl, rfl, hS, atInt hj, .inl ⟨_, rfl, _, rfl, _, _, rfl, rfl, hm, fin _⟩⟩
    · exact ⟨_, rfl, _, rfl, dr, ds, p, rfl, hd', hgood, fun v => .inl ⟨_, rfl, _, rfl, _, _, rfl, rfl, hm, fin _⟩⟩
/-- one of a list's items -/
def spOne (K : PySem.W.Frag) : Sp := hid fun vs H Q _ => ∃ (r dr at_ : Addr) (xs : List V), vs = [.ref r, .ref dr, .ref at_] ∧ ((∀ H', But at_ H H' → SqL K H' r xs) ∨ SqT K H r xs) ∧ Drw dr at_ H ∧ 0 < xs.length ∧ ∀ x ∈ xs, ∀ H', But at_ H H' → Drw dr at_ H' → Q x H'
theorem ok_one {f : Addr} {fd : FuncData} (F : Fun K "_law_one" "_law_one" s_law_one f fd) (T : LawTxt mg) (c__law_take : Cg P w K mg base CX0 2 "_law_take" (spTake K)) : FnG P w K mg base CX0 3 f fd ["rows", "draws", "at"] (spOne K) := by
  refine okG F sc_law_one (fun vs H Q E h => ?_) (fun cdv A outer s H vs Q E hG hr h => ?_)
  · obtain ⟨a, b, m, xs, rfl, _⟩ := h
    rfl
  · obtain ⟨r, dr, at_, xs, rfl, hS, hD, hpos, q⟩ := h
    refine ⟨_, (pss_one (ps_ret (pe_ix (r := rIx K) ix_seq (pv 0) (pe_cg c__law_take hr (by decide) hG (by rfl) (pa_cons (pv 1) (pa_cons (pv 2) (pa_cons (pe_callB (r := Ln.rLen K) (id := "len") c_len (by rfl) T.z_len (by decide +kernel) (pa_cons (pv 0) pa_nil)) pa_nil)))) (fun _ _ => rfl)))), ?_⟩
    have hl : LenV K (.ref r) H xs.length := hS.elim (fun h => .inl ⟨_, h _ (But.refl _ _), rfl⟩) fun h => .inr ⟨_, h, rfl⟩
    refine ⟨.ref r, rfl, .ref dr, rfl, .ref at_, rfl, .ref r, rfl, .ref r, xs.length, rfl, hl, dr, at_, _, rfl, hD, by omega, fun v H' v0 v1 hB hD' => ?_⟩
    obtain ⟨j, rfl⟩ : ∃ j : Nat, v = j := ⟨v.toNat, by omega⟩
    have hj : j < xs.length := by omega
    have fin := q _ (List.getElem_mem hj) _ hB hD'
    have hat := atI_nat (List.getElem?_eq_getElem hj)
    rcases hS with hS | hS
    · exact .inl ⟨r, xs, _, xs[j], rfl, rfl, hS _ hB, hat, fin⟩
    · obtain ⟨ds, p, _, ha, _⟩ := hD
      exact .inr (.inl ⟨r, xs, _, xs[j], rfl, rfl, But.tup hB ha hS, hat, fin⟩)
end
end Mine
set_option Elab.async false
set_option linter.all false
set_option maxRecDepth 100000
set_option maxHeartbeats 4000000
namespace Mine
open PySem PySem.Spec PyProof.Rows L2 Ln Dl
/-! ## the draws, as surroundings -/
theorem Drw.keep {dr at_ : Addr} {H H' : Hp} (h : ∀ a ∈ [dr, at_], H' a = H a) (d : Drw dr at_ H) : Drw dr at_ H' := by
  obtain ⟨ds, p, h1, h2, h3⟩ := d
  exact ⟨ds, p, by rw [h dr (by simp)]; exact h1, by rw [h at_ (by simp)]; exact h2, h3⟩
theorem Drw.there {dr at_ : Addr} {H : Hp} (d : Drw dr at_ H) : ∀ a ∈ [dr, at_], H a ≠ none := by
  obtain ⟨ds, p, h1, h2, h3⟩ := d
  intro a ha
  rcases List.mem_cons.mp ha with e | ha
  · rw [e, h1]; exact fun z => by cases z
  · rcases List.mem_cons.mp ha with e | ha
    · rw [e, h2]; exact fun z => by cases z
    · cases ha
abbrev cyD (K : PySem.W.Frag) (dr at_ : Addr) (F H : Hp) : Cy := { K := K, B := [at_], A := [dr, at_], dw := Drw dr at_, H0 := H, F0 := F, dwS := fun _ _ => Drw.keep, dwT := fun _ => Drw.there }
/-- what stands behind a call that may draw -/
structure BhD (dr at_ : Addr) (F H F' H' : Hp) : Prop where
  sf : Same F F'
  sub : Same F' H'
  bt : But at_ H H'
  non : ∀ b, F b = none → H b ≠ none → F' b = none
  tup : ∀ b xs, Rd H' b (.tup xs) → Rd F' b (.tup xs)
  dw : Drw dr at_ H'
  lk : ∀ b o u, IsDk u → F' b = some (.frz o u) → F b = some (.frz o u)
section
variable {K : PySem.W.Frag} {dr at_ : Addr} {F0 H0 F H F' H' : Hp} {σ : L2.St} {G : List Sv} {O : Ow}
theorem Rp.calledD (r : Rp (cyD K dr at_ F0 H0) F H σ G O) (b : BhD dr at_ F H F' H') : Rp (cyD K dr at_ F0 H0) F' H' σ G O ∧ Gw O F H F' H' := by
  have ne : ∀ {D : Addr} {ob : Ob}, (D, ob) ∈ O → H' D = H D := fun {D ob} m => by
    obtain ⟨_, _, c, u, e, _⟩ := r.ow D ob m
    have z : D ≠ at_ := fun z => c (by rw [z]; simp)
    rw [e]
    exact b.bt D u z e
  refine ⟨r.step b.sf ⟨b.sub, r.q.old.trans b.sf, fun c o nb e => b.bt c o (fun z => nb (by rw [z]; simp)) (r.q.but c o nb e), ?_, fun c e1 e2 => b.non c (r.q.non c e1 e2) (r.q.thr c e2), b.tup, b.dw, ?_, fun c o u kd e => r.q.lk c o u kd (b.lk c o u kd e)⟩ ?_, ⟨b.sf, fun D ob m => ne m⟩⟩
  · intro c e
    have e := r.q.thr c e
    by_cases z : c = at_
    · rw [z]; exact b.dw.there at_ (by simp)
    · cases q : H c with
      | none => exact absurd q e
      | some o => rw [b.bt c o z q]; exact fun z => by cases z
  · intro a ha
    exact b.non a (r.q.na a ha) (r.q.dw.there a ha)
  · intro D ob m
    obtain ⟨_, c, _, u, e, _⟩ := r.ow D ob m
    exact ⟨ne m, b.non D c (by rw [e]; exact fun z => by cases z)⟩
/-- where only the number of the next draw has changed, and the heap has grown -/
theorem Rp.but (r : Rp (cyD K dr at_ F0 H0) F H σ G O) (bt : But at_ H H') (d : Drw dr at_ H') : Rp (cyD K dr at_ F0 H0) (grow F H H') H' σ G O ∧ Gw O F H (grow F H H') H' ∧ Same F (grow F H H') := by
  have nat : at_ ∈ [dr, at_] := by simp
  have hat : H at_ ≠ none := r.q.dw.there at_ nat
  have bb : BhD dr at_ F H (grow F H H') H' := by
    refine ⟨grow_same F H H', ?_, bt, fun b e n => grow_none e n, ?_, d, ?_⟩
    · intro b o e
      unfold grow at e
      cases q : F b with
      | some x =>
        rw [q] at e
        have z : b ≠ at_ := fun z => by rw [z, r.q.na at_ nat] at q; cases q
        exact bt b o z (r.q.sub b o (by rw [q]; exact e))
      | none =>
        rw [q] at e
        cases q2 : H b with
        | none => rw [q2] at e; exact unfz_some e
        | some y => rw [q2] at e; cases e
    · intro b xs k
      cases e : H b with
      | none =>
        have g := grow_new F (H' := H') (r.q.f0 e) e
        rcases k with k | ⟨o, k⟩
        · exact .inl (by rw [g]; exact unfz_tup.1 k)
        · exact .inr ⟨o, by rw [g]; exact unfz_tup.2 o k⟩
      | some u =>
        by_cases z : b = at_
        · obtain ⟨ds, p, _, h2, _⟩ := d
          rw [z] at k
          rcases k with k | ⟨o, k⟩
          · rw [h2] at k; cases k
          · rw [h2] at k; cases k
        · have e' := bt b u z e
          have k : Rd H b (.tup xs) := by
            rcases k with k | ⟨o, k⟩
            · rw [e'] at k; exact .inl (by rw [e]; exact k)
            · rw [e'] at k; exact .inr ⟨o, by rw [e]; exact k⟩
          rcases r.q.tup b xs k with k | ⟨o, k⟩
          · exact .inl (grow_old k)
          · exact .inr ⟨o, grow_old k⟩
    · intro b o u kd e
      unfold grow at e
      cases q : F b with
      | some x => rw [q] at e; exact e
      | none =>
        rw [q] at e
        cases q2 : H b with
        | none => rw [q2] at e; exact absurd e (unfz_nd kd)
        | some y => rw [q2] at e; cases e
  obtain ⟨a, g⟩ := Rp.calledD r bb
  exact ⟨a, g, bb.sf⟩
end
/-! ## contracts of defs that draw -/
abbrev WtD := Addr → Addr → Wt
structure SpD (K : PySem.W.Frag) (n : Nat) (W : WtD) (vs : List V) (H : Hp) (Q : VK) (E : XK) : Prop where
  ex : vs.length = n ∧ ∃ (dr at_ : Addr) (F : Hp) (as : List Sv) (k : Rs → Prop) (ke : Ke), Drw dr at_ H ∧ F dr = none ∧ F at_ = none ∧ Same F H ∧ (∀ b xs, Rd H b (.tup xs) → Rd F b (.tup xs)) ∧ Paired (SvOk K F) vs as ∧ W dr at_ as k ke ∧
    (∀ F' v H' s, BhD dr at_ F H F' H' → SvOk K F' v s → k (.v s) → Q v H') ∧
    (∀ F' D H' xs ss, BhD dr at_ F H F' H' → H D = none → F' D = none → H' D = some (.lst xs) → Paired (SvOk K F') xs ss → k (.l ss) → Q (.ref D) H') ∧
    (∀ F' cls dx H' fs es, BhD dr at_ F H F' H' → H dx = none → F' dx = some (.xd fs) → FsOk K F' fs es → ke cls es → E (.ref cls) (some dx) H')
def spD (K : PySem.W.Frag) (n : Nat) (W : WtD) : Sp := fun vs H Q E => SpD K n W vs H Q E
theorem rqD_start {K : PySem.W.Frag} {dr at_ : Addr} {F H : Hp} (d : Drw dr at_ H) (n1 : F dr = none) (n2 : F at_ = none) (s : Same F H) (t : ∀ b xs, Rd H b (.tup xs) → Rd F b (.tup xs)) : Rq (cyD K dr at_ F H) F H :=
  ⟨s, Same.refl F, fun _ _ _ e => e, fun _ e => e, fun _ e _ => e, t, d, (fun a ha => by
    rcases List.mem_cons.mp ha with e | ha
    · rw [e]; exact n1
    · rcases List.mem_cons.mp ha with e | ha
      · rw [e]; exact n2
      · cases ha), fun _ _ _ _ e => e⟩
theorem rqD_bh {K : PySem.W.Frag} {dr at_ : Addr} {F H F' H' : Hp} (q : Rq (cyD K dr at_ F H) F' H') : BhD dr at_ F H F' H' := ⟨q.old, q.sub, fun b o n e => q.but b o (fun z => n (by simpa using z)) e, q.non, q.tup, q.dw, q.lk⟩
section
variable {K : PySem.W.Frag} {dr at_ : Addr} {F0 H0 : Hp} {G : List Sv} {O : Ow} {ta : TA} {n : Nat} {W : WtD} {ES : L2.St → XK} {ke : Ke}
theorem dv_callD {k : Sv → Prop} (h : Da (cyD K dr at_ F0 H0) G O ta fun as => as.length = n ∧ W dr at_ as (fun r => match r with | .v s => k s | .l _ => False) (fun _ _ => False)) : Dv (cyD K dr at_ F0 H0) G O (Ln.tCg (spD K n W) ES ta) k := fun X F H σ Q r c =>
  h X F H σ _ r fun F1 vs H1 as s1 r1 p ⟨e, w⟩ => ⟨by rw [Paired.length p]; exact e, dr, at_, F1, as, _, _, r1.q.dw, r1.q.na dr (by simp), r1.q.na at_ (by simp), r1.q.sub, r1.q.tup, p, w,
    fun F' v H' s b sv q => c F' v H' s (s1.trans (Rp.calledD r1 b).2) (Rp.calledD r1 b).1 sv q, fun _ _ _ _ _ _ _ _ _ _ q => q.elim, fun _ _ _ _ _ _ _ _ _ _ q => q.elim⟩
theorem dl_callD {k : List Sv → Prop} (h : Da (cyD K dr at_ F0 H0) G O ta fun as => as.length = n ∧ W dr at_ as (fun r => match r with | .v _ => False | .l ss => k ss) (fun _ _ => False)) : Dl.Dl (cyD K dr at_ F0 H0) G O (Ln.tCg (spD K n W) ES ta) k := fun X F H σ Q r c =>
  h X F H σ _ r fun F1 vs H1 as s1 r1 p ⟨e, w⟩ => by
    refine ⟨by rw [Paired.length p]; exact e, dr, at_, F1, as, _, _, r1.q.dw, r1.q.na dr (by simp), r1.q.na at_ (by simp), r1.q.sub, r1.q.tup, p, w, fun _ _ _ _ _ _ q => q.elim, ?_, fun _ _ _ _ _ _ _ _ _ _ q => q.elim⟩
    intro F' D H' xs ss b nd nf hD pp q
    obtain ⟨r2, g⟩ := Rp.calledD r1 b
    refine c F' D H' ss (s1.trans g) (r1.q.h0 nd) ⟨r2.q, r2.len, r2.sl, ?_, ?_⟩ q
    · intro D2 ob m
      rcases List.mem_cons.mp m with m | m
      · cases m
        exact ⟨.inr (r1.q.h0 nd), nf, r1.q.nA nd, _, hD, xs, rfl, pp⟩
      · exact r2.ow D2 ob m
    · rw [List.map_cons, List.nodup_cons]
      refine ⟨fun m => ?_, r2.nd⟩
      obtain ⟨⟨D2, ob⟩, m', e'⟩ := List.mem_map.mp m
      obtain ⟨_, _, _, u, e1, _⟩ := r1.ow D2 ob m'
      have e' : D2 = D := e'
      rw [e', nd] at e1
      cases e1
instance s_callD {K' : PySem.W.Frag} {k : PyData → Prop} [e : Lkk K' K] : Stp (Dx (cyD K dr at_ F0 H0) G O (Ln.tCg (spD K' n W) ES ta) k) (Da (cyD K dr at_ F0 H0) G O ta fun as => as.length = n ∧ W dr at_ as (fun r => match r with | .v s => isD k s | .l _ => False) (fun _ _ => False)) := ⟨by rw [e.h]; exact fun h => dx_dv (dv_callD h)⟩
instance s_callDV {K' : PySem.W.Frag} {k : Sv → Prop} [e : Lkk K' K] : Stp (Dv (cyD K dr at_ F0 H0) G O (Ln.tCg (spD K' n W) ES ta) k) (Da (cyD K dr at_ F0 H0) G O ta fun as => as.length = n ∧ W dr at_ as (fun r => match r with | .v s => k s | .l _ => False) (fun _ _ => False)) := ⟨by rw [e.h]; exact dv_callD⟩
/-- a drawn number -/
theorem dx_take {tm : TE} {i j : Nat} {k : PyData → Prop} (h1 : G[i]? = some (.ptr dr)) (h2 : G[j]? = some (.ptr at_)) (h : Dx (cyD K dr at_ F0 H0) G O tm (isI fun m => 0 < m ∧ ∀ v : Int, 0 ≤ v → v < m → k (.int v))) :
    Dx (cyD K dr at_ F0 H0) G O (Ln.tCg (spTake K) ES (tCons (tVar i) (tCons (tVar j) (tCons tm tNil)))) k := fun X F H σ Q r c => by
  obtain ⟨v1, e1, p1⟩ := r.get h1 (fun z => by cases z)
  obtain ⟨v2, e2, p2⟩ := r.get h2 (fun z => by cases z)
  cases p1; cases p2
  refine ⟨_, e1, _, e2, ?_⟩
  exact h X F H σ _ r fun F1 w H1 d s1 r1 pd ⟨m, em, hm, q⟩ => by
    subst em; cases pd
    refine ⟨dr, at_, m, rfl, r1.q.dw, hm, fun v H' v0 v1 bt dw => ?_⟩
    obtain ⟨r2, g, _⟩ := Rp.but r1 bt dw
    exact c _ _ H' _ (s1.trans g) r2 (.int v) (q v v0 v1)
def takeK (k : Int → Prop) (m : Int) : Prop := 0 < m ∧ ∀ v : Int, 0 ≤ v → v < m → k v
instance s_take {K' : PySem.W.Frag} {tm : TE} {i j : Nat} {k : PyData → Prop} [e : Lkk K' K] [e1 : Lk G i (.ptr dr)] [e2 : Lk G j (.ptr at_)] : Stp (Dx (cyD K dr at_ F0 H0) G O (Ln.tCg (spTake K') ES (tCons (tVar i) (tCons (tVar j) (tCons tm tNil)))) k) (Dx (cyD K dr at_ F0 H0) G O tm (isI (takeK fun v => k (.int v)))) := ⟨by rw [e.h]; exact dx_take e1.h e2.h⟩
/-- one of several -/
theorem dx_one {tr : TE} {i j : Nat} {k : PyData → Prop} (h1 : G[i]? = some (.ptr dr)) (h2 : G[j]? = some (.ptr at_)) (h : Dx (cyD K dr at_ F0 H0) G O tr (isQ fun ds => 0 < ds.length ∧ ∀ d ∈ ds, k d)) :
    Dx (cyD K dr at_ F0 H0) G O (Ln.tCg (spOne K) ES (tCons tr (tCons (tVar i) (tCons (tVar j) tNil)))) k := fun X F H σ Q r c =>
  h X F H σ _ r fun F1 w H1 d s1 r1 pd ⟨ds, ed, hp, q⟩ => by
    obtain ⟨v1, e1, p1⟩ := r1.get h1 (fun z => by cases z)
    obtain ⟨v2, e2, p2⟩ := r1.get h2 (fun z => by cases z)
    cases p1; cases p2
    refine ⟨_, e1, _, e2, ?_⟩
    have fin : ∀ (a : Addr) (xs : List V), DpAll K F1 xs ds → ∀ x ∈ xs, ∀ H', But at_ H1 H' → Drw dr at_ H' → Q x H' := fun a xs ha x hx H' bt dw => by
      obtain ⟨l, hl, el⟩ := List.mem_iff_getElem.mp hx
      obtain ⟨e, he, pe⟩ := dpAll_get ha (i := l) (v := x) (by rw [List.getElem?_eq_getElem hl, el])
      obtain ⟨r2, g, sf⟩ := Rp.but r1 bt dw
      exact c _ _ H' e (s1.trans g) r2 (Dp.mono sf _ _ pe) (q e (List.mem_of_getElem? he))
    have nat : F1 at_ = none := r1.q.na at_ (by simp)
    rcases ed with ed | ed
    · subst ed
      cases pd with
      | @tup a xs _ hs ha => exact ⟨a, dr, at_, xs, rfl, .inr (Same.tup r1.q.sub hs), r1.q.dw, by rw [dpAll_len ha]; exact hp, fin a xs ha⟩
    · subst ed
      cases pd with
      | @lst a xs _ hs ha =>
        refine ⟨a, dr, at_, xs, rfl, .inl fun H' bt => ?_, r1.q.dw, by rw [dpAll_len ha]; exact hp, fin a xs ha⟩
        rcases hs with (k | ⟨o, k⟩) | k
        · exact .inl (.inl (bt a _ (fun z => by rw [z, nat] at k; cases k) (r1.q.sub _ _ k)))
        · exact .inl (.inr ⟨o, bt a _ (fun z => by rw [z, nat] at k; cases k) (r1.q.sub _ _ k)⟩)
        · exact .inr k
def oneK (k : PyData → Prop) (ds : List PyData) : Prop := 0 < ds.length ∧ ∀ d ∈ ds, k d
theorem oneK_nil {k : PyData → Prop} {d : PyData} (h : k d) : oneK k [d] := ⟨Nat.zero_lt_one, fun x hx => by simp at hx; rw [hx]; exact h⟩
theorem oneK_cons {k : PyData → Prop} {d e : PyData} {ds : List PyData} (h : k d) (t : oneK k (e :: ds)) : oneK k (d :: e :: ds) := ⟨Nat.succ_pos _, fun x hx => by
  rcases List.mem_cons.mp hx with z | z
  · rw [z]; exact h
  · exact t.2 x z⟩
instance s_one {K' : PySem.W.Frag} {tr : TE} {i j : Nat} {k : PyData → Prop} [e : Lkk K' K] [e1 : Lk G i (.ptr dr)] [e2 : Lk G j (.ptr at_)] : Stp (Dx (cyD K dr at_ F0 H0) G O (Ln.tCg (spOne K') ES (tCons tr (tCons (tVar i) (tCons (tVar j) tNil)))) k) (Dx (cyD K dr at_ F0 H0) G O tr (isQ (oneK k))) := ⟨by rw [e.h]; exact dx_one e1.h e2.h⟩
end
/-! ## the bodies -/
theorem rpD_start {K : PySem.W.Frag} {dr at_ : Addr} {F H : Hp} {vs : List V} {as : List Sv} {N : List Str} (q : Rq (cyD K dr at_ F H) F H) (p : Paired (SvOk K F) vs as) : Rp (cyD K dr at_ F H) F H (L2.start N vs) (as ++ List.replicate (N.length - vs.length) .any) [] := by
  have z := rp_start (K := K) (F := F) (H := H) (N := N) q.sub q.tup p
  exact ⟨q, z.len, z.sl, (fun _ _ m => by cases m), List.nodup_nil⟩
theorem okD {P : Program} {w : World} {K : PySem.W.Frag} {mg : Str → Option Value} {base : Heap} {x qual : Str} {st : Stmt} {f : Addr} {fd : FuncData} {N ps : List Str} {k n : Nat} {W : WtD} (F : Fun K x qual st f fd) (S : FnScope N ps (defScope st)) (hn : ps.length = n)
    (hbody : ∀ (cdv : Value) (A : Around) (outer : List Env) (s : Shared) (H : Hp) (E : XK), A.guards = some [] → Room k (A.deeper (envOfC qual (defScope st) s.heap.objs.size f cdv)) →
      ∃ t, PSs (cxOf CX0 P w K mg base N qual (defScope st) f cdv A outer s H E).nox (defBody st) t ∧ ∀ (dr at_ : Addr) (F0 H0 : Hp) (as : List Sv) (k : Rs → Prop) (ke : Ke), as.length = n → W dr at_ as k ke → Ds (cyD K dr at_ F0 H0) (as ++ List.replicate (N.length - n) .any) [] t { nx := fun _ _ => k (.v (.dat .none)), rt := k }) : FnG P w K mg base CX0 (k + 1) f fd ps (spD K n W) :=
  okG F S (fun vs H Q E h => by rw [h.ex.1, hn]) fun cdv A outer s H vs Q E hG hr h => by
    obtain ⟨t, ht, hd⟩ := hbody cdv A outer s H E hG hr
    refine ⟨t, ht, ?_⟩
    obtain ⟨e, dr, at_, F, as, k, ke, dw, n1, n2, sf, tp, p, w, q1, q2, q3⟩ := h.ex
    have r := rpD_start (N := N) (rqD_start (K := K) dw n1 n2 sf tp) p
    rw [e] at r
    refine hd dr at_ F H as k ke (by rw [← Paired.length p]; exact e) w [] F H _ _ r ?_ ⟨?_, ?_⟩ (fun _ _ _ _ _ _ _ z => z.elim) (fun _ _ _ _ _ _ _ z => z.elim)
    · exact fun F' σ' H' G' O' s' r' hk => q1 F' .non H' (.dat .none) (rqD_bh r'.q) .non hk
    · exact fun F' v H' s' _ rq sv hk => q1 F' v H' s' (rqD_bh rq) sv hk
    · exact fun F' D H' ss xs _ rq n0 nf _ hD pp hk => q2 F' D H' xs ss (rqD_bh rq) n0 nf hD pp hk
/-- what the law's body says from the draws on: the slots ahead of dr and at_ are forgotten -/
theorem law_enter {K : PySem.W.Frag} {dr at_ : Addr} {H : Hp} {v0 : Option V} {m : Nat} {t : TS} {D : Ends} {E : En} (d : Drw dr at_ H) (h : ∀ F0 H0, Ds (cyD K dr at_ F0 H0) (.any :: .ptr dr :: .ptr at_ :: List.replicate m .any) [] t E)
    (h1 : ∀ v H', E.rt (.v (.dat (.bool v))) → D.rt (.bl v) H') (h2 : ∀ r, E.rt r → ∃ b, r = .v (.dat (.bool b))) (h3 : ∀ G' O', ¬ E.nx G' O') (h4 : ∀ G' O', ¬ E.bk G' O') (h5 : ∀ G' O', ¬ E.ct G' O') : t D (v0 :: some (.ref dr) :: some (.ref at_) :: List.replicate m none) H := by
  have tp : ∀ b xs, Rd H b (.tup xs) → Rd (fun b => if b = dr ∨ b = at_ then none else H b) b (.tup xs) := by
    intro b xs k
    obtain ⟨ds, p, e1, e2, _⟩ := id d
    have z : ¬ (b = dr ∨ b = at_) := by
      rintro (z | z)
      · rw [z] at k
        rcases k with k | ⟨o, k⟩
        · rw [e1] at k; cases k
        · rw [e1] at k; cases k
      · rw [z] at k
        rcases k with k | ⟨o, k⟩
        · rw [e2] at k; cases k
        · rw [e2] at k; cases k
    rcases k with k | ⟨o, k⟩
    · exact .inl (by show (if b = dr ∨ b = at_ then none else H b) = _; rw [if_neg z]; exact k)
    · exact .inr ⟨o, by show (if b = dr ∨ b = at_ then none else H b) = _; rw [if_neg z]; exact k⟩
  have sf : Same (fun b => if b = dr ∨ b = at_ then none else H b) H := fun b o e => by
    have e : (if b = dr ∨ b = at_ then none else H b) = some o := e
    by_cases z : b = dr ∨ b = at_
    · rw [if_pos z] at e; cases e
    · rw [if_neg z] at e; exact e
  have q := rqD_start (K := K) d (F := fun b => if b = dr ∨ b = at_ then none else H b) (if_pos (.inl rfl)) (if_pos (.inr rfl)) sf tp
  refine h _ _ [] _ H _ D ⟨q, ?_, ?_, (fun _ _ m => by cases m), List.nodup_nil⟩ (fun _ _ _ _ _ _ _ z => (h3 _ _ z).elim) ⟨?_, ?_⟩ (fun _ _ _ _ _ _ _ z => (h4 _ _ z).elim) (fun _ _ _ _ _ _ _ z => (h5 _ _ z).elim)
  · simp
  · intro i s e
    match i, e with
    | 0, e => cases e; exact ⟨v0, rfl, trivial⟩
    | 1, e => cases e; exact ⟨_, rfl, rfl⟩
    | 2, e => cases e; exact ⟨_, rfl, rfl⟩
    | i + 3, e =>
      have e : (List.replicate m Sv.any)[i]? = some s := e
      have hi := (List.getElem?_eq_some_iff.mp e).1
      rw [List.length_replicate] at hi
      rw [List.getElem?_replicate_of_lt hi] at e
      cases e
      exact ⟨none, by show (List.replicate m none)[i]? = some none; rw [List.getElem?_replicate_of_lt hi], trivial⟩
  · intro F' v H' s _ _ sv hk
    obtain ⟨b, e⟩ := h2 _ hk
    cases e
    cases sv
    exact h1 b H' hk
  · intro F' D' H' ss xs _ _ _ _ _ _ _ hk
    obtain ⟨b, e⟩ := h2 _ hk
    cases e
/-- how each law begins: the draws, and the place of the next one -/
theorem law_start {K : PySem.W.Frag} {H : Hp} {σ : L2.St} {a : Addr} {ns : List Int} {m : Nat} {rest : TS} {D : Ends} {E : En} {ES : L2.St → XK} (hσ : σ = some (.ref a) :: List.replicate (m + 2) none) (hS : SqL K H a (ns.map V.int)) (hlen : ns.length ≤ 63)
    (h : ∀ dr at_ F0 H0, Ds (cyD K dr at_ F0 H0) (.any :: .ptr dr :: .ptr at_ :: List.replicate m .any) [] rest E)
    (h1 : ∀ v H', E.rt (.v (.dat (.bool v))) → D.rt (.bl v) H') (h2 : ∀ r, E.rt r → ∃ b, r = .v (.dat (.bool b))) (h3 : ∀ G' O', ¬ E.nx G' O') (h4 : ∀ G' O', ¬ E.bk G' O') (h5 : ∀ G' O', ¬ E.ct G' O') :
    tSeq (tAsg (Ln.tCg (spDraws K) ES (tCons (tVar 0) tNil)) (gName 1)) (tSeq (tAsg (tLst (tCons (tC (V.int 0)) tNil)) (gName 2)) rest) D σ H := by
  subst hσ
  refine ⟨.ref a, rfl, a, ns, rfl, hS, hlen, fun H1 dr ds sm1 ndr hdr hgood => ?_⟩
  refine ⟨by show 1 ≤ sizeLine; decide, fun at_ nat => ?_⟩
  have hDrw : Drw dr at_ (upd H1 at_ (.lst [.int 0])) := ⟨ds, 0, by rw [upd_ne (ne_of_none hdr nat)]; exact hdr, upd_same, ne_of_none hdr nat, hgood, by decide⟩
  exact law_enter (K := K) (m := m) (v0 := some (.ref a)) hDrw (h dr at_) h1 h2 h3 h4 h5
end Mine
local macro_rules | `(tactic| walk_at "d1") => `(tactic| first
  | refine Dl.Stp.h ?_
  | refine Dl.dg_tup ?_
  | refine Dl.szk_mk ?_
  | refine Dl.isT_mk ?_
  | refine Dl.isI_mk ?_
  | refine Dl.isS_mk ?_)
local macro_rules | `(tactic| walk_at "d") => `(tactic| repeat walk_at "d1")
set_option Elab.async false
set_option linter.all false
set_option maxRecDepth 100000
set_option maxHeartbeats 4000000
/-! what kinds of values there are, and what is asked -/
namespace Mine
open PySem PySem.Spec PyProof.Rows L2 Ln Dl
structure DTxt (mg : Str → Option Value) : Prop where
  z_len : mg "len" = none
  z_abs : mg "abs" = none
  z_int : mg "int" = none
  z_str : mg "str" = none
  z_bool : mg "bool" = none
  z_tuple : mg "tuple" = none
  z_list : mg "list" = none
  z_dict : mg "dict" = none
  z_set : mg "set" = none
  z_range : mg "range" = none
  z_min : mg "min" = none
  z_max : mg "max" = none
  z_sum : mg "sum" = none
  z_all : mg "all" = none
  z_any : mg "any" = none
  z_sorted : mg "sorted" = none
  z_reversed : mg "reversed" = none
  z_enumerate : mg "enumerate" = none
  z_zip : mg "zip" = none
  z_repr : mg "repr" = none
  z_isinstance : mg "isinstance" = none
abbrev s_is_integer : Stmt := topS 5
abbrev N_is_integer : List Str := ["value"]
theorem sc_is_integer : FnScope N_is_integer ["value"] (defScope s_is_integer) := ⟨rfl, rfl, rfl, by decide +kernel, rfl, by decide +kernel, by decide +kernel⟩
-- slots: 0 value
abbrev s_is_within : Stmt := topS 6
abbrev N_is_within : List Str := ["value", "low", "high"]
theorem sc_is_within : FnScope N_is_within ["value", "low", "high"] (defScope s_is_within) := ⟨rfl, rfl, rfl, by decide +kernel, rfl, by decide +kernel, by decide +kernel⟩
-- slots: 0 value, 1 low, 2 high
abbrev s_is_row : Stmt := topS 7
abbrev N_is_row : List Str := ["value", "size"]
theorem sc_is_row : FnScope N_is_row ["value", "size"] (defScope s_is_row) := ⟨rfl, rfl, rfl, by decide +kernel, rfl, by decide +kernel, by decide +kernel⟩
-- slots: 0 value, 1 size
abbrev s_is_short : Stmt := topS 8
abbrev N_is_short : List Str := ["value", "most"]
theorem sc_is_short : FnScope N_is_short ["value", "most"] (defScope s_is_short) := ⟨rfl, rfl, rfl, by decide +kernel, rfl, by decide +kernel, by decide +kernel⟩
-- slots: 0 value, 1 most
abbrev s_are_strings : Stmt := topS 9
abbrev N_are_strings : List Str := ["value", "part"]
theorem sc_are_strings : FnScope N_are_strings ["value"] (defScope s_are_strings) := ⟨rfl, rfl, rfl, by decide +kernel, rfl, by decide +kernel, by decide +kernel⟩
-- slots: 0 value, 1 part
abbrev s_are_unlike : Stmt := topS 10
abbrev N_are_unlike : List Str := ["names"]
theorem sc_are_unlike : FnScope N_are_unlike ["names"] (defScope s_are_unlike) := ⟨rfl, rfl, rfl, by decide +kernel, rfl, by decide +kernel, by decide +kernel⟩
-- slots: 0 names
abbrev s_are_same : Stmt := topS 11
abbrev N_are_same : List Str := ["one", "other", "a", "b"]
theorem sc_are_same : FnScope N_are_same ["one", "other"] (defScope s_are_same) := ⟨rfl, rfl, rfl, by decide +kernel, rfl, by decide +kernel, by decide +kernel⟩
-- slots: 0 one, 1 other, 2 a, 3 b
def intB : PyData → Bool | .int _ => true | _ => false
def strB : PyData → Bool | .str _ => true | _ => false
def withinB (d : PyData) (lo hi : Int) : Bool := match d with | .int i => decide (lo ≤ i) && decide (i ≤ hi) | _ => false
def rowB (d : PyData) (n : Int) : Bool := match d with | .tuple ds => decide ((ds.length : Int) = n) | _ => false
def shortB (d : PyData) (n : Int) : Bool := match d with | .tuple ds => decide ((ds.length : Int) ≤ n) | _ => false
def intsB (d : PyData) : Bool := match d with | .tuple ds => ds.all intB | _ => false
def strsB (d : PyData) : Bool := match d with | .tuple ds => ds.all strB | _ => false
theorem flat_of {d : PyData} (h : noLd d = true) : flatK d = true := by
  cases d <;> first | rfl | (simp [noLd] at h)
theorem noLds_mem {ds : List PyData} (h : noLds ds = true) : ∀ d ∈ ds, noLd d = true := by
  induction ds with
  | nil => simp
  | cons x r ih =>
    simp only [noLds, Bool.and_eq_true] at h
    intro d hd
    rcases List.mem_cons.mp hd with e | hd
    · rw [e]; exact h.1
    · exact ih h.2 d hd
theorem noLds_of {ds : List PyData} (h : ∀ d ∈ ds, noLd d = true) : noLds ds = true := by
  induction ds with
  | nil => rfl
  | cons x r ih =>
    simp only [noLds, Bool.and_eq_true]
    exact ⟨h x List.mem_cons_self, ih fun d hd => h d (List.mem_cons_of_mem _ hd)⟩
theorem noLd_tup {ds : List PyData} : noLd (.tuple ds) = noLds ds := by simp only [noLd]
section
variable {P : Program} {w : World} {K : PySem.W.Frag} {mg : Str → Option Value} {base : Heap} {C fI : Addr}
def wIsInt : Wt := fun as k _ => ∃ d, as = [.dat d] ∧ flatK d = true ∧ k (.v (.dat (.bool (intB d))))
theorem ok_isint {f : Addr} {fd : FuncData} (F : Fun K "is_integer" "is_integer" s_is_integer f fd) (T : DTxt mg) : FnG P w K mg base CX0 1 f fd ["value"] (spP K 1 wIsInt) := by
  refine okP F sc_is_integer rfl fun cdv A outer s H E hG hr => ⟨_, (pss_one (ps_ret (pe_and (pe_callB (r := rIsi K) (id := "isinstance") call_isi (by rfl) T.z_isinstance (by decide +kernel) (pa_cons (pv 0) (pa_cons (pe_bltn (v := .ty "int") (u := .type "int") (by rfl) T.z_int (by decide +kernel) rfl) pa_nil))) (pe_one (pe_not (pe_callB (r := rIsi K) (id := "isinstance") call_isi (by rfl) T.z_isinstance (by decide +kernel) (pa_cons (pv 0) (pa_cons (pe_bltn (v := .ty "bool") (u := .type "bool") (by rfl) T.z_bool (by decide +kernel) rfl) pa_nil)))))))), fun F0 H0 as k ke hl hw => ?_⟩
  obtain ⟨d, rfl, hf, q⟩ := hw
  change Ds _ [_] _ _ _
  walk_at "d"
  cases d <;> first | (cases hf; done) | (walk_at "d"; exact q)
def wWithin : Wt := fun as k _ => ∃ d lo hi, as = [.dat d, .dat (.int lo), .dat (.int hi)] ∧ flatK d = true ∧ k (.v (.dat (.bool (withinB d lo hi))))
theorem ok_within {f : Addr} {fd : FuncData} (F : Fun K "is_within" "is_within" s_is_within f fd) (c_is_integer : Cg P w K mg base CX0 1 "is_integer" (spP K 1 wIsInt)) : FnG P w K mg base CX0 2 f fd ["value", "low", "high"] (spP K 3 wWithin) := by
  refine okP F sc_is_within rfl fun cdv A outer s H E hG hr => ⟨_, (pss_one (ps_ret (pe_and (pe_cg c_is_integer hr (by decide) hG (by rfl) (pa_cons (pv 0) pa_nil)) (pe_one (pe_chain op_le op_le (pv 1) (pv 0) (pv 2)))))), fun F0 H0 as k ke hl hw => ?_⟩
  obtain ⟨d, lo, hi, rfl, hf, q⟩ := hw
  change Ds _ [_, _, _] _ _ _
  walk_at "d"
  refine ⟨d, rfl, hf, ?_⟩
  walk_at "d"
  refine ifB (fun h => ?_) (fun h => ?_)
  · cases d <;> first | cases h | skip
    rename_i i
    have q : k (.v (.dat (.bool (decide (lo ≤ i) && decide (i ≤ hi))))) := q
    walk_at "d"
    refine ifB (fun h => ?_) (fun h => ?_)
    · rw [h] at q
      walk_at "d"
      exact q
    · rw [h] at q
      exact q
  · cases d <;> first | exact q | cases h
def wIsRow : Wt := fun as k _ => ∃ d n, as = [.dat d, .dat (.int n)] ∧ flatK d = true ∧ k (.v (.dat (.bool (rowB d n))))
theorem ok_isrow {f : Addr} {fd : FuncData} (F : Fun K "is_row" "is_row" s_is_row f fd) (T : DTxt mg) : FnG P w K mg base CX0 1 f fd ["value", "size"] (spP K 2 wIsRow) := by
  refine okP F sc_is_row rfl fun cdv A outer s H E hG hr => ⟨_, (pss_one (ps_ret (pe_and (pe_callB (r := rIsi K) (id := "isinstance") call_isi (by rfl) T.z_isinstance (by decide +kernel) (pa_cons (pv 0) (pa_cons (pe_bltn (v := .ty "tuple") (u := .type "tuple") (by rfl) T.z_tuple (by decide +kernel) rfl) pa_nil))) (pe_one (pe_cmpR op_eq (pe_callB (r := Ln.rLen K) (id := "len") c_len (by rfl) T.z_len (by decide +kernel) (pa_cons (pv 0) pa_nil)) (pv 1) (nomark _)))))), fun F0 H0 as k ke hl hw => ?_⟩
  obtain ⟨d, n, rfl, hf, q⟩ := hw
  change Ds _ [_, _] _ _ _
  walk_at "d"
  cases d <;> first | (cases hf; done) | (walk_at "d"; exact q)
def wIsShort : Wt := fun as k _ => ∃ d n, as = [.dat d, .dat (.int n)] ∧ flatK d = true ∧ k (.v (.dat (.bool (shortB d n))))
theorem ok_isshort {f : Addr} {fd : FuncData} (F : Fun K "is_short" "is_short" s_is_short f fd) (T : DTxt mg) : FnG P w K mg base CX0 1 f fd ["value", "most"] (spP K 2 wIsShort) := by
  refine okP F sc_is_short rfl fun cdv A outer s H E hG hr => ⟨_, (pss_one (ps_ret (pe_and (pe_callB (r := rIsi K) (id := "isinstance") call_isi (by rfl) T.z_isinstance (by decide +kernel) (pa_cons (pv 0) (pa_cons (pe_bltn (v := .ty "tuple") (u := .type "tuple") (by rfl) T.z_tuple (by decide +kernel) rfl) pa_nil))) (pe_one (pe_cmpR op_le (pe_callB (r := Ln.rLen K) (id := "len") c_len (by rfl) T.z_len (by decide +kernel) (pa_cons (pv 0) pa_nil)) (pv 1) (nomark _)))))), fun F0 H0 as k ke hl hw => ?_⟩
  obtain ⟨d, n, rfl, hf, q⟩ := hw
  change Ds _ [_, _] _ _ _
  walk_at "d"
  cases d <;> first | (cases hf; done) | (walk_at "d"; exact q)
def wAreStrs : Wt := fun as k _ => ∃ d, as = [.dat d] ∧ noLd d = true ∧ (∀ ds, d = .tuple ds → ds.length ≤ sizeLine) ∧ k (.v (.dat (.bool (strsB d))))
theorem ok_arestrs {f : Addr} {fd : FuncData} (F : Fun K "are_strings" "are_strings" s_are_strings f fd) (T : DTxt mg) : FnG P w K mg base CX0 2 f fd ["value"] (spP K 1 wAreStrs) := by
  refine okP F sc_are_strings rfl fun cdv A outer s H E hG hr => ⟨_, (pss_one (ps_ret (pe_and (pe_callB (r := rIsi K) (id := "isinstance") call_isi (by rfl) T.z_isinstance (by decide +kernel) (pa_cons (pv 0) (pa_cons (pe_bltn (v := .ty "tuple") (u := .type "tuple") (by rfl) T.z_tuple (by decide +kernel) rfl) pa_nil))) (pe_one (pe_callB (r := rAll K) (id := "all") (cr_all rfl) (by rfl) T.z_all (by decide +kernel) (pa_cons (pe_lc (own := [("part", 1)]) rfl sc_are_strings.nd (pi_tup (pv 0)) (blkOk_by (own := [("part", 1)]) (N := N_are_strings) (sc := defScope s_are_strings) (by decide +kernel)) (fun _ _ _ _ _ => (pg_name (i := 1) sc_are_strings.nd rfl (.inl rfl))) (fun _ _ _ _ _ => pts_nil) (fun _ _ _ _ _ => (pe_callB (r := rIsi K) (id := "isinstance") call_isi (by rfl) T.z_isinstance (by decide +kernel) (pa_cons (pv 1) (pa_cons (pe_bltn (v := .ty "str") (u := .type "str") (by rfl) T.z_str (by decide +kernel) rfl) pa_nil))))) pa_nil)))))), fun F0 H0 as k ke hl hw => ?_⟩
  obtain ⟨d, rfl, hf, hz, q⟩ := hw
  change Ds _ [_, _] _ _ _
  walk_at "d"
  cases d with
  | tuple ds =>
    walk_at "d"
    rw [noLd_tup] at hf
    refine dl_mapD ?_
    walk_at "d"
    refine ⟨hz ds rfl, fun d => .dat (.bool (strB d)), fun i x hx => ?_, ds.map strB, by rw [List.map_map]; rfl, ?_⟩
    · have := flat_of (noLds_mem hf x (List.mem_of_getElem? hx))
      walk_at "d"
      cases x <;> first | (cases this; done) | (walk_at "d"; rfl)
    · rw [List.all_map]
      exact q
  | _ => first | (walk_at "d"; exact q) | (simp [noLd] at hf)
theorem dx_lenNames {K' : PySem.W.Frag} {Cc : Cy} {G : List Sv} {O : Ow} {t : TE} {k : PyData → Prop} [e : Lkk K' Cc.K] (h : Dx Cc G O t (isQ fun ds => ∃ xs : List Str, ds = xs.map .str ∧ xs.length ≤ 60 ∧ k (.int ((met xs).length : Nat)))) : Dx Cc G O (tLenNamesA K' t) k := fun X F H σ Q r c => by
  rw [e.h]
  exact h X F H σ _ r fun F1 v H1 d s1 r1 p1 ⟨ds, ed, xs, ex, hl, q⟩ => by
    subst ex
    rcases ed with ed | ed
    · subst ed
      cases p1 with
      | @tup a us _ hs ha =>
        have := dpAll_strs ha
        subst this
        exact ⟨a, xs, rfl, .inr (Same.tup r1.q.sub hs), hl, c F1 _ H1 _ s1 r1 (.int _) q⟩
    · subst ed
      cases p1 with
      | @lst a us _ hs ha =>
        have := dpAll_strs ha
        subst this
        exact ⟨a, xs, rfl, .inl (r1.q.sub.seq hs), hl, c F1 _ H1 _ s1 r1 (.int _) q⟩
instance s_lenNames {K' : PySem.W.Frag} {Cc : Cy} {G : List Sv} {O : Ow} {t : TE} {k : PyData → Prop} [e : Lkk K' Cc.K] : Stp (Dx Cc G O (tLenNamesA K' t) k) (Dx Cc G O t (isQ fun ds => ∃ xs : List Str, ds = xs.map .str ∧ xs.length ≤ 60 ∧ k (.int ((met xs).length : Nat)))) := ⟨dx_lenNames⟩
def wUnlike : Wt := fun as k _ => ∃ (xs : List Str) (d : PyData), as = [.dat d] ∧ (d = .tuple (xs.map .str) ∨ d = .list (xs.map .str)) ∧ xs.length ≤ 60 ∧ k (.v (.dat (.bool (decide xs.Nodup))))
theorem ok_unlike {f : Addr} {fd : FuncData} (F : Fun K "are_unlike" "are_unlike" s_are_unlike f fd) (T : DTxt mg) : FnG P w K mg base CX0 1 f fd ["names"] (spP K 1 wUnlike) := by
  refine okP F sc_are_unlike rfl fun cdv A outer s H E hG hr => ⟨_, (pss_one (ps_ret (pe_cmpR op_eq (Ln.pe_lenNamesA rfl (by rfl) T.z_len (by rfl) T.z_set (pv 0)) (pe_callB (r := Ln.rLen K) (id := "len") c_len (by rfl) T.z_len (by decide +kernel) (pa_cons (pv 0) pa_nil)) (nomark _)))), fun F0 H0 as k ke hl hw => ?_⟩
  obtain ⟨xs, d, rfl, hd, hz, q⟩ := hw
  change Ds _ [_] _ _ _
  walk_at "d"
  refine isQ_of hd ⟨xs, rfl, hz, ?_⟩
  walk_at "d"
  have e : decide (((met xs).length : Nat) = (((xs.length : Nat)) : Int)) = decide xs.Nodup := decide_eq_decide.mpr (by rw [← met_all xs]; omega)
  rcases hd with rfl | rfl
  · walk_at "d"
    rw [List.length_map, e]
    exact q
  · walk_at "d"
    rw [List.length_map, e]
    exact q
end
end Mine
set_option Elab.async false
set_option linter.all false
set_option maxRecDepth 100000
set_option maxHeartbeats 4000000
/-! errors, and what is asked -/
namespace Mine
open PySem PySem.Spec PyProof.Rows L2 Ln Dl
abbrev s_ArgumentErrorD_initD : Stmt := inClass (topS 2) 0
abbrev N_ArgumentErrorD_initD : List Str := ["self", "reason"]
theorem sc_ArgumentErrorD_initD : FnScope N_ArgumentErrorD_initD ["self", "reason"] (defScope s_ArgumentErrorD_initD) := ⟨rfl, rfl, rfl, by decide +kernel, rfl, by decide +kernel, by decide +kernel⟩
-- slots: 0 self, 1 reason
abbrev s_PaperErrorD_initD : Stmt := inClass (topS 3) 0
abbrev N_PaperErrorD_initD : List Str := ["self", "reason"]
theorem sc_PaperErrorD_initD : FnScope N_PaperErrorD_initD ["self", "reason"] (defScope s_PaperErrorD_initD) := ⟨rfl, rfl, rfl, by decide +kernel, rfl, by decide +kernel, by decide +kernel⟩
-- slots: 0 self, 1 reason
abbrev s_require : Stmt := topS 13
abbrev N_require : List Str := ["holds", "reason"]
theorem sc_require : FnScope N_require ["holds", "reason"] (defScope s_require) := ⟨rfl, rfl, rfl, by decide +kernel, rfl, by decide +kernel, by decide +kernel⟩
-- slots: 0 holds, 1 reason
section
variable {P : Program} {w : World} {K : PySem.W.Frag} {mg : Str → Option Value} {base : Heap} {C fI : Addr}
structure ArgErr (K : PySem.W.Frag) (mg : Str → Option Value) (C fI : Addr) : Prop where
  m_ArgumentError : mg "ArgumentError" = some (.ref C)
  o_ArgumentError : OexC K C
  x_ArgumentError : XfC K C
  n_ArgumentError_reason : PySem.W.findIn K (.ref C) "reason" = some none
  i_ArgumentError : PySem.W.findIn K (.ref C) "__init__" = some (some (.ref fI))
  t_ArgumentError : PySem.W.typeIn K (.ref fI) = some (.type "function")
theorem ok_init {f : Addr} {fd : FuncData} (F : Fun K "__init__" "ArgumentError.__init__" s_ArgumentErrorD_initD f fd) (T : ArgErr K mg C fI) : FnOk P w K mg base CX0 1 f fd ["self", "reason"] (spIni C ["reason"]) := by
  refine F.ok sc_ArgumentErrorD_initD (fun vs H Q E h => ?_) (fun cdv A outer s H vs Q E hr h => ?_)
  · obtain ⟨a, zs, rfl, hz, _⟩ := h
    rw [List.length_cons, hz]; rfl
  · obtain ⟨a, zs, rfl, hz, ha, q⟩ := h
    match zs, hz with
    | [v], _ =>
      refine ⟨_, (pss_one (ps_ost (pv 0) (pv 1))), ?_⟩
      exact ⟨v, rfl, .ref a, rfl, a, C, rfl, T.o_ArgumentError, T.n_ArgumentError_reason, .inl ⟨ha, fun dx n1 n2 => q dx n1 n2⟩⟩
structure PapErr (K : PySem.W.Frag) (mg : Str → Option Value) (C fI : Addr) : Prop where
  m_PaperError : mg "PaperError" = some (.ref C)
  o_PaperError : OexC K C
  x_PaperError : XfC K C
  n_PaperError_reason : PySem.W.findIn K (.ref C) "reason" = some none
  i_PaperError : PySem.W.findIn K (.ref C) "__init__" = some (some (.ref fI))
  t_PaperError : PySem.W.typeIn K (.ref fI) = some (.type "function")
theorem ok_initp {f : Addr} {fd : FuncData} (F : Fun K "__init__" "PaperError.__init__" s_PaperErrorD_initD f fd) (T : PapErr K mg C fI) : FnOk P w K mg base CX0 1 f fd ["self", "reason"] (spIni C ["reason"]) := by
  refine F.ok sc_PaperErrorD_initD (fun vs H Q E h => ?_) (fun cdv A outer s H vs Q E hr h => ?_)
  · obtain ⟨a, zs, rfl, hz, _⟩ := h
    rw [List.length_cons, hz]; rfl
  · obtain ⟨a, zs, rfl, hz, ha, q⟩ := h
    match zs, hz with
    | [v], _ =>
      refine ⟨_, (pss_one (ps_ost (pv 0) (pv 1))), ?_⟩
      exact ⟨v, rfl, .ref a, rfl, a, C, rfl, T.o_PaperError, T.n_PaperError_reason, .inl ⟨ha, fun dx n1 n2 => q dx n1 n2⟩⟩
def rsn (x : Str) : List (Str × PyData) := [("reason", .str x)]
def wRequire (C : Addr) : Wt := fun as k ke => ∃ (b : Bool) (x : Str), as = [.dat (.bool b), .dat (.str x)] ∧ (b = true → k (.v (.dat .none))) ∧ (b = false → ke C (rsn x))
theorem ok_require {f : Addr} {fd fdI : FuncData} (F : Fun K "require" "require" s_require f fd) (T : ArgErr K mg C fI) (fi_ArgumentError : FnOk P w K mg base CX0 1 fI fdI ["self", "reason"] (spIni C ["reason"])) (fb_ArgumentError : Binds K fdI ["self", "reason"] []) :
    FnG P w K mg base (L2.CX P w) 3 f fd ["holds", "reason"] (spP K 2 (wRequire C)) := by
  refine okPX F sc_require rfl fun cdv A outer s H E hG hr => ?_
  have tk0 : Takes (cxOf (L2.CX P w) P w K mg base N_require "require" (defScope s_require) f cdv A outer s H E) (fun cls d _ H => E cls d H) := takes_of rfl rfl rfl rfl
  refine ⟨_, (pss_one (ps_if (pt_not (pt_truthK (pv 0) (by intro _; rfl)))
    (pss_one (ps_raise rfl tk0 (pmk_oex T.o_ArgumentError T.i_ArgumentError T.t_ArgumentError fi_ArgumentError (hr.mono (by decide)) fb_ArgumentError .nil pass0 (by rfl) T.m_ArgumentError (pa_cons (pv 1) pa_nil))))
    pss_nil)), fun F0 H0 as k ke hl hw hE => ?_⟩
  obtain ⟨b, x, rfl, qt, qf⟩ := hw
  change Ds _ [_, _] _ _ _
  walk_at "d"
  refine ifB (fun h => ?_) (fun h => ?_)
  · cases b with
    | true => cases h
    | false =>
      refine ds_raise (fs := ["reason"]) hE ?_
      walk_at "d"
      exact ⟨by show 1 ≤ 1000; decide, qf rfl⟩
  · cases b with
    | true => walk_at "d"; exact qt rfl
    | false => cases h
end
end Mine
set_option Elab.async false
set_option linter.all false
set_option maxRecDepth 100000
set_option maxHeartbeats 4000000
namespace Mine
open PySem PySem.Spec PyProof.Rows L2 Ln Dl
abbrev s_is_arm : Stmt := topS 23
abbrev N_is_arm : List Str := ["value"]
theorem sc_is_arm : FnScope N_is_arm ["value"] (defScope s_is_arm) := ⟨rfl, rfl, rfl, by decide +kernel, rfl, by decide +kernel, by decide +kernel⟩
-- slots: 0 value
abbrev s_is_mass : Stmt := topS 22
abbrev N_is_mass : List Str := ["value"]
theorem sc_is_mass : FnScope N_is_mass ["value"] (defScope s_is_mass) := ⟨rfl, rfl, rfl, by decide +kernel, rfl, by decide +kernel, by decide +kernel⟩
-- slots: 0 value
abbrev s_is_item : Stmt := topS 21
abbrev N_is_item : List Str := ["value"]
theorem sc_is_item : FnScope N_is_item ["value"] (defScope s_is_item) := ⟨rfl, rfl, rfl, by decide +kernel, rfl, by decide +kernel, by decide +kernel⟩
-- slots: 0 value
abbrev s_is_plane : Stmt := topS 20
abbrev N_is_plane : List Str := ["value"]
theorem sc_is_plane : FnScope N_is_plane ["value"] (defScope s_is_plane) := ⟨rfl, rfl, rfl, by decide +kernel, rfl, by decide +kernel, by decide +kernel⟩
-- slots: 0 value
abbrev s_require_load : Stmt := topS 19
abbrev N_require_load : List Str := ["plane", "items", "part", "item"]
theorem sc_require_load : FnScope N_require_load ["plane", "items"] (defScope s_require_load) := ⟨rfl, rfl, rfl, by decide +kernel, rfl, by decide +kernel, by decide +kernel⟩
-- slots: 0 plane, 1 items, 2 part, 3 item
def el (d : PyData) (i : Nat) : PyData := match d with | .tuple ds => ds.getD i .none | _ => .none
theorem row2_ex {d : PyData} (h : rowB d 2 = true) : ∃ a b, d = .tuple [a, b] := by
  match d, h with
  | .tuple [a, b], _ => exact ⟨a, b, rfl⟩
  | .tuple [], h => cases h
  | .tuple [_], h => cases h
  | .tuple (_ :: _ :: _ :: l), h => simp [rowB] at h; omega
  | .none, h => cases h
  | .bool _, h => cases h
  | .int _, h => cases h
  | .str _, h => cases h
  | .list _, h => cases h
  | .dict _, h => cases h
theorem row3_ex {d : PyData} (h : rowB d 3 = true) : ∃ a b c, d = .tuple [a, b, c] := by
  match d, h with
  | .tuple [a, b, c], _ => exact ⟨a, b, c, rfl⟩
  | .tuple [], h => cases h
  | .tuple [_], h => cases h
  | .tuple [_, _], h => cases h
  | .tuple (_ :: _ :: _ :: _ :: l), h => simp [rowB] at h; omega
  | .none, h => cases h
  | .bool _, h => cases h
  | .int _, h => cases h
  | .str _, h => cases h
  | .list _, h => cases h
  | .dict _, h => cases h
theorem withinB_ex {d : PyData} {lo hi : Int} (h : withinB d lo hi = true) : ∃ i, d = .int i ∧ lo ≤ i ∧ i ≤ hi := by
  cases d <;> simp [withinB] at h
  exact ⟨_, rfl, h⟩
theorem strB_ex {d : PyData} (h : strB d = true) : ∃ x, d = .str x := by
  cases d <;> simp [strB] at h
  exact ⟨_, rfl⟩
abbrev armB (d : PyData) : Bool := withinB d (-1000000) 1000000
def massB (d : PyData) : Bool := rowB d 2 && (withinB (el d 0) 0 1000000 && armB (el d 1))
def itemB (d : PyData) : Bool := rowB d 2 && (strB (el d 0) && massB (el d 1))
def intOf (d : PyData) : Int := match d with | .int i => i | _ => 0
def planeB (d : PyData) : Bool := rowB d 3 && massB (el d 0) && !decide (intOf (el (el d 0) 0) = 0) && (armB (el d 1) && (armB (el d 2) && decide (intOf (el d 1) ≤ intOf (el d 2))))
def itemsB (d : PyData) : Bool := match d with | .tuple ds => ds.all itemB | _ => false
abbrev massD (m : Int × Int) : PyData := .tuple [.int m.1, .int m.2]
abbrev itD (x : Str × Int × Int) : PyData := .tuple [.str x.1, massD x.2]
abbrev itsD (xs : List (Str × Int × Int)) : PyData := .tuple (xs.map itD)
structure Pl where
  m : Int × Int
  f : Int
  t : Int
abbrev plD (p : Pl) : PyData := .tuple [massD p.m, .int p.f, .int p.t]
structure GoodP (p : Pl) : Prop where
  w : 0 < p.m.1 ∧ p.m.1 ≤ 1000000
  a : -1000000 ≤ p.m.2 ∧ p.m.2 ≤ 1000000
  f : -1000000 ≤ p.f ∧ p.f ≤ 1000000
  t : -1000000 ≤ p.t ∧ p.t ≤ 1000000
  o : p.f ≤ p.t
structure GoodI (xs : List (Str × Int × Int)) : Prop where
  l : xs.length ≤ 60
  n : (xs.map Prod.fst).Nodup
  z : ∀ x ∈ xs, (0 ≤ x.2.1 ∧ x.2.1 ≤ 1000000) ∧ -1000000 ≤ x.2.2 ∧ x.2.2 ≤ 1000000
theorem massB_ex {d : PyData} (h : massB d = true) : ∃ m : Int × Int, d = massD m ∧ (0 ≤ m.1 ∧ m.1 ≤ 1000000) ∧ -1000000 ≤ m.2 ∧ m.2 ≤ 1000000 := by
  simp only [massB, Bool.and_eq_true] at h
  obtain ⟨a, b, rfl⟩ := row2_ex h.1
  obtain ⟨i, e1, h1⟩ := withinB_ex h.2.1
  obtain ⟨j, e2, h2⟩ := withinB_ex h.2.2
  have e1 : a = .int i := e1
  have e2 : b = .int j := e2
  subst e1 e2
  exact ⟨(i, j), rfl, h1, h2⟩
theorem massB_of {m : Int × Int} (h : (0 ≤ m.1 ∧ m.1 ≤ 1000000) ∧ -1000000 ≤ m.2 ∧ m.2 ≤ 1000000) : massB (massD m) = true := by
  simp [massB, rowB, el, withinB]
  omega
theorem itemB_ex {d : PyData} (h : itemB d = true) : ∃ x : Str × Int × Int, d = itD x ∧ (0 ≤ x.2.1 ∧ x.2.1 ≤ 1000000) ∧ -1000000 ≤ x.2.2 ∧ x.2.2 ≤ 1000000 := by
  simp only [itemB, Bool.and_eq_true] at h
  obtain ⟨a, b, rfl⟩ := row2_ex h.1
  obtain ⟨x, e1⟩ := strB_ex h.2.1
  obtain ⟨m, e2, h2⟩ := massB_ex h.2.2
  have e1 : a = .str x := e1
  have e2 : b = massD m := e2
  subst e1 e2
  exact ⟨(x, m), rfl, h2⟩
theorem itemB_of {x : Str × Int × Int} (h : (0 ≤ x.2.1 ∧ x.2.1 ≤ 1000000) ∧ -1000000 ≤ x.2.2 ∧ x.2.2 ≤ 1000000) : itemB (itD x) = true := by
  show (true && (true && massB (massD x.2))) = true
  rw [massB_of h]; rfl
theorem planeB_ex {d : PyData} (h : planeB d = true) : ∃ p, d = plD p ∧ GoodP p := by
  simp only [planeB, Bool.and_eq_true] at h
  obtain ⟨⟨⟨h0, h1⟩, h2⟩, h3, h4, h5⟩ := h
  obtain ⟨a, b, c, rfl⟩ := row3_ex h0
  obtain ⟨m, e1, hm⟩ := massB_ex h1
  obtain ⟨i, e2, hi⟩ := withinB_ex h3
  obtain ⟨j, e3, hj⟩ := withinB_ex h4
  have e1 : a = massD m := e1
  have e2 : b = .int i := e2
  have e3 : c = .int j := e3
  subst e1 e2 e3
  have h2 : ¬ m.1 = 0 := by simpa [el, intOf] using h2
  have h5 : i ≤ j := by simpa [el, intOf] using h5
  exact ⟨⟨m, i, j⟩, rfl, ⟨by show 0 < m.1; omega, hm.1.2⟩, hm.2, hi, hj, h5⟩
theorem planeB_of {p : Pl} (h : GoodP p) : planeB (plD p) = true := by
  have h1 := massB_of (m := p.m) ⟨⟨by have := h.w; omega, h.w.2⟩, h.a⟩
  have h2 : decide (p.m.1 = 0) = false := decide_eq_false (by have := h.w; omega)
  have h3 : armB (.int p.f) = true := by simpa [withinB] using h.f
  have h4 : armB (.int p.t) = true := by simpa [withinB] using h.t
  have h5 : decide (p.f ≤ p.t) = true := decide_eq_true h.o
  show (true && massB (massD p.m) && !decide (p.m.1 = 0) && (armB (.int p.f) && (armB (.int p.t) && decide (p.f ≤ p.t)))) = true
  rw [h1, h2, h3, h4, h5]; rfl
theorem itemsB_ex : ∀ {ds : List PyData}, ds.all itemB = true → ∃ xs : List (Str × Int × Int), ds = xs.map itD ∧ ∀ x ∈ xs, (0 ≤ x.2.1 ∧ x.2.1 ≤ 1000000) ∧ -1000000 ≤ x.2.2 ∧ x.2.2 ≤ 1000000
  | [], _ => ⟨[], rfl, by simp⟩
  | d :: ds, h => by
    rw [List.all_cons, Bool.and_eq_true] at h
    obtain ⟨x, rfl, hx⟩ := itemB_ex h.1
    obtain ⟨xs, rfl, hxs⟩ := itemsB_ex h.2
    exact ⟨x :: xs, rfl, fun y hy => by
      rcases List.mem_cons.mp hy with e | hy
      · rw [e]; exact hx
      · exact hxs y hy⟩
def itsOf (d : PyData) : List (Str × Int × Int) := match d with | .tuple ds => ds.map (fun x => match x with | .tuple [.str a, .tuple [.int i, .int j]] => (a, i, j) | _ => (Str.ofString "", 0, 0)) | _ => []
theorem itsOf_itsD (xs : List (Str × Int × Int)) : itsOf (itsD xs) = xs := by
  show (xs.map itD).map _ = xs
  rw [List.map_map]
  exact (List.map_congr_left fun _ _ => rfl).trans (List.map_id xs)
theorem itsD_inj {xs ys : List (Str × Int × Int)} (h : itsD xs = itsD ys) : xs = ys := by
  have := congrArg itsOf h
  rwa [itsOf_itsD, itsOf_itsD] at this
/-- what is wrong with a load -/
def reqL (p i : PyData) : Option Str :=
  if planeB p = false then some "plane" else if (shortB i 60 && itemsB i) = false then some "items" else if ((itsOf i).map Prod.fst).Nodup then none else some "items"
theorem reqL_none {p i : PyData} (h : reqL p i = none) : ∃ pl xs, p = plD pl ∧ i = itsD xs ∧ GoodP pl ∧ GoodI xs := by
  unfold reqL at h
  by_cases c1 : planeB p = false
  · rw [if_pos c1] at h; cases h
  rw [if_neg c1] at h
  by_cases c2 : (shortB i 60 && itemsB i) = false
  · rw [if_pos c2] at h; cases h
  rw [if_neg c2] at h
  by_cases c3 : ((itsOf i).map Prod.fst).Nodup
  · obtain ⟨pl, rfl, hp⟩ := planeB_ex (Bool.not_eq_false _ ▸ c1)
    have c2 := (Bool.not_eq_false _ ▸ c2 : (shortB i 60 && itemsB i) = true)
    rw [Bool.and_eq_true] at c2
    match i, c2 with
    | .tuple ds, c2 =>
      obtain ⟨xs, rfl, hx⟩ := itemsB_ex c2.2
      have c3 : ((itsOf (itsD xs)).map Prod.fst).Nodup := c3
      rw [itsOf_itsD] at c3
      have := c2.1
      simp [shortB] at this
      exact ⟨pl, xs, rfl, rfl, hp, by omega, c3, hx⟩
  · rw [if_neg c3] at h; cases h
theorem itemsB_of {xs : List (Str × Int × Int)} (h : GoodI xs) : (shortB (itsD xs) 60 && itemsB (itsD xs)) = true := by
  have h1 : shortB (itsD xs) 60 = true := by
    have := h.l
    simp [shortB]; omega
  have h2 : itemsB (itsD xs) = true := by
    show (xs.map itD).all itemB = true
    rw [List.all_map, List.all_eq_true]
    exact fun x hx => itemB_of (h.z x hx)
  rw [h1, h2]; rfl
theorem reqL_good {pl : Pl} {xs : List (Str × Int × Int)} (hp : GoodP pl) (h : GoodI xs) : reqL (plD pl) (itsD xs) = none := by
  unfold reqL
  rw [planeB_of hp, itemsB_of h, itsOf_itsD, if_neg (by decide), if_neg (by decide), if_pos h.n]
structure BalTxt (mg : Str → Option Value) : Prop extends DTxt mg where
  g_MAX_COIN : ∃ u, mg "MAX_COIN" = some u ∧ RelV (.int 1000000) u
  g_MAX_ITEMS : ∃ u, mg "MAX_ITEMS" = some u ∧ RelV (.int 60) u
section
variable {P : Program} {w : World} {K : PySem.W.Frag} {mg : Str → Option Value} {base : Heap} {C fI : Addr}
def wArm : Wt := fun as k _ => ∃ d, as = [.dat d] ∧ flatK d = true ∧ k (.v (.dat (.bool (armB d))))
theorem ok_arm {f : Addr} {fd : FuncData} (F : Fun K "is_arm" "is_arm" s_is_arm f fd) (T : BalTxt mg) (c_is_within : Cg P w K mg base CX0 2 "is_within" (spP K 3 wWithin)) : FnG P w K mg base CX0 3 f fd ["value"] (spP K 1 wArm) := by
  refine okP F sc_is_arm rfl fun cdv A outer s H E hG hr => ⟨_, (pss_one (ps_ret (pe_cg c_is_within hr (by decide) hG (by rfl) (pa_cons (pv 0) (pa_cons (pe_un un_neg (pe_gl (by rfl) T.g_MAX_COIN)) (pa_cons (pe_gl (by rfl) T.g_MAX_COIN) pa_nil)))))), fun F0 H0 as k ke hl hw => ?_⟩
  obtain ⟨d, rfl, hn, q⟩ := hw
  change Ds _ [_] _ _ _
  walk_at "d"
  refine ⟨d, _, _, rfl, hn, ?_⟩
  walk_at "d"
  exact q
def wMass : Wt := fun as k _ => ∃ d, as = [.dat d] ∧ noLd d = true ∧ k (.v (.dat (.bool (massB d))))
theorem ok_mass {f : Addr} {fd : FuncData} (F : Fun K "is_mass" "is_mass" s_is_mass f fd) (T : BalTxt mg) (c_is_row : Cg P w K mg base CX0 1 "is_row" (spP K 2 wIsRow)) (c_is_within : Cg P w K mg base CX0 2 "is_within" (spP K 3 wWithin)) (c_is_arm : Cg P w K mg base CX0 3 "is_arm" (spP K 1 wArm)) : FnG P w K mg base CX0 4 f fd ["value"] (spP K 1 wMass) := by
  refine okP F sc_is_mass rfl fun cdv A outer s H E hG hr => ⟨_, (pss_one (ps_ret (pe_and (pe_cg c_is_row hr (by decide) hG (by rfl) (pa_cons (pv 0) (pa_cons pe_int pa_nil))) (pe_and (pe_cg c_is_within hr (by decide) hG (by rfl) (pa_cons (pe_ix (r := rIxT K) ix_tup (pv 0) pe_int (fun _ _ => rfl)) (pa_cons pe_int (pa_cons (pe_gl (by rfl) T.g_MAX_COIN) pa_nil)))) (pe_one (pe_cg c_is_arm hr (by decide) hG (by rfl) (pa_cons (pe_ix (r := rIxT K) ix_tup (pv 0) pe_int (fun _ _ => rfl)) pa_nil))))))), fun F0 H0 as k ke hl hw => ?_⟩
  obtain ⟨d, rfl, hn, q⟩ := hw
  unfold massB at q
  change Ds _ [_] _ _ _
  walk_at "d"
  refine ⟨d, 2, rfl, flat_of hn, ?_⟩
  walk_at "d"
  refine ifB (fun h => ?_) (fun h => by rw [h] at q; exact q)
  rw [h] at q
  obtain ⟨a, b, rfl⟩ := row2_ex h
  simp only [noLd, noLds, Bool.and_eq_true] at hn
  have q : k (.v (.dat (.bool (withinB a 0 1000000 && armB b)))) := q
  walk_at "d"
  refine ⟨a, rfl, ?_⟩
  walk_at "d"
  refine ⟨a, 0, 1000000, rfl, flat_of hn.1, ?_⟩
  walk_at "d"
  refine ifB (fun h => ?_) (fun h => by rw [h] at q; exact q)
  rw [h] at q
  walk_at "d"
  refine ⟨b, rfl, ?_⟩
  walk_at "d"
  refine ⟨b, rfl, flat_of hn.2.1, ?_⟩
  walk_at "d"
  exact q
def wItem : Wt := fun as k _ => ∃ d, as = [.dat d] ∧ noLd d = true ∧ k (.v (.dat (.bool (itemB d))))
theorem ok_item {f : Addr} {fd : FuncData} (F : Fun K "is_item" "is_item" s_is_item f fd) (T : BalTxt mg) (c_is_row : Cg P w K mg base CX0 1 "is_row" (spP K 2 wIsRow)) (c_is_mass : Cg P w K mg base CX0 4 "is_mass" (spP K 1 wMass)) : FnG P w K mg base CX0 5 f fd ["value"] (spP K 1 wItem) := by
  refine okP F sc_is_item rfl fun cdv A outer s H E hG hr => ⟨_, (pss_one (ps_ret (pe_and (pe_cg c_is_row hr (by decide) hG (by rfl) (pa_cons (pv 0) (pa_cons pe_int pa_nil))) (pe_and (pe_callB (r := rIsi K) (id := "isinstance") call_isi (by rfl) T.z_isinstance (by decide +kernel) (pa_cons (pe_ix (r := rIxT K) ix_tup (pv 0) pe_int (fun _ _ => rfl)) (pa_cons (pe_bltn (v := .ty "str") (u := .type "str") (by rfl) T.z_str (by decide +kernel) rfl) pa_nil))) (pe_one (pe_cg c_is_mass hr (by decide) hG (by rfl) (pa_cons (pe_ix (r := rIxT K) ix_tup (pv 0) pe_int (fun _ _ => rfl)) pa_nil))))))), fun F0 H0 as k ke hl hw => ?_⟩
  obtain ⟨d, rfl, hn, q⟩ := hw
  unfold itemB at q
  change Ds _ [_] _ _ _
  walk_at "d"
  refine ⟨d, 2, rfl, flat_of hn, ?_⟩
  walk_at "d"
  refine ifB (fun h => ?_) (fun h => by rw [h] at q; exact q)
  rw [h] at q
  obtain ⟨a, b, rfl⟩ := row2_ex h
  simp only [noLd, noLds, Bool.and_eq_true] at hn
  have q : k (.v (.dat (.bool (strB a && massB b)))) := q
  have fa := flat_of hn.1
  walk_at "d"
  refine ⟨a, rfl, ?_⟩
  cases a <;> first | (cases fa; done) | (walk_at "d"; exact q) | skip
  walk_at "d"
  refine ⟨b, rfl, ?_⟩
  walk_at "d"
  refine ⟨b, rfl, hn.2.1, ?_⟩
  walk_at "d"
  exact q
def wPlane : Wt := fun as k _ => ∃ d, as = [.dat d] ∧ noLd d = true ∧ k (.v (.dat (.bool (planeB d))))
theorem ok_plane {f : Addr} {fd : FuncData} (F : Fun K "is_plane" "is_plane" s_is_plane f fd) (T : BalTxt mg) (c_is_row : Cg P w K mg base CX0 1 "is_row" (spP K 2 wIsRow)) (c_is_mass : Cg P w K mg base CX0 4 "is_mass" (spP K 1 wMass)) (c_is_arm : Cg P w K mg base CX0 3 "is_arm" (spP K 1 wArm)) : FnG P w K mg base CX0 5 f fd ["value"] (spP K 1 wPlane) := by
  refine okP F sc_is_plane rfl fun cdv A outer s H E hG hr => ⟨_, (pss_cons (ps_if (PW.pt (pw_or (pt_not (pt_val (pe_cg c_is_row hr (by decide) hG (by rfl) (pa_cons (pv 0) (pa_cons pe_int pa_nil))))) (pw_or (pt_not (pt_val (pe_cg c_is_mass hr (by decide) hG (by rfl) (pa_cons (pe_ix (r := rIxT K) ix_tup (pv 0) pe_int (fun _ _ => rfl)) pa_nil)))) (pw_or1 (pt_cmpR op_eq (pe_ix (r := rIxT K) ix_tup (pe_ix (r := rIxT K) ix_tup (pv 0) pe_int (fun _ _ => rfl)) pe_int (fun _ _ => rfl)) pe_int (nomark _))))))
    (pss_one (ps_ret pe_bl))
    pss_nil)
    (pss_one (ps_ret (pe_and (pe_cg c_is_arm hr (by decide) hG (by rfl) (pa_cons (pe_ix (r := rIxT K) ix_tup (pv 0) pe_int (fun _ _ => rfl)) pa_nil)) (pe_and (pe_cg c_is_arm hr (by decide) hG (by rfl) (pa_cons (pe_ix (r := rIxT K) ix_tup (pv 0) pe_int (fun _ _ => rfl)) pa_nil)) (pe_one (pe_cmpR op_le (pe_ix (r := rIxT K) ix_tup (pv 0) pe_int (fun _ _ => rfl)) (pe_ix (r := rIxT K) ix_tup (pv 0) pe_int (fun _ _ => rfl)) (nomark _)))))))), fun F0 H0 as k ke hl hw => ?_⟩
  obtain ⟨d, rfl, hn, q⟩ := hw
  unfold planeB at q
  change Ds _ [_] _ _ _
  walk_at "d"
  refine ⟨d, 3, rfl, flat_of hn, ?_⟩
  walk_at "d"
  refine ifB (fun h => ?_) (fun h => ?_)
  · rw [show rowB d 3 = false by simpa using h] at q
    walk_at "d"
    exact q
  have h : rowB d 3 = true := by simpa using h
  rw [h] at q
  obtain ⟨a, b, c, rfl⟩ := row3_ex h
  simp only [noLd, noLds, Bool.and_eq_true] at hn
  have q : k (.v (.dat (.bool (massB a && !decide (intOf (el a 0) = 0) && (armB b && (armB c && decide (intOf b ≤ intOf c))))))) := q
  walk_at "d"
  refine ⟨a, rfl, ?_⟩
  walk_at "d"
  refine ⟨a, rfl, hn.1, ?_⟩
  walk_at "d"
  refine ifB (fun h => ?_) (fun h => ?_)
  · rw [show massB a = false by simpa using h] at q
    walk_at "d"
    exact q
  have h : massB a = true := by simpa using h
  rw [h] at q
  obtain ⟨m, rfl, hm⟩ := massB_ex h
  have q : k (.v (.dat (.bool (!decide (m.1 = 0) && (armB b && (armB c && decide (intOf b ≤ intOf c))))))) := q
  walk_at "d"
  refine ⟨massD m, rfl, ?_⟩
  walk_at "d"
  refine ⟨.int m.1, rfl, ?_⟩
  walk_at "d"
  refine ifP (fun h => ?_) (fun h => ?_)
  · rw [decide_eq_true h] at q
    walk_at "d"
    exact q
  rw [decide_eq_false h] at q
  walk_at "d"
  refine ⟨b, rfl, ?_⟩
  walk_at "d"
  refine ⟨b, rfl, flat_of hn.2.1, ?_⟩
  walk_at "d"
  refine ifB (fun h => ?_) (fun h => by rw [h] at q; exact q)
  rw [h] at q
  obtain ⟨i, rfl, hi⟩ := withinB_ex h
  walk_at "d"
  refine ⟨c, rfl, ?_⟩
  walk_at "d"
  refine ⟨c, rfl, flat_of hn.2.2.1, ?_⟩
  walk_at "d"
  refine ifB (fun h => ?_) (fun h => by rw [h] at q; exact q)
  rw [h] at q
  obtain ⟨j, rfl, hj⟩ := withinB_ex h
  walk_at "d"
  refine ⟨_, rfl, ?_⟩
  walk_at "d"
  refine ⟨_, rfl, ?_⟩
  walk_at "d"
  exact q
def wReqL (C : Addr) : Wt := fun as k ke => ∃ p i, as = [.dat p, .dat i] ∧ noLd p = true ∧ noLd i = true ∧ (reqL p i = none → k (.v (.dat .none))) ∧ ∀ x, reqL p i = some x → ke C (rsn x)
theorem ok_reqL {f : Addr} {fd : FuncData} (F : Fun K "require_load" "require_load" s_require_load f fd) (T : BalTxt mg) (c_is_plane : Cg P w K mg base CX0 5 "is_plane" (spP K 1 wPlane)) (c_is_short : Cg P w K mg base CX0 1 "is_short" (spP K 2 wIsShort)) (c_is_item : Cg P w K mg base CX0 5 "is_item" (spP K 1 wItem)) (c_are_unlike : Cg P w K mg base CX0 1 "are_unlike" (spP K 1 wUnlike)) (c_require : Cg P w K mg base (L2.CX P w) 3 "require" (spP K 2 (wRequire C))) :
    FnG P w K mg base (L2.CX P w) 6 f fd ["plane", "items"] (spP K 2 (wReqL C)) := by
  refine okPX F sc_require_load rfl fun cdv A outer s H E hG hr => ?_
  have tk0 : Takes (cxOf (L2.CX P w) P w K mg base N_require_load "require_load" (defScope s_require_load) f cdv A outer s H E) (fun cls d _ H => E cls d H) := takes_of rfl rfl rfl rfl
  refine ⟨_, (pss_cons (ps_expr (pe_cgS c_require hr (by decide) hG (fun _ => passE tk0) (by rfl) (pa_cons (pe_cg c_is_plane hr (by decide) hG (by rfl) (pa_cons (pv 0) pa_nil)) (pa_cons pe_str pa_nil))))
    (pss_cons (ps_expr (pe_cgS c_require hr (by decide) hG (fun _ => passE tk0) (by rfl) (pa_cons (pe_and (pe_cg c_is_short hr (by decide) hG (by rfl) (pa_cons (pv 1) (pa_cons (pe_gl (by rfl) T.g_MAX_ITEMS) pa_nil))) (pe_one (pe_callB (r := rAll K) (id := "all") (cr_all rfl) (by rfl) T.z_all (by decide +kernel) (pa_cons (pe_lc (own := [("part", 2)]) rfl sc_require_load.nd (pi_tup (pv 1)) (blkOk_by (own := [("part", 2)]) (N := N_require_load) (sc := defScope s_require_load) (by decide +kernel)) (fun _ _ _ _ _ => (pg_name (i := 2) sc_require_load.nd rfl (.inl rfl))) (fun _ _ _ _ _ => pts_nil) (fun _ _ _ _ _ => (pe_cg c_is_item hr (by decide) hG (by rfl) (pa_cons (pv 2) pa_nil)))) pa_nil)))) (pa_cons pe_str pa_nil))))
    (pss_one (ps_expr (pe_cgS c_require hr (by decide) hG (fun _ => passE tk0) (by rfl) (pa_cons (pe_cg c_are_unlike hr (by decide) hG (by rfl) (pa_cons (pe_lc (own := [("item", 3)]) rfl sc_require_load.nd (pi_tup (pv 1)) (blkOk_by (own := [("item", 3)]) (N := N_require_load) (sc := defScope s_require_load) (by decide +kernel)) (fun _ _ _ _ _ => (pg_name (i := 3) sc_require_load.nd rfl (.inl rfl))) (fun _ _ _ _ _ => pts_nil) (fun _ _ _ _ _ => (pe_ix (r := rIxT K) ix_tup (pv 3) pe_int (fun _ _ => rfl)))) pa_nil)) (pa_cons pe_str pa_nil))))))), fun F0 H0 as k ke hl hw hE => ?_⟩
  obtain ⟨p, i, rfl, np, ni, qn, qx⟩ := hw
  haveI := EkI.of hE
  change Ds _ [_, _, _, _] _ _ _
  walk_at "d"
  refine ⟨p, rfl, np, ?_⟩
  walk_at "d"
  refine ⟨_, _, rfl, fun h1 => ?_, fun h1 => qx _ (by unfold reqL; rw [if_pos h1])⟩
  walk_at "d"
  refine ⟨i, 60, rfl, flat_of ni, ?_⟩
  have no : (shortB i 60 && itemsB i) = false → ke C (rsn "items") := fun h => qx _ (by unfold reqL; rw [h1, h]; rfl)
  walk_at "d"
  refine ifB (fun h3 => ?_) (fun h3 => ?_)
  · match i, h3 with
    | .tuple ds, h3 =>
      have hl : (ds.length : Int) ≤ 60 := by simpa [shortB] using h3
      walk_at "d"
      refine dl_mapD ?_
      walk_at "d"
      refine ⟨by rw [sizeLine_eq]; omega, fun d => .dat (.bool (itemB d)), fun i x hx => ?_, ds.map itemB, by rw [List.map_map]; rfl, ?_⟩
      · walk_at "d"
        refine ⟨_, rfl, noLds_mem (by simpa only [noLd_tup] using ni) x (List.mem_of_getElem? hx), ?_⟩
        walk_at "d"
        rfl
      walk_at "d"
      rw [List.all_map]
      refine ⟨_, _, rfl, fun h4 => ?_, fun h4 => no (by rw [h3]; exact h4)⟩
      have h4 : ds.all itemB = true := h4
      obtain ⟨xs, rfl, hg⟩ := itemsB_ex h4
      walk_at "d"
      refine dl_map ?_
      walk_at "d"
      rw [List.length_map] at hl
      refine ⟨by rw [List.length_map, sizeLine_eq]; omega, _, xs, itD, fun g => .dat (.str g.1), rfl, fun i x hx => ?_, (xs.map Prod.fst).map .str, by rw [List.map_map, List.map_map]; rfl, ?_⟩
      · walk_at "d"
        refine ⟨_, rfl, ?_⟩
        walk_at "d"
        rfl
      walk_at "d"
      refine ⟨_, _, rfl, .inr rfl, by rw [List.length_map]; omega, ?_⟩
      walk_at "d"
      have e : reqL p (itsD xs) = if (xs.map Prod.fst).Nodup then none else some (Str.ofString "items") := by
        unfold reqL
        rw [h1, h3, itsOf_itsD, show itemsB (itsD xs) = true from h4, if_neg (by decide), if_neg (by decide)]
      rw [e] at qn qx
      refine ⟨_, _, rfl, fun h5 => ?_, fun h5 => ?_⟩
      · walk_at "d"
        exact qn (by rw [if_pos (of_decide_eq_true h5)])
      · exact qx _ (by rw [if_neg (of_decide_eq_false h5)])
    | .none, h => cases h
    | .bool _, h => cases h
    | .int _, h => cases h
    | .str _, h => cases h
    | .list _, h => cases h
    | .dict _, h => cases h
  · walk_at "d"
    exact ⟨_, _, rfl, (fun z => by cases z), fun _ => no (by rw [h3]; rfl)⟩
end
end Mine
set_option Elab.async false
set_option linter.all false
set_option maxRecDepth 100000
set_option maxHeartbeats 4000000
namespace Mine
open PySem PySem.Spec PyProof.Rows L2 Ln Dl
abbrev s_pull_of : Stmt := topS 24
abbrev N_pull_of : List Str := ["plane", "mass", "side", "weight", "arm"]
theorem sc_pull_of : FnScope N_pull_of ["plane", "mass", "side"] (defScope s_pull_of) := ⟨rfl, rfl, rfl, by decide +kernel, rfl, by decide +kernel, by decide +kernel⟩
-- slots: 0 plane, 1 mass, 2 side, 3 weight, 4 arm
abbrev s_pulls_of : Stmt := topS 25
abbrev N_pulls_of : List Str := ["plane", "items", "side", "_", "mass"]
theorem sc_pulls_of : FnScope N_pulls_of ["plane", "items", "side"] (defScope s_pulls_of) := ⟨rfl, rfl, rfl, by decide +kernel, rfl, by decide +kernel, by decide +kernel⟩
-- slots: 0 plane*, 1 items, 2 side*, 3 _, 4 mass
abbrev s_pulling_most : Stmt := topS 26
abbrev N_pulling_most : List Str := ["items", "most", "pulls", "order", "place", "pull", "away", "_", "name"]
theorem sc_pulling_most : FnScope N_pulling_most ["items", "most", "pulls"] (defScope s_pulling_most) := ⟨rfl, rfl, rfl, by decide +kernel, rfl, by decide +kernel, by decide +kernel⟩
-- slots: 0 items, 1 most, 2 pulls, 3 order, 4 place, 5 pull, 6 away*, 7 _, 8 name
abbrev s_slack_without : Stmt := topS 27
abbrev N_slack_without : List Str := ["plane", "items", "side", "away", "aboard", "name", "mass"]
theorem sc_slack_without : FnScope N_slack_without ["plane", "items", "side", "away"] (defScope s_slack_without) := ⟨rfl, rfl, rfl, by decide +kernel, rfl, by decide +kernel, by decide +kernel⟩
-- slots: 0 plane*, 1 items, 2 side*, 3 away*, 4 aboard, 5 name, 6 mass
abbrev s_are_away : Stmt := topS 29
abbrev N_are_away : List Str := ["items", "most", "names", "known", "name", "_"]
theorem sc_are_away : FnScope N_are_away ["items", "most", "names"] (defScope s_are_away) := ⟨rfl, rfl, rfl, by decide +kernel, rfl, by decide +kernel, by decide +kernel⟩
-- slots: 0 items, 1 most, 2 names, 3 known*, 4 name, 5 _
abbrev s_is_order : Stmt := topS 31
abbrev N_is_order : List Str := ["items", "value", "name", "_"]
theorem sc_is_order : FnScope N_is_order ["items", "value"] (defScope s_is_order) := ⟨rfl, rfl, rfl, by decide +kernel, rfl, by decide +kernel, by decide +kernel⟩
-- slots: 0 items, 1 value, 2 name, 3 _
def sideS (b : Bool) : Str := if b then Str.ofString "fore" else Str.ofString "aft"
abbrev sdD (b : Bool) : PyData := .str (sideS b)
def pullF (p : Pl) (b : Bool) (m : Int × Int) : Int := if b then m.1 * (m.2 - p.f) else m.1 * (p.t - m.2)
def pullsF (p : Pl) (xs : List (Str × Int × Int)) (b : Bool) : List Int := xs.map fun x => pullF p b x.2
/-- the places that pull, in the order in which they are left behind -/
def candP (us : List Int) : List (Int × Int) := (us.zipIdx.filter fun p => decide (0 < p.1)).map fun p => (-p.1, (p.2 : Int))
theorem ordP_ex (us : List Int) : ∃ ys : List (Int × Int), sortD false ((candP us).map entD) = ys.map entD ∧ ys.Perm (candP us) ∧ ys.Pairwise fun a b => ¬ ltE b a := sort_ents _
noncomputable def ordP (us : List Int) : List (Int × Int) := (ordP_ex us).choose
theorem ordP_eq (us : List Int) : sortD false ((candP us).map entD) = (ordP us).map entD := (ordP_ex us).choose_spec.1
theorem ordP_perm (us : List Int) : (ordP us).Perm (candP us) := (ordP_ex us).choose_spec.2.1
theorem ordP_pw (us : List Int) : (ordP us).Pairwise fun a b => ¬ ltE b a := (ordP_ex us).choose_spec.2.2
noncomputable def placesF (us : List Int) (n : Nat) : List Int := ((ordP us).take n).map Prod.snd
noncomputable def awayF (xs : List (Str × Int × Int)) (us : List Int) (n : Nat) : List Str := (xs.zipIdx.filter fun p => decide ((p.2 : Int) ∈ placesF us n)).map fun p => p.1.1
def slackF (p : Pl) (xs : List (Str × Int × Int)) (b : Bool) (away : List Str) : Int := pullF p b p.m + ((xs.filter fun x => !decide (x.1 ∈ away)).map fun x => pullF p b x.2).sum
theorem sideS_tt : sideS true = Str.ofString "fore" := rfl
theorem sideS_ff : sideS false = Str.ofString "aft" := rfl
def strsOf (ds : List PyData) : List Str := ds.map fun d => match d with | .str x => x | _ => Str.ofString ""
theorem strs_ex : ∀ {ds : List PyData}, ds.all strB = true → ds = (strsOf ds).map .str
  | [], _ => rfl
  | d :: ds, h => by
    rw [List.all_cons, Bool.and_eq_true] at h
    obtain ⟨x, rfl⟩ := strB_ex h.1
    show PyData.str x :: ds = PyData.str x :: (strsOf ds).map .str
    rw [← strs_ex h.2]
theorem strsOf_strs (xs : List Str) : strsOf (xs.map .str) = xs := by
  unfold strsOf
  rw [List.map_map]
  exact (List.map_congr_left fun _ _ => rfl).trans (List.map_id xs)
theorem strsB_strs (xs : List Str) : strsB (.tuple (xs.map .str)) = true := by
  show (xs.map PyData.str).all strB = true
  rw [List.all_map]; exact List.all_eq_true.mpr fun _ _ => rfl
def awayB (xs : List (Str × Int × Int)) (n : Nat) (ds : List PyData) : Bool := decide (ds.length ≤ n) && (ds.all strB && (decide (strsOf ds).Nodup && (strsOf ds).all fun z => decide (z ∈ xs.map Prod.fst)))
section
variable {P : Program} {w : World} {K : PySem.W.Frag} {mg : Str → Option Value} {base : Heap} {C fI : Addr}
def wPull : Wt := fun as k _ => ∃ (p : Pl) (m : Int × Int) (b : Bool), as = [.dat (plD p), .dat (massD m), .dat (sdD b)] ∧ (-(2 ^ 64) < m.1 ∧ m.1 < 2 ^ 64) ∧ k (.v (.dat (.int (pullF p b m))))
theorem ok_pull {f : Addr} {fd : FuncData} (F : Fun K "pull_of" "pull_of" s_pull_of f fd) : FnG P w K mg base CX0 1 f fd ["plane", "mass", "side"] (spP K 3 wPull) := by
  refine okP F sc_pull_of rfl fun cdv A outer s H E hG hr => ⟨_, (pss_cons (ps_asg (pv 1) (pg_tup (by rfl) (pgs_cons (pg_name (i := 3) sc_pull_of.nd rfl (.inl rfl)) (pgs_cons (pg_name (i := 4) sc_pull_of.nd rfl (.inl rfl)) pgs_nil))))
    (pss_cons (ps_if (pt_cmpR op_eq (pv 2) pe_str (nomark _))
    (pss_one (ps_ret (pe_op op_mul (pv 3) (pe_op op_sub (pv 4) (pe_ix (r := rIxT K) ix_tup (pv 0) pe_int (fun _ _ => rfl))))))
    pss_nil)
    (pss_one (ps_ret (pe_op op_mul (pv 3) (pe_op op_sub (pe_ix (r := rIxT K) ix_tup (pv 0) pe_int (fun _ _ => rfl)) (pv 4))))))), fun F0 H0 as k ke hl hw => ?_⟩
  obtain ⟨p, m, b, rfl, hm, q⟩ := hw
  change Ds _ [_, _, _, _, _] _ _ _
  walk_at "d"
  cases b with
  | true =>
    rw [sideS_tt]
    refine ifT rfl ?_
    walk_at "d"
    refine ⟨_, rfl, ?_⟩
    walk_at "d"
    refine ⟨.inl hm, ?_⟩
    walk_at "d"
    exact q
  | false =>
    rw [sideS_ff]
    refine ifF (by decide +kernel) ?_
    walk_at "d"
    refine ⟨_, rfl, ?_⟩
    walk_at "d"
    refine ⟨.inl hm, ?_⟩
    walk_at "d"
    exact q
theorem wt_ok {xs : List (Str × Int × Int)} (h : GoodI xs) {x : Str × Int × Int} (m : x ∈ xs) : -(2 ^ 64) < x.2.1 ∧ x.2.1 < 2 ^ 64 := by
  have := (h.z x m).1
  omega
theorem wp_ok {p : Pl} (h : GoodP p) : -(2 ^ 64) < p.m.1 ∧ p.m.1 < 2 ^ 64 := by
  have := h.w
  omega
def wPulls : Wt := fun as k _ => ∃ (p : Pl) (xs : List (Str × Int × Int)) (b : Bool), as = [.dat (plD p), .dat (itsD xs), .dat (sdD b)] ∧ GoodI xs ∧ k (.l ((pullsF p xs b).map fun i => .dat (.int i)))
theorem ok_pulls {f : Addr} {fd : FuncData} (F : Fun K "pulls_of" "pulls_of" s_pulls_of f fd) (c_pull_of : Cg P w K mg base CX0 1 "pull_of" (spP K 3 wPull)) : FnG P w K mg base CX0 2 f fd ["plane", "items", "side"] (spP K 3 wPulls) := by
  refine okP F sc_pulls_of rfl fun cdv A outer s H E hG hr => ⟨_, (pss_one (ps_ret (pe_lc (own := [("_", 3), ("mass", 4)]) (g := (gTup K 2 (gCons (gName 3) (gCons (gName 4) gNil)))) rfl sc_pulls_of.nd (pi_tup (pv 1)) (blkOk_by (own := [("_", 3), ("mass", 4)]) (N := N_pulls_of) (sc := defScope s_pulls_of) (by decide +kernel)) (fun _ _ _ _ _ => (pg_tup (by rfl) (pgs_cons (pg_name (i := 3) sc_pulls_of.nd rfl (.inl rfl)) (pgs_cons (pg_name (i := 4) sc_pulls_of.nd rfl (.inl rfl)) pgs_nil)))) (fun _ _ _ _ _ => pts_nil) (fun _ _ _ _ _ => (pe_cg c_pull_of hr (by decide) hG (by rfl) (pa_cons (pv 0) (pa_cons (pv 4) (pa_cons (pv 2) pa_nil)))))))), fun F0 H0 as k ke hl hw => ?_⟩
  obtain ⟨p, xs, b, rfl, hx, q⟩ := hw
  change Ds _ [_, _, _, _, _] _ _ _
  walk_at "d"
  refine dl_map ?_
  walk_at "d"
  refine ⟨by rw [List.length_map, sizeLine_eq]; have := hx.l; omega, _, xs, itD, fun x => .dat (.int (pullF p b x.2)), rfl, fun i x hi => ?_, ?_⟩
  · walk_at "d"
    refine ⟨p, x.2, b, rfl, wt_ok hx (List.mem_of_getElem? hi), ?_⟩
    walk_at "d"
    rfl
  · unfold pullsF at q
    rw [List.map_map] at q
    exact q
def wMost : Wt := fun as k _ => ∃ (xs : List (Str × Int × Int)) (n : Nat) (us : List Int) , as = [.dat (itsD xs), .dat (.int (n : Int)), .dat (.list (us.map .int))] ∧ xs.length ≤ 60 ∧ us.length ≤ 60 ∧ k (.v (.dat (.tuple ((awayF xs us n).map .str))))
theorem ok_most {f : Addr} {fd : FuncData} (F : Fun K "pulling_most" "pulling_most" s_pulling_most f fd) (T : DTxt mg) : FnG P w K mg base CX0 1 f fd ["items", "most", "pulls"] (spP K 3 wMost) := by
  refine okP F sc_pulling_most rfl fun cdv A outer s H E hG hr => ⟨_, (pss_cons (ps_set (i := 3) sc_pulling_most.nd rfl (.inl rfl) (pe_callB (r := Dl.rSortG K) (id := "sorted") (Dl.cr_sortG (Dl.u8 hr)) (by rfl) T.z_sorted (by decide +kernel) (pa_cons (pe_lc (own := [("place", 4), ("pull", 5)]) (g := (gTup K 2 (gCons (gName 4) (gCons (gName 5) gNil)))) rfl sc_pulling_most.nd (pi_enum (by rfl) T.z_enumerate (pa_cons (pv 2) pa_nil)) (blkOk_by (own := [("place", 4), ("pull", 5)]) (N := N_pulling_most) (sc := defScope s_pulling_most) (by decide +kernel)) (fun _ _ _ _ _ => (pg_tup (by rfl) (pgs_cons (pg_name (i := 4) sc_pulling_most.nd rfl (.inl rfl)) (pgs_cons (pg_name (i := 5) sc_pulling_most.nd rfl (.inl rfl)) pgs_nil)))) (fun _ _ _ _ _ => (pts_one (pt_cmpR op_gt (pv 5) pe_int (nomark _)))) (fun _ _ _ _ _ => (pe_tup (pa_cons (pe_un un_neg (pv 5)) (pa_cons (pv 4) pa_nil))))) pa_nil)))
    (pss_cons (ps_set (i := 6) sc_pulling_most.nd rfl (.inr rfl) (pe_lc (own := [("_", 7), ("place", 4)]) (g := (gTup K 2 (gCons (gName 7) (gCons (gName 4) gNil)))) rfl sc_pulling_most.nd (pi_list (pe_slice (r := rSlL K) sl_list (pv 3) po_none (po_some (pv 1)))) (blkOk_by (own := [("_", 7), ("place", 4)]) (N := N_pulling_most) (sc := defScope s_pulling_most) (by decide +kernel)) (fun _ _ _ _ _ => (pg_tup (by rfl) (pgs_cons (pg_name (i := 7) sc_pulling_most.nd rfl (.inl rfl)) (pgs_cons (pg_name (i := 4) sc_pulling_most.nd rfl (.inl rfl)) pgs_nil)))) (fun _ _ _ _ _ => pts_nil) (fun _ _ _ _ _ => (pv 4))))
    (pss_one (ps_ret (pe_callTy (r := Ln.rTupOf K) (T := "tuple") c_tuple (by rfl) T.z_tuple (by decide +kernel) (pa_cons (pe_lc (own := [("place", 4), ("name", 8), ("_", 7)]) (g := (gTup K 2 (gCons (gName 4) (gCons (gTup K 2 (gCons (gName 8) (gCons (gName 7) gNil))) gNil)))) rfl sc_pulling_most.nd (pi_enumT (by rfl) T.z_enumerate (pa_cons (pv 0) pa_nil)) (blkOk_by (own := [("place", 4), ("name", 8), ("_", 7)]) (N := N_pulling_most) (sc := defScope s_pulling_most) (by decide +kernel)) (fun _ _ _ _ _ => (pg_tup (by rfl) (pgs_cons (pg_name (i := 4) sc_pulling_most.nd rfl (.inl rfl)) (pgs_cons (pg_tup (by rfl) (pgs_cons (pg_name (i := 8) sc_pulling_most.nd rfl (.inl rfl)) (pgs_cons (pg_name (i := 7) sc_pulling_most.nd rfl (.inl rfl)) pgs_nil))) pgs_nil)))) (fun _ _ _ _ _ => (pts_one (pt_cmpR (r := rIn K false) op_in_seq (pv 4) (pv 6) (by rfl)))) (fun _ _ _ _ _ => (pv 8))) pa_nil)))))), fun F0 H0 as k ke hl hw => ?_⟩
  obtain ⟨xs, n, us, rfl, hx, hu, q⟩ := hw
  change Ds _ [_, _, _, _, _, _, _, _, _] _ _ _
  walk_at "d"
  refine dl_filt ?_
  walk_at "d"
  refine ⟨by rw [enumD_len, List.length_map, sizeLine_eq]; omega, _, us.zipIdx, fun p => .tuple [.int (p.2 : Int), .int p.1], fun p => decide (0 < p.1), fun p => .dat (entD (-p.1, (p.2 : Int))), enumD_zip .int us, fun i p hi => ?_, (candP us).map entD, by unfold candP; rw [List.map_map, List.map_map]; rfl, ?_⟩
  · walk_at "d"
    intro _
    walk_at "d"
    rfl
  walk_at "d"
  refine ⟨cmpb_ent _, sortable_ents _, ?_⟩
  rw [ordP_eq]
  refine ⟨(ordP us).map entD, rfl, ?_⟩
  have hlen : (ordP us).length ≤ 60 := by
    rw [(ordP_perm us).length_eq]
    unfold candP
    rw [List.length_map]
    exact Nat.le_trans (List.length_filter_le _ _) (by rw [List.length_zipIdx]; exact hu)
  walk_at "d"
  refine dl_map ?_
  walk_at "d"
  rw [cutD_takeA, ← List.map_take]
  refine ⟨by rw [List.length_map, List.length_take, sizeLine_eq]; omega, _, (ordP us).take n, entD, fun p => .dat (.int p.2), rfl, fun i p hi => ?_, ?_⟩
  · walk_at "d"
    rfl
  intro D hD
  walk_at "d1"
  have e1 : ((ordP us).take n).map (fun p => Sv.dat (.int p.2)) = ((placesF us n).map PyData.int).map Sv.dat := by
    unfold placesF
    rw [List.map_map, List.map_map]; rfl
  rw [e1]
  show Ds _ _ _ _ _
  refine ds_keep 6 hD ?_
  walk_at "d"
  refine dl_filt ?_
  walk_at "d"
  refine ⟨by rw [enumD_len, List.length_map, sizeLine_eq]; omega, _, xs.zipIdx, fun p => .tuple [.int (p.2 : Int), itD p.1], fun p => decide ((p.2 : Int) ∈ placesF us n), fun p => .dat (.str p.1.1), enumD_zip itD xs, fun i p hi => ?_, (awayF xs us n).map .str, by unfold awayF; rw [List.map_map, List.map_map]; rfl, ?_⟩
  · walk_at "d"
    refine ⟨rfl, flat_ints _, ?_⟩
    walk_at "d"
    refine ⟨inD_ints _ _, fun _ => ?_⟩
    walk_at "d"
    rfl
  walk_at "d"
  exact q
def wSlack : Wt := fun as k _ => ∃ (p : Pl) (xs : List (Str × Int × Int)) (b : Bool) (away : List Str), as = [.dat (plD p), .dat (itsD xs), .dat (sdD b), .dat (.tuple (away.map .str))] ∧ GoodP p ∧ GoodI xs ∧ k (.v (.dat (.int (slackF p xs b away))))
theorem ok_slack {f : Addr} {fd : FuncData} (F : Fun K "slack_without" "slack_without" s_slack_without f fd) (T : DTxt mg) (c_pull_of : Cg P w K mg base CX0 1 "pull_of" (spP K 3 wPull)) : FnG P w K mg base CX0 2 f fd ["plane", "items", "side", "away"] (spP K 4 wSlack) := by
  refine okP F sc_slack_without rfl fun cdv A outer s H E hG hr => ⟨_, (pss_cons (ps_setLc (i := 4) (own := [("name", 5), ("mass", 6)]) (g := (gTup K 2 (gCons (gName 5) (gCons (gName 6) gNil)))) rfl sc_slack_without.nd rfl rfl (sw_true rfl rfl rfl (by decide +kernel)) (pi_tup (pv 1)) (blkOk_by (own := [("name", 5), ("mass", 6)]) (N := N_slack_without) (sc := defScope s_slack_without) (by decide +kernel)) (fun _ _ _ _ _ => (pg_tup (by rfl) (pgs_cons (pg_name (i := 5) sc_slack_without.nd rfl (.inl rfl)) (pgs_cons (pg_name (i := 6) sc_slack_without.nd rfl (.inl rfl)) pgs_nil)))) (fun _ _ _ _ _ => (pts_one (pt_cmpR (r := rIn K true) op_notIn_seq (pv 5) (pv 3) (by rfl)))) (fun _ _ _ _ _ => (pv 6)))
    (pss_one (ps_ret (pe_callB (r := rSum K) (id := "sum") (cr_sum rfl) (by rfl) T.z_sum (by decide +kernel) (pa_cons (pe_lc (own := [("mass", 6)]) rfl sc_slack_without.nd (pi_tup (pe_tup (pa_cons (pe_ix (r := rIxT K) ix_tup (pv 0) pe_int (fun _ _ => rfl)) (StX.pa_star (pv 4) pa_nil)))) (blkOk_by (own := [("mass", 6)]) (N := N_slack_without) (sc := defScope s_slack_without) (by decide +kernel)) (fun _ _ _ _ _ => (pg_name (i := 6) sc_slack_without.nd rfl (.inl rfl))) (fun _ _ _ _ _ => pts_nil) (fun _ _ _ _ _ => (pe_cg c_pull_of hr (by decide) hG (by rfl) (pa_cons (pv 0) (pa_cons (pv 6) (pa_cons (pv 2) pa_nil)))))) pa_nil))))), fun F0 H0 as k ke hl hw => ?_⟩
  obtain ⟨p, xs, b, away, rfl, hp, hx, q⟩ := hw
  change Ds _ [_, _, _, _, _, _, _] _ _ _
  walk_at "d"
  refine dl_filt ?_
  walk_at "d"
  have hxl := hx.l
  refine ⟨by rw [List.length_map, sizeLine_eq]; omega, _, xs, itD, fun x => !decide (x.1 ∈ away), fun x => .dat (massD x.2), rfl, fun i x hi => ?_, ?_⟩
  · walk_at "d"
    refine ⟨rfl, flat_strs _, ?_⟩
    walk_at "d"
    rw [inD_strs]
    refine ⟨rfl, fun _ => ?_⟩
    walk_at "d"
    rfl
  intro D hD
  walk_at "d1"
  have e1 : (xs.filter fun x => !decide (x.1 ∈ away)).map (fun x => Sv.dat (massD x.2)) = (((xs.filter fun x => !decide (x.1 ∈ away)).map Prod.snd).map massD).map Sv.dat := by
    rw [List.map_map, List.map_map]; rfl
  rw [e1]
  show Ds _ _ _ _ _
  refine ds_keep 4 hD ?_
  have hfl : (xs.filter fun x => !decide (x.1 ∈ away)).length ≤ 60 := Nat.le_trans (List.length_filter_le _ _) hxl
  walk_at "d"
  refine dl_map ?_
  walk_at "d"
  refine ⟨_, rfl, ?_⟩
  walk_at "d"
  rw [List.append_nil]
  refine ⟨by show (_ :: _ : List PyData).length ≤ _; rw [List.length_cons, List.length_map, List.length_map, sizeLine_eq]; omega, ?_⟩
  walk_at "d"
  refine ⟨by rw [List.length_cons, List.length_map, List.length_map, sizeLine_eq]; omega, _, p.m :: (xs.filter fun x => !decide (x.1 ∈ away)).map Prod.snd, massD, fun m => .dat (.int (pullF p b m)), rfl, fun i m hi => ?_, (p.m :: (xs.filter fun x => !decide (x.1 ∈ away)).map Prod.snd).map (pullF p b), by rw [List.map_map]; rfl, ?_⟩
  · walk_at "d"
    refine ⟨p, m, b, rfl, ?_, ?_⟩
    · rcases List.mem_cons.mp (List.mem_of_getElem? hi) with e | hm
      · rw [e]; exact wp_ok hp
      · obtain ⟨x, hx', rfl⟩ := List.mem_map.mp hm
        exact wt_ok hx (List.mem_filter.mp hx').1
    · walk_at "d"
      rfl
  · unfold slackF at q
    rw [List.map_cons, List.sum_cons, List.map_map]
    exact q
def wAway : Wt := fun as k _ => ∃ (xs : List (Str × Int × Int)) (n : Nat) (ds : List PyData), as = [.dat (itsD xs), .dat (.int (n : Int)), .dat (.tuple ds)] ∧ GoodI xs ∧ n ≤ 60 ∧ noLd (.tuple ds) = true ∧ k (.v (.dat (.bool (awayB xs n ds))))
theorem ok_away {f : Addr} {fd : FuncData} (F : Fun K "are_away" "are_away" s_are_away f fd) (T : DTxt mg) (c_is_short : Cg P w K mg base CX0 1 "is_short" (spP K 2 wIsShort)) (c_are_strings : Cg P w K mg base CX0 2 "are_strings" (spP K 1 wAreStrs)) (c_are_unlike : Cg P w K mg base CX0 1 "are_unlike" (spP K 1 wUnlike)) : FnG P w K mg base CX0 3 f fd ["items", "most", "names"] (spP K 3 wAway) := by
  refine okP F sc_are_away rfl fun cdv A outer s H E hG hr => ⟨_, (pss_cons (ps_set (i := 3) sc_are_away.nd rfl (.inr rfl) (pe_lc (own := [("name", 4), ("_", 5)]) (g := (gTup K 2 (gCons (gName 4) (gCons (gName 5) gNil)))) rfl sc_are_away.nd (pi_tup (pv 0)) (blkOk_by (own := [("name", 4), ("_", 5)]) (N := N_are_away) (sc := defScope s_are_away) (by decide +kernel)) (fun _ _ _ _ _ => (pg_tup (by rfl) (pgs_cons (pg_name (i := 4) sc_are_away.nd rfl (.inl rfl)) (pgs_cons (pg_name (i := 5) sc_are_away.nd rfl (.inl rfl)) pgs_nil)))) (fun _ _ _ _ _ => pts_nil) (fun _ _ _ _ _ => (pv 4))))
    (pss_one (ps_ret (pe_and (pe_cg c_is_short hr (by decide) hG (by rfl) (pa_cons (pv 2) (pa_cons (pv 1) pa_nil))) (pe_and (pe_cg c_are_strings hr (by decide) hG (by rfl) (pa_cons (pv 2) pa_nil)) (pe_and (pe_cg c_are_unlike hr (by decide) hG (by rfl) (pa_cons (pv 2) pa_nil)) (pe_one (pe_callB (r := rAll K) (id := "all") (cr_all rfl) (by rfl) T.z_all (by decide +kernel) (pa_cons (pe_lc (own := [("name", 4)]) rfl sc_are_away.nd (pi_tup (pv 2)) (blkOk_by (own := [("name", 4)]) (N := N_are_away) (sc := defScope s_are_away) (by decide +kernel)) (fun _ _ _ _ _ => (pg_name (i := 4) sc_are_away.nd rfl (.inl rfl))) (fun _ _ _ _ _ => pts_nil) (fun _ _ _ _ _ => (pe_cmpR (r := rIn K false) op_in_seq (pv 4) (pv 3) (by rfl)))) pa_nil))))))))), fun F0 H0 as k ke hl hw => ?_⟩
  obtain ⟨xs, n, ds, rfl, hx, hn, hd, q⟩ := hw
  have hxl := hx.l
  unfold awayB at q
  change Ds _ [_, _, _, _, _, _] _ _ _
  walk_at "d"
  refine dl_map ?_
  walk_at "d"
  refine ⟨by rw [List.length_map, sizeLine_eq]; omega, _, xs, itD, fun x => .dat (.str x.1), rfl, fun i x hi => ?_, ?_⟩
  · walk_at "d"
    rfl
  intro D hD
  walk_at "d1"
  have e1 : xs.map (fun x => Sv.dat (.str x.1)) = ((xs.map Prod.fst).map PyData.str).map Sv.dat := by
    rw [List.map_map, List.map_map]; rfl
  rw [e1]
  show Ds _ _ _ _ _
  refine ds_keep 3 hD ?_
  walk_at "d"
  refine ⟨_, _, rfl, flat_of hd, ?_⟩
  walk_at "d"
  have e2 : shortB (.tuple ds) (n : Int) = decide (ds.length ≤ n) := decide_eq_decide.mpr (by omega)
  rw [e2]
  refine ifB (fun h => ?_) (fun h => by rw [h] at q; exact q)
  rw [h] at q
  have hdl := of_decide_eq_true h
  walk_at "d"
  refine ⟨_, rfl, hd, fun es e => by cases e; rw [sizeLine_eq]; omega, ?_⟩
  walk_at "d"
  refine ifB (fun h => ?_) (fun h => by rw [show ds.all strB = false from h] at q; exact q)
  have h : ds.all strB = true := h
  rw [h] at q
  have ed := strs_ex h
  generalize strsOf ds = zs at ed q
  subst ed
  rw [List.length_map] at hdl
  walk_at "d"
  refine ⟨zs, _, rfl, .inl rfl, by omega, ?_⟩
  walk_at "d"
  refine ifB (fun h => ?_) (fun h => by rw [h] at q; exact q)
  rw [h] at q
  walk_at "d"
  refine dl_map ?_
  walk_at "d"
  refine ⟨by rw [List.length_map, sizeLine_eq]; omega, _, zs, .str, fun z => .dat (.bool (decide (z ∈ xs.map Prod.fst))), rfl, fun i z hi => ?_, zs.map (fun z => decide (z ∈ xs.map Prod.fst)), by rw [List.map_map]; rfl, ?_⟩
  · walk_at "d"
    refine ⟨rfl, flat_strs _, ?_⟩
    rw [inD_strs]
    rfl
  · rw [List.all_map]
    exact q
def orderB (xs : List (Str × Int × Int)) (d : PyData) : Bool := match d with | .tuple ds => ds.all strB && decide ((strsOf ds).Perm (xs.map Prod.fst)) | _ => false
def wOrder : Wt := fun as k _ => ∃ (xs : List (Str × Int × Int)) (d : PyData), as = [.dat (itsD xs), .dat d] ∧ xs.length ≤ 60 ∧ (∀ x ∈ xs, PyData.strOk x.1 = true) ∧ noLd d = true ∧ Shp 8 d ∧ (∀ ds, d = .tuple ds → ds.length ≤ 100) ∧ k (.v (.dat (.bool (orderB xs d))))
theorem eqv_strs : ∀ xs ys : List Str, PyData.eqvAll (xs.map .str) (ys.map .str) = decide (xs = ys)
  | [], [] => by simp [PyData.eqvAll]
  | [], _ :: _ => by simp [PyData.eqvAll]
  | _ :: _, [] => by simp [PyData.eqvAll]
  | x :: xs, y :: ys => by
    simp only [List.map_cons, PyData.eqvAll, eqv_strs xs ys, PyData.eqv]
    by_cases h1 : x = y <;> by_cases h2 : xs = ys <;> simp [h1, h2]
theorem shp_strs {xs : List Str} (h : ∀ x ∈ xs, PyData.strOk x = true) : SeqAt.shaped (.list (xs.map .str)) = true := (Shp.list (n := 0) fun x hx => Shp.str (h x hx)).shaped (by decide)
theorem Shp.mem' {n : Nat} {ds : List PyData} (h : Shp n (.tuple ds)) : ∀ d ∈ ds, d.canLay0 = true := by
  obtain ⟨h, hh⟩ := h
  clear hh
  simp only [PyData.canLay0] at h
  induction ds with
  | nil => simp
  | cons x xs ih =>
    simp only [PyData.canLayAll0, Bool.and_eq_true] at h
    intro d hd
    rcases List.mem_cons.mp hd with e | hd
    · rw [e]; exact h.1
    · exact ih h.2 d hd
theorem ok_order {f : Addr} {fd : FuncData} (F : Fun K "is_order" "is_order" s_is_order f fd) (T : DTxt mg) (c_are_strings : Cg P w K mg base CX0 2 "are_strings" (spP K 1 wAreStrs)) : FnG P w K mg base CX0 3 f fd ["items", "value"] (spP K 2 wOrder) := by
  refine okP F sc_is_order rfl fun cdv A outer s H E hG hr => ⟨_, (pss_one (ps_ret (pe_and (pe_cg c_are_strings hr (by decide) hG (by rfl) (pa_cons (pv 1) pa_nil)) (pe_one (pe_cmpR (r := rEqD K) (op_eqD hr.units) (pe_callB (r := Dl.rSortT K) (id := "sorted") (Dl.cr_sortT (Dl.u8 hr)) (by rfl) T.z_sorted (by decide +kernel) (pa_cons (pv 1) pa_nil)) (pe_callB (r := Dl.rSortG K) (id := "sorted") (Dl.cr_sortG (Dl.u8 hr)) (by rfl) T.z_sorted (by decide +kernel) (pa_cons (pe_lc (own := [("name", 2), ("_", 3)]) (g := (gTup K 2 (gCons (gName 2) (gCons (gName 3) gNil)))) rfl sc_is_order.nd (pi_tup (pv 0)) (blkOk_by (own := [("name", 2), ("_", 3)]) (N := N_is_order) (sc := defScope s_is_order) (by decide +kernel)) (fun _ _ _ _ _ => (pg_tup (by rfl) (pgs_cons (pg_name (i := 2) sc_is_order.nd rfl (.inl rfl)) (pgs_cons (pg_name (i := 3) sc_is_order.nd rfl (.inl rfl)) pgs_nil)))) (fun _ _ _ _ _ => pts_nil) (fun _ _ _ _ _ => (pv 2))) pa_nil)) (nomark _)))))), fun F0 H0 as k ke hl hw => ?_⟩
  obtain ⟨xs, d, rfl, hxl, hxs, hd, hs, hds, q⟩ := hw
  change Ds _ [_, _, _, _] _ _ _
  walk_at "d"
  refine ⟨d, rfl, hd, fun ds e => Nat.le_trans (hds ds e) (by rw [sizeLine_eq]; decide), ?_⟩
  walk_at "d"
  cases d with
  | tuple ds =>
    replace q : k (.v (.dat (.bool (ds.all strB && decide ((strsOf ds).Perm (xs.map Prod.fst)))))) := q
    refine ifB (fun h => ?_) (fun h => by rw [show ds.all strB = false from h] at q; exact q)
    have h : ds.all strB = true := h
    rw [h] at q
    have ed := strs_ex h
    have hds := hds ds rfl
    have hok := Shp.mem' hs
    generalize strsOf ds = zs at ed q
    subst ed
    have hzs : ∀ z ∈ zs, PyData.strOk z = true := fun z hz => by simpa only [PyData.canLay0] using hok (.str z) (List.mem_map_of_mem hz)
    walk_at "d"
    refine ⟨cmpb_strs _, sortable_strs _, ?_⟩
    have he := sort_strs_eq (xs := zs) (ys := xs.map Prod.fst)
    obtain ⟨as, a1, a2, a3⟩ := sort_strs zs
    obtain ⟨bs, b1, b2, b3⟩ := sort_strs (xs.map Prod.fst)
    rw [a1]
    refine ⟨_, rfl, ?_⟩
    walk_at "d"
    refine dl_map ?_
    walk_at "d"
    refine ⟨by rw [List.length_map, sizeLine_eq]; omega, _, xs, itD, fun x => .dat (.str x.1), rfl, fun i x hi => ?_, (xs.map Prod.fst).map .str, by rw [List.map_map, List.map_map]; rfl, ?_⟩
    · walk_at "d"
      rfl
    walk_at "d"
    refine ⟨cmpb_strs _, sortable_strs _, ?_⟩
    rw [b1]
    refine ⟨_, rfl, ?_⟩
    walk_at "d"
    refine ⟨shp_strs fun x hx => hzs x (a2.mem_iff.mp hx), shp_strs fun x hx => ?_, ?_⟩
    · obtain ⟨y, hy, rfl⟩ := List.mem_map.mp (b2.mem_iff.mp hx)
      exact hxs y hy
    · have e3 : PyData.eqv (.list (as.map .str)) (.list (bs.map .str)) = decide (zs.Perm (xs.map Prod.fst)) := by
        show PyData.eqvAll (as.map .str) (bs.map .str) = _
        rw [eqv_strs]
        refine decide_eq_decide.mpr ?_
        rw [← he, a1, b1]
        exact ((List.map_inj_right (f := PyData.str) fun a b e => PyData.str.inj e)).symm
      rw [e3]
      exact q
  | _ => first | exact q | (simp [noLd] at hd)
end
end Mine
set_option Elab.async false
set_option linter.all false
set_option maxRecDepth 100000
set_option maxHeartbeats 4000000
namespace Mine
open PySem PySem.Spec PyProof.Rows L2 Ln Dl RZ
def boolB : PyData → Bool | .bool _ => true | _ => false
mutual
def sameB : PyData → PyData → Bool
  | .tuple as, .tuple bs => sameBs as bs
  | .none, b => (boolB .none == boolB b) && PyData.eqv .none b
  | .bool i, b => (boolB (.bool i) == boolB b) && PyData.eqv (.bool i) b
  | .int i, b => (boolB (.int i) == boolB b) && PyData.eqv (.int i) b
  | .str i, b => (boolB (.str i) == boolB b) && PyData.eqv (.str i) b
  | .list i, b => (boolB (.list i) == boolB b) && PyData.eqv (.list i) b
  | .dict i, b => (boolB (.dict i) == boolB b) && PyData.eqv (.dict i) b
  | .tuple i, b => (boolB (.tuple i) == boolB b) && PyData.eqv (.tuple i) b
def sameBs : List PyData → List PyData → Bool
  | [], [] => true
  | a :: as, b :: bs => sameB a b && sameBs as bs
  | [], _ :: _ => false
  | _ :: _, [] => false
end
mutual
def wdB : PyData → Bool
  | .tuple ds => decide (ds.length ≤ 200) && wdBs ds
  | _ => true
def wdBs : List PyData → Bool
  | [] => true
  | d :: ds => wdB d && wdBs ds
end
theorem wdBs_mem : ∀ {ds : List PyData}, wdBs ds = true → ∀ d ∈ ds, wdB d = true
  | [], _, d, m => by cases m
  | x :: xs, h, d, m => by
    simp only [wdBs, Bool.and_eq_true] at h
    rcases List.mem_cons.mp m with e | m
    · rw [e]; exact h.1
    · exact wdBs_mem h.2 d m
theorem sameBs_eq : ∀ as bs : List PyData, sameBs as bs = (decide (as.length = bs.length) && (as.zip bs).all fun p => sameB p.1 p.2)
  | [], [] => by simp [sameBs]
  | [], _ :: _ => by simp [sameBs]
  | _ :: _, [] => by simp [sameBs]
  | a :: as, b :: bs => by
    simp only [sameBs, sameBs_eq as bs, List.length_cons, List.zip_cons_cons, List.all_cons]
    by_cases h : as.length = bs.length
    · simp [h]
    · simp [h]
theorem canAll_mem : ∀ {ds : List PyData}, PyData.canLayAll0 ds = true → ∀ d ∈ ds, d.canLay0 = true
  | [], _, d, m => by cases m
  | x :: xs, h, d, m => by
    simp only [PyData.canLayAll0, Bool.and_eq_true] at h
    rcases List.mem_cons.mp m with e | m
    · rw [e]; exact h.1
    · exact canAll_mem h.2 d m
section
variable {P : Program} {w : World} {K : PySem.W.Frag} {mg : Str → Option Value} {base : Heap} {C fI : Addr}
def wSame (n : Nat) : Wt := fun as k _ => ∃ a b, as = [.dat a, .dat b] ∧ noLd a = true ∧ noLd b = true ∧ a.depth < n ∧ Shp 40 a ∧ Shp 40 b ∧ wdB b = true ∧ k (.v (.dat (.bool (sameB a b))))
theorem same_step {n : Nat} {f : Addr} {fd : FuncData} (F : Fun K "are_same" "are_same" s_are_same f fd) (T : DTxt mg) (c_are_same : Cg P w K mg base CX0 n "are_same" (spP K 2 (wSame n))) : FnG P w K mg base CX0 (n + 1) f fd ["one", "other"] (spP K 2 (wSame (n + 1))) := by
  refine okP F sc_are_same rfl fun cdv A outer s H E hG hr => ⟨_, (pss_cons (ps_if (PW.pt (pw_and (pt_val (pe_callB (r := rIsi K) (id := "isinstance") call_isi (by rfl) T.z_isinstance (by decide +kernel) (pa_cons (pv 0) (pa_cons (pe_bltn (v := .ty "tuple") (u := .type "tuple") (by rfl) T.z_tuple (by decide +kernel) rfl) pa_nil)))) (pw_and1 (pt_val (pe_callB (r := rIsi K) (id := "isinstance") call_isi (by rfl) T.z_isinstance (by decide +kernel) (pa_cons (pv 1) (pa_cons (pe_bltn (v := .ty "tuple") (u := .type "tuple") (by rfl) T.z_tuple (by decide +kernel) rfl) pa_nil)))))))
    (pss_one (ps_ret (pe_and (pe_cmpR op_eq (pe_callB (r := Ln.rLen K) (id := "len") c_len (by rfl) T.z_len (by decide +kernel) (pa_cons (pv 0) pa_nil)) (pe_callB (r := Ln.rLen K) (id := "len") c_len (by rfl) T.z_len (by decide +kernel) (pa_cons (pv 1) pa_nil)) (nomark _)) (pe_one (pe_callB (r := rAll K) (id := "all") (cr_all rfl) (by rfl) T.z_all (by decide +kernel) (pa_cons (pe_lc (own := [("a", 2), ("b", 3)]) (g := (gTup K 2 (gCons (gName 2) (gCons (gName 3) gNil)))) rfl sc_are_same.nd (pi_zipA (by rfl) T.z_zip (pa_cons (pv 0) (pa_cons (pv 1) pa_nil))) (blkOk_by (own := [("a", 2), ("b", 3)]) (N := N_are_same) (sc := defScope s_are_same) (by decide +kernel)) (fun _ _ _ _ _ => (pg_tup (by rfl) (pgs_cons (pg_name (i := 2) sc_are_same.nd rfl (.inl rfl)) (pgs_cons (pg_name (i := 3) sc_are_same.nd rfl (.inl rfl)) pgs_nil)))) (fun _ _ _ _ _ => pts_nil) (fun _ _ _ _ _ => (pe_cg c_are_same hr (by omega) hG (by rfl) (pa_cons (pv 2) (pa_cons (pv 3) pa_nil))))) pa_nil))))))
    pss_nil)
    (pss_one (ps_ret (pe_and (pe_cmpR op_eq (pe_callB (r := rIsi K) (id := "isinstance") call_isi (by rfl) T.z_isinstance (by decide +kernel) (pa_cons (pv 0) (pa_cons (pe_bltn (v := .ty "bool") (u := .type "bool") (by rfl) T.z_bool (by decide +kernel) rfl) pa_nil))) (pe_callB (r := rIsi K) (id := "isinstance") call_isi (by rfl) T.z_isinstance (by decide +kernel) (pa_cons (pv 1) (pa_cons (pe_bltn (v := .ty "bool") (u := .type "bool") (by rfl) T.z_bool (by decide +kernel) rfl) pa_nil))) (nomark _)) (pe_one (pe_cmpR (r := rEqD K) (op_eqD hr.units) (pv 0) (pv 1) (nomark _))))))), fun F0 H0 as k ke hl hw => ?_⟩
  obtain ⟨a, b, rfl, na, nb, hd, sa, sb, hw, q⟩ := hw
  have fa := flat_of na
  have fb := flat_of nb
  change Ds _ [_, _, _, _] _ _ _
  have leaf : ∀ x : Bool, x = sameB a b → k (.v (.dat (.bool x))) := fun x e => by rw [e]; exact q
  walk_at "d"
  cases a with
  | tuple as =>
    walk_at "d"
    cases b with
    | tuple bs =>
      walk_at "d"
      rw [noLd_tup] at na nb
      have ea : sameB (.tuple as) (.tuple bs) = (decide (as.length = bs.length) && (as.zip bs).all fun p => sameB p.1 p.2) := by rw [sameB, sameBs_eq]
      rw [ea] at q
      have ei : decide ((as.length : Int) = (bs.length : Int)) = decide (as.length = bs.length) := decide_eq_decide.mpr (by omega)
      rw [ei]
      refine ifB (fun h => ?_) (fun h => by rw [h] at q; exact q)
      rw [h] at q
      simp only [wdB, Bool.and_eq_true] at hw
      have hbl := of_decide_eq_true hw.1
      have hal := of_decide_eq_true h
      walk_at "d"
      refine dl_map ?_
      walk_at "d"
      refine ⟨by rw [zipD_len, sizeLine_eq]; omega, _, as.zip bs, fun p => .tuple [p.1, p.2], fun p => .dat (.bool (sameB p.1 p.2)), rfl, fun i p hi => ?_, (as.zip bs).map (fun p => sameB p.1 p.2), by rw [List.map_map]; rfl, ?_⟩
      · have mp := List.mem_of_getElem? hi
        have m1 : p.1 ∈ as := (List.of_mem_zip (a := p.1) (b := p.2) mp).1
        have m2 : p.2 ∈ bs := (List.of_mem_zip (a := p.1) (b := p.2) mp).2
        have d1 := depth_mem m1
        have d2 := depth_mem m2
        have sa1 := sa.1
        have sa2 := sa.2
        have sb1 := sb.1
        have sb2 := sb.2
        simp only [PyData.canLay0, PyData.depth] at sa1 sa2 sb1 sb2 hd
        walk_at "d"
        refine ⟨p.1, p.2, rfl, noLds_mem na _ m1, noLds_mem nb _ m2, by omega, ⟨canAll_mem sa1 _ m1, by omega⟩, ⟨canAll_mem sb1 _ m2, by omega⟩, wdBs_mem hw.2 _ m2, ?_⟩
        walk_at "d"
        rfl
      · rw [List.all_map]
        exact q
    | _ => first
      | (cases fb; done)
      | (walk_at "d"; refine ifP (fun h => ?_) (fun h => ?_)
         · first | (cases h; done) | (walk_at "d"; exact ⟨sa.shaped (by decide), sb.shaped (by decide), leaf _ (by simp [sameB, boolB])⟩)
         · first | (exact absurd rfl h) | (walk_at "d"; exact leaf _ (by simp [sameB, boolB])))
      | (walk_at "d"; exact ⟨sa.shaped (by decide), sb.shaped (by decide), leaf _ (by simp [sameB, boolB])⟩)
      | (walk_at "d"; exact leaf _ (by simp [sameB, boolB]))
  | _ => first
    | (cases fa; done)
    | (walk_at "d"; cases b <;> first
      | (cases fb; done)
      | (walk_at "d"; refine ifP (fun h => ?_) (fun h => ?_)
         · first | (cases h; done) | (walk_at "d"; exact ⟨sa.shaped (by decide), sb.shaped (by decide), leaf _ (by simp [sameB, boolB])⟩)
         · first | (exact absurd rfl h) | (walk_at "d"; exact leaf _ (by simp [sameB, boolB])))
      | (walk_at "d"; exact ⟨sa.shaped (by decide), sb.shaped (by decide), leaf _ (by simp [sameB, boolB])⟩)
      | (walk_at "d"; exact leaf _ (by simp [sameB, boolB])))
theorem same_all {f : Addr} {fd : FuncData} (F : Fun K "are_same" "are_same" s_are_same f fd) (T : DTxt mg) (rm : mg "are_same" = some (.ref f)) (rk : PySem.W.keepIn K (.ref f) = true) (rb : Binds K fd ["one", "other"] []) : ∀ n, FnG P w K mg base CX0 n f fd ["one", "other"] (spP K 2 (wSame n))
  | 0 => ⟨fun vs H Q E h => h.ex.1, fun A o s H args us vs Q E hG hr he hb hv h => by
      obtain ⟨_, F, as, k, ke, _, _, _, hw, _⟩ := h.ex
      obtain ⟨a, b, _, _, _, hd, _⟩ := hw
      exact absurd hd (Nat.not_lt_zero _)⟩
  | n + 1 => same_step F T ⟨_, _, _, same_all F T rm rk rb n, rm, rk, rb⟩
theorem ok_same {f : Addr} {fd : FuncData} (F : Fun K "are_same" "are_same" s_are_same f fd) (T : DTxt mg) (rm : mg "are_same" = some (.ref f)) (rk : PySem.W.keepIn K (.ref f) = true) (rb : Binds K fd ["one", "other"] []) : FnG P w K mg base CX0 6 f fd ["one", "other"] (spP K 2 (wSame 6)) := by
  exact same_all F T rm rk rb 6
end
end Mine
set_option Elab.async false
set_option linter.all false
set_option maxRecDepth 100000
set_option maxHeartbeats 4000000
namespace Mine
open PySem PySem.Spec PyProof.Rows L2 Ln Dl RZ
abbrev s_balanced : Stmt := topS 18
abbrev N_balanced : List Str := ["plane", "items", "most", "slacks", "side", "away"]
theorem sc_balanced : FnScope N_balanced ["plane", "items", "most"] (defScope s_balanced) := ⟨rfl, rfl, rfl, by decide +kernel, rfl, by decide +kernel, by decide +kernel⟩
-- slots: 0 plane, 1 items, 2 most, 3 slacks, 4 side, 5 away
def sidesD : PyData := .tuple [sdD true, sdD false]
structure SidTxt (K : PySem.W.Frag) (mg : Str → Option Value) (A : Addr) : Prop extends BalTxt mg where
  g_SIDES : ∃ u, mg "SIDES" = some u ∧ RelV (.ref A) u
  dS : ∀ F : Hp, Dp K F (.ref A) sidesD
theorem sides_top {K : PySem.W.Frag} {A : Addr} {od : Option Addr} {it : Array Value} {n : Nat} {sl : Array (Option Value)} {t0 t1 : Tok} (h : K.lookup A = some ⟨.type "tuple", od, .seq it n, sl⟩) (v : it.toList = [.str "fore" t0, .str "aft" t1]) (F : Hp) : Dp K F (.ref A) sidesD := by
  refine .tup (xs := [.str "fore", .str "aft"]) (.inr ⟨_, it, n, h, rfl, rfl, ?_, by rw [v]; exact .cons ⟨_, rfl⟩ (.cons ⟨_, rfl⟩ .nil)⟩) (.cons (.str _) (.cons (.str _) .nil))
  have : it.toList.length = 2 := by rw [v]; rfl
  rw [Array.length_toList] at this
  rw [this, sizeLine_eq]; decide
noncomputable def awyF (p : Pl) (xs : List (Str × Int × Int)) (n : Nat) (b : Bool) : List Str := awayF xs (pullsF p xs b) n
noncomputable def slF (p : Pl) (xs : List (Str × Int × Int)) (n : Nat) (b : Bool) : Int := slackF p xs b (awyF p xs n b)
noncomputable def balF (p : Pl) (xs : List (Str × Int × Int)) (n : Nat) : PyData :=
  if slF p xs n true < 0 then .tuple [.str "tipped", sdD true, .tuple ((awyF p xs n true).map .str)] else
  if slF p xs n false < 0 then .tuple [.str "tipped", sdD false, .tuple ((awyF p xs n false).map .str)] else
  .tuple [.str "kept", .tuple [.int (slF p xs n true), .int (slF p xs n false)]]
def tupB (d : PyData) : Bool := match d with | .tuple _ => true | _ => false
def itemsL (d : PyData) : List PyData := match d with | .tuple ds => ds | _ => []
def sideOf (d : PyData) : Bool := match d with | .str x => decide (x = Str.ofString "fore") | _ => false
noncomputable def accR (p : Pl) (xs : List (Str × Int × Int)) (n : Nat) (t : PyData) : Option Str :=
  if (rowB t 2 && seq (el t 0) (.str "kept")) = true then (if sameB t (balF p xs n) = true then none else some "slacks") else
  if (rowB t 3 && (seq (el t 0) (.str "tipped") && (inD (el t 1) [sdD true, sdD false] && tupB (el t 2)))) = true then
    (if awayB xs n (itemsL (el t 2)) = true then (if 0 ≤ slackF p xs (sideOf (el t 1)) (strsOf (itemsL (el t 2))) then some "side" else none) else some "names")
  else some "form"
structure TOk (t : PyData) : Prop where
  nl : noLd t = true
  sh : Shp 4 t
  s0 : scD (el t 0) (.str "kept") = true
  f1 : seq (el t 0) (.str "tipped") = true → flatD (el t 1) = true
theorem sideOf_in {d : PyData} (h : inD d [sdD true, sdD false] = true) : d = sdD (sideOf d) := by
  cases d with
  | str x =>
    have e : inD (.str x) [sdD true, sdD false] = decide (x ∈ [sideS true, sideS false]) := inD_strs x [sideS true, sideS false]
    rw [e] at h
    have h := of_decide_eq_true h
    simp only [List.mem_cons, List.not_mem_nil, or_false] at h
    rcases h with rfl | rfl
    · rfl
    · rfl
  | _ => simp [inD, eqvS] at h
def brdAt (p : Pl) (xs : List (Str × Int × Int)) (zs : List Str) (i : Nat) : Option PyData :=
  if slackF p xs true (zs.drop i) < 0 then some (.tuple [.int (i : Int), sdD true]) else if slackF p xs false (zs.drop i) < 0 then some (.tuple [.int (i : Int), sdD false]) else none
def brdF (p : Pl) (xs : List (Str × Int × Int)) (zs : List Str) : PyData := ((List.range (zs.length + 1)).findSome? (brdAt p xs zs)).getD .none
theorem find_hit {α β : Type} {f : α → Option β} {xs : List α} {i : Nat} {x : α} {y : β} (h : xs[i]? = some x) (hn : ∀ z ∈ xs.take i, f z = none) (hx : f x = some y) : xs.findSome? f = some y := by
  induction xs generalizing i with
  | nil => cases h
  | cons z zs ih =>
    cases i with
    | zero => cases h; rw [List.findSome?_cons, hx]
    | succ i =>
      rw [List.findSome?_cons, hn z (by simp)]
      exact ih h fun w hw => hn w (by rw [List.take_succ_cons]; exact List.mem_cons_of_mem _ hw)
theorem find_miss {α β : Type} {f : α → Option β} {xs : List α} (hn : ∀ z ∈ xs, f z = none) : xs.findSome? f = none := List.findSome?_eq_none_iff.mpr hn
section
variable {P : Program} {w : World} {K : PySem.W.Frag} {mg : Str → Option Value} {base : Heap} {C fI CP fIP A0 : Addr}
def wBal (C : Addr) : Wt := fun as k ke => ∃ p i m, as = [.dat p, .dat i, .dat m] ∧ noLd p = true ∧ noLd i = true ∧ noLd m = true ∧ (∀ x, reqL p i = some x → ke C (rsn x)) ∧ (reqL p i = none → withinB m 0 60 = false → ke C (rsn "most")) ∧
  ∀ pl xs (n : Nat), p = plD pl → i = itsD xs → m = .int (n : Int) → GoodP pl → GoodI xs → n ≤ 60 → k (.v (.dat (balF pl xs n)))
theorem ok_bal {f : Addr} {fd : FuncData} (F : Fun K "balanced" "balanced" s_balanced f fd) (T : SidTxt K mg A0) (c_require_load : Cg P w K mg base (L2.CX P w) 6 "require_load" (spP K 2 (wReqL C))) (c_is_within : Cg P w K mg base CX0 2 "is_within" (spP K 3 wWithin)) (c_require : Cg P w K mg base (L2.CX P w) 3 "require" (spP K 2 (wRequire C))) (c_pulling_most : Cg P w K mg base CX0 1 "pulling_most" (spP K 3 wMost)) (c_pulls_of : Cg P w K mg base CX0 2 "pulls_of" (spP K 3 wPulls)) (c_slack_without : Cg P w K mg base CX0 2 "slack_without" (spP K 4 wSlack)) :
    FnG P w K mg base (L2.CX P w) 7 f fd ["plane", "items", "most"] (spP K 3 (wBal C)) := by
  refine okPX F sc_balanced rfl fun cdv A outer s H E hG hr => ?_
  have tk0 : Takes (cxOf (L2.CX P w) P w K mg base N_balanced "balanced" (defScope s_balanced) f cdv A outer s H E) (fun cls d _ H => E cls d H) := takes_of rfl rfl rfl rfl
  refine ⟨_, (pss_cons (ps_expr (pe_cgS c_require_load hr (by decide) hG (fun _ => passE tk0) (by rfl) (pa_cons (pv 0) (pa_cons (pv 1) pa_nil))))
    (pss_cons (ps_expr (pe_cgS c_require hr (by decide) hG (fun _ => passE tk0) (by rfl) (pa_cons (pe_cg c_is_within hr (by decide) hG (by rfl) (pa_cons (pv 2) (pa_cons pe_int (pa_cons (pe_gl (by rfl) T.g_MAX_ITEMS) pa_nil)))) (pa_cons pe_str pa_nil))))
    (pss_cons (ps_set (i := 3) sc_balanced.nd rfl (.inl rfl) (pe_lst pa_nil))
    (pss_cons (ps_for (passes_of rfl) rfl (pi_tup (pe_gl (by rfl) T.g_SIDES)) (pg_name (i := 4) sc_balanced.nd rfl (.inl rfl))
    (pss_cons (ps_set (i := 5) sc_balanced.nd rfl (.inl rfl) (pe_cg c_pulling_most hr (by decide) hG (by rfl) (pa_cons (pv 1) (pa_cons (pv 2) (pa_cons (pe_cg c_pulls_of hr (by decide) hG (by rfl) (pa_cons (pv 0) (pa_cons (pv 1) (pa_cons (pv 4) pa_nil)))) pa_nil)))))
    (pss_cons (ps_expr (pe_bm PySem.F.plainAttrs_list PySem.F.slot_list_append PySem.F.type_list_append mt_append (pv 3) (pa_cons (pe_cg c_slack_without hr (by decide) hG (by rfl) (pa_cons (pv 0) (pa_cons (pv 1) (pa_cons (pv 4) (pa_cons (pv 5) pa_nil))))) pa_nil)))
    (pss_one (ps_if (pt_cmpR op_lt (pe_ix (r := rIxL K) ix_list (pv 3) (pe_un un_neg pe_int) (fun _ _ => rfl)) pe_int (nomark _))
    (pss_one (ps_ret (pe_tup (pa_cons pe_str (pa_cons (pv 4) (pa_cons (pv 5) pa_nil))))))
    pss_nil)))))
    (pss_one (ps_ret (pe_tup (pa_cons pe_str (pa_cons (pe_callTy (r := Ln.rTupOf K) (T := "tuple") c_tuple (by rfl) T.z_tuple (by decide +kernel) (pa_cons (pv 3) pa_nil)) pa_nil))))))))), fun F0 H0 as k ke hl hw hE => ?_⟩
  obtain ⟨p, i, m, rfl, np, ni, nm, qx, qm, q⟩ := hw
  haveI := EkI.of hE
  change Ds _ [_, _, _, _, _, _] _ _ _
  walk_at "d"
  refine ⟨p, i, rfl, np, ni, fun h => ?_, qx⟩
  walk_at "d"
  refine ⟨m, 0, 60, rfl, flat_of nm, ?_⟩
  walk_at "d"
  refine ⟨_, _, rfl, fun h2 => ?_, fun h2 => qm h h2⟩
  obtain ⟨pl, xs, rfl, rfl, hp, hx⟩ := reqL_none h
  obtain ⟨n, rfl, hn1, hn2⟩ := withinB_ex h2
  obtain ⟨n, rfl⟩ := Int.eq_ofNat_of_zero_le hn1
  have q := q pl xs n rfl rfl rfl hp hx (by omega)
  have hxl := hx.l
  walk_at "d"
  intro D hD
  walk_at "d"
  refine ds_for ?_
  walk_at "d"
  refine dx_con T.dS ?_
  unfold sidesD
  walk_at "d"
  refine ⟨fun i G' O' => (∃ z4 z5, G' = [.dat (plD pl), .dat (itsD xs), .dat (.int (n : Int)), .ptr D, z4, z5]) ∧ O' = [(D, .lst (([true, false].take i).map fun b => .dat (.int (slF pl xs n b))))] ∧ ∀ b ∈ [true, false].take i, 0 ≤ slF pl xs n b, ⟨⟨_, _, rfl⟩, rfl, by simp⟩, ?_, ?_⟩
  · rintro i d G' O' hd ⟨⟨z4, z5, rfl⟩, rfl, hall⟩
    obtain ⟨b, hb, rfl⟩ : ∃ b, [true, false][i]? = some b ∧ d = sdD b := by
      have hd : ([true, false].map sdD)[i]? = some d := hd
      rw [List.getElem?_map] at hd
      obtain ⟨b, hb, rfl⟩ := Option.map_eq_some_iff.mp hd
      exact ⟨b, hb, rfl⟩
    have tk : [true, false].take (i + 1) = [true, false].take i ++ [b] := takeS hb
    have hil : i < 2 := (List.getElem?_eq_some_iff.mp hb).1
    walk_at "d"
    refine ⟨pl, xs, b, rfl, hx, (pullsF pl xs b).map .int, by rw [List.map_map]; rfl, ?_⟩
    walk_at "d"
    refine ⟨xs, n, pullsF pl xs b, rfl, hxl, by unfold pullsF; rw [List.length_map]; exact hxl, ?_⟩
    walk_at "d"
    refine ⟨by rw [List.length_map, List.length_take, sizeLine_eq]; have : ([true, false] : List Bool).length = 2 := rfl; omega, ?_⟩
    walk_at "d"
    refine ⟨pl, xs, b, awyF pl xs n b, rfl, hp, hx, ?_⟩
    walk_at "d"
    refine ⟨_, atI_last _ _, ?_⟩
    walk_at "d"
    refine ifP (fun h => ?_) (fun h => ?_)
    · have h : slF pl xs n b < 0 := h
      walk_at "d"
      have eb : balF pl xs n = .tuple [.str "tipped", sdD b, .tuple ((awyF pl xs n b).map .str)] := by
        unfold balF
        match i, hb, hall with
        | 0, hb, hall =>
          cases hb
          rw [if_pos h]
        | 1, hb, hall =>
          cases hb
          have := hall true (by simp)
          rw [if_neg (by omega), if_pos h]
      rw [eb] at q
      exact q
    · walk_at "d"
      refine ⟨⟨_, _, rfl⟩, ?_, ?_⟩
      · rw [tk, List.map_append]; rfl
      · rw [tk]
        intro c hc
        rcases List.mem_append.mp hc with hc | hc
        · exact hall c hc
        · rw [List.mem_singleton.mp hc]
          show 0 ≤ slackF pl xs b (awyF pl xs n b)
          omega
  · rintro G' O' ⟨⟨z4, z5, rfl⟩, rfl, hall⟩
    have h1 := hall true (by simp)
    have h2 := hall false (by simp)
    unfold balF at q
    rw [if_neg (by omega), if_neg (by omega)] at q
    have e1 : (([true, false].take 2).map fun b => Sv.dat (.int (slF pl xs n b))) = ([true, false].map fun b => PyData.int (slF pl xs n b)).map Sv.dat := rfl
    show Ds _ _ [(D, .lst (([true, false].take 2).map fun b => Sv.dat (.int (slF pl xs n b))))] _ _
    rw [e1]
    refine ds_keep 3 hD ?_
    walk_at "d"
    exact q
end
end Mine
set_option Elab.async false
set_option linter.all false
set_option maxRecDepth 100000
set_option maxHeartbeats 4000000
namespace Mine
open PySem PySem.Spec PyProof.Rows L2 Ln Dl RZ
abbrev s_accept_balanced : Stmt := topS 28
abbrev N_accept_balanced : List Str := ["plane", "items", "most", "told", "answer"]
theorem sc_accept_balanced : FnScope N_accept_balanced ["plane", "items", "most", "told"] (defScope s_accept_balanced) := ⟨rfl, rfl, rfl, by decide +kernel, rfl, by decide +kernel, by decide +kernel⟩
-- slots: 0 plane, 1 items, 2 most, 3 told, 4 answer
section
variable {P : Program} {w : World} {K : PySem.W.Frag} {mg : Str → Option Value} {base : Heap} {C fI CP fIP A0 : Addr}
def wAcc (C CP : Addr) : Wt := fun as k ke => ∃ p i m t, as = [.dat p, .dat i, .dat m, .dat t] ∧ noLd p = true ∧ noLd i = true ∧ noLd m = true ∧ TOk t ∧ (∀ x, reqL p i = some x → ke C (rsn x)) ∧ (reqL p i = none → withinB m 0 60 = false → ke C (rsn "most")) ∧
  ∀ pl xs (n : Nat), p = plD pl → i = itsD xs → m = .int (n : Int) → GoodP pl → GoodI xs → n ≤ 60 → (∀ x ∈ xs, PyData.strOk x.1 = true) ∧ (accR pl xs n t = none → k (.v (.dat .none))) ∧ ∀ x, accR pl xs n t = some x → ke CP (rsn x)
structure AccTxt (K : PySem.W.Frag) (mg : Str → Option Value) (A C fI : Addr) : Prop extends SidTxt K mg A, PapErr K mg C fI
theorem bal_ok {p : Pl} {xs : List (Str × Int × Int)} {n : Nat} (hl : xs.length ≤ 60) (h : ∀ x ∈ xs, PyData.strOk x.1 = true) : noLd (balF p xs n) = true ∧ Shp 40 (balF p xs n) ∧ wdB (balF p xs n) = true := by
  have hs : ∀ b, Shp 1 (.tuple ((awyF p xs n b).map .str)) := fun b => Shp.tuple fun x hx => Shp.str (by
    obtain ⟨y, hy, rfl⟩ := List.mem_map.mp hx
    have hy := (List.mem_filter.mp hy).1
    exact h _ (by
      obtain ⟨j, hj⟩ := List.getElem?_of_mem hy
      rw [List.getElem?_zipIdx] at hj
      obtain ⟨z, hz, rfl⟩ := Option.map_eq_some_iff.mp hj
      exact List.mem_of_getElem? hz))
  have hw : ∀ b, wdB (.tuple ((awyF p xs n b).map .str)) = true := fun b => by
    have h1 : wdBs ((awyF p xs n b).map .str) = true := by
      generalize awyF p xs n b = zs
      induction zs with
      | nil => rfl
      | cons z zs ih => simp only [List.map_cons, wdBs, wdB, ih]; rfl
    have h2 : ((awyF p xs n b).map PyData.str).length ≤ 200 := by
      rw [List.length_map]
      unfold awyF awayF
      rw [List.length_map]
      exact Nat.le_trans (List.length_filter_le _ _) (by rw [List.length_zipIdx]; omega)
    simp only [wdB, h1, decide_eq_true h2]; rfl
  have hn : ∀ b, noLd (.tuple ((awyF p xs n b).map .str)) = true := fun b => by
    rw [noLd_tup]
    exact noLds_of fun d hd => by obtain ⟨x, _, rfl⟩ := List.mem_map.mp hd; rfl
  have ss : ∀ b, PyData.strOk (sideS b) = true := fun b => by cases b <;> decide +kernel
  have tip : ∀ b, noLd (.tuple [.str "tipped", sdD b, .tuple ((awyF p xs n b).map .str)]) = true ∧ Shp 40 (.tuple [.str "tipped", sdD b, .tuple ((awyF p xs n b).map .str)]) ∧ wdB (.tuple [.str "tipped", sdD b, .tuple ((awyF p xs n b).map .str)]) = true := fun b => by
    obtain ⟨c1, c2⟩ := hs b
    have z := hn b
    have z2 := hw b
    generalize PyData.tuple ((awyF p xs n b).map .str) = d at c1 c2 z z2
    refine ⟨by simp only [noLd, noLds, z]; rfl, ⟨?_, ?_⟩, by simp only [wdB, wdBs, z2]; rfl⟩
    · simp only [PyData.canLay0, PyData.canLayAll0, c1, ss b]
      decide +kernel
    · simp only [PyData.depth, PyData.depthAll]
      omega
  unfold balF
  split
  · exact tip true
  · split
    · exact tip false
    · exact ⟨rfl, ⟨by simp only [PyData.canLay0, PyData.canLayAll0]; decide +kernel, by simp [PyData.depth, PyData.depthAll]⟩, rfl⟩
theorem ok_acc {f : Addr} {fd fdI : FuncData} (F : Fun K "accept_balanced" "accept_balanced" s_accept_balanced f fd) (T : AccTxt K mg A0 CP fIP) (c_balanced : Cg P w K mg base (L2.CX P w) 7 "balanced" (spP K 3 (wBal C))) (c_is_row : Cg P w K mg base CX0 1 "is_row" (spP K 2 wIsRow)) (c_are_same : Cg P w K mg base CX0 6 "are_same" (spP K 2 (wSame 6))) (c_are_away : Cg P w K mg base CX0 3 "are_away" (spP K 3 wAway)) (c_slack_without : Cg P w K mg base CX0 2 "slack_without" (spP K 4 wSlack)) (fi_PaperError : FnOk P w K mg base CX0 1 fIP fdI ["self", "reason"] (spIni CP ["reason"])) (fb_PaperError : Binds K fdI ["self", "reason"] []) :
    FnG P w K mg base (L2.CX P w) 8 f fd ["plane", "items", "most", "told"] (spP K 4 (wAcc C CP)) := by
  refine okPX F sc_accept_balanced rfl fun cdv A outer s H E hG hr => ?_
  have tk0 : Takes (cxOf (L2.CX P w) P w K mg base N_accept_balanced "accept_balanced" (defScope s_accept_balanced) f cdv A outer s H E) (fun cls d _ H => E cls d H) := takes_of rfl rfl rfl rfl
  refine ⟨_, (pss_cons (ps_set (i := 4) sc_accept_balanced.nd rfl (.inl rfl) (pe_cgS c_balanced hr (by decide) hG (fun _ => passE tk0) (by rfl) (pa_cons (pv 0) (pa_cons (pv 1) (pa_cons (pv 2) pa_nil)))))
    (pss_one (ps_if (PW.pt (pw_and (pt_val (pe_cg c_is_row hr (by decide) hG (by rfl) (pa_cons (pv 3) (pa_cons pe_int pa_nil)))) (pw_and1 (pt_cmpR op_eq (pe_ix (r := rIxT K) ix_tup (pv 3) pe_int (fun _ _ => rfl)) pe_str (nomark _)))))
    (pss_one (ps_if (pt_not (pt_val (pe_cg c_are_same hr (by decide) hG (by rfl) (pa_cons (pv 3) (pa_cons (pv 4) pa_nil)))))
    (pss_one (ps_raise rfl tk0 (pmk_oex T.o_PaperError T.i_PaperError T.t_PaperError fi_PaperError (hr.mono (by decide)) fb_PaperError .nil pass0 (by rfl) T.m_PaperError (pa_cons pe_str pa_nil))))
    pss_nil))
    (pss_one (ps_if (PW.pt (pw_and (pt_val (pe_cg c_is_row hr (by decide) hG (by rfl) (pa_cons (pv 3) (pa_cons pe_int pa_nil)))) (pw_and (pt_cmpR op_eq (pe_ix (r := rIxT K) ix_tup (pv 3) pe_int (fun _ _ => rfl)) pe_str (nomark _)) (pw_and (pt_cmpR (r := rIn K false) op_in_seq (pe_ix (r := rIxT K) ix_tup (pv 3) pe_int (fun _ _ => rfl)) (pe_gl (by rfl) T.g_SIDES) (by rfl)) (pw_and1 (pt_val (pe_callB (r := rIsi K) (id := "isinstance") call_isi (by rfl) T.z_isinstance (by decide +kernel) (pa_cons (pe_ix (r := rIxT K) ix_tup (pv 3) pe_int (fun _ _ => rfl)) (pa_cons (pe_bltn (v := .ty "tuple") (u := .type "tuple") (by rfl) T.z_tuple (by decide +kernel) rfl) pa_nil)))))))))
    (pss_cons (ps_if (pt_not (pt_val (pe_cg c_are_away hr (by decide) hG (by rfl) (pa_cons (pv 1) (pa_cons (pv 2) (pa_cons (pe_ix (r := rIxT K) ix_tup (pv 3) pe_int (fun _ _ => rfl)) pa_nil))))))
    (pss_one (ps_raise rfl tk0 (pmk_oex T.o_PaperError T.i_PaperError T.t_PaperError fi_PaperError (hr.mono (by decide)) fb_PaperError .nil pass0 (by rfl) T.m_PaperError (pa_cons pe_str pa_nil))))
    pss_nil)
    (pss_one (ps_if (pt_cmpR op_ge (pe_cg c_slack_without hr (by decide) hG (by rfl) (pa_cons (pv 0) (pa_cons (pv 1) (pa_cons (pe_ix (r := rIxT K) ix_tup (pv 3) pe_int (fun _ _ => rfl)) (pa_cons (pe_ix (r := rIxT K) ix_tup (pv 3) pe_int (fun _ _ => rfl)) pa_nil))))) pe_int (nomark _))
    (pss_one (ps_raise rfl tk0 (pmk_oex T.o_PaperError T.i_PaperError T.t_PaperError fi_PaperError (hr.mono (by decide)) fb_PaperError .nil pass0 (by rfl) T.m_PaperError (pa_cons pe_str pa_nil))))
    pss_nil)))
    (pss_one (ps_raise rfl tk0 (pmk_oex T.o_PaperError T.i_PaperError T.t_PaperError fi_PaperError (hr.mono (by decide)) fb_PaperError .nil pass0 (by rfl) T.m_PaperError (pa_cons pe_str pa_nil))))))))), fun F0 H0 as k ke hl hw hE => ?_⟩
  obtain ⟨p, i, m, t, rfl, np, ni, nm, ht, qx, qm, q⟩ := hw
  haveI := EkI.of hE
  change Ds _ [_, _, _, _, _] _ _ _
  walk_at "d"
  refine ⟨p, i, m, rfl, np, ni, nm, qx, qm, fun pl xs n e1 e2 e3 hp hx hn => ?_⟩
  obtain ⟨hstr, qn, qs⟩ := q pl xs n e1 e2 e3 hp hx hn
  obtain ⟨b1, b2, b3⟩ := bal_ok (p := pl) (n := n) hx.l hstr
  subst e1 e2 e3
  have nl := ht.nl
  have s0 := ht.s0
  have f1 := ht.f1
  have hsh := ht.sh
  have fl := flat_of nl
  have raise : ∀ (x : Str) (G : List Sv) (En : En), accR pl xs n t = some x → Ds (cyP K F0 H0) G [] (fun _ σ H => tMkO CP (spIni CP ["reason"]) [] (tCons (tC (.str x)) tNil) σ H fun c d H' => E c d H') En := fun x G En e => by
    refine ds_raise (fs := ["reason"]) hE ?_
    walk_at "d"
    exact ⟨by show 1 ≤ 1000; decide, qs x e⟩
  unfold accR at raise qn
  walk_at "d"
  refine ⟨t, 2, rfl, fl, ?_⟩
  walk_at "d"
  have fin2 : (rowB t 2 && seq (el t 0) (.str "kept")) = false → accR pl xs n t = if (rowB t 3 && (seq (el t 0) (.str "tipped") && (inD (el t 1) [sdD true, sdD false] && tupB (el t 2)))) = true then
    (if awayB xs n (itemsL (el t 2)) = true then (if 0 ≤ slackF pl xs (sideOf (el t 1)) (strsOf (itemsL (el t 2))) then some (Str.ofString "side") else none) else some (Str.ofString "names"))
  else some (Str.ofString "form") := fun h => by unfold accR; rw [h]; rfl
  refine (fun (no : (rowB t 2 && seq (el t 0) (.str "kept")) = false → _) => ifB (fun h1 => ?_) (fun h1 => no (by rw [h1]; rfl))) ?_
  · obtain ⟨a, b, rfl⟩ := row2_ex h1
    walk_at "d"
    refine ⟨a, rfl, ?_⟩
    walk_at "d"
    refine ⟨s0, ?_⟩
    walk_at "d"
    refine ifB (fun h2 => ?_) (fun h2 => no (by rw [h1]; exact h2))
    have h12 : (rowB (.tuple [a, b]) 2 && seq (el (.tuple [a, b]) 0) (.str "kept")) = true := by rw [h1]; exact h2
    walk_at "d"
    simp only [noLd] at nl
    refine ⟨_, _, rfl, by simpa only [noLd] using nl, b1, Nat.lt_of_le_of_lt hsh.2 (by decide), ⟨hsh.1, Nat.le_trans hsh.2 (by decide)⟩, b2, b3, ?_⟩
    walk_at "d"
    refine ifB (fun h3 => ?_) (fun h3 => ?_)
    · have h3 : sameB (.tuple [a, b]) (balF pl xs n) = false := by simpa using h3
      exact raise "slacks" _ _ (by rw [if_pos h12, if_neg (by rw [h3]; exact Bool.false_ne_true)])
    · have h3 : sameB (.tuple [a, b]) (balF pl xs n) = true := by simpa using h3
      walk_at "d"
      exact qn (by rw [if_pos h12, if_pos h3])
  · intro h12
    have e12 := fin2 h12
    have raise2 : ∀ (x : Str) (G : List Sv) (En : En), accR pl xs n t = some x → Ds (cyP K F0 H0) G [] (fun _ σ H => tMkO CP (spIni CP ["reason"]) [] (tCons (tC (.str x)) tNil) σ H fun c d H' => E c d H') En := raise
    have qn2 : accR pl xs n t = none → k (Rs.v (Sv.dat PyData.none)) := qn
    rw [e12] at raise2 qn2
    walk_at "d"
    refine ⟨t, 3, rfl, fl, ?_⟩
    walk_at "d"
    refine (fun (no : (rowB t 3 && (seq (el t 0) (.str "tipped") && (inD (el t 1) [sdD true, sdD false] && tupB (el t 2)))) = false → _) => ifB (fun h1 => ?_) (fun h1 => no (by rw [h1]; rfl))) ?_
    · obtain ⟨a, b, c, rfl⟩ := row3_ex h1
      walk_at "d"
      refine ⟨a, rfl, ?_⟩
      walk_at "d"
      have s0' : scD a (.str "tipped") = true := by
        have : scD a (.str "kept") = true := s0
        cases a <;> first | rfl | cases this
      refine ⟨s0', ?_⟩
      walk_at "d"
      refine ifB (fun h2 => ?_) (fun h2 => no (by rw [h1]; show (seq a (.str "tipped") && _) = false; rw [h2]; rfl))
      walk_at "d"
      refine ⟨b, rfl, ?_⟩
      refine dx_con T.dS ?_
      unfold sidesD
      walk_at "d"
      refine ⟨f1 h2, rfl, ?_⟩
      walk_at "d"
      refine ifB (fun h3 => ?_) (fun h3 => no (by rw [h1]; show (seq a (.str "tipped") && (inD b _ && _)) = false; rw [h2]; show (inD b _ && _) = false; rw [show inD b [sdD true, sdD false] = false from h3]; rfl))
      have h3 : inD b [sdD true, sdD false] = true := h3
      walk_at "d"
      refine ⟨c, rfl, ?_⟩
      simp only [noLd, noLds, Bool.and_eq_true] at nl
      have fc := flat_of nl.2.2.1
      have nox : tupB c = false → (rowB (.tuple [a, b, c]) 3 && (seq (el (.tuple [a, b, c]) 0) (.str "tipped") && (inD (el (.tuple [a, b, c]) 1) [sdD true, sdD false] && tupB (el (.tuple [a, b, c]) 2)))) = false := fun h4 => by
        show (rowB (.tuple [a, b, c]) 3 && (seq a (.str "tipped") && (inD b [sdD true, sdD false] && tupB c))) = false
        rw [h4, Bool.and_false, Bool.and_false, Bool.and_false]
      cases c <;> first | (cases fc; done) | (walk_at "d"; exact no (nox rfl)) | skip
      rename_i cs
      have hyes : (rowB (.tuple [a, b, .tuple cs]) 3 && (seq (el (.tuple [a, b, .tuple cs]) 0) (.str "tipped") && (inD (el (.tuple [a, b, .tuple cs]) 1) [sdD true, sdD false] && tupB (el (.tuple [a, b, .tuple cs]) 2)))) = true := by
        show (rowB (.tuple [a, b, .tuple cs]) 3 && (seq a (.str "tipped") && (inD b [sdD true, sdD false] && true))) = true
        rw [h1, h2, h3]; rfl
      rw [if_pos hyes] at raise2 qn2
      have raise3 : ∀ (x : Str) (G : List Sv) (En : En), (if awayB xs n cs = true then (if 0 ≤ slackF pl xs (sideOf b) (strsOf cs) then some (Str.ofString "side") else none) else some (Str.ofString "names")) = some x → Ds (cyP K F0 H0) G [] (fun _ σ H => tMkO CP (spIni CP ["reason"]) [] (tCons (tC (.str x)) tNil) σ H fun c d H' => E c d H') En := raise2
      have qn3 : (if awayB xs n cs = true then (if 0 ≤ slackF pl xs (sideOf b) (strsOf cs) then some (Str.ofString "side") else none) else some (Str.ofString "names")) = none → k (Rs.v (Sv.dat PyData.none)) := qn2
      walk_at "d"
      refine ⟨.tuple cs, rfl, ?_⟩
      walk_at "d"
      refine ⟨xs, n, cs, rfl, hx, hn, nl.2.2.1, ?_⟩
      walk_at "d"
      refine ifB (fun h4 => ?_) (fun h4 => ?_)
      · have h4 : awayB xs n cs = false := by simpa using h4
        exact raise3 "names" _ _ (by rw [if_neg (by rw [h4]; exact Bool.false_ne_true)])
      have h4 : awayB xs n cs = true := by simpa using h4
      rw [if_pos h4] at raise3 qn3
      have hcs : cs = (strsOf cs).map .str := by
        unfold awayB at h4
        simp only [Bool.and_eq_true] at h4
        exact strs_ex h4.2.1
      walk_at "d"
      refine ⟨b, rfl, ?_⟩
      walk_at "d"
      refine ⟨.tuple cs, rfl, ?_⟩
      walk_at "d"
      refine ⟨pl, xs, sideOf b, strsOf cs, by rw [← sideOf_in h3, ← hcs], hp, hx, ?_⟩
      walk_at "d"
      refine ifP (fun h5 => ?_) (fun h5 => ?_)
      · exact raise3 "side" _ _ (by rw [if_pos h5])
      · walk_at "d"
        exact qn3 (by rw [if_neg h5])
    · intro hno
      rw [if_neg (by rw [hno]; exact Bool.false_ne_true)] at raise2
      exact raise2 "form" _ _ rfl
end
end Mine
set_option Elab.async false
set_option linter.all false
set_option maxRecDepth 100000
set_option maxHeartbeats 4000000
namespace Mine
open PySem PySem.Spec PyProof.Rows L2 Ln Dl RZ
abbrev s_boarded : Stmt := topS 30
abbrev N_boarded : List Str := ["plane", "items", "order", "number", "side"]
theorem sc_boarded : FnScope N_boarded ["plane", "items", "order"] (defScope s_boarded) := ⟨rfl, rfl, rfl, by decide +kernel, rfl, by decide +kernel, by decide +kernel⟩
-- slots: 0 plane, 1 items, 2 order, 3 number, 4 side
theorem orderB_ex {xs : List (Str × Int × Int)} {o : PyData} (h : orderB xs o = true) : ∃ zs : List Str, o = .tuple (zs.map .str) ∧ zs.Perm (xs.map Prod.fst) := by
  match o, h with
  | .tuple ds, h =>
    have h : (ds.all strB && decide ((strsOf ds).Perm (xs.map Prod.fst))) = true := h
    rw [Bool.and_eq_true] at h
    exact ⟨strsOf ds, by rw [← strs_ex h.1], of_decide_eq_true h.2⟩
  | .none, h => cases h
  | .bool _, h => cases h
  | .int _, h => cases h
  | .str _, h => cases h
  | .list _, h => cases h
  | .dict _, h => cases h
section
variable {P : Program} {w : World} {K : PySem.W.Frag} {mg : Str → Option Value} {base : Heap} {C fI CP fIP A0 : Addr}
def wBrd (C : Addr) : Wt := fun as k ke => ∃ p i o, as = [.dat p, .dat i, .dat o] ∧ noLd p = true ∧ noLd i = true ∧ noLd o = true ∧ Shp 8 o ∧ (∀ ds, o = .tuple ds → ds.length ≤ 100) ∧ (∀ x, reqL p i = some x → ke C (rsn x)) ∧
  ∀ pl xs, p = plD pl → i = itsD xs → GoodP pl → GoodI xs → (∀ x ∈ xs, PyData.strOk x.1 = true) ∧ (orderB xs o = false → ke C (rsn "order")) ∧ ∀ zs : List Str, o = .tuple (zs.map .str) → zs.Perm (xs.map Prod.fst) → k (.v (.dat (brdF pl xs zs)))
theorem ok_brd {f : Addr} {fd : FuncData} (F : Fun K "boarded" "boarded" s_boarded f fd) (T : SidTxt K mg A0) (c_require_load : Cg P w K mg base (L2.CX P w) 6 "require_load" (spP K 2 (wReqL C))) (c_is_order : Cg P w K mg base CX0 3 "is_order" (spP K 2 wOrder)) (c_require : Cg P w K mg base (L2.CX P w) 3 "require" (spP K 2 (wRequire C))) (c_slack_without : Cg P w K mg base CX0 2 "slack_without" (spP K 4 wSlack)) :
    FnG P w K mg base (L2.CX P w) 7 f fd ["plane", "items", "order"] (spP K 3 (wBrd C)) := by
  refine okPX F sc_boarded rfl fun cdv A outer s H E hG hr => ?_
  have tk0 : Takes (cxOf (L2.CX P w) P w K mg base N_boarded "boarded" (defScope s_boarded) f cdv A outer s H E) (fun cls d _ H => E cls d H) := takes_of rfl rfl rfl rfl
  refine ⟨_, (pss_cons (ps_expr (pe_cgS c_require_load hr (by decide) hG (fun _ => passE tk0) (by rfl) (pa_cons (pv 0) (pa_cons (pv 1) pa_nil))))
    (pss_cons (ps_expr (pe_cgS c_require hr (by decide) hG (fun _ => passE tk0) (by rfl) (pa_cons (pe_cg c_is_order hr (by decide) hG (by rfl) (pa_cons (pv 1) (pa_cons (pv 2) pa_nil))) (pa_cons pe_str pa_nil))))
    (pss_cons (ps_for (passes_of rfl) rfl (pi_range1 (by rfl) T.z_range (pa_cons (pe_op op_add (pe_callB (r := Ln.rLen K) (id := "len") c_len (by rfl) T.z_len (by decide +kernel) (pa_cons (pv 2) pa_nil)) pe_int) pa_nil)) (pg_name (i := 3) sc_boarded.nd rfl (.inl rfl))
    (pss_one (ps_for (passes_of rfl) rfl (pi_tup (pe_gl (by rfl) T.g_SIDES)) (pg_name (i := 4) sc_boarded.nd rfl (.inl rfl))
    (pss_one (ps_if (pt_cmpR op_lt (pe_cg c_slack_without hr (by decide) hG (by rfl) (pa_cons (pv 0) (pa_cons (pv 1) (pa_cons (pv 4) (pa_cons (pe_slice (r := Ln.rSlS K) sl_tupS (pv 2) (po_some (pv 3)) po_none) pa_nil))))) pe_int (nomark _))
    (pss_one (ps_ret (pe_tup (pa_cons (pv 3) (pa_cons (pv 4) pa_nil)))))
    pss_nil)))))
    (pss_one (ps_ret pe_non))))), fun F0 H0 as k ke hl hw hE => ?_⟩
  obtain ⟨p, i, o, rfl, np, ni, no, so, lo, qx, q⟩ := hw
  haveI := EkI.of hE
  change Ds _ [_, _, _, _, _] _ _ _
  walk_at "d"
  refine ⟨p, i, rfl, np, ni, fun h => ?_, qx⟩
  obtain ⟨pl, xs, rfl, rfl, hp, hx⟩ := reqL_none h
  obtain ⟨hstr, qo, q⟩ := q pl xs rfl rfl hp hx
  have hxl := hx.l
  walk_at "d"
  refine ⟨xs, o, rfl, hxl, hstr, no, so, lo, ?_⟩
  walk_at "d"
  refine ⟨_, _, rfl, fun h2 => ?_, qo⟩
  obtain ⟨zs, rfl, hperm⟩ := orderB_ex h2
  have q := q zs rfl hperm
  have hzl : zs.length ≤ 60 := by rw [hperm.length_eq, List.length_map]; exact hxl
  walk_at "d"
  refine ds_for ?_
  walk_at "d"
  rw [List.length_map]
  refine ⟨⟨by omega, by omega⟩, fun i G' O' => (∃ z3 z4, G' = [.dat (plD pl), .dat (itsD xs), .dat (.tuple (zs.map .str)), z3, z4]) ∧ O' = [] ∧ ∀ j < i, brdAt pl xs zs j = none, ⟨⟨_, _, rfl⟩, rfl, fun _ z => absurd z (Nat.not_lt_zero _)⟩, ?_, ?_⟩
  · rintro i d G' O' hd ⟨⟨z3, z4, rfl⟩, rfl, hall⟩
    have hi : i < zs.length + 1 := by
      have := (List.getElem?_eq_some_iff.mp hd).1
      rw [List.length_map, List.length_range] at this
      omega
    rw [mapI_get (by omega)] at hd
    cases hd
    walk_at "d"
    refine ds_for ?_
    walk_at "d"
    refine dx_con T.dS ?_
    unfold sidesD
    walk_at "d"
    refine ⟨fun j G' O' => (∃ z4, G' = [.dat (plD pl), .dat (itsD xs), .dat (.tuple (zs.map .str)), .dat (.int (i : Int)), z4]) ∧ O' = [] ∧ ∀ b ∈ [true, false].take j, ¬ slackF pl xs b (zs.drop i) < 0, ⟨⟨_, rfl⟩, rfl, by simp⟩, ?_, ?_⟩
    · rintro j d G' O' hd ⟨⟨z4, rfl⟩, rfl, hj⟩
      obtain ⟨b, hb, rfl⟩ : ∃ b, [true, false][j]? = some b ∧ d = sdD b := by
        have hd : ([true, false].map sdD)[j]? = some d := hd
        rw [List.getElem?_map] at hd
        obtain ⟨b, hb, rfl⟩ := Option.map_eq_some_iff.mp hd
        exact ⟨b, hb, rfl⟩
      have tk : [true, false].take (j + 1) = [true, false].take j ++ [b] := takeS hb
      walk_at "d"
      refine ⟨pl, xs, b, zs.drop i, by rw [cutD_dropA, List.map_drop], hp, hx, ?_⟩
      walk_at "d"
      refine ifP (fun h => ?_) (fun h => ?_)
      · walk_at "d"
        have e : brdAt pl xs zs i = some (.tuple [.int (i : Int), sdD b]) := by
          unfold brdAt
          match j, hb, hj with
          | 0, hb, hj =>
            cases hb
            rw [if_pos h]
          | 1, hb, hj =>
            cases hb
            rw [if_neg (hj true (by simp)), if_pos h]
        have e2 : brdF pl xs zs = .tuple [.int (i : Int), sdD b] := by
          unfold brdF
          rw [find_hit (i := i) (x := i) (List.getElem?_range hi) (fun z hz => ?_) e]
          · rfl
          · rw [List.take_range, List.mem_range] at hz
            exact hall z (by omega)
        rw [e2] at q
        exact q
      · walk_at "d"
        refine ⟨⟨_, rfl⟩, rfl, ?_⟩
        rw [tk]
        intro c hc
        rcases List.mem_append.mp hc with hc | hc
        · exact hj c hc
        · rw [List.mem_singleton.mp hc]; exact h
    · rintro G' O' ⟨⟨z4, rfl⟩, rfl, hj⟩
      have h1 := hj true (by simp)
      have h2 := hj false (by simp)
      refine ⟨⟨_, _, rfl⟩, rfl, fun j hj => ?_⟩
      rcases Nat.lt_succ_iff_lt_or_eq.mp hj with hj | rfl
      · exact hall j hj
      · unfold brdAt
        rw [if_neg h1, if_neg h2]
  · rintro G' O' ⟨⟨z3, z4, rfl⟩, rfl, hall⟩
    rw [List.length_map, List.length_range] at hall
    walk_at "d"
    have e2 : brdF pl xs zs = .none := by
      unfold brdF
      rw [find_miss fun z hz => hall z (by have := List.mem_range.mp hz; omega)]
      rfl
    rw [e2] at q
    exact q
end
end Mine
set_option Elab.async false
set_option linter.all false
set_option maxRecDepth 100000
set_option maxHeartbeats 4000000
namespace Mine
open PySem PySem.Spec PyProof.Rows L2 Ln Dl RZ
abbrev s_law_place : Stmt := topS 37
abbrev N_law_place : List Str := ["draws", "at"]
theorem sc_law_place : FnScope N_law_place ["draws", "at"] (defScope s_law_place) := ⟨rfl, rfl, rfl, by decide +kernel, rfl, by decide +kernel, by decide +kernel⟩
-- slots: 0 draws, 1 at
abbrev s_law_items : Stmt := topS 38
abbrev N_law_items : List Str := ["most", "draws", "at", "far", "k"]
theorem sc_law_items : FnScope N_law_items ["most", "draws", "at"] (defScope s_law_items) := ⟨rfl, rfl, rfl, by decide +kernel, rfl, by decide +kernel, by decide +kernel⟩
-- slots: 0 most, 1 draws*, 2 at*, 3 far*, 4 k
abbrev s_law_plane : Stmt := topS 39
abbrev N_law_plane : List Str := ["draws", "at", "fore", "aft", "between"]
theorem sc_law_plane : FnScope N_law_plane ["draws", "at"] (defScope s_law_plane) := ⟨rfl, rfl, rfl, by decide +kernel, rfl, by decide +kernel, by decide +kernel⟩
-- slots: 0 draws, 1 at, 2 fore, 3 aft, 4 between
abbrev s_law_moment : Stmt := topS 40
abbrev N_law_moment : List Str := ["plane", "items", "place", "found", "name", "mass"]
theorem sc_law_moment : FnScope N_law_moment ["plane", "items", "place"] (defScope s_law_moment) := ⟨rfl, rfl, rfl, by decide +kernel, rfl, by decide +kernel, by decide +kernel⟩
-- slots: 0 plane, 1 items, 2 place, 3 found, 4 name, 5 mass
abbrev s_law_arm_right : Stmt := topS 41
abbrev N_law_arm_right : List Str := ["plane"]
theorem sc_law_arm_right : FnScope N_law_arm_right ["plane"] (defScope s_law_arm_right) := ⟨rfl, rfl, rfl, by decide +kernel, rfl, by decide +kernel, by decide +kernel⟩
-- slots: 0 plane
abbrev s_law_away : Stmt := topS 42
abbrev N_law_away : List Str := ["items", "names", "item"]
theorem sc_law_away : FnScope N_law_away ["items", "names"] (defScope s_law_away) := ⟨rfl, rfl, rfl, by decide +kernel, rfl, by decide +kernel, by decide +kernel⟩
-- slots: 0 items, 1 names*, 2 item
abbrev s_law_tips : Stmt := topS 43
abbrev N_law_tips : List Str := ["plane", "items", "names", "rest"]
theorem sc_law_tips : FnScope N_law_tips ["plane", "items", "names"] (defScope s_law_tips) := ⟨rfl, rfl, rfl, by decide +kernel, rfl, by decide +kernel, by decide +kernel⟩
-- slots: 0 plane, 1 items, 2 names, 3 rest
/-! ## sums -/
theorem nodup_mapI {α β : Type} {f : α → β} (inj : ∀ a b, f a = f b → a = b) {l : List α} (h : l.Nodup) : (l.map f).Nodup := List.pairwise_map.mpr (List.Pairwise.imp (fun {a b} n e => n (inj a b e)) h)
theorem nodup_ofMap {α β : Type} {f : α → β} {l : List α} (h : (l.map f).Nodup) : l.Nodup := List.Pairwise.imp (fun {a b} n e => n (congrArg f e)) (List.pairwise_map.mp h)
theorem perm_sumI {a b : List Int} (p : a.Perm b) : a.sum = b.sum := by
  induction p with
  | nil => rfl
  | cons x _ ih => rw [List.sum_cons, List.sum_cons, ih]
  | swap x y l => simp only [List.sum_cons]; omega
  | trans _ _ h1 h2 => exact h1.trans h2
theorem nodup_at {α : Type} {l : List α} (h : l.Nodup) {i j : Nat} {x : α} (h1 : l[i]? = some x) (h2 : l[j]? = some x) : i = j :=
  (List.getElem?_inj (List.getElem?_eq_some_iff.mp h1).1 h).mp (h1.trans h2.symm)
theorem take_filter_pos : ∀ {ds : List Int} (n : Nat), ds.Pairwise (· ≥ ·) → (ds.take n).filter (fun i => decide (0 < i)) = (ds.filter fun i => decide (0 < i)).take n
  | [], n, _ => by simp
  | d :: ds, 0, _ => by simp
  | d :: ds, n + 1, h => by
    rw [List.pairwise_cons] at h
    rw [List.take_succ_cons]
    by_cases c : 0 < d
    · rw [List.filter_cons_of_pos (by simpa using c), List.filter_cons_of_pos (by simpa using c), List.take_succ_cons, take_filter_pos n h.2]
    · have e : ∀ es : List Int, (∀ x ∈ es, x ≤ d) → es.filter (fun i => decide (0 < i)) = [] := fun es he => List.filter_eq_nil_iff.mpr fun x hx => by
        have := he x hx
        simp; omega
      rw [List.filter_cons_of_neg (by simpa using c), List.filter_cons_of_neg (by simpa using c), e _ (fun x hx => h.1 x (List.mem_of_mem_take hx)), e _ h.1, List.take_nil]
theorem zip_fst {α : Type} (us : List α) (k : Nat) : (us.zipIdx k).map Prod.fst = us := List.zipIdx_map_fst k us
theorem cand_fst (us : List Int) : (candP us).map (fun p => -p.1) = us.filter fun i => decide (0 < i) := by
  unfold candP
  rw [List.map_map]
  have e : ((fun p : Int × Int => -p.1) ∘ fun p : Int × Nat => (-p.1, (p.2 : Int))) = Prod.fst := by funext p; show - -p.1 = p.1; omega
  rw [e]
  conv => rhs; rw [← zip_fst us 0, List.filter_map]
  rfl
/-- the greatest of those that pull -/
theorem ord_fst {us ds : List Int} (p : ds.Perm us) (h : ds.Pairwise (· ≥ ·)) : (ordP us).map (fun p => -p.1) = ds.filter fun i => decide (0 < i) := by
  refine List.Perm.eq_of_pairwise (le := fun a b : Int => a ≥ b) (fun a b _ _ h1 h2 => Int.le_antisymm h2 h1) ?_ (h.sublist List.filter_sublist) ?_
  · rw [List.pairwise_map]
    refine (ordP_pw us).imp fun {a b} h => ?_
    unfold ltE at h
    show -a.1 ≥ -b.1
    omega
  · have h1 := (ordP_perm us).map fun p => -p.1
    rw [cand_fst] at h1
    exact h1.trans (p.filter _).symm
theorem top_sum {us ds : List Int} (n : Nat) (p : ds.Perm us) (h : ds.Pairwise (· ≥ ·)) : ((ds.take n).filter fun i => decide (0 < i)).sum = (((ordP us).take n).map fun p => -p.1).sum := by
  rw [take_filter_pos n h, ← ord_fst p h, List.map_take]
theorem sum_split {α : Type} (f : α → Int) (q : α → Bool) : ∀ xs : List α, (xs.map f).sum = ((xs.filter q).map f).sum + ((xs.filter fun x => !q x).map f).sum
  | [] => rfl
  | x :: xs => by
    have := sum_split f q xs
    cases h : q x
    · rw [List.filter_cons_of_neg (by rw [h]; exact Bool.false_ne_true), List.filter_cons_of_pos (by rw [h]; rfl), List.map_cons, List.sum_cons, List.map_cons, List.sum_cons]
      omega
    · rw [List.filter_cons_of_pos h, List.filter_cons_of_neg (by rw [h]; exact Bool.false_ne_true), List.map_cons, List.sum_cons, List.map_cons, List.sum_cons]
      omega
theorem zip_snd_inj {α : Type} {us : List α} {p q : α × Nat} (hp : p ∈ us.zipIdx) (hq : q ∈ us.zipIdx) (e : p.2 = q.2) : p = q := by
  obtain ⟨a, i⟩ := p
  obtain ⟨b, j⟩ := q
  have e : i = j := e
  subst e
  have h1 := List.mem_zipIdx_iff_getElem?.mp hp
  have h2 := List.mem_zipIdx_iff_getElem?.mp hq
  rw [h1] at h2
  cases h2
  rfl
theorem zip_nodup {α : Type} (us : List α) : us.zipIdx.Nodup := nodup_ofMap (f := Prod.snd) (by
  rw [List.zipIdx_map_snd]
  exact List.nodup_range')
abbrev gCand (p : Int × Nat) : Int × Int := (-p.1, (p.2 : Int))
theorem gCand_inj (p q : Int × Nat) (h : gCand p = gCand q) : p = q := by
  obtain ⟨a, i⟩ := p
  obtain ⟨b, j⟩ := q
  have h1 := congrArg Prod.fst h
  have h2 := congrArg Prod.snd h
  have h1 : -a = -b := h1
  have h2 : (i : Int) = (j : Int) := h2
  have e1 : a = b := by omega
  have e2 : i = j := by omega
  subst e1 e2
  rfl
theorem cand_nodup (us : List Int) : (candP us).Nodup := nodup_mapI gCand_inj ((zip_nodup us).sublist List.filter_sublist)
theorem mem_cand {us : List Int} {t : Int × Int} (h : t ∈ candP us) : ∃ p ∈ us.zipIdx, 0 < p.1 ∧ gCand p = t := by
  obtain ⟨p, hp, e⟩ := List.mem_map.mp h
  obtain ⟨h1, h2⟩ := List.mem_filter.mp hp
  exact ⟨p, h1, of_decide_eq_true h2, e⟩
/-- those left behind, with their places -/
theorem chosen_perm (us : List Int) (n : Nat) : ((us.zipIdx.filter fun p => decide ((p.2 : Int) ∈ placesF us n)).map gCand).Perm ((ordP us).take n) := by
  have nd : ((ordP us).take n).Nodup := (((ordP_perm us).nodup_iff).mpr (cand_nodup us)).sublist (List.take_sublist _ _)
  have sub : ∀ t ∈ (ordP us).take n, t ∈ candP us := fun t ht => (ordP_perm us).mem_iff.mp (List.mem_of_mem_take ht)
  refine (List.perm_ext_iff_of_nodup (nodup_mapI gCand_inj ((zip_nodup us).sublist List.filter_sublist)) nd).mpr fun t => ?_
  constructor
  · intro h
    obtain ⟨p, hp, rfl⟩ := List.mem_map.mp h
    obtain ⟨h1, h2⟩ := List.mem_filter.mp hp
    obtain ⟨t, ht, e⟩ := List.mem_map.mp (of_decide_eq_true h2)
    obtain ⟨q, hq, _, eq⟩ := mem_cand (sub t ht)
    have e2 : t.2 = (q.2 : Int) := by rw [← eq]
    have : p = q := zip_snd_inj h1 hq (by have e : t.2 = (p.2 : Int) := e; omega)
    rw [this, eq]
    exact ht
  · intro h
    obtain ⟨q, hq, _, eq⟩ := mem_cand (sub t h)
    refine List.mem_map.mpr ⟨q, List.mem_filter.mpr ⟨hq, decide_eq_true (List.mem_map.mpr ⟨t, h, by rw [← eq]⟩)⟩, eq⟩
/-- what is left is the whole less the greatest -/
theorem rest_sum (us : List Int) (n : Nat) : ((us.zipIdx.filter fun p => !decide ((p.2 : Int) ∈ placesF us n)).map Prod.fst).sum = us.sum - (((ordP us).take n).map fun p => -p.1).sum := by
  have h := sum_split (Prod.fst : Int × Nat → Int) (fun p => decide ((p.2 : Int) ∈ placesF us n)) us.zipIdx
  rw [zip_fst] at h
  have h2 := perm_sumI ((chosen_perm us n).map fun p => -p.1)
  rw [List.map_map] at h2
  have e : ((fun p : Int × Int => -p.1) ∘ gCand) = Prod.fst := by funext p; show - -p.1 = p.1; omega
  rw [e] at h2
  omega
theorem mem_away {xs : List (Str × Int × Int)} (nd : (xs.map Prod.fst).Nodup) {us : List Int} {n : Nat} {p : (Str × Int × Int) × Nat} (hp : p ∈ xs.zipIdx) : p.1.1 ∈ awayF xs us n ↔ (p.2 : Int) ∈ placesF us n := by
  unfold awayF
  constructor
  · intro h
    obtain ⟨q, hq, e⟩ := List.mem_map.mp h
    obtain ⟨h1, h2⟩ := List.mem_filter.mp hq
    have ip := List.mem_zipIdx_iff_getElem?.mp (show (p.1, p.2) ∈ xs.zipIdx from hp)
    have iq := List.mem_zipIdx_iff_getElem?.mp (show (q.1, q.2) ∈ xs.zipIdx from h1)
    have ip' : (xs.map Prod.fst)[p.2]? = some p.1.1 := by rw [List.getElem?_map, ip]; rfl
    have iq' : (xs.map Prod.fst)[q.2]? = some p.1.1 := by rw [List.getElem?_map, iq, ← e]; rfl
    have : p.2 = q.2 := nodup_at nd ip' iq'
    rw [this]
    exact of_decide_eq_true h2
  · intro h
    exact List.mem_map.mpr ⟨p, List.mem_filter.mpr ⟨hp, decide_eq_true h⟩, rfl⟩
theorem slF_eq (p : Pl) {xs : List (Str × Int × Int)} (n : Nat) (b : Bool) (nd : (xs.map Prod.fst).Nodup) : slF p xs n b = pullF p b p.m + (pullsF p xs b).sum - (((ordP (pullsF p xs b)).take n).map fun p => -p.1).sum := by
  unfold slF slackF awyF
  have h := rest_sum (pullsF p xs b) n
  have e1 : ((xs.filter fun x => !decide (x.1 ∈ awayF xs (pullsF p xs b) n)).map fun x => pullF p b x.2) = (((pullsF p xs b).zipIdx.filter fun q => !decide ((q.2 : Int) ∈ placesF (pullsF p xs b) n)).map Prod.fst) := by
    generalize hP : pullsF p xs b = us at h ⊢
    have hz : us.zipIdx = xs.zipIdx.map fun q => (pullF p b q.1.2, q.2) := by
      rw [← hP]
      unfold pullsF
      rw [List.zipIdx_map]
      refine List.map_congr_left fun q _ => rfl
    rw [hz, List.filter_map, List.map_map]
    conv => lhs; rw [← zip_fst xs 0, List.filter_map, List.map_map]
    have ef : xs.zipIdx.filter ((fun x : Str × Int × Int => !decide (x.1 ∈ awayF (xs.zipIdx.map Prod.fst) us n)) ∘ Prod.fst) = xs.zipIdx.filter ((fun q : Int × Nat => !decide ((q.2 : Int) ∈ placesF us n)) ∘ fun q : (Str × Int × Int) × Nat => (pullF p b q.1.2, q.2)) := by
      refine List.filter_congr fun q hq => ?_
      show (!decide (q.1.1 ∈ awayF (xs.zipIdx.map Prod.fst) us n)) = !decide ((q.2 : Int) ∈ placesF us n)
      rw [zip_fst, decide_eq_decide.mpr (mem_away nd hq)]
    rw [ef]
    rfl
  rw [e1, h]
  omega
end Mine
set_option Elab.async false
set_option linter.all false
set_option maxRecDepth 100000
set_option maxHeartbeats 4000000
namespace Mine
open PySem PySem.Spec PyProof.Rows L2 Ln Dl RZ
/-! ## the greatest of all rows -/
theorem top_lt {α : Type} {G : α → Int} {A B : List α} (h : B.Sublist A) : ∀ {n : Nat}, A.Pairwise (fun a b => G b < G a) → (∀ a ∈ A, 0 < G a) → B.length ≤ n → (B.map G).sum ≤ ((A.take n).map G).sum ∧ ((B.map G).sum = ((A.take n).map G).sum → B = A.take n) := by
  induction h with
  | slnil => intro n _ _ _; simp
  | @cons B A' a h ih =>
    intro n hp hg hl
    rw [List.pairwise_cons] at hp
    have h0 := hg a List.mem_cons_self
    have hg' : ∀ x ∈ A', 0 < G x := fun x hx => hg x (List.mem_cons_of_mem _ hx)
    cases n with
    | zero =>
      have : B = [] := List.length_eq_zero_iff.mp (by omega)
      subst this
      simp
    | succ m =>
      have h1 := (ih hp.2 hg' hl).1
      rw [List.take_succ_cons, List.map_cons, List.sum_cons]
      have h2 : ((A'.take (m + 1)).map G).sum < G a + ((A'.take m).map G).sum := by
        rw [List.take_add_one, List.map_append, List.sum_append]
        cases e : A'[m]? with
        | none => simp; omega
        | some y =>
          have := hp.1 y (List.mem_of_getElem? e)
          simp; omega
      exact ⟨by omega, fun e => by omega⟩
  | @cons_cons B A' a h ih =>
    intro n hp hg hl
    rw [List.pairwise_cons] at hp
    cases n with
    | zero => rw [List.length_cons] at hl; omega
    | succ m =>
      obtain ⟨h1, h2⟩ := ih (n := m) hp.2 (fun x hx => hg x (List.mem_cons_of_mem _ hx)) (by rw [List.length_cons] at hl; omega)
      rw [List.take_succ_cons, List.map_cons, List.map_cons, List.sum_cons, List.sum_cons]
      exact ⟨by omega, fun e => by rw [h2 (by omega)]⟩
theorem top_le {α : Type} {G : α → Int} {A B : List α} (h : B.Sublist A) : ∀ {n : Nat}, A.Pairwise (fun a b => G b ≤ G a) → (∀ a ∈ A, 0 ≤ G a) → B.length ≤ n → (B.map G).sum ≤ ((A.take n).map G).sum := by
  induction h with
  | slnil => intro n _ _ _; simp
  | @cons B A' a h ih =>
    intro n hp hg hl
    rw [List.pairwise_cons] at hp
    have h0 := hg a List.mem_cons_self
    have hg' : ∀ x ∈ A', 0 ≤ G x := fun x hx => hg x (List.mem_cons_of_mem _ hx)
    cases n with
    | zero =>
      have : B = [] := List.length_eq_zero_iff.mp (by omega)
      subst this
      simp
    | succ m =>
      have h1 := ih hp.2 hg' hl
      rw [List.take_succ_cons, List.map_cons, List.sum_cons]
      have h2 : ((A'.take (m + 1)).map G).sum ≤ G a + ((A'.take m).map G).sum := by
        rw [List.take_add_one, List.map_append, List.sum_append]
        cases e : A'[m]? with
        | none => simp; omega
        | some y =>
          have := hp.1 y (List.mem_of_getElem? e)
          simp; omega
      omega
  | @cons_cons B A' a h ih =>
    intro n hp hg hl
    rw [List.pairwise_cons] at hp
    cases n with
    | zero => rw [List.length_cons] at hl; omega
    | succ m =>
      have h1 := ih (n := m) hp.2 (fun x hx => hg x (List.mem_cons_of_mem _ hx)) (by rw [List.length_cons] at hl; omega)
      rw [List.take_succ_cons, List.map_cons, List.map_cons, List.sum_cons, List.sum_cons]
      omega
theorem sum_neg {α : Type} {f : α → Int} : ∀ {l : List α}, (∀ x ∈ l, f x < 0) → (l.map f).sum ≤ 0 ∧ ((l.map f).sum = 0 → l = [])
  | [], _ => by simp
  | x :: l, h => by
    have h1 := h x List.mem_cons_self
    have h2 := (sum_neg fun y hy => h y (List.mem_cons_of_mem _ hy)).1
    rw [List.map_cons, List.sum_cons]
    exact ⟨by omega, fun e => by omega⟩
theorem sum_npos {α : Type} {f : α → Int} : ∀ {l : List α}, (∀ x ∈ l, f x ≤ 0) → (l.map f).sum ≤ 0
  | [], _ => by simp
  | x :: l, h => by
    have h1 := h x List.mem_cons_self
    have h2 := sum_npos fun y hy => h y (List.mem_cons_of_mem _ hy)
    rw [List.map_cons, List.sum_cons]
    omega
/-- those of a choice that pull, in the order in which they are left -/
theorem pick_perm (us : List Int) (qq : Int × Nat → Bool) (q2 : Int × Int → Bool) (h : ∀ p, q2 (gCand p) = qq p) : ((ordP us).filter q2).Perm (((us.zipIdx.filter qq).filter fun p => decide (0 < p.1)).map gCand) := by
  refine ((ordP_perm us).filter q2).trans ?_
  have e : (candP us).filter q2 = ((us.zipIdx.filter qq).filter fun p => decide (0 < p.1)).map gCand := by
    unfold candP
    rw [List.filter_map, List.filter_filter, List.filter_filter]
    have e2 : (fun a : Int × Nat => (q2 ∘ fun p : Int × Nat => (-p.1, (p.2 : Int))) a && decide (0 < a.1)) = fun a => decide (0 < a.1) && qq a := by
      funext a
      rw [Bool.and_comm]
      show (decide (0 < a.1) && q2 (gCand a)) = _
      rw [h]
    rw [e2]
  rw [e]
theorem gc_neg (p : Int × Nat) : -(gCand p).1 = p.1 := by show - -p.1 = p.1; omega
/-- no choice of at most n pulls more -/
theorem opt_le (us : List Int) (n : Nat) (qq : Int × Nat → Bool) (hq : (us.zipIdx.filter qq).length ≤ n) : ((us.zipIdx.filter qq).map Prod.fst).sum ≤ (((ordP us).take n).map fun p => -p.1).sum := by
  have q2 : ∃ q2 : Int × Int → Bool, ∀ p, q2 (gCand p) = qq p := ⟨fun t => qq (-t.1, t.2.toNat), fun p => by
    show qq (- -p.1, ((p.2 : Int)).toNat) = qq p
    rw [Int.neg_neg, Int.toNat_natCast]⟩
  obtain ⟨q2, h2⟩ := q2
  have pp := pick_perm us qq q2 h2
  have s1 := sum_split (Prod.fst : Int × Nat → Int) (fun p => decide (0 < p.1)) (us.zipIdx.filter qq)
  have s2 := sum_npos (f := (Prod.fst : Int × Nat → Int)) (l := (us.zipIdx.filter qq).filter fun p => !decide (0 < p.1)) fun x hx => by
    have := (List.mem_filter.mp hx).2
    simp at this
    exact this
  have s3 := perm_sumI (pp.map fun t => -t.1)
  rw [List.map_map] at s3
  have e : ((fun t : Int × Int => -t.1) ∘ gCand) = (Prod.fst : Int × Nat → Int) := by funext p; exact gc_neg p
  rw [e] at s3
  have s4 := top_le (G := fun t : Int × Int => -t.1) (n := n) (List.filter_sublist (p := q2) (l := ordP us)) ((ordP_pw us).imp fun {a b} h => by unfold ltE at h; omega) (fun a ha => by
    obtain ⟨p, _, h0, rfl⟩ := mem_cand ((ordP_perm us).mem_iff.mp ha)
    show 0 ≤ - -p.1
    omega) (by rw [pp.length_eq, List.length_map]; exact Nat.le_trans (List.length_filter_le _ _) hq)
  omega
/-! ### ties -/
def wt (u : Int) (i : Nat) : Int := u * 1048576 - 1024 + (2 : Int) ^ (9 - i)
def rowW (us : List Int) (r : List Nat) : Int := (r.map fun k => wt (us.getD k 0) k).sum
def rowS (us : List Int) (r : List Nat) : Int := (r.map fun k => us.getD k 0).sum
def bin (r : List Nat) : Int := (r.map fun k => (2 : Int) ^ (9 - k)).sum
theorem rowW_eq (us : List Int) : ∀ r : List Nat, rowW us r = 1048576 * rowS us r - 1024 * (r.length : Int) + bin r
  | [] => rfl
  | k :: r => by
    have := rowW_eq us r
    unfold rowW rowS bin at *
    rw [List.map_cons, List.map_cons, List.map_cons, List.sum_cons, List.sum_cons, List.sum_cons, this, List.length_cons]
    unfold wt
    generalize (2 : Int) ^ (9 - k) = z
    omega
theorem pow_pos2 (k : Nat) : (0 : Int) < 2 ^ k := by
  have := Nat.two_pow_pos k
  have e : ((2 ^ k : Nat) : Int) = (2 : Int) ^ k := by rw [Int.natCast_pow]; rfl
  omega
theorem pow_mono2 {a b : Nat} (h : a ≤ b) : (2 : Int) ^ a ≤ 2 ^ b := by
  have := Nat.pow_le_pow_right (n := 2) (by decide) h
  have e1 : ((2 ^ a : Nat) : Int) = (2 : Int) ^ a := by rw [Int.natCast_pow]; rfl
  have e2 : ((2 ^ b : Nat) : Int) = (2 : Int) ^ b := by rw [Int.natCast_pow]; rfl
  omega
theorem bin_lt : ∀ (r : List Nat) (a : Nat), r.Pairwise (· < ·) → (∀ k ∈ r, a ≤ k ∧ k < 10) → 0 ≤ bin r ∧ bin r < 2 ^ (10 - a)
  | [], a, _, _ => ⟨Int.le_refl _, pow_pos2 _⟩
  | k :: r, a, hp, h => by
    rw [List.pairwise_cons] at hp
    obtain ⟨h1, h2⟩ := h k List.mem_cons_self
    obtain ⟨b1, b2⟩ := bin_lt r (k + 1) hp.2 fun j hj => ⟨hp.1 j hj, (h j (List.mem_cons_of_mem _ hj)).2⟩
    have e : bin (k :: r) = 2 ^ (9 - k) + bin r := by unfold bin; rw [List.map_cons, List.sum_cons]
    have p1 := pow_pos2 (9 - k)
    have p2 : (2 : Int) ^ (10 - (k + 1)) = 2 ^ (9 - k) := by congr 1; omega
    have p3 : (2 : Int) ^ (10 - k) = 2 * 2 ^ (9 - k) := by
      have : 10 - k = (9 - k) + 1 := by omega
      rw [this, Int.pow_succ]; omega
    have p4 := pow_mono2 (show 10 - k ≤ 10 - a by omega)
    omega
abbrev castR (r : List Nat) : List Int := r.map fun k : Nat => (k : Int)
theorem lex_bin : ∀ (r g : List Nat), r.Pairwise (· < ·) → g.Pairwise (· < ·) → (∀ k ∈ r, k < 10) → (∀ k ∈ g, k < 10) → r.length = g.length → castR r < castR g → bin g < bin r
  | [], [], _, _, _, _, _, h => absurd h (List.lt_irrefl _)
  | [], _ :: _, _, _, _, _, e, _ => by cases e
  | _ :: _, [], _, _, _, _, e, _ => by cases e
  | a :: r, b :: g, hr, hg, kr, kg, e, h => by
    rw [List.pairwise_cons] at hr hg
    have er : bin (a :: r) = 2 ^ (9 - a) + bin r := by unfold bin; rw [List.map_cons, List.sum_cons]
    have eg : bin (b :: g) = 2 ^ (9 - b) + bin g := by unfold bin; rw [List.map_cons, List.sum_cons]
    have h : (a : Int) :: castR r < (b : Int) :: castR g := h
    rw [List.cons_lt_cons_iff] at h
    rcases h with h | ⟨h1, h2⟩
    · have h : a < b := by omega
      have b1 := (bin_lt r 0 hr.2 fun k hk => ⟨Nat.zero_le _, kr k (List.mem_cons_of_mem _ hk)⟩).1
      have b2 := (bin_lt (b :: g) b (List.pairwise_cons.mpr hg) fun k hk => ⟨by
        rcases List.mem_cons.mp hk with rfl | hk
        · exact Nat.le_refl _
        · exact Nat.le_of_lt (hg.1 k hk), kg k hk⟩).2
      have p := pow_mono2 (show 10 - b ≤ 9 - a by omega)
      omega
    · have h1 : a = b := by omega
      subst h1
      have := lex_bin r g hr.2 hg.2 (fun k hk => kr k (List.mem_cons_of_mem _ hk)) (fun k hk => kg k (List.mem_cons_of_mem _ hk)) (by simpa using e) h2
      omega
/-- the law's order -/
def kLt (m1 l1 : Int) (r1 : List Int) (m2 l2 : Int) (r2 : List Int) : Prop := m1 < m2 ∨ (m1 = m2 ∧ (l1 < l2 ∨ (l1 = l2 ∧ r1 < r2)))
theorem kLt_of {us : List Int} {T : Int} {r g : List Nat} (hr : r.Pairwise (· < ·)) (hg : g.Pairwise (· < ·)) (kr : ∀ k ∈ r, k < 10) (kg : ∀ k ∈ g, k < 10) (lr : r.length ≤ 10) (lg : g.length ≤ 10) (h : rowW us r < rowW us g) : kLt (T - rowS us g) g.length (castR g) (T - rowS us r) r.length (castR r) := by
  have e1 := rowW_eq us r
  have e2 := rowW_eq us g
  have b1 := bin_lt r 0 hr fun k hk => ⟨Nat.zero_le _, kr k hk⟩
  have b2 := bin_lt g 0 hg fun k hk => ⟨Nat.zero_le _, kg k hk⟩
  have p : (2 : Int) ^ (10 - 0) = 1024 := by decide
  rw [p] at b1 b2
  unfold kLt
  by_cases c1 : rowS us g = rowS us r
  · right
    refine ⟨by omega, ?_⟩
    by_cases c2 : g.length = r.length
    · right
      refine ⟨by omega, ?_⟩
      by_cases c3 : castR g < castR r
      · exact c3
      · exfalso
        by_cases c4 : castR r < castR g
        · have := lex_bin r g hr hg kr kg c2.symm c4
          omega
        · have : castR g = castR r := List.le_antisymm (List.not_lt.mp c4) (List.not_lt.mp c3)
          have : g = r := (List.map_inj_right fun (a b : Nat) (e : (a : Int) = b) => by omega).mp this
          rw [this] at h
          omega
    · left; omega
  · left; omega
theorem inc_ext {l m : List Nat} (hl : l.Pairwise (· < ·)) (hm : m.Pairwise (· < ·)) (h : ∀ x, x ∈ l ↔ x ∈ m) : l = m :=
  List.Perm.eq_of_pairwise (le := fun a b : Nat => a < b) (fun a b _ _ h1 h2 => by omega) hl hm ((List.perm_ext_iff_of_nodup (hl.imp fun {a b} h => Nat.ne_of_lt h) (hm.imp fun {a b} h => Nat.ne_of_lt h)).mpr h)
theorem zip_range (us : List Int) : us.zipIdx = (List.range us.length).map fun k => (us.getD k 0, k) := by
  refine List.ext_getElem? fun i => ?_
  rw [List.getElem?_zipIdx, List.getElem?_map]
  by_cases h : i < us.length
  · rw [List.getElem?_range h, List.getElem?_eq_getElem h]
    show some (us[i], 0 + i) = some (us.getD i 0, i)
    rw [List.getD_eq_getElem?_getD, List.getElem?_eq_getElem h, Nat.zero_add]; rfl
  · rw [List.getElem?_eq_none (by omega), List.getElem?_eq_none (by rw [List.length_range]; omega)]; rfl
def wtP (p : Int × Nat) : Int := wt p.1 p.2
theorem row_sum (us : List Int) (q : Nat → Bool) : rowW us ((List.range us.length).filter q) = ((us.zipIdx.filter fun p => q p.2).map wtP).sum := by
  rw [zip_range, List.filter_map, List.map_map]
  rfl
/-- the row of those left behind -/
noncomputable def grow_ (us : List Int) (n : Nat) : List Nat := (List.range us.length).filter fun k => decide ((k : Int) ∈ placesF us n)
theorem grow_inc (us : List Int) (n : Nat) : (grow_ us n).Pairwise (· < ·) := List.Pairwise.filter _ List.pairwise_lt_range
/-- it is the greatest, and no other one is -/
theorem row_best {us : List Int} {n : Nat} {r : List Nat} (hc : us.length ≤ 10) (hr : r.Pairwise (· < ·)) (kr : ∀ k ∈ r, k < us.length) (lr : r.length ≤ n) (ne : r ≠ grow_ us n) : rowW us r < rowW us (grow_ us n) := by
  have er : r = (List.range us.length).filter fun k => decide (k ∈ r) := inc_ext hr (List.Pairwise.filter _ List.pairwise_lt_range) fun x => by
    rw [List.mem_filter, List.mem_range, decide_eq_true_eq]
    exact ⟨fun h => ⟨kr x h, h⟩, fun h => h.2⟩
  have w1 : rowW us r = ((us.zipIdx.filter fun p => decide (p.2 ∈ r)).map wtP).sum := by
    have := row_sum us fun k => decide (k ∈ r)
    rw [← er] at this
    exact this
  have w2 := row_sum us fun k => decide ((k : Int) ∈ placesF us n)
  have hz : ∀ p ∈ us.zipIdx, p.2 < us.length := fun p hp => by
    have := List.mem_zipIdx_iff_getElem?.mp (show (p.1, p.2) ∈ us.zipIdx from hp)
    exact (List.getElem?_eq_some_iff.mp this).1
  let G : Int × Int → Int := fun t => wt (-t.1) t.2.toNat
  have eG : ∀ p : Int × Nat, G (gCand p) = wtP p := fun p => by
    show wt (- -p.1) ((p.2 : Int)).toNat = wt p.1 p.2
    rw [Int.neg_neg, Int.toNat_natCast]
  have eG2 : (G ∘ gCand) = wtP := by funext p; exact eG p
  have w3 := perm_sumI ((chosen_perm us n).map G)
  rw [List.map_map, eG2] at w3
  have wg : rowW us (grow_ us n) = (((ordP us).take n).map G).sum := by rw [← w3]; exact w2
  have h2 : ∀ p : Int × Nat, (fun t : Int × Int => decide (t.2.toNat ∈ r)) (gCand p) = (fun p : Int × Nat => decide (p.2 ∈ r)) p := fun p => by
    show decide (((p.2 : Int)).toNat ∈ r) = decide (p.2 ∈ r)
    rw [Int.toNat_natCast]
  have pp := pick_perm us (fun p => decide (p.2 ∈ r)) (fun t => decide (t.2.toNat ∈ r)) h2
  have s1 := sum_split wtP (fun p => decide (0 < p.1)) (us.zipIdx.filter fun p => decide (p.2 ∈ r))
  have s2 := sum_neg (f := wtP) (l := (us.zipIdx.filter fun p => decide (p.2 ∈ r)).filter fun p => !decide (0 < p.1)) fun x hx => by
    have := (List.mem_filter.mp hx).2
    simp at this
    have p1 := pow_mono2 (show 9 - x.2 ≤ 9 by omega)
    have p2 : (2 : Int) ^ 9 = 512 := by decide
    show x.1 * 1048576 - 1024 + (2 : Int) ^ (9 - x.2) < 0
    omega
  have s3 := perm_sumI (pp.map G)
  rw [List.map_map, eG2] at s3
  have len : (us.zipIdx.filter fun p => decide (p.2 ∈ r)).length = r.length := by
    have e2 : (us.zipIdx.filter fun p => decide (p.2 ∈ r)).map Prod.snd = r := by
      rw [zip_range, List.filter_map, List.map_map]
      conv => rhs; rw [er]
      exact List.map_id _
    have := congrArg List.length e2
    rwa [List.length_map] at this
  have mA : ∀ a ∈ ordP us, ∃ p ∈ us.zipIdx, 0 < p.1 ∧ gCand p = a := fun a ha => mem_cand ((ordP_perm us).mem_iff.mp ha)
  have nd : (ordP us).Nodup := ((ordP_perm us).nodup_iff).mpr (cand_nodup us)
  have pw : (ordP us).Pairwise fun a b => G b < G a := by
    refine List.Pairwise.imp_of_mem ?_ ((ordP_pw us).and nd)
    rintro a b ha hb ⟨h, hne⟩
    obtain ⟨p, hp, p0, rfl⟩ := mA a ha
    obtain ⟨q, hq, q0, rfl⟩ := mA b hb
    rw [eG, eG]
    have lp := hz p hp
    have lq := hz q hq
    unfold ltE at h
    have h : ¬ (-q.1 < -p.1 ∨ (-q.1 = -p.1 ∧ (q.2 : Int) < (p.2 : Int))) := h
    have hpq : p ≠ q := fun e => hne (by rw [e])
    show q.1 * 1048576 - 1024 + (2 : Int) ^ (9 - q.2) < p.1 * 1048576 - 1024 + (2 : Int) ^ (9 - p.2)
    have a1 := pow_pos2 (9 - p.2)
    have a2 := pow_mono2 (show 9 - q.2 ≤ 9 by omega)
    have a3 : (2 : Int) ^ 9 = 512 := by decide
    by_cases c : q.1 = p.1
    · have : p.2 ≠ q.2 := fun e => hpq (Prod.ext c.symm e)
      have a4 := pow_mono2 (show (9 - q.2) + 1 ≤ 9 - p.2 by omega)
      have a5 : (2 : Int) ^ ((9 - q.2) + 1) = 2 * 2 ^ (9 - q.2) := by rw [Int.pow_succ]; omega
      have a6 := pow_pos2 (9 - q.2)
      omega
    · omega
  have pos : ∀ a ∈ ordP us, 0 < G a := fun a ha => by
    obtain ⟨p, hp, p0, rfl⟩ := mA a ha
    rw [eG]
    have a1 := pow_pos2 (9 - p.2)
    show 0 < p.1 * 1048576 - 1024 + (2 : Int) ^ (9 - p.2)
    omega
  obtain ⟨t1, t2⟩ := top_lt (G := G) (n := n) (List.filter_sublist (p := fun t : Int × Int => decide (t.2.toNat ∈ r)) (l := ordP us)) pw pos (by rw [pp.length_eq, List.length_map]; exact Nat.le_trans (List.length_filter_le _ _) (by rw [len]; exact lr))
  by_cases c : rowW us r < rowW us (grow_ us n)
  · exact c
  exfalso
  have c1 := s2.2 (by omega)
  have c2 := t2 (by omega)
  refine ne (inc_ext hr (grow_inc us n) fun x => ?_)
  unfold grow_
  rw [List.mem_filter, List.mem_range, decide_eq_true_eq]
  constructor
  · intro hx
    have hl := kr x hx
    refine ⟨hl, ?_⟩
    have m1 : (us.getD x 0, x) ∈ us.zipIdx := by rw [zip_range]; exact List.mem_map.mpr ⟨x, List.mem_range.mpr hl, rfl⟩
    have m2 : (us.getD x 0, x) ∈ us.zipIdx.filter fun p => decide (p.2 ∈ r) := List.mem_filter.mpr ⟨m1, decide_eq_true hx⟩
    have m3 : 0 < us.getD x 0 := by
      by_cases c3 : 0 < us.getD x 0
      · exact c3
      · have : (us.getD x 0, x) ∈ (us.zipIdx.filter fun p => decide (p.2 ∈ r)).filter fun p => !decide (0 < p.1) := List.mem_filter.mpr ⟨m2, by simpa using c3⟩
        rw [c1] at this
        cases this
    have m4 : gCand (us.getD x 0, x) ∈ (ordP us).filter fun t => decide (t.2.toNat ∈ r) := pp.mem_iff.mpr (List.mem_map_of_mem (List.mem_filter.mpr ⟨m2, decide_eq_true m3⟩))
    rw [c2] at m4
    exact List.mem_map.mpr ⟨_, m4, rfl⟩
  · rintro ⟨_, hx⟩
    obtain ⟨t, ht, e⟩ := List.mem_map.mp hx
    rw [← c2] at ht
    have := of_decide_eq_true (List.mem_filter.mp ht).2
    rw [e, Int.toNat_natCast] at this
    exact this
end Mine
set_option Elab.async false
set_option linter.all false
set_option maxRecDepth 100000
set_option maxHeartbeats 4000000
namespace Mine
open PySem PySem.Spec PyProof.Rows L2 Ln Dl RZ
/-! ## all rows, level by level -/
def startR (r : List Nat) : Nat := match r.getLast? with | none => 0 | some k => k + 1
def kidsF (c : Nat) (r : List Nat) : List (List Nat) := (List.range (c - startR r)).map fun n => r ++ [startR r + n]
def longerF (c : Nat) (lv : List (List Nat)) : List (List Nat) := lv.flatMap (kidsF c)
def levelF (c : Nat) : Nat → List (List Nat)
  | 0 => [[]]
  | t + 1 => longerF c (levelF c t)
def setsF (c m : Nat) : List (List Nat) := (List.range (m + 1)).flatMap (levelF c)
theorem setsF_succ (c m : Nat) : setsF c (m + 1) = setsF c m ++ levelF c (m + 1) := by
  unfold setsF
  rw [List.range_succ (n := m + 1), List.flatMap_append]
  simp
theorem startR_snoc (r : List Nat) (k : Nat) : startR (r ++ [k]) = k + 1 := by
  unfold startR
  rw [List.getLast?_concat]
theorem lt_startR {r : List Nat} (h : r.Pairwise (· < ·)) : ∀ x ∈ r, x < startR r := by
  rcases List.eq_nil_or_concat r with rfl | ⟨init, k, rfl⟩
  · simp
  · rw [List.concat_eq_append] at h ⊢
    rw [startR_snoc]
    intro x hx
    rw [List.pairwise_append] at h
    rcases List.mem_append.mp hx with hx | hx
    · have := h.2.2 x hx k List.mem_cons_self; omega
    · rw [List.mem_singleton.mp hx]; omega
theorem level_inv (c : Nat) : ∀ t, ∀ r ∈ levelF c t, r.Pairwise (· < ·) ∧ (∀ k ∈ r, k < c) ∧ r.length = t
  | 0, r, h => by
    have : r = [] := by simpa [levelF] using h
    subst this
    exact ⟨.nil, by simp, rfl⟩
  | t + 1, r, h => by
    obtain ⟨r0, h0, h1⟩ := List.mem_flatMap.mp (show r ∈ (levelF c t).flatMap (kidsF c) from h)
    obtain ⟨a1, a2, a3⟩ := level_inv c t r0 h0
    obtain ⟨n, hn, rfl⟩ := List.mem_map.mp h1
    have hn := List.mem_range.mp hn
    have hs := lt_startR a1
    refine ⟨List.pairwise_append.mpr ⟨a1, List.pairwise_singleton _ _, fun x hx y hy => ?_⟩, fun k hk => ?_, by rw [List.length_append, a3]; rfl⟩
    · rw [List.mem_singleton.mp hy]
      have := hs x hx
      show x < startR r0 + n
      omega
    · rcases List.mem_append.mp hk with hk | hk
      · exact a2 k hk
      · rw [List.mem_singleton.mp hk]; omega
theorem startR_le {r : List Nat} {k : Nat} (h : ∀ x ∈ r, x < k) : startR r ≤ k := by
  rcases List.eq_nil_or_concat r with rfl | ⟨init, j, rfl⟩
  · exact Nat.zero_le _
  · rw [List.concat_eq_append] at h ⊢
    rw [startR_snoc]
    exact h j (List.mem_append_right _ List.mem_cons_self)
theorem level_mem (c : Nat) : ∀ (t : Nat) (r : List Nat), r.length = t → r.Pairwise (· < ·) → (∀ k ∈ r, k < c) → r ∈ levelF c t
  | 0, r, h, _, _ => by
    rw [List.length_eq_zero_iff.mp h]
    exact List.mem_cons_self
  | t + 1, r, h, hp, hk => by
    rcases List.eq_nil_or_concat r with rfl | ⟨init, k, rfl⟩
    · cases h
    · rw [List.concat_eq_append] at h hp hk ⊢
      rw [List.pairwise_append] at hp
      have h0 := level_mem c t init (by simpa using h) hp.1 fun x hx => hk x (List.mem_append_left _ hx)
      have hs : startR init ≤ k := startR_le fun x hx => hp.2.2 x hx k List.mem_cons_self
      have hkc := hk k (List.mem_append_right _ List.mem_cons_self)
      refine List.mem_flatMap.mpr ⟨init, h0, List.mem_map.mpr ⟨k - startR init, List.mem_range.mpr (by omega), ?_⟩⟩
      rw [show startR init + (k - startR init) = k by omega]
theorem sets_inv {c m : Nat} {r : List Nat} (h : r ∈ setsF c m) : r.Pairwise (· < ·) ∧ (∀ k ∈ r, k < c) ∧ r.length ≤ m := by
  obtain ⟨t, ht, h⟩ := List.mem_flatMap.mp h
  obtain ⟨a, b, e⟩ := level_inv c t r h
  exact ⟨a, b, by have := List.mem_range.mp ht; omega⟩
theorem sets_mem {c m : Nat} {r : List Nat} (hp : r.Pairwise (· < ·)) (hk : ∀ k ∈ r, k < c) (hl : r.length ≤ m) : r ∈ setsF c m :=
  List.mem_flatMap.mpr ⟨r.length, List.mem_range.mpr (by omega), level_mem c _ r rfl hp hk⟩
theorem level_len : ∀ c < 11, ∀ t < 11, (levelF c t).length ≤ 252 := by decide +kernel
theorem sets_len : ∀ c < 11, ∀ m < 11, (setsF c m).length ≤ 1024 := by decide +kernel
theorem longer_len (c : Nat) (hc : c ≤ 10) : ∀ lv : List (List Nat), (longerF c lv).length ≤ 10 * lv.length
  | [] => Nat.le_refl _
  | r :: lv => by
    have h := longer_len c hc lv
    have e : longerF c (r :: lv) = kidsF c r ++ longerF c lv := rfl
    rw [e, List.length_append, List.length_cons]
    unfold kidsF
    rw [List.length_map, List.length_range]
    omega
theorem inc_len {r : List Nat} {c : Nat} (hp : r.Pairwise (· < ·)) (hk : ∀ k ∈ r, k < c) : r.length ≤ c := by
  have er : r = (List.range c).filter fun k => decide (k ∈ r) := inc_ext hp (List.Pairwise.filter _ List.pairwise_lt_range) fun x => by
    rw [List.mem_filter, List.mem_range, decide_eq_true_eq]
    exact ⟨fun h => ⟨hk x h, h⟩, fun h => h.2⟩
  rw [er]
  exact Nat.le_trans (List.length_filter_le _ _) (by rw [List.length_range]; exact Nat.le_refl _)
/-! ## what is left without a row -/
def namR (xs : List (Str × Int × Int)) (k : Nat) : Str := (xs.map Prod.fst).getD k (Str.ofString "")
def namesR (xs : List (Str × Int × Int)) (r : List Nat) : List Str := r.map (namR xs)
theorem nam_at {xs : List (Str × Int × Int)} {k : Nat} {x : Str × Int × Int} (h : xs[k]? = some x) : namR xs k = x.1 := by
  unfold namR
  rw [List.getD_eq_getElem?_getD, List.getElem?_map, h]; rfl
theorem mem_names {xs : List (Str × Int × Int)} (nd : (xs.map Prod.fst).Nodup) {r : List Nat} (hk : ∀ k ∈ r, k < xs.length) {p : (Str × Int × Int) × Nat} (hp : p ∈ xs.zipIdx) : p.1.1 ∈ namesR xs r ↔ p.2 ∈ r := by
  have ip := List.mem_zipIdx_iff_getElem?.mp (show (p.1, p.2) ∈ xs.zipIdx from hp)
  constructor
  · intro h
    obtain ⟨k, hkr, e⟩ := List.mem_map.mp h
    have hkl := hk k hkr
    have ek : xs[k]? = some xs[k] := List.getElem?_eq_getElem hkl
    have e2 := nam_at ek
    have : k = p.2 := nodup_at nd (x := p.1.1) (by rw [List.getElem?_map, ek]; show some xs[k].1 = _; rw [← e2, e]) (by rw [List.getElem?_map, ip]; rfl)
    rw [← this]; exact hkr
  · intro h
    exact List.mem_map.mpr ⟨p.2, h, nam_at ip⟩
theorem rowS_zip (us : List Int) {r : List Nat} (hr : r.Pairwise (· < ·)) (kr : ∀ k ∈ r, k < us.length) : rowS us r = ((us.zipIdx.filter fun p => decide (p.2 ∈ r)).map Prod.fst).sum := by
  have er : r = (List.range us.length).filter fun k => decide (k ∈ r) := inc_ext hr (List.Pairwise.filter _ List.pairwise_lt_range) fun x => by
    rw [List.mem_filter, List.mem_range, decide_eq_true_eq]
    exact ⟨fun h => ⟨kr x h, h⟩, fun h => h.2⟩
  rw [zip_range, List.filter_map, List.map_map]
  unfold rowS
  conv => lhs; rw [er]
  rfl
/-- without those of which q is true -/
theorem slack_pick (p : Pl) (xs : List (Str × Int × Int)) (b : Bool) (ns : List Str) (qq : Int × Nat → Bool) (h : ∀ q ∈ xs.zipIdx, qq (pullF p b q.1.2, q.2) = decide (q.1.1 ∈ ns)) : slackF p xs b ns = pullF p b p.m + (pullsF p xs b).sum - (((pullsF p xs b).zipIdx.filter qq).map Prod.fst).sum ∧ ((pullsF p xs b).zipIdx.filter qq).length = (xs.filter fun x => decide (x.1 ∈ ns)).length := by
  have hz : (pullsF p xs b).zipIdx = xs.zipIdx.map fun q => (pullF p b q.1.2, q.2) := by
    unfold pullsF
    rw [List.zipIdx_map]
    exact List.map_congr_left fun q _ => rfl
  have ef : xs.zipIdx.filter (qq ∘ fun q : (Str × Int × Int) × Nat => (pullF p b q.1.2, q.2)) = xs.zipIdx.filter ((fun x : Str × Int × Int => decide (x.1 ∈ ns)) ∘ Prod.fst) := List.filter_congr fun q hq => h q hq
  have e1 : ((pullsF p xs b).zipIdx.filter qq) = (xs.zipIdx.filter ((fun x : Str × Int × Int => decide (x.1 ∈ ns)) ∘ Prod.fst)).map fun q => (pullF p b q.1.2, q.2) := by
    rw [hz, List.filter_map, ef]
  have e2 : (xs.zipIdx.filter ((fun x : Str × Int × Int => decide (x.1 ∈ ns)) ∘ Prod.fst)).map Prod.fst = xs.filter fun x => decide (x.1 ∈ ns) := by
    conv => rhs; rw [← zip_fst xs 0, List.filter_map]
  constructor
  · have s := sum_split (fun x : Str × Int × Int => pullF p b x.2) (fun x => decide (x.1 ∈ ns)) xs
    have e3 : (((pullsF p xs b).zipIdx.filter qq).map Prod.fst).sum = ((xs.filter fun x => decide (x.1 ∈ ns)).map fun x => pullF p b x.2).sum := by
      rw [e1, ← e2, List.map_map, List.map_map]
      rfl
    rw [e3]
    unfold slackF
    have e4 : (pullsF p xs b).sum = (xs.map fun x => pullF p b x.2).sum := rfl
    rw [e4]
    omega
  · rw [e1, ← e2, List.length_map, List.length_map]
theorem slack_row (p : Pl) {xs : List (Str × Int × Int)} (b : Bool) (nd : (xs.map Prod.fst).Nodup) {r : List Nat} (hr : r.Pairwise (· < ·)) (kr : ∀ k ∈ r, k < xs.length) : slackF p xs b (namesR xs r) = pullF p b p.m + (pullsF p xs b).sum - rowS (pullsF p xs b) r := by
  have hl : (pullsF p xs b).length = xs.length := List.length_map _
  rw [rowS_zip _ hr (by rw [hl]; exact kr)]
  exact (slack_pick p xs b (namesR xs r) (fun q => decide (q.2 ∈ r)) fun q hq => decide_eq_decide.mpr (mem_names nd kr hq).symm).1
theorem filter_names_len {xs : List (Str × Int × Int)} (nd : (xs.map Prod.fst).Nodup) : ∀ ns : List Str, (xs.filter fun x => decide (x.1 ∈ ns)).length ≤ ns.length
  | [] => by
    rw [List.filter_eq_nil_iff.mpr (by simp)]; exact Nat.le_refl _
  | n :: ns => by
    have h := filter_names_len nd ns
    have h1 : (xs.filter fun x => decide (x.1 = n)).length ≤ 1 := by
      have e : (xs.filter fun x => decide (x.1 = n)).map Prod.fst = (xs.map Prod.fst).filter fun s => decide (s = n) := by rw [List.filter_map]; rfl
      have e2 := congrArg List.length e
      rw [List.length_map] at e2
      rw [e2]
      generalize xs.map Prod.fst = l at nd
      clear e e2 h
      induction l with
      | nil => exact Nat.zero_le _
      | cons a l ih =>
        rw [List.nodup_cons] at nd
        by_cases c : a = n
        · have : l.filter (fun s => decide (s = n)) = [] := List.filter_eq_nil_iff.mpr fun x hx => by
            simp
            intro e
            exact nd.1 (by rw [c, ← e]; exact hx)
          rw [List.filter_cons_of_pos (by simpa using c), this]
          exact Nat.le_refl _
        · rw [List.filter_cons_of_neg (by simpa using c)]
          exact ih nd.2
    have h2 : ∀ l : List (Str × Int × Int), (l.filter fun x => decide (x.1 ∈ n :: ns)).length ≤ (l.filter fun x => decide (x.1 = n)).length + (l.filter fun x => decide (x.1 ∈ ns)).length := by
      intro l
      induction l with
      | nil => exact Nat.le_refl _
      | cons a l ih =>
        have e1 : decide (a.1 ∈ n :: ns) = (decide (a.1 = n) || decide (a.1 ∈ ns)) := by simp
        simp only [List.filter_cons, e1]
        generalize l.filter (fun x => decide (x.1 ∈ n :: ns)) = F1 at ih ⊢
        generalize l.filter (fun x => decide (x.1 = n)) = F2 at ih ⊢
        generalize l.filter (fun x => decide (x.1 ∈ ns)) = F3 at ih ⊢
        generalize decide (a.1 = n) = b1
        generalize decide (a.1 ∈ ns) = b2
        cases b1 <;> cases b2 <;> simp <;> omega
    have := h2 xs
    rw [List.length_cons]
    omega
/-- whoever stays away, it is not less than what was found -/
theorem slF_le (p : Pl) {xs : List (Str × Int × Int)} (n : Nat) (b : Bool) (nd : (xs.map Prod.fst).Nodup) {ns : List Str} (hn : ns.length ≤ n) : slF p xs n b ≤ slackF p xs b ns := by
  obtain ⟨h1, h2⟩ := slack_pick p xs b ns (fun q => match xs[q.2]? with | some x => decide (x.1 ∈ ns) | none => false) fun q hq => by
    have := List.mem_zipIdx_iff_getElem?.mp (show (q.1, q.2) ∈ xs.zipIdx from hq)
    show (match xs[q.2]? with | some x => decide (x.1 ∈ ns) | none => false) = _
    rw [this]
  rw [h1, slF_eq p n b nd]
  have := opt_le (pullsF p xs b) n _ (by rw [h2]; exact Nat.le_trans (filter_names_len nd ns) hn)
  omega
theorem grow_names {xs : List (Str × Int × Int)} {us : List Int} (hl : us.length = xs.length) (n : Nat) : namesR xs (grow_ us n) = awayF xs us n := by
  unfold awayF grow_ namesR
  have hz : xs.zipIdx = (List.range xs.length).map fun k => (xs.getD k (Str.ofString "", 0, 0), k) := by
    refine List.ext_getElem? fun i => ?_
    rw [List.getElem?_zipIdx, List.getElem?_map]
    by_cases h : i < xs.length
    · rw [List.getElem?_range h, List.getElem?_eq_getElem h]
      show some (xs[i], 0 + i) = some (xs.getD i (Str.ofString "", 0, 0), i)
      rw [List.getD_eq_getElem?_getD, List.getElem?_eq_getElem h, Nat.zero_add]; rfl
    · rw [List.getElem?_eq_none (by omega), List.getElem?_eq_none (by rw [List.length_range]; omega)]; rfl
  rw [hz, List.filter_map, List.map_map, hl]
  refine List.map_congr_left fun k hk => ?_
  have hk := List.mem_range.mp (List.mem_filter.mp hk).1
  rw [nam_at (List.getElem?_eq_getElem hk)]
  show _ = (xs.getD k (Str.ofString "", 0, 0)).1
  rw [List.getD_eq_getElem?_getD, List.getElem?_eq_getElem hk]; rfl
theorem grow_len (us : List Int) (n : Nat) : (grow_ us n).length ≤ n := by
  have h := (chosen_perm us n).length_eq
  rw [List.length_map, zip_range, List.filter_map, List.length_map] at h
  unfold grow_
  have e : ((fun p : Int × Nat => decide ((p.2 : Int) ∈ placesF us n)) ∘ fun k => (us.getD k 0, k)) = fun k : Nat => decide ((k : Int) ∈ placesF us n) := rfl
  rw [e] at h
  rw [h, List.length_take]
  omega
end Mine
set_option Elab.async false
set_option linter.all false
set_option maxRecDepth 100000
set_option maxHeartbeats 4000000
namespace Mine
open PySem PySem.Spec PyProof.Rows L2 Ln Dl RZ
def inm (k : Nat) : Str := Str.ofString "i" ++ Str.ofString (toString (k : Int))
structure LIts (most : Int) (xs : List (Str × Int × Int)) : Prop where
  l : (xs.length : Int) ≤ most
  n : xs.map Prod.fst = (List.range xs.length).map inm
  z : ∀ x ∈ xs, (0 ≤ x.2.1 ∧ x.2.1 ≤ 1000000) ∧ -1000000 ≤ x.2.2 ∧ x.2.2 ≤ 1000000
structure LPl (p : Pl) : Prop where
  w : 0 < p.m.1 ∧ p.m.1 ≤ 1000000
  a : -1000003 ≤ p.m.2 ∧ p.m.2 ≤ 1000003
  f : -1000000 ≤ p.f ∧ p.f ≤ 1000000
  t : -1000000 ≤ p.t ∧ p.t ≤ 1000000
  o : p.f ≤ p.t
theorem len_toString (i : Nat) (h : i < 1000) : (Str.ofString (toString (i : Int))).length ≤ 3 := by
  have : ∀ i < 1000, (Str.ofString (toString ((i : Nat) : Int))).length ≤ 3 := by decide +kernel
  exact this i h
theorem inm_inj {i j : Nat} (hi : i < 61) (hj : j < 61) (h : inm i = inm j) : i = j := by
  have : ∀ i < 61, ∀ j < 61, inm i = inm j → i = j := by decide +kernel
  exact this i hi j hj h
theorem inm_ok {i : Nat} (hi : i < 61) : PyData.strOk (inm i) = true := by
  have : ∀ i < 61, PyData.strOk (inm i) = true := by decide +kernel
  exact this i hi
theorem LIts.nodup {most : Int} {xs : List (Str × Int × Int)} (h : LIts most xs) (hm : most ≤ 60) : (xs.map Prod.fst).Nodup := by
  have hl := h.l
  rw [h.n]
  refine List.pairwise_map.mpr (List.Pairwise.imp_of_mem (fun {a b} ha hb n e => n (inm_inj ?_ ?_ e)) List.nodup_range)
  · have := List.mem_range.mp ha; omega
  · have := List.mem_range.mp hb; omega
theorem LIts.good {most : Int} {xs : List (Str × Int × Int)} (h : LIts most xs) (hm : most ≤ 60) : GoodI xs := ⟨by have := h.l; omega, h.nodup hm, h.z⟩
theorem LIts.ok {most : Int} {xs : List (Str × Int × Int)} (h : LIts most xs) (hm : most ≤ 60) : ∀ x ∈ xs, PyData.strOk x.1 = true := fun x hx => by
  have hl := h.l
  have : x.1 ∈ xs.map Prod.fst := List.mem_map_of_mem hx
  rw [h.n] at this
  obtain ⟨i, hi, e⟩ := List.mem_map.mp this
  rw [← e]
  exact inm_ok (by have := List.mem_range.mp hi; omega)
theorem LPl.good {p : Pl} (h : LPl p) (a : -1000000 ≤ p.m.2 ∧ p.m.2 ≤ 1000000) : GoodP p := ⟨h.w, a, h.f, h.t, h.o⟩
def momF (p : Pl) (xs : List (Str × Int × Int)) (x : Int) : Int := p.m.1 * (p.m.2 - x) + (xs.map fun i => i.2.1 * (i.2.2 - x)).sum
theorem momF_snoc (p : Pl) (xs : List (Str × Int × Int)) (i : Str × Int × Int) (x : Int) : momF p (xs ++ [i]) x = momF p xs x + i.2.1 * (i.2.2 - x) := by
  unfold momF
  rw [List.map_append, List.sum_append]
  simp
  omega
def awyL (xs : List (Str × Int × Int)) (ns : List Str) : List (Str × Int × Int) := xs.filter fun x => !decide (x.1 ∈ ns)
/-- the place on a side -/
def plc (p : Pl) (b : Bool) : Int := if b then p.f else p.t
def sgn (b : Bool) (i : Int) : Int := if b then i else 0 - i
theorem sgn_pull (p : Pl) (b : Bool) (m : Int × Int) : sgn b (m.1 * (m.2 - plc p b)) = pullF p b m := by
  cases b
  · show 0 - m.1 * (m.2 - p.t) = m.1 * (p.t - m.2)
    rw [Int.mul_sub, Int.mul_sub]; omega
  · rfl
theorem sgn_sum (b : Bool) : ∀ xs : List Int, sgn b xs.sum = (xs.map (sgn b)).sum
  | [] => by cases b <;> rfl
  | x :: xs => by
    have := sgn_sum b xs
    rw [List.map_cons, List.sum_cons, List.sum_cons, ← this]
    cases b
    · show 0 - (x + xs.sum) = (0 - x) + (0 - xs.sum); omega
    · rfl
theorem sgn_add (b : Bool) (i j : Int) : sgn b (i + j) = sgn b i + sgn b j := by
  cases b
  · show 0 - (i + j) = (0 - i) + (0 - j); omega
  · rfl
theorem sgn_mom (p : Pl) (xs : List (Str × Int × Int)) (b : Bool) : sgn b (momF p xs (plc p b)) = pullF p b p.m + (pullsF p xs b).sum := by
  unfold momF pullsF
  rw [sgn_add, sgn_pull, sgn_sum, List.map_map]
  have e : xs.map (sgn b ∘ fun i : Str × Int × Int => i.2.1 * (i.2.2 - plc p b)) = xs.map fun x => pullF p b x.2 := List.map_congr_left fun x _ => sgn_pull p b x.2
  rw [e]
theorem slack_mom (p : Pl) (xs : List (Str × Int × Int)) (b : Bool) (ns : List Str) : slackF p xs b ns = sgn b (momF p (awyL xs ns) (plc p b)) := by
  rw [sgn_mom]
  rfl
section
variable {P : Program} {w : World} {K : PySem.W.Frag} {mg : Str → Option Value} {base : Heap} {C fI CP fIP A0 : Addr}
def wLPlace : WtD := fun dr at_ as k _ => as = [.ptr dr, .ptr at_] ∧ ∀ i : Int, -1000000 ≤ i → i ≤ 1000000 → k (.v (.dat (.int i)))
theorem ok_lplace {f : Addr} {fd : FuncData} (F : Fun K "_law_place" "_law_place" s_law_place f fd) (c__law_one : Cg P w K mg base CX0 3 "_law_one" (spOne K)) (c__law_take : Cg P w K mg base CX0 2 "_law_take" (spTake K)) : FnG P w K mg base CX0 4 f fd ["draws", "at"] (spD K 2 wLPlace) := by
  refine okD F sc_law_place rfl fun cdv A outer s H E hG hr => ⟨_, (pss_one (ps_ret (pe_cg c__law_one hr (by decide) hG (by rfl) (pa_cons (pe_lst (pa_cons pe_int (pa_cons pe_int (pa_cons (pe_un un_neg pe_int) (pa_cons pe_int (pa_cons pe_int (pa_cons pe_int (pa_cons (pe_un un_neg pe_int) (pa_cons (pe_op op_sub (pe_cg c__law_take hr (by decide) hG (by rfl) (pa_cons (pv 0) (pa_cons (pv 1) (pa_cons pe_int pa_nil)))) pe_int) pa_nil))))))))) (pa_cons (pv 0) (pa_cons (pv 1) pa_nil)))))), fun dr at_ F0 H0 as k ke hl hw => ?_⟩
  obtain ⟨rfl, q⟩ := hw
  change Ds _ [_, _] _ _ _
  walk_at "d"
  refine ⟨by omega, fun v v0 v1 => ?_⟩
  walk_at "d"
  refine ⟨Nat.zero_lt_succ _, fun d hd => ?_⟩
  simp only [List.mem_cons, List.not_mem_nil, or_false] at hd
  rcases hd with rfl | rfl | rfl | rfl | rfl | rfl | rfl | rfl <;> exact q _ (by omega) (by omega)
def wLItems : WtD := fun dr at_ as k _ => ∃ most : Int, as = [.dat (.int most), .ptr dr, .ptr at_] ∧ 0 ≤ most ∧ most ≤ 60 ∧ ∀ xs, LIts most xs → k (.v (.dat (itsD xs)))
theorem ok_litems {f : Addr} {fd : FuncData} (F : Fun K "_law_items" "_law_items" s_law_items f fd) (T : LawTxt mg) (c__law_one : Cg P w K mg base CX0 3 "_law_one" (spOne K)) (c__law_take : Cg P w K mg base CX0 2 "_law_take" (spTake K)) (c__law_place : Cg P w K mg base CX0 4 "_law_place" (spD K 2 wLPlace)) : FnG P w K mg base CX0 5 f fd ["most", "draws", "at"] (spD K 3 wLItems) := by
  refine okD F sc_law_items rfl fun cdv A outer s H E hG hr => ⟨_, (pss_cons (ps_set (i := 3) sc_law_items.nd rfl (.inr rfl) (pe_cg c__law_one hr (by decide) hG (by rfl) (pa_cons (pe_lst (pa_cons pe_int (pa_cons pe_int (pa_cons pe_int pa_nil)))) (pa_cons (pv 1) (pa_cons (pv 2) pa_nil)))))
    (pss_one (ps_ret (pe_callTy (r := Ln.rTupOf K) (T := "tuple") c_tuple (by rfl) T.z_tuple (by decide +kernel) (pa_cons (pe_lc (own := [("k", 4)]) rfl sc_law_items.nd (pi_range1 (by rfl) T.z_range (pa_cons (pe_cg c__law_take hr (by decide) hG (by rfl) (pa_cons (pv 1) (pa_cons (pv 2) (pa_cons (pe_op op_add (pv 0) pe_int) pa_nil)))) pa_nil)) (blkOk_by (own := [("k", 4)]) (N := N_law_items) (sc := defScope s_law_items) (by decide +kernel)) (fun _ _ _ _ _ => (pg_name (i := 4) sc_law_items.nd rfl (.inl rfl))) (fun _ _ _ _ _ => pts_nil) (fun _ _ _ _ _ => (pe_tup (pa_cons (pe_op op_add_str pe_str (pe_callTy (T := "str") call_str_int (by rfl) T.z_str (by decide +kernel) (pa_cons (pv 4) pa_nil))) (pa_cons (pe_tup (pa_cons (pe_cg c__law_take hr (by decide) hG (by rfl) (pa_cons (pv 1) (pa_cons (pv 2) (pa_cons (pv 3) pa_nil)))) (pa_cons (pe_cg c__law_place hr (by decide) hG (by rfl) (pa_cons (pv 1) (pa_cons (pv 2) pa_nil))) pa_nil))) pa_nil))))) pa_nil))))), fun dr at_ F0 H0 as k ke hl hw => ?_⟩
  obtain ⟨most, rfl, hm0, hm1, q⟩ := hw
  change Ds _ [_, _, _, _, _] _ _ _
  walk_at "d"
  refine ⟨Nat.zero_lt_succ _, fun d hd => ?_⟩
  obtain ⟨far, rfl, hf0, hf1⟩ : ∃ far : Int, d = .int far ∧ 0 < far ∧ far ≤ 1000001 := by
    simp only [List.mem_cons, List.not_mem_nil, or_false] at hd
    rcases hd with rfl | rfl | rfl <;> exact ⟨_, rfl, by omega, by omega⟩
  clear hd
  walk_at "d"
  refine dl_lc ?_
  walk_at "d"
  refine ⟨by omega, fun v v0 v1 => ?_⟩
  walk_at "d"
  refine ⟨⟨by omega, by omega⟩, by rw [List.length_map, List.length_range, sizeLine_eq]; omega, fun i acc => ∃ xs : List (Str × Int × Int), acc = xs.map (fun g => .dat (itD g)) ∧ xs.length = i ∧ xs.map Prod.fst = (List.range i).map inm ∧ ∀ x ∈ xs, (0 ≤ x.2.1 ∧ x.2.1 ≤ 1000000) ∧ -1000000 ≤ x.2.2 ∧ x.2.2 ≤ 1000000, ⟨[], rfl, rfl, rfl, by simp⟩, ?_, ?_⟩
  · rintro i d acc hd ⟨xs, rfl, hgl, hgn, hgz⟩
    have hi : i < v.toNat := by
      have := (List.getElem?_eq_some_iff.mp hd).1
      rwa [List.length_map, List.length_range] at this
    rw [mapI_get hi] at hd
    cases hd
    walk_at "d"
    refine ⟨by rw [Int.natAbs_natCast]; exact Nat.lt_of_le_of_lt (Nat.log2_le_self i) (by omega), ?_⟩
    walk_at "d"
    refine ⟨?_, ?_⟩
    · have := len_toString i (by omega)
      show 1 + (Str.ofString (toString (i : Int))).length ≤ sizeLine
      rw [sizeLine_eq]
      omega
    walk_at "d"
    refine ⟨hf0, fun z z0 z1 => ?_⟩
    walk_at "d"
    refine ⟨rfl, fun a a0 a1 => ?_⟩
    walk_at "d"
    refine ⟨xs ++ [(inm i, z, a)], by rw [List.map_append]; rfl, by rw [List.length_append, hgl]; rfl, by rw [List.map_append, hgn, List.range_succ, List.map_append]; rfl, fun g hg => ?_⟩
    rcases List.mem_append.mp hg with hg | hg
    · exact hgz g hg
    · rw [List.mem_singleton.mp hg]
      exact ⟨⟨z0, by show z ≤ 1000000; omega⟩, a0, a1⟩
  · rintro ss ⟨xs, rfl, hgl, hgn, hgz⟩
    rw [List.length_map, List.length_range] at hgl hgn
    refine ⟨xs.map itD, by rw [List.map_map]; rfl, q xs ⟨by omega, by rw [hgl]; exact hgn, hgz⟩⟩
def wLPlane : WtD := fun dr at_ as k _ => as = [.ptr dr, .ptr at_] ∧ ∀ p, LPl p → k (.v (.dat (plD p)))
theorem ok_lplane {f : Addr} {fd : FuncData} (F : Fun K "_law_plane" "_law_plane" s_law_plane f fd) (T : LawTxt mg) (c__law_one : Cg P w K mg base CX0 3 "_law_one" (spOne K)) (c__law_take : Cg P w K mg base CX0 2 "_law_take" (spTake K)) (c__law_place : Cg P w K mg base CX0 4 "_law_place" (spD K 2 wLPlace)) : FnG P w K mg base CX0 5 f fd ["draws", "at"] (spD K 2 wLPlane) := by
  refine okD F sc_law_plane rfl fun cdv A outer s H E hG hr => ⟨_, (pss_cons (ps_set (i := 2) sc_law_plane.nd rfl (.inl rfl) (pe_cg c__law_place hr (by decide) hG (by rfl) (pa_cons (pv 0) (pa_cons (pv 1) pa_nil))))
    (pss_cons (ps_set (i := 3) sc_law_plane.nd rfl (.inl rfl) (pe_callB (id := "min") (call_min2 rfl) (by rfl) T.z_min (by decide +kernel) (pa_cons pe_int (pa_cons (pe_op op_add (pv 2) (pe_cg c__law_one hr (by decide) hG (by rfl) (pa_cons (pe_lst (pa_cons pe_int (pa_cons pe_int (pa_cons pe_int (pa_cons pe_int pa_nil))))) (pa_cons (pv 0) (pa_cons (pv 1) pa_nil))))) pa_nil))))
    (pss_cons (ps_set (i := 4) sc_law_plane.nd rfl (.inl rfl) (pe_op op_add (pv 2) (pe_cg c__law_take hr (by decide) hG (by rfl) (pa_cons (pv 0) (pa_cons (pv 1) (pa_cons (pe_op op_add (pe_op op_sub (pv 3) (pv 2)) pe_int) pa_nil))))))
    (pss_one (ps_ret (pe_tup (pa_cons (pe_tup (pa_cons (pe_op op_add pe_int (pe_cg c__law_one hr (by decide) hG (by rfl) (pa_cons (pe_lst (pa_cons pe_int (pa_cons pe_int (pa_cons pe_int (pa_cons pe_int pa_nil))))) (pa_cons (pv 0) (pa_cons (pv 1) pa_nil))))) (pa_cons (pe_cg c__law_one hr (by decide) hG (by rfl) (pa_cons (pe_lst (pa_cons (pv 4) (pa_cons (pv 4) (pa_cons (pv 4) (pa_cons (pe_op op_sub (pv 2) pe_int) (pa_cons (pe_op op_add (pv 3) pe_int) pa_nil)))))) (pa_cons (pv 0) (pa_cons (pv 1) pa_nil)))) pa_nil))) (pa_cons (pv 2) (pa_cons (pv 3) pa_nil))))))))), fun dr at_ F0 H0 as k ke hl hw => ?_⟩
  obtain ⟨rfl, q⟩ := hw
  change Ds _ [_, _, _, _, _] _ _ _
  walk_at "d"
  refine ⟨rfl, fun fo f0 f1 => ?_⟩
  walk_at "d"
  refine ⟨Nat.zero_lt_succ _, fun d hd => ?_⟩
  obtain ⟨j, rfl, hj0, hj1⟩ : ∃ j : Int, d = .int j ∧ 0 ≤ j ∧ j ≤ 200 := by
    simp only [List.mem_cons, List.not_mem_nil, or_false] at hd
    rcases hd with rfl | rfl | rfl | rfl <;> exact ⟨_, rfl, by omega, by omega⟩
  clear hd
  walk_at "d"
  obtain ⟨af, eaf, a0, a1⟩ : ∃ af : Int, (if fo + j < 1000000 then fo + j else 1000000) = af ∧ fo ≤ af ∧ af ≤ 1000000 := by
    refine ⟨_, rfl, ?_, ?_⟩ <;> split <;> omega
  rw [eaf]
  refine ⟨by omega, fun v v0 v1 => ?_⟩
  walk_at "d"
  refine ⟨Nat.zero_lt_succ _, fun d hd => ?_⟩
  obtain ⟨wt, rfl, w0, w1⟩ : ∃ j : Int, d = .int j ∧ 0 ≤ j ∧ j ≤ 999999 := by
    simp only [List.mem_cons, List.not_mem_nil, or_false] at hd
    rcases hd with rfl | rfl | rfl | rfl <;> exact ⟨_, rfl, by omega, by omega⟩
  clear hd
  walk_at "d"
  refine ⟨Nat.zero_lt_succ _, fun d hd => ?_⟩
  obtain ⟨arm, rfl, m0, m1⟩ : ∃ j : Int, d = .int j ∧ -1000003 ≤ j ∧ j ≤ 1000003 := by
    simp only [List.mem_cons, List.not_mem_nil, or_false] at hd
    rcases hd with rfl | rfl | rfl | rfl | rfl <;> exact ⟨_, rfl, by omega, by omega⟩
  clear hd
  walk_at "d"
  exact q ⟨(1 + wt, arm), fo, af⟩ ⟨⟨by show 0 < 1 + wt; omega, by show 1 + wt ≤ 1000000; omega⟩, ⟨m0, m1⟩, ⟨f0, f1⟩, ⟨by show -1000000 ≤ af; omega, a1⟩, a0⟩
def wLMom : Wt := fun as k _ => ∃ (p : Pl) (xs : List (Str × Int × Int)) (td : PyData) (x : Int), as = [.dat (plD p), .dat td, .dat (.int x)] ∧ (td = itsD xs ∨ td = .list (xs.map itD)) ∧ (0 < p.m.1 ∧ p.m.1 ≤ 1000000) ∧ (∀ x ∈ xs, 0 ≤ x.2.1 ∧ x.2.1 ≤ 1000000) ∧ k (.v (.dat (.int (momF p xs x))))
theorem ok_lmom {f : Addr} {fd : FuncData} (F : Fun K "_law_moment" "_law_moment" s_law_moment f fd) : FnG P w K mg base CX0 1 f fd ["plane", "items", "place"] (spP K 3 wLMom) := by
  refine okP F sc_law_moment rfl fun cdv A outer s H E hG hr => ⟨_, (pss_cons (ps_set (i := 3) sc_law_moment.nd rfl (.inl rfl) (pe_op op_mul (pe_ix (r := rIxT K) ix_tup (pe_ix (r := rIxT K) ix_tup (pv 0) pe_int (fun _ _ => rfl)) pe_int (fun _ _ => rfl)) (pe_op op_sub (pe_ix (r := rIxT K) ix_tup (pe_ix (r := rIxT K) ix_tup (pv 0) pe_int (fun _ _ => rfl)) pe_int (fun _ _ => rfl)) (pv 2))))
    (pss_cons (ps_for PassesOwn.never rfl (Dl.pi_either (pv 1)) (pg_tup (by rfl) (pgs_cons (pg_name (i := 4) sc_law_moment.nd rfl (.inl rfl)) (pgs_cons (pg_name (i := 5) sc_law_moment.nd rfl (.inl rfl)) pgs_nil)))
    (pss_one (ps_set (i := 3) sc_law_moment.nd rfl (.inl rfl) (pe_op op_add (pv 3) (pe_op op_mul (pe_ix (r := rIxT K) ix_tup (pv 5) pe_int (fun _ _ => rfl)) (pe_op op_sub (pe_ix (r := rIxT K) ix_tup (pv 5) pe_int (fun _ _ => rfl)) (pv 2)))))))
    (pss_one (ps_ret (pv 3))))), fun F0 H0 as k ke hl hw => ?_⟩
  obtain ⟨p, xs, td, x, rfl, htd, hp, hx, q⟩ := hw
  change Ds _ [_, _, _, _, _, _] _ _ _
  walk_at "d"
  refine ⟨_, rfl, ?_⟩
  walk_at "d"
  refine ⟨_, rfl, ?_⟩
  walk_at "d"
  refine ⟨_, rfl, ?_⟩
  walk_at "d"
  refine ⟨_, rfl, ?_⟩
  walk_at "d"
  refine ⟨.inl ⟨by omega, by omega⟩, ?_⟩
  walk_at "d"
  refine ds_for ?_
  refine dw_eitherQ htd ?_
  refine ⟨fun i G' O' => (∃ z4 z5, G' = [.dat (plD p), .dat td, .dat (.int x), .dat (.int (momF p (xs.take i) x)), z4, z5]) ∧ O' = [], ⟨⟨_, _, by rw [show momF p (xs.take 0) x = p.m.1 * (p.m.2 - x) by simp [momF]]⟩, rfl⟩, ?_, ?_⟩
  · rintro i d G' O' hd ⟨⟨z4, z5, rfl⟩, rfl⟩
    rw [List.getElem?_map] at hd
    obtain ⟨it, hit, rfl⟩ := Option.map_eq_some_iff.mp hd
    have hw := hx it (List.mem_of_getElem? hit)
    walk_at "d"
    refine ⟨_, rfl, ?_⟩
    walk_at "d"
    refine ⟨_, rfl, ?_⟩
    walk_at "d"
    refine ⟨.inl ⟨by omega, by omega⟩, ?_⟩
    walk_at "d"
    exact ⟨⟨_, _, by rw [takeS hit, momF_snoc]⟩, rfl⟩
  · rintro G' O' ⟨⟨z4, z5, rfl⟩, rfl⟩
    rw [List.length_map, List.take_length]
    walk_at "d"
    exact q
def wLAway : Wt := fun as k _ => ∃ (xs : List (Str × Int × Int)) (td : PyData) (ns : List Str), as = [.dat td, .dat (.list (ns.map .str))] ∧ (td = itsD xs ∨ td = .list (xs.map itD)) ∧ xs.length ≤ 60 ∧ k (.l ((awyL xs ns).map fun x => .dat (itD x)))
theorem ok_laway {f : Addr} {fd : FuncData} (F : Fun K "_law_away" "_law_away" s_law_away f fd) : FnG P w K mg base CX0 1 f fd ["items", "names"] (spP K 2 wLAway) := by
  refine okP F sc_law_away rfl fun cdv A outer s H E hG hr => ⟨_, (pss_one (ps_ret (pe_lc (own := [("item", 2)]) rfl sc_law_away.nd (Dl.pi_either (pv 0)) (blkOk_by (own := [("item", 2)]) (N := N_law_away) (sc := defScope s_law_away) (by decide +kernel)) (fun _ _ _ _ _ => (pg_name (i := 2) sc_law_away.nd rfl (.inl rfl))) (fun _ _ _ _ _ => (pts_one (pt_cmpR (r := rIn K true) op_notIn_seq (pe_ix (r := rIxT K) ix_tup (pv 2) pe_int (fun _ _ => rfl)) (pv 1) (by rfl)))) (fun _ _ _ _ _ => (pv 2))))), fun F0 H0 as k ke hl hw => ?_⟩
  obtain ⟨xs, td, ns, rfl, htd, hx, q⟩ := hw
  change Ds _ [_, _, _] _ _ _
  walk_at "d"
  refine dl_filt ?_
  refine dw_eitherQ htd ?_
  refine ⟨by rw [List.length_map, sizeLine_eq]; omega, _, xs, itD, fun x => !decide (x.1 ∈ ns), fun x => .dat (itD x), rfl, fun i x hi => ?_, q⟩
  walk_at "d"
  refine ⟨_, rfl, ?_⟩
  walk_at "d"
  refine ⟨rfl, flat_strs _, ?_⟩
  walk_at "d"
  rw [inD_strs]
  refine ⟨rfl, fun _ => ?_⟩
  walk_at "d"
  rfl
def wLTips : Wt := fun as k _ => ∃ (p : Pl) (xs : List (Str × Int × Int)) (td : PyData) (ns : List Str), as = [.dat (plD p), .dat td, .dat (.list (ns.map .str))] ∧ (td = itsD xs ∨ td = .list (xs.map itD)) ∧ GoodP p ∧ xs.length ≤ 60 ∧ (∀ x ∈ xs, 0 ≤ x.2.1 ∧ x.2.1 ≤ 1000000) ∧ k (.l [.dat (.bool (decide (slackF p xs true ns < 0))), .dat (.bool (decide (slackF p xs false ns < 0)))])
theorem ok_ltips {f : Addr} {fd : FuncData} (F : Fun K "_law_tips" "_law_tips" s_law_tips f fd) (c__law_away : Cg P w K mg base CX0 1 "_law_away" (spP K 2 wLAway)) (c__law_moment : Cg P w K mg base CX0 1 "_law_moment" (spP K 3 wLMom)) : FnG P w K mg base CX0 2 f fd ["plane", "items", "names"] (spP K 3 wLTips) := by
  refine okP F sc_law_tips rfl fun cdv A outer s H E hG hr => ⟨_, (pss_cons (ps_set (i := 3) sc_law_tips.nd rfl (.inl rfl) (pe_cg c__law_away hr (by decide) hG (by rfl) (pa_cons (pv 1) (pa_cons (pv 2) pa_nil))))
    (pss_one (ps_ret (pe_lst (pa_cons (pe_cmpR op_lt (pe_cg c__law_moment hr (by decide) hG (by rfl) (pa_cons (pv 0) (pa_cons (pv 3) (pa_cons (pe_ix (r := rIxT K) ix_tup (pv 0) pe_int (fun _ _ => rfl)) pa_nil)))) pe_int (nomark _)) (pa_cons (pe_cmpR op_gt (pe_cg c__law_moment hr (by decide) hG (by rfl) (pa_cons (pv 0) (pa_cons (pv 3) (pa_cons (pe_ix (r := rIxT K) ix_tup (pv 0) pe_int (fun _ _ => rfl)) pa_nil)))) pe_int (nomark _)) pa_nil)))))), fun F0 H0 as k ke hl hw => ?_⟩
  obtain ⟨p, xs, td, ns, rfl, htd, hp, hxl, hx, q⟩ := hw
  have hz : ∀ x ∈ awyL xs ns, 0 ≤ x.2.1 ∧ x.2.1 ≤ 1000000 := fun x hx' => hx x (List.mem_filter.mp hx').1
  rw [slack_mom, slack_mom] at q
  change Ds _ [_, _, _, _] _ _ _
  walk_at "d"
  refine ⟨xs, td, ns, rfl, htd, hxl, ?_⟩
  walk_at "d"
  refine ⟨(awyL xs ns).map itD, by rw [List.map_map]; rfl, ?_⟩
  walk_at "d1"
  refine ds_retL (dl_lst ?_)
  walk_at "d"
  refine ⟨_, rfl, ?_⟩
  walk_at "d"
  refine ⟨p, awyL xs ns, _, _, rfl, .inr rfl, hp.w, hz, ?_⟩
  walk_at "d"
  refine ⟨_, rfl, ?_⟩
  walk_at "d"
  refine ⟨p, awyL xs ns, _, _, rfl, .inr rfl, hp.w, hz, ?_⟩
  walk_at "d"
  have e : decide (0 < momF p (awyL xs ns) p.t) = decide (sgn false (momF p (awyL xs ns) (plc p false)) < 0) := by
    refine decide_eq_decide.mpr ?_
    show 0 < momF p (awyL xs ns) p.t ↔ 0 - momF p (awyL xs ns) p.t < 0
    omega
  rw [e]
  exact q
end
end Mine
set_option Elab.async false
set_option linter.all false
set_option maxRecDepth 100000
set_option maxHeartbeats 4000000
namespace Mine
open PySem PySem.Spec PyProof.Rows L2 Ln Dl RZ
abbrev s_law_longer : Stmt := topS 45
abbrev N_law_longer : List Str := ["level", "count", "longer", "row", "k"]
theorem sc_law_longer : FnScope N_law_longer ["level", "count"] (defScope s_law_longer) := ⟨rfl, rfl, rfl, by decide +kernel, rfl, by decide +kernel, by decide +kernel⟩
-- slots: 0 level, 1 count, 2 longer, 3 row, 4 k
abbrev rowD (r : List Nat) : PyData := .tuple (r.map fun k : Nat => PyData.int (k : Int))
theorem row_last {r : List Nat} (h : r ≠ []) : ∃ k : Nat, atI (r.map fun k : Nat => PyData.int (k : Int)) ((r.length : Int) - 1) = some (.int ((k : Nat) : Int)) ∧ startR r = k + 1 := by
  rcases List.eq_nil_or_concat r with rfl | ⟨init, k, rfl⟩
  · exact absurd rfl h
  · rw [List.concat_eq_append]
    refine ⟨k, ?_, startR_snoc _ _⟩
    exact atI_map (m := init.length) (by rw [List.length_append, List.length_singleton]; omega) (by rw [List.getElem?_append_right (Nat.le_refl _), Nat.sub_self]; rfl)
theorem row_shaped (r : List Nat) : SeqAt.shaped (rowD r) = true := (Shp.tuple (n := 0) (g := fun k : Nat => PyData.int (k : Int)) fun x _ => Shp.int _).shaped (by decide)
theorem row_eqv_nil (r : List Nat) : PyData.eqv (rowD r) (.tuple []) = r.isEmpty := by
  cases r <;> simp [PyData.eqv, PyData.eqvAll]
section
variable {P : Program} {w : World} {K : PySem.W.Frag} {mg : Str → Option Value} {base : Heap} {C fI CP fIP A0 : Addr}
def wLonger : Wt := fun as k _ => ∃ (lv : List (List Nat)) (c : Nat), as = [.dat (.list (lv.map rowD)), .dat (.int (c : Int))] ∧ c ≤ 10 ∧ lv.length ≤ 1024 ∧ (∀ r ∈ lv, r.length ≤ 10 ∧ startR r ≤ c) ∧ k (.l (((longerF c lv).map rowD).map Sv.dat))
theorem ok_longer {f : Addr} {fd : FuncData} (F : Fun K "_law_longer" "_law_longer" s_law_longer f fd) (T : DTxt mg) : FnG P w K mg base CX0 1 f fd ["level", "count"] (spP K 2 wLonger) := by
  refine okP F sc_law_longer rfl fun cdv A outer s H E hG hr => ⟨_, (pss_cons (ps_set (i := 2) sc_law_longer.nd rfl (.inl rfl) (pe_lst pa_nil))
    (pss_cons (ps_for PassesOwn.never rfl (pi_list (pv 0)) (pg_name (i := 3) sc_law_longer.nd rfl (.inl rfl))
    (pss_one (ps_for PassesOwn.never rfl (pi_range2 (by rfl) T.z_range (pa_cons (pe_ifExp (pt_cmpR (r := rNeD K) (op_neD hr.units) (pv 3) (pe_tup pa_nil) (nomark _)) (pe_op op_add (pe_ix (r := rIxT K) ix_tup (pv 3) (pe_op op_sub (pe_callB (r := Ln.rLen K) (id := "len") c_len (by rfl) T.z_len (by decide +kernel) (pa_cons (pv 3) pa_nil)) pe_int) (fun _ _ => rfl)) pe_int) pe_int) (pa_cons (pv 1) pa_nil))) (pg_name (i := 4) sc_law_longer.nd rfl (.inl rfl))
    (pss_one (ps_expr (pe_bm PySem.F.plainAttrs_list PySem.F.slot_list_append PySem.F.type_list_append mt_append (pv 2) (pa_cons (pe_op (r := rCatS K) op_catS (pv 3) (pe_tup (pa_cons (pv 4) pa_nil))) pa_nil)))))))
    (pss_one (ps_ret (pv 2))))), fun F0 H0 as k ke hl hw => ?_⟩
  obtain ⟨lv, c, rfl, hc, hlv, hr0, q⟩ := hw
  change Ds _ [_, _, _, _, _] _ _ _
  walk_at "d"
  intro D hD
  walk_at "d"
  refine ds_for ?_
  walk_at "d"
  refine ⟨fun i G' O' => (∃ z3 z4, G' = [.dat (.list (lv.map rowD)), .dat (.int (c : Int)), .ptr D, z3, z4]) ∧ O' = [(D, .lst (((longerF c (lv.take i)).map rowD).map Sv.dat))], ⟨⟨_, _, rfl⟩, rfl⟩, ?_, ?_⟩
  · rintro i d G' O' hd ⟨⟨z3, z4, rfl⟩, rfl⟩
    rw [List.getElem?_map] at hd
    obtain ⟨r, hr', rfl⟩ := Option.map_eq_some_iff.mp hd
    obtain ⟨hrl, hrs⟩ := hr0 r (List.mem_of_getElem? hr')
    have e : longerF c (lv.take (i + 1)) = longerF c (lv.take i) ++ kidsF c r := by
      unfold longerF
      rw [takeS hr', List.flatMap_append]
      simp
    have hlen : (longerF c (lv.take i)).length ≤ 10240 := by
      have h1 := longer_len c hc (lv.take i)
      have h2 : (lv.take i).length ≤ lv.length := by rw [List.length_take]; omega
      omega
    walk_at "d"
    refine ds_for ?_
    walk_at "d"
    refine ⟨row_shaped r, by decide +kernel, ?_⟩
    walk_at "d"
    rw [row_eqv_nil]
    refine if_dx (.int (startR r : Int)) (fun h => ?_) (fun h => ?_) ?_
    · have hne : r ≠ [] := fun e => by rw [e] at h; cases h
      obtain ⟨kl, h1, h2⟩ := row_last hne
      walk_at "d"
      rw [List.length_map]
      refine ⟨_, h1, ?_⟩
      walk_at "d"
      rw [h2]; rfl
    · have hne : r = [] := by cases r with
        | nil => rfl
        | cons a b => cases h
      walk_at "d"
      rw [hne]; rfl
    walk_at "d"
    refine ⟨⟨by omega, by omega⟩, ⟨by omega, by omega⟩, fun j G' O' => (∃ z4, G' = [.dat (.list (lv.map rowD)), .dat (.int (c : Int)), .ptr D, .dat (rowD r), z4]) ∧ O' = [(D, .lst (((longerF c (lv.take i) ++ (kidsF c r).take j).map rowD).map Sv.dat))], ⟨⟨_, rfl⟩, by rw [List.take_zero, List.append_nil]⟩, ?_, ?_⟩
    · rintro j d G' O' hd ⟨⟨z4, rfl⟩, rfl⟩
      rw [List.getElem?_map] at hd
      obtain ⟨n, hn, rfl⟩ := Option.map_eq_some_iff.mp hd
      have hn2 := List.getElem?_range (n := ((c : Int) - (startR r : Int)).toNat) (i := j)
      have hj : j < ((c : Int) - (startR r : Int)).toNat := by
        have := (List.getElem?_eq_some_iff.mp hn).1
        rwa [List.length_range] at this
      have ej : n = j := by rw [List.getElem?_range hj] at hn; cases hn; rfl
      subst ej
      have hjc : n < c - startR r := by omega
      have tk : (kidsF c r).take (n + 1) = (kidsF c r).take n ++ [r ++ [startR r + n]] := takeS (by unfold kidsF; rw [List.getElem?_map, List.getElem?_range hjc]; rfl)
      have hkl : ((kidsF c r).take n).length ≤ 10 := by rw [List.length_take]; omega
      walk_at "d"
      refine ⟨by rw [List.length_map, List.length_map, List.length_append, sizeLine_eq]; omega, ?_⟩
      walk_at "d"
      refine ⟨by rw [List.length_map, sizeLine_eq]; show r.length + 1 ≤ _; omega, ?_⟩
      walk_at "d"
      refine ⟨⟨_, rfl⟩, ?_⟩
      rw [tk]
      simp only [rowD, ← List.append_assoc, List.map_append, List.map_cons, List.map_nil, Int.natCast_add]
    · rintro G' O' ⟨⟨z4, rfl⟩, rfl⟩
      rw [List.length_map, List.length_range]
      have ek : (kidsF c r).take ((c : Int) - (startR r : Int)).toNat = kidsF c r := List.take_of_length_le (by unfold kidsF; rw [List.length_map, List.length_range]; omega)
      rw [ek]
      refine ⟨⟨_, _, rfl⟩, ?_⟩
      rw [e]
  · rintro G' O' ⟨⟨z3, z4, rfl⟩, rfl⟩
    rw [List.length_map, List.take_length]
    walk_at "d"
    exact ⟨hD, q⟩
end
end Mine
set_option Elab.async false
set_option linter.all false
set_option maxRecDepth 100000
set_option maxHeartbeats 4000000
namespace Mine
open PySem PySem.Spec PyProof.Rows L2 Ln Dl RZ PySem.W
abbrev s_law_sets : Stmt := topS 44
abbrev N_law_sets : List Str := ["count", "most", "found", "level", "turn"]
theorem sc_law_sets : FnScope N_law_sets ["count", "most"] (defScope s_law_sets) := ⟨rfl, rfl, rfl, by decide +kernel, rfl, by decide +kernel, by decide +kernel⟩
-- slots: 0 count, 1 most, 2 found, 3 level, 4 turn
abbrev s_law_extreme : Stmt := topS 46
abbrev N_law_extreme : List Str := ["plane", "items", "most", "side", "best", "row", "names", "k", "rest", "moment"]
theorem sc_law_extreme : FnScope N_law_extreme ["plane", "items", "most", "side"] (defScope s_law_extreme) := ⟨rfl, rfl, rfl, by decide +kernel, rfl, by decide +kernel, by decide +kernel⟩
-- slots: 0 plane, 1 items*, 2 most, 3 side, 4 best, 5 row, 6 names, 7 k, 8 rest, 9 moment
abbrev s_law_due : Stmt := topS 47
abbrev N_law_due : List Str := ["plane", "items", "most", "fore", "aft"]
theorem sc_law_due : FnScope N_law_due ["plane", "items", "most"] (defScope s_law_due) := ⟨rfl, rfl, rfl, by decide +kernel, rfl, by decide +kernel, by decide +kernel⟩
-- slots: 0 plane, 1 items, 2 most, 3 fore, 4 aft
theorem sets_zero (c : Nat) : setsF c 0 = [[]] := by simp [setsF, levelF]
theorem level_ok {c t : Nat} (hc : c ≤ 10) : ∀ r ∈ levelF c t, r.length ≤ 10 ∧ startR r ≤ c := fun r hr => by
  obtain ⟨h1, h2, h3⟩ := level_inv c t r hr
  exact ⟨Nat.le_trans (inc_len h1 h2) hc, startR_le h2⟩
/-! ## keys -/
def momR (p : Pl) (xs : List (Str × Int × Int)) (b : Bool) (r : List Nat) : Int := slackF p xs b (namesR xs r)
abbrev keyR (p : Pl) (xs : List (Str × Int × Int)) (b : Bool) (r : List Nat) : PyData := .tuple [.int (momR p xs b r), .int (r.length : Int), rowD r]
abbrev bestR (p : Pl) (xs : List (Str × Int × Int)) (b : Bool) (r : List Nat) : PyData := .tuple [keyR p xs b r, .tuple ((namesR xs r).map .str)]
theorem alike_ints : ∀ a b : List Int, alikeAll (a.map .int) (b.map .int) = true
  | [], _ => by simp [alikeAll]
  | _ :: _, [] => by simp [alikeAll]
  | x :: a, y :: b => by simp [alikeAll, alike, alike_ints a b]
theorem rowD_cast (r : List Nat) : rowD r = .tuple ((castR r).map .int) := by
  show PyData.tuple _ = PyData.tuple ((r.map _).map _)
  rw [List.map_map]; rfl
theorem key_alike (p : Pl) (xs : List (Str × Int × Int)) (b : Bool) (r s : List Nat) : alike (keyR p xs b r) (keyR p xs b s) = true := by
  rw [keyR, keyR, rowD_cast, rowD_cast]
  simp only [alike, alikeAll, Bool.and_true, Bool.true_and]
  exact alike_ints _ _
theorem key_lt (p : Pl) (xs : List (Str × Int × Int)) (b : Bool) (r s : List Nat) : dataLt (keyR p xs b r) (keyR p xs b s) = true ↔ kLt (momR p xs b r) r.length (castR r) (momR p xs b s) s.length (castR s) := by
  rw [keyR, keyR, rowD_cast, rowD_cast]
  have e0 : lexLt itemOrd (keyToksAll []) (keyToksAll []) = false := lex_irrefl _
  have e1 : dataLt (.tuple ((castR r).map .int)) (.tuple ((castR s).map .int)) = decide (castR r < castR s) := by
    rw [dataLt_tuple]; exact dataLt_ints _ _
  have e2 : PyData.eqv (.tuple ((castR r).map .int)) (.tuple ((castR s).map .int)) = decide (castR r = castR s) := by
    have : ∀ a b : List Int, PyData.eqvAll (a.map .int) (b.map .int) = decide (a = b) := by
      intro a
      induction a with
      | nil => intro b; cases b <;> simp [PyData.eqvAll]
      | cons x a ih =>
        intro b
        cases b with
        | nil => simp [PyData.eqvAll]
        | cons y b =>
          simp only [List.map_cons, PyData.eqvAll, ih, PyData.eqv]
          by_cases h1 : x = y <;> by_cases h2 : a = b <;> simp [h1, h2]
    simp only [PyData.eqv]
    exact this _ _
  rw [dataLt_tuple, dataLt_cons (by simp [alike]), dataLt_cons (by simp [alike]), dataLt_cons (by simp only [alike]; exact alike_ints _ _), dataLt_int, dataLt_int, e0, e1, e2]
  simp only [PyData.eqv, beq_iff_eq]
  unfold kLt
  have hs : ∀ x : List Int, ¬ x < x := fun x => List.lt_irrefl x
  by_cases h1 : momR p xs b r = momR p xs b s <;> by_cases h2 : (r.length : Int) = (s.length : Int) <;> by_cases h3 : castR r = castR s <;> simp [h1, h2, h3, hs]
theorem key_depth (p : Pl) (xs : List (Str × Int × Int)) (b : Bool) (r : List Nat) : (keyR p xs b r).depth ≤ 4 := by
  have : (rowD r).depth ≤ 1 := (Shp.tuple (n := 0) (g := fun k : Nat => PyData.int (k : Int)) fun x _ => Shp.int _).2
  simp only [keyR, PyData.depth, PyData.depthAll] at *
  omega
theorem kLt_trans {m1 l1 m2 l2 m3 l3 : Int} {r1 r2 r3 : List Int} (h1 : kLt m1 l1 r1 m2 l2 r2) (h2 : kLt m2 l2 r2 m3 l3 r3) : kLt m1 l1 r1 m3 l3 r3 := by
  unfold kLt at *
  rcases h1 with h1 | ⟨a1, h1 | ⟨b1, h1⟩⟩ <;> rcases h2 with h2 | ⟨a2, h2 | ⟨b2, h2⟩⟩
  · left; omega
  · left; omega
  · left; omega
  · left; omega
  · right; exact ⟨by omega, .inl (by omega)⟩
  · right; exact ⟨by omega, .inl (by omega)⟩
  · left; omega
  · right; exact ⟨by omega, .inl (by omega)⟩
  · right; exact ⟨by omega, .inr ⟨by omega, List.lt_trans h1 h2⟩⟩
theorem kLt_irr {m l : Int} {r : List Int} : ¬ kLt m l r m l r := fun h => by
  unfold kLt at h
  rcases h with h | ⟨_, h | ⟨_, h⟩⟩
  · omega
  · omega
  · exact List.lt_irrefl _ h
/-- the best row is the program's -/
theorem best_row {p : Pl} {xs : List (Str × Int × Int)} {n : Nat} {b : Bool} (hc : xs.length ≤ 10) (nd : (xs.map Prod.fst).Nodup) {r : List Nat} (hr : r ∈ setsF xs.length (min xs.length n)) (best : ∀ s ∈ setsF xs.length (min xs.length n), ¬ kLt (momR p xs b s) s.length (castR s) (momR p xs b r) r.length (castR r)) : r = grow_ (pullsF p xs b) n := by
  have hl : (pullsF p xs b).length = xs.length := List.length_map _
  obtain ⟨r1, r2, r3⟩ := sets_inv hr
  have gi := grow_inc (pullsF p xs b) n
  have gk : ∀ k ∈ grow_ (pullsF p xs b) n, k < xs.length := fun k hk => by
    have := List.mem_range.mp (List.mem_filter.mp hk).1
    omega
  have gl := grow_len (pullsF p xs b) n
  have gl2 := inc_len gi gk
  have gm : grow_ (pullsF p xs b) n ∈ setsF xs.length (min xs.length n) := sets_mem gi gk (by omega)
  by_cases c : r = grow_ (pullsF p xs b) n
  · exact c
  exfalso
  have hw := row_best (by omega) r1 (by rw [hl]; exact r2) (by omega) c
  have := kLt_of (T := pullF p b p.m + (pullsF p xs b).sum) r1 gi (fun k hk => by have := r2 k hk; omega) (fun k hk => by have := gk k hk; omega) (by have := inc_len r1 r2; omega) (by omega) hw
  refine best _ gm ?_
  unfold momR
  rw [slack_row p b nd r1 r2, slack_row p b nd gi gk]
  exact this
section
variable {P : Program} {w : World} {K : PySem.W.Frag} {mg : Str → Option Value} {base : Heap} {C fI CP fIP A0 : Addr}
def wSets : Wt := fun as k _ => ∃ c n : Nat, as = [.dat (.int (c : Int)), .dat (.int (n : Int))] ∧ c ≤ 10 ∧ n ≤ 60 ∧ k (.l (((setsF c (min c n)).map rowD).map Sv.dat))
theorem ok_sets {f : Addr} {fd : FuncData} (F : Fun K "_law_sets" "_law_sets" s_law_sets f fd) (T : DTxt mg) (c__law_longer : Cg P w K mg base CX0 1 "_law_longer" (spP K 2 wLonger)) : FnG P w K mg base CX0 2 f fd ["count", "most"] (spP K 2 wSets) := by
  refine okP F sc_law_sets rfl fun cdv A outer s H E hG hr => ⟨_, (pss_cons (ps_set (i := 2) sc_law_sets.nd rfl (.inl rfl) (pe_lst (pa_cons (pe_tup pa_nil) pa_nil)))
    (pss_cons (ps_set (i := 3) sc_law_sets.nd rfl (.inl rfl) (pe_lst (pa_cons (pe_tup pa_nil) pa_nil)))
    (pss_cons (ps_for PassesOwn.never rfl (pi_range1 (by rfl) T.z_range (pa_cons (pe_callB (id := "min") (call_min2 rfl) (by rfl) T.z_min (by decide +kernel) (pa_cons (pv 0) (pa_cons (pv 1) pa_nil))) pa_nil)) (pg_name (i := 4) sc_law_sets.nd rfl (.inl rfl))
    (pss_cons (ps_set (i := 3) sc_law_sets.nd rfl (.inl rfl) (pe_cg c__law_longer hr (by decide) hG (by rfl) (pa_cons (pv 3) (pa_cons (pv 0) pa_nil))))
    (pss_one (ps_set (i := 2) sc_law_sets.nd rfl (.inl rfl) (pe_op op_cat (pv 2) (pv 3))))))
    (pss_one (ps_ret (pv 2)))))), fun F0 H0 as k ke hl hw => ?_⟩
  obtain ⟨c, n, rfl, hc, hn, q⟩ := hw
  change Ds _ [_, _, _, _, _] _ _ _
  walk_at "d"
  intro D hD
  walk_at "d"
  intro D2 hD2
  walk_at "d"
  refine ds_for ?_
  walk_at "d"
  have em : (if (n : Int) < (c : Int) then (n : Int) else (c : Int)) = ((min c n : Nat) : Int) := by split <;> omega
  rw [em, Int.toNat_natCast]
  have hm : min c n ≤ 10 := by omega
  generalize min c n = m at hm q
  refine ⟨⟨by omega, by omega⟩, fun i G' O' => ∃ D1 D2 z4, H0 D1 = none ∧ H0 D2 = none ∧ G' = [.dat (.int (c : Int)), .dat (.int (n : Int)), .ptr D1, .ptr D2, z4] ∧ ∃ O1, [(D2, Ob.lst (((levelF c i).map rowD).map Sv.dat)), (D1, Ob.lst (((setsF c i).map rowD).map Sv.dat))].Perm O1 ∧ O1.Sublist O', ⟨D, D2, _, hD, hD2, rfl, by rw [sets_zero]; exact ⟨_, List.Perm.refl _, List.Sublist.refl _⟩⟩, ?_, ?_⟩
  · rintro i d G' O' hd ⟨D1, D2, z4, h1, h2, rfl, hsub⟩
    have hi : i < m := by
      have := (List.getElem?_eq_some_iff.mp hd).1
      rwa [List.length_map, List.length_range] at this
    rw [mapI_get hi] at hd
    cases hd
    have l1 := level_len c (by omega) i (by omega)
    have l2 := level_len c (by omega) (i + 1) (by omega)
    have l3 := sets_len c (by omega) i (by omega)
    walk_at "d1"
    refine ds_pick (O0 := [(D2, Ob.lst (((levelF c i).map rowD).map Sv.dat)), (D1, Ob.lst (((setsF c i).map rowD).map Sv.dat))]) hsub ?_
    refine ds_keep 3 h2 ?_
    refine ds_seq (ds_setL (dl_callP ?_))
    walk_at "d"
    refine ⟨levelF c i, c, rfl, hc, by omega, level_ok hc, fun D3 h3 => ?_⟩
    change Ds _ [_, _, _, _, _] _ _ _
    refine ds_setL (dl_cat (dk_var (n := 1) rfl rfl (dk_var (n := 0) rfl rfl ?_)))
    refine ⟨by rw [List.length_map, List.length_map, List.length_map, List.length_map, sizeLine_eq]; show (setsF c i).length + (levelF c (i + 1)).length ≤ _; omega, fun D4 h4 => ?_⟩
    walk_at "d"
    refine ⟨D4, D3, _, h4, h3, rfl, _, List.Perm.swap _ _ _, ?_⟩
    rw [setsF_succ, List.map_append, List.map_append]
    exact List.Sublist.cons₂ _ (List.Sublist.cons₂ _ (List.nil_sublist _))
  · rintro G' O' ⟨D1, D2, z4, h1, h2, rfl, hsub⟩
    rw [List.length_map, List.length_range] at hsub
    refine ds_pick hsub ?_
    refine ds_less (List.sublist_cons_self _ _) ?_
    walk_at "d"
    exact ⟨h1, q⟩
theorem grow_slF {p : Pl} {xs : List (Str × Int × Int)} {n : Nat} {b : Bool} (nd : (xs.map Prod.fst).Nodup) : momR p xs b (grow_ (pullsF p xs b) n) = slF p xs n b ∧ namesR xs (grow_ (pullsF p xs b) n) = awyF p xs n b := by
  have e : namesR xs (grow_ (pullsF p xs b) n) = awyF p xs n b := grow_names (List.length_map _) n
  refine ⟨?_, e⟩
  unfold momR
  rw [e]
  rfl
theorem its_at {xs : List (Str × Int × Int)} {k : Nat} (h : k < xs.length) : ∃ x : Str × Int × Int, atI (xs.map itD) (k : Int) = some (itD x) ∧ x.1 = namR xs k := by
  refine ⟨xs[k], atI_map rfl (List.getElem?_eq_getElem h), ?_⟩
  rw [nam_at (List.getElem?_eq_getElem h)]
def wExt : Wt := fun as k _ => ∃ (p : Pl) (xs : List (Str × Int × Int)) (n : Nat) (b : Bool), as = [.dat (plD p), .dat (itsD xs), .dat (.int (n : Int)), .dat (.int (if b then 0 else 1))] ∧ GoodP p ∧ GoodI xs ∧ xs.length ≤ 10 ∧ n ≤ 60 ∧ k (.v (.dat (.tuple [.int (slF p xs n b), .tuple ((awyF p xs n b).map .str)])))
theorem ok_extreme {f : Addr} {fd : FuncData} (F : Fun K "_law_extreme" "_law_extreme" s_law_extreme f fd) (T : DTxt mg) (c__law_sets : Cg P w K mg base CX0 2 "_law_sets" (spP K 2 wSets)) (c__law_away : Cg P w K mg base CX0 1 "_law_away" (spP K 2 wLAway)) (c__law_moment : Cg P w K mg base CX0 1 "_law_moment" (spP K 3 wLMom)) : FnG P w K mg base CX0 3 f fd ["plane", "items", "most", "side"] (spP K 4 wExt) := by
  refine okP F sc_law_extreme rfl fun cdv A outer s H E hG hr => ⟨_, (pss_cons (ps_set (i := 4) sc_law_extreme.nd rfl (.inl rfl) pe_non)
    (pss_cons (ps_for PassesOwn.never rfl (pi_list (pe_cg c__law_sets hr (by decide) hG (by rfl) (pa_cons (pe_callB (r := Ln.rLen K) (id := "len") c_len (by rfl) T.z_len (by decide +kernel) (pa_cons (pv 1) pa_nil)) (pa_cons (pv 2) pa_nil)))) (pg_name (i := 5) sc_law_extreme.nd rfl (.inl rfl))
    (pss_cons (ps_setLc (i := 6) (own := [("k", 7)]) rfl sc_law_extreme.nd rfl rfl (sw_true rfl rfl rfl (by decide +kernel)) (pi_tup (pv 5)) (blkOk_by (own := [("k", 7)]) (N := N_law_extreme) (sc := defScope s_law_extreme) (by decide +kernel)) (fun _ _ _ _ _ => (pg_name (i := 7) sc_law_extreme.nd rfl (.inl rfl))) (fun _ _ _ _ _ => pts_nil) (fun _ _ _ _ _ => (pe_ix (r := rIxT K) ix_tup (pe_ix (r := rIxT K) ix_tup (pv 1) (pv 7) (fun _ _ => rfl)) pe_int (fun _ _ => rfl))))
    (pss_cons (ps_set (i := 8) sc_law_extreme.nd rfl (.inl rfl) (pe_cg c__law_away hr (by decide) hG (by rfl) (pa_cons (pv 1) (pa_cons (pv 6) pa_nil))))
    (pss_cons (ps_set (i := 9) sc_law_extreme.nd rfl (.inl rfl) (pe_ifExp (pt_cmpR op_eq (pv 3) pe_int (nomark _)) (pe_cg c__law_moment hr (by decide) hG (by rfl) (pa_cons (pv 0) (pa_cons (pv 8) (pa_cons (pe_ix (r := rIxT K) ix_tup (pv 0) pe_int (fun _ _ => rfl)) pa_nil)))) (pe_op op_sub pe_int (pe_cg c__law_moment hr (by decide) hG (by rfl) (pa_cons (pv 0) (pa_cons (pv 8) (pa_cons (pe_ix (r := rIxT K) ix_tup (pv 0) pe_int (fun _ _ => rfl)) pa_nil)))))))
    (pss_one (ps_if (PW.pt (pw_or (pt_cmpR op_isN (pv 4) pe_non (nomark _)) (pw_or1 (pt_cmpR (r := Dl.rLtG K) (Dl.op_ltG (Dl.u8 hr)) (pe_tup (pa_cons (pv 9) (pa_cons (pe_callB (r := Ln.rLen K) (id := "len") c_len (by rfl) T.z_len (by decide +kernel) (pa_cons (pv 5) pa_nil)) (pa_cons (pv 5) pa_nil)))) (pe_ix (r := rIx K) ix_seq (pv 4) pe_int (fun _ _ => rfl)) (nomark _)))))
    (pss_one (ps_set (i := 4) sc_law_extreme.nd rfl (.inl rfl) (pe_tup (pa_cons (pe_tup (pa_cons (pv 9) (pa_cons (pe_callB (r := Ln.rLen K) (id := "len") c_len (by rfl) T.z_len (by decide +kernel) (pa_cons (pv 5) pa_nil)) (pa_cons (pv 5) pa_nil)))) (pa_cons (pe_callTy (r := Ln.rTupOf K) (T := "tuple") c_tuple (by rfl) T.z_tuple (by decide +kernel) (pa_cons (pv 6) pa_nil)) pa_nil)))))
    pss_nil))))))
    (pss_one (ps_ret (pe_tup (pa_cons (pe_ix (r := rIxT K) ix_tup (pe_ix (r := rIx K) ix_seq (pv 4) pe_int (fun _ _ => rfl)) pe_int (fun _ _ => rfl)) (pa_cons (pe_ix (r := rIx K) ix_seq (pv 4) pe_int (fun _ _ => rfl)) pa_nil))))))), fun F0 H0 as k ke hl hw => ?_⟩
  obtain ⟨p, xs, n, b, rfl, hp, hx, hc, hn, q⟩ := hw
  change Ds _ [_, _, _, _, _, _, _, _, _, _] _ _ _
  walk_at "d"
  refine ds_for ?_
  walk_at "d"
  rw [List.length_map]
  refine ⟨xs.length, n, rfl, hc, hn, ((setsF xs.length (min xs.length n)).map rowD), rfl, ?_⟩
  walk_at "d"
  have hin := fun r => sets_inv (c := xs.length) (m := min xs.length n) (r := r)
  have hbr := fun r => best_row (p := p) (b := b) (n := n) hc hx.n (r := r)
  have hne : setsF xs.length (min xs.length n) ≠ [] := fun e => by
    have : [] ∈ setsF xs.length (min xs.length n) := sets_mem .nil (by simp) (Nat.zero_le _)
    rw [e] at this
    cases this
  generalize hS : setsF xs.length (min xs.length n) = S at hin hbr hne
  refine ⟨fun i G' O' => (∃ bd z5 z6 z7 z8 z9, G' = [.dat (plD p), .dat (itsD xs), .dat (.int (n : Int)), .dat (.int (if b then 0 else 1)), .dat bd, z5, z6, z7, z8, z9] ∧ ((i = 0 ∧ bd = .none) ∨ ∃ r ∈ S.take i, bd = bestR p xs b r ∧ ∀ s ∈ S.take i, ¬ kLt (momR p xs b s) s.length (castR s) (momR p xs b r) r.length (castR r))) ∧ O' = [], ⟨⟨_, _, _, _, _, _, rfl, .inl ⟨rfl, rfl⟩⟩, rfl⟩, ?_, ?_⟩
  · rintro i d G' O' hd ⟨⟨bd, z5, z6, z7, z8, z9, rfl, hbd⟩, rfl⟩
    rw [List.getElem?_map] at hd
    obtain ⟨r, hr', rfl⟩ := Option.map_eq_some_iff.mp hd
    obtain ⟨r1, r2, r3⟩ := hin r (List.mem_of_getElem? hr')
    have tk : S.take (i + 1) = S.take i ++ [r] := takeS hr'
    walk_at "d"
    refine dl_map ?_
    walk_at "d"
    have hrl := inc_len r1 r2
    refine ⟨by rw [List.length_map, sizeLine_eq]; omega, _, r, fun k : Nat => PyData.int (k : Int), fun k => .dat (.str (namR xs k)), rfl, fun j m hj => ?_, ?_⟩
    · obtain ⟨x, x1, x2⟩ := its_at (r2 m (List.mem_of_getElem? hj))
      walk_at "d"
      refine ⟨_, x1, ?_⟩
      walk_at "d"
      refine ⟨_, rfl, ?_⟩
      walk_at "d"
      rw [x2]
    intro D hD
    walk_at "d1"
    have e1 : r.map (fun k => Sv.dat (.str (namR xs k))) = ((namesR xs r).map PyData.str).map Sv.dat := by
      unfold namesR
      rw [List.map_map, List.map_map]; rfl
    rw [e1]
    show Ds _ _ _ _ _
    refine ds_keep 6 hD ?_
    walk_at "d"
    refine ⟨xs, _, namesR xs r, rfl, .inl rfl, hx.l, (awyL xs (namesR xs r)).map itD, by rw [List.map_map]; rfl, ?_⟩
    walk_at "d"
    have hz : ∀ x ∈ awyL xs (namesR xs r), 0 ≤ x.2.1 ∧ x.2.1 ≤ 1000000 := fun x hx' => (hx.z x (List.mem_filter.mp hx').1).1
    refine if_dx (.int (momR p xs b r)) (fun h => ?_) (fun h => ?_) ?_
    · walk_at "d"
      refine ⟨_, rfl, ?_⟩
      walk_at "d"
      refine ⟨p, awyL xs (namesR xs r), _, _, rfl, .inr rfl, hp.w, hz, ?_⟩
      walk_at "d"
      cases b with
      | true => unfold momR; rw [slack_mom]; rfl
      | false => exact absurd h (by decide)
    · walk_at "d"
      refine ⟨_, rfl, ?_⟩
      walk_at "d"
      refine ⟨p, awyL xs (namesR xs r), _, _, rfl, .inr rfl, hp.w, hz, ?_⟩
      walk_at "d"
      cases b with
      | true => exact absurd h (by decide)
      | false => unfold momR; rw [slack_mom]; rfl
    walk_at "d"
    have fin : ∀ z5 z6 z7 z8 z9, (i = 0 ∨ ∃ r0 ∈ S.take i, (∀ s ∈ S.take i, ¬ kLt (momR p xs b s) s.length (castR s) (momR p xs b r0) r0.length (castR r0)) ∧ kLt (momR p xs b r) r.length (castR r) (momR p xs b r0) r0.length (castR r0)) → (∃ bd z5' z6' z7' z8' z9', ([.dat (plD p), .dat (itsD xs), .dat (.int (n : Int)), .dat (.int (if b then 0 else 1)), .dat (bestR p xs b r), z5, z6, z7, z8, z9] : List Sv) = [.dat (plD p), .dat (itsD xs), .dat (.int (n : Int)), .dat (.int (if b then 0 else 1)), .dat bd, z5', z6', z7', z8', z9'] ∧ ((i + 1 = 0 ∧ bd = .none) ∨ ∃ r ∈ S.take (i + 1), bd = bestR p xs b r ∧ ∀ s ∈ S.take (i + 1), ¬ kLt (momR p xs b s) s.length (castR s) (momR p xs b r) r.length (castR r))) := by
      intro z5 z6 z7 z8 z9 h
      refine ⟨_, _, _, _, _, _, rfl, .inr ⟨r, by rw [tk]; exact List.mem_append_right _ List.mem_cons_self, rfl, fun s hs => ?_⟩⟩
      rw [tk] at hs
      rcases List.mem_append.mp hs with hs | hs
      · rcases h with rfl | ⟨r0, h0, h1, h2⟩
        · cases hs
        · exact fun h3 => h1 s hs (kLt_trans h3 h2)
      · rw [List.mem_singleton.mp hs]; exact kLt_irr
    rcases hbd with ⟨rfl, rfl⟩ | ⟨r0, h0, rfl, hmin⟩
    · refine ifT rfl ?_
      walk_at "d"
      rw [List.length_map]
      exact ⟨fin _ _ _ _ _ (.inl rfl), rfl⟩
    · refine ifF rfl ?_
      walk_at "d"
      rw [List.length_map]
      refine ⟨_, rfl, ?_⟩
      refine ⟨key_alike p xs b r r0, (fun z => by cases z), key_depth p xs b r, ?_⟩
      walk_at "d"
      refine ifB (fun h => ?_) (fun h => ?_)
      · have h : dataLt (keyR p xs b r) (keyR p xs b r0) = true := h
        rw [key_lt] at h
        walk_at "d"
        rw [List.length_map]
        exact ⟨fin _ _ _ _ _ (.inr ⟨r0, h0, hmin, h⟩), rfl⟩
      · have h : dataLt (keyR p xs b r) (keyR p xs b r0) = false := h
        walk_at "d"
        refine ⟨⟨_, _, _, _, _, _, rfl, .inr ⟨r0, by rw [tk]; exact List.mem_append_left _ h0, rfl, fun s hs => ?_⟩⟩, rfl⟩
        rw [tk] at hs
        rcases List.mem_append.mp hs with hs | hs
        · exact hmin s hs
        · rw [List.mem_singleton.mp hs]
          intro z
          rw [(key_lt p xs b r r0).mpr z] at h
          cases h
  · rintro G' O' ⟨⟨bd, z5, z6, z7, z8, z9, rfl, hbd⟩, rfl⟩
    rw [List.length_map, List.take_length] at hbd
    rcases hbd with ⟨h, _⟩ | ⟨r, hr', rfl, hmin⟩
    · exact absurd (List.length_eq_zero_iff.mp h) hne
    · have er := hbr r hr' hmin
      obtain ⟨g1, g2⟩ := grow_slF (p := p) (n := n) (b := b) hx.n
      walk_at "d"
      refine ⟨_, rfl, ?_⟩
      walk_at "d"
      refine ⟨_, rfl, ?_⟩
      walk_at "d"
      refine ⟨_, rfl, ?_⟩
      walk_at "d"
      rw [er, g1, g2]
      exact q
def wLDue : Wt := fun as k _ => ∃ (p : Pl) (xs : List (Str × Int × Int)) (n : Nat), as = [.dat (plD p), .dat (itsD xs), .dat (.int (n : Int))] ∧ GoodP p ∧ GoodI xs ∧ xs.length ≤ 10 ∧ n ≤ 60 ∧ k (.v (.dat (balF p xs n)))
theorem ok_ldue {f : Addr} {fd : FuncData} (F : Fun K "_law_due" "_law_due" s_law_due f fd) (c__law_extreme : Cg P w K mg base CX0 3 "_law_extreme" (spP K 4 wExt)) : FnG P w K mg base CX0 4 f fd ["plane", "items", "most"] (spP K 3 wLDue) := by
  refine okP F sc_law_due rfl fun cdv A outer s H E hG hr => ⟨_, (pss_cons (ps_set (i := 3) sc_law_due.nd rfl (.inl rfl) (pe_cg c__law_extreme hr (by decide) hG (by rfl) (pa_cons (pv 0) (pa_cons (pv 1) (pa_cons (pv 2) (pa_cons pe_int pa_nil))))))
    (pss_cons (ps_set (i := 4) sc_law_due.nd rfl (.inl rfl) (pe_cg c__law_extreme hr (by decide) hG (by rfl) (pa_cons (pv 0) (pa_cons (pv 1) (pa_cons (pv 2) (pa_cons pe_int pa_nil))))))
    (pss_cons (ps_if (pt_cmpR op_lt (pe_ix (r := rIxT K) ix_tup (pv 3) pe_int (fun _ _ => rfl)) pe_int (nomark _))
    (pss_one (ps_ret (pe_tup (pa_cons pe_str (pa_cons pe_str (pa_cons (pe_ix (r := rIxT K) ix_tup (pv 3) pe_int (fun _ _ => rfl)) pa_nil))))))
    pss_nil)
    (pss_cons (ps_if (pt_cmpR op_lt (pe_ix (r := rIxT K) ix_tup (pv 4) pe_int (fun _ _ => rfl)) pe_int (nomark _))
    (pss_one (ps_ret (pe_tup (pa_cons pe_str (pa_cons pe_str (pa_cons (pe_ix (r := rIxT K) ix_tup (pv 4) pe_int (fun _ _ => rfl)) pa_nil))))))
    pss_nil)
    (pss_one (ps_ret (pe_tup (pa_cons pe_str (pa_cons (pe_tup (pa_cons (pe_ix (r := rIxT K) ix_tup (pv 3) pe_int (fun _ _ => rfl)) (pa_cons (pe_ix (r := rIxT K) ix_tup (pv 4) pe_int (fun _ _ => rfl)) pa_nil))) pa_nil))))))))), fun F0 H0 as k ke hl hw => ?_⟩
  obtain ⟨p, xs, n, rfl, hp, hx, hc, hn, q⟩ := hw
  unfold balF at q
  change Ds _ [_, _, _, _, _] _ _ _
  walk_at "d"
  refine ⟨p, xs, n, true, rfl, hp, hx, hc, hn, ?_⟩
  walk_at "d"
  refine ⟨p, xs, n, false, rfl, hp, hx, hc, hn, ?_⟩
  walk_at "d"
  refine ⟨_, rfl, ?_⟩
  walk_at "d"
  refine ifP (fun h => ?_) (fun h => ?_)
  · rw [if_pos h] at q
    walk_at "d"
    refine ⟨_, rfl, ?_⟩
    walk_at "d"
    exact q
  rw [if_neg h] at q
  walk_at "d"
  refine ⟨_, rfl, ?_⟩
  walk_at "d"
  refine ifP (fun h => ?_) (fun h => ?_)
  · rw [if_pos h] at q
    walk_at "d"
    refine ⟨_, rfl, ?_⟩
    walk_at "d"
    exact q
  rw [if_neg h] at q
  walk_at "d"
  refine ⟨_, rfl, ?_⟩
  walk_at "d"
  refine ⟨_, rfl, ?_⟩
  walk_at "d"
  exact q
end
end Mine
set_option Elab.async false
set_option linter.all false
set_option maxRecDepth 100000
set_option maxHeartbeats 4000000
namespace Mine
open PySem PySem.Spec PyProof.Rows L2 Ln Dl RZ PySem.W
abbrev s_law_boarded : Stmt := topS 48
abbrev N_law_boarded : List Str := ["plane", "items", "order", "aboard", "count", "tips", "item"]
theorem sc_law_boarded : FnScope N_law_boarded ["plane", "items", "order"] (defScope s_law_boarded) := ⟨rfl, rfl, rfl, by decide +kernel, rfl, by decide +kernel, by decide +kernel⟩
-- slots: 0 plane, 1 items, 2 order*, 3 aboard, 4 count*, 5 tips, 6 item
/-- who is aboard behind i turns -/
def abd (xs : List (Str × Int × Int)) (zs : List Str) (i : Nat) : List (Str × Int × Int) := (zs.take i).flatMap fun z => xs.filter fun x => decide (x.1 = z)
theorem abd_succ {xs : List (Str × Int × Int)} {zs : List Str} {i : Nat} {z : Str} (h : zs[i]? = some z) : abd xs zs (i + 1) = abd xs zs i ++ xs.filter fun x => decide (x.1 = z) := by
  unfold abd
  rw [takeS h, List.flatMap_append]
  simp
theorem abd_end {xs : List (Str × Int × Int)} {zs : List Str} {i : Nat} (h : zs.length ≤ i) : abd xs zs (i + 1) = abd xs zs i := by
  unfold abd
  rw [List.take_of_length_le h, List.take_of_length_le (by omega)]
theorem filter_sum {α : Type} (f : α → Int) (q1 q2 q : α → Bool) : ∀ xs : List α, (∀ x ∈ xs, q x = (q1 x || q2 x)) → (∀ x ∈ xs, (q1 x && q2 x) = false) → ((xs.filter q).map f).sum = ((xs.filter q1).map f).sum + ((xs.filter q2).map f).sum
  | [], _, _ => rfl
  | x :: xs, h, d => by
    have ih := filter_sum f q1 q2 q xs (fun y hy => h y (List.mem_cons_of_mem _ hy)) fun y hy => d y (List.mem_cons_of_mem _ hy)
    have h0 := h x List.mem_cons_self
    have d0 := d x List.mem_cons_self
    rw [List.filter_cons, List.filter_cons, List.filter_cons]
    cases e1 : q1 x <;> cases e2 : q2 x <;> simp only [e1, e2, Bool.or_false, Bool.or_true, Bool.false_or, Bool.and_self, Bool.and_true] at h0 d0 <;> first | (cases d0; done) | (simp [h0, ih]; omega) | simp [h0, ih]
theorem abd_slack (p : Pl) {xs : List (Str × Int × Int)} {zs : List Str} (nd : zs.Nodup) (hx : ∀ x ∈ xs, x.1 ∈ zs) (b : Bool) : ∀ i, slackF p (abd xs zs i) b [] = slackF p xs b (zs.drop i)
  | 0 => by
    unfold slackF abd
    have : xs.filter (fun x => !decide (x.1 ∈ zs.drop 0)) = [] := List.filter_eq_nil_iff.mpr fun x hm => by simp [hx x hm]
    rw [this]
    simp
  | i + 1 => by
    have ih := abd_slack p nd hx b i
    by_cases h : i < zs.length
    · have hz : zs[i]? = some zs[i] := List.getElem?_eq_getElem h
      rw [abd_succ hz]
      have hd : zs.drop i = zs[i] :: zs.drop (i + 1) := List.drop_eq_getElem_cons h
      have hd' : ∀ y, y ∈ zs.drop i ↔ y = zs[i] ∨ y ∈ zs.drop (i + 1) := fun y => by rw [hd, List.mem_cons]
      have nd' : zs[i] ∉ zs.drop (i + 1) := by
        have := nd.sublist (List.drop_sublist i zs)
        rw [hd] at this
        exact (List.nodup_cons.mp this).1
      unfold slackF at ih ⊢
      have e : (fun x : Str × Int × Int => !decide (x.1 ∈ ([] : List Str))) = fun _ => true := by funext x; simp
      rw [e, List.filter_eq_self.mpr (by simp)] at ih ⊢
      rw [List.map_append, List.sum_append]
      have := filter_sum (fun x : Str × Int × Int => pullF p b x.2) (fun x => !decide (x.1 ∈ zs.drop i)) (fun x => decide (x.1 = zs[i])) (fun x => !decide (x.1 ∈ zs.drop (i + 1))) xs (fun x hm => by
        have := hd' x.1
        by_cases h1 : x.1 = zs[i]
        · have h2 : x.1 ∉ zs.drop (i + 1) := by rw [h1]; exact nd'
          simp [this, h1, h2, nd']
        · simp [this, h1]) (fun x hm => by
        have := hd' x.1
        by_cases h1 : x.1 = zs[i]
        · simp [this.mpr (.inl h1)]
        · simp [h1])
      omega
    · rw [abd_end (by omega), ih, List.drop_eq_nil_of_le (by omega), List.drop_eq_nil_of_le (by omega)]
theorem abd_len {xs : List (Str × Int × Int)} (nd : (xs.map Prod.fst).Nodup) {zs : List Str} : ∀ i, (abd xs zs i).length ≤ i
  | 0 => by simp [abd]
  | i + 1 => by
    have ih := abd_len nd (zs := zs) i
    by_cases h : i < zs.length
    · rw [abd_succ (List.getElem?_eq_getElem h), List.length_append]
      have : (xs.filter fun x => decide (x.1 = zs[i])).length ≤ 1 := by
        have h1 : ((xs.filter fun x => decide (x.1 = zs[i])).map Prod.fst).Nodup := nd.sublist (List.filter_sublist.map _)
        have hm : ∀ x ∈ xs.filter (fun x => decide (x.1 = zs[i])), x.1 = zs[i] := fun x h => of_decide_eq_true (List.mem_filter.mp h).2
        revert h1 hm
        generalize xs.filter (fun x => decide (x.1 = zs[i])) = l
        intro h1 hm
        rcases l with _ | ⟨a, _ | ⟨b, r⟩⟩
        · exact Nat.zero_le _
        · exact Nat.le_refl _
        · have ha := hm a List.mem_cons_self
          have hb := hm b (List.mem_cons_of_mem _ List.mem_cons_self)
          refine absurd ?_ (List.nodup_cons.mp h1).1
          rw [ha, ← hb]
          exact List.mem_cons_self
      omega
    · rw [abd_end (by omega)]; omega
theorem cutD_one {α : Type} {xs : List α} {i : Nat} (h : i ≤ xs.length) : Dl.cutD xs (some (i : Int)) (some ((i : Int) + 1)) = (xs.drop i).take 1 := by
  show Dl.cutD xs (some (i : Int)) (some ((i + 1 : Nat) : Int)) = _
  unfold Dl.cutD
  rw [HT.sIx_nat, HT.sIx_nat, Nat.min_eq_left h]
  by_cases c : i < xs.length
  · rw [Nat.min_eq_left (by omega)]
    congr 1
    omega
  · rw [List.drop_of_length_le (by omega), List.take_nil, List.take_nil]
theorem abd_next {xs : List (Str × Int × Int)} {zs : List Str} (i : Nat) : abd xs zs i ++ xs.filter (fun x => decide ((zs.drop i).take 1 = [x.1])) = abd xs zs (i + 1) := by
  by_cases h : i < zs.length
  · rw [abd_succ (List.getElem?_eq_getElem h)]
    congr 1
    refine List.filter_congr fun x _ => decide_eq_decide.mpr ?_
    rw [List.drop_eq_getElem_cons h, List.take_succ_cons, List.take_zero]
    exact ⟨fun e => (List.cons.inj e).1.symm, fun e => by rw [e]⟩
  · rw [abd_end (by omega), List.drop_of_length_le (by omega), List.take_nil]
    have : xs.filter (fun x => decide (([] : List Str) = [x.1])) = [] := List.filter_eq_nil_iff.mpr fun x _ => by simp
    rw [this, List.append_nil]
section
variable {P : Program} {w : World} {K : PySem.W.Frag} {mg : Str → Option Value} {base : Heap} {C fI CP fIP A0 : Addr}
def wLBrd : Wt := fun as k _ => ∃ (p : Pl) (xs : List (Str × Int × Int)) (zs : List Str), as = [.dat (plD p), .dat (itsD xs), .dat (.tuple (zs.map .str))] ∧ GoodP p ∧ GoodI xs ∧ zs.Perm (xs.map Prod.fst) ∧ (∀ x ∈ xs, PyData.strOk x.1 = true) ∧ k (.v (.dat (brdF p xs zs)))
theorem ok_lbrd {f : Addr} {fd : FuncData} (F : Fun K "_law_boarded" "_law_boarded" s_law_boarded f fd) (T : DTxt mg) (c__law_tips : Cg P w K mg base CX0 2 "_law_tips" (spP K 3 wLTips)) : FnG P w K mg base CX0 3 f fd ["plane", "items", "order"] (spP K 3 wLBrd) := by
  refine okP F sc_law_boarded rfl fun cdv A outer s H E hG hr => ⟨_, (pss_cons (ps_set (i := 3) sc_law_boarded.nd rfl (.inl rfl) (pe_lst pa_nil))
    (pss_cons (ps_for PassesOwn.never rfl (pi_range1 (by rfl) T.z_range (pa_cons (pe_op op_add (pe_callB (r := Ln.rLen K) (id := "len") c_len (by rfl) T.z_len (by decide +kernel) (pa_cons (pv 2) pa_nil)) pe_int) pa_nil)) (pg_name (i := 4) sc_law_boarded.nd rfl (.inr rfl))
    (pss_cons (ps_set (i := 5) sc_law_boarded.nd rfl (.inl rfl) (pe_cg c__law_tips hr (by decide) hG (by rfl) (pa_cons (pv 0) (pa_cons (pv 3) (pa_cons (pe_lst pa_nil) pa_nil)))))
    (pss_cons (ps_if (PW.pt (pw_or (pt_val (pe_ix (r := rIxL K) ix_list (pv 5) pe_int (fun _ _ => rfl))) (pw_or1 (pt_val (pe_ix (r := rIxL K) ix_list (pv 5) pe_int (fun _ _ => rfl))))))
    (pss_one (ps_ret (pe_tup (pa_cons (pv 4) (pa_cons (pe_ifExp (pt_val (pe_ix (r := rIxL K) ix_list (pv 5) pe_int (fun _ _ => rfl))) pe_str pe_str) pa_nil)))))
    pss_nil)
    (pss_one (ps_set (i := 3) sc_law_boarded.nd rfl (.inl rfl) (pe_op op_cat (pv 3) (pe_lc (own := [("item", 6)]) rfl sc_law_boarded.nd (pi_tup (pv 1)) (blkOk_by (own := [("item", 6)]) (N := N_law_boarded) (sc := defScope s_law_boarded) (by decide +kernel)) (fun _ _ _ _ _ => (pg_name (i := 6) sc_law_boarded.nd rfl (.inl rfl))) (fun _ _ _ _ _ => (pts_one (pt_cmpR (r := rEqD K) (op_eqD hr.units) (pe_slice (r := Ln.rSlS K) sl_tupS (pv 2) (po_some (pv 4)) (po_some (pe_op op_add (pv 4) pe_int))) (pe_tup (pa_cons (pe_ix (r := rIxT K) ix_tup (pv 6) pe_int (fun _ _ => rfl)) pa_nil)) (nomark _)))) (fun _ _ _ _ _ => (pv 6)))))))))
    (pss_one (ps_ret pe_non)))), fun F0 H0 as k ke hl hw => ?_⟩
  obtain ⟨p, xs, zs, rfl, hp, hx, pm, so, q⟩ := hw
  change Ds _ [_, _, _, _, _, _, _] _ _ _
  walk_at "d"
  intro D0 hD0
  walk_at "d"
  have hzl : zs.length ≤ 60 := by
    have := pm.length_eq
    rw [List.length_map] at this
    have := hx.l
    omega
  have nd : zs.Nodup := pm.nodup_iff.mpr hx.n
  have hin : ∀ x ∈ xs, x.1 ∈ zs := fun x h => pm.mem_iff.mpr (List.mem_map_of_mem h)
  have zo : ∀ z ∈ zs, PyData.strOk z = true := fun z hz => by
    obtain ⟨x, hx', rfl⟩ := List.mem_map.mp (pm.mem_iff.mp hz)
    exact so x hx'
  refine ds_for ?_
  walk_at "d"
  refine ⟨⟨by rw [List.length_map]; omega, by rw [List.length_map]; omega⟩, fun i G' O' => (∃ D z4 z5 z6, H0 D = none ∧ G' = [.dat (plD p), .dat (itsD xs), .dat (.tuple (zs.map .str)), .ptr D, z4, z5, z6] ∧ ∃ O1, [(D, Ob.lst (((abd xs zs i).map itD).map Sv.dat))].Perm O1 ∧ O1.Sublist O') ∧ ∀ j < i, brdAt p xs zs j = none, ⟨⟨D0, _, _, _, hD0, rfl, _, List.Perm.refl _, List.Sublist.refl _⟩, by omega⟩, ?_, ?_⟩
  · rintro i d G' O' hd ⟨⟨D, z4, z5, z6, hD, rfl, hsub⟩, hall⟩
    have hi : i < zs.length + 1 := by
      have := (List.getElem?_eq_some_iff.mp hd).1
      rw [List.length_map, List.length_range, List.length_map] at this
      omega
    rw [mapI_get (by rw [List.length_map]; omega)] at hd
    cases hd
    walk_at "d1"
    refine ds_pick (O0 := [(D, Ob.lst (((abd xs zs i).map itD).map Sv.dat))]) hsub ?_
    have hal := abd_len hx.n (zs := zs) i
    have haz : ∀ x ∈ abd xs zs i, 0 ≤ x.2.1 ∧ x.2.1 ≤ 1000000 := fun x hm => by
      obtain ⟨z, _, h⟩ := List.mem_flatMap.mp hm
      exact (hx.z x (List.mem_filter.mp h).1).1
    refine ds_seq (ds_setL (dl_bor (i := 3) (n := 0) rfl rfl hD (dl_callP ?_)))
    change Da _ [_, _, _, _, _, _, _] [] _ _
    walk_at "d"
    refine ⟨p, abd xs zs i, _, [], rfl, .inr rfl, hp, by omega, haz, ⟨[.bool _, .bool _], rfl, rfl, fun D1 hD1 => ?_⟩⟩
    rw [abd_slack p nd hin true i, abd_slack p nd hin false i]
    change Ds _ [_, _, _, _, _, _, _] _ _ _
    refine ds_keepL 5 hD1 ?_
    walk_at "d"
    have at0 : ∀ b, brdAt p xs zs i = some (.tuple [.int (i : Int), sdD b]) → brdF p xs zs = .tuple [.int (i : Int), sdD b] := fun b e => by
      unfold brdF
      rw [find_hit (i := i) (x := i) (List.getElem?_range hi) (fun z hz => ?_) e]
      · rfl
      · rw [List.take_range, List.mem_range] at hz
        exact hall z (by omega)
    refine ⟨_, rfl, ⟨_, rfl, ?_⟩⟩
    refine ifP (fun h => ?_) (fun h => ?_)
    · walk_at "d"
      refine ⟨_, rfl, ⟨_, rfl, ?_⟩⟩
      refine ifT (decide_eq_true h) ?_
      walk_at "d"
      rw [at0 true (by unfold brdAt; rw [if_pos h])] at q
      exact q
    walk_at "d"
    refine ⟨_, rfl, ⟨_, rfl, ?_⟩⟩
    refine ifP (fun h2 => ?_) (fun h2 => ?_)
    · walk_at "d"
      refine ⟨_, rfl, ⟨_, rfl, ?_⟩⟩
      refine ifF (decide_eq_false h) ?_
      walk_at "d"
      rw [at0 false (by unfold brdAt; rw [if_neg h, if_pos h2])] at q
      exact q
    walk_at "d"
    refine dl_filt ?_
    walk_at "d"
    refine ⟨by have := hx.l; rw [List.length_map, sizeLine_eq]; omega, _, xs, itD, fun x => decide ((zs.drop i).take 1 = [x.1]), fun x => .dat (itD x), rfl, fun j x hj => ?_, ?_⟩
    · walk_at "d"
      refine ⟨_, rfl, ?_⟩
      walk_at "d"
      rw [cutD_one (by rw [List.length_map]; omega), ← List.map_drop, ← List.map_take]
      refine ⟨(Shp.tuple (n := 0) (g := PyData.str) fun x hx' => Shp.str (zo x (List.mem_of_mem_drop (List.mem_of_mem_take hx')))).shaped (by decide), (Shp.tuple (n := 0) (g := PyData.str) (xs := [x.1]) fun y hy => by rw [List.mem_singleton.mp hy]; exact Shp.str (so x (List.mem_of_getElem? hj))).shaped (by decide), ?_⟩
      have e : PyData.eqv (.tuple (((zs.drop i).take 1).map .str)) (.tuple [.str x.1]) = decide ((zs.drop i).take 1 = [x.1]) := eqv_strs _ [x.1]
      rw [e]
      refine ⟨_, rfl, rfl, fun _ => ?_⟩
      walk_at "d"
      rfl
    refine ⟨by have := hx.l; have := List.length_filter_le (fun x : Str × Int × Int => decide ((zs.drop i).take 1 = [x.1])) xs; rw [List.length_map, List.length_map, List.length_map, sizeLine_eq]; omega, fun D2 hD2 => ?_⟩
    have e : (((abd xs zs i).map itD).map Sv.dat ++ (xs.filter fun x => decide ((zs.drop i).take 1 = [x.1])).map fun x => Sv.dat (itD x)) = ((abd xs zs (i + 1)).map itD).map Sv.dat := by
      rw [← abd_next i, List.map_append, List.map_append, List.map_map (f := itD) (l := xs.filter _)]
      rfl
    rw [e]
    walk_at "d"
    refine ⟨⟨D2, _, _, _, hD2, rfl, _, List.Perm.refl _, List.Sublist.cons₂ _ (List.nil_sublist _)⟩, fun j hj => ?_⟩
    rcases Nat.lt_succ_iff_lt_or_eq.mp hj with hj | rfl
    · exact hall j hj
    · unfold brdAt
      rw [if_neg h, if_neg h2]
  · rintro G' O' ⟨⟨D, z4, z5, z6, hD, rfl, hsub⟩, hall⟩
    rw [List.length_map, List.length_range, List.length_map] at hall
    walk_at "d"
    have e2 : brdF p xs zs = .none := by
      unfold brdF
      rw [find_miss fun z hz => hall z (by have := List.mem_range.mp hz; omega)]
      rfl
    rw [e2] at q
    exact q
end
end Mine
set_option Elab.async false
set_option linter.all false
set_option maxRecDepth 100000
set_option maxHeartbeats 4000000
namespace Mine
open PySem PySem.Spec PyProof.Rows L2 Ln Dl RZ PySem.W
abbrev s_law_great_right : Stmt := topS 49
abbrev N_law_great_right : List Str := ["plane", "items", "most", "draws", "at", "told", "side", "turn", "names", "item", "rest"]
theorem sc_law_great_right : FnScope N_law_great_right ["plane", "items", "most", "draws", "at"] (defScope s_law_great_right) := ⟨rfl, rfl, rfl, by decide +kernel, rfl, by decide +kernel, by decide +kernel⟩
-- slots: 0 plane, 1 items, 2 most, 3 draws*, 4 at*, 5 told, 6 side, 7 turn, 8 names, 9 item, 10 rest
theorem sum_bd {B : Int} : ∀ {l : List Int}, (∀ x ∈ l, -B ≤ x ∧ x ≤ B) → -(B * l.length) ≤ l.sum ∧ l.sum ≤ B * l.length
  | [], _ => by simp
  | x :: l, h => by
    have h1 := h x List.mem_cons_self
    have h2 := sum_bd fun y hy => h y (List.mem_cons_of_mem _ hy)
    rw [List.sum_cons, List.length_cons]
    have e : B * ((l.length + 1 : Nat) : Int) = B * (l.length : Int) + B := by rw [Int.natCast_add, Int.mul_add]; simp
    omega
theorem pull_bd {p : Pl} {b : Bool} {m : Int × Int} (hw : 0 ≤ m.1 ∧ m.1 ≤ 1000000) (ha : -1000000 ≤ m.2 ∧ m.2 ≤ 1000000) (hp : GoodP p) : -2000000000000 ≤ pullF p b m ∧ pullF p b m ≤ 2000000000000 := by
  have go : ∀ d : Int, -2000000 ≤ d → d ≤ 2000000 → -2000000000000 ≤ m.1 * d ∧ m.1 * d ≤ 2000000000000 := by
    intro d d1 d2
    have h1 : (m.1 * d).natAbs = m.1.natAbs * d.natAbs := Int.natAbs_mul _ _
    have h2 : m.1.natAbs * d.natAbs ≤ 1000000 * 2000000 := Nat.mul_le_mul (by omega) (by omega)
    omega
  have hf := hp.f
  have ht := hp.t
  cases b
  · exact go (p.t - m.2) (by omega) (by omega)
  · exact go (m.2 - p.f) (by omega) (by omega)
theorem slack_bd {p : Pl} {xs : List (Str × Int × Int)} (hp : GoodP p) (hx : GoodI xs) (b : Bool) (ns : List Str) : (slackF p xs b ns).natAbs < 10 ^ 17 := by
  have h1 := pull_bd (b := b) ⟨by have := hp.w; omega, hp.w.2⟩ hp.a hp
  have h2 := sum_bd (B := 2000000000000) (l := (xs.filter fun x => !decide (x.1 ∈ ns)).map fun x => pullF p b x.2) fun y hy => by
    obtain ⟨x, hx', rfl⟩ := List.mem_map.mp hy
    have := hx.z x (List.mem_filter.mp hx').1
    exact pull_bd this.1 this.2 hp
  have h3 : ((xs.filter fun x => !decide (x.1 ∈ ns)).map fun x => pullF p b x.2).length ≤ 60 := by
    rw [List.length_map]
    exact Nat.le_trans (List.length_filter_le _ _) hx.l
  unfold slackF
  omega
theorem noLd_pl (p : Pl) : noLd (plD p) = true := rfl
theorem noLd_its (xs : List (Str × Int × Int)) : noLd (itsD xs) = true := by
  rw [noLd_tup]
  exact noLds_of fun d hd => by obtain ⟨x, _, rfl⟩ := List.mem_map.mp hd; rfl
theorem plD_inj {p q : Pl} (h : plD p = plD q) : p = q := by
  cases p; cases q
  injection h with h
  injection h with h1 h
  injection h with h2 h
  injection h with h3 h
  injection h1 with h1
  injection h1 with h4 h1
  injection h1 with h5 h1
  cases h2; cases h3
  rename_i m1 _ _ m2
  cases m1; cases m2
  cases h4; cases h5
  rfl
theorem awy_inv {p : Pl} {xs : List (Str × Int × Int)} {n : Nat} {b : Bool} (hx : GoodI xs) : (awyF p xs n b).length ≤ n ∧ (awyF p xs n b).Nodup ∧ ∀ z ∈ awyF p xs n b, z ∈ xs.map Prod.fst := by
  have s : (awyF p xs n b).Sublist (xs.map Prod.fst) := by
    unfold awyF awayF
    have e : xs.map Prod.fst = xs.zipIdx.map fun p => p.1.1 := by
      conv => lhs; rw [← List.zipIdx_map_fst 0 xs]
      rw [List.map_map]; rfl
    rw [e]
    exact List.filter_sublist.map _
  refine ⟨?_, hx.n.sublist s, fun z hz => s.subset hz⟩
  unfold awyF
  rw [← grow_names (xs := xs) (us := pullsF p xs b) (List.length_map _) n]
  unfold namesR
  rw [List.length_map]
  exact grow_len _ _
noncomputable abbrev tipD (p : Pl) (xs : List (Str × Int × Int)) (n : Nat) (b : Bool) : PyData := .tuple [.str "tipped", sdD b, .tuple ((awyF p xs n b).map .str)]
theorem bal_cases (p : Pl) (xs : List (Str × Int × Int)) (n : Nat) : (∃ b, balF p xs n = tipD p xs n b ∧ slF p xs n b < 0) ∨ balF p xs n = .tuple [.str "kept", .tuple [.int (slF p xs n true), .int (slF p xs n false)]] := by
  unfold balF
  split
  · exact .inl ⟨true, rfl, by assumption⟩
  · split
    · exact .inl ⟨false, rfl, by assumption⟩
    · exact .inr rfl
theorem strsOf_map (zs : List Str) : strsOf (zs.map .str) = zs := by
  unfold strsOf
  rw [List.map_map]
  exact List.map_id _
theorem acc_bal {p : Pl} {xs : List (Str × Int × Int)} {n : Nat} (hx : GoodI xs) : accR p xs n (balF p xs n) = none := by
  rcases bal_cases p xs n with ⟨b, e, h⟩ | e
  · rw [e]
    obtain ⟨a1, a2, a3⟩ := awy_inv (p := p) (n := n) (b := b) hx
    unfold accR
    have e1 : (rowB (tipD p xs n b) 2 && seq (el (tipD p xs n b) 0) (.str "kept")) = false := rfl
    have e2 : (rowB (tipD p xs n b) 3 && (seq (el (tipD p xs n b) 0) (.str "tipped") && (inD (el (tipD p xs n b) 1) [sdD true, sdD false] && tupB (el (tipD p xs n b) 2)))) = true := by
      show (true && (decide (Str.ofString "tipped" = Str.ofString "tipped") && (inD (sdD b) [sdD true, sdD false] && true))) = true
      cases b <;> decide +kernel
    have e3 : itemsL (el (tipD p xs n b) 2) = (awyF p xs n b).map .str := rfl
    have e4 : sideOf (el (tipD p xs n b) 1) = b := by
      show sideOf (sdD b) = b
      cases b <;> decide +kernel
    have e5 : awayB xs n ((awyF p xs n b).map .str) = true := by
      unfold awayB
      rw [strsOf_map, List.length_map]
      simp only [Bool.and_eq_true, decide_eq_true_eq, List.all_eq_true]
      refine ⟨a1, fun d hd => ?_, a2, fun z hz => a3 z hz⟩
      obtain ⟨z, _, rfl⟩ := List.mem_map.mp hd
      rfl
    rw [if_neg (by rw [e1]; decide), if_pos e2, e3, e4, if_pos e5, strsOf_map, if_neg (by show ¬ 0 ≤ slF p xs n b; omega)]
  · rw [e]
    unfold accR
    have e1 : (rowB (.tuple [.str "kept", .tuple [.int (slF p xs n true), .int (slF p xs n false)]]) 2 && seq (el (.tuple [.str "kept", .tuple [.int (slF p xs n true), .int (slF p xs n false)]]) 0) (.str "kept")) = true := by
      show (true && decide (Str.ofString "kept" = Str.ofString "kept")) = true
      decide +kernel
    rw [if_pos e1, e, if_pos]
    simp [sameB, sameBs, boolB, PyData.eqv]
theorem tok_bal {p : Pl} {xs : List (Str × Int × Int)} {n : Nat} (hx : GoodI xs) (hs : ∀ x ∈ xs, PyData.strOk x.1 = true) : TOk (balF p xs n) := by
  obtain ⟨b1, b2, b3⟩ := bal_ok (p := p) (n := n) hx.l hs
  rcases bal_cases p xs n with ⟨b, e, h⟩ | e
  · refine ⟨b1, ⟨b2.1, ?_⟩, ?_, ?_⟩
    · rw [e]
      have : (PyData.tuple ((awyF p xs n b).map .str)).depth ≤ 1 := (Shp.tuple (n := 0) (g := PyData.str) fun z hz => Shp.str (by
        obtain ⟨x, hx', rfl⟩ := List.mem_map.mp ((awy_inv hx).2.2 z hz)
        exact hs x hx')).2
      simp only [tipD, PyData.depth, PyData.depthAll] at *
      omega
    · rw [e]; rfl
    · rw [e]; exact fun _ => rfl
  · refine ⟨b1, ⟨b2.1, ?_⟩, ?_, ?_⟩
    · rw [e]; simp [PyData.depth, PyData.depthAll]
    · rw [e]; rfl
    · rw [e]
      exact fun h => absurd h (by show ¬ decide (Str.ofString "kept" = Str.ofString "tipped") = true; decide +kernel)
theorem keep_sl {p : Pl} {xs : List (Str × Int × Int)} {n : Nat} (b : Bool) (hx : GoodI xs) {ns : List Str} (h : ns.length ≤ n) : slF p xs n b ≤ sgn b (momF p (awyL xs ns) (plc p b)) := by
  rw [← slack_mom]
  exact slF_le p n b hx.n h
section
variable {P : Program} {w : World} {K : PySem.W.Frag} {mg : Str → Option Value} {base : Heap} {C CP fI fIP A0 : Addr}
theorem bal_go {k : Rs → Prop} {ke : Ke} {p : Pl} {xs : List (Str × Int × Int)} {n : Nat} (hp : GoodP p) (hx : GoodI xs) (hn : n ≤ 60) (q : k (.v (.dat (balF p xs n)))) : wBal C [.dat (plD p), .dat (itsD xs), .dat (.int (n : Int))] k ke := by
  refine ⟨_, _, _, rfl, noLd_pl p, noLd_its xs, rfl, (fun x e => by rw [reqL_good hp hx] at e; cases e), (fun _ e => ?_), fun pl xs' n' e1 e2 e3 _ _ _ => ?_⟩
  · have : withinB (.int (n : Int)) 0 60 = true := by simp [withinB]; omega
    rw [this] at e; cases e
  have e1 := plD_inj e1
  have e2 := itsD_inj e2
  have e3 : n = n' := by injection e3 with e3; omega
  subst e1 e2 e3
  exact q
theorem acc_go {k : Rs → Prop} {ke : Ke} {p : Pl} {xs : List (Str × Int × Int)} {n : Nat} {t : PyData} (hp : GoodP p) (hx : GoodI xs) (hs : ∀ x ∈ xs, PyData.strOk x.1 = true) (hn : n ≤ 60) (et : balF p xs n = t) (q : k (.v (.dat .none))) : wAcc C CP [.dat (plD p), .dat (itsD xs), .dat (.int (n : Int)), .dat t] k ke := by
  subst et
  refine ⟨_, _, _, _, rfl, noLd_pl p, noLd_its xs, rfl, tok_bal hx hs, (fun x e => by rw [reqL_good hp hx] at e; cases e), (fun _ e => ?_), fun pl xs' n' e1 e2 e3 _ _ _ => ?_⟩
  · have : withinB (.int (n : Int)) 0 60 = true := by simp [withinB]; omega
    rw [this] at e; cases e
  have e1 := plD_inj e1
  have e2 := itsD_inj e2
  have e3 : n = n' := by injection e3 with e3; omega
  subst e1 e2 e3
  exact ⟨hs, fun _ => q, fun x e => by rw [acc_bal hx] at e; cases e⟩
def wGreat : WtD := fun dr at_ as k _ => ∃ (p : Pl) (xs : List (Str × Int × Int)) (n : Nat), as = [.dat (plD p), .dat (itsD xs), .dat (.int (n : Int)), .ptr dr, .ptr at_] ∧ GoodP p ∧ GoodI xs ∧ (∀ x ∈ xs, PyData.strOk x.1 = true) ∧ n ≤ 60 ∧ k (.v (.dat (.bool true)))
theorem ok_great {f : Addr} {fd : FuncData} (F : Fun K "_law_great_right" "_law_great_right" s_law_great_right f fd) (T : DTxt mg) (c__law_take : Cg P w K mg base CX0 2 "_law_take" (spTake K)) (c__law_away : Cg P w K mg base CX0 1 "_law_away" (spP K 2 wLAway)) (c__law_moment : Cg P w K mg base CX0 1 "_law_moment" (spP K 3 wLMom)) (c__law_tips : Cg P w K mg base CX0 2 "_law_tips" (spP K 3 wLTips)) (c_balanced : Cg P w K mg base CX0 7 "balanced" (Ln.calm (spP K 3 (wBal C)))) (c_accept_balanced : Cg P w K mg base CX0 8 "accept_balanced" (Ln.calm (spP K 4 (wAcc C CP)))) : FnG P w K mg base CX0 9 f fd ["plane", "items", "most", "draws", "at"] (spD K 5 wGreat) := by
  refine okD F sc_law_great_right rfl fun cdv A outer s H E hG hr => ⟨_, (pss_cons (ps_set (i := 5) sc_law_great_right.nd rfl (.inl rfl) (pe_cg c_balanced hr (by decide) hG (by rfl) (pa_cons (pv 0) (pa_cons (pv 1) (pa_cons (pv 2) pa_nil)))))
    (pss_cons (ps_if (PW.pt (pw_or (pt_not (pt_val (pe_callB (r := rIsi K) (id := "isinstance") call_isi (by rfl) T.z_isinstance (by decide +kernel) (pa_cons (pv 5) (pa_cons (pe_bltn (v := .ty "tuple") (u := .type "tuple") (by rfl) T.z_tuple (by decide +kernel) rfl) pa_nil))))) (pw_or1 (pt_cmpR op_notN (pe_cg c_accept_balanced hr (by decide) hG (by rfl) (pa_cons (pv 0) (pa_cons (pv 1) (pa_cons (pv 2) (pa_cons (pv 5) pa_nil))))) pe_non (nomark _)))))
    (pss_one (ps_ret pe_bl))
    pss_nil)
    (pss_cons (ps_if (pt_cmpR op_eq (pe_ix (r := rIxT K) ix_tup (pv 5) pe_int (fun _ _ => rfl)) pe_str (nomark _))
    (pss_cons (ps_set (i := 6) sc_law_great_right.nd rfl (.inl rfl) (pe_bm PySem.F.plainAttrs_list PySem.F.slot_list_index PySem.F.type_list_index mt_index (pe_lst (pa_cons pe_str (pa_cons pe_str pa_nil))) (pa_cons (pe_ix (r := rIxT K) ix_tup (pv 5) pe_int (fun _ _ => rfl)) pa_nil)))
    (pss_one (ps_ret (pe_and (pe_cmpR op_le (pe_callB (r := Ln.rLen K) (id := "len") c_len (by rfl) T.z_len (by decide +kernel) (pa_cons (pe_ix (r := rIxT K) ix_tup (pv 5) pe_int (fun _ _ => rfl)) pa_nil)) (pv 2) (nomark _)) (pe_one (pe_ix (r := rIxL K) ix_list (pe_cg c__law_tips hr (by decide) hG (by rfl) (pa_cons (pv 0) (pa_cons (pv 1) (pa_cons (pe_callTy (r := Ln.rListOf K) (T := "list") c_list (by rfl) T.z_list (by decide +kernel) (pa_cons (pe_ix (r := rIxT K) ix_tup (pv 5) pe_int (fun _ _ => rfl)) pa_nil)) pa_nil)))) (pv 6) (fun _ _ => rfl)))))))
    pss_nil)
    (pss_cons (ps_for PassesOwn.never rfl (pi_range1 (by rfl) T.z_range (pa_cons pe_int pa_nil)) (pg_name (i := 7) sc_law_great_right.nd rfl (.inl rfl))
    (pss_cons (ps_set (i := 8) sc_law_great_right.nd rfl (.inl rfl) (pe_slice (r := rSlL K) sl_list (pe_lc (own := [("item", 9)]) rfl sc_law_great_right.nd (pi_tup (pv 1)) (blkOk_by (own := [("item", 9)]) (N := N_law_great_right) (sc := defScope s_law_great_right) (by decide +kernel)) (fun _ _ _ _ _ => (pg_name (i := 9) sc_law_great_right.nd rfl (.inl rfl))) (fun _ _ _ _ _ => (pts_one (pt_cmpR op_eq (pe_cg c__law_take hr (by decide) hG (by rfl) (pa_cons (pv 3) (pa_cons (pv 4) (pa_cons pe_int pa_nil)))) pe_int (nomark _)))) (fun _ _ _ _ _ => (pe_ix (r := rIxT K) ix_tup (pv 9) pe_int (fun _ _ => rfl)))) po_none (po_some (pv 2))))
    (pss_cons (ps_set (i := 10) sc_law_great_right.nd rfl (.inl rfl) (pe_cg c__law_away hr (by decide) hG (by rfl) (pa_cons (pv 1) (pa_cons (pv 8) pa_nil))))
    (pss_one (ps_if (PW.pt (pw_or (pt_cmpR op_gt (pe_ix (r := rIx K) ix_seq (pe_ix (r := rIxT K) ix_tup (pv 5) pe_int (fun _ _ => rfl)) pe_int (fun _ _ => rfl)) (pe_cg c__law_moment hr (by decide) hG (by rfl) (pa_cons (pv 0) (pa_cons (pv 10) (pa_cons (pe_ix (r := rIxT K) ix_tup (pv 0) pe_int (fun _ _ => rfl)) pa_nil)))) (nomark _)) (pw_or1 (pt_cmpR op_gt (pe_ix (r := rIx K) ix_seq (pe_ix (r := rIxT K) ix_tup (pv 5) pe_int (fun _ _ => rfl)) pe_int (fun _ _ => rfl)) (pe_op op_sub pe_int (pe_cg c__law_moment hr (by decide) hG (by rfl) (pa_cons (pv 0) (pa_cons (pv 10) (pa_cons (pe_ix (r := rIxT K) ix_tup (pv 0) pe_int (fun _ _ => rfl)) pa_nil))))) (nomark _)))))
    (pss_one (ps_ret pe_bl))
    pss_nil)))))
    (pss_one (ps_ret pe_bl)))))), fun dr at_ F0 H0 as k ke hl hw => ?_⟩
  obtain ⟨p, xs, n, rfl, hp, hx, hs, hn, q⟩ := hw
  change Ds _ [_, _, _, _, _, _, _, _, _, _, _] _ _ _
  walk_at "d"
  refine bal_go hp hx hn ?_
  walk_at "d"
  rcases bal_cases p xs n with ⟨b, e, hb⟩ | e
  · replace e : balF p xs n = .tuple [.str "tipped", sdD b, .tuple ((awyF p xs n b).map .str)] := e
    obtain ⟨a1, a2, a3⟩ := awy_inv (p := p) (n := n) (b := b) hx
    rw [e]
    walk_at "d"
    refine acc_go hp hx hs hn e ?_
    walk_at "d"
    refine ifF rfl ?_
    walk_at "d"
    refine ⟨_, rfl, ?_⟩
    walk_at "d"
    refine ifT (by decide +kernel) ?_
    walk_at "d"
    refine ⟨_, rfl, ?_⟩
    walk_at "d"
    obtain ⟨jj, hjj⟩ : ∃ jj : Nat, jj = if b = true then 0 else 1 := ⟨_, rfl⟩
    refine ⟨[sideS true, sideS false], jj, rfl, by subst hjj; cases b <;> rfl, fun m hm => ?_, ?_⟩
    · subst hjj
      cases b with
      | true => exact absurd hm (Nat.not_lt_zero m)
      | false =>
        have : m = 0 := by have hm : m < 1 := hm; omega
        subst this
        decide +kernel
    walk_at "d"
    refine ⟨_, rfl, ?_⟩
    walk_at "d"
    refine ifT (by rw [List.length_map]; exact decide_eq_true (by omega)) ?_
    walk_at "d"
    refine ⟨_, rfl, ?_⟩
    walk_at "d"
    refine ⟨_, rfl, ?_⟩
    walk_at "d"
    refine ⟨p, xs, _, awyF p xs n b, rfl, .inl rfl, hp, hx.l, fun x h => (hx.z x h).1, ⟨[.bool _, .bool _], rfl, ?_⟩⟩
    walk_at "d"
    refine ⟨.bool (decide (slackF p xs b (awyF p xs n b) < 0)), by subst hjj; cases b <;> rfl, ?_⟩
    rw [decide_eq_true (show slackF p xs b (awyF p xs n b) < 0 from hb)]
    walk_at "d"
    exact q
  · rw [e]
    walk_at "d"
    refine acc_go hp hx hs hn e ?_
    walk_at "d"
    refine ifF rfl ?_
    walk_at "d"
    refine ⟨_, rfl, ?_⟩
    walk_at "d"
    refine ifF (by decide +kernel) ?_
    walk_at "d"
    refine ds_for ?_
    walk_at "d"
    refine ⟨⟨by decide, by decide⟩, fun i G' O' => (∃ z6 z7 z8 z9 z10, G' = [.dat (plD p), .dat (itsD xs), .dat (.int (n : Int)), .ptr dr, .ptr at_, .dat (.tuple [.str "kept", .tuple [.int (slF p xs n true), .int (slF p xs n false)]]), z6, z7, z8, z9, z10]) ∧ O' = [], ⟨⟨_, _, _, _, _, rfl⟩, rfl⟩, ?_, ?_⟩
    · rintro i d G' O' hd ⟨⟨z6, z7, z8, z9, z10, rfl⟩, rfl⟩
      obtain ⟨turn, rfl⟩ : ∃ turn : Int, d = .int turn := by
        obtain ⟨j, _, rfl⟩ := List.mem_map.mp (List.mem_of_getElem? hd)
        exact ⟨_, rfl⟩
      clear hd
      walk_at "d1"
      refine ds_seq (ds_setL (dl_slK (dk_dl (dl_lc ?_))))
      walk_at "d"
      refine ⟨by have := hx.l; rw [List.length_map, sizeLine_eq]; omega, fun i acc => ∃ zs : List Str, acc = (zs.map PyData.str).map Sv.dat, ⟨[], rfl⟩, ?_, ?_⟩
      · rintro i d acc hd ⟨zs, rfl⟩
        rw [List.getElem?_map] at hd
        obtain ⟨it, hit, rfl⟩ := Option.map_eq_some_iff.mp hd
        walk_at "d"
        refine ⟨by omega, fun v v0 v1 => ?_⟩
        walk_at "d"
        refine ifP (fun _ => ?_) (fun _ => ?_)
        · walk_at "d"
          refine ⟨_, rfl, ?_⟩
          walk_at "d"
          exact ⟨zs ++ [it.1], by rw [List.map_append, List.map_append]; rfl⟩
        · exact ⟨zs, rfl⟩
      · rintro ss ⟨zs, rfl⟩
        walk_at "d"
        intro D hD
        rw [cutD_takeA, ← List.map_take, ← List.map_take]
        have hzl : (zs.take n).length ≤ n := by rw [List.length_take]; omega
        generalize zs.take n = ns at hzl
        change Ds _ [_, _, _, _, _, _, _, _, _, _, _] _ _ _
        refine ds_keep 8 hD ?_
        walk_at "d"
        refine ⟨xs, _, ns, rfl, .inl rfl, hx.l, (awyL xs ns).map itD, by rw [List.map_map]; rfl, ?_⟩
        have hz : ∀ x ∈ awyL xs ns, 0 ≤ x.2.1 ∧ x.2.1 ≤ 1000000 := fun x hx' => (hx.z x (List.mem_filter.mp hx').1).1
        walk_at "d"
        refine ⟨_, rfl, ?_⟩
        walk_at "d"
        refine ⟨_, rfl, ?_⟩
        walk_at "d"
        refine ⟨_, rfl, ?_⟩
        walk_at "d"
        refine ⟨p, awyL xs ns, _, _, rfl, .inr rfl, hp.w, hz, ?_⟩
        walk_at "d"
        have k1 : slF p xs n true ≤ momF p (awyL xs ns) p.f := keep_sl true hx hzl
        refine ifF (decide_eq_false (by omega)) ?_
        walk_at "d"
        refine ⟨_, rfl, ?_⟩
        walk_at "d"
        refine ⟨_, rfl, ?_⟩
        walk_at "d"
        refine ⟨_, rfl, ?_⟩
        walk_at "d"
        refine ⟨p, awyL xs ns, _, _, rfl, .inr rfl, hp.w, hz, ?_⟩
        walk_at "d"
        have k2 : slF p xs n false ≤ 0 - momF p (awyL xs ns) p.t := keep_sl false hx hzl
        refine ifF (decide_eq_false (by omega)) ?_
        walk_at "d"
        exact ⟨⟨_, _, _, _, _, rfl⟩, rfl⟩
    · rintro G' O' ⟨⟨z6, z7, z8, z9, z10, rfl⟩, rfl⟩
      walk_at "d"
      exact q
end
end Mine
set_option Elab.async false
set_option linter.all false
set_option maxRecDepth 100000
set_option maxHeartbeats 4000000
namespace Mine
open PySem PySem.Spec PyProof.Rows L2 Ln Dl RZ PySem.W
abbrev s_law : Stmt := topS 50
abbrev N_law : List Str := ["script", "draws", "at", "turn", "plane", "items", "most", "told", "names", "item", "order"]
theorem sc_law : FnScope N_law ["script"] (defScope s_law) := ⟨rfl, rfl, rfl, by decide +kernel, rfl, by decide +kernel, by decide +kernel⟩
-- slots: 0 script, 1 draws, 2 at, 3 turn, 4 plane, 5 items, 6 most, 7 told, 8 names, 9 item, 10 order
structure LawTop (mg : Str → Option Value) : Prop extends DTxt mg
def spLaw (K : PySem.W.Frag) : Sp := fun vs H Q _ => ∃ (a : Addr) (ns : List Int), vs = [.ref a] ∧ SqL K H a (ns.map V.int) ∧ ns.length ≤ 63 ∧ ∀ H', Q (.bl true) H'
theorem inm_sl {i : Nat} (hi : i < 61) : Sl (.str (inm i)) 0 100 := by
  have : ∀ i < 61, (inm i).length ≤ 100 ∧ ((inm i).cps.toList.all fun c => decide (c < 16 ^ 8)) = true ∧ PyData.canLay0 (.str (inm i)) = true := by decide +kernel
  obtain ⟨a, b, c⟩ := this i hi
  exact Sl.str a b c
theorem sd_sl (b : Bool) : Sl (sdD b) 0 100 := by
  cases b
  · exact Sl.str (by decide +kernel) (by decide +kernel) (by decide +kernel)
  · exact Sl.str (by decide +kernel) (by decide +kernel) (by decide +kernel)
theorem bal_shw {p : Pl} {xs : List (Str × Int × Int)} {n : Nat} (hp : GoodP p) (hx : GoodI xs) (hm : ∀ x ∈ xs, ∃ i < 61, x.1 = inm i) : Shw (balF p xs n) := by
  have ns : ∀ b, Sl (.tuple ((awyF p xs n b).map .str)) 1 (101 * 60) := fun b => Sl.tup (fun d hd => by
    obtain ⟨z, hz, rfl⟩ := List.mem_map.mp hd
    obtain ⟨x, hx', rfl⟩ := List.mem_map.mp ((awy_inv hx).2.2 z hz)
    obtain ⟨i, hi, e⟩ := hm x hx'
    rw [e]
    exact inm_sl hi) (by
    rw [List.length_map]
    have := List.Nodup.length_le_of_subset (awy_inv (p := p) (n := n) (b := b) hx).2.1 (awy_inv (p := p) (n := n) (b := b) hx).2.2
    rw [List.length_map] at this
    exact Nat.le_trans this hx.l)
  have si : ∀ b, Sl (.int (slF p xs n b)) 0 100 := fun b => Sl.int (Nat.lt_trans (slack_bd hp hx b _) (by decide))
  rcases bal_cases p xs n with ⟨b, e, _⟩ | e
  · rw [e]
    refine Sl.shw (k := 2) (m := 6061 * 3) (Sl.tup (k := 1) (m := 6060) (n := 3) (fun d hd => ?_) (Nat.le_refl _)) (by decide) (by decide)
    simp only [List.mem_cons, List.not_mem_nil, or_false] at hd
    rcases hd with rfl | rfl | rfl
    · exact (Sl.str (by decide +kernel) (by decide +kernel) (by decide +kernel)).mono (Nat.zero_le _) (by decide)
    · exact (sd_sl b).mono (Nat.zero_le _) (by decide)
    · exact ns b
  · rw [e]
    refine Sl.shw (k := 2) (m := 303 * 2) (Sl.tup (k := 1) (m := 302) (n := 2) (fun d hd => ?_) (Nat.le_refl _)) (by decide) (by decide)
    simp only [List.mem_cons, List.not_mem_nil, or_false] at hd
    rcases hd with rfl | rfl
    · exact (Sl.str (by decide +kernel) (by decide +kernel) (by decide +kernel)).mono (Nat.zero_le _) (by decide)
    · refine (Sl.tup (k := 0) (m := 100) (n := 2) (fun d hd => ?_) (Nat.le_refl _)).mono (Nat.le_refl _) (by decide)
      simp only [List.mem_cons, List.not_mem_nil, or_false] at hd
      rcases hd with rfl | rfl
      · exact si true
      · exact si false
theorem brd_shw {p : Pl} {xs : List (Str × Int × Int)} {zs : List Str} (hz : zs.length ≤ 60) : Shw (brdF p xs zs) := by
  have tup : ∀ (i : Nat) b, i ≤ 60 → Shw (.tuple [.int (i : Int), sdD b]) := fun i b hi => by
    refine Sl.shw (k := 1) (m := 101 * 2) (Sl.tup (k := 0) (m := 100) (n := 2) (fun d hd => ?_) (Nat.le_refl _)) (by decide) (by decide)
    simp only [List.mem_cons, List.not_mem_nil, or_false] at hd
    rcases hd with rfl | rfl
    · exact Sl.int (by rw [Int.natAbs_natCast]; omega)
    · exact sd_sl b
  unfold brdF
  cases e : (List.range (zs.length + 1)).findSome? (brdAt p xs zs) with
  | none => exact Sl.none.shw (by decide) (by decide)
  | some d =>
    obtain ⟨i, hi, h⟩ := List.exists_of_findSome?_eq_some e
    have hi := List.mem_range.mp hi
    unfold brdAt at h
    split at h
    · cases h; exact tup i true (by omega)
    · split at h
      · cases h; exact tup i false (by omega)
      · cases h
section
variable {P : Program} {w : World} {K : PySem.W.Frag} {mg : Str → Option Value} {base : Heap} {C CP fI fIP A0 : Addr}
theorem map_str_inj {zs zs' : List Str} (h : PyData.tuple (zs.map .str) = .tuple (zs'.map .str)) : zs = zs' := by
  injection h with h
  rw [← strsOf_map zs, ← strsOf_map zs', h]
theorem brd_go {k : Rs → Prop} {ke : Ke} {p : Pl} {xs : List (Str × Int × Int)} {zs : List Str} (hp : GoodP p) (hx : GoodI xs) (hs : ∀ x ∈ xs, PyData.strOk x.1 = true) (pm : zs.Perm (xs.map Prod.fst)) (q : k (.v (.dat (brdF p xs zs)))) : wBrd C [.dat (plD p), .dat (itsD xs), .dat (.tuple (zs.map .str))] k ke := by
  have nl : zs.length ≤ 60 := by
    have := pm.length_eq
    rw [List.length_map] at this
    have := hx.l
    omega
  have zo : ∀ z ∈ zs, PyData.strOk z = true := fun z hz => by
    obtain ⟨x, hx', rfl⟩ := List.mem_map.mp (pm.mem_iff.mp hz)
    exact hs x hx'
  refine ⟨_, _, _, rfl, noLd_pl p, noLd_its xs, ?_, ?_, fun ds e => ?_, (fun x e => by rw [reqL_good hp hx] at e; cases e), fun pl xs' e1 e2 _ _ => ?_⟩
  · rw [noLd_tup]
    exact noLds_of fun d hd => by obtain ⟨x, _, rfl⟩ := List.mem_map.mp hd; rfl
  · have h : Shp 1 (.tuple (zs.map .str)) := Shp.tuple fun x hx' => Shp.str (zo x hx')
    exact ⟨h.1, Nat.le_trans h.2 (by decide)⟩
  · injection e with e
    rw [← e, List.length_map]; omega
  have e1 := plD_inj e1
  have e2 := itsD_inj e2
  subst e1 e2
  refine ⟨hs, fun e => ?_, fun zs' e _ => ?_⟩
  · have : orderB xs (.tuple (zs.map .str)) = true := by
      show ((zs.map PyData.str).all strB && decide ((strsOf (zs.map .str)).Perm (xs.map Prod.fst))) = true
      rw [strsOf_map, decide_eq_true pm, Bool.and_true, List.all_eq_true]
      intro d hd
      obtain ⟨x, _, rfl⟩ := List.mem_map.mp hd
      rfl
    rw [this] at e; cases e
  · rw [← map_str_inj e]; exact q
theorem erase_map {α β : Type} (f : α → β) : ∀ (l : List α) (i : Nat), (l.map f).eraseIdx i = (l.eraseIdx i).map f
  | [], _ => rfl
  | _ :: _, 0 => rfl
  | a :: l, i + 1 => by
    show f a :: (l.map f).eraseIdx i = f a :: (l.eraseIdx i).map f
    rw [erase_map f l i]
theorem erase_perm {α : Type} : ∀ {l : List α} {i : Nat} (h : i < l.length), (l[i] :: l.eraseIdx i).Perm l
  | a :: l, 0, _ => List.Perm.refl _
  | a :: l, i + 1, h => by
    have hi : i < l.length := by simpa using h
    have ih := erase_perm (l := l) (i := i) hi
    show (l[i] :: a :: l.eraseIdx i).Perm (a :: l)
    exact (List.Perm.swap _ _ _).trans (ih.cons a)
theorem ixN_at {n j : Nat} (hj : j < n) : ixN n (j : Int) = some j := by
  unfold ixN
  rw [if_pos (by omega), if_pos (by omega), Int.toNat_natCast]
def wLArm : Wt := fun as k _ => ∃ (p : Pl), as = [.dat (plD p)] ∧ k (.v (.dat (.bool (decide (-1000000 ≤ p.m.2) && decide (p.m.2 ≤ 1000000)))))
theorem ok_larm {f : Addr} {fd : FuncData} (F : Fun K "_law_arm_right" "_law_arm_right" s_law_arm_right f fd) : FnG P w K mg base CX0 1 f fd ["plane"] (spP K 1 wLArm) := by
  refine okP F sc_law_arm_right rfl fun cdv A outer s H E hG hr => ⟨_, (pss_one (ps_ret (pe_chain op_le op_le (pe_un un_neg pe_int) (pe_ix (r := rIxT K) ix_tup (pe_ix (r := rIxT K) ix_tup (pv 0) pe_int (fun _ _ => rfl)) pe_int (fun _ _ => rfl)) pe_int))), fun F0 H0 as k ke hl hw => ?_⟩
  obtain ⟨p, rfl, q⟩ := hw
  change Ds _ [_] _ _ _
  walk_at "d"
  refine ⟨_, rfl, ?_⟩
  walk_at "d"
  refine ⟨_, rfl, ?_⟩
  walk_at "d"
  refine ifB (fun h => ?_) (fun h => ?_)
  · rw [h] at q
    walk_at "d"
    exact q
  · rw [h] at q
    exact q
theorem ok_law {f : Addr} {fd : FuncData} (F : Fun K "law" "law" s_law f fd) (T : LawTop mg) (c__law_draws : Cg P w K mg base CX0 1 "_law_draws" (spDraws K)) (c__law_take : Cg P w K mg base CX0 2 "_law_take" (spTake K)) (c__law_one : Cg P w K mg base CX0 3 "_law_one" (spOne K))
    (c__law_plane : Cg P w K mg base CX0 5 "_law_plane" (spD K 2 wLPlane)) (c__law_items : Cg P w K mg base CX0 5 "_law_items" (spD K 3 wLItems)) (c__law_arm_right : Cg P w K mg base CX0 1 "_law_arm_right" (spP K 1 wLArm)) (c_balanced : Cg P w K mg base CX0 7 "balanced" (Ln.calm (spP K 3 (wBal C)))) (c_accept_balanced : Cg P w K mg base CX0 8 "accept_balanced" (Ln.calm (spP K 4 (wAcc C CP))))
    (c_boarded : Cg P w K mg base CX0 7 "boarded" (Ln.calm (spP K 3 (wBrd C)))) (c__law_due : Cg P w K mg base CX0 4 "_law_due" (spP K 3 wLDue)) (c__law_boarded : Cg P w K mg base CX0 3 "_law_boarded" (spP K 3 wLBrd)) (c__law_great_right : Cg P w K mg base CX0 9 "_law_great_right" (spD K 5 wGreat)) : FnG P w K mg base CX0 10 f fd ["script"] (spLaw K) := by
  refine okG F sc_law (fun vs H Q E h => ?_) (fun cdv A outer s H vs Q E hG hr h => ?_)
  · obtain ⟨a, ns, rfl, _⟩ := h
    rfl
  · obtain ⟨a, ns, rfl, hS, hlen, q⟩ := h
    refine ⟨_, (pss_cons (ps_set (i := 1) sc_law.nd rfl (.inl rfl) (pe_cg c__law_draws hr (by decide) hG (by rfl) (pa_cons (pv 0) pa_nil)))
    (pss_cons (ps_set (i := 2) sc_law.nd rfl (.inl rfl) (pe_lst (pa_cons pe_int pa_nil)))
    (pss_cons (ps_for PassesOwn.never rfl (pi_range1 (by rfl) T.z_range (pa_cons pe_int pa_nil)) (pg_name (i := 3) sc_law.nd rfl (.inl rfl))
    (pss_cons (ps_set (i := 4) sc_law.nd rfl (.inl rfl) (pe_cg c__law_plane hr (by decide) hG (by rfl) (pa_cons (pv 1) (pa_cons (pv 2) pa_nil))))
    (pss_one (ps_if (pt_val (pe_cg c__law_arm_right hr (by decide) hG (by rfl) (pa_cons (pv 4) pa_nil)))
    (pss_cons (ps_set (i := 5) sc_law.nd rfl (.inl rfl) (pe_cg c__law_items hr (by decide) hG (by rfl) (pa_cons (pe_ix (r := rIxL K) ix_list (pe_lst (pa_cons pe_int (pa_cons pe_int (pa_cons pe_int pa_nil)))) (pe_cg c__law_take hr (by decide) hG (by rfl) (pa_cons (pv 1) (pa_cons (pv 2) (pa_cons pe_int pa_nil)))) (fun _ _ => rfl)) (pa_cons (pv 1) (pa_cons (pv 2) pa_nil)))))
    (pss_cons (ps_set (i := 6) sc_law.nd rfl (.inl rfl) (pe_cg c__law_one hr (by decide) hG (by rfl) (pa_cons (pe_lst (pa_cons pe_int (pa_cons pe_int (pa_cons pe_int (pa_cons pe_int (pa_cons pe_int pa_nil)))))) (pa_cons (pv 1) (pa_cons (pv 2) pa_nil)))))
    (pss_cons (ps_set (i := 7) sc_law.nd rfl (.inl rfl) (pe_cg c_balanced hr (by decide) hG (by rfl) (pa_cons (pv 4) (pa_cons (pv 5) (pa_cons (pv 6) pa_nil)))))
    (pss_cons (ps_if (PW.pt (pw_or (pt_cmpR op_ne (pe_callB (r := Ln.rReprD K) (id := "repr") (c_repr hG hr.units) (by rfl) T.z_repr (by decide +kernel) (pa_cons (pv 7) pa_nil)) (pe_callB (r := Ln.rReprD K) (id := "repr") (c_repr hG hr.units) (by rfl) T.z_repr (by decide +kernel) (pa_cons (pe_cg c__law_due hr (by decide) hG (by rfl) (pa_cons (pv 4) (pa_cons (pv 5) (pa_cons (pv 6) pa_nil)))) pa_nil)) (nomark _)) (pw_or1 (pt_cmpR op_notN (pe_cg c_accept_balanced hr (by decide) hG (by rfl) (pa_cons (pv 4) (pa_cons (pv 5) (pa_cons (pv 6) (pa_cons (pv 7) pa_nil))))) pe_non (nomark _)))))
    (pss_one (ps_ret pe_bl))
    pss_nil)
    (pss_cons (ps_setLc (i := 8) (own := [("item", 9)]) rfl sc_law.nd rfl rfl (sw_true rfl rfl rfl (by decide +kernel)) (pi_tup (pv 5)) (blkOk_by (own := [("item", 9)]) (N := N_law) (sc := defScope s_law) (by decide +kernel)) (fun _ _ _ _ _ => (pg_name (i := 9) sc_law.nd rfl (.inl rfl))) (fun _ _ _ _ _ => pts_nil) (fun _ _ _ _ _ => (pe_ix (r := rIxT K) ix_tup (pv 9) pe_int (fun _ _ => rfl))))
    (pss_cons (ps_set (i := 10) sc_law.nd rfl (.inl rfl) (pe_lst pa_nil))
    (pss_cons (ps_while PassesOwn.never (pt_cmpR (r := rNeD K) (op_neD hr.units) (pv 8) (pe_lst pa_nil) (nomark _))
    (pss_one (ps_expr (pe_bm PySem.F.plainAttrs_list PySem.F.slot_list_append PySem.F.type_list_append mt_append (pv 10) (pa_cons (pe_bm PySem.F.plainAttrs_list PySem.F.slot_list_pop PySem.F.type_list_pop mt_popAt (pv 8) (pa_cons (pe_cg c__law_take hr (by decide) hG (by rfl) (pa_cons (pv 1) (pa_cons (pv 2) (pa_cons (pe_callB (r := Ln.rLen K) (id := "len") c_len (by rfl) T.z_len (by decide +kernel) (pa_cons (pv 8) pa_nil)) pa_nil)))) pa_nil)) pa_nil)))))
    (pss_cons (ps_if (pt_cmpR op_ne (pe_callB (r := Ln.rReprD K) (id := "repr") (c_repr hG hr.units) (by rfl) T.z_repr (by decide +kernel) (pa_cons (pe_cg c_boarded hr (by decide) hG (by rfl) (pa_cons (pv 4) (pa_cons (pv 5) (pa_cons (pe_callTy (r := Ln.rTupOf K) (T := "tuple") c_tuple (by rfl) T.z_tuple (by decide +kernel) (pa_cons (pv 10) pa_nil)) pa_nil)))) pa_nil)) (pe_callB (r := Ln.rReprD K) (id := "repr") (c_repr hG hr.units) (by rfl) T.z_repr (by decide +kernel) (pa_cons (pe_cg c__law_boarded hr (by decide) hG (by rfl) (pa_cons (pv 4) (pa_cons (pv 5) (pa_cons (pe_callTy (r := Ln.rTupOf K) (T := "tuple") c_tuple (by rfl) T.z_tuple (by decide +kernel) (pa_cons (pv 10) pa_nil)) pa_nil)))) pa_nil)) (nomark _))
    (pss_one (ps_ret pe_bl))
    pss_nil)
    (pss_one (ps_if (pt_not (pt_val (pe_cg c__law_great_right hr (by decide) hG (by rfl) (pa_cons (pv 4) (pa_cons (pe_cg c__law_items hr (by decide) hG (by rfl) (pa_cons pe_int (pa_cons (pv 1) (pa_cons (pv 2) pa_nil)))) (pa_cons (pe_cg c__law_take hr (by decide) hG (by rfl) (pa_cons (pv 1) (pa_cons (pv 2) (pa_cons pe_int pa_nil)))) (pa_cons (pv 1) (pa_cons (pv 2) pa_nil))))))))
    (pss_one (ps_ret pe_bl))
    pss_nil))))))))))
    pss_nil))))
    (pss_one (ps_ret pe_bl))))), ?_⟩
    refine law_start (m := 8) (E := { nx := fun _ _ => False, rt := fun r => r = .v (.dat (.bool true)) }) rfl hS hlen (fun dr at_ F0 H0 => ?_) (fun v H' e => ?_) (fun r e => ⟨true, e⟩) (fun _ _ z => z) (fun _ _ z => z) (fun _ _ z => z)
    · change Ds _ [_, _, _, _, _, _, _, _, _, _, _] _ _ _
      walk_at "d"
      refine ds_for ?_
      walk_at "d"
      refine ⟨⟨by decide, by decide⟩, fun i G' O' => (∃ z3 z4 z5 z6 z7 z8 z9 z10, G' = [.any, .ptr dr, .ptr at_, z3, z4, z5, z6, z7, z8, z9, z10]) ∧ O' = [], ⟨⟨_, _, _, _, _, _, _, _, rfl⟩, rfl⟩, ?_, ?_⟩
      · rintro i d G' O' hd ⟨⟨z3, z4, z5, z6, z7, z8, z9, z10, rfl⟩, rfl⟩
        obtain ⟨turn, rfl⟩ : ∃ turn : Int, d = .int turn := by
          obtain ⟨j, _, rfl⟩ := List.mem_map.mp (List.mem_of_getElem? hd)
          exact ⟨_, rfl⟩
        clear hd
        walk_at "d"
        refine ⟨rfl, fun p hp => ?_⟩
        walk_at "d"
        refine ⟨p, rfl, ?_⟩
        walk_at "d"
        refine ifB (fun h => ?_) (fun h => ?_)
        · have ha : -1000000 ≤ p.m.2 ∧ p.m.2 ≤ 1000000 := by simpa using h
          have gp := hp.good ha
          walk_at "d"
          refine ⟨by omega, fun v v0 v1 => ?_⟩
          obtain ⟨m, em, m0, m1⟩ : ∃ m : Int, atI [PyData.int 3, .int 7, .int 10] v = some (.int m) ∧ 0 ≤ m ∧ m ≤ 10 := by
            have : v = 0 ∨ v = 1 ∨ v = 2 := by omega
            rcases this with rfl | rfl | rfl
            · exact ⟨3, rfl, by decide, by decide⟩
            · exact ⟨7, rfl, by decide, by decide⟩
            · exact ⟨10, rfl, by decide, by decide⟩
          walk_at "d"
          refine ⟨_, em, ?_⟩
          walk_at "d"
          refine ⟨m, rfl, by omega, by omega, fun xs hxs => ?_⟩
          have gi := hxs.good (by omega)
          have gs := hxs.ok (by omega)
          have hxl : xs.length ≤ 10 := by have := hxs.l; omega
          have hmm : ∀ x ∈ xs, ∃ i < 61, x.1 = inm i := fun x hx => by
            have : x.1 ∈ xs.map Prod.fst := List.mem_map_of_mem hx
            rw [hxs.n] at this
            obtain ⟨i, hi, e⟩ := List.mem_map.mp this
            exact ⟨i, by have := List.mem_range.mp hi; omega, e.symm⟩
          clear em hxs
          walk_at "d"
          refine ⟨Nat.zero_lt_succ _, fun md hmd => ?_⟩
          obtain ⟨n, rfl, hn⟩ : ∃ n : Nat, md = .int (n : Int) ∧ n ≤ 60 := by
            simp only [List.mem_cons, List.not_mem_nil, or_false] at hmd
            rcases hmd with rfl | rfl | rfl | rfl | rfl
            · exact ⟨0, rfl, by decide⟩
            · exact ⟨1, rfl, by decide⟩
            · exact ⟨2, rfl, by decide⟩
            · exact ⟨3, rfl, by decide⟩
            · exact ⟨60, rfl, by decide⟩
          clear hmd
          walk_at "d"
          refine bal_go gp gi hn ?_
          have sb := bal_shw (n := n) gp gi hmm
          walk_at "d"
          refine ⟨sb, ?_⟩
          walk_at "d"
          refine ⟨p, xs, n, rfl, gp, gi, hxl, hn, ?_⟩
          walk_at "d"
          refine ⟨sb, ?_⟩
          walk_at "d"
          refine ifF (by simp) ?_
          walk_at "d"
          refine acc_go gp gi gs hn rfl ?_
          walk_at "d"
          refine ifF rfl ?_
          walk_at "d"
          refine dl_map ?_
          walk_at "d"
          refine ⟨by rw [List.length_map, sizeLine_eq]; omega, _, xs, itD, fun x => .dat (.str x.1), rfl, fun j x hj => ?_, ?_⟩
          · walk_at "d"
            refine ⟨_, rfl, ?_⟩
            walk_at "d"
            rfl
          intro D8 hD8
          have e8 : xs.map (fun x => Sv.dat (.str x.1)) = ((xs.map Prod.fst).map PyData.str).map Sv.dat := by
            rw [List.map_map, List.map_map]; rfl
          rw [e8]
          walk_at "d"
          intro D10 hD10
          walk_at "d1"
          have so : ∀ z ∈ xs.map Prod.fst, PyData.strOk z = true := fun z hz => by
            obtain ⟨x, hx, rfl⟩ := List.mem_map.mp hz
            exact gs x hx
          have nl : (xs.map Prod.fst).length ≤ 60 := by rw [List.length_map]; omega
          generalize hN : xs.map Prod.fst = ns0 at so nl
          refine ds_seq (ds_while (fun m G' O' => ∃ (os ns : List Str) (z9 : Sv), m = ns.length ∧ (os ++ ns).Perm ns0 ∧ G' = [.any, .ptr dr, .ptr at_, .dat (.int turn), .dat (plD p), .dat (itsD xs), .dat (.int (n : Int)), .dat (balF p xs n), .ptr D8, z9, .ptr D10] ∧ O' = [(D10, .lst ((os.map PyData.str).map Sv.dat)), (D8, .lst ((ns.map PyData.str).map Sv.dat))]) ⟨_, [], ns0, _, rfl, List.Perm.refl _, rfl, rfl⟩ ?_)
          rintro m' G' O' ⟨os, ns, z9, rfl, pm, rfl, rfl⟩
          have hl := pm.length_eq
          rw [List.length_append] at hl
          have sh : SeqAt.shaped (.list (ns.map PyData.str)) = true := (Shp.list (n := 0) (g := PyData.str) fun z hz => Shp.str (so z (pm.mem_iff.mp (List.mem_append_right _ hz)))).shaped (by decide)
          refine dt_bor (i := 8) (n := 1) rfl rfl hD8 ?_
          change Dt _ [_, _, _, _, _, _, _, _, _, _, _] [_] _ _
          walk_at "d"
          refine ⟨sh, rfl, ⟨_, rfl, ?_⟩⟩
          by_cases hns : ns = []
          · subst hns
            refine ifF (by simp [PyData.eqv, PyData.eqvAll]) ?_
            rw [List.append_nil] at pm
            change Ds _ [_, _, _, _, _, _, _, _, _, _, _] [_, _] _ _
            refine ds_keep 10 hD10 ?_
            refine ds_less (List.nil_sublist _) ?_
            subst hN
            have bs := brd_shw (p := p) (xs := xs) (zs := os) (by have := pm.length_eq; omega)
            walk_at "d"
            refine brd_go gp gi gs pm ?_
            walk_at "d"
            refine ⟨bs, ?_⟩
            walk_at "d"
            refine ⟨p, xs, os, rfl, gp, gi, pm, gs, ?_⟩
            walk_at "d"
            refine ⟨bs, ?_⟩
            walk_at "d"
            refine ifF (by simp) ?_
            walk_at "d"
            refine ⟨60, rfl, by omega, by omega, fun ys hys => ?_⟩
            walk_at "d"
            refine ⟨by omega, fun v v0 v1 => ?_⟩
            walk_at "d"
            refine ⟨p, ys, v.toNat, by rw [Int.toNat_of_nonneg v0], gp, hys.good (by decide), hys.ok (by decide), by omega, ?_⟩
            walk_at "d"
            exact ⟨⟨_, _, _, _, _, _, _, _, rfl⟩, rfl⟩
          · refine ifT (by cases ns with | nil => exact absurd rfl hns | cons a l => simp [PyData.eqv, PyData.eqvAll]) ?_
            have hnl : 0 < ns.length := List.length_pos_iff.mpr hns
            refine ds_appPop (i := 10) (j := 8) (n := 0) (m := 1) rfl rfl rfl rfl (by decide) (by rw [List.length_map, List.length_map, sizeLine_eq]; omega) ?_
            walk_at "d"
            refine ⟨by rw [List.length_map, List.length_map]; omega, fun v v0 v1 => ?_⟩
            rw [List.length_map, List.length_map] at v1
            obtain ⟨j, rfl⟩ : ∃ j : Nat, v = (j : Int) := ⟨v.toNat, (Int.toNat_of_nonneg v0).symm⟩
            have hj : j < ns.length := by omega
            walk_at "d"
            refine ⟨by omega, by omega, j, .dat (.str ns[j]), ixN_at (by rw [List.length_map, List.length_map]; exact hj), by rw [List.getElem?_map, List.getElem?_map, List.getElem?_eq_getElem hj]; rfl, ns.length - 1, by omega, os ++ [ns[j]], ns.eraseIdx j, z9, by rw [List.length_eraseIdx_of_lt hj], ?_, rfl, ?_⟩
            · rw [List.append_assoc]
              exact ((erase_perm hj).append_left os).trans pm
            · show [(D10, Ob.lst ((os.map PyData.str).map Sv.dat ++ [Sv.dat (.str ns[j])])), (D8, Ob.lst (((ns.map PyData.str).map Sv.dat).eraseIdx j))] = _
              rw [erase_map, erase_map, List.map_append, List.map_append]
              rfl
        · walk_at "d"
          exact ⟨⟨_, _, _, _, _, _, _, _, rfl⟩, rfl⟩
      · rintro G' O' ⟨⟨z3, z4, z5, z6, z7, z8, z9, z10, rfl⟩, rfl⟩
        walk_at "d"
        rfl
    · cases e
      exact q H'
end
end Mine
set_option Elab.async false
set_option linter.all false
set_option maxRecDepth 100000
set_option maxHeartbeats 16000000
namespace Mine
open PySem PySem.Spec PyProof.Rows L2 Ln Dl
theorem exm_self {K : PySem.W.Frag} {S : Addr} (h1 : PySem.W.subIn K (.ref S) (.type "BaseException") = some true) (h2 : PySem.W.isClsIn K S = true) (h3 : PySem.W.typeIn K (.ref S) = some (.type "type"))
    (h4 : PySem.W.subIn K (.ref S) (.ref S) = some true) : PySem.W.exmOne K (.ref S) (.ref S) = some true := by
  have e2 : ((PySem.W.clsIn K S).isSome && PySem.W.typeIn K (.ref S) == some (.type "type")) = true := by
    have h2' : (PySem.W.clsIn K S).isSome = true := h2
    rw [h2', h3] <;> rfl
  have e1 : (PySem.W.subIn K (.ref S) (.type "BaseException") == some true) = true := by rw [h1] <;> rfl
  show ite ((PySem.W.subIn K (.ref S) (.type "BaseException") == some true) = true) (ite (((PySem.W.clsIn K S).isSome && PySem.W.typeIn K (.ref S) == some (.type "type")) = true) (PySem.W.subIn K (.ref S) (.ref S)) none) none = some true
  rw [if_pos e1, if_pos e2]
  exact h4
theorem all_mk {l : PySem.W.OpenLaw} {w : World} {K : PySem.W.Frag} {h : Heap} {mg : Str → Option Value} {fa : Addr} (X : K.In h) (G : h.Ns mainGlobals mg) (hfa : mg "law" = some (.ref fa))
    {C_ArgumentError fI_ArgumentError N_ArgumentError : Addr} {nm_ArgumentError q_ArgumentError : Str} {bs_ArgumentError : List Value} {sn_ArgumentError : List Str} {sub_ArgumentError : List Value} {ab_ArgumentError : Bool} {col_ArgumentError : Option Bool} {dd_ArgumentError : Option Addr} {m0_ArgumentError m1_ArgumentError m2_ArgumentError m3_ArgumentError m5_ArgumentError : Option Value}
    {B0_ArgumentError : Addr}
    {oc_ArgumentError kV_ArgumentError dc_ArgumentError pm_ArgumentError cd_ArgumentError ct_ArgumentError : Value} {od_ArgumentError an_ArgumentError : Option Addr} {sl_ArgumentError : Array (Option Value)}
    {C_PaperError fI_PaperError N_PaperError : Addr} {nm_PaperError q_PaperError : Str} {bs_PaperError : List Value} {sn_PaperError : List Str} {sub_PaperError : List Value} {ab_PaperError : Bool} {col_PaperError : Option Bool} {dd_PaperError : Option Addr} {m0_PaperError m1_PaperError m2_PaperError m3_PaperError m5_PaperError : Option Value}
    {B0_PaperError : Addr}
    {oc_PaperError kV_PaperError dc_PaperError pm_PaperError cd_PaperError ct_PaperError : Value} {od_PaperError an_PaperError : Option Addr} {sl_PaperError : Array (Option Value)}
    {tMAX_COIN : Tok}
    {tMAX_ITEMS : Tok}
    {f__law_draws : Addr} {oc__law_draws kV__law_draws dc__law_draws pm__law_draws cd__law_draws ct__law_draws : Value} {od__law_draws an__law_draws : Option Addr} {sl__law_draws : Array (Option Value)}
    {f__law_more : Addr} {oc__law_more kV__law_more dc__law_more pm__law_more cd__law_more ct__law_more : Value} {od__law_more an__law_more : Option Addr} {sl__law_more : Array (Option Value)}
    {f__law_take : Addr} {oc__law_take kV__law_take dc__law_take pm__law_take cd__law_take ct__law_take : Value} {od__law_take an__law_take : Option Addr} {sl__law_take : Array (Option Value)}
    {f__law_one : Addr} {oc__law_one kV__law_one dc__law_one pm__law_one cd__law_one ct__law_one : Value} {od__law_one an__law_one : Option Addr} {sl__law_one : Array (Option Value)}
    {f__law_place : Addr} {oc__law_place kV__law_place dc__law_place pm__law_place cd__law_place ct__law_place : Value} {od__law_place an__law_place : Option Addr} {sl__law_place : Array (Option Value)}
    {f__law_plane : Addr} {oc__law_plane kV__law_plane dc__law_plane pm__law_plane cd__law_plane ct__law_plane : Value} {od__law_plane an__law_plane : Option Addr} {sl__law_plane : Array (Option Value)}
    {f__law_items : Addr} {oc__law_items kV__law_items dc__law_items pm__law_items cd__law_items ct__law_items : Value} {od__law_items an__law_items : Option Addr} {sl__law_items : Array (Option Value)}
    {f__law_arm_right : Addr} {oc__law_arm_right kV__law_arm_right dc__law_arm_right pm__law_arm_right cd__law_arm_right ct__law_arm_right : Value} {od__law_arm_right an__law_arm_right : Option Addr} {sl__law_arm_right : Array (Option Value)}
    {f_is_row : Addr} {oc_is_row kV_is_row dc_is_row pm_is_row cd_is_row ct_is_row : Value} {od_is_row an_is_row : Option Addr} {sl_is_row : Array (Option Value)}
    {f_is_integer : Addr} {oc_is_integer kV_is_integer dc_is_integer pm_is_integer cd_is_integer ct_is_integer : Value} {od_is_integer an_is_integer : Option Addr} {sl_is_integer : Array (Option Value)}
    {f_is_within : Addr} {oc_is_within kV_is_within dc_is_within pm_is_within cd_is_within ct_is_within : Value} {od_is_within an_is_within : Option Addr} {sl_is_within : Array (Option Value)}
    {f_is_arm : Addr} {oc_is_arm kV_is_arm dc_is_arm pm_is_arm cd_is_arm ct_is_arm : Value} {od_is_arm an_is_arm : Option Addr} {sl_is_arm : Array (Option Value)}
    {f_is_mass : Addr} {oc_is_mass kV_is_mass dc_is_mass pm_is_mass cd_is_mass ct_is_mass : Value} {od_is_mass an_is_mass : Option Addr} {sl_is_mass : Array (Option Value)}
    {f_is_plane : Addr} {oc_is_plane kV_is_plane dc_is_plane pm_is_plane cd_is_plane ct_is_plane : Value} {od_is_plane an_is_plane : Option Addr} {sl_is_plane : Array (Option Value)}
    {f_is_short : Addr} {oc_is_short kV_is_short dc_is_short pm_is_short cd_is_short ct_is_short : Value} {od_is_short an_is_short : Option Addr} {sl_is_short : Array (Option Value)}
    {f_is_item : Addr} {oc_is_item kV_is_item dc_is_item pm_is_item cd_is_item ct_is_item : Value} {od_is_item an_is_item : Option Addr} {sl_is_item : Array (Option Value)}
    {f_are_unlike : Addr} {oc_are_unlike kV_are_unlike dc_are_unlike pm_are_unlike cd_are_unlike ct_are_unlike : Value} {od_are_unlike an_are_unlike : Option Addr} {sl_are_unlike : Array (Option Value)}
    {f_require : Addr} {oc_require kV_require dc_require pm_require cd_require ct_require : Value} {od_require an_require : Option Addr} {sl_require : Array (Option Value)}
    {f_require_load : Addr} {oc_require_load kV_require_load dc_require_load pm_require_load cd_require_load ct_require_load : Value} {od_require_load an_require_load : Option Addr} {sl_require_load : Array (Option Value)}
    {f_pulling_most : Addr} {oc_pulling_most kV_pulling_most dc_pulling_most pm_pulling_most cd_pulling_most ct_pulling_most : Value} {od_pulling_most an_pulling_most : Option Addr} {sl_pulling_most : Array (Option Value)}
    {f_pull_of : Addr} {oc_pull_of kV_pull_of dc_pull_of pm_pull_of cd_pull_of ct_pull_of : Value} {od_pull_of an_pull_of : Option Addr} {sl_pull_of : Array (Option Value)}
    {f_pulls_of : Addr} {oc_pulls_of kV_pulls_of dc_pulls_of pm_pulls_of cd_pulls_of ct_pulls_of : Value} {od_pulls_of an_pulls_of : Option Addr} {sl_pulls_of : Array (Option Value)}
    {f_slack_without : Addr} {oc_slack_without kV_slack_without dc_slack_without pm_slack_without cd_slack_without ct_slack_without : Value} {od_slack_without an_slack_without : Option Addr} {sl_slack_without : Array (Option Value)}
    {f_balanced : Addr} {oc_balanced kV_balanced dc_balanced pm_balanced cd_balanced ct_balanced : Value} {od_balanced an_balanced : Option Addr} {sl_balanced : Array (Option Value)}
    {f_are_same : Addr} {oc_are_same kV_are_same dc_are_same pm_are_same cd_are_same ct_are_same : Value} {od_are_same an_are_same : Option Addr} {sl_are_same : Array (Option Value)}
    {f_are_strings : Addr} {oc_are_strings kV_are_strings dc_are_strings pm_are_strings cd_are_strings ct_are_strings : Value} {od_are_strings an_are_strings : Option Addr} {sl_are_strings : Array (Option Value)}
    {f_are_away : Addr} {oc_are_away kV_are_away dc_are_away pm_are_away cd_are_away ct_are_away : Value} {od_are_away an_are_away : Option Addr} {sl_are_away : Array (Option Value)}
    {f_accept_balanced : Addr} {oc_accept_balanced kV_accept_balanced dc_accept_balanced pm_accept_balanced cd_accept_balanced ct_accept_balanced : Value} {od_accept_balanced an_accept_balanced : Option Addr} {sl_accept_balanced : Array (Option Value)}
    {f_is_order : Addr} {oc_is_order kV_is_order dc_is_order pm_is_order cd_is_order ct_is_order : Value} {od_is_order an_is_order : Option Addr} {sl_is_order : Array (Option Value)}
    {f_boarded : Addr} {oc_boarded kV_boarded dc_boarded pm_boarded cd_boarded ct_boarded : Value} {od_boarded an_boarded : Option Addr} {sl_boarded : Array (Option Value)}
    {f__law_longer : Addr} {oc__law_longer kV__law_longer dc__law_longer pm__law_longer cd__law_longer ct__law_longer : Value} {od__law_longer an__law_longer : Option Addr} {sl__law_longer : Array (Option Value)}
    {f__law_sets : Addr} {oc__law_sets kV__law_sets dc__law_sets pm__law_sets cd__law_sets ct__law_sets : Value} {od__law_sets an__law_sets : Option Addr} {sl__law_sets : Array (Option Value)}
    {f__law_away : Addr} {oc__law_away kV__law_away dc__law_away pm__law_away cd__law_away ct__law_away : Value} {od__law_away an__law_away : Option Addr} {sl__law_away : Array (Option Value)}
    {f__law_moment : Addr} {oc__law_moment kV__law_moment dc__law_moment pm__law_moment cd__law_moment ct__law_moment : Value} {od__law_moment an__law_moment : Option Addr} {sl__law_moment : Array (Option Value)}
    {f__law_extreme : Addr} {oc__law_extreme kV__law_extreme dc__law_extreme pm__law_extreme cd__law_extreme ct__law_extreme : Value} {od__law_extreme an__law_extreme : Option Addr} {sl__law_extreme : Array (Option Value)}
    {f__law_due : Addr} {oc__law_due kV__law_due dc__law_due pm__law_due cd__law_due ct__law_due : Value} {od__law_due an__law_due : Option Addr} {sl__law_due : Array (Option Value)}
    {f__law_tips : Addr} {oc__law_tips kV__law_tips dc__law_tips pm__law_tips cd__law_tips ct__law_tips : Value} {od__law_tips an__law_tips : Option Addr} {sl__law_tips : Array (Option Value)}
    {f__law_boarded : Addr} {oc__law_boarded kV__law_boarded dc__law_boarded pm__law_boarded cd__law_boarded ct__law_boarded : Value} {od__law_boarded an__law_boarded : Option Addr} {sl__law_boarded : Array (Option Value)}
    {f__law_great_right : Addr} {oc__law_great_right kV__law_great_right dc__law_great_right pm__law_great_right cd__law_great_right ct__law_great_right : Value} {od__law_great_right an__law_great_right : Option Addr} {sl__law_great_right : Array (Option Value)}
    {f_law : Addr} {oc_law kV_law dc_law pm_law cd_law ct_law : Value} {od_law an_law : Option Addr} {sl_law : Array (Option Value)}
    {A_SIDES : Addr} {od_SIDES : Option Addr} {it_SIDES : Array Value} {n_SIDES : Nat} {sl_SIDES : Array (Option Value)}
    {t_SIDES_0 : Tok}
    {t_SIDES_1 : Tok}
    (aC_ArgumentError : PySem.W.nsIn K mainGlobals "ArgumentError" = some (some (.ref C_ArgumentError)))
    (xC_ArgumentError : K.lookup C_ArgumentError = some (excClassObj nm_ArgumentError q_ArgumentError C_ArgumentError N_ArgumentError bs_ArgumentError [.ref B0_ArgumentError, .type "ValueError", .type "Exception", .type "BaseException", .type "object"] true sn_ArgumentError sub_ArgumentError ab_ArgumentError col_ArgumentError dd_ArgumentError m0_ArgumentError m1_ArgumentError m2_ArgumentError m3_ArgumentError m5_ArgumentError "ValueError.__new__"))
    (sa_ArgumentError : PySem.W.findIn K (.ref C_ArgumentError) "__setattr__" = some (some (.builtin "object.__setattr__")))
    (ga_ArgumentError : PySem.W.findIn K (.ref C_ArgumentError) "__getattribute__" = some (some (.builtin "BaseException.__getattribute__")))
    (gg_ArgumentError : PySem.W.findIn K (.ref C_ArgumentError) "__getattr__" = some none)
    (no_ArgumentError_reason : PySem.W.findIn K (.ref C_ArgumentError) "reason" = some none)
    (kC_ArgumentError : PySem.W.keepIn K (.ref C_ArgumentError) = true)
    (eC_ArgumentError : PySem.W.subIn K (.ref C_ArgumentError) (.type "BaseException") = some true)
    (tC_ArgumentError : PySem.W.typeIn K (.ref C_ArgumentError) = some (.type "type"))
    (hC_ArgumentError : PySem.W.hasDictIn K C_ArgumentError = true)
    (iC_ArgumentError : PySem.W.isClsIn K C_ArgumentError = true)
    (sC_ArgumentError : PySem.W.subIn K (.ref C_ArgumentError) (.ref C_ArgumentError) = some true)
    (ai_ArgumentError : PySem.W.findIn K (.ref C_ArgumentError) "__init__" = some (some (.ref fI_ArgumentError)))
    (ti_ArgumentError : PySem.W.typeIn K (.ref fI_ArgumentError) = some (.type "function"))
    (li_ArgumentError : K.lookup fI_ArgumentError = some ⟨oc_ArgumentError, od_ArgumentError, .func (PySem.W.fnOf "__init__" "ArgumentError.__init__" (defArgs s_ArgumentErrorD_initD) (defBody s_ArgumentErrorD_initD) (defScope s_ArgumentErrorD_initD) .none kV_ArgumentError dc_ArgumentError pm_ArgumentError an_ArgumentError cd_ArgumentError ct_ArgumentError), sl_ArgumentError⟩)
    (ci_ArgumentError : PySem.W.codeIn K cd_ArgumentError "ArgumentError.__init__" = true)
    (ki_ArgumentError : PySem.W.keepIn K (.ref fI_ArgumentError) = true)
    (aC_PaperError : PySem.W.nsIn K mainGlobals "PaperError" = some (some (.ref C_PaperError)))
    (xC_PaperError : K.lookup C_PaperError = some (excClassObj nm_PaperError q_PaperError C_PaperError N_PaperError bs_PaperError [.ref B0_PaperError, .type "ValueError", .type "Exception", .type "BaseException", .type "object"] true sn_PaperError sub_PaperError ab_PaperError col_PaperError dd_PaperError m0_PaperError m1_PaperError m2_PaperError m3_PaperError m5_PaperError "ValueError.__new__"))
    (sa_PaperError : PySem.W.findIn K (.ref C_PaperError) "__setattr__" = some (some (.builtin "object.__setattr__")))
    (ga_PaperError : PySem.W.findIn K (.ref C_PaperError) "__getattribute__" = some (some (.builtin "BaseException.__getattribute__")))
    (gg_PaperError : PySem.W.findIn K (.ref C_PaperError) "__getattr__" = some none)
    (no_PaperError_reason : PySem.W.findIn K (.ref C_PaperError) "reason" = some none)
    (kC_PaperError : PySem.W.keepIn K (.ref C_PaperError) = true)
    (eC_PaperError : PySem.W.subIn K (.ref C_PaperError) (.type "BaseException") = some true)
    (tC_PaperError : PySem.W.typeIn K (.ref C_PaperError) = some (.type "type"))
    (hC_PaperError : PySem.W.hasDictIn K C_PaperError = true)
    (iC_PaperError : PySem.W.isClsIn K C_PaperError = true)
    (sC_PaperError : PySem.W.subIn K (.ref C_PaperError) (.ref C_PaperError) = some true)
    (ai_PaperError : PySem.W.findIn K (.ref C_PaperError) "__init__" = some (some (.ref fI_PaperError)))
    (ti_PaperError : PySem.W.typeIn K (.ref fI_PaperError) = some (.type "function"))
    (li_PaperError : K.lookup fI_PaperError = some ⟨oc_PaperError, od_PaperError, .func (PySem.W.fnOf "__init__" "PaperError.__init__" (defArgs s_PaperErrorD_initD) (defBody s_PaperErrorD_initD) (defScope s_PaperErrorD_initD) .none kV_PaperError dc_PaperError pm_PaperError an_PaperError cd_PaperError ct_PaperError), sl_PaperError⟩)
    (ci_PaperError : PySem.W.codeIn K cd_PaperError "PaperError.__init__" = true)
    (ki_PaperError : PySem.W.keepIn K (.ref fI_PaperError) = true)
    (gMAX_COIN : PySem.W.nsIn K mainGlobals "MAX_COIN" = some (some (.int 1000000 tMAX_COIN)))
    (gMAX_ITEMS : PySem.W.nsIn K mainGlobals "MAX_ITEMS" = some (some (.int 60 tMAX_ITEMS)))
    (a__law_draws : PySem.W.nsIn K mainGlobals "_law_draws" = some (some (.ref f__law_draws)))
    (l__law_draws : K.lookup f__law_draws = some ⟨oc__law_draws, od__law_draws, .func (PySem.W.fnOf "_law_draws" "_law_draws" (defArgs s_law_draws) (defBody s_law_draws) (defScope s_law_draws) .none kV__law_draws dc__law_draws pm__law_draws an__law_draws cd__law_draws ct__law_draws), sl__law_draws⟩)
    (c__law_draws : PySem.W.codeIn K cd__law_draws "_law_draws" = true)
    (k__law_draws : PySem.W.keepIn K (.ref f__law_draws) = true)
    (a__law_more : PySem.W.nsIn K mainGlobals "_law_more" = some (some (.ref f__law_more)))
    (l__law_more : K.lookup f__law_more = some ⟨oc__law_more, od__law_more, .func (PySem.W.fnOf "_law_more" "_law_more" (defArgs s_law_more) (defBody s_law_more) (defScope s_law_more) .none kV__law_more dc__law_more pm__law_more an__law_more cd__law_more ct__law_more), sl__law_more⟩)
    (c__law_more : PySem.W.codeIn K cd__law_more "_law_more" = true)
    (k__law_more : PySem.W.keepIn K (.ref f__law_more) = true)
    (a__law_take : PySem.W.nsIn K mainGlobals "_law_take" = some (some (.ref f__law_take)))
    (l__law_take : K.lookup f__law_take = some ⟨oc__law_take, od__law_take, .func (PySem.W.fnOf "_law_take" "_law_take" (defArgs s_law_take) (defBody s_law_take) (defScope s_law_take) .none kV__law_take dc__law_take pm__law_take an__law_take cd__law_take ct__law_take), sl__law_take⟩)
    (c__law_take : PySem.W.codeIn K cd__law_take "_law_take" = true)
    (k__law_take : PySem.W.keepIn K (.ref f__law_take) = true)
    (a__law_one : PySem.W.nsIn K mainGlobals "_law_one" = some (some (.ref f__law_one)))
    (l__law_one : K.lookup f__law_one = some ⟨oc__law_one, od__law_one, .func (PySem.W.fnOf "_law_one" "_law_one" (defArgs s_law_one) (defBody s_law_one) (defScope s_law_one) .none kV__law_one dc__law_one pm__law_one an__law_one cd__law_one ct__law_one), sl__law_one⟩)
    (c__law_one : PySem.W.codeIn K cd__law_one "_law_one" = true)
    (k__law_one : PySem.W.keepIn K (.ref f__law_one) = true)
    (a__law_place : PySem.W.nsIn K mainGlobals "_law_place" = some (some (.ref f__law_place)))
    (l__law_place : K.lookup f__law_place = some ⟨oc__law_place, od__law_place, .func (PySem.W.fnOf "_law_place" "_law_place" (defArgs s_law_place) (defBody s_law_place) (defScope s_law_place) .none kV__law_place dc__law_place pm__law_place an__law_place cd__law_place ct__law_place), sl__law_place⟩)
    (c__law_place : PySem.W.codeIn K cd__law_place "_law_place" = true)
    (k__law_place : PySem.W.keepIn K (.ref f__law_place) = true)
    (a__law_plane : PySem.W.nsIn K mainGlobals "_law_plane" = some (some (.ref f__law_plane)))
    (l__law_plane : K.lookup f__law_plane = some ⟨oc__law_plane, od__law_plane, .func (PySem.W.fnOf "_law_plane" "_law_plane" (defArgs s_law_plane) (defBody s_law_plane) (defScope s_law_plane) .none kV__law_plane dc__law_plane pm__law_plane an__law_plane cd__law_plane ct__law_plane), sl__law_plane⟩)
    (c__law_plane : PySem.W.codeIn K cd__law_plane "_law_plane" = true)
    (k__law_plane : PySem.W.keepIn K (.ref f__law_plane) = true)
    (a__law_items : PySem.W.nsIn K mainGlobals "_law_items" = some (some (.ref f__law_items)))
    (l__law_items : K.lookup f__law_items = some ⟨oc__law_items, od__law_items, .func (PySem.W.fnOf "_law_items" "_law_items" (defArgs s_law_items) (defBody s_law_items) (defScope s_law_items) .none kV__law_items dc__law_items pm__law_items an__law_items cd__law_items ct__law_items), sl__law_items⟩)
    (c__law_items : PySem.W.codeIn K cd__law_items "_law_items" = true)
    (k__law_items : PySem.W.keepIn K (.ref f__law_items) = true)
    (a__law_arm_right : PySem.W.nsIn K mainGlobals "_law_arm_right" = some (some (.ref f__law_arm_right)))
    (l__law_arm_right : K.lookup f__law_arm_right = some ⟨oc__law_arm_right, od__law_arm_right, .func (PySem.W.fnOf "_law_arm_right" "_law_arm_right" (defArgs s_law_arm_right) (defBody s_law_arm_right) (defScope s_law_arm_right) .none kV__law_arm_right dc__law_arm_right pm__law_arm_right an__law_arm_right cd__law_arm_right ct__law_arm_right), sl__law_arm_right⟩)
    (c__law_arm_right : PySem.W.codeIn K cd__law_arm_right "_law_arm_right" = true)
    (k__law_arm_right : PySem.W.keepIn K (.ref f__law_arm_right) = true)
    (a_is_row : PySem.W.nsIn K mainGlobals "is_row" = some (some (.ref f_is_row)))
    (l_is_row : K.lookup f_is_row = some ⟨oc_is_row, od_is_row, .func (PySem.W.fnOf "is_row" "is_row" (defArgs s_is_row) (defBody s_is_row) (defScope s_is_row) .none kV_is_row dc_is_row pm_is_row an_is_row cd_is_row ct_is_row), sl_is_row⟩)
    (c_is_row : PySem.W.codeIn K cd_is_row "is_row" = true)
    (k_is_row : PySem.W.keepIn K (.ref f_is_row) = true)
    (a_is_integer : PySem.W.nsIn K mainGlobals "is_integer" = some (some (.ref f_is_integer)))
    (l_is_integer : K.lookup f_is_integer = some ⟨oc_is_integer, od_is_integer, .func (PySem.W.fnOf "is_integer" "is_integer" (defArgs s_is_integer) (defBody s_is_integer) (defScope s_is_integer) .none kV_is_integer dc_is_integer pm_is_integer an_is_integer cd_is_integer ct_is_integer), sl_is_integer⟩)
    (c_is_integer : PySem.W.codeIn K cd_is_integer "is_integer" = true)
    (k_is_integer : PySem.W.keepIn K (.ref f_is_integer) = true)
    (a_is_within : PySem.W.nsIn K mainGlobals "is_within" = some (some (.ref f_is_within)))
    (l_is_within : K.lookup f_is_within = some ⟨oc_is_within, od_is_within, .func (PySem.W.fnOf "is_within" "is_within" (defArgs s_is_within) (defBody s_is_within) (defScope s_is_within) .none kV_is_within dc_is_within pm_is_within an_is_within cd_is_within ct_is_within), sl_is_within⟩)
    (c_is_within : PySem.W.codeIn K cd_is_within "is_within" = true)
    (k_is_within : PySem.W.keepIn K (.ref f_is_within) = true)
    (a_is_arm : PySem.W.nsIn K mainGlobals "is_arm" = some (some (.ref f_is_arm)))
    (l_is_arm : K.lookup f_is_arm = some ⟨oc_is_arm, od_is_arm, .func (PySem.W.fnOf "is_arm" "is_arm" (defArgs s_is_arm) (defBody s_is_arm) (defScope s_is_arm) .none kV_is_arm dc_is_arm pm_is_arm an_is_arm cd_is_arm ct_is_arm), sl_is_arm⟩)
    (c_is_arm : PySem.W.codeIn K cd_is_arm "is_arm" = true)
    (k_is_arm : PySem.W.keepIn K (.ref f_is_arm) = true)
    (a_is_mass : PySem.W.nsIn K mainGlobals "is_mass" = some (some (.ref f_is_mass)))
    (l_is_mass : K.lookup f_is_mass = some ⟨oc_is_mass, od_is_mass, .func (PySem.W.fnOf "is_mass" "is_mass" (defArgs s_is_mass) (defBody s_is_mass) (defScope s_is_mass) .none kV_is_mass dc_is_mass pm_is_mass an_is_mass cd_is_mass ct_is_mass), sl_is_mass⟩)
    (c_is_mass : PySem.W.codeIn K cd_is_mass "is_mass" = true)
    (k_is_mass : PySem.W.keepIn K (.ref f_is_mass) = true)
    (a_is_plane : PySem.W.nsIn K mainGlobals "is_plane" = some (some (.ref f_is_plane)))
    (l_is_plane : K.lookup f_is_plane = some ⟨oc_is_plane, od_is_plane, .func (PySem.W.fnOf "is_plane" "is_plane" (defArgs s_is_plane) (defBody s_is_plane) (defScope s_is_plane) .none kV_is_plane dc_is_plane pm_is_plane an_is_plane cd_is_plane ct_is_plane), sl_is_plane⟩)
    (c_is_plane : PySem.W.codeIn K cd_is_plane "is_plane" = true)
    (k_is_plane : PySem.W.keepIn K (.ref f_is_plane) = true)
    (a_is_short : PySem.W.nsIn K mainGlobals "is_short" = some (some (.ref f_is_short)))
    (l_is_short : K.lookup f_is_short = some ⟨oc_is_short, od_is_short, .func (PySem.W.fnOf "is_short" "is_short" (defArgs s_is_short) (defBody s_is_short) (defScope s_is_short) .none kV_is_short dc_is_short pm_is_short an_is_short cd_is_short ct_is_short), sl_is_short⟩)
    (c_is_short : PySem.W.codeIn K cd_is_short "is_short" = true)
    (k_is_short : PySem.W.keepIn K (.ref f_is_short) = true)
    (a_is_item : PySem.W.nsIn K mainGlobals "is_item" = some (some (.ref f_is_item)))
    (l_is_item : K.lookup f_is_item = some ⟨oc_is_item, od_is_item, .func (PySem.W.fnOf "is_item" "is_item" (defArgs s_is_item) (defBody s_is_item) (defScope s_is_item) .none kV_is_item dc_is_item pm_is_item an_is_item cd_is_item ct_is_item), sl_is_item⟩)
    (c_is_item : PySem.W.codeIn K cd_is_item "is_item" = true)
    (k_is_item : PySem.W.keepIn K (.ref f_is_item) = true)
    (a_are_unlike : PySem.W.nsIn K mainGlobals "are_unlike" = some (some (.ref f_are_unlike)))
    (l_are_unlike : K.lookup f_are_unlike = some ⟨oc_are_unlike, od_are_unlike, .func (PySem.W.fnOf "are_unlike" "are_unlike" (defArgs s_are_unlike) (defBody s_are_unlike) (defScope s_are_unlike) .none kV_are_unlike dc_are_unlike pm_are_unlike an_are_unlike cd_are_unlike ct_are_unlike), sl_are_unlike⟩)
    (c_are_unlike : PySem.W.codeIn K cd_are_unlike "are_unlike" = true)
    (k_are_unlike : PySem.W.keepIn K (.ref f_are_unlike) = true)
    (a_require : PySem.W.nsIn K mainGlobals "require" = some (some (.ref f_require)))
    (l_require : K.lookup f_require = some ⟨oc_require, od_require, .func (PySem.W.fnOf "require" "require" (defArgs s_require) (defBody s_require) (defScope s_require) .none kV_require dc_require pm_require an_require cd_require ct_require), sl_require⟩)
    (c_require : PySem.W.codeIn K cd_require "require" = true)
    (k_require : PySem.W.keepIn K (.ref f_require) = true)
    (a_require_load : PySem.W.nsIn K mainGlobals "require_load" = some (some (.ref f_require_load)))
    (l_require_load : K.lookup f_require_load = some ⟨oc_require_load, od_require_load, .func (PySem.W.fnOf "require_load" "require_load" (defArgs s_require_load) (defBody s_require_load) (defScope s_require_load) .none kV_require_load dc_require_load pm_require_load an_require_load cd_require_load ct_require_load), sl_require_load⟩)
    (c_require_load : PySem.W.codeIn K cd_require_load "require_load" = true)
    (k_require_load : PySem.W.keepIn K (.ref f_require_load) = true)
    (a_pulling_most : PySem.W.nsIn K mainGlobals "pulling_most" = some (some (.ref f_pulling_most)))
    (l_pulling_most : K.lookup f_pulling_most = some ⟨oc_pulling_most, od_pulling_most, .func (PySem.W.fnOf "pulling_most" "pulling_most" (defArgs s_pulling_most) (defBody s_pulling_most) (defScope s_pulling_most) .none kV_pulling_most dc_pulling_most pm_pulling_most an_pulling_most cd_pulling_most ct_pulling_most), sl_pulling_most⟩)
    (c_pulling_most : PySem.W.codeIn K cd_pulling_most "pulling_most" = true)
    (k_pulling_most : PySem.W.keepIn K (.ref f_pulling_most) = true)
    (a_pull_of : PySem.W.nsIn K mainGlobals "pull_of" = some (some (.ref f_pull_of)))
    (l_pull_of : K.lookup f_pull_of = some ⟨oc_pull_of, od_pull_of, .func (PySem.W.fnOf "pull_of" "pull_of" (defArgs s_pull_of) (defBody s_pull_of) (defScope s_pull_of) .none kV_pull_of dc_pull_of pm_pull_of an_pull_of cd_pull_of ct_pull_of), sl_pull_of⟩)
    (c_pull_of : PySem.W.codeIn K cd_pull_of "pull_of" = true)
    (k_pull_of : PySem.W.keepIn K (.ref f_pull_of) = true)
    (a_pulls_of : PySem.W.nsIn K mainGlobals "pulls_of" = some (some (.ref f_pulls_of)))
    (l_pulls_of : K.lookup f_pulls_of = some ⟨oc_pulls_of, od_pulls_of, .func (PySem.W.fnOf "pulls_of" "pulls_of" (defArgs s_pulls_of) (defBody s_pulls_of) (defScope s_pulls_of) .none kV_pulls_of dc_pulls_of pm_pulls_of an_pulls_of cd_pulls_of ct_pulls_of), sl_pulls_of⟩)
    (c_pulls_of : PySem.W.codeIn K cd_pulls_of "pulls_of" = true)
    (k_pulls_of : PySem.W.keepIn K (.ref f_pulls_of) = true)
    (a_slack_without : PySem.W.nsIn K mainGlobals "slack_without" = some (some (.ref f_slack_without)))
    (l_slack_without : K.lookup f_slack_without = some ⟨oc_slack_without, od_slack_without, .func (PySem.W.fnOf "slack_without" "slack_without" (defArgs s_slack_without) (defBody s_slack_without) (defScope s_slack_without) .none kV_slack_without dc_slack_without pm_slack_without an_slack_without cd_slack_without ct_slack_without), sl_slack_without⟩)
    (c_slack_without : PySem.W.codeIn K cd_slack_without "slack_without" = true)
    (k_slack_without : PySem.W.keepIn K (.ref f_slack_without) = true)
    (a_balanced : PySem.W.nsIn K mainGlobals "balanced" = some (some (.ref f_balanced)))
    (l_balanced : K.lookup f_balanced = some ⟨oc_balanced, od_balanced, .func (PySem.W.fnOf "balanced" "balanced" (defArgs s_balanced) (defBody s_balanced) (defScope s_balanced) .none kV_balanced dc_balanced pm_balanced an_balanced cd_balanced ct_balanced), sl_balanced⟩)
    (c_balanced : PySem.W.codeIn K cd_balanced "balanced" = true)
    (k_balanced : PySem.W.keepIn K (.ref f_balanced) = true)
    (a_are_same : PySem.W.nsIn K mainGlobals "are_same" = some (some (.ref f_are_same)))
    (l_are_same : K.lookup f_are_same = some ⟨oc_are_same, od_are_same, .func (PySem.W.fnOf "are_same" "are_same" (defArgs s_are_same) (defBody s_are_same) (defScope s_are_same) .none kV_are_same dc_are_same pm_are_same an_are_same cd_are_same ct_are_same), sl_are_same⟩)
    (c_are_same : PySem.W.codeIn K cd_are_same "are_same" = true)
    (k_are_same : PySem.W.keepIn K (.ref f_are_same) = true)
    (a_are_strings : PySem.W.nsIn K mainGlobals "are_strings" = some (some (.ref f_are_strings)))
    (l_are_strings : K.lookup f_are_strings = some ⟨oc_are_strings, od_are_strings, .func (PySem.W.fnOf "are_strings" "are_strings" (defArgs s_are_strings) (defBody s_are_strings) (defScope s_are_strings) .none kV_are_strings dc_are_strings pm_are_strings an_are_strings cd_are_strings ct_are_strings), sl_are_strings⟩)
    (c_are_strings : PySem.W.codeIn K cd_are_strings "are_strings" = true)
    (k_are_strings : PySem.W.keepIn K (.ref f_are_strings) = true)
    (a_are_away : PySem.W.nsIn K mainGlobals "are_away" = some (some (.ref f_are_away)))
    (l_are_away : K.lookup f_are_away = some ⟨oc_are_away, od_are_away, .func (PySem.W.fnOf "are_away" "are_away" (defArgs s_are_away) (defBody s_are_away) (defScope s_are_away) .none kV_are_away dc_are_away pm_are_away an_are_away cd_are_away ct_are_away), sl_are_away⟩)
    (c_are_away : PySem.W.codeIn K cd_are_away "are_away" = true)
    (k_are_away : PySem.W.keepIn K (.ref f_are_away) = true)
    (a_accept_balanced : PySem.W.nsIn K mainGlobals "accept_balanced" = some (some (.ref f_accept_balanced)))
    (l_accept_balanced : K.lookup f_accept_balanced = some ⟨oc_accept_balanced, od_accept_balanced, .func (PySem.W.fnOf "accept_balanced" "accept_balanced" (defArgs s_accept_balanced) (defBody s_accept_balanced) (defScope s_accept_balanced) .none kV_accept_balanced dc_accept_balanced pm_accept_balanced an_accept_balanced cd_accept_balanced ct_accept_balanced), sl_accept_balanced⟩)
    (c_accept_balanced : PySem.W.codeIn K cd_accept_balanced "accept_balanced" = true)
    (k_accept_balanced : PySem.W.keepIn K (.ref f_accept_balanced) = true)
    (a_is_order : PySem.W.nsIn K mainGlobals "is_order" = some (some (.ref f_is_order)))
    (l_is_order : K.lookup f_is_order = some ⟨oc_is_order, od_is_order, .func (PySem.W.fnOf "is_order" "is_order" (defArgs s_is_order) (defBody s_is_order) (defScope s_is_order) .none kV_is_order dc_is_order pm_is_order an_is_order cd_is_order ct_is_order), sl_is_order⟩)
    (c_is_order : PySem.W.codeIn K cd_is_order "is_order" = true)
    (k_is_order : PySem.W.keepIn K (.ref f_is_order) = true)
    (a_boarded : PySem.W.nsIn K mainGlobals "boarded" = some (some (.ref f_boarded)))
    (l_boarded : K.lookup f_boarded = some ⟨oc_boarded, od_boarded, .func (PySem.W.fnOf "boarded" "boarded" (defArgs s_boarded) (defBody s_boarded) (defScope s_boarded) .none kV_boarded dc_boarded pm_boarded an_boarded cd_boarded ct_boarded), sl_boarded⟩)
    (c_boarded : PySem.W.codeIn K cd_boarded "boarded" = true)
    (k_boarded : PySem.W.keepIn K (.ref f_boarded) = true)
    (a__law_longer : PySem.W.nsIn K mainGlobals "_law_longer" = some (some (.ref f__law_longer)))
    (l__law_longer : K.lookup f__law_longer = some ⟨oc__law_longer, od__law_longer, .func (PySem.W.fnOf "_law_longer" "_law_longer" (defArgs s_law_longer) (defBody s_law_longer) (defScope s_law_longer) .none kV__law_longer dc__law_longer pm__law_longer an__law_longer cd__law_longer ct__law_longer), sl__law_longer⟩)
    (c__law_longer : PySem.W.codeIn K cd__law_longer "_law_longer" = true)
    (k__law_longer : PySem.W.keepIn K (.ref f__law_longer) = true)
    (a__law_sets : PySem.W.nsIn K mainGlobals "_law_sets" = some (some (.ref f__law_sets)))
    (l__law_sets : K.lookup f__law_sets = some ⟨oc__law_sets, od__law_sets, .func (PySem.W.fnOf "_law_sets" "_law_sets" (defArgs s_law_sets) (defBody s_law_sets) (defScope s_law_sets) .none kV__law_sets dc__law_sets pm__law_sets an__law_sets cd__law_sets ct__law_sets), sl__law_sets⟩)
    (c__law_sets : PySem.W.codeIn K cd__law_sets "_law_sets" = true)
    (k__law_sets : PySem.W.keepIn K (.ref f__law_sets) = true)
    (a__law_away : PySem.W.nsIn K mainGlobals "_law_away" = some (some (.ref f__law_away)))
    (l__law_away : K.lookup f__law_away = some ⟨oc__law_away, od__law_away, .func (PySem.W.fnOf "_law_away" "_law_away" (defArgs s_law_away) (defBody s_law_away) (defScope s_law_away) .none kV__law_away dc__law_away pm__law_away an__law_away cd__law_away ct__law_away), sl__law_away⟩)
    (c__law_away : PySem.W.codeIn K cd__law_away "_law_away" = true)
    (k__law_away : PySem.W.keepIn K (.ref f__law_away) = true)
    (a__law_moment : PySem.W.nsIn K mainGlobals "_law_moment" = some (some (.ref f__law_moment)))
    (l__law_moment : K.lookup f__law_moment = some ⟨oc__law_moment, od__law_moment, .func (PySem.W.fnOf "_law_moment" "_law_moment" (defArgs s_law_moment) (defBody s_law_moment) (defScope s_law_moment) .none kV__law_moment dc__law_moment pm__law_moment an__law_moment cd__law_moment ct__law_moment), sl__law_moment⟩)
    (c__law_moment : PySem.W.codeIn K cd__law_moment "_law_moment" = true)
    (k__law_moment : PySem.W.keepIn K (.ref f__law_moment) = true)
    (a__law_extreme : PySem.W.nsIn K mainGlobals "_law_extreme" = some (some (.ref f__law_extreme)))
    (l__law_extreme : K.lookup f__law_extreme = some ⟨oc__law_extreme, od__law_extreme, .func (PySem.W.fnOf "_law_extreme" "_law_extreme" (defArgs s_law_extreme) (defBody s_law_extreme) (defScope s_law_extreme) .none kV__law_extreme dc__law_extreme pm__law_extreme an__law_extreme cd__law_extreme ct__law_extreme), sl__law_extreme⟩)
    (c__law_extreme : PySem.W.codeIn K cd__law_extreme "_law_extreme" = true)
    (k__law_extreme : PySem.W.keepIn K (.ref f__law_extreme) = true)
    (a__law_due : PySem.W.nsIn K mainGlobals "_law_due" = some (some (.ref f__law_due)))
    (l__law_due : K.lookup f__law_due = some ⟨oc__law_due, od__law_due, .func (PySem.W.fnOf "_law_due" "_law_due" (defArgs s_law_due) (defBody s_law_due) (defScope s_law_due) .none kV__law_due dc__law_due pm__law_due an__law_due cd__law_due ct__law_due), sl__law_due⟩)
    (c__law_due : PySem.W.codeIn K cd__law_due "_law_due" = true)
    (k__law_due : PySem.W.keepIn K (.ref f__law_due) = true)
    (a__law_tips : PySem.W.nsIn K mainGlobals "_law_tips" = some (some (.ref f__law_tips)))
    (l__law_tips : K.lookup f__law_tips = some ⟨oc__law_tips, od__law_tips, .func (PySem.W.fnOf "_law_tips" "_law_tips" (defArgs s_law_tips) (defBody s_law_tips) (defScope s_law_tips) .none kV__law_tips dc__law_tips pm__law_tips an__law_tips cd__law_tips ct__law_tips), sl__law_tips⟩)
    (c__law_tips : PySem.W.codeIn K cd__law_tips "_law_tips" = true)
    (k__law_tips : PySem.W.keepIn K (.ref f__law_tips) = true)
    (a__law_boarded : PySem.W.nsIn K mainGlobals "_law_boarded" = some (some (.ref f__law_boarded)))
    (l__law_boarded : K.lookup f__law_boarded = some ⟨oc__law_boarded, od__law_boarded, .func (PySem.W.fnOf "_law_boarded" "_law_boarded" (defArgs s_law_boarded) (defBody s_law_boarded) (defScope s_law_boarded) .none kV__law_boarded dc__law_boarded pm__law_boarded an__law_boarded cd__law_boarded ct__law_boarded), sl__law_boarded⟩)
    (c__law_boarded : PySem.W.codeIn K cd__law_boarded "_law_boarded" = true)
    (k__law_boarded : PySem.W.keepIn K (.ref f__law_boarded) = true)
    (a__law_great_right : PySem.W.nsIn K mainGlobals "_law_great_right" = some (some (.ref f__law_great_right)))
    (l__law_great_right : K.lookup f__law_great_right = some ⟨oc__law_great_right, od__law_great_right, .func (PySem.W.fnOf "_law_great_right" "_law_great_right" (defArgs s_law_great_right) (defBody s_law_great_right) (defScope s_law_great_right) .none kV__law_great_right dc__law_great_right pm__law_great_right an__law_great_right cd__law_great_right ct__law_great_right), sl__law_great_right⟩)
    (c__law_great_right : PySem.W.codeIn K cd__law_great_right "_law_great_right" = true)
    (k__law_great_right : PySem.W.keepIn K (.ref f__law_great_right) = true)
    (a_law : PySem.W.nsIn K mainGlobals "law" = some (some (.ref f_law)))
    (l_law : K.lookup f_law = some ⟨oc_law, od_law, .func (PySem.W.fnOf "law" "law" (defArgs s_law) (defBody s_law) (defScope s_law) .none kV_law dc_law pm_law an_law cd_law ct_law), sl_law⟩)
    (c_law : PySem.W.codeIn K cd_law "law" = true)
    (k_law : PySem.W.keepIn K (.ref f_law) = true)
    (gSIDES : PySem.W.nsIn K mainGlobals "SIDES" = some (some (.ref A_SIDES)))
    (lSIDES : K.lookup A_SIDES = some ⟨.type "tuple", od_SIDES, .seq it_SIDES n_SIDES, sl_SIDES⟩)
    (vSIDES : it_SIDES.toList = [.str "fore" t_SIDES_0, .str "aft" t_SIDES_1])
    (z_abs : PySem.W.nsIn K mainGlobals "abs" = some none)
    (z_all : PySem.W.nsIn K mainGlobals "all" = some none)
    (z_any : PySem.W.nsIn K mainGlobals "any" = some none)
    (z_bool : PySem.W.nsIn K mainGlobals "bool" = some none)
    (z_dict : PySem.W.nsIn K mainGlobals "dict" = some none)
    (z_enumerate : PySem.W.nsIn K mainGlobals "enumerate" = some none)
    (z_int : PySem.W.nsIn K mainGlobals "int" = some none)
    (z_isinstance : PySem.W.nsIn K mainGlobals "isinstance" = some none)
    (z_len : PySem.W.nsIn K mainGlobals "len" = some none)
    (z_list : PySem.W.nsIn K mainGlobals "list" = some none)
    (z_max : PySem.W.nsIn K mainGlobals "max" = some none)
    (z_min : PySem.W.nsIn K mainGlobals "min" = some none)
    (z_range : PySem.W.nsIn K mainGlobals "range" = some none)
    (z_repr : PySem.W.nsIn K mainGlobals "repr" = some none)
    (z_reversed : PySem.W.nsIn K mainGlobals "reversed" = some none)
    (z_set : PySem.W.nsIn K mainGlobals "set" = some none)
    (z_sorted : PySem.W.nsIn K mainGlobals "sorted" = some none)
    (z_str : PySem.W.nsIn K mainGlobals "str" = some none)
    (z_sum : PySem.W.nsIn K mainGlobals "sum" = some none)
    (z_tuple : PySem.W.nsIn K mainGlobals "tuple" = some none)
    (z_zip : PySem.W.nsIn K mainGlobals "zip" = some none)
    : ∃ fd : FuncData, (∀ (s : Shared) (v : Value), BindsTo s fd ⟨[v], []⟩ [("script", v)]) ∧ ∀ base : Heap, K.In base → base.Ns mainGlobals mg → FnG l.prog w K mg base CX0 10 fa fd ["script"] (spLaw K) := by
  have e := hfa.symm.trans (PySem.W.mg_of X G a_law)
  cases e

  refine ⟨PySem.W.fnOf "law" "law" (defArgs s_law) (defBody s_law) (defScope s_law) .none kV_law dc_law pm_law an_law cd_law ct_law, fun s v => .of_eq rfl, fun base hKb hNb => ?_⟩
  have F__law_draws := fun_mk (st := s_law_draws) l__law_draws c__law_draws k__law_draws
  have T_LawTxt : LawTxt mg := { z_len := PySem.W.mg_none_of X G z_len, z_abs := PySem.W.mg_none_of X G z_abs, z_int := PySem.W.mg_none_of X G z_int, z_str := PySem.W.mg_none_of X G z_str, z_tuple := PySem.W.mg_none_of X G z_tuple, z_range := PySem.W.mg_none_of X G z_range, z_min := PySem.W.mg_none_of X G z_min, z_max := PySem.W.mg_none_of X G z_max, z_sorted := PySem.W.mg_none_of X G z_sorted }
  have b__law_draws := F__law_draws.binds (ps := ["script"]) fun _ _ _ _ _ _ us hl => match us, hl with | [_], _ => rfl
  have C__law_draws : Cg l.prog w K mg base CX0 1 "_law_draws" ((spDraws K)) := ⟨_, _, _, ok_draws F__law_draws T_LawTxt, PySem.W.mg_of X G a__law_draws, k__law_draws, b__law_draws⟩
  have F__law_more := fun_mk (st := s_law_more) l__law_more c__law_more k__law_more
  have b__law_more := F__law_more.binds (ps := ["draws", "place"]) fun _ _ _ _ _ _ us hl => match us, hl with | [_, _], _ => rfl
  have C__law_more : Cg l.prog w K mg base CX0 1 "_law_more" ((spMore K)) := ⟨_, _, _, ok_more F__law_more T_LawTxt, PySem.W.mg_of X G a__law_more, k__law_more, b__law_more⟩
  have F__law_take := fun_mk (st := s_law_take) l__law_take c__law_take k__law_take
  have b__law_take := F__law_take.binds (ps := ["draws", "at", "many"]) fun _ _ _ _ _ _ us hl => match us, hl with | [_, _, _], _ => rfl
  have C__law_take : Cg l.prog w K mg base CX0 2 "_law_take" ((spTake K)) := ⟨_, _, _, ok_take F__law_take T_LawTxt C__law_more, PySem.W.mg_of X G a__law_take, k__law_take, b__law_take⟩
  have F__law_one := fun_mk (st := s_law_one) l__law_one c__law_one k__law_one
  have b__law_one := F__law_one.binds (ps := ["rows", "draws", "at"]) fun _ _ _ _ _ _ us hl => match us, hl with | [_, _, _], _ => rfl
  have C__law_one : Cg l.prog w K mg base CX0 3 "_law_one" ((spOne K)) := ⟨_, _, _, ok_one F__law_one T_LawTxt C__law_take, PySem.W.mg_of X G a__law_one, k__law_one, b__law_one⟩
  have F__law_place := fun_mk (st := s_law_place) l__law_place c__law_place k__law_place
  have b__law_place := F__law_place.binds (ps := ["draws", "at"]) fun _ _ _ _ _ _ us hl => match us, hl with | [_, _], _ => rfl
  have C__law_place : Cg l.prog w K mg base CX0 4 "_law_place" ((spD K 2 wLPlace)) := ⟨_, _, _, ok_lplace F__law_place C__law_one C__law_take, PySem.W.mg_of X G a__law_place, k__law_place, b__law_place⟩
  have F__law_plane := fun_mk (st := s_law_plane) l__law_plane c__law_plane k__law_plane
  have b__law_plane := F__law_plane.binds (ps := ["draws", "at"]) fun _ _ _ _ _ _ us hl => match us, hl with | [_, _], _ => rfl
  have C__law_plane : Cg l.prog w K mg base CX0 5 "_law_plane" ((spD K 2 wLPlane)) := ⟨_, _, _, ok_lplane F__law_plane T_LawTxt C__law_one C__law_take C__law_place, PySem.W.mg_of X G a__law_plane, k__law_plane, b__law_plane⟩
  have F__law_items := fun_mk (st := s_law_items) l__law_items c__law_items k__law_items
  have b__law_items := F__law_items.binds (ps := ["most", "draws", "at"]) fun _ _ _ _ _ _ us hl => match us, hl with | [_, _, _], _ => rfl
  have C__law_items : Cg l.prog w K mg base CX0 5 "_law_items" ((spD K 3 wLItems)) := ⟨_, _, _, ok_litems F__law_items T_LawTxt C__law_one C__law_take C__law_place, PySem.W.mg_of X G a__law_items, k__law_items, b__law_items⟩
  have F__law_arm_right := fun_mk (st := s_law_arm_right) l__law_arm_right c__law_arm_right k__law_arm_right
  have b__law_arm_right := F__law_arm_right.binds (ps := ["plane"]) fun _ _ _ _ _ _ us hl => match us, hl with | [_], _ => rfl
  have C__law_arm_right : Cg l.prog w K mg base CX0 1 "_law_arm_right" ((spP K 1 wLArm)) := ⟨_, _, _, ok_larm F__law_arm_right , PySem.W.mg_of X G a__law_arm_right, k__law_arm_right, b__law_arm_right⟩
  have F_is_row := fun_mk (st := s_is_row) l_is_row c_is_row k_is_row
  have T_DTxt : DTxt mg := { z_len := PySem.W.mg_none_of X G z_len, z_abs := PySem.W.mg_none_of X G z_abs, z_int := PySem.W.mg_none_of X G z_int, z_str := PySem.W.mg_none_of X G z_str, z_bool := PySem.W.mg_none_of X G z_bool, z_tuple := PySem.W.mg_none_of X G z_tuple, z_list := PySem.W.mg_none_of X G z_list, z_dict := PySem.W.mg_none_of X G z_dict, z_set := PySem.W.mg_none_of X G z_set, z_range := PySem.W.mg_none_of X G z_range, z_min := PySem.W.mg_none_of X G z_min, z_max := PySem.W.mg_none_of X G z_max, z_sum := PySem.W.mg_none_of X G z_sum, z_all := PySem.W.mg_none_of X G z_all, z_any := PySem.W.mg_none_of X G z_any, z_sorted := PySem.W.mg_none_of X G z_sorted, z_reversed := PySem.W.mg_none_of X G z_reversed, z_enumerate := PySem.W.mg_none_of X G z_enumerate, z_zip := PySem.W.mg_none_of X G z_zip, z_repr := PySem.W.mg_none_of X G z_repr, z_isinstance := PySem.W.mg_none_of X G z_isinstance }
  have b_is_row := F_is_row.binds (ps := ["value", "size"]) fun _ _ _ _ _ _ us hl => match us, hl with | [_, _], _ => rfl
  have C_is_row : Cg l.prog w K mg base CX0 1 "is_row" ((spP K 2 wIsRow)) := ⟨_, _, _, ok_isrow F_is_row T_DTxt, PySem.W.mg_of X G a_is_row, k_is_row, b_is_row⟩
  have F_is_integer := fun_mk (st := s_is_integer) l_is_integer c_is_integer k_is_integer
  have b_is_integer := F_is_integer.binds (ps := ["value"]) fun _ _ _ _ _ _ us hl => match us, hl with | [_], _ => rfl
  have C_is_integer : Cg l.prog w K mg base CX0 1 "is_integer" ((spP K 1 wIsInt)) := ⟨_, _, _, ok_isint F_is_integer T_DTxt, PySem.W.mg_of X G a_is_integer, k_is_integer, b_is_integer⟩
  have F_is_within := fun_mk (st := s_is_within) l_is_within c_is_within k_is_within
  have b_is_within := F_is_within.binds (ps := ["value", "low", "high"]) fun _ _ _ _ _ _ us hl => match us, hl with | [_, _, _], _ => rfl
  have C_is_within : Cg l.prog w K mg base CX0 2 "is_within" ((spP K 3 wWithin)) := ⟨_, _, _, ok_within F_is_within C_is_integer, PySem.W.mg_of X G a_is_within, k_is_within, b_is_within⟩
  have F_is_arm := fun_mk (st := s_is_arm) l_is_arm c_is_arm k_is_arm
  have T_BalTxt : BalTxt mg := { toDTxt := T_DTxt, g_MAX_COIN := ⟨_, PySem.W.mg_of X G gMAX_COIN, ⟨_, rfl⟩⟩, g_MAX_ITEMS := ⟨_, PySem.W.mg_of X G gMAX_ITEMS, ⟨_, rfl⟩⟩ }
  have b_is_arm := F_is_arm.binds (ps := ["value"]) fun _ _ _ _ _ _ us hl => match us, hl with | [_], _ => rfl
  have C_is_arm : Cg l.prog w K mg base CX0 3 "is_arm" ((spP K 1 wArm)) := ⟨_, _, _, ok_arm F_is_arm T_BalTxt C_is_within, PySem.W.mg_of X G a_is_arm, k_is_arm, b_is_arm⟩
  have F_is_mass := fun_mk (st := s_is_mass) l_is_mass c_is_mass k_is_mass
  have b_is_mass := F_is_mass.binds (ps := ["value"]) fun _ _ _ _ _ _ us hl => match us, hl with | [_], _ => rfl
  have C_is_mass : Cg l.prog w K mg base CX0 4 "is_mass" ((spP K 1 wMass)) := ⟨_, _, _, ok_mass F_is_mass T_BalTxt C_is_row C_is_within C_is_arm, PySem.W.mg_of X G a_is_mass, k_is_mass, b_is_mass⟩
  have F_is_plane := fun_mk (st := s_is_plane) l_is_plane c_is_plane k_is_plane
  have b_is_plane := F_is_plane.binds (ps := ["value"]) fun _ _ _ _ _ _ us hl => match us, hl with | [_], _ => rfl
  have C_is_plane : Cg l.prog w K mg base CX0 5 "is_plane" ((spP K 1 wPlane)) := ⟨_, _, _, ok_plane F_is_plane T_BalTxt C_is_row C_is_mass C_is_arm, PySem.W.mg_of X G a_is_plane, k_is_plane, b_is_plane⟩
  have F_is_short := fun_mk (st := s_is_short) l_is_short c_is_short k_is_short
  have b_is_short := F_is_short.binds (ps := ["value", "most"]) fun _ _ _ _ _ _ us hl => match us, hl with | [_, _], _ => rfl
  have C_is_short : Cg l.prog w K mg base CX0 1 "is_short" ((spP K 2 wIsShort)) := ⟨_, _, _, ok_isshort F_is_short T_DTxt, PySem.W.mg_of X G a_is_short, k_is_short, b_is_short⟩
  have F_is_item := fun_mk (st := s_is_item) l_is_item c_is_item k_is_item
  have b_is_item := F_is_item.binds (ps := ["value"]) fun _ _ _ _ _ _ us hl => match us, hl with | [_], _ => rfl
  have C_is_item : Cg l.prog w K mg base CX0 5 "is_item" ((spP K 1 wItem)) := ⟨_, _, _, ok_item F_is_item T_BalTxt C_is_row C_is_mass, PySem.W.mg_of X G a_is_item, k_is_item, b_is_item⟩
  have F_are_unlike := fun_mk (st := s_are_unlike) l_are_unlike c_are_unlike k_are_unlike
  have b_are_unlike := F_are_unlike.binds (ps := ["names"]) fun _ _ _ _ _ _ us hl => match us, hl with | [_], _ => rfl
  have C_are_unlike : Cg l.prog w K mg base CX0 1 "are_unlike" ((spP K 1 wUnlike)) := ⟨_, _, _, ok_unlike F_are_unlike T_DTxt, PySem.W.mg_of X G a_are_unlike, k_are_unlike, b_are_unlike⟩
  have F_require := fun_mk (st := s_require) l_require c_require k_require
  have T_ArgErr : ArgErr K mg C_ArgumentError fI_ArgumentError := { m_ArgumentError := PySem.W.mg_of X G aC_ArgumentError, o_ArgumentError := ⟨⟨_, _, _, _, _, _, _, _, _, _, _, _, _, _, _, xC_ArgumentError, rfl⟩, sa_ArgumentError, eC_ArgumentError, tC_ArgumentError, kC_ArgumentError⟩, x_ArgumentError := ⟨ga_ArgumentError, gg_ArgumentError, eC_ArgumentError, hC_ArgumentError⟩, n_ArgumentError_reason := no_ArgumentError_reason, i_ArgumentError := ai_ArgumentError, t_ArgumentError := ti_ArgumentError }
  have F_ArgumentErrorI := fun_mk (st := s_ArgumentErrorD_initD) li_ArgumentError ci_ArgumentError ki_ArgumentError
  have b_fI_ArgumentError := F_ArgumentErrorI.binds (ps := ["self", "reason"]) fun _ _ _ _ _ _ us hl => match us, hl with | [_, _], _ => rfl
  have fi_ArgumentError := ok_init (P := l.prog) (w := w) (base := base) F_ArgumentErrorI T_ArgErr
  have b_require := F_require.binds (ps := ["holds", "reason"]) fun _ _ _ _ _ _ us hl => match us, hl with | [_, _], _ => rfl
  have C_require : Cg l.prog w K mg base (L2.CX l.prog w) 3 "require" ((spP K 2 (wRequire C_ArgumentError))) := ⟨_, _, _, ok_require F_require T_ArgErr fi_ArgumentError b_fI_ArgumentError, PySem.W.mg_of X G a_require, k_require, b_require⟩
  have F_require_load := fun_mk (st := s_require_load) l_require_load c_require_load k_require_load
  have b_require_load := F_require_load.binds (ps := ["plane", "items"]) fun _ _ _ _ _ _ us hl => match us, hl with | [_, _], _ => rfl
  have C_require_load : Cg l.prog w K mg base (L2.CX l.prog w) 6 "require_load" ((spP K 2 (wReqL C_ArgumentError))) := ⟨_, _, _, ok_reqL F_require_load T_BalTxt C_is_plane C_is_short C_is_item C_are_unlike C_require, PySem.W.mg_of X G a_require_load, k_require_load, b_require_load⟩
  have F_pulling_most := fun_mk (st := s_pulling_most) l_pulling_most c_pulling_most k_pulling_most
  have b_pulling_most := F_pulling_most.binds (ps := ["items", "most", "pulls"]) fun _ _ _ _ _ _ us hl => match us, hl with | [_, _, _], _ => rfl
  have C_pulling_most : Cg l.prog w K mg base CX0 1 "pulling_most" ((spP K 3 wMost)) := ⟨_, _, _, ok_most F_pulling_most T_DTxt, PySem.W.mg_of X G a_pulling_most, k_pulling_most, b_pulling_most⟩
  have F_pull_of := fun_mk (st := s_pull_of) l_pull_of c_pull_of k_pull_of
  have b_pull_of := F_pull_of.binds (ps := ["plane", "mass", "side"]) fun _ _ _ _ _ _ us hl => match us, hl with | [_, _, _], _ => rfl
  have C_pull_of : Cg l.prog w K mg base CX0 1 "pull_of" ((spP K 3 wPull)) := ⟨_, _, _, ok_pull F_pull_of , PySem.W.mg_of X G a_pull_of, k_pull_of, b_pull_of⟩
  have F_pulls_of := fun_mk (st := s_pulls_of) l_pulls_of c_pulls_of k_pulls_of
  have b_pulls_of := F_pulls_of.binds (ps := ["plane", "items", "side"]) fun _ _ _ _ _ _ us hl => match us, hl with | [_, _, _], _ => rfl
  have C_pulls_of : Cg l.prog w K mg base CX0 2 "pulls_of" ((spP K 3 wPulls)) := ⟨_, _, _, ok_pulls F_pulls_of C_pull_of, PySem.W.mg_of X G a_pulls_of, k_pulls_of, b_pulls_of⟩
  have F_slack_without := fun_mk (st := s_slack_without) l_slack_without c_slack_without k_slack_without
  have b_slack_without := F_slack_without.binds (ps := ["plane", "items", "side", "away"]) fun _ _ _ _ _ _ us hl => match us, hl with | [_, _, _, _], _ => rfl
  have C_slack_without : Cg l.prog w K mg base CX0 2 "slack_without" ((spP K 4 wSlack)) := ⟨_, _, _, ok_slack F_slack_without T_DTxt C_pull_of, PySem.W.mg_of X G a_slack_without, k_slack_without, b_slack_without⟩
  have F_balanced := fun_mk (st := s_balanced) l_balanced c_balanced k_balanced
  have T_SidTxt : SidTxt K mg A_SIDES := { toBalTxt := T_BalTxt, g_SIDES := ⟨_, PySem.W.mg_of X G gSIDES, rfl⟩, dS := sides_top lSIDES vSIDES }
  have b_balanced := F_balanced.binds (ps := ["plane", "items", "most"]) fun _ _ _ _ _ _ us hl => match us, hl with | [_, _, _], _ => rfl
  have C_balanced : Cg l.prog w K mg base (L2.CX l.prog w) 7 "balanced" ((spP K 3 (wBal C_ArgumentError))) := ⟨_, _, _, ok_bal F_balanced T_SidTxt C_require_load C_is_within C_require C_pulling_most C_pulls_of C_slack_without, PySem.W.mg_of X G a_balanced, k_balanced, b_balanced⟩
  have F_are_same := fun_mk (st := s_are_same) l_are_same c_are_same k_are_same
  have b_are_same := F_are_same.binds (ps := ["one", "other"]) fun _ _ _ _ _ _ us hl => match us, hl with | [_, _], _ => rfl
  have C_are_same : Cg l.prog w K mg base CX0 6 "are_same" ((spP K 2 (wSame 6))) := ⟨_, _, _, ok_same F_are_same T_DTxt (PySem.W.mg_of X G a_are_same) k_are_same b_are_same, PySem.W.mg_of X G a_are_same, k_are_same, b_are_same⟩
  have F_are_strings := fun_mk (st := s_are_strings) l_are_strings c_are_strings k_are_strings
  have b_are_strings := F_are_strings.binds (ps := ["value"]) fun _ _ _ _ _ _ us hl => match us, hl with | [_], _ => rfl
  have C_are_strings : Cg l.prog w K mg base CX0 2 "are_strings" ((spP K 1 wAreStrs)) := ⟨_, _, _, ok_arestrs F_are_strings T_DTxt, PySem.W.mg_of X G a_are_strings, k_are_strings, b_are_strings⟩
  have F_are_away := fun_mk (st := s_are_away) l_are_away c_are_away k_are_away
  have b_are_away := F_are_away.binds (ps := ["items", "most", "names"]) fun _ _ _ _ _ _ us hl => match us, hl with | [_, _, _], _ => rfl
  have C_are_away : Cg l.prog w K mg base CX0 3 "are_away" ((spP K 3 wAway)) := ⟨_, _, _, ok_away F_are_away T_DTxt C_is_short C_are_strings C_are_unlike, PySem.W.mg_of X G a_are_away, k_are_away, b_are_away⟩
  have F_accept_balanced := fun_mk (st := s_accept_balanced) l_accept_balanced c_accept_balanced k_accept_balanced
  have T_PapErr : PapErr K mg C_PaperError fI_PaperError := { m_PaperError := PySem.W.mg_of X G aC_PaperError, o_PaperError := ⟨⟨_, _, _, _, _, _, _, _, _, _, _, _, _, _, _, xC_PaperError, rfl⟩, sa_PaperError, eC_PaperError, tC_PaperError, kC_PaperError⟩, x_PaperError := ⟨ga_PaperError, gg_PaperError, eC_PaperError, hC_PaperError⟩, n_PaperError_reason := no_PaperError_reason, i_PaperError := ai_PaperError, t_PaperError := ti_PaperError }
  have T_AccTxt : AccTxt K mg A_SIDES C_PaperError fI_PaperError := { toSidTxt := T_SidTxt, toPapErr := T_PapErr }
  have F_PaperErrorI := fun_mk (st := s_PaperErrorD_initD) li_PaperError ci_PaperError ki_PaperError
  have b_fI_PaperError := F_PaperErrorI.binds (ps := ["self", "reason"]) fun _ _ _ _ _ _ us hl => match us, hl with | [_, _], _ => rfl
  have fi_PaperError := ok_initp (P := l.prog) (w := w) (base := base) F_PaperErrorI T_PapErr
  have b_accept_balanced := F_accept_balanced.binds (ps := ["plane", "items", "most", "told"]) fun _ _ _ _ _ _ us hl => match us, hl with | [_, _, _, _], _ => rfl
  have C_accept_balanced : Cg l.prog w K mg base (L2.CX l.prog w) 8 "accept_balanced" ((spP K 4 (wAcc C_ArgumentError C_PaperError))) := ⟨_, _, _, ok_acc F_accept_balanced T_AccTxt C_balanced C_is_row C_are_same C_are_away C_slack_without fi_PaperError b_fI_PaperError, PySem.W.mg_of X G a_accept_balanced, k_accept_balanced, b_accept_balanced⟩
  have F_is_order := fun_mk (st := s_is_order) l_is_order c_is_order k_is_order
  have b_is_order := F_is_order.binds (ps := ["items", "value"]) fun _ _ _ _ _ _ us hl => match us, hl with | [_, _], _ => rfl
  have C_is_order : Cg l.prog w K mg base CX0 3 "is_order" ((spP K 2 wOrder)) := ⟨_, _, _, ok_order F_is_order T_DTxt C_are_strings, PySem.W.mg_of X G a_is_order, k_is_order, b_is_order⟩
  have F_boarded := fun_mk (st := s_boarded) l_boarded c_boarded k_boarded
  have b_boarded := F_boarded.binds (ps := ["plane", "items", "order"]) fun _ _ _ _ _ _ us hl => match us, hl with | [_, _, _], _ => rfl
  have C_boarded : Cg l.prog w K mg base (L2.CX l.prog w) 7 "boarded" ((spP K 3 (wBrd C_ArgumentError))) := ⟨_, _, _, ok_brd F_boarded T_SidTxt C_require_load C_is_order C_require C_slack_without, PySem.W.mg_of X G a_boarded, k_boarded, b_boarded⟩
  have F__law_longer := fun_mk (st := s_law_longer) l__law_longer c__law_longer k__law_longer
  have b__law_longer := F__law_longer.binds (ps := ["level", "count"]) fun _ _ _ _ _ _ us hl => match us, hl with | [_, _], _ => rfl
  have C__law_longer : Cg l.prog w K mg base CX0 1 "_law_longer" ((spP K 2 wLonger)) := ⟨_, _, _, ok_longer F__law_longer T_DTxt, PySem.W.mg_of X G a__law_longer, k__law_longer, b__law_longer⟩
  have F__law_sets := fun_mk (st := s_law_sets) l__law_sets c__law_sets k__law_sets
  have b__law_sets := F__law_sets.binds (ps := ["count", "most"]) fun _ _ _ _ _ _ us hl => match us, hl with | [_, _], _ => rfl
  have C__law_sets : Cg l.prog w K mg base CX0 2 "_law_sets" ((spP K 2 wSets)) := ⟨_, _, _, ok_sets F__law_sets T_DTxt C__law_longer, PySem.W.mg_of X G a__law_sets, k__law_sets, b__law_sets⟩
  have F__law_away := fun_mk (st := s_law_away) l__law_away c__law_away k__law_away
  have b__law_away := F__law_away.binds (ps := ["items", "names"]) fun _ _ _ _ _ _ us hl => match us, hl with | [_, _], _ => rfl
  have C__law_away : Cg l.prog w K mg base CX0 1 "_law_away" ((spP K 2 wLAway)) := ⟨_, _, _, ok_laway F__law_away , PySem.W.mg_of X G a__law_away, k__law_away, b__law_away⟩
  have F__law_moment := fun_mk (st := s_law_moment) l__law_moment c__law_moment k__law_moment
  have b__law_moment := F__law_moment.binds (ps := ["plane", "items", "place"]) fun _ _ _ _ _ _ us hl => match us, hl with | [_, _, _], _ => rfl
  have C__law_moment : Cg l.prog w K mg base CX0 1 "_law_moment" ((spP K 3 wLMom)) := ⟨_, _, _, ok_lmom F__law_moment , PySem.W.mg_of X G a__law_moment, k__law_moment, b__law_moment⟩
  have F__law_extreme := fun_mk (st := s_law_extreme) l__law_extreme c__law_extreme k__law_extreme
  have b__law_extreme := F__law_extreme.binds (ps := ["plane", "items", "most", "side"]) fun _ _ _ _ _ _ us hl => match us, hl with | [_, _, _, _], _ => rfl
  have C__law_extreme : Cg l.prog w K mg base CX0 3 "_law_extreme" ((spP K 4 wExt)) := ⟨_, _, _, ok_extreme F__law_extreme T_DTxt C__law_sets C__law_away C__law_moment, PySem.W.mg_of X G a__law_extreme, k__law_extreme, b__law_extreme⟩
  have F__law_due := fun_mk (st := s_law_due) l__law_due c__law_due k__law_due
  have b__law_due := F__law_due.binds (ps := ["plane", "items", "most"]) fun _ _ _ _ _ _ us hl => match us, hl with | [_, _, _], _ => rfl
  have C__law_due : Cg l.prog w K mg base CX0 4 "_law_due" ((spP K 3 wLDue)) := ⟨_, _, _, ok_ldue F__law_due C__law_extreme, PySem.W.mg_of X G a__law_due, k__law_due, b__law_due⟩
  have F__law_tips := fun_mk (st := s_law_tips) l__law_tips c__law_tips k__law_tips
  have b__law_tips := F__law_tips.binds (ps := ["plane", "items", "names"]) fun _ _ _ _ _ _ us hl => match us, hl with | [_, _, _], _ => rfl
  have C__law_tips : Cg l.prog w K mg base CX0 2 "_law_tips" ((spP K 3 wLTips)) := ⟨_, _, _, ok_ltips F__law_tips C__law_away C__law_moment, PySem.W.mg_of X G a__law_tips, k__law_tips, b__law_tips⟩
  have F__law_boarded := fun_mk (st := s_law_boarded) l__law_boarded c__law_boarded k__law_boarded
  have b__law_boarded := F__law_boarded.binds (ps := ["plane", "items", "order"]) fun _ _ _ _ _ _ us hl => match us, hl with | [_, _, _], _ => rfl
  have C__law_boarded : Cg l.prog w K mg base CX0 3 "_law_boarded" ((spP K 3 wLBrd)) := ⟨_, _, _, ok_lbrd F__law_boarded T_DTxt C__law_tips, PySem.W.mg_of X G a__law_boarded, k__law_boarded, b__law_boarded⟩
  have F__law_great_right := fun_mk (st := s_law_great_right) l__law_great_right c__law_great_right k__law_great_right
  have b__law_great_right := F__law_great_right.binds (ps := ["plane", "items", "most", "draws", "at"]) fun _ _ _ _ _ _ us hl => match us, hl with | [_, _, _, _, _], _ => rfl
  have C__law_great_right : Cg l.prog w K mg base CX0 9 "_law_great_right" ((spD K 5 wGreat)) := ⟨_, _, _, ok_great F__law_great_right T_DTxt C__law_take C__law_away C__law_moment C__law_tips (C_balanced).calm (C_accept_balanced).calm, PySem.W.mg_of X G a__law_great_right, k__law_great_right, b__law_great_right⟩
  have F_law := fun_mk (st := s_law) l_law c_law k_law
  have T_LawTop : LawTop mg := { toDTxt := T_DTxt }
  exact ok_law F_law T_LawTop C__law_draws C__law_take C__law_one C__law_plane C__law_items C__law_arm_right (C_balanced).calm (C_accept_balanced).calm (C_boarded).calm C__law_due C__law_boarded C__law_great_right
end Mine
open PySem PySem.W PyProof.Rows
set_option maxHeartbeats 0 in
theorem PySem.Challenge.cw_interline_k81_whole_balanced_planes_holds : PySem.Challenge.rw_interline_k81_whole_balanced_planes.Holds := by
  w_on; o_law; k_head; (case hw => w_witness2)
  k_fill
  refine Ln.walkG (l := PySem.Challenge.rw_interline_k81_whole_balanced_planes) (n := 63) (k := 10) (x := "script") (CX := fun _ => L2.CX0) (sp := fun w => Mine.spLaw _) rfl (by decide) rfl ⟨rfl, by decide, by decide⟩ (fun w h Y => PySem.W.kIn_of Y) ?F (fun _ _ a ns hl _ hS => ⟨a, ns, rfl, hS, hl, fun _ => rfl⟩) (fun _ _ _ _ _ h => h)
  case F =>
    intro w mg fa h KX G hmg
    refine' Mine.all_mk KX G hmg ?aC_ArgumentError ?xC_ArgumentError ?sa_ArgumentError ?ga_ArgumentError ?gg_ArgumentError ?no_ArgumentError_reason ?kC_ArgumentError ?eC_ArgumentError ?tC_ArgumentError ?hC_ArgumentError ?iC_ArgumentError ?sC_ArgumentError ?ai_ArgumentError ?ti_ArgumentError ?li_ArgumentError ?ci_ArgumentError ?ki_ArgumentError ?aC_PaperError ?xC_PaperError ?sa_PaperError ?ga_PaperError ?gg_PaperError ?no_PaperError_reason ?kC_PaperError ?eC_PaperError ?tC_PaperError ?hC_PaperError ?iC_PaperError ?sC_PaperError ?ai_PaperError ?ti_PaperError ?li_PaperError ?ci_PaperError ?ki_PaperError ?gMAX_COIN ?gMAX_ITEMS ?a__law_draws ?l__law_draws ?c__law_draws ?k__law_draws ?a__law_more ?l__law_more ?c__law_more ?k__law_more ?a__law_take ?l__law_take ?c__law_take ?k__law_take ?a__law_one ?l__law_one ?c__law_one ?k__law_one ?a__law_place ?l__law_place ?c__law_place ?k__law_place ?a__law_plane ?l__law_plane ?c__law_plane ?k__law_plane ?a__law_items ?l__law_items ?c__law_items ?k__law_items ?a__law_arm_right ?l__law_arm_right ?c__law_arm_right ?k__law_arm_right ?a_is_row ?l_is_row ?c_is_row ?k_is_row ?a_is_integer ?l_is_integer ?c_is_integer ?k_is_integer ?a_is_within ?l_is_within ?c_is_within ?k_is_within ?a_is_arm ?l_is_arm ?c_is_arm ?k_is_arm ?a_is_mass ?l_is_mass ?c_is_mass ?k_is_mass ?a_is_plane ?l_is_plane ?c_is_plane ?k_is_plane ?a_is_short ?l_is_short ?c_is_short ?k_is_short ?a_is_item ?l_is_item ?c_is_item ?k_is_item ?a_are_unlike ?l_are_unlike ?c_are_unlike ?k_are_unlike ?a_require ?l_require ?c_require ?k_require ?a_require_load ?l_require_load ?c_require_load ?k_require_load ?a_pulling_most ?l_pulling_most ?c_pulling_most ?k_pulling_most ?a_pull_of ?l_pull_of ?c_pull_of ?k_pull_of ?a_pulls_of ?l_pulls_of ?c_pulls_of ?k_pulls_of ?a_slack_without ?l_slack_without ?c_slack_without ?k_slack_without ?a_balanced ?l_balanced ?c_balanced ?k_balanced ?a_are_same ?l_are_same ?c_are_same ?k_are_same ?a_are_strings ?l_are_strings ?c_are_strings ?k_are_strings ?a_are_away ?l_are_away ?c_are_away ?k_are_away ?a_accept_balanced ?l_accept_balanced ?c_accept_balanced ?k_accept_balanced ?a_is_order ?l_is_order ?c_is_order ?k_is_order ?a_boarded ?l_boarded ?c_boarded ?k_boarded ?a__law_longer ?l__law_longer ?c__law_longer ?k__law_longer ?a__law_sets ?l__law_sets ?c__law_sets ?k__law_sets ?a__law_away ?l__law_away ?c__law_away ?k__law_away ?a__law_moment ?l__law_moment ?c__law_moment ?k__law_moment ?a__law_extreme ?l__law_extreme ?c__law_extreme ?k__law_extreme ?a__law_due ?l__law_due ?c__law_due ?k__law_due ?a__law_tips ?l__law_tips ?c__law_tips ?k__law_tips ?a__law_boarded ?l__law_boarded ?c__law_boarded ?k__law_boarded ?a__law_great_right ?l__law_great_right ?c__law_great_right ?k__law_great_right ?a_law ?l_law ?c_law ?k_law ?gSIDES ?lSIDES ?vSIDES ?z_abs ?z_all ?z_any ?z_bool ?z_dict ?z_enumerate ?z_int ?z_isinstance ?z_len ?z_list ?z_max ?z_min ?z_range ?z_repr ?z_reversed ?z_set ?z_sorted ?z_str ?z_sum ?z_tuple ?z_zip
    (case aC_ArgumentError => k_is)
    (case xC_ArgumentError => k_is)
    (case sa_ArgumentError => k_is)
    (case ga_ArgumentError => k_is)
    (case gg_ArgumentError => k_is)
    (case no_ArgumentError_reason => k_is)
    (case kC_ArgumentError => k_is)
    (case eC_ArgumentError => k_is)
    (case tC_ArgumentError => k_is)
    (case hC_ArgumentError => k_is)
    (case iC_ArgumentError => k_is)
    (case sC_ArgumentError => first | rfl | k_is)
    (case ai_ArgumentError => k_is)
    (case ti_ArgumentError => k_is)
    (case li_ArgumentError => k_is)
    (case ci_ArgumentError => k_is)
    (case ki_ArgumentError => k_is)
    (case aC_PaperError => k_is)
    (case xC_PaperError => k_is)
    (case sa_PaperError => k_is)
    (case ga_PaperError => k_is)
    (case gg_PaperError => k_is)
    (case no_PaperError_reason => k_is)
    (case kC_PaperError => k_is)
    (case eC_PaperError => k_is)
    (case tC_PaperError => k_is)
    (case hC_PaperError => k_is)
    (case iC_PaperError => k_is)
    (case sC_PaperError => first | rfl | k_is)
    (case ai_PaperError => k_is)
    (case ti_PaperError => k_is)
    (case li_PaperError => k_is)
    (case ci_PaperError => k_is)
    (case ki_PaperError => k_is)
    (case gMAX_COIN => k_is)
    (case gMAX_ITEMS => k_is)
    (case a__law_draws => k_is)
    (case l__law_draws => k_is)
    (case c__law_draws => k_is)
    (case k__law_draws => k_is)
    (case a__law_more => k_is)
    (case l__law_more => k_is)
    (case c__law_more => k_is)
    (case k__law_more => k_is)
    (case a__law_take => k_is)
    (case l__law_take => k_is)
    (case c__law_take => k_is)
    (case k__law_take => k_is)
    (case a__law_one => k_is)
    (case l__law_one => k_is)
    (case c__law_one => k_is)
    (case k__law_one => k_is)
    (case a__law_place => k_is)
    (case l__law_place => k_is)
    (case c__law_place => k_is)
    (case k__law_place => k_is)
    (case a__law_plane => k_is)
    (case l__law_plane => k_is)
    (case c__law_plane => k_is)
    (case k__law_plane => k_is)
    (case a__law_items => k_is)
    (case l__law_items => k_is)
    (case c__law_items => k_is)
    (case k__law_items => k_is)
    (case a__law_arm_right => k_is)
    (case l__law_arm_right => k_is)
    (case c__law_arm_right => k_is)
    (case k__law_arm_right => k_is)
    (case a_is_row => k_is)
    (case l_is_row => k_is)
    (case c_is_row => k_is)
    (case k_is_row => k_is)
    (case a_is_integer => k_is)
    (case l_is_integer => k_is)
    (case c_is_integer => k_is)
    (case k_is_integer => k_is)
    (case a_is_within => k_is)
    (case l_is_within => k_is)
    (case c_is_within => k_is)
    (case k_is_within => k_is)
    (case a_is_arm => k_is)
    (case l_is_arm => k_is)
    (case c_is_arm => k_is)
    (case k_is_arm => k_is)
    (case a_is_mass => k_is)
    (case l_is_mass => k_is)
    (case c_is_mass => k_is)
    (case k_is_mass => k_is)
    (case a_is_plane => k_is)
    (case l_is_plane => k_is)
    (case c_is_plane => k_is)
    (case k_is_plane => k_is)
    (case a_is_short => k_is)
    (case l_is_short => k_is)
    (case c_is_short => k_is)
    (case k_is_short => k_is)
    (case a_is_item => k_is)
    (case l_is_item => k_is)
    (case c_is_item => k_is)
    (case k_is_item => k_is)
    (case a_are_unlike => k_is)
    (case l_are_unlike => k_is)
    (case c_are_unlike => k_is)
    (case k_are_unlike => k_is)
    (case a_require => k_is)
    (case l_require => k_is)
    (case c_require => k_is)
    (case k_require => k_is)
    (case a_require_load => k_is)
    (case l_require_load => k_is)
    (case c_require_load => k_is)
    (case k_require_load => k_is)
    (case a_pulling_most => k_is)
    (case l_pulling_most => k_is)
    (case c_pulling_most => k_is)
    (case k_pulling_most => k_is)
    (case a_pull_of => k_is)
    (case l_pull_of => k_is)
    (case c_pull_of => k_is)
    (case k_pull_of => k_is)
    (case a_pulls_of => k_is)
    (case l_pulls_of => k_is)
    (case c_pulls_of => k_is)
    (case k_pulls_of => k_is)
    (case a_slack_without => k_is)
    (case l_slack_without => k_is)
    (case c_slack_without => k_is)
    (case k_slack_without => k_is)
    (case a_balanced => k_is)
    (case l_balanced => k_is)
    (case c_balanced => k_is)
    (case k_balanced => k_is)
    (case a_are_same => k_is)
    (case l_are_same => k_is)
    (case c_are_same => k_is)
    (case k_are_same => k_is)
    (case a_are_strings => k_is)
    (case l_are_strings => k_is)
    (case c_are_strings => k_is)
    (case k_are_strings => k_is)
    (case a_are_away => k_is)
    (case l_are_away => k_is)
    (case c_are_away => k_is)
    (case k_are_away => k_is)
    (case a_accept_balanced => k_is)
    (case l_accept_balanced => k_is)
    (case c_accept_balanced => k_is)
    (case k_accept_balanced => k_is)
    (case a_is_order => k_is)
    (case l_is_order => k_is)
    (case c_is_order => k_is)
    (case k_is_order => k_is)
    (case a_boarded => k_is)
    (case l_boarded => k_is)
    (case c_boarded => k_is)
    (case k_boarded => k_is)
    (case a__law_longer => k_is)
    (case l__law_longer => k_is)
    (case c__law_longer => k_is)
    (case k__law_longer => k_is)
    (case a__law_sets => k_is)
    (case l__law_sets => k_is)
    (case c__law_sets => k_is)
    (case k__law_sets => k_is)
    (case a__law_away => k_is)
    (case l__law_away => k_is)
    (case c__law_away => k_is)
    (case k__law_away => k_is)
    (case a__law_moment => k_is)
    (case l__law_moment => k_is)
    (case c__law_moment => k_is)
    (case k__law_moment => k_is)
    (case a__law_extreme => k_is)
    (case l__law_extreme => k_is)
    (case c__law_extreme => k_is)
    (case k__law_extreme => k_is)
    (case a__law_due => k_is)
    (case l__law_due => k_is)
    (case c__law_due => k_is)
    (case k__law_due => k_is)
    (case a__law_tips => k_is)
    (case l__law_tips => k_is)
    (case c__law_tips => k_is)
    (case k__law_tips => k_is)
    (case a__law_boarded => k_is)
    (case l__law_boarded => k_is)
    (case c__law_boarded => k_is)
    (case k__law_boarded => k_is)
    (case a__law_great_right => k_is)
    (case l__law_great_right => k_is)
    (case c__law_great_right => k_is)
    (case k__law_great_right => k_is)
    (case a_law => k_is)
    (case l_law => k_is)
    (case c_law => k_is)
    (case k_law => k_is)
    (case gSIDES => k_is)
    (case lSIDES => k_is)
    (case vSIDES => rfl)
    (case z_abs => k_is)
    (case z_all => k_is)
    (case z_any => k_is)
    (case z_bool => k_is)
    (case z_dict => k_is)
    (case z_enumerate => k_is)
    (case z_int => k_is)
    (case z_isinstance => k_is)
    (case z_len => k_is)
    (case z_list => k_is)
    (case z_max => k_is)
    (case z_min => k_is)
    (case z_range => k_is)
    (case z_repr => k_is)
    (case z_reversed => k_is)
    (case z_set => k_is)
    (case z_sorted => k_is)
    (case z_str => k_is)
    (case z_sum => k_is)
    (case z_tuple => k_is)
    (case z_zip => k_is)
#print axioms PySem.Challenge.cw_interline_k81_whole_balanced_planes_holds
