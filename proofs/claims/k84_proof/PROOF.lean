import PyProof.Rows.All
import Wide.All
import OpenK.AllK
import Wide.FinOn
import PyProof.EqAt
import PyProof.EqKinds
import PyProof.TupleCall
import PyProof.ReprRoads
import HandS.ForMost
import HandS.ForExc
import HandS.ExcInit
import HandS.ExcField
import HandS.IsInst
import HandS.Codes
import HandS.Conv
import HandS.Flow
import HandS.SortRule
import HandS.TupMul
import HandS.TupAny
import HandS.Walk
import PyProof.ReprLen
import HandS.TryMany
import HandS.ExcIs
import HandS.HotCalls
import KE.GoesEnum
import HandS.Iter
import HandS.Comp
import HandS.DictComp
import KE.SortData
import HandS.Strs
import HandS.SortKw
import KE.DataMinMax
import HandS.Style
import HandS.Deep
import HandS.Zip
import HandS.Dict
import PyProof.DictUpdate
import PyProof.Rows.ReprOcc
import HandS.WideBits
import PySem.Challenge.RW_interline_k84_whole_seated_groups
import HandS.Words
set_option Elab.async false
set_option linter.all false
set_option maxRecDepth 100000
set_option maxHeartbeats 4000000
namespace Ln
open PySem PySem.Spec PyProof.Rows L2
/-! ## contracts that know that no display is under way -/
structure FnG (P : Program) (w : World) (K : PySem.W.Frag) (mg : Str → Option Value) (base : Heap) (CX : CXT) (k : Nat) (f : Addr) (fd : FuncData) (ps : List Str) (sp : Sp) : Prop where
  len : ∀ vs H Q E, sp vs H Q E → vs.length = ps.length
  run : ∀ (A : Around) (outer : List Env) (s : Shared) (H : Hp) (args : Args) (us : List Value) (vs : List V) (Q : VK) (E : XK), A.guards = some [] → Room k A → Env0 P w K mg base A outer s H →
    BindsTo s fd args (ps.zip us) → Vals vs us → sp vs H Q E → codeAny (model P w) A (.call (.ref f) args) (CR CX outer P w H s Q E) s
section
variable {P : Program} {w : World} {K : PySem.W.Frag} {mg : Str → Option Value} {base : Heap} {CX : CXT}
theorem FnG.mono {j k : Nat} {f : Addr} {fd : FuncData} {ps : List Str} {sp : Sp} (F : FnG P w K mg base CX j f fd ps sp) (h : j ≤ k) : FnG P w K mg base CX k f fd ps sp :=
  ⟨F.len, fun A o s H args us vs Q E hG hr => F.run A o s H args us vs Q E hG (hr.mono h)⟩
/-- the body of a def, walked where nothing is being shown -/
theorem fnG_of {k : Nat} {f : Addr} {name qual : Str} {params : Arguments} {body : List Stmt} {scope : Scope} {dV kV doc pm cdv ct oc : Value} {an od : Option Addr} {osl : Array (Option Value)} {N ps : List Str} {sp : Sp}
    (lk : K.lookup f = some ⟨oc, od, .func (PySem.W.fnOf name qual params body scope dV kV doc pm an cdv ct), osl⟩) (hcd : PySem.W.codeIn K cdv qual = true) (S : FnScope N ps scope) (len : ∀ vs H Q E, sp vs H Q E → vs.length = ps.length)
    (hbody : ∀ (A : Around) (outer : List Env) (s : Shared) (H : Hp) (vs : List V) (Q : VK) (E : XK), A.guards = some [] → Room k (A.deeper (envOfC qual scope s.heap.objs.size f cdv)) → sp vs H Q E →
      ∃ t, PSs (cxOf CX P w K mg base N qual scope f cdv A outer s H E) body t ∧ t { nx := fun _ H' => Q .non H', rt := Q } (start N vs) H) :
    FnG P w K mg base CX (k + 1) f (PySem.W.fnOf name qual params body scope dV kV doc pm an cdv ct) ps sp := by
  constructor
  · exact len
  intro A outer s H args us vs Q E hG hr e0 hb r hsp
  have hl := len _ _ _ _ hsp
  have KX : K.In s.heap := e0.mod.kin.keeps fun b o e => (e0.bs b o e).1
  have lim : s.heap.NoLimit := e0.mod.nolimit.keeps fun b o e => (e0.bs b o e).1
  have hkind : ∀ y ∈ ps.zip us, scope.names.lookup y.1 = some .local ∨ (scope.names.lookup y.1 = some .cell ∧ ((cellsFrom (s.heap.objs.size + 1) scope.names []).lookup y.1).isSome = true) := by
    rintro ⟨n, v⟩ hy
    cases S.par n (List.of_mem_zip hy).1 with
    | inl q => exact .inl q
    | inr q => exact .inr ⟨q, PySem.W.cellsFrom_some _ _ _ (.inl q)⟩
  apply codeAny_call_function hr.depth (KX _ _ lk) rfl S.co S.gen rfl (PySem.W.codeRec_of KX hcd) (hb _ _ _ _ ?_)
  apply wpAny_newFunctionEnv_cells S.kind hkind
  intro env he s1 x
  subst he
  constructor
  · exact lim.keeps x.toInCall.keep
  apply codeAny_func
  obtain ⟨t, ht, hq⟩ := hbody A outer s H vs Q E hG (hr.deeper _) hsp
  have I : Inv (cxOf CX P w K mg base N qual scope f cdv A outer s H E) [] (start N vs) H s1 := inv_start S hr.hd e0 hl r x
  apply wpAny_mono (ht.run [] s1 (start N vs) H _ I hq) _ (fun e s' hs => hs)
  intro fl s' hs
  cases fl with
  | ret u =>
    obtain ⟨v, σ', H', J, rv, q⟩ := hs
    exact ⟨v, H', J.os, J.bare, J.base, J.hok, rv, q⟩
  | next =>
    obtain ⟨σ', H', J, q⟩ := hs
    exact ⟨V.non, H', J.os, J.bare, J.base, J.hok, rfl, q⟩
  | brk =>
    obtain ⟨_, _, _, q⟩ := hs
    cases q
  | cont =>
    obtain ⟨_, _, _, q⟩ := hs
    cases q
/-- a def of the text that lets nothing out -/
theorem okG {x qual : Str} {st : Stmt} {f : Addr} {fd : FuncData} {N ps : List Str} {k : Nat} {sp : Sp} (F : Fun K x qual st f fd) (S : FnScope N ps (defScope st)) (len : ∀ vs H Q E, sp vs H Q E → vs.length = ps.length)
    (hbody : ∀ (cdv : Value) (A : Around) (outer : List Env) (s : Shared) (H : Hp) (vs : List V) (Q : VK) (E : XK), A.guards = some [] → Room k (A.deeper (envOfC qual (defScope st) s.heap.objs.size f cdv)) → sp vs H Q E →
      ∃ t, PSs (cxOf CX0 P w K mg base N qual (defScope st) f cdv A outer s H E).nox (defBody st) t ∧ t { nx := fun _ H' => Q .non H', rt := Q } (start N vs) H) : FnG P w K mg base CX0 (k + 1) f fd ps sp := by
  obtain ⟨oc, od, kV, doc, pm, an, cdv, ct, osl, rfl, lk, hcd⟩ := F.ex
  apply fnG_of lk hcd S len
  intro A outer s H vs Q E hG hr hsp
  obtain ⟨t, h, q⟩ := hbody cdv A outer s H vs Q E hG hr hsp
  exact ⟨t, h.nox, q⟩
/-- one that may raise -/
theorem okX {x qual : Str} {st : Stmt} {f : Addr} {fd : FuncData} {N ps : List Str} {k : Nat} {sp : Sp} (F : Fun K x qual st f fd) (S : FnScope N ps (defScope st)) (len : ∀ vs H Q E, sp vs H Q E → vs.length = ps.length)
    (hbody : ∀ (cdv : Value) (A : Around) (outer : List Env) (s : Shared) (H : Hp) (vs : List V) (Q : VK) (E : XK), A.guards = some [] → Room k (A.deeper (envOfC qual (defScope st) s.heap.objs.size f cdv)) → sp vs H Q E →
      ∃ t, PSs (cxOf (L2.CX P w) P w K mg base N qual (defScope st) f cdv A outer s H E) (defBody st) t ∧ t { nx := fun _ H' => Q .non H', rt := Q } (start N vs) H) : FnG P w K mg base (L2.CX P w) (k + 1) f fd ps sp := by
  obtain ⟨oc, od, kV, doc, pm, an, cdv, ct, osl, rfl, lk, hcd⟩ := F.ex
  exact fnG_of lk hcd S len fun A outer s H vs Q E hG hr hsp => hbody cdv A outer s H vs Q E hG hr hsp
/-- a def that may be called by its name -/
structure Cg (P : Program) (w : World) (K : PySem.W.Frag) (mg : Str → Option Value) (base : Heap) (CX : CXT) (k : Nat) (x : Str) (sp : Sp) : Prop where
  ex : ∃ (f : Addr) (fd : FuncData) (ps : List Str), FnG P w K mg base CX k f fd ps sp ∧ mg x = some (.ref f) ∧ PySem.W.keepIn K (.ref f) = true ∧ Binds K fd ps []
end
section
variable {X : Cx} {CX : CXT} {j k : Nat} {f : Addr} {fd : FuncData} {ps : List Str} {sp : Sp} {E : XK} {ES : L2.St → XK} {x : Str} {p pos : Pos} {e : Expr} {es : List Expr} {t : TA}
theorem runG {pins : List (Addr × Obj)} {σ : L2.St} {H : Hp} {s : Shared} {Q : VK} {us : List Value} {vs : List V} (F : FnG X.prog X.w X.K X.mg X.base CX k f fd ps sp) (hr : Room k X.A) (hG : X.A.guards = some []) (hb : Binds X.K fd ps [])
    (hx : PassesAt CX X σ E) (I : Inv X pins σ H s) (r : Vals vs us) (h : sp vs H Q E) : wpAny (model X.prog X.w) X.A (call (.ref f) us) (EP X pins σ Q) X.xe s := by
  have hl : us.length = ps.length := by rw [← r.length]; exact F.len _ _ _ _ h
  apply wpAny_call (codeAny_mono (F.run X.A X.stack s H ⟨us, []⟩ us vs Q E hG hr I.env0 (by have q := hb s us I.kIn (by simpa using hl); simpa using q) r h) _)
  intro r s' hq
  cases r with
  | error e => exact hx pins H s e s' I hq
  | ok fl =>
    cases fl with
    | ret u => exact I.after hq
    | next => exact hq.elim
    | brk => exact hq.elim
    | cont => exact hq.elim
/-- the reading of a call -/
def tCg (sp : Sp) (E : L2.St → XK) (t : TA) : TE := fun σ H Q => t σ H fun vs H1 => sp vs H1 Q (E σ)
theorem pe_cgS (c : Cg X.prog X.w X.K X.mg X.base CX k x sp) (hr : Room j X.A) (hk : k ≤ j) (hG : X.A.guards = some []) (hx : ∀ σ, PassesAt CX X σ (ES σ)) (hg : Gl X x) (ha : PA X (e :: es) t)
    (hdb : (x == ("__debug__" : Str)) = false := by decide) (he : starEach (e :: es) X.env = (false, eval e X.env) :: starEach es X.env := by rfl) (hpl : (backTo pos (starEach es X.env)).any (·.1) = false := by rfl) :
    PE X (.Call (.Name x p) (e :: es) [] pos) (tCg sp ES t) := by
  constructor
  intro pins s σ H Q I h
  obtain ⟨f, fd, ps, F, hm, kp, b⟩ := c.ex
  apply wpAny_Call_Name_kw (ld_glob I hg hm ?_ hdb)
  apply PySem.W.callWith_K (h₀ := X.base) I.ok.mod.kin kp (thn (ha.run pos pins s σ H _ I h) _) he hpl
  rintro us s1 ⟨vs, H1, I1, r, q⟩
  exact ⟨I1.kIn, runG F (hr.mono hk) hG b (hx σ) I1 r q⟩
theorem pe_cgS0 (c : Cg X.prog X.w X.K X.mg X.base CX k x sp) (hr : Room j X.A) (hk : k ≤ j) (hG : X.A.guards = some []) (hx : ∀ σ, PassesAt CX X σ (ES σ)) (hg : Gl X x)
    (hdb : (x == ("__debug__" : Str)) = false := by decide) : PE X (.Call (.Name x p) [] [] pos) (tCg sp ES tNil) := by
  constructor
  intro pins s σ H Q I h
  obtain ⟨f, fd, ps, F, hm, kp, b⟩ := c.ex
  apply wpAny_Call_Name_kw (ld_glob I hg hm ?_ hdb)
  exact PySem.W.callWith_K0 I.kIn kp (runG (us := []) F (hr.mono hk) hG b (hx σ) I .nil h)
theorem passE (tk : Takes X (fun cls d _ H => E cls d H)) {σ : L2.St} : PassesAt (L2.CX X.prog X.w) X σ E := fun _ _ _ e s' I c => tk e s' (XE.of_call I (fun _ _ _ h => h) c)
theorem passAt0 (σ : L2.St) : PassesAt CX0 X σ E0 := fun _ _ _ _ _ _ h => h.elim
/-- a call of a def that lets nothing out -/
theorem pe_cg (c : Cg X.prog X.w X.K X.mg X.base CX0 k x sp) (hr : Room j X.A) (hk : k ≤ j) (hG : X.A.guards = some []) (hg : Gl X x) (ha : PA X (e :: es) t)
    (hdb : (x == ("__debug__" : Str)) = false := by decide) (he : starEach (e :: es) X.env = (false, eval e X.env) :: starEach es X.env := by rfl) (hpl : (backTo pos (starEach es X.env)).any (·.1) = false := by rfl) :
    PE X (.Call (.Name x p) (e :: es) [] pos) (tCg sp (fun _ => E0) t) := pe_cgS c hr hk hG passAt0 hg ha hdb he hpl
end
/-! ## repr of data -/
def Shw (d : PyData) : Prop := d.showable = true ∧ d.depth ≤ 60 ∧ d.shown.length ≤ sizeLine
theorem Dp.nodict {K : PySem.W.Frag} {H : Hp} : ∀ (d : PyData) (v : V), Dp K H v d → d.hasDict = false ∧ True
  | .none, _, _ => ⟨by simp only [PyData.hasDict], trivial⟩
  | .bool _, _, _ => ⟨by simp only [PyData.hasDict], trivial⟩
  | .int _, _, _ => ⟨by simp only [PyData.hasDict], trivial⟩
  | .str _, _, _ => ⟨by simp only [PyData.hasDict], trivial⟩
  | .list ds, _, h => by
    cases h with
    | lst _ ha =>
      have q := nodictAll ds _ ha
      exact ⟨by simp only [PyData.hasDict]; exact q, trivial⟩
  | .tuple ds, _, h => by
    cases h with
    | tup _ ha =>
      have q := nodictAll ds _ ha
      exact ⟨by simp only [PyData.hasDict]; exact q, trivial⟩
  | .dict _, _, h => by cases h
where
  nodictAll : ∀ (ds : List PyData) (vs : List V), DpAll K H vs ds → PyData.hasDictAll ds = false
    | [], _, _ => by simp only [PyData.hasDictAll]
    | d :: ds, _, h => by
      cases h with
      | cons h1 h2 =>
        simp only [PyData.hasDictAll, Bool.or_eq_false_iff]
        exact ⟨(Dp.nodict d _ h1).1, nodictAll ds _ h2⟩
section
variable {X : Cx}
theorem call_reprD (hG : X.A.guards = some []) (hu : X.A.units + 64 < cLine) : CallR X (.builtin "repr") (fun xs H Q => ∃ x d, xs = [x] ∧ Dp X.K H x d ∧ Shw d ∧ Q (.str d.shown) H) := by
  intro pins s σ H xs us Q I r h
  obtain ⟨x, d, rfl, hd, ⟨h1, h2, h3⟩, q⟩ := h
  obtain ⟨u, rfl, ru⟩ := vals1 r
  have nd := (Dp.nodict d x hd).1
  have ref : ∀ a, x = .ref a → wpAny (model X.prog X.w) X.A (call (.builtin "repr") [u]) (EP X pins σ Q) X.xe s := by
    rintro a rfl
    obtain rfl : u = Value.ref a := ru
    obtain ⟨as, hr⟩ := Dp.reads I d _ _ hd rfl
    apply repr_of_reads' hr h1 (PyData.noDict_hsm nd) hG (by omega) (fun _ _ e => e) _ h3
    intro h' u tk hk
    exact ⟨.str d.shown, H, I.kept (t' := tk) hk, ⟨u, rfl⟩, q⟩
  cases hd with
  | non => cases ru; exact PySem.P.repr_of_none ⟨.str _, H, I.tok _, ⟨_, rfl⟩, by simpa only [PyData.shown] using q⟩
  | bl b => cases ru; exact PySem.P.repr_of_bool ⟨.str _, H, I.tok _, ⟨_, rfl⟩, by simpa only [PyData.shown] using q⟩
  | int i =>
    obtain ⟨t, rfl⟩ := ru
    exact PySem.P.repr_of_int (by simpa [PyData.showable] using h1) ⟨.str _, H, I.tok _, ⟨_, rfl⟩, by simpa only [PyData.shown] using q⟩
  | str z =>
    obtain ⟨t, rfl⟩ := ru
    exact PySem.P.repr_of_str ⟨.str _, H, I.tok _, ⟨_, rfl⟩, by simpa only [PyData.shown] using q⟩ (by simpa only [PyData.shown] using h3)
  | lst _ _ => exact ref _ rfl
  | tup _ _ => exact ref _ rfl
/-- xs[i] with i from 0 on, read for a store that changes it -/
def rGetL (K : PySem.W.Frag) : V → V → Hp → VK → Prop := fun o i H Q => ∃ (p : Addr) (xs : List V) (k : Nat) (v : V), o = .ref p ∧ i = .int k ∧ SqL K H p xs ∧ xs[k]? = some v ∧ Q v H
theorem get_list : PGet X (rGetL X.K) := by
  intro pins s σ H o i ov iv Q I ro ri h
  obtain ⟨p, xs, k, v, rfl, rfl, hq, hk, q⟩ := h
  cases ro
  obtain ⟨t, rfl⟩ := ri
  obtain ⟨its, r, pl, hz⟩ := I.list hq
  obtain ⟨u, hu, ru⟩ := r.get hk
  have hn := line63
  have hl := r.length
  have hlt : k < xs.length := (List.getElem?_eq_some_iff.mp hk).1
  exact PySem.wpAny_getItem_list pl.isList (by omega) (by omega) (by simpa using hu) ⟨v, H, I, ru, q⟩
end
/-! ## the law's end, for a contract of this kind -/
theorem lawG {P : Program} {w : World} {K : PySem.W.Frag} {mg mb : Str → Option Value} {CX : CXT} {k : Nat} {fa a : Addr} {fd : FuncData} {x : Str} {sp : Sp} {s₁ : Shared} {vs : List Value} {ns : List Int}
    (KX : K.In s₁.heap) (hns : s₁.heap.Ns mainGlobals mg) (hb : s₁.heap.Ns builtinsNs mb) (hbb : ∀ x : Str, x ≠ "__name__" → mb x = bootBuiltins x) (hlim : s₁.heap.NoLimit) (hg : s₁.gens = #[])
    (ha : s₁.heap.get? a = some { cls := .type "list", data := .seq vs.toArray }) (hi : IntsAre vs ns) (hl : ns.length ≤ sizeLine) (hr : Room k callerA)
    (F : ∀ base : Heap, K.In base → base.Ns mainGlobals mg → FnG P w K mg base CX k fa fd [x] sp) (hbind : ∀ (s : Shared) (u : Value), BindsTo s fd ⟨[u], []⟩ [(x, u)])
    (hsp : ∀ H : Hp, Only H → SqL K H a (ns.map V.int) → sp [.ref a] H (fun v _ => v = .bl true) fun _ _ _ => False) (hCX : ∀ H e s', CX [] H s₁ (fun _ _ _ => False) e s' → False) :
    codeAny (model P w) callerA (.call (.ref fa) ⟨[.ref a], []⟩) (fun r s' => r = .ok (.ret (.bool true)) ∧ OldK s₁.heap s'.heap ∧ s'.os = s₁.os ∧ AllBare s'.gens) s₁ := by
  have rv := vals_ints hi
  have lenV := hi.length
  have core : ∀ H : Hp, Only H → SqL K H a (ns.map V.int) → HOk P w H s₁.heap → (∀ b, H b ≠ none → b = a) → (H a ≠ none → K.lookup a = none) →
      codeAny (model P w) callerA (.call (.ref fa) ⟨[.ref a], []⟩) (fun r s' => r = .ok (.ret (.bool true)) ∧ OldK s₁.heap s'.heap ∧ s'.os = s₁.os ∧ AllBare s'.gens) s₁ := by
    intro H hO hS hok hA hK
    have noA : ∀ {b : Addr} {o : Obj} {es : Array DictEntry} {ep : Nat}, s₁.heap.get? b = some o → o.data = .dict es ep → H b = none := by
      intro b o es ep e d
      by_cases q : H b = none
      · exact q
      · have e' := hA b q
        subst e'
        rw [ha] at e
        cases e
        cases (show Data.seq vs.toArray _ = Data.dict es ep from d)
    have nsK : ∀ {b : Addr} {m : Str → Option Value}, s₁.heap.Ns b m → (hidT s₁.heap H).Ns b m := by
      rintro b m ⟨o, es, ep, e, d, r⟩
      exact ⟨o, es, ep, hidT_get e (noA e d), d, r⟩
    have hKb : K.In (hidT s₁.heap H) := by
      intro b o e
      apply hidT_get (KX b o e)
      by_cases q : H b = none
      · exact q
      · have e' := hA b q
        subst e'
        rw [hK q] at e
        cases e
    have hM : Mod K mg (hidT s₁.heap H) := ⟨hKb, nsK hns, ⟨mb, nsK hb, hbb⟩, by obtain ⟨mc, h1, h2⟩ := hlim; exact ⟨mc, nsK h1, h2⟩⟩
    have e0 : Env0 P w K mg (hidT s₁.heap H) callerA [] s₁ H := ⟨rfl, hM, fun b o e => of_hidT e, Nat.le_of_eq (hidT_size _ _), trivial, fun b hb => absurd (show b ∈ ([] : List Addr) from hb) (by simp), hok, .of_eq hg⟩
    apply codeAny_mono ((F _ hKb (nsK hns)).run callerA [] s₁ H ⟨[.ref a], []⟩ [.ref a] [.ref a] _ _ rfl hr e0 (hbind s₁ (.ref a)) (.cons rfl .nil) (hsp H hO hS))
    intro r s' h
    cases r with
    | error e => exact (hCX H e s' h).elim
    | ok fl =>
      cases fl with
      | ret u =>
        obtain ⟨v, H', os, bare, un, hok', r', q⟩ := h
        obtain rfl : v = .bl true := q
        obtain rfl : u = Value.bool true := r'
        refine ⟨rfl, OldK.of_keep ?_, os, bare⟩
        intro b o e
        by_cases q : H b = none
        · exact un.keep b o e q (by intro z; exact absurd (show b ∈ ([] : List Addr) from z) (by simp)) (by simp)
        · rcases hO b with z | ⟨ob, xs, z⟩
          · exact absurd z q
          · obtain ⟨e1, _⟩ := hok b _ z
            obtain ⟨e2, _⟩ := hok' b _ (un.frzs b ob _ z)
            rw [e] at e1
            cases e1
            exact e2
      | next => exact h.elim
      | brk => exact h.elim
      | cont => exact h.elim
  cases hk : K.lookup a with
  | some o =>
    have e := KX a o hk
    rw [ha] at e
    cases e
    have hS : SqL K (fun _ => none) a (ns.map V.int) := .inr ⟨_, vs.toArray, _, hk, rfl, rfl, rfl, by rw [List.size_toArray, lenV]; exact hl, by simpa using rv⟩
    exact core (fun _ => none) (fun _ => .inl rfl) hS (fun b u z => nomatch (show (none : Option HO) = some u from z)) (fun b z => absurd rfl z) fun z => absurd rfl z
  | none =>
    have no : ∀ b, b ≠ a → (if b = a then some (HO.frz { cls := .type "list", data := .seq vs.toArray } (.lst (ns.map V.int))) else none) = none := fun b hb => if_neg hb
    apply core (fun b => if b = a then some (.frz { cls := .type "list", data := .seq vs.toArray } (.lst (ns.map V.int))) else none)
    · intro b
      by_cases hb : b = a
      · exact .inr ⟨_, _, if_pos hb⟩
      · exact .inl (if_neg hb)
    · exact .inl (.inr ⟨{ cls := .type "list", data := .seq vs.toArray }, if_pos rfl⟩)
    · intro b u z
      by_cases hb : b = a
      · subst hb
        have z' := (if_pos rfl).symm.trans z
        cases z'
        exact ⟨ha, by rw [List.length_map]; exact hl, vs, _, rv, ha⟩
      · exact nomatch (no b hb).symm.trans z
    · intro b z
      by_cases hb : b = a
      · exact hb
      · exact absurd (no b hb) z
    · exact fun _ => hk
theorem walkG {l : PySem.W.OpenLaw} {n k : Nat} {q : Program} {loose : List Str} {XP : (Str → Option Value) → Heap → Prop} {YP : World → Heap → Prop} {d : DefRec} {K : Params → PySem.W.Frag} {CX : World → CXT} {sp : World → Sp} {x : Str}
    (hn : l.most = some n) (hn2 : n ≤ sizeLine) (hdf : d.params.defaults = []) (hr : Room k callerA) (hY : ∀ (w : World) (h : Heap), YP w h → (K w.params).In h)
    (F : ∀ (w : World) (mg : Str → Option Value) (fa : Addr) (h : Heap), (K w.params).In h → h.Ns mainGlobals mg → mg d.name = some (.ref fa) →
      ∃ fd : FuncData, (∀ (s : Shared) (u : Value), BindsTo s fd ⟨[u], []⟩ [(x, u)]) ∧ ∀ base : Heap, (K w.params).In base → base.Ns mainGlobals mg → FnG l.prog w (K w.params) mg base (CX w) k fa fd [x] (sp w))
    (hsp : ∀ (w : World) (H : Hp) (a : Addr) (ns : List Int), ns.length ≤ n → Only H → SqL (K w.params) H a (ns.map V.int) → sp w [.ref a] H (fun v _ => v = .bl true) fun _ _ _ => False)
    (hCX : ∀ (w : World) (H : Hp) (s : Shared) (e : Value) (s' : Shared), CX w [] H s (fun _ _ _ => False) e s' → False) :
    PySem.W.WalkO q loose XP YP l.row.toRowW d [] (fun f vs => PySem.call f vs) := by
  apply Att.attach_call hn hdf
  intro w s₀ s₁ mg mb fa o pm cd doc a vs ns G Y ho hd hcd hmg hobj hints hlen hg
  have KX := hY w _ Y
  obtain ⟨fd, hb, hF⟩ := F w mg fa _ KX G.T.g hmg
  exact lawG KX G.T.g G.T.b G.T.builtins G.T.nolimit hg hobj hints (Nat.le_trans hlen hn2) hr hF hb (fun H hO hS => hsp w H a ns hlen hO hS) fun H e s' => hCX w H s₁ e s'
end Ln
set_option Elab.async false
set_option linter.all false
set_option maxRecDepth 100000
set_option maxHeartbeats 4000000
namespace Ln
open PySem PySem.Spec PyProof.Rows L2
section
variable {prog : Program} {w : World} {A : Around} {E : Value → Shared → Prop} {s : Shared} {l : Addr} {xs : Array (Int × Tok)} {its : List Value} {ns : List Int}
theorem sum_tupG {Q : Value → Shared → Prop} (hh : A.handled = none) (hl : s.heap.IsTuple l (intItems xs))
    (h : ∀ h' tk t', (∀ b o, s.heap.get? b = some o → h'.get? b = some o) → Q (.int (preSum (numAt xs) xs.size) t') { s with heap := h', toks := tk }) :
    wpAny (model prog w) A (call (.builtin "sum") [.ref l]) Q E s := by
  have hlt : l < s.heap.objs.size := by obtain ⟨_, e, _⟩ := hl; exact Heap.lt_size e
  apply call_sum_walkG
  apply wpAny_pyIter_tuple hl
  refine ⟨_, _, _, _, _, _, numAt xs, rfl, Walks.tuple (A := A.in1) hh s.heap.objs.size l (Nat.ne_of_lt hlt) (intItems xs), ⟨⟨_, Heap.get?_push_size _ rfl, rfl, rfl⟩, hl.push _⟩, ?_, (fun _ _ => intItems_at), ?_⟩
  · intro b hb
    show b < (s.heap.push _).objs.size
    rw [Heap.size_push]
    have hb' : b = s.heap.objs.size ∨ b = l := by simpa using hb
    rcases hb' with e | e
    · rw [e]; exact Nat.lt_succ_self _
    · rw [e]; exact Nat.lt_succ_of_lt hlt
  · intro h' tk t' hk
    have old : ∀ b o, s.heap.get? b = some o → h'.get? b = some o := by
      intro b o e
      refine hk b o ?_ (Heap.get?_push_of_some _ e)
      intro hm
      have hb := Heap.lt_size e
      have e1 : b = s.heap.objs.size := by simpa using hm
      rw [e1] at hb
      exact absurd hb (Nat.lt_irrefl _)
    have := h h' tk t' old
    simpa [intItems] using this
theorem sum_rawT (hh : A.handled = none) (hl : s.heap.IsTuple l its.toArray) (hi : IntsAre its ns) {Q : Value → Shared → Prop}
    (h : ∀ h' tk t', (∀ b o, s.heap.get? b = some o → h'.get? b = some o) → Q (.int ns.sum t') { s with heap := h', toks := tk }) : wpAny (model prog w) A (call (.builtin "sum") [.ref l]) Q E s := by
  obtain ⟨xs, e⟩ := hi.allInts.items
  have hn : numsOf (intItems xs).toList = ns := by rw [← e]; exact hi.numsOf
  rw [nums_intItems] at hn
  rw [e] at hl
  apply sum_tupG hh hl
  intro h' tk t' hk
  have := h h' tk t' hk
  rw [preSum_eq, List.take_of_length_le (by simp), hn]
  exact this
end
section
variable {X : Cx}
/-- sum(t) of a tuple of ints -/
def rSumT (K : PySem.W.Frag) : List V → Hp → VK → Prop := fun vs H Q => ∃ (a : Addr) (ns : List Int), vs = [V.ref a] ∧ SqT K H a (ns.map V.int) ∧ Q (.int ns.sum) H
theorem cr_sumT (hc : X.calm = true) : CallR X (.builtin "sum") (rSumT X.K) := by
  intro pins s σ H vs us Q I r h
  obtain ⟨a, ns, rfl, hs, q⟩ := h
  obtain ⟨its, rv, hl, _⟩ := I.tuple hs
  obtain ⟨u, rfl, ru⟩ := vals1 r
  obtain rfl : u = Value.ref a := ru
  exact sum_rawT (I.ok.hd hc) hl rv.ints fun h' tk t' hk => ⟨.int _, H, I.kept hk, ⟨_, rfl⟩, q⟩
end
end Ln
set_option Elab.async false
set_option linter.all false
set_option maxRecDepth 100000
set_option maxHeartbeats 4000000
namespace Ln
open PySem PySem.Spec PyProof.Rows L2
/-! ## plain values and what isinstance says of them -/
section
variable {K : PySem.W.Frag} {H H' : Hp} {x : V}
inductive Plain (K : PySem.W.Frag) (H : Hp) : V → Prop where
  | non : Plain K H .non
  | bl (b : Bool) : Plain K H (.bl b)
  | int (i : Int) : Plain K H (.int i)
  | str (s : Str) : Plain K H (.str s)
  | tup {a : Addr} {xs : List V} (h : SqT K H a xs) : Plain K H (.ref a)
def isI : V → Bool | .int _ => true | _ => false
def isB : V → Bool | .bl _ => true | _ => false
def isS : V → Bool | .str _ => true | _ => false
def isR : V → Bool | .ref _ => true | _ => false
theorem tyx_tup {a : Addr} {xs : List V} (h : SqT K H a xs) : TyX K H (.ref a) (.type "tuple") := by
  rcases h with h | h
  · rcases h with h | ⟨o, h⟩
    · exact .base (.tup h)
    · exact .fTuple h
  · obtain ⟨o, _, _, hk, hc, _⟩ := h
    exact .kTuple hk hc
theorem Plain.kit (h : Plain K H x) : ∃ t, TyX K H x t ∧ PySem.W.kitOne K t (.type "int") = some (isI x || isB x) ∧ PySem.W.kitOne K t (.type "bool") = some (isB x) ∧
    PySem.W.kitOne K t (.type "str") = some (isS x) ∧ PySem.W.kitOne K t (.type "tuple") = some (isR x) := by
  cases h with
  | non => exact ⟨_, .base .non, kit_ty (r := false) (by decide +kernel), kit_ty (r := false) (by decide +kernel), kit_ty (r := false) (by decide +kernel), kit_ty (r := false) (by decide +kernel)⟩
  | bl b => exact ⟨_, .base (.bl b), kit_ty (r := true) (by decide +kernel), kit_ty (r := true) (by decide +kernel), kit_ty (r := false) (by decide +kernel), kit_ty (r := false) (by decide +kernel)⟩
  | int i => exact ⟨_, .base (.int i), kit_ty (r := true) (by decide +kernel), kit_ty (r := false) (by decide +kernel), kit_ty (r := false) (by decide +kernel), kit_ty (r := false) (by decide +kernel)⟩
  | str s => exact ⟨_, .base (.str s), kit_ty (r := false) (by decide +kernel), kit_ty (r := false) (by decide +kernel), kit_ty (r := true) (by decide +kernel), kit_ty (r := false) (by decide +kernel)⟩
  | tup hs => exact ⟨_, tyx_tup hs, kit_ty (r := false) (by decide +kernel), kit_ty (r := false) (by decide +kernel), kit_ty (r := false) (by decide +kernel), kit_ty (r := true) (by decide +kernel)⟩
theorem Same.tup {a : Addr} {xs : List V} (e : Same H H') (h : SqT K H a xs) : SqT K H' a xs := by
  rcases h with (h | ⟨o, h⟩) | h
  · exact .inl (.inl (e _ _ h))
  · exact .inl (.inr ⟨o, e _ _ h⟩)
  · exact .inr h
theorem Plain.same (e : Same H H') (h : Plain K H x) : Plain K H' x := by
  cases h with
  | non => exact .non
  | bl b => exact .bl b
  | int i => exact .int i
  | str s => exact .str s
  | tup h => exact .tup (Same.tup e h)
end
theorem same_upd {H : Hp} {p : Addr} {o : HO} (h : H p = none) : Same H (upd H p o) := by
  intro b x e
  rw [upd_ne (ne_of_none e h)]
  exact e
/-- all that stands but at one place stays -/
def But (at_ : Addr) (H H' : Hp) : Prop := ∀ b o, b ≠ at_ → H b = some o → H' b = some o
theorem But.refl (a : Addr) (H : Hp) : But a H H := fun _ _ _ h => h
theorem But.trans {a : Addr} {H H1 H2 : Hp} (h : But a H H1) (k : But a H1 H2) : But a H H2 := fun b o n e => k b o n (h b o n e)
theorem Same.but {a : Addr} {H H' : Hp} (h : Same H H') : But a H H' := fun b o _ e => h b o e
theorem But.upd (a : Addr) (H : Hp) (o : HO) : But a H (upd H a o) := fun b x n e => by rw [upd_ne n]; exact e
theorem But.new {a p : Addr} {H : Hp} {o : HO} (h : H p = none) : But a H (L2.upd H p o) := Same.but (same_upd h)
theorem But.tup {K : PySem.W.Frag} {a b : Addr} {H H' : Hp} {xs ys : List V} (h : But a H H') (ha : H a = some (.lst ys)) (t : SqT K H b xs) : SqT K H' b xs := by
  rcases t with (t | ⟨o, t⟩) | t
  · exact .inl (.inl (h b _ (fun z => by subst z; rw [ha] at t; cases t) t))
  · exact .inl (.inr ⟨o, h b _ (fun z => by subst z; rw [ha] at t; cases t) t⟩)
  · exact .inr t
theorem same_at {H H' : Hp} {p : Addr} {o : HO} (h : Same H H') (n : H p = none) : Same H (upd H' p o) := by
  intro b x e
  rw [upd_ne (ne_of_none e n)]
  exact h b x e
theorem small1 {n : Nat} (h : n ≤ 100000) : n < sizeLine := Nat.lt_of_le_of_lt h (by decide)
theorem small2 {n : Nat} (h : n ≤ 100000) : n ≤ sizeLine := Nat.le_of_lt (small1 h)
theorem getI {ms : List Int} {i : Nat} {x : V} (h : (ms.map V.int)[i]? = some x) : ∃ z, ms[i]? = some z ∧ x = .int z := by
  rw [List.getElem?_map] at h
  cases e : ms[i]? with
  | none => rw [e] at h; cases h
  | some z => rw [e] at h; exact ⟨z, rfl, (Option.some.inj h).symm⟩
theorem app1 (ds : List Int) (d : Int) : ds.map V.int ++ [V.int d] = (ds ++ [d]).map V.int := by rw [List.map_append]; rfl
theorem atInt {ds : List Int} {j : Nat} (h : j < ds.length) : atI (ds.map V.int) (j : Int) = some (.int ds[j]) := atI_nat (by rw [List.getElem?_map, List.getElem?_eq_getElem h]; rfl)
theorem modIx (x : Int) {n : Nat} (h : 0 < n) : ∃ j : Nat, j < n ∧ x % (n : Int) = (j : Int) := by
  have a := Int.emod_nonneg x (show (n : Int) ≠ 0 by omega)
  have b := Int.emod_lt_of_pos x (show (0 : Int) < n by omega)
  exact ⟨(x % (n : Int)).toNat, by omega, by omega⟩
/-! ## lists of pairs of ints -/
def Tp (H H' : Hp) : Prop := ∀ t xs, H t = some (.tup xs) → H' t = some (.tup xs)
theorem Same.tp {H H' : Hp} (h : Same H H') : Tp H H' := fun t xs e => h t _ e
theorem Tp.trans {H H1 H2 : Hp} (a : Tp H H1) (b : Tp H1 H2) : Tp H H2 := fun t xs e => b t xs (a t xs e)
theorem Tp.lst {H : Hp} {D : Addr} {xs ys : List V} (h : H D = some (.lst xs)) : Tp H (upd H D (.lst ys)) := fun t zs e => by
  rw [upd_ne (fun z => by subst z; rw [h] at e; cases e)]
  exact e
theorem Tp.new {H : Hp} {D : Addr} {o : HO} (h : H D = none) : Tp H (upd H D o) := Same.tp (same_upd h)
abbrev PairL (H : Hp) (xs : List V) (L : List (Int × Int)) : Prop := Paired (fun (x : V) (p : Int × Int) => ∃ t, x = V.ref t ∧ H t = some (.tup [.int p.1, .int p.2])) xs L
theorem PairL.mono {H H' : Hp} {xs : List V} {L : List (Int × Int)} (h : PairL H xs L) (k : Tp H H') : PairL H' xs L := Paired.mono (fun _ _ ⟨t, e, q⟩ => ⟨t, e, k t _ q⟩) h
theorem PairL.get {H : Hp} : ∀ {xs : List V} {L : List (Int × Int)} (h : PairL H xs L) {i : Nat} {x : V}, xs[i]? = some x → ∃ t p, L[i]? = some p ∧ x = V.ref t ∧ H t = some (.tup [.int p.1, .int p.2])
  | _, _, .nil, _, _, e => by simp at e
  | _, _, .cons ⟨t, r, q⟩ _, 0, x, e => by
    have e' := Option.some.inj e
    exact ⟨t, _, rfl, by rw [← e']; exact r, q⟩
  | _, _, .cons _ s, i + 1, x, e => PairL.get (i := i) s (by simpa using e)
theorem PairL.len {H : Hp} {xs : List V} {L : List (Int × Int)} (h : PairL H xs L) : xs.length = L.length := Paired.length h
/-- what stands in such a pair -/
def keyOf (H : Hp) : V → Int × Int
  | .ref t => match H t with
    | some (.tup [.int a, .int b]) => (a, b)
    | _ => (0, 0)
  | _ => (0, 0)
theorem PairL.keys {H : Hp} : ∀ {xs : List V} {L : List (Int × Int)}, PairL H xs L → xs.map (keyOf H) = L ∧ ∀ x ∈ xs, ∃ t, x = V.ref t ∧ H t = some (.tup [.int (keyOf H x).1, .int (keyOf H x).2])
  | _, _, .nil => ⟨rfl, by simp⟩
  | _, _, .cons (a := x) (b := p) ⟨t, r, q⟩ s => by
    obtain ⟨h1, h2⟩ := PairL.keys s
    have e : keyOf H x = p := by
      subst r
      show (match H t with | some (.tup [.int a, .int b]) => (a, b) | _ => (0, 0)) = p
      rw [q]
    refine ⟨by rw [List.map_cons, e, h1], fun y hy => ?_⟩
    rcases List.mem_cons.mp hy with z | hy
    · subst z
      exact ⟨t, r, by rw [e]; exact q⟩
    · exact h2 y hy
theorem takeS {α : Type} {l : List α} {i : Nat} {x : α} (h : l[i]? = some x) : l.take (i + 1) = l.take i ++ [x] := by rw [List.take_add_one, h]; rfl
section
variable {X : Cx}
/-- a module's constant -/
theorem pe_gl {x : Str} {pos : Pos} {v : V} (hg : Gl X x) (h : ∃ u, X.mg x = some u ∧ RelV v u) (hd : (x == ("__debug__" : Str)) = false := by decide) : PE X (.Name x pos) (tC v) := by
  obtain ⟨u, hu, r⟩ := h
  exact pe_glob hg hu r hd
end
section
variable {X : Cx}
def rLen (K : PySem.W.Frag) : List V → Hp → VK → Prop := fun xs H Q => ∃ x n, xs = [x] ∧ LenV K x H n ∧ Q (.int (n : Nat)) H
theorem c_len : CallR X (.builtin "len") (rLen X.K) := call_len
def rTupOf (K : PySem.W.Frag) : List V → Hp → VK → Prop := fun xs H Q => ∃ p ys, xs = [.ref p] ∧ ((SqL K H p ys ∧ ∀ l, H l = none → Q (.ref l) (upd H l (.tup ys))) ∨ (SqT K H p ys ∧ Q (.ref p) H))
theorem c_tuple : CallR X (.type "tuple") (rTupOf X.K) := call_tuple_of
def rListOf (K : PySem.W.Frag) : List V → Hp → VK → Prop := fun xs H Q => ∃ p ys, xs = [.ref p] ∧ (SqL K H p ys ∨ SqT K H p ys) ∧ ∀ l, H l = none → Q (.ref l) (upd H l (.lst ys))
theorem c_list : CallR X (.type "list") (rListOf X.K) := call_list_of
def rReprD (K : PySem.W.Frag) : List V → Hp → VK → Prop := fun xs H Q => ∃ x d, xs = [x] ∧ Dp K H x d ∧ Shw d ∧ Q (.str d.shown) H
theorem c_repr (hG : X.A.guards = some []) (hu : X.A.units + 64 < cLine) : CallR X (.builtin "repr") (rReprD X.K) := call_reprD hG hu
def tTruK (K : PySem.W.Frag) (ta : TE) : TT := fun σ H Q => ta σ H fun x H' => ∃ k, TruV K x H' k ∧ Q k H'
theorem pt_truthK {a : Expr} {ta : TE} (ha : PE X a ta) (he : ∀ whole, isTrue a X.env whole = (do let v ← whole; standAt a.pos; holding [v] (truthy v))) : PT X a (tTruK X.K ta) := pt_truth ha he
end
section
variable {X : Cx}
/-- t + u of tuples, told by what stands there behind it -/
def rCatS (K : PySem.W.Frag) : R2 := fun x y H Q => ∃ a b xs ys, x = .ref a ∧ y = .ref b ∧ SqT K H a xs ∧ SqT K H b ys ∧ xs.length + ys.length ≤ sizeLine ∧ ∀ c H', Same H H' → SqT K H' c (xs ++ ys) → Q (.ref c) H'
theorem op_catS : OpR X (binaryOp .Add) (rCatS X.K) := by
  intro pins s σ H x y v u Q I rx ry h
  obtain ⟨a, b, xs, ys, e1, e2, ha, hb, hz, q⟩ := h
  refine op_catA pins s σ H x y v u Q I rx ry ⟨a, b, xs, ys, e1, e2, ha, hb, hz, fun e => ?_, fun _ e => ?_, fun _ _ p np => q p _ (same_upd np) (SqT.of upd_same)⟩
  · exact q b H (Same.refl H) (by rw [e, List.nil_append]; exact hb)
  · exact q a H (Same.refl H) (by rw [e, List.append_nil]; exact ha)
def rSlS (K : PySem.W.Frag) : V → Option Int → Option Int → Hp → VK → Prop := fun x lo hi H Q => ∃ a xs, x = .ref a ∧ SqT K H a xs ∧ ∀ c H', Same H H' → SqT K H' c (cutV xs lo hi) → Q (.ref c) H'
theorem sl_tupS : SlR X (rSlS X.K) := by
  intro pins s σ H x v vl vu lo hi sl Q I rx hs pl pu h
  obtain ⟨a, xs, e, ha, q⟩ := h
  refine sl_tupA pins s σ H x v vl vu lo hi sl Q I rx hs pl pu ⟨a, xs, e, ha, fun w => ?_, fun _ p np => q p _ (same_upd np) (SqT.of upd_same)⟩
  refine q a H (Same.refl H) ?_
  have e : cutV xs lo hi = xs := by
    unfold cutV
    rw [w.1, w.2, List.drop_zero, Nat.sub_zero, List.take_length]
  rw [e]
  exact ha
end
end Ln
set_option Elab.async false
set_option linter.all false
set_option maxRecDepth 100000
set_option maxHeartbeats 4000000
namespace Ln
open PySem PySem.Spec PyProof.Rows L2
/-! ## small data can be shown -/
structure Sm (d : PyData) (k m : Nat) : Prop where
  sh : d.showable = true
  dp : d.depth ≤ k
  lv : d.leavesShort 13 = true
  wt : d.weight ≤ m
  cl : d.canLay0 = true
theorem Sm.shw {d : PyData} {k m : Nat} (h : Sm d k m) (hk : k ≤ 60) (hm : m ≤ 1000000) : Shw d :=
  ⟨h.sh, Nat.le_trans h.dp hk, PyData.shown_fits (B := 13) (by decide) (by decide) h.lv (Nat.le_trans h.wt (Nat.le_trans hm (by decide)))⟩
theorem Sm.mono {d : PyData} {k m k' m' : Nat} (h : Sm d k m) (hk : k ≤ k') (hm : m ≤ m') : Sm d k' m' := ⟨h.sh, Nat.le_trans h.dp hk, h.lv, Nat.le_trans h.wt hm, h.cl⟩
theorem log2_small {n : Nat} (h : n < 10 ^ 12) : n.log2 < 40 := by
  by_cases h0 : n = 0
  · subst h0
    decide
  · exact (Nat.log2_lt h0).mpr (Nat.lt_of_lt_of_le h (by decide))
theorem Sm.int {i : Int} (h : i.natAbs < 10 ^ 12) : Sm (.int i) 0 41 := by
  have hl := log2_small h
  refine ⟨?_, ?_, ?_, ?_, rfl⟩
  · simp only [PyData.showable, decide_eq_true_eq]
    omega
  · simp only [PyData.depth]
    exact Nat.le_refl _
  · simp only [PyData.leavesShort, decide_eq_true_eq]
    exact PyData.shown_int_le h
  · simp only [PyData.weight]
    split <;> omega
theorem Sm.none : Sm .none 0 0 := ⟨by simp only [PyData.showable], by simp only [PyData.depth]; exact Nat.le_refl _, by simp only [PyData.leavesShort], by simp only [PyData.weight]; exact Nat.le_refl _, rfl⟩
theorem Sm.bool (b : Bool) : Sm (.bool b) 0 0 := ⟨by simp only [PyData.showable], by simp only [PyData.depth]; exact Nat.le_refl _, by simp only [PyData.leavesShort], by simp only [PyData.weight]; exact Nat.le_refl _, rfl⟩
theorem Sm.str {x : Str} {m : Nat} (h : x.length ≤ m) (ha : (x.cps.toList.all fun c => decide (c < 16 ^ 8)) = true) (hk : PyData.canLay0 (.str x) = true) : Sm (.str x) 0 m :=
  ⟨by simp only [PyData.showable], by simp only [PyData.depth]; exact Nat.zero_le _, by simp only [PyData.leavesShort]; exact ha, by simp only [PyData.weight]; exact h, hk⟩
theorem Sm.all {k m : Nat} : ∀ {ds : List PyData}, (∀ d ∈ ds, Sm d k m) → PyData.showableAll ds = true ∧ PyData.depthAll ds ≤ k ∧ PyData.leavesShortAll 13 ds = true ∧ PyData.weightAll ds ≤ (m + 1) * ds.length ∧ PyData.canLayAll0 ds = true
  | [], _ => ⟨by simp only [PyData.showableAll], by simp only [PyData.depthAll]; exact Nat.zero_le _, by simp only [PyData.leavesShortAll], by simp only [PyData.weightAll]; exact Nat.zero_le _, rfl⟩
  | d :: ds, h => by
    obtain ⟨a1, a2, a3, a4, a5⟩ := h d List.mem_cons_self
    obtain ⟨b1, b2, b3, b4, b5⟩ := Sm.all (ds := ds) fun x hx => h x (List.mem_cons_of_mem _ hx)
    refine ⟨?_, ?_, ?_, ?_, by simp only [PyData.canLayAll0, a5, b5, Bool.and_self]⟩
    · simp only [PyData.showableAll, a1, b1, Bool.and_self]
    · simp only [PyData.depthAll]
      exact Nat.max_le.mpr ⟨a2, b2⟩
    · simp only [PyData.leavesShortAll, a3, b3, Bool.and_self]
    · simp only [PyData.weightAll, List.length_cons]
      rw [Nat.mul_succ]
      omega
theorem Sm.tup {k m n : Nat} {ds : List PyData} (h : ∀ d ∈ ds, Sm d k m) (hn : ds.length ≤ n) : Sm (.tuple ds) (k + 1) ((m + 1) * n) := by
  obtain ⟨b1, b2, b3, b4, b5⟩ := Sm.all h
  exact ⟨by simp only [PyData.showable]; exact b1, by simp only [PyData.depth]; omega, by simp only [PyData.leavesShort]; exact b3, by simp only [PyData.weight]; exact Nat.le_trans b4 (Nat.mul_le_mul_left _ hn), by simp only [PyData.canLay0]; exact b5⟩
theorem Sm.lst {k m n : Nat} {ds : List PyData} (h : ∀ d ∈ ds, Sm d k m) (hn : ds.length ≤ n) : Sm (.list ds) (k + 1) ((m + 1) * n) := by
  obtain ⟨b1, b2, b3, b4, b5⟩ := Sm.all h
  exact ⟨by simp only [PyData.showable]; exact b1, by simp only [PyData.depth]; omega, by simp only [PyData.leavesShort]; exact b3, by simp only [PyData.weight]; exact Nat.le_trans b4 (Nat.mul_le_mul_left _ hn), by simp only [PyData.canLay0]; exact b5⟩
/-! ## a tuple of ints as data -/
theorem dp_ints {K : PySem.W.Frag} {H : Hp} : ∀ (ns : List Int), DpAll K H (ns.map V.int) (ns.map PyData.int)
  | [] => .nil
  | n :: r => .cons (.int n) (dp_ints r)
theorem Sm.shaped {d : PyData} {k m : Nat} (h : Sm d k m) (hk : k ≤ 60) : SeqAt.shaped d = true := by
  unfold SeqAt.shaped
  rw [h.cl, Bool.true_and, decide_eq_true_eq]
  exact Nat.le_trans h.dp (Nat.le_trans hk (by decide))
theorem Sm.eqv {d : PyData} {k m : Nat} (h : Sm d k m) : PyData.eqv d d = true := SeqAt.eqv_refl d h.cl
theorem Sm.ints {ns : List Int} {n : Nat} (h : ∀ i ∈ ns, i.natAbs < 10 ^ 12) (hn : ns.length ≤ n) : Sm (.tuple (ns.map PyData.int)) 1 (42 * n) := by
  apply Sm.tup (k := 0) (m := 41)
  · intro d hd
    obtain ⟨i, hi, rfl⟩ := List.mem_map.mp hd
    exact Sm.int (h i hi)
  · rw [List.length_map]
    exact hn
end Ln
set_option Elab.async false
set_option linter.all false
set_option maxRecDepth 100000
set_option maxHeartbeats 4000000
namespace Ln
open PySem PySem.Spec PyProof.Rows L2
/-! ## several clauses, each with a name of its own -/
abbrev Suite1 : Type := Addr → Value → Option Addr → TS
/-- behind a suite the name's slot is empty -/
def freed (i : Nat) (D : Ends) : Ends where
  nx := fun τ G => D.nx (τ.set i none) G
  rt := D.rt
  bk := fun τ G => D.bk (τ.set i none) G
  ct := fun τ G => D.ct (τ.set i none) G
/-- what the clauses wish of an error of the body -/
def wNam (K : PySem.W.Frag) (Wo : WX) (D : Ends) : List (Value × Nat × Suite1) → WX
  | [] => Wo
  | (c, i, ts) :: more => fun cls d τ G => ∃ hit : Bool, PySem.W.exmOne K cls c = some hit ∧ (hit = true → ∀ a : Addr, G a = none → ts a cls d (freed i D) (τ.set i (some (.ref a))) G) ∧ (hit = false → wNam K Wo D more cls d τ G)
inductive Clauses (X : Cx) : List ExceptHandler → List (Value × Nat × Suite1) → Prop
  | done : Clauses X [] []
  | more {n x : Str} {i : Nat} {c : Value} {ts : Suite1} {s₀ : Stmt} {ss : List Stmt} {p q : Pos} {hds : List ExceptHandler} {l : List (Value × Nat × Suite1)} (at_ : X.N[i]? = some n) (loc : X.env.kindOf n = some .local) (nam : Names X x c)
      (run : ∀ (a : Addr) (oe : Obj) (cls : Value) (d : Option Addr) (pn : List (Addr × Obj)), Zc cls d oe → (∃ vs, oe.data = .fields vs) → PSs (X.suite a ((a, oe) :: pn)) (s₀ :: ss) (ts a cls d)) (rest : Clauses X hds l) :
      Clauses X (.ExceptHandler (some (.Name x p)) (some n) (s₀ :: ss) q :: hds) ((c, i, ts) :: l)
section
variable {X : Cx} {body : List Stmt} {e₀ : ExceptHandler} {es : List ExceptHandler} {l : List (Value × Nat × Suite1)} {pos : Pos} {tb : WX → TS} {Wo : WX}
/-- THE RULE: try with clauses that all have a name -/
theorem ps_try_named (stk : X.stack = X.env :: X.outer) (frm : X.env.frame = some X.env.locals) (nod : X.N.Nodup) (tk : Takes X Wo)
    (bodyOk : ∀ (W : WX) (pn : List (Addr × Obj)) (xe : Value → Shared → Prop), Takes (X.tr pn xe) W → PassesOwn (model X.prog X.w) X.A X.env xe → PSs (X.tr pn xe) body (tb W))
    (cl : Clauses X (e₀ :: es) l) : PS X (.Try body (e₀ :: es) [] [] pos) (fun D σ H => tb (wNam X.K Wo D l) D σ H) := by
  constructor
  intro pins s σ H D I want
  have oks := I.ok
  have frames : X.A.frames = some (X.env :: X.outer) := stk ▸ oks.frames
  refine wpAny_Try_except (wpAny_mono ((bodyOk (wNam X.K Wo D l) (X.pn ++ pins)
    (fun er s₁ => wpAny (model X.prog X.w) X.A (noteFrame er X.env)
      (fun _ s₂ => wpAny (model X.prog X.w) X.A (setFlight er none)
        (fun _ s₃ => wpAny (model X.prog X.w) X.A (handleBy er X.env (e₀ :: es)) (SP X pins D) X.xe s₃) X.xe s₂) X.xe s₁)
    ?caught PassesOwn.looking).run [] s σ H D (I.toTry _) want) ?calm fun _ _ z => z)
  case calm =>
    intro f s1 q
    cases f with
    | ret u => exact q.elim fun v q => q.elim fun τ q => q.elim fun G q => ⟨v, τ, G, q.1.ofTry oks, q.2⟩
    | next => exact q.elim fun τ q => q.elim fun G q => wpAny_execs_nil ⟨τ, G, q.1.ofTry oks, q.2⟩
    | brk => exact q.elim fun τ q => q.elim fun G q => ⟨τ, G, q.1.ofTry oks, q.2⟩
    | cont => exact q.elim fun τ q => q.elim fun G q => ⟨τ, G, q.1.ofTry oks, q.2⟩
  case caught =>
    rintro u s' ⟨a, B, sI, pins', τ, G, cls, d, rfl, It, nb, up, sky, na, os, ag, w⟩
    have J : Inv X pins τ G sI := It.ofTry oks
    have sk : Sky B (X.env :: X.outer) a (Zc cls d) X.env.locals s'.heap := stk ▸ sky
    refine Sky.land Zc.steady frames frm sk fun h3 fl up3 => ?_
    have upA := up.trans up3
    have J3 := (J.landed nb fl.1 upA os ag : Inv X pins τ G { s' with heap := h3 })
    obtain ⟨oe3, vs3, he3, hz3, hd3⟩ := fl.there
    have nfr : a ∉ frs (X.env :: X.outer) := fun m => by
      obtain ⟨_, o', q, nof⟩ := fl.2.2.1.mem m
      rw [he3] at q
      cases q
      exact nof _ hd3
    have nL : a ≠ X.env.locals := by
      intro z
      refine nfr (List.mem_filterMap.mpr ⟨X.env, List.mem_cons_self, ?_⟩)
      rw [frm, z]
    have nF : a ∉ X.fs := by
      intro m
      obtain ⟨e, he, q⟩ := List.mem_filterMap.mp m
      exact nfr (List.mem_filterMap.mpr ⟨e, .tail _ he, q⟩)
    have S3 := J3.suite he3 hd3 na nL nF
    refine (show ∀ {hs : List ExceptHandler} {k : List (Value × Nat × Suite1)}, Clauses X hs k → wNam X.K Wo D k cls d τ G →
      wpAny (model X.prog X.w) X.A (handleBy (.ref a) X.env hs) (SP X pins D) X.xe { s' with heap := h3 } from ?_) cl w
    intro hs k c
    induction c with
    | done =>
      intro out
      refine wpAny_handleBy_nil ?_
      obtain ⟨_, _, _, oe, vs, T, oT, ts', he, _, hd, h1, _⟩ := id fl
      unfold PySem.passOn
      refine wpAny_bind (wpAny_field he hd h1 ?_)
      have notNone : ¬ ((Value.ref T == Value.none) = true) := by simp
      rw [if_neg notNone]
      have fin : wpAny (model X.prog X.w) X.A (setFlight (.ref a) X.env.frame) (fun _ s4 => wpAny (model X.prog X.w) X.A (throw (.ref a) : Sem Flow) (SP X pins D) X.xe s4) X.xe { s' with heap := h3 } := by
        rw [frm]
        refine HandSPX.setFlight_upZ fl fun h4 hh4 up4 => wpAny_throw (tk _ _ ?_)
        exact ⟨a, B, sI, pins, τ, G, cls, d, rfl, J, nb, upA.trans up4, .inr (.inr (stk.symm ▸ hh4)), na, os, ag, out⟩
      first
        | exact wpAny_bind fin
        | exact wpAny_bind (wpAny_pure (wpAny_bind fin))
    | @more n x i c ts s₀ ss p q hds k2 at_ loc nam run rest ih =>
      rintro ⟨hit, isHit, yes, no⟩
      refine wpAny_handleBy_cons (codeAny_handlers_test ?_) (by intro q; cases q)
      have looks := PySem.W.exm_one (M := model X.prog X.w) J3.kIn (fun A Q E s k q => wpAny_typeOf_ref (k _ _ he3) (by rw [hz3.1]; exact q) : PySem.W.Looks (model X.prog X.w) h3 (typeOf (.ref a)) cls) isHit
      have test : ∀ {Q E : Value → Shared → Prop}, Q c { s' with heap := h3 } → wpAny (model X.prog X.w) (X.A.mark (some (.ref a))) (eval (.Name x p) X.env) Q E { s' with heap := h3 } := by
        intro Q E q
        obtain ⟨glo, dbg, there | ⟨gone, boot, nn⟩⟩ := nam
        · exact ld_glob (X := X.suite a ((a, oe3) :: (X.pn ++ pins))) S3 glo there q dbg
        · exact ld_blt (X := X.suite a ((a, oe3) :: (X.pn ++ pins))) S3 glo gone boot q nn dbg
      refine test (looks.here ?_)
      cases hit with
      | false => exact ih (no rfl)
      | true =>
        refine codeAny_handlers_suite_as ?_
        refine HandSPX.lands_againZ fl fun h4 fl4 up4 => ?_
        have J4 := (J.landed nb fl4.1 (upA.trans up4) os ag : Inv X pins τ G { s' with heap := h4 })
        obtain ⟨oe4, vs4, he4, hz4, hd4⟩ := fl4.there
        refine store_ok (X := X.suite a ((a, oe4) :: (X.pn ++ pins))) (v := .ref a) (J4.suite he4 hd4 na nL nF) nod at_ (.inl loc) rfl (fun s5 S5 => ?_) (.inr loc)
        refine wpAny_mono ((run a oe4 cls d (X.pn ++ pins) hz4 ⟨_, hd4⟩).run [] s5 _ G _ S5 (yes rfl a na)) (fun f s6 r => ?_) (fun _ _ z => z.elim)
        have leave : ∀ {υ : L2.St} {G6 : Hp} {Q : Shared → Prop}, Inv (X.suite a ((a, oe4) :: (X.pn ++ pins))) [] υ G6 s6 → (∀ s7, Inv X pins (υ.set i none) G6 s7 → Q s7) →
            wpAny (model X.prog X.w) X.A (do bindName X.env n .none; unbindBehindTheSuite X.env n q) (fun _ s7 => Q s7) X.xe s6 := by
          intro υ G6 Q S6 hq
          exact gone_ok (S6.unsuite oks) nod at_ loc hq
        cases f with
        | ret u =>
          obtain ⟨v6, τ6, G6, S6, r6, q6⟩ := r
          exact leave S6 fun s7 J7 => ⟨v6, _, _, J7, r6, q6⟩
        | next =>
          obtain ⟨τ6, G6, S6, q6⟩ := r
          exact leave S6 fun s7 J7 => ⟨_, _, J7, q6⟩
        | brk =>
          obtain ⟨τ6, G6, S6, q6⟩ := r
          exact leave S6 fun s7 J7 => ⟨_, _, J7, q6⟩
        | cont =>
          obtain ⟨τ6, G6, S6, q6⟩ := r
          exact leave S6 fun s7 J7 => ⟨_, _, J7, q6⟩
end
end Ln
set_option Elab.async false
set_option linter.all false
set_option maxRecDepth 100000
set_option maxHeartbeats 4000000
/-! ## isinstance of a caught error with fields -/
namespace PySem.W
open PySem PySem.Spec PySem.Calls PyProof.Rows
theorem exc_class {prog : Program} {w : World} {A : Around} {E : Value → Shared → Prop} {s : Shared} {K : Frag} {x D : Addr} {ox od : Obj} {Q : Option Value → Shared → Prop} (C : L2.ExcC K D) (X : K.In s.heap) (I : InstAt s.heap x ox D (some od))
    (want : Q (some (.ref D)) { s with toks := s.toks + 1 }) : wpAny (model prog w) A (getAttr? (.ref x) "__class__") Q E s := by
  obtain ⟨cdD, isD, _⟩ := any_some C.hd
  have found := findObj_data (od := od) (show (clsIn K D).isSome = true by rw [isD]; rfl) C.ha C.hn C.ht
  obtain ⟨hp, g, d, t, os⟩ := s
  have M0 := I.type (M := model prog w)
  have M1 := looks_findIn (M := model prog w) X C.hg
  have M2 := looks_findIn (M := model prog w) X C.hk
  have M3 := looks_find (M := model prog w) X I found
  have inst := (M0.andThen (looks_subIn X C.hs) : Looks (model prog w) hp (isInstance (.ref x) (.type "BaseException")) true)
  have b2 : (Value.builtin "BaseException.__getattribute__" == Value.builtin "object.__getattribute__") = false := by decide +kernel
  have b1 : (onTheHeap (Value.ref D) && Value.builtin "BaseException.__getattribute__" == Value.builtin "object.__getattribute__") = false := by
    rw [b2]
    rfl
  unfold getAttr? getAttrBy? getAttrBy
  refine wpAny_bind (wpAny_mkText (wpAny_bind (wpAny_attempt (wpAny_holding (wpAny_bind (M0.at (wpAny_bind (M1.at ?_))))))))
  show wpAny _ _ (ite ((onTheHeap (Value.ref D) && Value.builtin "BaseException.__getattribute__" == Value.builtin "object.__getattribute__") = true) _ _) _ _ _
  rw [b1, if_neg Bool.false_ne_true]
  unfold getAttrByItsOwn hookBefore
  apply wpAny_bind
  rw [if_pos (show onTheHeap (Value.ref D) = true from rfl)]
  apply M2.at
  apply wpAny_bind
  apply wpAny_attempt
  apply wpAny_holding
  unfold callGetattribute
  have b0 : (false && onTheHeap (Value.builtin "BaseException.__getattribute__")) = false := rfl
  rw [b0, if_neg Bool.false_ne_true]
  unfold boundAndCalled
  rw [PySem.F.excAttr_ValueError.ga.bind (.ref x)]
  apply wpAny_bind
  apply wpAny_pure
  show wpAny _ _ (call (.builtin "BaseException.__getattribute__") [.ref x, .str "__class__" t]) _ _ _
  refine wpAny_call (codeAny_call_builtin PySem.F.excAttr_ValueError.ga.plain PySem.F.entry_bexc_ga
    (@check_slot (model prog w) _ _ ⟨hp, g, d, t + 1, os⟩ "BaseException.__getattribute__" "BaseException" "__getattribute__" (.ref x) [.str "__class__" t] [] _ (by decide +kernel) (by decide +kernel) inst (PySem.F.args_bexc_ga (.ref x) (.str "__class__" t)) ?_))
  unfold Builtin.«object.__getattribute__»
  refine wpAny_bind (wpAny_of_eq (a := ((Value.ref x : Value), [Value.str "__class__" t])) (by first | (simp only [slotArgs]; rfl) | rfl) ?_)
  refine wpAny_bind (wpAny_pure (wpAny_bind (M0.at (wpAny_bind (M3.at ?_)))))
  show wpAny _ _ (holding [Value.builtin "object.__class__"] (call (.builtin "getset_descriptor.__get__") [.builtin "object.__class__", .ref x, .ref D]) >>= ret) _ _ _
  refine wpAny_bind (wpAny_holding (wpAny_call (class_get (s := ⟨hp, g, d, t + 1, os⟩) (ox := ox) (od := some od) X I C.hm (wpAny_pure ?_))))
  show wpAny _ _ (handedOut (.ref D)) _ _ _
  rw [handedOut_of (v := .ref D) rfl]
  first
    | exact wpAny_pure want
    | exact wpAny_pure (wpAny_pure want)
    | exact wpAny_pure (wpAny_bind (wpAny_pure (wpAny_pure want)))
theorem kit_exc {K : Frag} {x D : Addr} {ox : Obj} (C : L2.ExcC K D) : KitX K (.ref x) (.ref D) (fun h => ∃ od, InstAt h x ox D (some od)) where
  ty := fun _ _ _ ⟨_, I⟩ => I.type
  it := fun _ h X _ => by
    obtain ⟨cdD, isD, _⟩ := any_some C.hd
    unfold clsIn at isD
    split at isD
    · rename_i q
      intro A' Q' E' s' k want
      unfold isType loadHead
      exact wpAny_bind (wpAny_loadPart (k _ _ (X _ _ q)) (wpAny_pure want))
    · cases isD
  ne := fun h tp dd its n sl X at_ => by
    obtain ⟨cdD, isD, _⟩ := any_some C.hd
    cases e : (Value.ref D == Value.ref tp) with
    | false => rfl
    | true =>
      obtain rfl : D = tp := Value.ref.inj (beq_iff_eq.mp e)
      unfold clsIn at isD
      split at isD
      · rename_i q
        have z := (X _ _ q).symm.trans at_
        cases z
      · cases isD
  ca := fun X ⟨_, I⟩ want => exc_class C X I want
end PySem.W
namespace Ln
open PySem PySem.Spec PyProof.Rows L2 L2H
/-- isinstance(e, c): the pinned error p, of the class at D, its fields in a tracked dict -/
def rIsF (K : PySem.W.Frag) (a : Addr) (cls : Value) (d : Option Addr) : List V → Hp → VK → Prop := fun xs H Q => ∃ (c : V) (cv : Value) (b : Bool) (D dd : Addr) (fs : List (Str × V)), xs = [.ref a, c] ∧ ExcC K D ∧ cls = .ref D ∧ d = some dd ∧ H dd = some (.xd fs) ∧
  (∀ u, RelV c u → u = cv) ∧ PySem.W.kitOne K (.ref D) cv = some b ∧ Q (.bl b) H
theorem call_isF {X : Cx} {p : Addr × Obj} {cls : Value} {d : Option Addr} (hp : p ∈ X.pn) (hz : Zc cls d p.2) (hf : ∃ vs, p.2.data = .fields vs) : CallR X (.builtin "isinstance") (rIsF X.K p.1 cls d) := by
  intro pins s σ H xs us Q I r h
  obtain ⟨c, cv, b, D, dd, fs, rfl, C, rfl, rfl, hd, hcv, e, q⟩ := h
  obtain ⟨vs, hv⟩ := hf
  obtain ⟨u1, u2, rfl, r1, r2⟩ : ∃ u1 u2, us = [u1, u2] ∧ RelV (.ref p.1) u1 ∧ RelV c u2 := by
    cases r with
    | cons a b => cases b with
      | cons b c => cases c with
        | nil => exact ⟨_, _, rfl, a, b⟩
  cases r1
  obtain rfl := hcv _ r2
  obtain ⟨hget, _⟩ := I.pin p (List.mem_append_left _ hp)
  obtain ⟨mA, hns, _⟩ : ObjOk X.prog X.w H s.heap dd (.xd fs) := I.hok dd _ hd
  obtain ⟨od, ho, _⟩ := lookIn_ns hns
  have J : PySem.W.InstAt s.heap p.1 p.2 D (some od) := ⟨hget, hz.1, by unfold PySem.W.notCls; rw [hv] <;> rfl, by rw [hz.2]; exact ho⟩
  exact PySem.W.kia_one (PySem.W.kit_exc C) I.kIn ⟨od, J⟩ e (fun z => nomatch z) fun tk => ⟨.bl b, H, I.kept (t' := tk) fun _ _ z => z, rfl, q⟩
/-! ## a def that is called with the handled error at hand -/
structure FnE (P : Program) (w : World) (K : PySem.W.Frag) (mg : Str → Option Value) (base : Heap) (k : Nat) (f : Addr) (fd : FuncData) (ps : List Str) (sp : Addr → Value → Option Addr → Sp) : Prop where
  len : ∀ a cls d vs H Q E, sp a cls d vs H Q E → vs.length = ps.length
  run : ∀ (A : Around) (outer : List Env) (s : Shared) (H : Hp) (args : Args) (us : List Value) (vs : List V) (Q : VK) (p : Addr × Obj) (cls : Value) (d : Option Addr), Zc cls d p.2 → (∃ vs, p.2.data = .fields vs) → RoomH k A → PinOk outer H s p → Env0 P w K mg base A outer s H →
    BindsTo s fd args (ps.zip us) → Vals vs us → sp p.1 cls d vs H Q E0 → codeAny (model P w) A (.call (.ref f) args) (CR CX0 outer P w H s Q E0) s
theorem okE {P : Program} {w : World} {K : PySem.W.Frag} {mg : Str → Option Value} {base : Heap} {x qual : Str} {st : Stmt} {f : Addr} {fd : FuncData} {N ps : List Str} {k : Nat} {sp : Addr → Value → Option Addr → Sp} (F : Fun K x qual st f fd) (S : FnScope N ps (defScope st))
    (len : ∀ a cls d vs H Q E, sp a cls d vs H Q E → vs.length = ps.length)
    (hbody : ∀ (cdv : Value) (A : Around) (outer : List Env) (s : Shared) (H : Hp) (vs : List V) (Q : VK) (p : Addr × Obj) (cls : Value) (d : Option Addr), Zc cls d p.2 → (∃ vs, p.2.data = .fields vs) → RoomH k (A.deeper (envOfC qual (defScope st) s.heap.objs.size f cdv)) → sp p.1 cls d vs H Q E0 →
      ∃ t, PSs (cxH CX0 P w K mg base N qual (defScope st) f cdv A outer s H E0 p) (defBody st) t ∧ t { nx := fun _ H' => Q .non H', rt := Q } (start N vs) H) : FnE P w K mg base (k + 1) f fd ps sp := by
  obtain ⟨oc, od, kV, doc, pm, an, cdv, ct, osl, rfl, lk, hcd⟩ := F.ex
  constructor
  · exact len
  intro A outer s H args us vs Q p cls d hz hf hr pin e0 hb r hsp
  have hl := len _ _ _ _ _ _ _ hsp
  have same := fun b o (e : base.get? b = some o) => (e0.bs b o e).1
  have KX : K.In s.heap := e0.mod.kin.keeps same
  have kinds : ∀ y ∈ ps.zip us, (defScope st).names.lookup y.1 = some .local ∨ ((defScope st).names.lookup y.1 = some .cell ∧ ((cellsFrom (s.heap.objs.size + 1) (defScope st).names []).lookup y.1).isSome = true) := by
    intro y hy
    rcases S.par y.1 (List.of_mem_zip (a := y.1) (b := y.2) hy).1 with q | q
    · exact Or.inl q
    · exact Or.inr ⟨q, PySem.W.cellsFrom_some _ _ _ (Or.inl q)⟩
  apply codeAny_call_function hr.depth (KX _ _ lk) rfl S.co S.gen rfl (PySem.W.codeRec_of KX hcd) (hb _ _ _ _ ?_)
  refine wpAny_newFunctionEnv_cells S.kind kinds ?_
  rintro env rfl s1 c
  refine ⟨(e0.mod.nolimit.keeps same).keeps c.toInCall.keep, codeAny_func ?_⟩
  obtain ⟨t, ht, hq⟩ := hbody cdv A outer s H vs Q p cls d hz hf (hr.deeper _) hsp
  apply wpAny_mono (ht.run [] s1 (start N vs) H _ (inv_startH S pin e0 hl r c) hq) _ fun _ _ z => z
  intro fl s' z
  cases fl with
  | ret u => exact z.elim fun v z => z.elim fun τ z => z.elim fun G z => ⟨v, G, z.1.os, z.1.bare, z.1.base, z.1.hok, z.2.1, z.2.2⟩
  | next => exact z.elim fun τ z => z.elim fun G z => ⟨V.non, G, z.1.os, z.1.bare, z.1.base, z.1.hok, rfl, z.2⟩
  | brk => exact z.elim fun τ z => z.elim fun G z => z.2.elim
  | cont => exact z.elim fun τ z => z.elim fun G z => z.2.elim
structure CgE (P : Program) (w : World) (K : PySem.W.Frag) (mg : Str → Option Value) (base : Heap) (k : Nat) (x : Str) (sp : Addr → Value → Option Addr → Sp) : Prop where
  ex : ∃ (f : Addr) (fd : FuncData) (ps : List Str), FnE P w K mg base k f fd ps sp ∧ mg x = some (.ref f) ∧ PySem.W.keepIn K (.ref f) = true ∧ Binds K fd ps []
theorem pe_cgE {X : Cx} {j k : Nat} {a : Addr} {oe : Obj} {x : Str} {np pos : Pos} {e : Expr} {es : List Expr} {t : TA} {sp : Addr → Value → Option Addr → Sp} {cls : Value} {d : Option Addr} (c : CgE X.prog X.w X.K X.mg X.base k x sp) (hp : (a, oe) ∈ X.pn) (hz : Zc cls d oe) (hf : ∃ vs, oe.data = .fields vs) (hr : RoomH j X.A) (hk : k ≤ j) (hg : Gl X x) (ha : PA X (e :: es) t)
    (hdb : (x == ("__debug__" : Str)) = false := by decide) (he : starEach (e :: es) X.env = (false, eval e X.env) :: starEach es X.env := by rfl) (hpl : (backTo pos (starEach es X.env)).any (·.1) = false := by rfl) :
    PE X (.Call (.Name x np) (e :: es) [] pos) (tCg (sp a cls d) (fun _ => E0) t) := by
  constructor
  intro pins s σ H Q I h
  obtain ⟨f, fd, ps, F, hm, kp, b⟩ := c.ex
  apply wpAny_Call_Name_kw (ld_glob I hg hm ?_ hdb)
  apply PySem.W.callWith_K (h₀ := X.base) I.ok.mod.kin kp (thn (ha.run pos pins s σ H _ I h) _) he hpl
  rintro us s1 ⟨vs, H1, I1, r, q⟩
  refine ⟨I1.kIn, ?_⟩
  have hl : us.length = ps.length := r.length ▸ F.len _ _ _ _ _ _ _ q
  have pin := I1.pin (a, oe) (List.mem_append_left _ hp)
  have ok : PinOk X.stack H1 s1 (a, oe) := ⟨pin.1, pin.2.1, fun m => (List.mem_cons.mp (I1.stkSub a m)).elim pin.2.2.1 pin.2.2.2.1, pin.2.2.2.2⟩
  have bb := b s1 us I1.kIn (by simpa using hl)
  refine wpAny_call (codeAny_mono (F.run X.A X.stack s1 H1 ⟨us, []⟩ us vs Q (a, oe) cls d hz hf (hr.mono hk) ok I1.env0 (by simpa using bb) r q) ?_)
  intro res s' z
  cases res with
  | error _ => exact z.elim
  | ok fl => cases fl with
    | ret u => exact I1.after z
    | next => exact z.elim
    | brk => exact z.elim
    | cont => exact z.elim
end Ln
set_option Elab.async false
set_option linter.all false
set_option maxRecDepth 100000
set_option maxHeartbeats 4000000
/-! ## enumerate over a tuple -/
namespace PySem
open Sem (wp)
theorem meets_enum1 {v : Value} {o : Obj} {H : Heap → Prop} (B : Begins v o H) :
    Meets (Builtin.«enumerate.__new__» ⟨[.type "enumerate", v], []⟩) (fun _ R s => H s.heap ∧
      R (.ok (.ret (.ref (s.heap.push o).objs.size))) { s with heap := (s.heap.push o).push { cls := .type "enumerate", data := .fields #[.none, .bool false, .ref s.heap.objs.size, rawInt 0, .none, .none] } }) := by
  refine .of_wp fun prog w A R s h => ?_
  obtain ⟨hp, g, d, tk, os⟩ := s
  obtain ⟨h1, want⟩ := h
  have sub := sub_enumerate
  have begins : ∀ {A' : Around} {E Q : Value → Shared → Prop}, Q (.ref hp.objs.size) ⟨hp.push o, g, d, tk, os⟩ → wpAny (model prog w) A' (pyIter v) Q E ⟨hp, g, d, tk, os⟩ := by
    intro A' E Q q
    exact B.iter prog w _ _ ⟨hp, g, d, tk, os⟩ _ h1 q
  wp_walk using begins
  refine wpAny_stack_any fun st => wpAny_pure ?_
  split
  case h_1 =>
    rename_i c _ _ _ _ _
    cases (c == Value.type "enumerate") <;> (wp_walk using begins; exact ⟨_, rfl, want⟩)
  case h_2 =>
    wp_walk using begins
    exact ⟨_, rfl, want⟩
section
variable {prog : Program} {w : World} {A : Around} {E : Value → Shared → Prop} {s : Shared}
theorem call_enum_tuple {a : Addr} {items : Array Value} {Q : Value → Shared → Prop} (ht : s.heap.IsTuple a items)
    (want : ∀ h', IsEnum h' (s.heap.objs.size + 1) s.heap.objs.size 0 .none → h'.IsTupleIter s.heap.objs.size a 0 → h'.objs.size = s.heap.objs.size + 2 → (∀ b o, s.heap.get? b = some o → h'.get? b = some o) → Q (.ref (s.heap.objs.size + 1)) { s with heap := h' }) :
    wpAny (model prog w) A (call (.type "enumerate") [.ref a]) Q E s := by
  refine callType_new F.called_enumerate (by decide) (F.typeCall_enumerate_1 _) (F.newCall_enumerate_1 _) (fun obj => F.args_object_init_2 obj _) F.entry_enumerate_new (meets_enum1 (begins_tuple a items)) ⟨ht, ?_⟩
  have two : (s.heap.push { cls := .type "tuple_iterator", data := .fields #[.ref a, .int 0 0] }).objs.size = s.heap.objs.size + 1 := Heap.size_push ..
  show _ ∧ _
  rw [two]
  have it : IsEnum ((s.heap.push { cls := .type "tuple_iterator", data := .fields #[.ref a, .int 0 0] }).push { cls := .type "enumerate", data := .fields #[.none, .bool false, .ref s.heap.objs.size, rawInt 0, .none, .none] }) (s.heap.objs.size + 1) s.heap.objs.size 0 .none := by
    have g := Heap.get?_push_size (s.heap.push { cls := .type "tuple_iterator", data := .fields #[.ref a, .int 0 0] }) (o := { cls := .type "enumerate", data := .fields #[.none, .bool false, .ref s.heap.objs.size, rawInt 0, .none, .none] }) rfl
    rw [two] at g
    exact g
  refine ⟨⟨_, it, rfl⟩, want _ it ?_ (by rw [Heap.size_push, two]) fun b o x => Heap.get?_push_of_some _ (Heap.get?_push_of_some _ x)⟩
  exact ⟨_, Heap.get?_push_of_some _ (Heap.get?_push_size _ rfl), rfl, rfl⟩
end
end PySem
namespace Ln
open PySem PySem.Spec PyProof.Rows L2
def IteT (K : PySem.W.Frag) (a : Addr) : It where
  go := fun i H => ∃ (xs : List V) (x : V), SqT K H a xs ∧ xs[i]? = some x
  yld := fun i H v H' => ∃ T x, v = .ref T ∧ H T = none ∧ H' = upd H T (.tup [.int (i : Nat), x]) ∧ ∀ xs, SqT K H a xs → xs[i]? = some x
  stop := fun i H => ∃ xs : List V, SqT K H a xs ∧ xs.length = i
theorem turn_enumT {P : Program} {w : World} {K : PySem.W.Frag} {elts : List Expr} {kk : Nat} {tpos : Pos} (a e it : Addr) (hae : a ≠ e) (hai : a ≠ it) :
    Turn P w K (.Tuple elts kk tpos) (IteT K a) [e, it] e (fun i h => (∃ old, IsEnum h e it ((i : Nat) : Int) old) ∧ h.IsTupleIter it a i ∧ e ≠ it) where
  mem := by simp
  obj := by
    rintro i h ⟨⟨old, he⟩, ⟨o, ho, hc, hd⟩, _⟩ b hb
    simp only [List.mem_cons, List.not_mem_nil, or_false] at hb
    rcases hb with z | z
    · rw [z]
      exact ⟨_, he, fun v q => nomatch q⟩
    · rw [z]
      exact ⟨o, ho, fun v q => by rw [hd] at q; cases q⟩
  keep := by
    rintro i h h' ⟨⟨old, he⟩, hi, hne⟩ k
    exact ⟨⟨old, k e (by simp) _ he⟩, hi.at fun o q => k it (by simp) o q, hne⟩
  item := by
    intro X hP hw hK hc i pins s σ H E I hf st hg
    subst hP hw hK
    obtain ⟨⟨old, he⟩, hit, hne⟩ := st
    obtain ⟨xs, x, hq, hx⟩ := hg
    obtain ⟨its, rv, p, hz⟩ := I.tuple hq
    obtain ⟨u, hu, ru⟩ := rv.get hx
    have hT : s.heap.IsTuple a its.toArray := p
    have hel : e < s.heap.objs.size := Heap.lt_size he
    have hil : it < s.heap.objs.size := by
      obtain ⟨_, q, _⟩ := hit
      exact Heap.lt_size q
    have hlt : i < its.toArray.size := by
      rw [List.size_toArray, ← rv.length]
      exact (List.getElem?_eq_some_iff.mp hx).1
    refine wpAny_pyNext_enum_itemD (Draws.tuple (show X.A.in1.handled = none from I.ok.hd hc) it a hai its.toArray) he ⟨hit, hT⟩ hlt hne (by simp; exact ⟨hne, fun z => hae z.symm⟩) fun x' h' tk hx' ho hit' hTp hsz hk => ?_
    have eu : x' = u := by
      have z : (its.toArray)[i]? = some u := by simpa using hu
      rw [z] at hx'
      exact (Option.some.inj hx').symm
    subst eu
    refine ⟨_, rfl, wpAny_letOwnedTupleGo_enum (s := { s with heap := h', toks := tk + 1 }) ho fun h'' he' sb => ?_⟩
    have hT2 : h''.get? s.heap.objs.size = some { cls := .type "tuple", data := .seq #[.int i tk, x'] } := (sb.2 _ (Nat.ne_of_gt hel)).trans hTp
    have new : ObjOk X.prog X.w (upd H s.heap.objs.size (.tup [.int (i : Nat), x])) h'' s.heap.objs.size (.tup [.int (i : Nat), x]) :=
      ⟨by show 2 ≤ sizeLine; decide, [.int i tk, x'], .cons ⟨_, rfl⟩ (.cons ru .nil), ⟨_, hT2, rfl, _, rfl⟩⟩
    have far : ∀ b, b ∉ [e, it] → b ≠ e ∧ b ≠ it := fun b hb => ⟨fun z => hb (by simp [z]), fun z => hb (by simp [z])⟩
    have J := I.turnedNew (ch := [e, it]) (fun b ob hb q => (sb.2 b (far b hb).1).trans (hk b ob (far b hb).1 (far b hb).2 q)) hf (Nat.le_refl _) new (t' := tk + 1)
    refine ⟨.ref s.heap.objs.size, _, J, rfl, ⟨_, x, rfl, I.hok.fresh (Nat.le_refl _), rfl, fun ys hy => by rw [I.tuple_inj hy hq]; exact hx⟩, ⟨⟨x', ?_⟩, hit'.1.at fun o q => (sb.2 it (Ne.symm hne)).trans q, hne⟩, fun b hb => ?_⟩
    · have e1 : ((i + 1 : Nat) : Int) = (i : Int) + 1 := by omega
      rw [e1]
      exact he'
    · have hb' : b < s.heap.objs.size := by
        simp only [List.mem_cons, List.not_mem_nil, or_false] at hb
        rcases hb with z | z
        · rw [z]; exact hel
        · rw [z]; exact hil
      rw [upd_ne (Nat.ne_of_lt hb')]
      exact (hf b hb).1
  done := by
    intro X hP hw hK hc i pins s σ H E I hf st hg
    subst hP hw hK
    obtain ⟨⟨old, he⟩, hit, hne⟩ := st
    obtain ⟨xs, hq, hx⟩ := hg
    obtain ⟨its, rv, p, hz⟩ := I.tuple hq
    have hT : s.heap.IsTuple a its.toArray := p
    obtain ⟨f0, f1, f2, f3, f4, f5⟩ := hf it (by simp)
    have hlt : i = its.toArray.size := by rw [List.size_toArray, ← rv.length, hx]
    subst hlt
    exact wpAny_pyNext_enum_endD (Draws.tuple (show X.A.in1.handled = none from I.ok.hd hc) it a hai its.toArray) he ⟨hit, hT⟩ fun h' eb => ⟨rfl, I.turned (t' := s.toks) (fun b o hb q => eb b o hb q) f0 f1 f3 f4 f5⟩
  self := fun A i s Q E st want => by
    obtain ⟨⟨_, he⟩, _⟩ := st
    exact wpAny_pyIter_enum he want
theorem walk_enumT {K : PySem.W.Frag} {a : Addr} {xs : List V} : Walk (IteT K a) xs.length (fun H => SqT K H a xs) (YPair (fun i => some (.int (i : Nat))) (fun i => xs[i]?)) where
  goes := fun i H hi q => ⟨xs, xs[i], q, List.getElem?_eq_getElem hi⟩
  stops := fun H q => ⟨xs, q, rfl⟩
  yields := by
    rintro i H v H' _ q ⟨T, x, h1, h2, h3, h4⟩
    exact ⟨T, .int (i : Nat), x, h1, h2, h3, rfl, h4 xs q⟩
/-- enumerate(t), t a tuple -/
def iEnumT (K : PySem.W.Frag) (ta : TA) : TI := fun σ H R => ta σ H fun vs H1 => ∃ a xs, vs = [.ref a] ∧ SqT K H1 a xs ∧ R (IteT K a) H1
theorem pi_enumT {X : Cx} {e : Expr} {ta : TA} {p pos tpos : Pos} {elts : List Expr} {kk : Nat} (hg : Gl X "enumerate") (hm : X.mg "enumerate" = none) (ha : PA X [e] ta) (hs : starEach [e] X.env = [(false, eval e X.env)] := by rfl) :
    PI X (.Tuple elts kk tpos) (.Call (.Name "enumerate" p) [e] [] pos) (iEnumT X.K ta) := by
  constructor
  intro pins s σ H R I h
  refine Call_ (ld_blt I hg hm boot_enumerate (PyProof.Rows.callWith_type1 (thn (ha.run pos pins s σ H _ I h) ?_) hs rfl))
  rintro us s1 ⟨vs, H1, I1, r1, a, xs, rfl, hq, q⟩
  obtain ⟨u1, rfl, r⟩ := vals1 r1
  cases r
  obtain ⟨its, rv, p', hz⟩ := I1.tuple hq
  have hal : a < s1.heap.objs.size := by
    obtain ⟨o, ho, _⟩ := id p'
    exact Heap.lt_size ho
  refine call_enum_tuple (show s1.heap.IsTuple a its.toArray from p') fun h' he hit hsz hk => wpAny_pyIter_enum he ?_
  have I2 : Inv X pins σ H1 { s1 with heap := h' } := I1.kept (t' := s1.toks) hk
  refine ⟨s1.heap.objs.size + 1, [s1.heap.objs.size + 1, s1.heap.objs.size], _, _, H1, rfl, I2, turn_enumT a (s1.heap.objs.size + 1) s1.heap.objs.size (Nat.ne_of_lt (Nat.lt_succ_of_lt hal)) (Nat.ne_of_lt hal), ⟨⟨.none, he⟩, hit, Nat.succ_ne_self _⟩, fun b hb => ?_, q⟩
  have hle : s1.heap.objs.size ≤ b := by
    simp only [List.mem_cons, List.not_mem_nil, or_false] at hb
    rcases hb with z | z
    · rw [z]; exact Nat.le_add_right _ _
    · rw [z]; exact Nat.le_refl _
  exact I1.fpOk hle (I1.hok.fresh hle)
/-! ## three comparisons in one -/
section
variable {X : Cx} {CX : CXT} {E0' : XK}
/-- a def at an address, guard-aware -/
structure CgA (P : Program) (w : World) (K : PySem.W.Frag) (mg : Str → Option Value) (base : Heap) (k : Nat) (f : Addr) (sp : Sp) : Prop where
  ex : ∃ (fd : FuncData) (ps : List Str), FnG P w K mg base CX0 k f fd ps sp ∧ PySem.W.keepIn K (.ref f) = true ∧ Binds K fd ps []
def tCgL (P : Program) (w : World) (K : PySem.W.Frag) (mg : Str → Option Value) (base : Heap) (k i : Nat) (t : TA) : TE := fun σ H Q => ∃ f sp, σ[i]? = some (some (.ref f)) ∧ CgA P w K mg base k f sp ∧ t σ H fun vs H1 => sp vs H1 Q E0
theorem pe_cgL {i j k : Nat} {x : Str} {p pos : Pos} {e : Expr} {es : List Expr} {t : TA} (hr : Room j X.A) (hk : k ≤ j) (hG : X.A.guards = some []) (hN : X.N[i]? = some x) (hv : Vis X.env.scope x) (ha : PA X (e :: es) t)
    (hdb : (x == ("__debug__" : Str)) = false := by decide) (hcd : (x == ("__classdict__" : Str)) = false := by decide)
    (he : starEach (e :: es) X.env = (false, eval e X.env) :: starEach es X.env := by rfl) (hpl : (backTo pos (starEach es X.env)).any (·.1) = false := by rfl) :
    PE X (.Call (.Name x p) (e :: es) [] pos) (tCgL X.prog X.w X.K X.mg X.base k i t) := by
  constructor
  rintro pins s σ H Q I ⟨f, sp, hs, ⟨fd, ps, F, kp, b⟩, ht⟩
  refine wpAny_Call_Name_kw (thn ((pe_var (pos := p) hN hv hdb hcd).run pins s σ H (fun v H1 => v = .ref f ∧ H1 = H) I ⟨.ref f, hs, rfl, rfl⟩) ?_)
  rintro u s1 ⟨v, H1, I1, r1, rfl, rfl⟩
  cases r1
  apply PySem.W.callWith_K (h₀ := X.base) I.ok.mod.kin kp (thn (ha.run pos pins s1 σ _ _ I1 ht) _) he hpl
  rintro us s2 ⟨vs, H2, I2, r, q⟩
  exact ⟨I2.kIn, runG F (hr.mono hk) hG b (passAt0 σ) I2 r q⟩
end
end Ln
set_option Elab.async false
set_option linter.all false
set_option maxRecDepth 100000
set_option maxHeartbeats 4000000
namespace Ln
open PySem PySem.Spec PyProof.Rows L2
section
variable {X : Cx} {a b c d : Expr} {ta tb tc td : TE} {pos : Pos}
/-- a op1 b op2 c op3 d -/
def tChain3 (r r' r'' : R2) (ta tb tc td : TE) : TE := fun σ H Q => ta σ H fun x H1 => tb σ H1 fun y H2 => r x y H2 fun z H3 => ∃ k, z = .bl k ∧
  (if k = true then tc σ H3 fun w' H4 => r' y w' H4 fun z2 H5 => ∃ k2, z2 = .bl k2 ∧ (if k2 = true then td σ H5 fun v H6 => r'' w' v H6 Q else Q (.bl false) H5) else Q (.bl false) H3)
theorem pt_chain3 {op op' op2 : CmpOp} {r r' r'' : R2} (ho : OpR X (compareOp op) r) (ho' : OpR X (compareOp op') r') (ho2 : OpR X (compareOp op2) r'') (ha : PE X a ta) (hb : PE X b tb) (hc : PE X c tc) (hd : PE X d td)
    (hm : lastMarks [op, op', op2] [b, c, d] = false := by with_unfolding_all rfl) : PT X (.Compare a [op, op', op2] [b, c, d] pos) (tTest (tChain3 r r' r'' ta tb tc td)) := by
  constructor
  intro pins s σ H Q I h
  refine isTrue_chain (thn (ha.run pins s σ H _ I h) fun v s1 ⟨x, H1, I1, r1, q1⟩ => test_link (thn (hb.run pins s1 σ H1 _ I1 q1) fun u s2 ⟨y, H2, I2, r2, q2⟩ =>
    thn (ho pins s2 σ H2 x y v u _ I2 r1 r2 q2) ?_)) hm
  rintro d1 s3 ⟨z, H3, I3, r3, k, rfl, q3⟩
  cases r3
  refine wpAny_truthy_bool ?_
  cases k with
  | false =>
    obtain ⟨k', e', q'⟩ := q3
    cases e'
    exact ite_ff ⟨H3, I3, q'⟩
  | true =>
    refine ite_tt (test_link (thn (hc.run pins s3 σ H3 _ I3 q3) fun w' s4 ⟨z', H4, I4, r4, q4⟩ => thn (ho' pins s4 σ H4 y z' u w' _ I4 r2 r4 q4) ?_))
    rintro d2 s5 ⟨z2, H5, I5, r5, k2, rfl, q5⟩
    cases r5
    refine wpAny_truthy_bool ?_
    cases k2 with
    | false =>
      obtain ⟨k', e', q'⟩ := q5
      cases e'
      exact ite_ff ⟨H5, I5, q'⟩
    | true =>
      refine ite_tt (test_last (thn (hd.run pins s5 σ H5 _ I5 q5) fun w3 s6 ⟨z3, H6, I6, r6, q6⟩ => thn (ho2 pins s6 σ H6 z' z3 w' w3 _ I6 r4 r6 q6) ?_))
      rintro d3 s7 ⟨z4, H7, I7, r7, k3, rfl, q7⟩
      cases r7
      exact wpAny_truthy_bool ⟨H7, I7, q7⟩
end
end Ln
set_option Elab.async false
set_option linter.all false
set_option maxRecDepth 100000
set_option maxHeartbeats 4000000
namespace Ln
open PySem PySem.Spec PyProof.Rows L2
/-! ## a comprehension with two fors -/
section
variable {J J1 : It} {n n1 : Nat} {G G1 : Hp → Prop} {Y Y1 : Nat → Hp → V → Hp → Prop}
theorem lc2_it (w : Walk J n G Y) {g g1 : TG} {tt tt1 : TT} {wi1 : TI} {te : TE} {vs vs1 : List Nat} {σ : L2.St} {H1 : Hp} {D : Addr} {Qd : Hp → Prop} (Pv : Nat → Hp → Prop) (h0 : Pv 0 (upd H1 D (.lst []))) (hG : ∀ i H, i ≤ n → Pv i H → G H)
    (hs : ∀ i x H H', i < n → Pv i H → Y i H x H' → g x (wipe σ vs) H' fun σ2 H2 => wipe σ2 vs = wipe σ vs ∧ tt σ2 H2 fun b H3 =>
      if b = true then wi1 σ2 H3 fun J1 H4 => ∃ W1 : Nat → Nat → Hp → Prop, (∃ m, W1 0 m H4) ∧ ∀ j k H, W1 j k H →
        (J1.stop j H ∧ Pv (i + 1) H) ∨ (J1.go j H ∧ ∃ Nx1 : Hp → Prop, (∀ H', Nx1 H' → ∃ k', k' < k ∧ W1 (j + 1) k' H') ∧ ∀ x H', J1.yld j H x H' → g1 x (wipe σ2 vs1) H' fun σ3 H5 => wipe σ3 vs1 = wipe σ2 vs1 ∧ tt1 σ3 H5 fun b H6 =>
          if b = true then te σ3 H6 fun y H7 => ∃ acc, H7 D = some (.lst acc) ∧ acc.length < sizeLine ∧ Nx1 (upd H7 D (.lst (acc ++ [y]))) else Nx1 H6)
      else Pv (i + 1) H3) (hd : ∀ H, Pv n H → Qd H) :
    ∃ W : Nat → Nat → Hp → Prop, (∃ m, W 0 m (upd H1 D (.lst []))) ∧ ∀ i m H, W i m H →
      (J.stop i H ∧ Qd H) ∨ (J.go i H ∧ ∃ Nx : Hp → Prop, (∀ H', Nx H' → ∃ m', m' < m ∧ W (i + 1) m' H') ∧ ∀ x H', J.yld i H x H' → g x (wipe σ vs) H' fun σ2 H2 => wipe σ2 vs = wipe σ vs ∧ tt σ2 H2 fun b H3 =>
        if b = true then wi1 σ2 H3 fun J1 H4 => ∃ W1 : Nat → Nat → Hp → Prop, (∃ m, W1 0 m H4) ∧ ∀ j k H, W1 j k H →
          (J1.stop j H ∧ Nx H) ∨ (J1.go j H ∧ ∃ Nx1 : Hp → Prop, (∀ H', Nx1 H' → ∃ k', k' < k ∧ W1 (j + 1) k' H') ∧ ∀ x H', J1.yld j H x H' → g1 x (wipe σ2 vs1) H' fun σ3 H5 => wipe σ3 vs1 = wipe σ2 vs1 ∧ tt1 σ3 H5 fun b H6 =>
            if b = true then te σ3 H6 fun y H7 => ∃ acc, H7 D = some (.lst acc) ∧ acc.length < sizeLine ∧ Nx1 (upd H7 D (.lst (acc ++ [y]))) else Nx1 H6)
        else Nx H3) := by
  refine ⟨fun i m H => m = n - i ∧ i ≤ n ∧ Pv i H, ⟨n, by simp, Nat.zero_le _, h0⟩, ?_⟩
  rintro i m H ⟨rfl, hi, p⟩
  have q := hG i H hi p
  rcases Nat.lt_or_eq_of_le hi with lt | e
  · refine .inr ⟨w.goes i H lt q, Pv (i + 1), fun H' p' => ⟨n - (i + 1), by omega, rfl, lt, p'⟩, fun x H' y => ?_⟩
    exact hs i x H H' lt p (w.yields i H x H' lt q y)
  · subst e
    exact .inl ⟨w.stops H q, hd H p⟩
theorem inner_it (w1 : Walk J1 n1 G1 Y1) {g1 : TG} {tt1 : TT} {te : TE} {vs1 : List Nat} {σ2 : L2.St} {H4 : Hp} {D : Addr} {Done : Hp → Prop} (Pv : Nat → Hp → Prop) (h0 : Pv 0 H4) (hG : ∀ i H, i ≤ n1 → Pv i H → G1 H)
    (hs : ∀ j x H H', j < n1 → Pv j H → Y1 j H x H' → g1 x (wipe σ2 vs1) H' fun σ3 H5 => wipe σ3 vs1 = wipe σ2 vs1 ∧ tt1 σ3 H5 fun b H6 =>
      if b = true then te σ3 H6 fun y H7 => ∃ acc, H7 D = some (.lst acc) ∧ acc.length < sizeLine ∧ Pv (j + 1) (upd H7 D (.lst (acc ++ [y]))) else Pv (j + 1) H6) (hd : ∀ H, Pv n1 H → Done H) :
    ∃ W1 : Nat → Nat → Hp → Prop, (∃ m, W1 0 m H4) ∧ ∀ j k H, W1 j k H →
      (J1.stop j H ∧ Done H) ∨ (J1.go j H ∧ ∃ Nx1 : Hp → Prop, (∀ H', Nx1 H' → ∃ k', k' < k ∧ W1 (j + 1) k' H') ∧ ∀ x H', J1.yld j H x H' → g1 x (wipe σ2 vs1) H' fun σ3 H5 => wipe σ3 vs1 = wipe σ2 vs1 ∧ tt1 σ3 H5 fun b H6 =>
        if b = true then te σ3 H6 fun y H7 => ∃ acc, H7 D = some (.lst acc) ∧ acc.length < sizeLine ∧ Nx1 (upd H7 D (.lst (acc ++ [y]))) else Nx1 H6) := by
  refine ⟨fun i m H => m = n1 - i ∧ i ≤ n1 ∧ Pv i H, ⟨n1, by simp, Nat.zero_le _, h0⟩, ?_⟩
  rintro i m H ⟨rfl, hi, p⟩
  have q := hG i H hi p
  rcases Nat.lt_or_eq_of_le hi with lt | e
  · refine .inr ⟨w1.goes i H lt q, Pv (i + 1), fun H' p' => ⟨n1 - (i + 1), by omega, rfl, lt, p'⟩, fun x H' y => ?_⟩
    exact hs i x H H' lt p (w1.yields i H x H' lt q y)
  · subst e
    exact .inl ⟨w1.stops H q, hd H p⟩
end
end Ln
set_option Elab.async false
set_option linter.all false
set_option maxRecDepth 100000
set_option maxHeartbeats 4000000
namespace Ln
open PySem PySem.Spec PyProof.Rows L2
section
variable {X : Cx}
/-- name = {..: .. for ..} on one line, the name a local -/
theorem ps_setDc {i : Nat} {y : Str} {py : Pos} {kx vx tg iter : Expr} {ifs : List Expr} {scope : Scope} {own : List (Str × Nat)} {pos spos : Pos} {wi : TI} {g : TG} {tt : TT} {tk tv : TE} (calm : X.calm = true) (nod : X.N.Nodup) (at_ : X.N[i]? = some y) (loc : X.env.scope.names.lookup y = some .local)
    (sw : swapsWith (.DictComp kx vx [⟨tg, iter, ifs, 0⟩] scope pos) (some (.Name y py)) spos.line X.env = pure true) (hi : PI X tg iter wi) (ok : BlkOk X.N X.env.scope scope own)
    (hg : ∀ (s : Shared) (H : Hp) (C : Addr) (cl : List (Str × Addr)) (fp : List Addr), PG (X.blk s H scope (compEnvC scope cl C X.env) fp) tg g)
    (ht : ∀ (s : Shared) (H : Hp) (C : Addr) (cl : List (Str × Addr)) (fp : List Addr), PTs (X.blk s H scope (compEnvC scope cl C X.env) fp) ifs tt)
    (hk : ∀ (s : Shared) (H : Hp) (C : Addr) (cl : List (Str × Addr)) (fp : List Addr), PE (X.blk s H scope (compEnvC scope cl C X.env) fp) kx tk)
    (he : ∀ (s : Shared) (H : Hp) (C : Addr) (cl : List (Str × Addr)) (fp : List Addr), PE (X.blk s H scope (compEnvC scope cl C X.env) fp) vx tv) (hs : ∀ x, foldedSetIterable iter X.env x = pure x := by intro _; rfl) :
    PS X (.Assign [.Name y py] (.DictComp kx vx [⟨tg, iter, ifs, 0⟩] scope pos) spos) (tAsg (tDc wi g tt tk tv (own.map (·.2))) (gName i)) := by
  constructor
  intro pins s σ H D I h
  rw [exec_Assign_Name_used _ _ _ _ sw]
  refine wpAny_bind (wpAny_standAt (wpAny_bind ?_))
  show wpAny _ X.A (do let _ ← comprehension (.DictComp kx vx [⟨tg, iter, ifs, 0⟩] scope pos) scope X.env (firstIterPos [⟨tg, iter, ifs, 0⟩] pos) newDict false (eval iter X.env) (some (assign (.Name y py) X.env))) _ _ s
  have want : tDc wi g tt tk tv (own.map (·.2)) σ H (fun x H1 => gName i x σ H1 D.nx) := h
  refine wpAny_bind (thn (dc_core (Qf := fun _ s' => SP X pins D .next s') calm nod I hi ok hg ht hk he hs want ?_) fun _ s' hq => wpAny_pure (wpAny_pure hq))
  intro L C s' m H' I' q hn fp
  show wpAny _ _ (assign (.Name y py) X.env (.ref L)) _ _ _
  refine wpAny_assign_Name (store_ok2 (v := V.ref L) I' nod at_ (.inl loc) rfl ?_ (.inr loc))
  rintro s2 I2 ⟨a, sb, ha⟩
  obtain ⟨f0, f1, f2, f3, f4, f5⟩ := fp
  have haC : C ≠ a := ha.elim (fun z => z ▸ f1) fun z e => f4 y a z e.symm
  refine ⟨m, hn.sameBut sb haC, fun h3 sb3 => ?_⟩
  exact ⟨_, H', I2.turned (t' := s2.toks) (fun b o hb e => (sb3.2 b hb).trans e) f0 f1 f3 f4 f5, q⟩
theorem sw_trueD {kx vx : Expr} {gs : List Comprehension} {scope : Scope} {pos py : Pos} {y : Str} {l : Nat} {env : Env} (hk : env.scope.kind = .function) (hy : env.scope.names.lookup y = some .local) (hl : (py.line == pos.line) = true)
    (ha : (scope.names.any fun (n, k) => n == y && (k == .local || k == .cell)) = false) : swapsWith (.DictComp kx vx gs scope pos) (some (.Name y py)) l env = pure true := by
  have ky : env.kindOf y = some .local := hy
  have hb : env.blockKind = .function := by
    unfold Env.blockKind
    rw [hk]
    rfl
  unfold swapsWith
  simp only [hb, ky, ha, Expr.pos, hl]
  rfl
end
end Ln
set_option Elab.async false
set_option linter.all false
set_option maxRecDepth 100000
set_option maxHeartbeats 4000000
namespace Ln
open PySem PySem.Spec PyProof.Rows L2
/-- a dict comprehension over a walk -/
theorem dc_it {J : It} {n : Nat} {G : Hp → Prop} {Y : Nat → Hp → V → Hp → Prop} (w : Walk J n G Y) {g : TG} {tt : TT} {tk tv : TE} {vs : List Nat} {σ : L2.St} {H1 : Hp} {D : Addr} {Qd : Hp → Prop} (Pv : Nat → Hp → Prop) (h0 : Pv 0 (upd H1 D (.dK []))) (hG : ∀ i H, i ≤ n → Pv i H → G H)
    (hs : ∀ i x H H', i < n → Pv i H → Y i H x H' → g x (wipe σ vs) H' fun σ2 H2 => wipe σ2 vs = wipe σ vs ∧ tt σ2 H2 fun b H3 =>
      if b = true then tk σ2 H3 fun y H4 => tv σ2 H4 fun z H5 => ∃ kvs k, y = kV k ∧ H5 D = some (.dK kvs) ∧ kvs.length < sizeLine ∧ Pv (i + 1) (upd H5 D (.dK (putK kvs k z))) else Pv (i + 1) H3) (hd : ∀ H, Pv n H → Qd H) :
    ∃ W : Nat → Nat → Hp → Prop, (∃ m, W 0 m (upd H1 D (.dK []))) ∧ ∀ i m H, W i m H →
      (J.stop i H ∧ Qd H) ∨ (J.go i H ∧ ∃ Nx : Hp → Prop, (∀ H', Nx H' → ∃ m', m' < m ∧ W (i + 1) m' H') ∧ ∀ x H', J.yld i H x H' → g x (wipe σ vs) H' fun σ2 H2 => wipe σ2 vs = wipe σ vs ∧ tt σ2 H2 fun b H3 =>
        if b = true then tk σ2 H3 fun y H4 => tv σ2 H4 fun z H5 => ∃ kvs k, y = kV k ∧ H5 D = some (.dK kvs) ∧ kvs.length < sizeLine ∧ Nx (upd H5 D (.dK (putK kvs k z))) else Nx H3) := by
  refine ⟨fun i m H => m = n - i ∧ i ≤ n ∧ Pv i H, ⟨n, by simp, Nat.zero_le _, h0⟩, ?_⟩
  rintro i m H ⟨rfl, hi, p⟩
  have q := hG i H hi p
  rcases Nat.lt_or_eq_of_le hi with lt | e
  · refine .inr ⟨w.goes i H lt q, Pv (i + 1), fun H' p' => ⟨n - (i + 1), by omega, rfl, lt, p'⟩, fun x H' y => ?_⟩
    exact hs i x H H' lt p (w.yields i H x H' lt q y)
  · subst e
    exact .inl ⟨w.stops H q, hd H p⟩
/-- a class that may be made by its name; sp: its own __init__ -/
structure MakG (P : Program) (w : World) (K : PySem.W.Frag) (mg : Str → Option Value) (base : Heap) (k : Nat) (x : Str) (C : Addr) (sp : Sp) : Prop where
  ex : ∃ (f : Addr) (fd : FuncData) (ps : List Str), Mk K C f ∧ FnOk P w K mg base CX0 k f fd ps sp ∧ mg x = some (.ref C) ∧ Binds K fd ps []
theorem pe_mkG {X : Cx} {j k : Nat} {C : Addr} {x : Str} {sp : Sp} {p pos : Pos} {e : Expr} {es : List Expr} {t : TA} (c : MakG X.prog X.w X.K X.mg X.base k x C sp) (hr : Room j X.A) (hk : k + 1 ≤ j) (hg : Gl X x) (ha : PA X (e :: es) t)
    (hdb : (x == ("__debug__" : Str)) = false := by decide) (he : starEach (e :: es) X.env = (false, eval e X.env) :: starEach es X.env := by rfl) (hpl : (backTo pos (starEach es X.env)).any (·.1) = false := by rfl) :
    PE X (.Call (.Name x p) (e :: es) [] pos) (tMake C sp [] E0 t) := by
  obtain ⟨f, fd, ps, M, F, hm, b⟩ := c.ex
  exact pe_make M F (hr.mono hk) hg hm b .nil pass0 ha hdb he hpl
end Ln
set_option Elab.async false
set_option linter.all false
set_option maxRecDepth 100000
set_option maxHeartbeats 4000000
namespace Ln
open PySem PySem.Spec PyProof.Rows L2
theorem each_eq {α : Type} : ∀ l : List α, PySem.W.EachIs (fun a b => a = b) l l
  | [] => .nil
  | _ :: l => .cons rfl (each_eq l)
theorem eq_each {α : Type} : ∀ {l m : List α}, PySem.W.EachIs (fun a b => a = b) l m → l = m
  | _, _, .nil => rfl
  | _, _, .cons e t => by rw [e, eq_each t]
theorem each_self {α : Type} {R : α → α → Prop} : ∀ {l : List α}, (∀ a ∈ l, R a a) → PySem.W.EachIs R l l
  | [], _ => .nil
  | a :: l, h => .cons (h a (by simp)) (each_self fun b hb => h b (by simp [hb]))
/-- a number and two texts in a tuple -/
def t3 (k : Int × PySem.Str × PySem.Str) : PyData := .tuple [.int k.1, .str k.2.1, .str k.2.2]
theorem t3_depth (k : Int × PySem.Str × PySem.Str) : (t3 k).depth = 1 := by simp [t3, PyData.depth, PyData.depthAll]
abbrev leT3 (k : V → Int × PySem.Str × PySem.Str) : V → V → Bool := PySem.W.dataLe false fun x => t3 (k x)
/-- sorted(xs), xs a list of tuples of a number and two texts -/
def rSorted3 (K : PySem.W.Frag) : List V → Hp → VK → Prop := fun vs H Q => ∃ (a : Addr) (xs : List V) (k : V → Int × PySem.Str × PySem.Str), vs = [V.ref a] ∧ SqL K H a xs ∧
  (∀ x ∈ xs, ∃ t, x = V.ref t ∧ H t = some (.tup [.int (k x).1, .str (k x).2.1, .str (k x).2.2])) ∧ ∀ p, H p = none → Q (.ref p) (upd H p (.lst (xs.mergeSort (leT3 k))))
variable {X : Cx}
theorem cr_sorted3 (hu : X.A.units + 8 < cLine) : CallR X (.builtin "sorted") (rSorted3 X.K) := by
  intro pins s σ H vs us Q I r h
  obtain ⟨a, xs, k, rfl, hs, hx, q⟩ := h
  obtain ⟨its, rv, hl, hz⟩ := I.list hs
  obtain ⟨u, rfl, ru⟩ := vals1 r
  obtain rfl : u = Value.ref a := ru
  obtain ⟨e1, e2⟩ := refs_back rv fun x m => by
    obtain ⟨t, e, _⟩ := hx x m
    exact ⟨t, e⟩
  have er : PySem.W.EachIs (fun v b => ∃ as, Reads s.heap v (t3 (k (backV b))) as) its its := each_self fun v hv => by
    obtain ⟨t, rfl⟩ := e2 v hv
    have hm : V.ref t ∈ xs := by rw [e1]; exact List.mem_map.mpr ⟨_, hv, rfl⟩
    obtain ⟨t', e, ht⟩ := hx _ hm
    cases e
    obtain ⟨_, its2, r2, o, ho, hc, n, hd⟩ := I.hok _ _ ht
    rcases r2 with _ | ⟨ri, r2⟩
    rcases r2 with _ | ⟨rj, r2⟩
    rcases r2 with _ | ⟨rk, r2⟩
    cases r2
    obtain ⟨t1, rfl⟩ := ri
    obtain ⟨t2, rfl⟩ := rj
    obtain ⟨t3, rfl⟩ := rk
    exact ⟨_, .tuple ho hc hd (.cons (.int _ _) (.cons (.str _ _) (.cons (.str _ _) .nil)))⟩
  refine PySem.W.sorted_data (R := fun a b => a = b) (enc := fun u => t3 (k (backV u))) hl.isList (each_eq its) er (PySem.W.AllAlike.of fun _ _ => by simp [PySem.W.alike, PySem.W.alikeAll, t3]) (PySem.W.Sortable.tuples fun _ => ⟨_, _, rfl⟩) (by rw [← rv.length]; exact hz) (fun b _ => by rw [t3_depth]; omega) fun out _ eo => ?_
  have eo := eq_each eo
  subst eo
  have em : (its.mergeSort (PySem.W.dataLe false fun u => t3 (k (backV u)))).map backV = xs.mergeSort (leT3 k) := by
    rw [e1]
    exact List.map_mergeSort fun _ _ _ _ => rfl
  obtain ⟨n, hn⟩ := sortedAll_at s.heap its (its.mergeSort (PySem.W.dataLe false fun u => t3 (k (backV u)))).toArray
  have h3 : ∀ u ∈ its.mergeSort (PySem.W.dataLe false fun u => t3 (k (backV u))), ∃ a, u = Value.ref a := fun u hu => e2 u ((List.mergeSort_perm _ _).mem_iff.mp hu)
  refine ⟨.ref _, upd H (s.heap.objs.size + 1) (.lst (xs.mergeSort (leT3 k))), I.laid (t' := s.toks) (fun b o e => sortedAll_old e) (Nat.le_succ _) ⟨?_, _, n, by rw [← em]; exact vals_back h3, hn⟩, rfl, q _ (I.hok.fresh (Nat.le_succ _))⟩
  rw [List.length_mergeSort]
  exact hz
end Ln
set_option Elab.async false
set_option linter.all false
set_option maxRecDepth 100000
set_option maxHeartbeats 4000000
namespace Ln
open PySem PySem.Spec PyProof.Rows L2 PySem.W
abbrev D3 := Int × PySem.Str × PySem.Str
/-- the order of such data -/
def leD : D3 → D3 → Bool := dataLe false t3
theorem dataLt_t3 (p q : D3) : dataLt (t3 p) (t3 q) = decide (p.1 < q.1 ∨ (p.1 = q.1 ∧ (p.2.1.cps.toList < q.2.1.cps.toList ∨ (p.2.1 = q.2.1 ∧ p.2.2.cps.toList < q.2.2.cps.toList)))) := by
  have e : PyProof.Rows.lexLt itemOrd (keyToksAll []) (keyToksAll []) = false := lex_irrefl _
  rw [t3, t3, dataLt_tuple, dataLt_cons (by simp [alike]), dataLt_cons (by simp [alike]), dataLt_cons (by simp [alike]), dataLt_int, dataLt_str, dataLt_str, e]
  simp only [PyData.eqv, beq_iff_eq]
  have hs : ∀ x : List Nat, ¬ x < x := fun x => List.lt_irrefl x
  by_cases h1 : p.1 = q.1 <;> by_cases h2 : p.2.1 = q.2.1 <;> by_cases h3 : p.2.2 = q.2.2 <;> simp [h1, h2, h3, hs]
theorem leD_eq (p q : D3) : leD p q = decide (p.1 < q.1 ∨ (p.1 = q.1 ∧ (p.2.1.cps.toList < q.2.1.cps.toList ∨ (p.2.1 = q.2.1 ∧ p.2.2.cps.toList ≤ q.2.2.cps.toList)))) := by
  show (!dataLt (t3 q) (t3 p)) = _
  rw [dataLt_t3, ← decide_not]
  refine decide_eq_decide.mpr ?_
  have t : ∀ x y : List Nat, ¬ x < y ↔ y ≤ x := fun x y => List.not_lt
  have u : ∀ x y : PySem.Str, x.cps.toList = y.cps.toList → x = y := fun x y h => by
    rcases x with ⟨⟨x⟩⟩; rcases y with ⟨⟨y⟩⟩; exact congrArg (fun l => (⟨⟨l⟩⟩ : PySem.Str)) h
  by_cases h1 : q.1 < p.1
  · simp [h1]; omega
  · by_cases h2 : q.1 = p.1
    · by_cases h3 : q.2.1 = p.2.1
      · simp [h1, h2, h3, List.lt_irrefl]
      · have h3' : ¬ p.2.1 = q.2.1 := fun h => h3 h.symm
        simp only [h2, h3, h3', Int.lt_irrefl, true_and, false_or, false_and, or_false, List.not_lt]
        constructor
        · intro h
          rcases List.le_iff_lt_or_eq.mp h with h | h
          · exact h
          · exact absurd (u _ _ h) h3'
        · exact fun h => List.le_of_lt h
    · have : p.1 < q.1 := by omega
      simp [h1, h2, this]
theorem leD_anti {p q : D3} (h1 : leD p q = true) (h2 : leD q p = true) : p = q := by
  rw [leD_eq] at h1 h2
  have h1 := of_decide_eq_true h1
  have h2 := of_decide_eq_true h2
  have u : ∀ x y : PySem.Str, x.cps.toList = y.cps.toList → x = y := fun x y h => by
    rcases x with ⟨⟨x⟩⟩; rcases y with ⟨⟨y⟩⟩; exact congrArg (fun l => (⟨⟨l⟩⟩ : PySem.Str)) h
  rcases p with ⟨a, b, c⟩
  rcases q with ⟨a', b', c'⟩
  simp only at h1 h2
  obtain rfl : a = a' := by omega
  have k1 := (h1.resolve_left (by omega)).2
  have k2 := (h2.resolve_left (by omega)).2
  rcases k1 with k1 | ⟨rfl, k1⟩
  · rcases k2 with k2 | ⟨e, _⟩
    · exact absurd k2 (List.lt_asymm k1)
    · subst e; exact absurd k1 (List.lt_irrefl _)
  · rcases k2 with k2 | ⟨_, k2⟩
    · exact absurd k2 (List.lt_irrefl _)
    · rw [u _ _ (List.le_antisymm k1 k2)]
theorem leD_total : TotalLe leD := sortLe_total (listOrd itemOrd) false _
/-- a list of such data in order -/
def srt3 (l : List D3) : List D3 := l.mergeSort leD
theorem srt3_pw (l : List D3) : (srt3 l).Pairwise fun a b => leD a b = true := List.pairwise_mergeSort (fun a b c => leD_total.trans a b c) (fun a b => by have := leD_total.total a b; simpa using this) l
theorem srt3_perm (l : List D3) : (srt3 l).Perm l := List.mergeSort_perm _ _
theorem srt3_one {l m : List D3} (h : l.Perm m) : srt3 l = srt3 m :=
  List.Perm.eq_of_pairwise (fun a b _ _ h1 h2 => leD_anti h1 h2) (srt3_pw l) (srt3_pw m) ((srt3_perm l).trans (h.trans (srt3_perm m).symm))
theorem srt3_srt3 (l : List D3) : srt3 (srt3 l) = srt3 l := srt3_one (srt3_perm l)
theorem srt3_map (k : V → D3) (xs : List V) : (xs.mergeSort (leT3 k)).map k = srt3 (xs.map k) := List.map_mergeSort fun _ _ _ _ => rfl
end Ln
set_option Elab.async false
set_option linter.all false
set_option maxRecDepth 100000
set_option maxHeartbeats 4000000
/-! len(set(names)), names a list of fewer than 63 texts, twice or not -/
namespace Ln
open PySem PySem.Spec PyProof.Rows L2
/-- one name more to those met so far -/
def meet (l : List PySem.Str) (x : PySem.Str) : List PySem.Str := if l.any (· == x) then l else l ++ [x]
def met (l : List PySem.Str) : List PySem.Str := l.foldl meet []
theorem met_snoc (l : List PySem.Str) (x : PySem.Str) : met (l ++ [x]) = meet (met l) x := by
  unfold met
  rw [List.foldl_append]
  rfl
theorem met_le : ∀ (n : Nat) (l : List PySem.Str), l.length = n → (met l).length ≤ n := by
  intro n
  induction n with
  | zero => intro l h; rw [List.eq_nil_of_length_eq_zero h]; exact Nat.le_refl _
  | succ n ih =>
    intro l h
    have ne : l ≠ [] := fun e => by rw [e] at h; cases h
    rw [← List.dropLast_concat_getLast ne, met_snoc]
    have := ih l.dropLast (by rw [List.length_dropLast]; omega)
    unfold meet
    split
    · omega
    · rw [List.length_append, List.length_singleton]; omega
theorem meet_any (l : List PySem.Str) (x k : PySem.Str) : (meet l x).any (· == k) = (l.any (· == k) || decide (k = x)) := by
  unfold meet
  by_cases h : l.any (· == x) = true
  · rw [if_pos h]
    by_cases e : k = x
    · rw [e, h]; rfl
    · rw [decide_eq_false e, Bool.or_false]
  · rw [if_neg h, List.any_append]
    by_cases e : k = x
    · rw [e, decide_eq_true rfl, List.any_cons, beq_self_eq_true, Bool.true_or]
    · rw [decide_eq_false e, List.any_cons, List.any_nil, Bool.or_false, beq_eq_false_iff_ne.mpr fun z => e z.symm]
theorem meet_len (l : List PySem.Str) (x : PySem.Str) : (meet l x).length = if l.any (· == x) then l.length else l.length + 1 := by
  unfold meet
  split
  · rfl
  · exact List.length_append
theorem met_mem (l : List PySem.Str) : ∀ k, (met l).any (· == k) = l.any (· == k) := by
  induction hn : l.length generalizing l with
  | zero => rw [List.eq_nil_of_length_eq_zero hn]; intro k; rfl
  | succ n ih =>
    intro k
    have ne : l ≠ [] := fun e => by rw [e] at hn; cases hn
    have e := List.dropLast_concat_getLast ne
    rw [← e, met_snoc, meet_any, ih l.dropLast (by rw [List.length_dropLast]; omega), List.any_append, List.any_cons, List.any_nil, Bool.or_false]
    congr 1
    by_cases c : k = l.getLast ne
    · rw [decide_eq_true c, ← c, beq_self_eq_true]
    · rw [decide_eq_false c, beq_eq_false_iff_ne.mpr fun z => c z.symm]
/-- as many as there are exactly if none stands twice -/
theorem met_all : ∀ l : List PySem.Str, ((met l).length = l.length ↔ l.Nodup) := by
  intro l
  induction hn : l.length generalizing l with
  | zero => rw [List.eq_nil_of_length_eq_zero hn]; simp [met]
  | succ n ih =>
    have ne : l ≠ [] := fun e => by rw [e] at hn; cases hn
    have e := List.dropLast_concat_getLast ne
    have ld : l.dropLast.length = n := by rw [List.length_dropLast]; omega
    have i2 := ih l.dropLast ld
    have le := met_le n l.dropLast ld
    have mm := met_mem l.dropLast (l.getLast ne)
    rw [← e, met_snoc, meet_len, mm, List.nodup_append]
    by_cases c : l.getLast ne ∈ l.dropLast
    · have h : l.dropLast.any (· == l.getLast ne) = true := List.any_eq_true.mpr ⟨_, c, beq_self_eq_true _⟩
      rw [if_pos h]
      constructor
      · intro z; omega
      · exact fun z => absurd rfl (z.2.2 _ c _ (List.mem_singleton.mpr rfl))
    · have h : ¬ l.dropLast.any (· == l.getLast ne) = true := fun z => by
        obtain ⟨y, hy, ey⟩ := List.any_eq_true.mp z
        rw [eq_of_beq ey] at hy
        exact c hy
      rw [if_neg h]
      constructor
      · intro z
        refine ⟨i2.mp (by omega), List.nodup_cons.mpr ⟨List.not_mem_nil, List.nodup_nil⟩, fun a ha b hb z => c ?_⟩
        rw [List.mem_singleton.mp hb] at z
        rw [← z]; exact ha
      · intro z
        have := i2.mpr z.1
        omega
section
variable {P : Program} {w : World} {A : Around} {Rr : Result → Shared → Prop} {It_ : Addr} {fp wr : List Addr} {G : Array GenState → Array GenState → Prop} {n : Nat} {Pw : Nat → Value → Prop} {Sw : Nat → Shared → Prop}
/-- the walk that puts the names into the set -/
theorem set_walk (W : WalksS P w A.in1 It_ fp wr G n Pw Sw) (a : Addr) (ha : a ∉ fp) (xs : List PySem.Str) (hl : xs.length = n) (hb : n + 1 < scanBound) (hv : ∀ j u, Pw j u → ∃ t, u = Value.str (xs.getD j Str.empty) t) (d : Nat) :
    ∀ (j : Nat) (s : Shared), n - j = d → j ≤ n → Sw j s → s.heap.SetOf (PySem.strKind P w) a (fun k => (met (xs.take j)).any (· == k)) (met (xs.take j)).length →
      (∀ s', Moved (a :: wr) G s s' → s'.heap.SetOf (PySem.strKind P w) a (fun k => (met xs).any (· == k)) (met xs).length → Rr (.ok (.ret .none)) s') →
      codeAny (model P w) A (.builtin "set.update.loop" ⟨[.ref a, .ref It_], []⟩) Rr s := by
  have aw : a ∉ wr := fun h => ha (W.sub _ h)
  induction d with
  | zero =>
    intro j s e1 e2 st hS fin
    obtain rfl : j = n := by omega
    refine codeAny_builtin PyProof.Rows.F.entry_set_update_loop ?_; rw [Around.under_plainId PyProof.Rows.F.plain_set_update_loop _]
    show wpAny _ A.in1 (pyNext (.ref It_) >>= _) _ _ s
    refine wpAny_bind (W.done s _ _ st fun s' mv => (?_ : wpAny _ A.in1 (ret Value.none) _ _ s'))
    rw [List.take_of_length_le (by omega)] at hS
    obtain ⟨o, es, ep, t, ho, more⟩ := hS
    exact wpAny_pure (fin s' (mv.mono fun b m => List.mem_cons_of_mem _ m) ⟨o, es, ep, t, mv.heap a _ aw ho, more⟩)
  | succ d ih =>
    intro j s e1 e2 st hS fin
    have lt : j < n := by omega
    refine codeAny_builtin PyProof.Rows.F.entry_set_update_loop ?_; rw [Around.under_plainId PyProof.Rows.F.plain_set_update_loop _]
    show wpAny _ A.in1 (pyNext (.ref It_) >>= _) _ _ s
    refine wpAny_bind (W.item j s _ _ lt st fun u s' pu st' mv => ?_)
    obtain ⟨t, rfl⟩ := hv j u pu
    obtain ⟨o, es, ep, tb, ho, more⟩ := hS
    show wpAny _ A.in1 (holding [Value.str (xs.getD j Str.empty) t] (setAdd a (.str (xs.getD j Str.empty) t)) >>= _) _ _ s'
    refine wpAny_bind (wpAny_holding (?_ : wpAny _ _ (setAdd a _) _ _ _))
    unfold setAdd
    refine wpAny_holding (wpAny_bind ((PySem.strKind P w).pyHash (k := xs.getD j Str.empty) (strKind_is _ _ _ _) ?_))
    have lm : (met (xs.take j)).length ≤ j := met_le _ _ (by rw [List.length_take]; omega)
    refine wpAny_setAddHashed_of (knd := PySem.strKind P w) (s := { s' with toks := s'.toks + 1 }) (strKind_is _ _ _ _) rfl ⟨o, es, ep, tb, mv.heap a _ aw ho, more⟩ (by omega) fun h' only hS2 => ?_
    have tk : xs.take (j + 1) = xs.take j ++ [xs.getD j Str.empty] := by
      rw [List.take_add_one, List.getElem?_eq_getElem (by omega), List.getD_eq_getElem?_getD, List.getElem?_eq_getElem (by omega)]; rfl
    have nx : h'.SetOf (PySem.strKind P w) a (fun k => (met (xs.take (j + 1))).any (· == k)) (met (xs.take (j + 1))).length := SetOf_congr hS2 (fun k => by rw [tk, met_snoc, meet_any]) (by rw [tk, met_snoc, meet_len])
    have fr : ∀ b ∈ fp, ∀ o, s'.heap.get? b = some o → h'.get? b = some o := fun b m o e => by rw [only.2 b fun z => ha (z ▸ m)]; exact e
    refine wpAny_pure ⟨plainId_quiet PyProof.Rows.F.plain_set_update_loop _, ih (j + 1) _ (by omega) lt (W.frame _ s' _ _ st' (Nat.le_succ _) fr) nx fun s2 mv2 hS3 => fin s2 (Moved.trans W.gtrans ((mv.mono fun b m => List.mem_cons_of_mem _ m).then_heap (Nat.le_succ _) fun b o nb e => ?_) mv2) hS3⟩
    rw [only.2 b fun z => nb (z ▸ List.mem_cons_self)]; exact e
end
section
variable {P : Program} {w : World} {A : Around} {E : Value → Shared → Prop} {s : Shared}
abbrev bare (led : Bool) : Obj := { cls := .type "set", dict := none, data := .set #[] 0 (.fresh 0 0 led) }
set_option maxHeartbeats 8000000 in
/-- set(l), l a list of texts -/
theorem call_set_names {l : Addr} {its : Array Value} {xs : List PySem.Str} {Q : Value → Shared → Prop} (hh : A.handled = none) (hl : s.heap.IsList l its) (hi : PyProof.Rows.StrsAre its.toList xs) (hb : its.size + 1 < scanBound)
    (fin : ∀ (h' : Heap) (tk : Nat), h'.SetOf (PySem.strKind P w) s.heap.objs.size (fun k => (met xs).any (· == k)) (met xs).length → (∀ b o, b < s.heap.objs.size → s.heap.get? b = some o → h'.get? b = some o) → Q (.ref s.heap.objs.size) { s with heap := h', toks := tk }) :
    wpAny (model P w) A (call (.type "set") [.ref l]) Q E s := by
  have hn : xs.length = its.size := by rw [← StrsAre.len_eq hi, Array.length_toList]
  obtain ⟨c, tl, k1⟩ := PySem.F.called_set.mro; have k2 := PySem.F.called_set.made; have k3 := PySem.F.called_set.sub
  refine wpAny_call (codeAny_of_tree (?_ : wpAny _ _ (callAny (.type "set") _) _ _ _))
  refine wpAny_pure ⟨Code.quiet_builtin _ (by decide +kernel), codeAny_builtin PySem.F.entry_type_call ?_⟩; rw [Around.under_plain (weight_type_call_type "set" [.ref l] []) rfl]
  have k4 := PySem.F.called_set.notType; have k5 := PySem.F.called_set.canCreate; have k6 := PySem.F.typeCall_set_1 (.ref l)
  repeat any_goals (first | assumption | wp_step)
  refine codeAny_mono (code_set_new_1 (.ref l) (E := E) (Q₁ := fun o t => ∃ led : Bool, o = .ref s.heap.objs.size ∧ t = { s with heap := s.heap.push (bare led) }) fun led => ⟨led, rfl, rfl⟩) fun r t hr => ?_
  rcases r with e | f
  · exact hr
  cases f with
  | ret o =>
    obtain ⟨led, rfl, rfl⟩ := hr
    have at0 : (s.heap.push (bare led)).get? s.heap.objs.size = some (bare led) := Heap.get?_push_size _ rfl
    have ty0 : Shared.TypeIs { s with heap := s.heap.push (bare led) } (.ref s.heap.objs.size) "set" := ⟨_, at0, rfl⟩
    have k7 := PySem.F.called_set.init.lookup; have k8 := PySem.F.called_set.init.bind (.ref s.heap.objs.size)
    repeat any_goals (first | assumption | wp_step)
    refine codeAny_mono (codeAny_call_builtin (R := wants (fun r t => r = .none ∧ ∃ h' tk, t = { s with heap := h', toks := tk } ∧ h'.SetOf (PySem.strKind P w) s.heap.objs.size (fun k => (met xs).any (· == k)) (met xs).length ∧ ∀ b o, b < s.heap.objs.size → s.heap.get? b = some o → h'.get? b = some o) E)
      PySem.F.called_set.init.plain PySem.F.entry_set_init (check_set_init_1 ty0 ?_)) fun r2 t2 hr2 => ?_
    · obtain ⟨⟨oc, od, ox, os⟩, ho, hc, nl, hd⟩ := hl
      simp only at hc hd; subst hc; subst hd
      have ho2 : (s.heap.push (bare led)).get? l = some { cls := .type "list", dict := od, data := .seq its nl, slots := os } := Heap.get?_push_of_some _ ho
      have l1 := PySem.F.sub_list_set; have l2 := PySem.F.sub_list_frozenset; have l3 : (Value.type "list" == Value.type "dict") = false := by decide
      have isl : (s.heap.push (bare led)).IsList l its := ⟨_, ho2, rfl, nl, rfl⟩
      unfold Builtin.«set.__init__» noKeywords Builtin.Frozenset.updateFrom; generalize hp : pyIter = pit; wp_walk; subst hp
      refine wpAny_pyIter_list isl (wpAny_bind (wpAny_runValue ?_))
      have lt : l < s.heap.objs.size := Heap.lt_size ho
      have ne1 : l ≠ (s.heap.push (bare led)).objs.size := by rw [Heap.size_push]; exact Nat.ne_of_lt (Nat.lt_succ_of_lt lt)
      have no1 : s.heap.objs.size ∉ [(s.heap.push (bare led)).objs.size, l] := by
        rw [Heap.size_push]; intro m; rcases List.mem_cons.mp m with e | m
        · exact Nat.ne_of_lt (Nat.lt_succ_self _) e
        · exact Nat.ne_of_gt lt (List.mem_singleton.mp m)
      refine set_walk ((Walks.list (by simp [hh] : A.in1.in1.in1.handled = none) _ l ne1 its).toS) s.heap.objs.size no1 xs hn hb (fun j u hu => SS.strs_at hi j u (by rw [Array.getElem?_toList]; exact hu)) (its.size - 0) 0 _ (by omega) (Nat.zero_le _) ⟨⟨_, Heap.get?_push_size _ rfl, rfl, rfl⟩, isl.push _⟩ ?_ fun t3 mv hS => ?_
      · exact SetOf_congr ((setObjOf_fresh (knd := PySem.strKind P w) led).setOf (Heap.get?_push_of_some _ at0) (by unfold scanBound; omega)) (fun _ => rfl) rfl
      · obtain ⟨h3, g3, d3, tk3, os3⟩ := t3
        have eg : g3 = s.gens := mv.gens; have ed : d3 = s.drawn := mv.drawn; have eo : os3 = s.os := mv.os
        subst eg; subst ed; subst eo
        show wpAny _ _ _ _ _ _; refine wpAny_pure ?_; show wpAny _ _ (ret Value.none) _ _ _; refine wpAny_pure ⟨rfl, h3, tk3, rfl, hS, fun b o hb e => ?_⟩
        refine mv.heap b o (fun m => ?_) (Heap.get?_push_of_some _ (Heap.get?_push_of_some _ e))
        rw [Heap.size_push] at m; rcases List.mem_cons.mp m with z | m
        · exact Nat.ne_of_lt hb z
        · exact Nat.ne_of_lt (Nat.lt_succ_of_lt hb) (List.mem_singleton.mp m)
    · rcases r2 with e | f2
      · exact hr2
      cases f2 with
      | ret r =>
        obtain ⟨rfl, h3, tk3, rfl, hS, old⟩ := hr2
        repeat any_goals (first | assumption | wp_step)
        exact fin _ _ hS old
      | _ => exact hr2.elim
  | _ => exact hr.elim
end
section
variable {X : Cx}
def tLenNames (K : PySem.W.Frag) (ta : TE) : TE := fun σ H Q => ta σ H fun x H1 => ∃ (l : Addr) (xs : List PySem.Str), x = .ref l ∧ SqL K H1 l (xs.map V.str) ∧ xs.length ≤ 60 ∧ Q (.int ((met xs).length : Nat)) H1
theorem pe_lenNames {a : Expr} {ta : TE} {p p2 q pos : Pos} (hc : X.calm = true) (hg : Gl X "len") (hm : X.mg "len" = none) (hg2 : Gl X "set") (hm2 : X.mg "set" = none) (ha : PE X a ta)
    (na : starEach [a] X.env = (false, eval a X.env) :: starEach [] X.env := by rfl) : PE X (.Call (.Name "len" p) [.Call (.Name "set" p2) [a] [] q] [] pos) (tLenNames X.K ta) := by
  refine ⟨fun pins s σ H Q I h => Call_ (ld_blt I hg hm boot_len (PyProof.Rows.callWith_builtin1 (PyProof.Rows.args_cons ?_ rfl) rfl rfl))⟩
  refine Call_ (ld_blt I hg2 hm2 boot_set (PyProof.Rows.callWith_type1 (PyProof.Rows.args_cons (thn (ha.run pins s σ H _ I h) fun v s1 ⟨x, H1, I1, r1, q1⟩ => PyProof.Rows.args_nil ?_) na) na rfl))
  obtain ⟨l, xs, rfl, hq, h1, q1⟩ := q1
  cases r1
  obtain ⟨its, r, pl, hz⟩ := I1.list hq
  have ln : its.toArray.size = xs.length := by rw [List.size_toArray, ← r.length, List.length_map]
  refine call_set_names (I1.ok.hd hc) pl.isList (by simpa using strsAre_of r) (by rw [ln]; unfold scanBound; omega) fun h' tk hS hk => PyProof.Rows.args_nil ?_
  obtain ⟨o, es, ep, t, ho, hex, hd, _, _, _, hf, hn⟩ := hS
  have le := met_le _ xs rfl
  exact call_len_set ho hex hd hf (by rw [hn]; omega) ⟨.int (met xs).length, H1, (I1.kept (t' := tk) fun b o e => hk b o (Heap.lt_size e) e).tok _, ⟨_, by rw [hn]⟩, q1⟩
end
end Ln
set_option Elab.async false
set_option linter.all false
set_option maxRecDepth 100000
set_option maxHeartbeats 4000000
/-! min(ns, default=None), ns a list of whole numbers, empty or not -/
namespace Ln
open PySem PySem.Spec PyProof.Rows L2 PySem.W
/-- the least of a list, none of an empty one -/
def least : List Int → Option Int
  | [] => none
  | n :: ns => some (ns.foldl min n)
def vOf : Option Int → V
  | none => .non
  | some m => .int m
def rMinD (K : PySem.W.Frag) : List V → List V → Hp → VK → Prop := fun vs zs H Q => ∃ (a : Addr) (ns : List Int), vs = [V.ref a] ∧ zs = [V.non] ∧ SqL K H a (ns.map V.int) ∧ Q (vOf (least ns)) H
theorem reads_vals {h : Heap} : ∀ {ns : List Int} {us : List Value}, Vals (ns.map V.int) us → ReadsAll h us (ns.map .int) []
  | [], _, .nil => .nil
  | n :: ns, _, .cons r t => by
    obtain ⟨k, rfl⟩ := r
    exact .cons (as := []) (.int n k) (reads_vals t)
theorem depth_ints : ∀ ns : List Int, PyData.depthAll (ns.map .int) = 0
  | [] => by simp only [List.map_nil, PyData.depthAll]
  | n :: ns => by simp only [List.map_cons, PyData.depthAll, PyData.depth, depth_ints ns, Nat.max_self]
theorem alike_ints (ns : List Int) : AlikeAll (ns.map PyData.int) :=
  ⟨fun x hx y hy => by
    obtain ⟨i, _, rfl⟩ := List.mem_map.mp hx
    obtain ⟨j, _, rfl⟩ := List.mem_map.mp hy
    simp [alike], fun x hx => by
    obtain ⟨i, _, rfl⟩ := List.mem_map.mp hx
    exact nofun⟩
theorem cr_minD {X : Cx} (hc : X.calm = true) (hu : X.A.units + 8 < cLine) : CallRK X (.builtin "min") [Str.ofString "default"] (rMinD X.K) := by
  intro pins s σ H vs zs us ws Q I r rz h
  obtain ⟨a, ns, rfl, rfl, hs, q⟩ := h
  obtain rfl := Vals.ref1 r
  obtain ⟨w1, rfl, e1⟩ := vals1 rz
  obtain rfl : w1 = Value.none := e1
  obtain ⟨its, rv, pl, hz⟩ := I.list hs
  refine min_list_default (xs := ns.map .int) (as := []) (I.ok.hd hc) pl.isList (by simpa using reads_vals rv) (alike_ints ns) (by rw [depth_ints]; omega) (fun e h' tk hk => ?_) fun y ys i v h' tk bs e hv hr hk => ?_
  · obtain rfl : ns = [] := List.map_eq_nil_iff.mp e
    exact ⟨.non, H, I.kept (t' := tk) fun b o e => hk b o e, rfl, q⟩
  · cases ns with
    | nil => cases e
    | cons n ns =>
      rw [List.map_cons] at e
      injection e with e1 e2
      subst e1; subst e2
      rw [minD_ints] at hr
      cases hr with
      | int _ t => exact ⟨.int (ns.foldl min n), H, I.kept (t' := tk) fun b o e => hk b o e, ⟨t, rfl⟩, q⟩
theorem foldl_min : ∀ (ns : List Int) (n : Int), (∀ m ∈ ns, ns.foldl min n ≤ m) ∧ ns.foldl min n ≤ n ∧ (ns.foldl min n = n ∨ ns.foldl min n ∈ ns)
  | [], n => ⟨nofun, Int.le_refl _, .inl rfl⟩
  | k :: ns, n => by
    obtain ⟨h1, h2, h3⟩ := foldl_min ns (min n k)
    rw [List.foldl_cons]
    refine ⟨fun m hm => ?_, by omega, ?_⟩
    · rcases List.mem_cons.mp hm with rfl | hm
      · omega
      · exact h1 m hm
    · rcases h3 with h3 | h3
      · rw [h3]
        rcases Int.le_total n k with c | c
        · exact .inl (by omega)
        · exact .inr (List.mem_cons.mpr (.inl (by omega)))
      · exact .inr (List.mem_cons_of_mem _ h3)
end Ln
set_option Elab.async false
set_option linter.all false
set_option maxRecDepth 100000
set_option maxHeartbeats 4000000
/-! t[::-1], t a tuple -/
namespace HT
open PySem PySem.Spec PyProof.Rows
section
variable {P : Program} {w : World} {A : Around} {E : Value → Shared → Prop} {s : Shared}
theorem applied_back {sl : Addr} {t : Tok} {n : Nat} {Q : Int × Int × Nat → Shared → Prop} (hs : s.heap.IsSliceOf sl .none .none (.int (-1) t)) (h : Q ((n : Int) - 1, -1, n) s) : wpAny (model P w) A (Builtin.Slice.sliceApplied (.ref sl) (pure (n : Int))) Q E s := by
  obtain ⟨os, hos, hcs, hds⟩ := id hs
  unfold Builtin.Slice.sliceApplied Builtin.Slice.sliceFields
  refine wpAny_bind (wpAny_bind (wpAny_field hos hds (x := .none) rfl (wpAny_bind (wpAny_field hos hds (x := .none) rfl (wpAny_bind (wpAny_field hos hds (x := .int (-1) t) rfl (wpAny_pure ?_)))))))
  refine wpAny_bind (slicePart_int ?_)
  show wpAny _ _ (if ((-1 : Int) == 0) = true then _ else _) _ _ s
  rw [if_neg (by decide)]
  refine wpAny_bind (slicePart_none (wpAny_bind (slicePart_none (wpAny_bind (wpAny_pure ?_)))))
  show wpAny _ _ (match Builtin.Slice.sliceAdjust none none (-1) (n : Int) with | (lo, hi) => pure (lo, (-1 : Int), Builtin.Slice.slicePlaces lo hi (-1))) _ _ s
  have e1 : Builtin.Slice.sliceAdjust none none (-1) (n : Int) = ((n : Int) - 1, -1) := by
    unfold Builtin.Slice.sliceAdjust
    simp
  have e2 : Builtin.Slice.slicePlaces ((n : Int) - 1) (-1) (-1) = n := by
    unfold Builtin.Slice.slicePlaces
    simp
    try omega
  rw [e1]
  show wpAny _ _ (pure ((n : Int) - 1, (-1 : Int), Builtin.Slice.slicePlaces ((n : Int) - 1) (-1) (-1))) _ _ s
  rw [e2]
  exact wpAny_pure h
theorem fm_map {α β : Type} {f : α → Option β} {g : α → β} : ∀ l : List α, (∀ x ∈ l, f x = some (g x)) → l.filterMap f = l.map g
  | [], _ => rfl
  | x :: l, h => by
    rw [List.filterMap_cons, h x List.mem_cons_self, List.map_cons, fm_map l fun y hy => h y (List.mem_cons_of_mem _ hy)]
theorem pick_back (xs : Array Value) : ((List.range xs.size).filterMap fun (k : Nat) => xs[(((xs.size : Nat) : Int) - 1 + (k : Int) * (-1)).toNat]?).toArray = xs.toList.reverse.toArray := by
  congr 1
  refine List.ext_getElem? fun i => ?_
  have e : ((List.range xs.size).filterMap fun (k : Nat) => xs[(((xs.size : Nat) : Int) - 1 + (k : Int) * (-1)).toNat]?) = (List.range xs.size).map fun k => xs.getD (xs.size - 1 - k) .none := by
    refine fm_map _ fun k hk => ?_
    have hk := List.mem_range.mp hk
    rw [show (((xs.size : Nat) : Int) - 1 + (k : Int) * (-1)).toNat = xs.size - 1 - k by omega]
    have hlt : xs.size - 1 - k < xs.size := by omega
    rw [Array.getElem?_eq_getElem hlt, Array.getD_eq_getD_getElem?, Array.getElem?_eq_getElem hlt]
    rfl
  rw [e]
  by_cases c : i < xs.size
  · rw [List.getElem?_map, List.getElem?_range c, List.getElem?_reverse (by simpa using c)]
    have hlt : xs.size - 1 - i < xs.size := by omega
    rw [Array.length_toList, Array.getElem?_toList, Array.getElem?_eq_getElem hlt]
    show some (xs.getD (xs.size - 1 - i) .none) = _
    rw [Array.getD_eq_getD_getElem?, Array.getElem?_eq_getElem hlt]
    rfl
  · rw [List.getElem?_eq_none (by simp; omega), List.getElem?_eq_none (by simp; omega)]
theorem getItem_back {t sl : Addr} {items : Array Value} {u : Tok} {Q : Value → Shared → Prop} (ht : IsTup s.heap t items) (hs : s.heap.IsSliceOf sl .none .none (.int (-1) u)) (hsz : items.size ≤ sizeLine)
    (h : Q (.ref s.heap.objs.size) { s with heap := s.heap.push { cls := .type "tuple", data := .seq items.toList.reverse.toArray } }) : wpAny (model P w) A (getItem (.ref t) (.ref sl)) Q E s := by
  obtain ⟨os, hos, hcs, hds⟩ := id hs
  have tys : s.TypeIs (.ref sl) "slice" := ⟨os, hos, hcs⟩
  have fit : sizeOk (.seq items.toList.reverse.toArray) := by
    show items.toList.reverse.toArray.size ≤ sizeLine
    rw [List.size_toArray, List.length_reverse, Array.length_toList]; exact hsz
  unfold getItem
  try with_reducible refine wpAny_holding ?_
  first | refine wpAny_bind (wpAny_pure ?_) | skip
  refine wpAny_bind (wpAny_sequenceKey ht.typeIs (by decide) (wpAny_bind (wpAny_callSpecial?_slot (name := Str.ofString "__getitem__") ht.typeIs PyProof.Rows.slot_tuple_getitem (wpAny_call_entry PyProof.Rows.slot_tuple_getitem ht.typeIs entry_tuple_getitem ?_ (args_tuple_getitem _ _)))))
  show wpAny _ _ (Builtin.Tuple.tupleItemsOf (.ref t) >>= _) _ _ s
  refine wpAny_bind (tupleItemsOf_ ht (wpAny_bind (wpAny_typeOf tys ?_)))
  rw [if_pos (by decide)]
  refine wpAny_bind (applied_back hs ?_)
  have no : ¬ ((((items.size : Nat) : Int) - 1 == 0 && (-1 : Int) == 1 && items.size == items.size) = true) := by
    rw [show ((-1 : Int) == 1) = false by decide, Bool.and_false, Bool.false_and]
    exact Bool.false_ne_true
  show wpAny _ _ (if (((items.size : Nat) : Int) - 1 == 0 && (-1 : Int) == 1 && items.size == items.size) = true then _ else _) _ _ s
  rw [if_neg no, pick_back]
  first
    | exact wpAny_bind (m := Builtin.Tuple.tupleExact _) (wpAny_newObj_type (wpAny_pure ⟨_, rfl, wpAny_pure h⟩) fit)
    | exact wpAny_bind (m := Builtin.Tuple.tupleExact _) (wpAny_newObj_type (wpAny_bind (wpAny_pure (wpAny_pure ⟨_, rfl, wpAny_pure h⟩))) fit)
    | exact wpAny_bind (wpAny_bind (m := Builtin.Tuple.tupleExact _) (wpAny_newObj_type (wpAny_pure (wpAny_pure ⟨_, rfl, wpAny_pure h⟩)) fit))
    | exact wpAny_bind (wpAny_bind (m := Builtin.Tuple.tupleExact _) (wpAny_newObj_type (wpAny_pure ⟨_, rfl, wpAny_pure h⟩) fit))
end
end HT
namespace Ln
open PySem PySem.Spec PyProof.Rows L2
section
variable {X : Cx}
def tRevT (K : PySem.W.Frag) (te : TE) : TE := fun σ H Q => te σ H fun x H1 => ∃ a xs, x = .ref a ∧ SqT K H1 a xs ∧ ∀ p, H1 p = none → Q (.ref p) (upd H1 p (.tup xs.reverse))
theorem pe_revT {e : Expr} {te : TE} {k : Nat} {p1 p2 p3 pos : Pos} (he : PE X e te) : PE X (.Subscript e (.Slice none none (some (.UnaryOp .USub (.Constant (.int 1) k p1) p2)) p3) pos) (tRevT X.K te) := by
  refine ⟨fun pins s σ H Q I h => Subscript_ (thn (he.run pins s σ H _ I h) fun v s1 ⟨x, H1, I1, r1, q1⟩ => ?_)⟩
  obtain ⟨a, xs, ex, hx, q⟩ := q1
  subst ex
  cases r1
  have stp : PO X (some (.UnaryOp .USub (.Constant (.int 1) k p1) p2)) (tPart (tUn (rU fun i => .int (-i)) (tC (.int 1)))) := po_some (pe_un un_neg pe_int)
  refine wpAny_Slice (thn (po_none.run pins s1 σ H1 (fun o H2 => o = none ∧ H2 = H1) I1 ⟨rfl, rfl⟩) fun vl s2 ⟨l, H2, I2, pl, el, e2⟩ => ?_)
  subst el e2
  refine thn (po_none.run pins s2 σ H2 (fun o H3 => o = none ∧ H3 = H2) I2 ⟨rfl, rfl⟩) fun vu s3 ⟨u, H3, I3, pu, eu, e3⟩ => ?_
  subst eu e3
  refine thn (stp.run pins s3 σ H3 (fun o H4 => o = some (-1) ∧ H4 = H3) I3 ⟨1, rfl, -1, rfl, rfl, rfl⟩) fun vs s4 ⟨o, H4, I4, ps, eo, e4⟩ => ?_
  subst eo e4
  obtain rfl : vl = Value.none := by cases pl; rfl
  obtain rfl : vu = Value.none := by cases pu; rfl
  obtain ⟨tk, rfl⟩ : ∃ tk, vs = Value.int (-1) tk := by cases ps; exact ⟨_, rfl⟩
  have I5 : L2.Inv X pins σ H4 { s4 with heap := s4.heap.push { cls := .type "slice", data := .fields #[.none, .none, .int (-1) tk] } } := I4.kept (t' := s4.toks) fun b ob q => Heap.get?_push_of_some _ q
  obtain ⟨its, r, ht, hz⟩ := I5.tuple hx
  have hlen := r.length
  show wpAny (model X.prog X.w) X.A (subscriptTail e (.Slice none none (some (.UnaryOp .USub (.Constant (.int 1) k p1) p2)) p3) (.ref a) (.ref s4.heap.objs.size)) (EP X pins σ Q) X.xe { s4 with heap := s4.heap.push { cls := .type "slice", data := .fields #[.none, .none, .int (-1) tk] } }
  refine tail_any (ops := [.ref a, .ref s4.heap.objs.size]) ht.typeIs (PyProof.Rows.slot_tuple_getitem.lookup) (HT.getItem_back ht (Heap.IsSliceOf.new _ _ _ _) (by rw [List.size_toArray]; omega) ?_) (by with_unfolding_all rfl)
  refine ⟨.ref _, _, I5.laid (t' := s4.toks) (o := .tup xs.reverse) (fun b ob q => Heap.get?_push_of_some _ q) (Nat.le_refl _) ?_, rfl, q _ (I5.hok.fresh (Nat.le_refl _))⟩
  exact ⟨by rw [List.length_reverse]; exact hz, _, r.reverse, IsTup.new _ _⟩
end
end Ln
set_option Elab.async false
set_option linter.all false
set_option maxRecDepth 100000
set_option maxHeartbeats 4000000
/-! x in y, x and the items data, y a list or a tuple -/
namespace Ln
open PySem PySem.Spec PyProof.Rows L2
theorem Room.un65 {k : Nat} {A : Around} (r : Room k A) : A.units + 65 < cLine := by have := r.un; omega
section
variable {X : Cx}
def rInDT (K : PySem.W.Frag) (neg : Bool) : R2 := fun x y H Q => ∃ d ds, Dp K H x d ∧ (Dp K H y (.list ds) ∨ Dp K H y (.tuple ds)) ∧ SeqAt.shaped d = true ∧ PyData.canLayAll0 ds = true ∧ Q (.bl (if neg then !ds.any (fun z => PyData.eqv z d) else ds.any fun z => PyData.eqv z d)) H
theorem op_inDT (hu : X.A.units + 65 < cLine) : OpR X (compareOp .In) (rInDT X.K false) := by
  intro pins s σ H x y v u Q I rx ry h
  obtain ⟨d, ds, hd, he, sd, se, q⟩ := h
  obtain ⟨as, r1⟩ := Dp.reads I d x v hd rx
  rcases he with he | he
  · obtain ⟨bs, r2⟩ := Dp.reads I (.list ds) y u he ry
    exact SeqAt.in_list_reads r2 r1 se (SeqAt.canLay_of_shaped sd) (room_in_shaped sd hu) ⟨.bl _, H, I, rfl, q⟩
  · obtain ⟨bs, r2⟩ := Dp.reads I (.tuple ds) y u he ry
    exact SeqAt.in_tuple_reads r2 r1 se (SeqAt.canLay_of_shaped sd) (room_in_shaped sd hu) ⟨.bl _, H, I, rfl, q⟩
theorem op_notInDT (hu : X.A.units + 65 < cLine) : OpR X (compareOp .NotIn) (rInDT X.K true) := by
  intro pins s σ H x y v u Q I rx ry h
  obtain ⟨d, ds, hd, he, sd, se, q⟩ := h
  obtain ⟨as, r1⟩ := Dp.reads I d x v hd rx
  rcases he with he | he
  · obtain ⟨bs, r2⟩ := Dp.reads I (.list ds) y u he ry
    exact SeqAt.notIn_list_reads r2 r1 se (SeqAt.canLay_of_shaped sd) (room_in_shaped sd hu) ⟨.bl _, H, I, rfl, q⟩
  · obtain ⟨bs, r2⟩ := Dp.reads I (.tuple ds) y u he ry
    exact SeqAt.notIn_tuple_reads r2 r1 se (SeqAt.canLay_of_shaped sd) (room_in_shaped sd hu) ⟨.bl _, H, I, rfl, q⟩
end
end Ln
set_option Elab.async false
set_option linter.all false
set_option maxRecDepth 100000
set_option maxHeartbeats 4000000
/-! walks inside a comprehension: the fragment named -/
namespace Ln
open PySem PySem.Spec PyProof.Rows L2
section
variable {X : Cx} {K : PySem.W.Frag} {tg : Expr}
theorem pi_tupK {l : Expr} {tl : TE} (hl : PE X l tl) (hk : X.K = K := by rfl) : PI X tg l (iTup K tl) := by
  subst hk
  exact pi_tup hl
theorem pe_fldK {e : Expr} {ta : TE} {f : Str} {pos : Pos} (he : PE X e ta) (hb : attributeBase e f X.env (eval e X.env) = eval e X.env) (hk : X.K = K := by rfl) : PE X (.Attribute e f pos) (tFld K ta f) := by
  subst hk
  exact pe_fld he hb
theorem pe_bmK {T : String} {name : Str} {id : String} {r : V → List V → Hp → VK → Prop} {o e : Expr} {es : List Expr} {to : TE} {t : TA} {apos cpos : Pos} (pa : PlainAttrs T) (slot : Slot T name id) (hty : typeOf (.builtin id) = pure (.type "method_descriptor")) (hm : MtR X id r) (ho : PE X o to) (ha : PA X (e :: es) t)
    (hbase : attributeBase o name X.env (eval o X.env) = eval o X.env := by rfl)
    (hfew : ((backTo cpos (starEach (e :: es) X.env)).all (fun x => !x.1) && (backToKw cpos (keywordEach [] X.env)).all (fun x => x.1.isSome)
      && decide ((e :: es).length + ([] : List Keyword).length + (if ([] : List Keyword).isEmpty then 0 else 1) < 30)) = true := by rfl)
    (hline : (apos.endLine == cpos.line) = true := by rfl) (hs : starEach (e :: es) X.env = (false, eval e X.env) :: starEach es X.env := by rfl) (hplain : (backTo cpos (starEach es X.env)).any (·.1) = false := by rfl) (hk : X.K = K := by rfl) :
    PE X (.Call (.Attribute o name apos) (e :: es) [] cpos) (tBM K T r to t) := by
  subst hk
  exact pe_bm pa slot hty hm ho ha hbase hfew hline hs hplain
theorem mt_indexK (hk : X.K = K := by rfl) : MtR X "list.index" (rIndex K) := by
  subst hk
  exact mt_index
theorem pi_listK {l : Expr} {tl : TE} (hl : PE X l tl) (hk : X.K = K := by rfl) : PI X tg l (iList K tl) := by
  subst hk
  exact pi_list hl
theorem pi_enumTK {e : Expr} {ta : TA} {p pos tpos : Pos} {elts : List Expr} {kk : Nat} (hg : Gl X "enumerate") (hm : X.mg "enumerate" = none) (ha : PA X [e] ta) (hs : starEach [e] X.env = [(false, eval e X.env)] := by rfl) (hk : X.K = K := by rfl) :
    PI X (.Tuple elts kk tpos) (.Call (.Name "enumerate" p) [e] [] pos) (iEnumT K ta) := by
  subst hk
  exact pi_enumT hg hm ha hs
theorem pi_enumK {e : Expr} {ta : TA} {p pos tpos : Pos} {elts : List Expr} {kk : Nat} (hg : Gl X "enumerate") (hm : X.mg "enumerate" = none) (ha : PA X [e] ta) (hs : starEach [e] X.env = [(false, eval e X.env)] := by rfl) (hk : X.K = K := by rfl) :
    PI X (.Tuple elts kk tpos) (.Call (.Name "enumerate" p) [e] [] pos) (iEnum K ta) := by
  subst hk
  exact pi_enum hg hm ha hs
end
end Ln
set_option Elab.async false
set_option linter.all false
set_option maxRecDepth 100000
set_option maxHeartbeats 4000000
/-! written values: tuples of tuples and of what stands -/
namespace Ln
open PySem PySem.Spec PyProof.Rows L2
section
variable {K : PySem.W.Frag} {σ : L2.St} {H0 : Hp}
/-- an expression that gives this data, whatever was made before it -/
structure LitE (K : PySem.W.Frag) (σ : L2.St) (H0 : Hp) (te : TE) (d : PyData) : Prop where
  st : ∀ H H' v, Same H H' → Dp K H v d → Dp K H' v d
  run : ∀ H Q, Same H0 H → (∀ v H', Same H H' → Dp K H' v d → Q v H') → te σ H Q
structure LitA (K : PySem.W.Frag) (σ : L2.St) (H0 : Hp) (ta : TA) (ds : List PyData) : Prop where
  st : ∀ H H' vs, Same H H' → DpAll K H vs ds → DpAll K H' vs ds
  run : ∀ H Q, Same H0 H → (∀ vs H', Same H H' → DpAll K H' vs ds → Q vs H') → ta σ H Q
theorem LitE.non : LitE K σ H0 (tC .non) .none := ⟨fun _ _ _ _ h => by cases h; exact .non, fun H Q _ q => q _ H (Same.refl H) .non⟩
theorem LitE.int (i : Int) : LitE K σ H0 (tC (.int i)) (.int i) := ⟨fun _ _ _ _ h => by cases h; exact .int i, fun H Q _ q => q _ H (Same.refl H) (.int i)⟩
theorem LitE.bl (i : Bool) : LitE K σ H0 (tC (.bl i)) (.bool i) := ⟨fun _ _ _ _ h => by cases h; exact .bl i, fun H Q _ q => q _ H (Same.refl H) (.bl i)⟩
theorem LitE.str (i : Str) : LitE K σ H0 (tC (.str i)) (.str i) := ⟨fun _ _ _ _ h => by cases h; exact .str i, fun H Q _ q => q _ H (Same.refl H) (.str i)⟩
theorem LitE.var {i : Nat} {v : V} {d : PyData} (e : σ[i]? = some (some v)) (h : Dp K H0 v d) (st : ∀ H H' v, Same H H' → Dp K H v d → Dp K H' v d) : LitE K σ H0 (tVar i) d :=
  ⟨st, fun H Q s q => ⟨v, e, q v H (Same.refl H) (st _ _ _ s h)⟩⟩
theorem LitA.nil : LitA K σ H0 tNil [] := ⟨fun _ _ _ _ h => by cases h; exact .nil, fun H Q _ q => q _ H (Same.refl H) .nil⟩
theorem LitA.cons {te : TE} {ta : TA} {d : PyData} {ds : List PyData} (a : LitE K σ H0 te d) (b : LitA K σ H0 ta ds) : LitA K σ H0 (tCons te ta) (d :: ds) :=
  ⟨fun H H' vs s h => by cases h with | cons x y => exact .cons (a.st _ _ _ s x) (b.st _ _ _ s y),
   fun H Q s q => a.run H _ s fun v H1 s1 h1 => b.run H1 _ (s.trans s1) fun vs H2 s2 h2 => q _ H2 (s1.trans s2) (.cons (a.st _ _ _ s2 h1) h2)⟩
theorem DpAll.lenL {H : Hp} : ∀ {xs : List V} {ds : List PyData}, DpAll K H xs ds → xs.length = ds.length
  | _, [], h => by cases h; rfl
  | _, d :: ds, h => by cases h with | cons a b => simp [DpAll.lenL b]
theorem LitE.tup {ta : TA} {ds : List PyData} (h : LitA K σ H0 ta ds) (l : ds.length ≤ 1000) : LitE K σ H0 (tTup ta) (.tuple ds) :=
  ⟨fun H H' v s k => by cases k with | tup a b => exact .tup (Same.tup s a) (h.st _ _ _ s b),
   fun H Q s q => h.run H _ s fun vs H1 s1 h1 => ⟨by rw [DpAll.lenL h1]; exact Nat.le_trans l (by decide), fun p np => q (.ref p) _ (s1.trans (Ln.same_upd np)) (.tup (SqT.of upd_same) (h.st _ _ _ (Ln.same_upd np) h1))⟩⟩
/-- a written list -/
theorem LitA.lst {ta : TA} {ds : List PyData} (h : LitA K σ H0 ta ds) (l : ds.length ≤ 1000) {H : Hp} {Q : VK} (s : Same H0 H) (q : ∀ p us H', Same H H' → H p = none → H' p = some (.lst us) → DpAll K H' us ds → Q (.ref p) H') : tLst ta σ H Q :=
  h.run H _ s fun vs H1 s1 h1 => ⟨by rw [DpAll.lenL h1]; exact Nat.le_trans l (by decide), fun p np => q p vs _ (s1.trans (Ln.same_upd np)) (s1.free np) upd_same (h.st _ _ _ (Ln.same_upd np) h1)⟩
end
end Ln
set_option Elab.async false
set_option linter.all false
set_option maxRecDepth 100000
set_option maxHeartbeats 4000000
/-! d.update(e) -/
namespace Ln
open PySem PySem.Spec PyProof.Rows L2
section
variable {X : Cx}
def rDUpd : V → List V → Hp → VK → Prop := fun x xs H Q => ∃ (a b : Addr) (kvs more : List (Key × V)), x = .ref a ∧ xs = [.ref b] ∧ a ≠ b ∧ H a = some (.dK kvs) ∧ H b = some (.dK more) ∧ kvs.length + more.length ≤ sizeLine ∧ Q .non (upd H a (.dK (mergeK kvs more)))
theorem mt_dupdate : MtR X "dict.update" rDUpd := by
  intro pins s σ H x xs v us Q I rx rxs h
  obtain ⟨a, b, kvs, more, rfl, rfl, ne, ha, hb, hz, q⟩ := h
  obtain rfl : v = Value.ref a := rx
  cases rxs with
  | cons ry rt =>
    rename_i uy ut
    cases rt
    obtain rfl : uy = Value.ref b := ry
    obtain ⟨z1, hd1, vs1, rel1, dd1⟩ := dk_of I.hok ha
    obtain ⟨z2, hd2, vs2, rel2, dd2⟩ := dk_of I.hok hb
    refine call_meetsIn PySem.F.slot_dict_update dd1.typeIs PySem.F.entry_dict_update (PySem.F.args_dict_update_2 _ _) (meets_dict_update (mixKind X.prog X.w) a b ne hd2) ⟨vs1, vs2, dd1, dd2, by rw [← rel1.length, ← rel2.length]; exact hz, fun h' dd' _ hs => ?_⟩
    have he : ∃ q, h'.get? a = some q := let ⟨q, _, _, hq, _⟩ := dd'; ⟨q, hq⟩
    refine ⟨.non, _, ?_, rfl, q⟩
    exact d_write (t' := s.toks) I (by rw [ha]; exact True.intro) hs he (dk_new (Nat.le_trans (length_mergeK more kvs) hz) hd1 (rel2.merge rel1) dd')
end
end Ln
set_option Elab.async false
set_option linter.all false
set_option maxRecDepth 100000
set_option maxHeartbeats 4000000
/-! xs == [], the items anything -/
namespace Ln
open PySem PySem.Spec PyProof.Rows L2
section
variable {X : Cx}
def rEqE (K : PySem.W.Frag) : R2 := fun x y H Q => ∃ (a b : Addr) (xs : List V), x = .ref a ∧ y = .ref b ∧ SqL K H a xs ∧ SqL K H b [] ∧ Q (.bl xs.isEmpty) H
theorem op_eqE (hu : X.A.units < cLine) : OpR X (compareOp .Eq) (rEqE X.K) := by
  intro pins s σ H x y v u Q I rx ry h
  obtain ⟨a, b, xs, rfl, rfl, ha, hb, q⟩ := h
  obtain rfl : v = Value.ref a := rx
  obtain rfl : u = Value.ref b := ry
  obtain ⟨its, r, pl, hz⟩ := I.list ha
  obtain ⟨its2, r2, pl2, hz2⟩ := I.list hb
  have l1 := r.length
  have l2 := r2.length
  by_cases c : xs = []
  · subst c
    have q : Q (.bl true) H := q
    obtain rfl : its = [] := List.length_eq_zero_iff.mp l1.symm
    obtain rfl : its2 = [] := List.length_eq_zero_iff.mp l2.symm
    exact SeqAt.eq_listAt (e := fun _ => true) pl.isList pl2.isList rfl hu (fun i h1 _ => absurd h1 (Nat.not_lt_zero _)) ⟨.bl true, H, I, rfl, q⟩
  · have e : xs.isEmpty = false := by
      cases xs with
      | nil => exact absurd rfl c
      | cons a b => rfl
    rw [e] at q
    refine SeqAt.eq_list_lengthsAt pl.isList pl2.isList ?_ hu ⟨.bl false, H, I, rfl, q⟩
    rw [List.size_toArray, List.size_toArray, ← l1, ← l2]
    cases xs with
    | nil => exact absurd rfl c
    | cons a b => rfl
end
end Ln
set_option Elab.async false
set_option linter.all false
set_option maxRecDepth 100000
set_option maxHeartbeats 4000000
/-! sorted of tuples of two numbers and a text -/
namespace Ln
open PySem PySem.Spec PyProof.Rows L2
/-- two numbers and a text in a tuple -/
def t3i (k : Int × Int × PySem.Str) : PyData := .tuple [.int k.1, .int k.2.1, .str k.2.2]
theorem t3i_depth (k : Int × Int × PySem.Str) : (t3i k).depth = 1 := by simp [t3i, PyData.depth, PyData.depthAll]
abbrev leT3i (k : V → Int × Int × PySem.Str) : V → V → Bool := PySem.W.dataLe false fun x => t3i (k x)
/-- sorted(xs), xs a list of tuples of two numbers and a text -/
def rSorted3i (K : PySem.W.Frag) : List V → Hp → VK → Prop := fun vs H Q => ∃ (a : Addr) (xs : List V) (k : V → Int × Int × PySem.Str), vs = [V.ref a] ∧ SqL K H a xs ∧
  (∀ x ∈ xs, ∃ t, x = V.ref t ∧ H t = some (.tup [.int (k x).1, .int (k x).2.1, .str (k x).2.2])) ∧ ∀ p, H p = none → Q (.ref p) (upd H p (.lst (xs.mergeSort (leT3i k))))
variable {X : Cx}
theorem cr_sorted3i (hu : X.A.units + 8 < cLine) : CallR X (.builtin "sorted") (rSorted3i X.K) := by
  intro pins s σ H vs us Q I r h
  obtain ⟨a, xs, k, rfl, hs, hx, q⟩ := h
  obtain ⟨its, rv, hl, hz⟩ := I.list hs
  obtain ⟨u, rfl, ru⟩ := vals1 r
  obtain rfl : u = Value.ref a := ru
  obtain ⟨e1, e2⟩ := refs_back rv fun x m => by
    obtain ⟨t, e, _⟩ := hx x m
    exact ⟨t, e⟩
  have er : PySem.W.EachIs (fun v b => ∃ as, Reads s.heap v (t3i (k (backV b))) as) its its := each_self fun v hv => by
    obtain ⟨t, rfl⟩ := e2 v hv
    have hm : V.ref t ∈ xs := by rw [e1]; exact List.mem_map.mpr ⟨_, hv, rfl⟩
    obtain ⟨t', e, ht⟩ := hx _ hm
    cases e
    obtain ⟨_, its2, r2, o, ho, hc, n, hd⟩ := I.hok _ _ ht
    rcases r2 with _ | ⟨ri, r2⟩
    rcases r2 with _ | ⟨rj, r2⟩
    rcases r2 with _ | ⟨rk, r2⟩
    cases r2
    obtain ⟨t1, rfl⟩ := ri
    obtain ⟨t2, rfl⟩ := rj
    obtain ⟨t3, rfl⟩ := rk
    exact ⟨_, .tuple ho hc hd (.cons (.int _ _) (.cons (.int _ _) (.cons (.str _ _) .nil)))⟩
  refine PySem.W.sorted_data (R := fun a b => a = b) (enc := fun u => t3i (k (backV u))) hl.isList (each_eq its) er (PySem.W.AllAlike.of fun _ _ => by simp [PySem.W.alike, PySem.W.alikeAll, t3i]) (PySem.W.Sortable.tuples fun _ => ⟨_, _, rfl⟩) (by rw [← rv.length]; exact hz) (fun b _ => by rw [t3i_depth]; omega) fun out _ eo => ?_
  have eo := eq_each eo
  subst eo
  have em : (its.mergeSort (PySem.W.dataLe false fun u => t3i (k (backV u)))).map backV = xs.mergeSort (leT3i k) := by
    rw [e1]
    exact List.map_mergeSort fun _ _ _ _ => rfl
  obtain ⟨n, hn⟩ := sortedAll_at s.heap its (its.mergeSort (PySem.W.dataLe false fun u => t3i (k (backV u)))).toArray
  have h3 : ∀ u ∈ its.mergeSort (PySem.W.dataLe false fun u => t3i (k (backV u))), ∃ a, u = Value.ref a := fun u hu => e2 u ((List.mergeSort_perm _ _).mem_iff.mp hu)
  refine ⟨.ref _, upd H (s.heap.objs.size + 1) (.lst (xs.mergeSort (leT3i k))), I.laid (t' := s.toks) (fun b o e => sortedAll_old e) (Nat.le_succ _) ⟨?_, _, n, by rw [← em]; exact vals_back h3, hn⟩, rfl, q _ (I.hok.fresh (Nat.le_succ _))⟩
  rw [List.length_mergeSort]
  exact hz
end Ln
set_option Elab.async false
set_option linter.all false
namespace Vol
/-! ## least sums of bids -/
abbrev Fn := Nat → Option Int
def oMin : Option Int → Option Int → Option Int
  | none, b => b
  | a, none => a
  | some a, some b => some (min a b)
def oAdd (a : Int) (x : Option Int) : Option Int := x.map (· + a)
/-- one bid more -/
def bidT (s a : Int) (f : Fn) : Fn := fun n => oMin (f n) (oAdd a (f (n - s.toNat)))
def base : Fn := fun n => if n = 0 then some 0 else none
def rowF (bs : List (Int × Int)) : Fn := bs.foldr (fun b f => bidT b.1 b.2 f) base
def sumF (bs : List (Int × Int)) : Fn := bs.foldl (fun f b => bidT b.1 b.2 f) base
theorem oMin_comm (a b : Option Int) : oMin a b = oMin b a := by
  cases a <;> cases b <;> simp [oMin, Int.min_comm]
theorem oMin_assoc (a b c : Option Int) : oMin (oMin a b) c = oMin a (oMin b c) := by
  cases a <;> cases b <;> cases c <;> simp [oMin, Int.min_assoc]
theorem oAdd_min (a : Int) (x y : Option Int) : oAdd a (oMin x y) = oMin (oAdd a x) (oAdd a y) := by
  cases x <;> cases y <;> simp [oMin, oAdd] <;> omega
theorem oAdd_add (a b : Int) (x : Option Int) : oAdd a (oAdd b x) = oAdd b (oAdd a x) := by
  cases x <;> simp [oAdd]
  omega
theorem bid_comm (s a t c : Int) (f : Fn) : bidT s a (bidT t c f) = bidT t c (bidT s a f) := by
  funext n
  unfold bidT
  rw [oAdd_min, oAdd_min, oAdd_add a c, show n - t.toNat - s.toNat = n - s.toNat - t.toNat by omega]
  generalize f n = w
  generalize oAdd c (f (n - t.toNat)) = x
  generalize oAdd a (f (n - s.toNat)) = y
  generalize oAdd c (oAdd a (f (n - s.toNat - t.toNat))) = z
  rw [oMin_assoc, oMin_assoc, ← oMin_assoc x y, oMin_comm x y, oMin_assoc y x]
theorem fold_bid (b : Int × Int) : ∀ (bs : List (Int × Int)) (f : Fn), bs.foldl (fun f b => bidT b.1 b.2 f) (bidT b.1 b.2 f) = bidT b.1 b.2 (bs.foldl (fun f b => bidT b.1 b.2 f) f)
  | [], _ => rfl
  | c :: bs, f => by
    rw [List.foldl_cons, List.foldl_cons, bid_comm, fold_bid b bs]
theorem sum_row : ∀ bs : List (Int × Int), sumF bs = rowF bs
  | [] => rfl
  | b :: bs => by
    have ih := sum_row bs
    unfold sumF rowF at ih ⊢
    rw [List.foldl_cons, fold_bid, ih]
    rfl
theorem row_cons (b : Int × Int) (bs : List (Int × Int)) : rowF (b :: bs) = bidT b.1 b.2 (rowF bs) := rfl
theorem sum_snoc (bs : List (Int × Int)) (b : Int × Int) : sumF (bs ++ [b]) = bidT b.1 b.2 (sumF bs) := by
  unfold sumF
  rw [List.foldl_append]
  rfl
/-- none stands behind all -/
def oLe : Option Int → Option Int → Prop
  | _, none => True
  | none, some _ => False
  | some a, some b => a ≤ b
theorem oLe_refl (a : Option Int) : oLe a a := by cases a <;> simp [oLe]
theorem oLe_trans {a b c : Option Int} (h : oLe a b) (k : oLe b c) : oLe a c := by
  cases a <;> cases b <;> cases c <;> simp [oLe] at * <;> omega
theorem oMin_le {a b : Option Int} : oLe (oMin a b) a := by
  cases a <;> cases b <;> simp [oLe, oMin] <;> omega
theorem oMin_mono {a b c d : Option Int} (h : oLe a c) (k : oLe b d) : oLe (oMin a b) (oMin c d) := by
  cases a <;> cases b <;> cases c <;> cases d <;> simp [oLe, oMin] at * <;> omega
theorem oAdd_mono {a : Int} {x y : Option Int} (h : oLe x y) : oLe (oAdd a x) (oAdd a y) := by
  cases x <;> cases y <;> simp [oLe, oAdd] at * <;> omega
theorem oMin_of_le {a b : Option Int} (h : oLe a b) : oMin a b = a := by
  cases a <;> cases b <;> simp [oLe, oMin] at * <;> omega
structure Up (f : Fn) : Prop where
  z : f 0 = some 0
  mono : ∀ m n, m ≤ n → oLe (f m) (f n)
theorem up_base : Up base := ⟨rfl, fun m n h => by
  unfold base
  by_cases c : n = 0
  · rw [if_pos c, if_pos (by omega)]
    exact oLe_refl _
  · rw [if_neg c]
    split <;> trivial⟩
theorem Up.bid {f : Fn} (h : Up f) {s a : Int} (ha : 0 ≤ a) : Up (bidT s a f) := ⟨by
  unfold bidT
  rw [h.z, Nat.zero_sub, h.z]
  show some (min 0 (0 + a)) = some 0
  rw [show min 0 (0 + a) = 0 by omega], fun m n k => oMin_mono (h.mono m n k) (oAdd_mono (h.mono _ _ (by omega)))⟩
theorem up_row : ∀ {bs : List (Int × Int)}, (∀ b ∈ bs, 0 ≤ b.2) → Up (rowF bs)
  | [], _ => up_base
  | b :: bs, h => (up_row fun c hc => h c (List.mem_cons_of_mem _ hc)).bid (h b List.mem_cons_self)
theorem up_sum {bs : List (Int × Int)} (h : ∀ b ∈ bs, 0 ≤ b.2) : Up (sumF bs) := by
  rw [sum_row]
  exact up_row h
/-! ## the law's own way: from each number of seats to the further ones -/
/-- the sums behind the first k numbers -/
def part (s a : Int) (f : Fn) : Nat → Fn
  | 0 => f
  | k + 1 => fun m => if k < m ∧ m ≤ k + s.toNat then oMin (part s a f k m) (oAdd a (f k)) else part s a f k m
theorem part_le {s a : Int} {f : Fn} : ∀ (k m : Nat), oLe (part s a f k m) (f m)
  | 0, m => oLe_refl _
  | k + 1, m => by
    unfold part
    split
    · exact oLe_trans oMin_le (part_le k m)
    · exact part_le k m
/-- as long as no number from m - s on was visited nothing has changed, behind that it is done -/
theorem part_is {s a : Int} {f : Fn} (hs : 1 ≤ s) (h : Up f) (ha : 0 ≤ a) : ∀ (k m : Nat), part s a f k m = if m - s.toNat < k ∧ 0 < m then bidT s a f m else f m
  | 0, m => by
    rw [if_neg (by omega)]
    rfl
  | k + 1, m => by
    unfold part
    rw [part_is hs h ha k m]
    by_cases c : k < m ∧ m ≤ k + s.toNat
    · rw [if_pos c, if_pos (by omega : m - s.toNat < k + 1 ∧ 0 < m)]
      by_cases c2 : m - s.toNat < k ∧ 0 < m
      · rw [if_pos c2]
        refine oMin_of_le ?_
        unfold bidT
        rw [oMin_comm]
        exact oLe_trans oMin_le (oAdd_mono (h.mono _ _ (by omega)))
      · rw [if_neg c2, show k = m - s.toNat by omega]
        rfl
    · rw [if_neg c]
      by_cases c2 : m - s.toNat < k ∧ 0 < m
      · rw [if_pos c2, if_pos (by omega)]
      · rw [if_neg c2]
        by_cases c3 : m - s.toNat < k + 1 ∧ 0 < m
        · omega
        · rw [if_neg c3]
theorem part_all {s a : Int} {f : Fn} (hs : 1 ≤ s) (h : Up f) (ha : 0 ≤ a) {n m : Nat} (hm : m ≤ n) : part s a f (n + 1) m = bidT s a f m := by
  rw [part_is hs h ha]
  by_cases c : 0 < m
  · rw [if_pos (by omega)]
  · rw [if_neg (by omega), show m = 0 by omega, h.z, (h.bid ha).z]
/-! ## the names -/
/-- the bids that are taken, by their places, and the seats that are still to be given -/
def takes : List (Int × Int) → Nat → List Bool
  | [], _ => []
  | b :: bs, l => if rowF (b :: bs) l ≠ rowF bs l then true :: takes bs (l - b.1.toNat) else false :: takes bs l
def pay : List (Int × Int) → List Bool → Int
  | b :: bs, t :: ts => (if t then b.2 else 0) + pay bs ts
  | _, _ => 0
def give : List (Int × Int) → List Bool → Int
  | b :: bs, t :: ts => (if t then b.1 else 0) + give bs ts
  | _, _ => 0
theorem takes_len : ∀ (bs : List (Int × Int)) (l : Nat), (takes bs l).length = bs.length
  | [], _ => rfl
  | b :: bs, l => by
    unfold takes
    split <;> simp [takes_len bs]
theorem oMin_or (a b : Option Int) : oMin a b = a ∨ oMin a b = b := by
  cases a <;> cases b <;> simp [oMin] <;> omega
theorem takes_ok : ∀ (bs : List (Int × Int)) (l : Nat) (d : Int), (∀ b ∈ bs, 1 ≤ b.1) → rowF bs l = some d → pay bs (takes bs l) = d ∧ (l : Int) ≤ give bs (takes bs l)
  | [], l, d, _, h => by
    unfold rowF base at h
    rw [List.foldr_nil] at h
    by_cases c : l = 0
    · rw [if_pos c] at h
      cases h
      exact ⟨rfl, by rw [c]; exact Int.le_refl _⟩
    · rw [if_neg c] at h
      cases h
  | b :: bs, l, d, hb, h => by
    have h1 := hb b List.mem_cons_self
    have h2 : ∀ c ∈ bs, 1 ≤ c.1 := fun c hc => hb c (List.mem_cons_of_mem _ hc)
    unfold takes
    by_cases c : rowF (b :: bs) l ≠ rowF bs l
    · rw [if_pos c]
      have e : rowF (b :: bs) l = oAdd b.2 (rowF bs (l - b.1.toNat)) := by
        rcases oMin_or (rowF bs l) (oAdd b.2 (rowF bs (l - b.1.toNat))) with e | e
        · exact absurd e c
        · exact e
      rw [h] at e
      cases q : rowF bs (l - b.1.toNat) with
      | none => rw [q] at e; cases e
      | some d' =>
        rw [q] at e
        have e : some d = some (d' + b.2) := e
        obtain ⟨k1, k2⟩ := takes_ok bs _ d' h2 q
        have e := Option.some.inj e
        refine ⟨?_, ?_⟩
        · show b.2 + pay bs _ = d
          rw [k1]; omega
        · show (l : Int) ≤ b.1 + give bs _
          omega
    · rw [if_neg c]
      have c : rowF (b :: bs) l = rowF bs l := Classical.byContradiction c
      rw [c] at h
      obtain ⟨k1, k2⟩ := takes_ok bs l d h2 h
      refine ⟨?_, ?_⟩
      · show 0 + pay bs _ = d
        rw [k1]; omega
      · show (l : Int) ≤ 0 + give bs _
        omega
/-- none where all together give too few, and only there -/
theorem row_none : ∀ (bs : List (Int × Int)) (l : Nat), (∀ b ∈ bs, 1 ≤ b.1) → (rowF bs l = none ↔ (bs.map (·.1)).sum < (l : Int))
  | [], l, _ => by
    unfold rowF base
    rw [List.foldr_nil]
    by_cases c : l = 0
    · rw [if_pos c]; simp [c]
    · rw [if_neg c]; simp; omega
  | b :: bs, l, hb => by
    have h1 := hb b List.mem_cons_self
    have ih := row_none bs (l - b.1.toNat) fun c hc => hb c (List.mem_cons_of_mem _ hc)
    have ih2 := row_none bs l fun c hc => hb c (List.mem_cons_of_mem _ hc)
    have pos : 0 ≤ (bs.map (·.1)).sum := by
      clear ih ih2
      have q : ∀ c ∈ bs, 1 ≤ c.1 := fun c hc => hb c (List.mem_cons_of_mem _ hc)
      clear hb
      induction bs with
      | nil => exact Int.le_refl _
      | cons c bs ih =>
        rw [List.map_cons, List.sum_cons]
        have i1 := q c List.mem_cons_self
        have i2 := ih fun d hd => q d (List.mem_cons_of_mem _ hd)
        omega
    rw [row_cons, List.map_cons, List.sum_cons]
    unfold bidT
    constructor
    · intro h
      cases q1 : rowF bs l <;> cases q2 : rowF bs (l - b.1.toNat) <;> rw [q1, q2] at h <;> simp [oMin, oAdd] at h
      have := ih.mp q2
      omega
    · intro h
      rw [ih2.mpr (by omega), ih.mpr (by omega)]
      rfl
end Vol
set_option Elab.async false
set_option linter.all false
set_option maxRecDepth 100000
set_option maxHeartbeats 4000000
/-! the text of a table of numbers and None tells the table -/
namespace Vol
open PySem PyProof.Rows Ln
def oD : Option Int → PyData
  | none => .none
  | some i => .int i
def tx (s : PySem.Str) : List Nat := s.cps.toList
theorem tx_inj {a b : PySem.Str} (h : tx a = tx b) : a = b := by
  rcases a with ⟨⟨a⟩⟩
  rcases b with ⟨⟨b⟩⟩
  exact congrArg (fun l => (⟨⟨l⟩⟩ : PySem.Str)) h
theorem tx_app (a b : PySem.Str) : tx (a ++ b) = tx a ++ tx b := by
  unfold tx
  show (a.cps ++ b.cps).toList = _
  exact Array.toList_append
theorem cut_at {α : Type} {c : α} : ∀ {a b x y : List α}, c ∉ a → c ∉ b → a ++ c :: x = b ++ c :: y → a = b ∧ x = y
  | [], [], _, _, _, _, h => ⟨rfl, (List.cons.inj h).2⟩
  | [], b0 :: b, _, _, _, hb, h => absurd (by rw [(List.cons.inj h).1]; exact List.mem_cons_self) hb
  | a0 :: a, [], _, _, ha, _, h => absurd (by rw [← (List.cons.inj h).1]; exact List.mem_cons_self) ha
  | a0 :: a, b0 :: b, x, y, ha, hb, h => by
    obtain ⟨h1, h2⟩ := List.cons.inj h
    obtain ⟨e1, e2⟩ := cut_at (fun m => ha (List.mem_cons_of_mem _ m)) (fun m => hb (List.mem_cons_of_mem _ m)) h2
    exact ⟨by rw [h1, e1], e2⟩
theorem oD_inj {x y : Option Int} (h : (oD x).shown = (oD y).shown) : x = y := by
  have e : ∀ i : Int, (PyData.int i).shown = Str.ofString (toString i) := fun i => by simp only [PyData.shown]
  have n : PyData.none.shown = Str.ofString "None" := by simp only [PyData.shown]
  have bad : ∀ i : Int, Str.ofString (toString i) ≠ Str.ofString "None" := fun i z => by
    have h1 := congrArg (fun s : PySem.Str => decide (78 ∈ s.cps.toList)) z
    have h2 : (78 ∈ (Str.ofString "None").cps.toList) := by decide +kernel
    have h3 : ¬ 78 ∈ (Str.ofString (toString i)).cps.toList := int_text_free' 78 ⟨by decide, by decide⟩ i
    simp only [decide_eq_true h2, decide_eq_false h3] at h1
    cases h1
  have inj : ∀ i j : Int, Str.ofString (toString i) = Str.ofString (toString j) → i = j := fun i j z => by
    have z1 := congrArg Str.cps z
    rw [Str.ofString_eq_toList, Str.ofString_eq_toList] at z1
    have z2 : (toString i).toList.map Char.toNat = (toString j).toList.map Char.toNat := by simpa using z1
    have z3 : (toString i).toList = (toString j).toList := (List.map_inj_right fun a b q => Char.ext (by
      have : a.val.toNat = b.val.toNat := q
      exact UInt32.toNat_inj.mp this)).mp z2
    have z4 : toString i = toString j := String.toList_inj.mp z3
    exact Int.repr_inj.mp z4
  cases x <;> cases y
  · rfl
  · exact absurd (by simpa only [oD, e, n] using h.symm) (bad _)
  · exact absurd (by simpa only [oD, e, n] using h) (bad _)
  · exact congrArg some (inj _ _ (by simpa only [oD, e] using h))
theorem oD_free (x : Option Int) : 44 ∉ tx (oD x).shown ∧ 41 ∉ tx (oD x).shown := by
  cases x with
  | none => unfold oD; simp only [PyData.shown]; decide +kernel
  | some i =>
    unfold oD
    simp only [PyData.shown]
    exact ⟨int_text_free' 44 ⟨by decide, by decide⟩ i, int_text_free' 41 ⟨by decide, by decide⟩ i⟩
theorem shownAll_map {α : Type} (f : α → PyData) : ∀ l : List α, PyData.shownAll (l.map f) = l.map fun x => (f x).shown
  | [] => by simp only [List.map_nil, PyData.shownAll]
  | x :: l => by simp only [List.map_cons, PyData.shownAll, shownAll_map f l]
def jn (l : List PySem.Str) : List Nat := tx (Str.join ", " l)
theorem jn_two (a b : PySem.Str) (l : List PySem.Str) : jn (a :: b :: l) = tx a ++ 44 :: 32 :: jn (b :: l) := by
  show tx (a ++ ", " ++ Str.join ", " (b :: l)) = _
  rw [tx_app, tx_app, List.append_assoc]
  rfl
theorem jn_inj : ∀ {l m : List PySem.Str}, l.length = m.length → (∀ x ∈ l, 44 ∉ tx x) → (∀ x ∈ m, 44 ∉ tx x) → jn l = jn m → l = m
  | [], [], _, _, _, _ => rfl
  | [a], [b], _, _, _, h => by
    have h : a = b := tx_inj h
    rw [h]
  | a :: b :: l, c :: d :: m, e, hl, hm, h => by
    rw [jn_two, jn_two] at h
    obtain ⟨e1, e2⟩ := cut_at (hl a List.mem_cons_self) (hm c List.mem_cons_self) h
    have e2 := (List.cons.inj e2).2
    have := jn_inj (l := b :: l) (m := d :: m) (by simpa using e) (fun x hx => hl x (List.mem_cons_of_mem _ hx)) (fun x hx => hm x (List.mem_cons_of_mem _ hx)) e2
    rw [tx_inj e1, this]
  | [], _ :: _, e, _, _, _ => by cases e
  | _ :: _, [], e, _, _, _ => by cases e
  | [_], _ :: _ :: _, e, _, _, _ => by simp at e
  | _ :: _ :: _, [_], e, _, _, _ => by simp at e
theorem jn_free {c : Nat} (h1 : c ≠ 44) (h2 : c ≠ 32) : ∀ {l : List PySem.Str}, (∀ x ∈ l, c ∉ tx x) → c ∉ jn l
  | [], _ => nofun
  | [a], h => h a List.mem_cons_self
  | a :: b :: l, h => by
    rw [jn_two]
    intro m
    rcases List.mem_append.mp m with m | m
    · exact h a List.mem_cons_self m
    · rcases List.mem_cons.mp m with m | m
      · exact h1 m
      · rcases List.mem_cons.mp m with m | m
        · exact h2 m
        · exact jn_free h1 h2 (fun x hx => h x (List.mem_cons_of_mem _ hx)) m
theorem tuple_tx (l : List PySem.Str) : tx (tupleText l) = 40 :: ((jn l ++ if l.length = 1 then [44] else []) ++ [41]) := by
  unfold tupleText
  rw [tx_app, tx_app]
  by_cases c : l.length = 1
  · rw [if_pos (by rw [c]; rfl), if_pos c]
    show [40] ++ jn l ++ [44, 41] = _
    simp
  · rw [if_neg (by simpa using c), if_neg c]
    show [40] ++ jn l ++ [41] = _
    simp
/-- a row's text -/
theorem row_inj {l m : List (Option Int)} (e : l.length = m.length) (h : (PyData.tuple (l.map oD)).shown = (PyData.tuple (m.map oD)).shown) : l = m := by
  simp only [PyData.shown, shownAll_map] at h
  have h := congrArg tx h
  rw [tuple_tx, tuple_tx, List.length_map, List.length_map, e] at h
  have h := List.append_cancel_right (List.append_cancel_right (List.cons.inj h).2)
  have q := jn_inj (by rw [List.length_map, List.length_map, e]) (fun x hx => by
    obtain ⟨y, _, rfl⟩ := List.mem_map.mp hx
    exact (oD_free y).1) (fun x hx => by
    obtain ⟨y, _, rfl⟩ := List.mem_map.mp hx
    exact (oD_free y).1) h
  exact (List.map_inj_right fun a b z => oD_inj z).mp q
def rowD (l : List (Option Int)) : PyData := .tuple (l.map oD)
theorem row_tx (l : List (Option Int)) : ∃ b, tx (rowD l).shown = 40 :: (b ++ [41]) ∧ 41 ∉ b := by
  unfold rowD
  simp only [PyData.shown, shownAll_map]
  rw [tuple_tx]
  refine ⟨_, rfl, fun m => ?_⟩
  rcases List.mem_append.mp m with m | m
  · exact jn_free (by decide) (by decide) (fun x hx => by
      obtain ⟨y, _, rfl⟩ := List.mem_map.mp hx
      exact (oD_free y).2) m
  · split at m
    · simp at m
    · cases m
theorem rows_jn : ∀ {l m : List (List (Option Int))}, l.length = m.length → jn (l.map fun r => (rowD r).shown) = jn (m.map fun r => (rowD r).shown) → (l.map fun r => (rowD r).shown) = m.map fun r => (rowD r).shown
  | [], [], _, _ => rfl
  | [a], [b], _, h => by
    have h : (rowD a).shown = (rowD b).shown := tx_inj h
    rw [List.map_cons, List.map_cons, h]
  | a :: b :: l, c :: d :: m, e, h => by
    rw [List.map_cons, List.map_cons, List.map_cons, List.map_cons, jn_two, jn_two] at h
    obtain ⟨x, hx, fx⟩ := row_tx a
    obtain ⟨y, hy, fy⟩ := row_tx c
    rw [hx, hy] at h
    have h : (x ++ [41]) ++ 44 :: 32 :: jn ((rowD b).shown :: List.map (fun r => (rowD r).shown) l) = (y ++ [41]) ++ 44 :: 32 :: jn ((rowD d).shown :: List.map (fun r => (rowD r).shown) m) := (List.cons.inj h).2
    rw [List.append_assoc, List.append_assoc] at h
    obtain ⟨e1, e2⟩ := cut_at fx fy h
    have e2 := (List.cons.inj (List.cons.inj e2).2).2
    have ih := rows_jn (l := b :: l) (m := d :: m) (by simpa using e) e2
    have ac : (rowD a).shown = (rowD c).shown := tx_inj (by rw [hx, hy, e1])
    rw [List.map_cons, List.map_cons (l := d :: m), ih, ac]
  | [], _ :: _, e, _ => by cases e
  | _ :: _, [], e, _ => by cases e
  | [_], _ :: _ :: _, e, _ => by simp at e
  | _ :: _ :: _, [_], e, _ => by simp at e
/-- the text of a table tells the table -/
theorem table_inj {n : Nat} {l m : List (List (Option Int))} (e : l.length = m.length) (hl : ∀ r ∈ l, r.length = n) (hm : ∀ r ∈ m, r.length = n) (h : (PyData.tuple (l.map rowD)).shown = (PyData.tuple (m.map rowD)).shown) : l = m := by
  simp only [PyData.shown, shownAll_map] at h
  have h := congrArg tx h
  rw [tuple_tx, tuple_tx, List.length_map, List.length_map, e] at h
  have h := List.append_cancel_right (List.append_cancel_right (List.cons.inj h).2)
  have q := rows_jn e h
  refine List.ext_getElem e fun i h1 h2 => ?_
  have z := congrArg (fun w => w[i]?) q
  simp only [List.getElem?_map, List.getElem?_eq_getElem h1, List.getElem?_eq_getElem h2, Option.map_some, Option.some.injEq] at z
  exact row_inj (by rw [hl _ (List.getElem_mem h1), hm _ (List.getElem_mem h2)]) z
end Vol
set_option Elab.async false
set_option autoImplicit false
set_option linter.all false
set_option maxRecDepth 100000
set_option maxHeartbeats 4000000
/-! Dl: data in the place of heaps. Slots tell data, a list of one's own is told by its address and its items; what is frozen (F) only grows. -/
namespace Dl
open PySem PySem.Spec PyProof.Rows L2 Ln
/-! ## words -/
mutual
theorem Dp.mono {K : PySem.W.Frag} {H H' : Hp} (sm : Same H H') : ∀ (d : PyData) (v : V), Dp K H v d → Dp K H' v d
  | .none, _, h => by cases h; exact .non
  | .bool b, _, h => by cases h; exact .bl b
  | .int b, _, h => by cases h; exact .int b
  | .str b, _, h => by cases h; exact .str b
  | .dict _, _, h => by cases h
  | .list ds, _, h => by
    cases h with
    | lst a b => exact .lst (sm.seq a) (DpAll.mono sm ds _ b)
  | .tuple ds, _, h => by
    cases h with
    | tup a b => exact .tup (Same.tup sm a) (DpAll.mono sm ds _ b)
theorem DpAll.mono {K : PySem.W.Frag} {H H' : Hp} (sm : Same H H') : ∀ (ds : List PyData) (vs : List V), DpAll K H vs ds → DpAll K H' vs ds
  | [], _, h => by cases h; exact .nil
  | d :: ds, _, h => by
    cases h with
    | cons a b => exact .cons (Dp.mono sm d _ a) (DpAll.mono sm ds _ b)
end
/-- what is read there is read there still -/
def IsDk (u : HO) : Prop := (∃ kvs, u = .dK kvs) ∨ ∃ kvs, u = .dT kvs
structure Ry (F F' : Hp) : Prop where
  rd : ∀ b u, (∀ o w, u ≠ .frz o w) → Rd F b u → Rd F' b u
  ex : ∀ b u, ¬ IsDk u → (∀ o w, u ≠ .frz o w) → F b = some u → F' b = some u
theorem Ry.of {F F' : Hp} (s : Same F F') : Ry F F' := ⟨fun b u _ h => by
  rcases h with h | ⟨o, h⟩
  · exact .inl (s _ _ h)
  · exact .inr ⟨o, s _ _ h⟩, fun b u _ _ h => s b u h⟩
theorem IsDk.mut {u : HO} (h : IsDk u) : Mut (some u) := by
  rcases h with ⟨_, rfl⟩ | ⟨_, rfl⟩ <;> trivial
theorem IsDk.nt {u : HO} (h : IsDk u) : ∀ xs, u ≠ .tup xs := by
  rcases h with ⟨_, rfl⟩ | ⟨_, rfl⟩ <;> exact fun _ z => by cases z
theorem Ry.tup {K : PySem.W.Frag} {F F' : Hp} (r : Ry F F') {a : Addr} {xs : List V} (h : SqT K F a xs) : SqT K F' a xs := by
  rcases h with h | h
  · exact .inl (r.rd _ _ (fun _ _ z => by cases z) h)
  · exact .inr h
theorem Ry.seq {K : PySem.W.Frag} {F F' : Hp} (r : Ry F F') {a : Addr} {xs : List V} (h : SqL K F a xs) : SqL K F' a xs := by
  rcases h with h | h
  · exact .inl (r.rd _ _ (fun _ _ z => by cases z) h)
  · exact .inr h
mutual
theorem Dp.ry {K : PySem.W.Frag} {H H' : Hp} (sm : Ry H H') : ∀ (d : PyData) (v : V), Dp K H v d → Dp K H' v d
  | .none, _, h => by cases h; exact .non
  | .bool b, _, h => by cases h; exact .bl b
  | .int b, _, h => by cases h; exact .int b
  | .str b, _, h => by cases h; exact .str b
  | .dict _, _, h => by cases h
  | .list ds, _, h => by
    cases h with
    | lst a b => exact .lst (sm.seq a) (DpAll.ry sm ds _ b)
  | .tuple ds, _, h => by
    cases h with
    | tup a b => exact .tup (sm.tup a) (DpAll.ry sm ds _ b)
theorem DpAll.ry {K : PySem.W.Frag} {H H' : Hp} (sm : Ry H H') : ∀ (ds : List PyData) (vs : List V), DpAll K H vs ds → DpAll K H' vs ds
  | [], _, h => by cases h; exact .nil
  | d :: ds, _, h => by
    cases h with
    | cons a b => exact .cons (Dp.ry sm d _ a) (DpAll.ry sm ds _ b)
end
structure Mo where
  P : Hp → V → Prop
  mono : ∀ {F F' : Hp} {v : V}, Ry F F' → P F v → P F' v
/-- what is known of a value -/
inductive Sv where
  | any
  | dat (d : PyData)
  | ptr (D : Addr)
  | hdl (m : Mo)
def SvOk (K : PySem.W.Frag) (F : Hp) (v : V) : Sv → Prop
  | .any => True
  | .dat d => Dp K F v d
  | .ptr D => v = .ref D
  | .hdl m => m.P F v
def OvOk (K : PySem.W.Frag) (F : Hp) : Option V → Sv → Prop
  | _, .any => True
  | some v, s => SvOk K F v s
  | none, _ => False
theorem SvOk.mono {K : PySem.W.Frag} {F F' : Hp} (sm : Same F F') {v : V} : ∀ {s : Sv}, SvOk K F v s → SvOk K F' v s
  | .any, _ => trivial
  | .dat d, h => Dp.mono sm d v h
  | .ptr _, h => h
  | .hdl m, h => m.mono (Ry.of sm) h
theorem SvOk.ry {K : PySem.W.Frag} {F F' : Hp} (sm : Ry F F') {v : V} : ∀ {s : Sv}, SvOk K F v s → SvOk K F' v s
  | .any, _ => trivial
  | .dat d, h => Dp.ry sm d v h
  | .ptr _, h => h
  | .hdl m, h => m.mono sm h
theorem OvOk.of {K : PySem.W.Frag} {F : Hp} {v : V} : ∀ {s : Sv}, SvOk K F v s → OvOk K F (some v) s
  | .any, _ => trivial
  | .dat _, h => h
  | .ptr _, h => h
  | .hdl _, h => h
theorem OvOk.mono {K : PySem.W.Frag} {F F' : Hp} (sm : Same F F') : ∀ {ov : Option V} {s : Sv}, OvOk K F ov s → OvOk K F' ov s
  | _, .any, _ => trivial
  | some v, .dat d, h => SvOk.mono (K := K) (s := .dat d) sm h
  | some v, .ptr d, h => SvOk.mono (K := K) (s := .ptr d) sm h
  | some v, .hdl d, h => SvOk.mono (K := K) (s := .hdl d) sm h
  | none, .dat _, h => h
  | none, .ptr _, h => h
  | none, .hdl _, h => h
theorem OvOk.ry {K : PySem.W.Frag} {F F' : Hp} (sm : Ry F F') : ∀ {ov : Option V} {s : Sv}, OvOk K F ov s → OvOk K F' ov s
  | _, .any, _ => trivial
  | some v, .dat d, h => SvOk.ry (K := K) (s := .dat d) sm h
  | some v, .ptr d, h => SvOk.ry (K := K) (s := .ptr d) sm h
  | some v, .hdl d, h => SvOk.ry (K := K) (s := .hdl d) sm h
  | none, .dat _, h => h
  | none, .ptr _, h => h
  | none, .hdl _, h => h
/-- an object of one's own -/
inductive Ob where
  | lst (ss : List Sv)
  | dK (kvs : List (Key × Sv))
def ObOk (K : PySem.W.Frag) (F : Hp) (u : HO) : Ob → Prop
  | .lst ss => ∃ xs, u = .lst xs ∧ Paired (SvOk K F) xs ss
  | .dK kvs => ∃ ys, u = .dK ys ∧ Paired (fun p q => p.1 = q.1 ∧ SvOk K F p.2 q.2) ys kvs
theorem ObOk.mono {K : PySem.W.Frag} {F F' : Hp} (sm : Same F F') {u : HO} : ∀ {o : Ob}, ObOk K F u o → ObOk K F' u o
  | .lst ss, ⟨xs, e, h⟩ => ⟨xs, e, Paired.mono (fun _ _ q => SvOk.mono sm q) h⟩
  | .dK ss, ⟨xs, e, h⟩ => ⟨xs, e, Paired.mono (fun _ _ q => ⟨q.1, SvOk.mono sm q.2⟩) h⟩
theorem ObOk.ry {K : PySem.W.Frag} {F F' : Hp} (sm : Ry F F') {u : HO} : ∀ {o : Ob}, ObOk K F u o → ObOk K F' u o
  | .lst ss, ⟨xs, e, h⟩ => ⟨xs, e, Paired.mono (fun _ _ q => SvOk.ry sm q) h⟩
  | .dK ss, ⟨xs, e, h⟩ => ⟨xs, e, Paired.mono (fun _ _ q => ⟨q.1, SvOk.ry sm q.2⟩) h⟩
theorem ObOk.notup {K : PySem.W.Frag} {F : Hp} {u : HO} : ∀ {o : Ob}, ObOk K F u o → (∀ xs, u ≠ .tup xs) ∧ ∀ ob xs, u ≠ .frz ob xs
  | .lst ss, ⟨xs, e, h⟩ => by subst e; exact ⟨fun _ z => (by cases z), fun _ _ z => (by cases z)⟩
  | .dK ss, ⟨xs, e, h⟩ => by subst e; exact ⟨fun _ z => (by cases z), fun _ _ z => (by cases z)⟩
abbrev Ow := List (Addr × Ob)
/-! ## the surroundings of a def's run -/
structure Cy where
  K : PySem.W.Frag
  B : List Addr
  A : List Addr
  dw : Hp → Prop
  H0 : Hp
  F0 : Hp
  dwS : ∀ H H', (∀ a ∈ A, H' a = H a) → dw H → dw H'
  dwT : ∀ H, dw H → ∀ a ∈ A, H a ≠ none
structure Rq (C : Cy) (F H : Hp) : Prop where
  sub : Same F H
  old : Same C.F0 F
  but : ∀ b o, b ∉ C.B → C.H0 b = some o → H b = some o
  thr : ∀ b, C.H0 b ≠ none → H b ≠ none
  non : ∀ b, C.F0 b = none → C.H0 b ≠ none → F b = none
  tup : ∀ b xs, Rd H b (.tup xs) → Rd F b (.tup xs)
  dw : C.dw H
  na : ∀ a ∈ C.A, F a = none
  lk : ∀ b o u, IsDk u → F b = some (.frz o u) → C.F0 b = some (.frz o u)
structure Rp (C : Cy) (F H : Hp) (σ : L2.St) (G : List Sv) (O : Ow) : Prop where
  q : Rq C F H
  len : σ.length = G.length
  sl : ∀ (i : Nat) (s : Sv), G[i]? = some s → ∃ ov, σ[i]? = some ov ∧ OvOk C.K F ov s
  ow : ∀ D ob, (D, ob) ∈ O → (D ∈ C.B ∨ C.H0 D = none) ∧ F D = none ∧ D ∉ C.A ∧ ∃ u, H D = some u ∧ ObOk C.K F u ob
  nd : (O.map Prod.fst).Nodup
section
variable {C : Cy} {F H F' H' : Hp} {σ : L2.St} {G : List Sv} {O : Ow}
theorem Rq.h0 (h : Rq C F H) {p : Addr} (n : H p = none) : C.H0 p = none := by
  cases e : C.H0 p with
  | none => rfl
  | some o => exact absurd n (h.thr p (by rw [e]; exact fun z => by cases z))
theorem Rq.f0 (h : Rq C F H) {p : Addr} (n : H p = none) : F p = none := by
  cases e : F p with
  | none => rfl
  | some o => rw [h.sub p o e] at n; cases n
theorem Rq.nA (h : Rq C F H) {p : Addr} (n : H p = none) : p ∉ C.A := fun m => C.dwT H h.dw p m n
/-- a new thing, frozen at once -/
theorem Rq.newF (h : Rq C F H) {p : Addr} {o : HO} (n : H p = none) (nz : ∀ ob u, o ≠ .frz ob u) : Rq C (upd F p o) (upd H p o) ∧ Same F (upd F p o) := by
  have nF := h.f0 n
  have n0 := h.h0 n
  have nA := h.nA n
  refine ⟨⟨?_, ?_, ?_, ?_, ?_, ?_, ?_, ?_, ?_⟩, Ln.same_upd nF⟩
  · intro b x e
    by_cases z : b = p
    · subst z; rw [upd_same] at e ⊢; exact e
    · rw [upd_ne z] at e ⊢; exact h.sub b x e
  · exact h.old.trans (Ln.same_upd nF)
  · intro b x nb e
    rw [upd_ne (fun z => by rw [z, n0] at e; cases e)]
    exact h.but b x nb e
  · intro b e
    rw [upd_ne (fun z => e (by rw [z]; exact n0))]
    exact h.thr b e
  · intro b e1 e2
    rw [upd_ne (fun z => e2 (by rw [z]; exact n0))]
    exact h.non b e1 e2
  · intro b xs r
    by_cases z : b = p
    · subst z
      rcases r with r | ⟨ob, r⟩
      · rw [upd_same] at r; exact .inl (by rw [upd_same]; exact r)
      · rw [upd_same] at r; exact .inr ⟨ob, by rw [upd_same]; exact r⟩
    · rcases r with r | ⟨ob, r⟩
      · rw [upd_ne z] at r
        rcases h.tup b xs (.inl r) with k | ⟨ob, k⟩
        · exact .inl (by rw [upd_ne z]; exact k)
        · exact .inr ⟨ob, by rw [upd_ne z]; exact k⟩
      · rw [upd_ne z] at r
        rcases h.tup b xs (.inr ⟨ob, r⟩) with k | ⟨ob, k⟩
        · exact .inl (by rw [upd_ne z]; exact k)
        · exact .inr ⟨ob, by rw [upd_ne z]; exact k⟩
  · exact C.dwS H _ (fun a ha => upd_ne (fun z => nA (by rw [← z]; exact ha))) h.dw
  · intro a ha
    rw [upd_ne (fun z => nA (by rw [← z]; exact ha))]
    exact h.na a ha
  · intro b ob u k e
    by_cases z : b = p
    · rw [z, upd_same] at e; cases e; exact absurd rfl (nz _ _)
    · rw [upd_ne z] at e; exact h.lk b ob u k e
/-- a change at a place that is not frozen -/
theorem Rq.wr (h : Rq C F H) {D : Addr} {u : HO} (hB : D ∈ C.B ∨ C.H0 D = none) (nF : F D = none) (nA : D ∉ C.A) (nt : (∀ xs, u ≠ .tup xs) ∧ ∀ ob xs, u ≠ .frz ob xs) : Rq C F (upd H D u) := by
  refine ⟨?_, h.old, ?_, ?_, h.non, ?_, ?_, h.na, h.lk⟩
  · intro b x e
    rw [upd_ne (fun z => by rw [z, nF] at e; cases e)]
    exact h.sub b x e
  · intro b x nb e
    have z : b ≠ D := by
      rintro rfl
      rcases hB with hB | hB
      · exact nb hB
      · rw [hB] at e; cases e
    rw [upd_ne z]
    exact h.but b x nb e
  · intro b e
    by_cases z : b = D
    · rw [z, upd_same]; exact fun z => by cases z
    · rw [upd_ne z]; exact h.thr b e
  · intro b xs r
    have z : b ≠ D := by
      rintro rfl
      rcases r with r | ⟨ob, r⟩
      · rw [upd_same] at r; cases r; exact nt.1 _ rfl
      · rw [upd_same] at r; cases r; exact nt.2 _ _ rfl
    rcases r with r | ⟨ob, r⟩
    · rw [upd_ne z] at r; exact h.tup b xs (.inl r)
    · rw [upd_ne z] at r; exact h.tup b xs (.inr ⟨ob, r⟩)
  · exact C.dwS H _ (fun a ha => upd_ne (fun z => nA (by rw [← z]; exact ha))) h.dw
theorem Rp.step (h : Rp C F H σ G O) (sm : Same F F') (q : Rq C F' H') (k : ∀ D ob, (D, ob) ∈ O → H' D = H D ∧ F' D = none) : Rp C F' H' σ G O where
  q := q
  len := h.len
  sl := fun i s e => by
    obtain ⟨ov, a, b⟩ := h.sl i s e
    exact ⟨ov, a, b.mono sm⟩
  ow := fun D ob m => by
    obtain ⟨a, b, c, u, e, r⟩ := h.ow D ob m
    obtain ⟨k1, k2⟩ := k D ob m
    exact ⟨a, k2, c, u, by rw [k1]; exact e, r.mono sm⟩
  nd := h.nd
theorem Rp.newF (h : Rp C F H σ G O) {p : Addr} {o : HO} (n : H p = none) (nz : ∀ ob u, o ≠ .frz ob u := by exact fun _ _ z => by cases z) : Rp C (upd F p o) (upd H p o) σ G O := by
  obtain ⟨a, b⟩ := h.q.newF (o := o) n nz
  refine h.step b a fun D ob m => ?_
  obtain ⟨_, c, _, u, e, _⟩ := h.ow D ob m
  have z : D ≠ p := fun z => by rw [z, n] at e; cases e
  exact ⟨upd_ne z, by rw [upd_ne z]; exact c⟩
theorem Rp.sm (h : Rp C F H σ G O) {p : Addr} {o : HO} (n : H p = none) : Same F (upd F p o) := Ln.same_upd (h.q.f0 n)
theorem Rp.newO (h : Rp C F H σ G O) {p : Addr} {u : HO} {ob : Ob} (n : H p = none) (r : ObOk C.K F u ob) : Rp C F (upd H p u) σ G ((p, ob) :: O) := by
  have q := h.q.wr (D := p) (u := u) (.inr (h.q.h0 n)) (h.q.f0 n) (h.q.nA n) r.notup
  have ne : ∀ D ob', (D, ob') ∈ O → D ≠ p := fun D ob' m z => by
    obtain ⟨_, _, _, u, e, _⟩ := h.ow D ob' m
    rw [z, n] at e; cases e
  refine ⟨q, h.len, h.sl, ?_, ?_⟩
  · intro D ob' m
    rcases List.mem_cons.mp m with e | m
    · cases e
      exact ⟨.inr (h.q.h0 n), h.q.f0 n, h.q.nA n, u, upd_same, r⟩
    · obtain ⟨a, b, c, u', e, k⟩ := h.ow D ob' m
      exact ⟨a, b, c, u', by rw [upd_ne (ne D ob' m)]; exact e, k⟩
  · rw [List.map_cons, List.nodup_cons]
    refine ⟨fun m => ?_, h.nd⟩
    obtain ⟨⟨D, ob'⟩, m', e⟩ := List.mem_map.mp m
    exact ne D ob' m' e
/-- fewer things of one's own -/
theorem Rp.less (h : Rp C F H σ G O) {O' : Ow} (s : O'.Sublist O) : Rp C F H σ G O' := ⟨h.q, h.len, h.sl, fun D ob m => h.ow D ob (s.subset m), h.nd.sublist (s.map _)⟩
theorem Rp.set (h : Rp C F H σ G O) {i : Nat} {v : V} {s : Sv} (r : SvOk C.K F v s) : Rp C F H (σ.set i (some v)) (G.set i s) O := by
  refine ⟨h.q, by rw [List.length_set, List.length_set]; exact h.len, ?_, h.ow, h.nd⟩
  intro j s' e
  by_cases z : i = j
  · subst z
    have hl : i < G.length := by
      have := (List.getElem?_eq_some_iff.mp e).1
      rwa [List.length_set] at this
    rw [List.getElem?_set_self hl] at e
    cases e
    exact ⟨some v, List.getElem?_set_self (by rw [h.len]; exact hl), OvOk.of r⟩
  · rw [List.getElem?_set_ne z] at e
    obtain ⟨ov, a, b⟩ := h.sl j s' e
    exact ⟨ov, by rw [List.getElem?_set_ne z]; exact a, b⟩
theorem Rp.get (h : Rp C F H σ G O) {i : Nat} {s : Sv} (e : G[i]? = some s) (n : s ≠ .any) : ∃ v, σ[i]? = some (some v) ∧ SvOk C.K F v s := by
  obtain ⟨ov, a, b⟩ := h.sl i s e
  cases s with
  | any => exact absurd rfl n
  | dat d => cases ov with
    | none => exact b.elim
    | some v => exact ⟨v, a, b⟩
  | ptr d => cases ov with
    | none => exact b.elim
    | some v => exact ⟨v, a, b⟩
  | hdl d => cases ov with
    | none => exact b.elim
    | some v => exact ⟨v, a, b⟩
theorem nd_key {α β : Type} : ∀ {l : List (α × β)}, (l.map Prod.fst).Nodup → ∀ {a : α} {b b' : β}, (a, b) ∈ l → (a, b') ∈ l → b = b'
  | [], _, _, _, _, m, _ => by cases m
  | (x, y) :: l, nd, a, b, b', m, m' => by
    rw [List.map_cons, List.nodup_cons] at nd
    rcases List.mem_cons.mp m with e | m
    · rcases List.mem_cons.mp m' with e' | m'
      · cases e; cases e'; rfl
      · cases e
        exact absurd (List.mem_map.mpr ⟨_, m', rfl⟩) nd.1
    · rcases List.mem_cons.mp m' with e' | m'
      · cases e'
        exact absurd (List.mem_map.mpr ⟨_, m, rfl⟩) nd.1
      · exact nd_key nd.2 m m'
theorem map_set_fst {α β : Type} : ∀ {l : List (α × β)} {n : Nat} {a : α} {b b' : β}, l[n]? = some (a, b) → (l.set n (a, b')).map Prod.fst = l.map Prod.fst
  | [], _, _, _, _, e => by simp at e
  | (x, y) :: l, 0, a, b, b', e => by cases e; rfl
  | (x, y) :: l, n + 1, a, b, b', e => by
    have e' : l[n]? = some (a, b) := by simpa using e
    show x :: (l.set n (a, b')).map Prod.fst = x :: l.map Prod.fst
    rw [map_set_fst e']
theorem mem_set_key {α β : Type} : ∀ {l : List (α × β)} {n : Nat} {a : α} {b b' : β}, (l.map Prod.fst).Nodup → l[n]? = some (a, b) → ∀ {x : α} {y : β}, (x, y) ∈ l.set n (a, b') → (x = a ∧ y = b') ∨ (x ≠ a ∧ (x, y) ∈ l)
  | [], _, _, _, _, _, e, _, _, _ => by simp at e
  | (u, w) :: l, 0, a, b, b', nd, e, x, y, m => by
    cases e
    rcases List.mem_cons.mp m with e | m
    · cases e; exact .inl ⟨rfl, rfl⟩
    · refine .inr ⟨fun z => ?_, List.mem_cons_of_mem _ m⟩
      rw [List.map_cons, List.nodup_cons] at nd
      exact nd.1 (List.mem_map.mpr ⟨_, m, z⟩)
  | (u, w) :: l, n + 1, a, b, b', nd, e, x, y, m => by
    have e' : l[n]? = some (a, b) := by simpa using e
    have m' : (x, y) ∈ (u, w) :: l.set n (a, b') := m
    rw [List.map_cons, List.nodup_cons] at nd
    rcases List.mem_cons.mp m' with q | q
    · cases q
      refine .inr ⟨fun z => ?_, List.mem_cons_self⟩
      rw [z] at nd
      exact nd.1 (List.mem_map.mpr ⟨_, List.mem_of_getElem? e', rfl⟩)
    · rcases mem_set_key nd.2 e' q with q | q
      · exact .inl q
      · exact .inr ⟨q.1, List.mem_cons_of_mem _ q.2⟩
theorem erase_key {α β : Type} : ∀ {l : List (α × β)} {n : Nat} {a : α} {b b' : β}, (l.map Prod.fst).Nodup → l[n]? = some (a, b) → (a, b') ∈ l.eraseIdx n → False
  | [], _, _, _, _, _, e, _ => by simp at e
  | (u, w) :: l, 0, a, b, b', nd, e, m => by
    cases e
    rw [List.map_cons, List.nodup_cons] at nd
    exact nd.1 (List.mem_map.mpr ⟨_, m, rfl⟩)
  | (u, w) :: l, n + 1, a, b, b', nd, e, m => by
    have e' : l[n]? = some (a, b) := by simpa using e
    have m' : (a, b') ∈ (u, w) :: l.eraseIdx n := m
    rw [List.map_cons, List.nodup_cons] at nd
    rcases List.mem_cons.mp m' with q | q
    · cases q
      exact nd.1 (List.mem_map.mpr ⟨_, List.mem_of_getElem? e', rfl⟩)
    · exact erase_key nd.2 e' q
/-- an object of one's own changes -/
theorem Rp.wr (h : Rp C F H σ G O) {n : Nat} {D : Addr} {ob ob' : Ob} {u : HO} (m : O[n]? = some (D, ob)) (r : ObOk C.K F u ob') : Rp C F (upd H D u) σ G (O.set n (D, ob')) := by
  obtain ⟨a, b, c, u0, e, k⟩ := h.ow D ob (List.mem_of_getElem? m)
  refine ⟨h.q.wr a b c r.notup, h.len, h.sl, ?_, by rw [map_set_fst m]; exact h.nd⟩
  intro D' ob'' m'
  rcases mem_set_key h.nd m m' with ⟨rfl, rfl⟩ | ⟨ne, m''⟩
  · exact ⟨a, b, c, u, upd_same, r⟩
  · obtain ⟨a', b', c', u', e', k'⟩ := h.ow D' ob'' m''
    exact ⟨a', b', c', u', by rw [upd_ne ne]; exact e', k'⟩
theorem Rp.obj (h : Rp C F H σ G O) {n : Nat} {D : Addr} {ob : Ob} (m : O[n]? = some (D, ob)) : ∃ u, H D = some u ∧ ObOk C.K F u ob := by
  obtain ⟨_, _, _, u, e, k⟩ := h.ow D ob (List.mem_of_getElem? m)
  exact ⟨u, e, k⟩
/-- one's own thing is frozen -/
theorem Rp.frz (h : Rp C F H σ G O) {n : Nat} {D : Addr} {ob : Ob} (h0 : C.H0 D = none) (m : O[n]? = some (D, ob)) : ∃ F' u, Same F F' ∧ F' D = some u ∧ ObOk C.K F' u ob ∧ Rp C F' H σ G (O.eraseIdx n) := by
  obtain ⟨a, b, c, u, e, k⟩ := h.ow D ob (List.mem_of_getElem? m)
  have sm : Same F (upd F D u) := Ln.same_upd b
  refine ⟨upd F D u, u, sm, upd_same, k.mono sm, ⟨⟨?_, h.q.old.trans sm, h.q.but, h.q.thr, ?_, ?_, h.q.dw, ?_, ?_⟩, h.len, ?_, ?_, ?_⟩⟩
  · intro b' x e'
    by_cases z : b' = D
    · subst z; rw [upd_same] at e'; cases e'; exact e
    · rw [upd_ne z] at e'; exact h.q.sub b' x e'
  · intro b' e1 e2
    rw [upd_ne (fun z => e2 (by rw [z]; exact h0))]
    exact h.q.non b' e1 e2
  · intro b' xs r
    rcases h.q.tup b' xs r with k | ⟨o, k⟩
    · exact .inl (sm _ _ k)
    · exact .inr ⟨o, sm _ _ k⟩
  · intro a' ha
    rw [upd_ne (fun z => c (by rw [← z]; exact ha))]
    exact h.q.na a' ha
  · intro b' o w kd e'
    by_cases z : b' = D
    · rw [z, upd_same] at e'; cases e'; exact absurd rfl (k.notup.2 _ _)
    · rw [upd_ne z] at e'; exact h.q.lk b' o w kd e'
  · intro i s e
    obtain ⟨ov, p, r⟩ := h.sl i s e
    exact ⟨ov, p, r.mono sm⟩
  · intro D' ob' m'
    have m0 := (List.eraseIdx_sublist _ _).subset m'
    obtain ⟨a', b', c', u', e', k'⟩ := h.ow D' ob' m0
    have z : D' ≠ D := by
      rintro rfl
      exact erase_key h.nd m m'
    exact ⟨a', by rw [upd_ne z]; exact b', c', u', e', k'.mono sm⟩
  · exact h.nd.sublist ((List.eraseIdx_sublist _ _).map _)
/-- what is frozen grows, one's own things stand as they stood -/
structure Gw (O : Ow) (F H F' H' : Hp) : Prop where
  sf : Same F F'
  ow : ∀ D ob, (D, ob) ∈ O → H' D = H D
theorem Gw.refl {O : Ow} {F H : Hp} : Gw O F H F H := ⟨Same.refl F, fun _ _ _ => rfl⟩
theorem Gw.trans {O : Ow} {F H F' H' F2 H2 : Hp} (a : Gw O F H F' H') (b : Gw O F' H' F2 H2) : Gw O F H F2 H2 := ⟨a.sf.trans b.sf, fun D ob m => (b.ow D ob m).trans (a.ow D ob m)⟩
theorem Gw.of {O : Ow} {F H F' : Hp} (s : Same F F') : Gw O F H F' H := ⟨s, fun _ _ _ => rfl⟩
theorem Rp.gm (h : Rp C F H σ G O) {p : Addr} {o : HO} (n : H p = none) : Gw O F H (upd F p o) (upd H p o) := ⟨h.sm n, fun D ob m => by
  obtain ⟨_, c, _, u, e, _⟩ := h.ow D ob m
  exact upd_ne (fun z => by rw [z, n] at e; cases e)⟩
theorem Rp.gn (h : Rp C F H σ G O) {p : Addr} {o : HO} (n : H p = none) : Gw O F H F (upd H p o) := ⟨Same.refl F, fun D ob m => by
  obtain ⟨_, c, _, u, e, _⟩ := h.ow D ob m
  exact upd_ne (fun z => by rw [z, n] at e; cases e)⟩
theorem Gw.sub {O O' : Ow} {F H F' H' : Hp} (g : Gw O F H F' H') (s : ∀ x ∈ O', x ∈ O) : Gw O' F H F' H' := ⟨g.sf, fun D ob m => g.ow D ob (s _ m)⟩
/-! ## a lock -/
abbrev lkC (C : Cy) (d : Addr) (od : Obj) (u : HO) : Cy := { K := C.K, B := C.B, A := C.A, dw := C.dw, H0 := upd C.H0 d (.frz od u), F0 := upd C.F0 d (.frz od u), dwS := C.dwS, dwT := C.dwT }
theorem ry_lock {F : Hp} {d : Addr} {od : Obj} {u : HO} (h : F d = some u) (dk : IsDk u) : Ry F (upd F d (.frz od u)) := by
  have mu := dk.mut
  refine ⟨fun b w n r => ?_, fun b w nd nf e => ?_⟩
  rotate_left
  · rw [upd_ne (fun z => by rw [z, h] at e; cases e; exact nd dk)]
    exact e
  by_cases z : b = d
  · subst z
    rcases r with r | ⟨o, r⟩
    · rw [h] at r; cases r
      exact .inr ⟨od, upd_same⟩
    · rw [h] at r; cases r; exact mu.elim
  · rcases r with r | ⟨o, r⟩
    · exact .inl (by rw [upd_ne z]; exact r)
    · exact .inr ⟨o, by rw [upd_ne z]; exact r⟩
theorem ry_unlock {F : Hp} {d : Addr} {od : Obj} {u : HO} (h : F d = some (.frz od u)) : Ry F (upd F d u) := by
  refine ⟨fun b w n r => ?_, fun b w nd nf e => ?_⟩
  rotate_left
  · rw [upd_ne (fun z => by rw [z, h] at e; cases e; exact nf _ _ rfl)]
    exact e
  by_cases z : b = d
  · subst z
    rcases r with r | ⟨o, r⟩
    · rw [h] at r; cases r; exact absurd rfl (n _ _)
    · rw [h] at r; cases r; exact .inl upd_same
  · rcases r with r | ⟨o, r⟩
    · exact .inl (by rw [upd_ne z]; exact r)
    · exact .inr ⟨o, by rw [upd_ne z]; exact r⟩
theorem Rp.lock (h : Rp C F H σ G O) {d : Addr} {od : Obj} {u : HO} (e : F d = some u) (dk : IsDk u) : Rp (lkC C d od u) (upd F d (.frz od u)) (upd H d (.frz od u)) σ G O := by
  have eH := h.q.sub d u e
  have ry := ry_lock (od := od) e dk
  have nt := dk.nt
  have hA : d ∉ C.A := fun m => by have := h.q.na d m; rw [e] at this; cases this
  refine ⟨⟨?_, ?_, ?_, ?_, ?_, ?_, ?_, ?_, ?_⟩, h.len, ?_, ?_, h.nd⟩
  · intro b o q
    by_cases z : b = d
    · subst z; rw [upd_same] at q ⊢; exact q
    · rw [upd_ne z] at q ⊢; exact h.q.sub b o q
  · intro b o q
    have q : upd C.F0 d (.frz od u) b = some o := q
    by_cases z : b = d
    · rw [z, upd_same] at q ⊢; exact q
    · rw [upd_ne z] at q ⊢; exact h.q.old b o q
  · intro b o nb q
    have q : upd C.H0 d (.frz od u) b = some o := q
    by_cases z : b = d
    · rw [z, upd_same] at q ⊢; exact q
    · rw [upd_ne z] at q ⊢; exact h.q.but b o nb q
  · intro b q
    have q : upd C.H0 d (.frz od u) b ≠ none := q
    by_cases z : b = d
    · rw [z, upd_same]; exact fun z => by cases z
    · rw [upd_ne z] at q ⊢; exact h.q.thr b q
  · intro b q1 q2
    have q1 : upd C.F0 d (.frz od u) b = none := q1
    have q2 : upd C.H0 d (.frz od u) b ≠ none := q2
    by_cases z : b = d
    · rw [z, upd_same] at q1; cases q1
    · rw [upd_ne z] at q1 q2 ⊢; exact h.q.non b q1 q2
  · intro b xs r
    by_cases z : b = d
    · subst z
      rcases r with r | ⟨o, r⟩
      · rw [upd_same] at r; cases r
      · rw [upd_same] at r; cases r; exact absurd rfl (nt xs)
    · have k : Rd F b (.tup xs) := h.q.tup b xs (by
        rcases r with r | ⟨o, r⟩
        · rw [upd_ne z] at r; exact .inl r
        · rw [upd_ne z] at r; exact .inr ⟨o, r⟩)
      exact ry.rd b _ (fun _ _ z => by cases z) k
  · exact C.dwS H _ (fun a ha => upd_ne (fun z => hA (by rw [← z]; exact ha))) h.q.dw
  · intro a ha
    rw [upd_ne (fun z => hA (by rw [← z]; exact ha))]
    exact h.q.na a ha
  · intro b o w kd q
    show upd C.F0 d (.frz od u) b = _
    by_cases z : b = d
    · rw [z, upd_same] at q ⊢; exact q
    · rw [upd_ne z] at q ⊢; exact h.q.lk b o w kd q
  · intro i s q
    obtain ⟨ov, a, b⟩ := h.sl i s q
    exact ⟨ov, a, b.ry ry⟩
  · intro D ob m
    obtain ⟨a, b, c, w, q, k⟩ := h.ow D ob m
    have z : D ≠ d := fun z => by rw [z, e] at b; cases b
    refine ⟨?_, by rw [upd_ne z]; exact b, c, w, by rw [upd_ne z]; exact q, k.ry ry⟩
    rcases a with a | a
    · exact .inl a
    · exact .inr (by show upd C.H0 d (.frz od u) D = none; rw [upd_ne z]; exact a)
theorem Rp.unlock {C : Cy} {F H F2 H2 : Hp} {σ σ0 : L2.St} {G G0 : List Sv} {O O0 : Ow} {d : Addr} {od : Obj} {u : HO} (r0 : Rp C F H σ0 G0 O0) (eF : F d = some u) (h : Rp (lkC C d od u) F2 H2 σ G O) (e : F2 d = some (.frz od u)) (dk : IsDk u) : Rp C (upd F2 d u) (upd H2 d u) σ G O := by
  have eH := h.q.sub d _ e
  have ry := ry_unlock e
  have mu := dk.mut
  have nt := dk.nt
  have eH0 := r0.q.sub d u eF
  have hA : d ∉ C.A := fun m => by have := r0.q.na d m; rw [eF] at this; cases this
  refine ⟨⟨?_, ?_, ?_, ?_, ?_, ?_, ?_, ?_, ?_⟩, h.len, ?_, ?_, h.nd⟩
  · intro b o q
    by_cases z : b = d
    · subst z; rw [upd_same] at q ⊢; exact q
    · rw [upd_ne z] at q ⊢; exact h.q.sub b o q
  · intro b o q
    by_cases z : b = d
    · subst z
      have := r0.q.old b o q
      rw [eF] at this
      rw [upd_same]; exact this
    · rw [upd_ne z]
      exact h.q.old b o (by show upd C.F0 d (.frz od u) b = _; rw [upd_ne z]; exact q)
  · intro b o nb q
    by_cases z : b = d
    · subst z
      have := r0.q.but b o nb q
      rw [eH0] at this
      rw [upd_same]; exact this
    · rw [upd_ne z]
      exact h.q.but b o nb (by show upd C.H0 d (.frz od u) b = _; rw [upd_ne z]; exact q)
  · intro b q
    by_cases z : b = d
    · subst z; rw [upd_same]; exact fun z => by cases z
    · rw [upd_ne z]
      exact h.q.thr b (by show upd C.H0 d (.frz od u) b ≠ none; rw [upd_ne z]; exact q)
  · intro b q1 q2
    by_cases z : b = d
    · subst z
      have := r0.q.non b q1 q2
      rw [eF] at this; cases this
    · rw [upd_ne z]
      exact h.q.non b (by show upd C.F0 d (.frz od u) b = none; rw [upd_ne z]; exact q1) (by show upd C.H0 d (.frz od u) b ≠ none; rw [upd_ne z]; exact q2)
  · intro b xs r
    by_cases z : b = d
    · subst z
      rcases r with r | ⟨o, r⟩
      · rw [upd_same] at r; cases r; exact absurd rfl (nt xs)
      · rw [upd_same] at r; cases r; exact mu.elim
    · have k : Rd F2 b (.tup xs) := h.q.tup b xs (by
        rcases r with r | ⟨o, r⟩
        · rw [upd_ne z] at r; exact .inl r
        · rw [upd_ne z] at r; exact .inr ⟨o, r⟩)
      exact ry.rd b _ (fun _ _ z => by cases z) k
  · exact C.dwS H2 _ (fun a ha => upd_ne (fun z => hA (by rw [← z]; exact ha))) h.q.dw
  · intro a ha
    rw [upd_ne (fun z => hA (by rw [← z]; exact ha))]
    exact h.q.na a ha
  · intro b o w kd q
    by_cases z : b = d
    · rw [z, upd_same] at q; cases q; exact mu.elim
    · rw [upd_ne z] at q
      have q : upd C.F0 d (.frz od u) b = some (.frz o w) := h.q.lk b o w kd q
      rw [upd_ne z] at q
      exact q
  · intro i s q
    obtain ⟨ov, a, b⟩ := h.sl i s q
    exact ⟨ov, a, b.ry ry⟩
  · intro D ob m
    obtain ⟨a, b, c, w, q, k⟩ := h.ow D ob m
    have z : D ≠ d := fun z => by rw [z, e] at b; cases b
    refine ⟨?_, by rw [upd_ne z]; exact b, c, w, by rw [upd_ne z]; exact q, k.ry ry⟩
    rcases a with a | a
    · exact .inl a
    · have a : upd C.H0 d (.frz od u) D = none := a
      rw [upd_ne z] at a
      exact .inr a
/-- what is frozen, where the heap has grown -/
def unfz : Option HO → Option HO
  | some (.frz _ (.dK _)) => none
  | some (.frz _ (.dT _)) => none
  | x => x
def grow (F H H' : Hp) : Hp := fun b => match F b with
  | some o => some o
  | none => match H b with
    | none => unfz (H' b)
    | some _ => none
theorem grow_new (F : Hp) {H H' : Hp} {b : Addr} (h : F b = none) (n : H b = none) : grow F H H' b = unfz (H' b) := by unfold grow; rw [h, n]
theorem unfz_some {x : Option HO} {u : HO} (h : unfz x = some u) : x = some u := by
  unfold unfz at h
  split at h
  · cases h
  · cases h
  · exact h
theorem unfz_tup {xs : List V} {x : Option HO} : (x = some (.tup xs) → unfz x = some (.tup xs)) ∧ ∀ o, x = some (.frz o (.tup xs)) → unfz x = some (.frz o (.tup xs)) :=
  ⟨fun e => by rw [e]; rfl, fun o e => by rw [e]; rfl⟩
theorem unfz_nd {x : Option HO} {o : Obj} {u : HO} (dk : IsDk u) : unfz x ≠ some (.frz o u) := fun h => by
  have e := unfz_some h
  rcases dk with ⟨_, rfl⟩ | ⟨_, rfl⟩ <;> (rw [e] at h; cases h)
theorem grow_old {F H H' : Hp} {b : Addr} {o : HO} (h : F b = some o) : grow F H H' b = some o := by unfold grow; rw [h]
theorem grow_none {F H H' : Hp} {b : Addr} (h : F b = none) (n : H b ≠ none) : grow F H H' b = none := by
  unfold grow
  rw [h]
  cases e : H b with
  | none => exact absurd e n
  | some o => rfl
theorem grow_same (F H H' : Hp) : Same F (grow F H H') := fun b o e => grow_old e
theorem Rp.ext (h : Rp C F H σ G O) (s : Same H H') : Rp C (grow F H H') H' σ G O ∧ (∀ b xs, Rd H' b (.tup xs) → Rd (grow F H H') b (.tup xs)) := by
  have tup : ∀ b xs, Rd H' b (.tup xs) → Rd (grow F H H') b (.tup xs) := by
    intro b xs r
    cases e : H b with
    | none =>
      have g := grow_new F (H' := H') (h.q.f0 e) e
      rcases r with r | ⟨o, r⟩
      · exact .inl (by rw [g]; exact unfz_tup.1 r)
      · exact .inr ⟨o, by rw [g]; exact unfz_tup.2 o r⟩
    | some u =>
      have e' := s b u e
      have k : Rd H b (.tup xs) := by
        rcases r with r | ⟨o, r⟩
        · rw [e'] at r; exact .inl (by rw [e]; exact r)
        · rw [e'] at r; exact .inr ⟨o, by rw [e]; exact r⟩
      rcases h.q.tup b xs k with k | ⟨o, k⟩
      · exact .inl (grow_old k)
      · exact .inr ⟨o, grow_old k⟩
  refine ⟨h.step (grow_same F H H') ⟨?_, h.q.old.trans (grow_same F H H'), fun b o nb e => s b o (h.q.but b o nb e), ?_, ?_, tup, ?_, ?_, ?_⟩ ?_, tup⟩
  · intro b o e
    unfold grow at e
    cases q : F b with
    | some x => rw [q] at e; exact s b o (h.q.sub b o (by rw [q]; exact e))
    | none =>
      rw [q] at e
      cases q2 : H b with
      | none => rw [q2] at e; exact unfz_some e
      | some y => rw [q2] at e; cases e
  · intro b e
    have := h.q.thr b e
    cases q : H b with
    | none => exact absurd q this
    | some o => rw [s b o q]; exact fun z => by cases z
  · intro b e1 e2
    exact grow_none (h.q.non b e1 e2) (h.q.thr b e2)
  · refine C.dwS H _ (fun a ha => ?_) h.q.dw
    have := C.dwT H h.q.dw a ha
    cases q : H a with
    | none => exact absurd q this
    | some o => exact s a o q
  · intro a ha
    exact grow_none (h.q.na a ha) (C.dwT H h.q.dw a ha)
  · intro b o u kd e
    unfold grow at e
    cases q : F b with
    | some x => rw [q] at e; exact h.q.lk b o u kd (by rw [q]; exact e)
    | none =>
      rw [q] at e
      cases q2 : H b with
      | none => rw [q2] at e; exact absurd e (unfz_nd kd)
      | some y => rw [q2] at e; cases e
  · intro D ob m
    obtain ⟨_, b, _, u, e, _⟩ := h.ow D ob m
    exact ⟨(s D u e).trans e.symm, grow_none b (by rw [e]; exact fun z => by cases z)⟩
theorem Rp.gs (h : Rp C F H σ G O) (s : Same H H') (F' : Hp) (sf : Same F F') : Gw O F H F' H' := ⟨sf, fun D ob m => by
  obtain ⟨_, c, _, u, e, _⟩ := h.ow D ob m
  rw [e]
  exact s D u e⟩
theorem sqT_rd {K : PySem.W.Frag} {a : Addr} {xs : List V} (f : ∀ b xs, Rd H b (.tup xs) → Rd F b (.tup xs)) (h : SqT K H a xs) : SqT K F a xs := by
  rcases h with h | h
  · exact .inl (f _ _ h)
  · exact .inr h
end
end Dl
set_option Elab.async false
set_option autoImplicit false
set_option linter.all false
set_option maxRecDepth 100000
set_option maxHeartbeats 4000000
namespace Dl
open PySem PySem.Spec PyProof.Rows L2 Ln
/-! ## what an expression's reading comes to -/
def Dv (C : Cy) (G : List Sv) (O : Ow) (t : TE) (k : Sv → Prop) : Prop := ∀ X F H σ Q, Rp C F H σ G (O ++ X) → (∀ F' v H' s, Gw (O ++ X) F H F' H' → Rp C F' H' σ G (O ++ X) → SvOk C.K F' v s → k s → Q v H') → t σ H Q
def Dx (C : Cy) (G : List Sv) (O : Ow) (t : TE) (k : PyData → Prop) : Prop := ∀ X F H σ Q, Rp C F H σ G (O ++ X) → (∀ F' v H' d, Gw (O ++ X) F H F' H' → Rp C F' H' σ G (O ++ X) → Dp C.K F' v d → k d → Q v H') → t σ H Q
def Dl (C : Cy) (G : List Sv) (O : Ow) (t : TE) (k : List Sv → Prop) : Prop := ∀ X F H σ Q, Rp C F H σ G (O ++ X) → (∀ F' D H' ss, Gw (O ++ X) F H F' H' → C.H0 D = none → Rp C F' H' σ G ((D, .lst ss) :: (O ++ X)) → k ss → Q (.ref D) H') → t σ H Q
def Dt (C : Cy) (G : List Sv) (O : Ow) (t : TT) (k : Bool → Prop) : Prop := ∀ X F H σ Q, Rp C F H σ G (O ++ X) → (∀ F' b H', Gw (O ++ X) F H F' H' → Rp C F' H' σ G (O ++ X) → k b → Q b H') → t σ H Q
def Da (C : Cy) (G : List Sv) (O : Ow) (t : TA) (k : List Sv → Prop) : Prop := ∀ X F H σ Q, Rp C F H σ G (O ++ X) → (∀ F' vs H' ss, Gw (O ++ X) F H F' H' → Rp C F' H' σ G (O ++ X) → Paired (SvOk C.K F') vs ss → k ss → Q vs H') → t σ H Q
def Do (C : Cy) (G : List Sv) (O : Ow) (t : TO) (k : Option Int → Prop) : Prop := ∀ X F H σ Q, Rp C F H σ G (O ++ X) → (∀ F' o H', Gw (O ++ X) F H F' H' → Rp C F' H' σ G (O ++ X) → k o → Q o H') → t σ H Q
structure isI (k : Int → Prop) (d : PyData) : Prop where
  ex : ∃ i, d = .int i ∧ k i
structure isB (k : Bool → Prop) (d : PyData) : Prop where
  ex : ∃ b, d = .bool b ∧ k b
structure isS (k : Str → Prop) (d : PyData) : Prop where
  ex : ∃ x, d = .str x ∧ k x
structure isT (k : List PyData → Prop) (d : PyData) : Prop where
  ex : ∃ ds, d = .tuple ds ∧ k ds
structure isQ (k : List PyData → Prop) (d : PyData) : Prop where
  ex : ∃ ds, (d = .tuple ds ∨ d = .list ds) ∧ k ds
structure isD (k : PyData → Prop) (s : Sv) : Prop where
  ex : ∃ d, s = .dat d ∧ k d
def szk (n : Nat) (p : Prop) : Prop := n ≤ sizeLine ∧ p
theorem isI_mk {k : Int → Prop} {i : Int} (h : k i) : isI k (.int i) := ⟨⟨i, rfl, h⟩⟩
theorem isB_mk {k : Bool → Prop} {i : Bool} (h : k i) : isB k (.bool i) := ⟨⟨i, rfl, h⟩⟩
theorem isS_mk {k : Str → Prop} {i : Str} (h : k i) : isS k (.str i) := ⟨⟨i, rfl, h⟩⟩
theorem isT_mk {k : List PyData → Prop} {i : List PyData} (h : k i) : isT k (.tuple i) := ⟨⟨i, rfl, h⟩⟩
theorem isQ_t {k : List PyData → Prop} {i : List PyData} (h : k i) : isQ k (.tuple i) := ⟨⟨i, .inl rfl, h⟩⟩
theorem isQ_l {k : List PyData → Prop} {i : List PyData} (h : k i) : isQ k (.list i) := ⟨⟨i, .inr rfl, h⟩⟩
theorem isD_mk {k : PyData → Prop} {i : PyData} (h : k i) : isD k (.dat i) := ⟨⟨i, rfl, h⟩⟩
theorem szk_mk {n : Nat} {p : Prop} (h : p) (hn : Nat.ble n 1000 = true := by with_unfolding_all rfl) : szk n p := ⟨Nat.le_trans (Nat.le_of_ble_eq_true hn) (by decide), h⟩
theorem ifB {b : Bool} {A B : Prop} (h1 : b = true → A) (h2 : b = false → B) : if b = true then A else B := by
  cases b
  · exact (if_neg Bool.false_ne_true).mpr (h2 rfl)
  · exact (if_pos rfl).mpr (h1 rfl)
theorem ifP {p : Prop} [Decidable p] {A B : Prop} (h1 : p → A) (h2 : ¬p → B) : if decide p = true then A else B := ifB (fun h => h1 (of_decide_eq_true h)) fun h => h2 (of_decide_eq_false h)
theorem ifT {b : Bool} {A B : Prop} (e : b = true) (h1 : A) : if b = true then A else B := (if_pos e).mpr h1
theorem ifF {b : Bool} {A B : Prop} (e : b = false) (h1 : B) : if b = true then A else B := (if_neg (by rw [e]; exact Bool.false_ne_true)).mpr h1
theorem Paired.det {K : PySem.W.Frag} {F : Hp} : ∀ {vs : List V} {ss : List Sv} {ds : List PyData}, Paired (SvOk K F) vs ss → ss = ds.map Sv.dat → DpAll K F vs ds
  | _, _, [], .nil, _ => .nil
  | _, _, d :: ds, .nil, e => by cases e
  | _, _, [], .cons _ _, e => by cases e
  | _, _, d :: ds, .cons a b, e => by
    rw [List.map_cons] at e
    injection e with e1 e2
    subst e1
    exact .cons a (Paired.det b e2)
theorem Paired.ofAll {K : PySem.W.Frag} {F : Hp} : ∀ {vs : List V} {ds : List PyData}, DpAll K F vs ds → Paired (SvOk K F) vs (ds.map Sv.dat)
  | _, _, .nil => .nil
  | _, _, .cons a b => .cons a (Paired.ofAll b)
theorem app_get {α : Type} {O X : List α} {n : Nat} {x : α} (m : O[n]? = some x) : (O ++ X)[n]? = some x := by
  rw [List.getElem?_append_left (List.getElem?_eq_some_iff.mp m).1]; exact m
theorem app_set {α : Type} {O X : List α} {n : Nat} {x y : α} (m : O[n]? = some x) : (O ++ X).set n y = O.set n y ++ X := by
  rw [List.set_append_left _ _ (List.getElem?_eq_some_iff.mp m).1]
theorem dpAll_get {K : PySem.W.Frag} {F : Hp} : ∀ {vs : List V} {ds : List PyData}, DpAll K F vs ds → ∀ {i : Nat} {v : V}, vs[i]? = some v → ∃ d, ds[i]? = some d ∧ Dp K F v d
  | _, _, .nil, i, v, e => by simp at e
  | _, _, .cons a b, 0, v, e => by cases e; exact ⟨_, rfl, a⟩
  | _, _, .cons a b, i + 1, v, e => dpAll_get b (i := i) (by simpa using e)
theorem dpAll_get' {K : PySem.W.Frag} {F : Hp} : ∀ {vs : List V} {ds : List PyData}, DpAll K F vs ds → ∀ {i : Nat} {d : PyData}, ds[i]? = some d → ∃ v, vs[i]? = some v ∧ Dp K F v d
  | _, _, .nil, i, v, e => by simp at e
  | _, _, .cons a b, 0, v, e => by cases e; exact ⟨_, rfl, a⟩
  | _, _, .cons a b, i + 1, v, e => dpAll_get' b (i := i) (by simpa using e)
theorem dpAll_len {K : PySem.W.Frag} {F : Hp} : ∀ {vs : List V} {ds : List PyData}, DpAll K F vs ds → vs.length = ds.length
  | _, _, .nil => rfl
  | _, _, .cons a b => by rw [List.length_cons, List.length_cons, dpAll_len b]
theorem paired_get {α β : Type} {R : α → β → Prop} : ∀ {vs : List α} {ds : List β}, Paired R vs ds → ∀ {i : Nat} {v : α}, vs[i]? = some v → ∃ d, ds[i]? = some d ∧ R v d
  | _, _, .nil, i, v, e => by simp at e
  | _, _, .cons a b, 0, v, e => by cases e; exact ⟨_, rfl, a⟩
  | _, _, .cons a b, i + 1, v, e => paired_get b (i := i) (by simpa using e)
theorem paired_get' {α β : Type} {R : α → β → Prop} : ∀ {vs : List α} {ds : List β}, Paired R vs ds → ∀ {i : Nat} {d : β}, ds[i]? = some d → ∃ v, vs[i]? = some v ∧ R v d
  | _, _, .nil, i, v, e => by simp at e
  | _, _, .cons a b, 0, v, e => by cases e; exact ⟨_, rfl, a⟩
  | _, _, .cons a b, i + 1, v, e => paired_get' b (i := i) (by simpa using e)
theorem atI_dp {K : PySem.W.Frag} {F : Hp} {vs : List V} {ds : List PyData} (h : DpAll K F vs ds) {i : Int} {d : PyData} (e : atI ds i = some d) : ∃ v, atI vs i = some v ∧ Dp K F v d := by
  unfold atI at e ⊢
  rw [dpAll_len h]
  cases q : ixN ds.length i with
  | none => rw [q] at e; cases e
  | some j =>
    rw [q] at e
    obtain ⟨v, a, b⟩ := dpAll_get' h (i := j) e
    exact ⟨v, a, b⟩
theorem atI_paired {β : Type} {R : V → β → Prop} {vs : List V} {ds : List β} (h : Paired R vs ds) {i : Int} {d : β} (e : atI ds i = some d) : ∃ v, atI vs i = some v ∧ R v d := by
  unfold atI at e ⊢
  rw [Paired.length h]
  cases q : ixN ds.length i with
  | none => rw [q] at e; cases e
  | some j =>
    rw [q] at e
    obtain ⟨v, a, b⟩ := paired_get' h (i := j) e
    exact ⟨v, a, b⟩
section
variable {C : Cy} {G : List Sv} {O : Ow} {t ta tb tc : TE} {k : PyData → Prop}
theorem Dx.mono {k' : PyData → Prop} (h : Dx C G O t k) (m : ∀ d, k d → k' d) : Dx C G O t k' := fun X F H σ Q r c => h X F H σ Q r fun F' v H' d s r' p q => c F' v H' d s r' p (m d q)
theorem Dv.mono {k k' : Sv → Prop} (h : Dv C G O t k) (m : ∀ d, k d → k' d) : Dv C G O t k' := fun X F H σ Q r c => h X F H σ Q r fun F' v H' d s r' p q => c F' v H' d s r' p (m d q)
theorem Dl.mono {k k' : List Sv → Prop} (h : Dl C G O t k) (m : ∀ d, k d → k' d) : Dl C G O t k' := fun X F H σ Q r c => h X F H σ Q r fun F' v H' d s p r' q => c F' v H' d s p r' (m d q)
theorem Dt.mono {u : TT} {k k' : Bool → Prop} (h : Dt C G O u k) (m : ∀ d, k d → k' d) : Dt C G O u k' := fun X F H σ Q r c => h X F H σ Q r fun F' v H' s r' q => c F' v H' s r' (m v q)
/-! ### from one to the other -/
theorem dv_dx {k : Sv → Prop} (h : Dx C G O t fun d => k (.dat d)) : Dv C G O t k := fun X F H σ Q r c => h X F H σ Q r fun F' v H' d s r' p q => c F' v H' (.dat d) s r' p q
theorem dx_dv (h : Dv C G O t (isD k)) : Dx C G O t k := fun X F H σ Q r c => h X F H σ Q r fun F' v H' s sm r' p q => by
  obtain ⟨d, rfl, q⟩ := q
  exact c F' v H' d sm r' p q
/-- a new list, frozen -/
theorem dx_dl (h : Dl C G O t fun ss => ∃ ds : List PyData, ss = ds.map Sv.dat ∧ k (.list ds)) : Dx C G O t k := fun X F H σ Q r c => h X F H σ Q r fun F' D H' ss s h0 r' q => by
  obtain ⟨ds, rfl, q⟩ := q
  obtain ⟨F2, u, s2, e, ⟨xs, rfl, p⟩, r2⟩ := r'.frz (n := 0) (ob := .lst (ds.map Sv.dat)) h0 rfl
  exact c F2 (.ref D) H' (.list ds) (s.trans (Gw.of s2)) r2 (.lst (SqL.of e) (Paired.det p rfl)) q
/-! ### names, constants -/
theorem dx_var {i : Nat} {d : PyData} (h : G[i]? = some (.dat d)) (q : k d) : Dx C G O (tVar i) k := fun X F H σ Q r c => by
  obtain ⟨v, a, b⟩ := r.get h (fun z => by cases z)
  exact ⟨v, a, c F v H d (Gw.refl) r b q⟩
theorem dv_var {i : Nat} {s : Sv} {k : Sv → Prop} (h : G[i]? = some s) (n : s ≠ .any) (q : k s) : Dv C G O (tVar i) k := fun X F H σ Q r c => by
  obtain ⟨v, a, b⟩ := r.get h n
  exact ⟨v, a, c F v H s (Gw.refl) r b q⟩
theorem dv_dat {i : Nat} {d : PyData} {k : Sv → Prop} (h : G[i]? = some (.dat d)) (q : k (.dat d)) : Dv C G O (tVar i) k := dv_var h (fun z => by cases z) q
theorem dv_ptr {i : Nat} {d : Addr} {k : Sv → Prop} (h : G[i]? = some (.ptr d)) (q : k (.ptr d)) : Dv C G O (tVar i) k := dv_var h (fun z => by cases z) q
theorem dv_hdl {i : Nat} {d : Mo} {k : Sv → Prop} (h : G[i]? = some (.hdl d)) (q : k (.hdl d)) : Dv C G O (tVar i) k := dv_var h (fun z => by cases z) q
theorem dx_int {n : Int} (q : k (.int n)) : Dx C G O (tC (.int n)) k := fun X F H σ Q r c => c F _ H _ (Gw.refl) r (.int n) q
theorem dx_str {n : Str} (q : k (.str n)) : Dx C G O (tC (.str n)) k := fun X F H σ Q r c => c F _ H _ (Gw.refl) r (.str n) q
theorem dx_bl {n : Bool} (q : k (.bool n)) : Dx C G O (tC (.bl n)) k := fun X F H σ Q r c => c F _ H _ (Gw.refl) r (.bl n) q
theorem dx_non (q : k .none) : Dx C G O (tC .non) k := fun X F H σ Q r c => c F _ H _ (Gw.refl) r .non q
theorem dx_con {v : V} {d : PyData} (h : ∀ F, Dp C.K F v d) (q : k d) : Dx C G O (tC v) k := fun X F H σ Q r c => c F v H d (Gw.refl) r (h F) q
/-! ### numbers -/
theorem dx_rI0 {g : Int → Int → Int} (h : Dx C G O ta (isI fun i => Dx C G O tb (isI fun j => k (.int (g i j))))) : Dx C G O (tOp (rI0 fun i j => V.int (g i j)) ta tb) k := fun X F H σ Q r c =>
  h X F H σ _ r fun F1 v H1 d s1 r1 p1 ⟨i, e, h2⟩ => by
    subst e; cases p1
    exact h2 X F1 H1 σ _ r1 fun F2 w H2 d2 s2 r2 p2 ⟨j, e, q⟩ => by
      subst e; cases p2
      exact ⟨i, j, rfl, rfl, c F2 _ H2 _ (s1.trans s2) r2 (.int _) q⟩
theorem dx_add (h : Dx C G O ta (isI fun i => Dx C G O tb (isI fun j => k (.int (i + j))))) : Dx C G O (tOp (rI0 fun i j => V.int (i + j)) ta tb) k := dx_rI0 (g := fun i j => i + j) h
theorem dx_sub (h : Dx C G O ta (isI fun i => Dx C G O tb (isI fun j => k (.int (i - j))))) : Dx C G O (tOp (rI0 fun i j => V.int (i - j)) ta tb) k := dx_rI0 (g := fun i j => i - j) h
theorem dx_rI {P : Int → Int → Prop} {g : Int → Int → Int} (h : Dx C G O ta (isI fun i => Dx C G O tb (isI fun j => P i j ∧ k (.int (g i j))))) : Dx C G O (tOp (rI P fun i j => V.int (g i j)) ta tb) k := fun X F H σ Q r c =>
  h X F H σ _ r fun F1 v H1 d s1 r1 p1 ⟨i, e, h2⟩ => by
    subst e; cases p1
    exact h2 X F1 H1 σ _ r1 fun F2 w H2 d2 s2 r2 p2 ⟨j, e, hp, q⟩ => by
      subst e; cases p2
      exact ⟨i, j, rfl, rfl, hp, c F2 _ H2 _ (s1.trans s2) r2 (.int _) q⟩
theorem dx_mul (h : Dx C G O ta (isI fun i => Dx C G O tb (isI fun j => CMul i j ∧ k (.int (i * j))))) : Dx C G O (tOp (rI CMul fun i j => V.int (i * j)) ta tb) k := dx_rI (g := fun i j => i * j) h
theorem dx_fdiv (h : Dx C G O ta (isI fun i => Dx C G O tb (isI fun j => CDiv i j ∧ k (.int (i / j))))) : Dx C G O (tOp (rI CDiv fun i j => V.int (i / j)) ta tb) k := dx_rI (g := fun i j => i / j) h
theorem dx_mod (h : Dx C G O ta (isI fun i => Dx C G O tb (isI fun j => 0 < j ∧ k (.int (i % j))))) : Dx C G O (tOp (rI (fun _ j => 0 < j) fun i j => V.int (i % j)) ta tb) k := dx_rI (P := fun _ j => 0 < j) (g := fun i j => i % j) h
theorem dx_rB {g : Int → Int → Bool} (h : Dx C G O ta (isI fun i => Dx C G O tb (isI fun j => k (.bool (g i j))))) : Dx C G O (tOp (rI0 fun i j => V.bl (g i j)) ta tb) k := fun X F H σ Q r c =>
  h X F H σ _ r fun F1 v H1 d s1 r1 p1 ⟨i, e, h2⟩ => by
    subst e; cases p1
    exact h2 X F1 H1 σ _ r1 fun F2 w H2 d2 s2 r2 p2 ⟨j, e, q⟩ => by
      subst e; cases p2
      exact ⟨i, j, rfl, rfl, c F2 _ H2 _ (s1.trans s2) r2 (.bl _) q⟩
theorem dx_lt (h : Dx C G O ta (isI fun i => Dx C G O tb (isI fun j => k (.bool (decide (i < j)))))) : Dx C G O (tOp (rI0 fun i j => V.bl (decide (i < j))) ta tb) k := dx_rB (g := fun i j => decide (i < j)) h
theorem dx_le (h : Dx C G O ta (isI fun i => Dx C G O tb (isI fun j => k (.bool (decide (i ≤ j)))))) : Dx C G O (tOp (rI0 fun i j => V.bl (decide (i ≤ j))) ta tb) k := dx_rB (g := fun i j => decide (i ≤ j)) h
theorem dx_gt (h : Dx C G O ta (isI fun i => Dx C G O tb (isI fun j => k (.bool (decide (j < i)))))) : Dx C G O (tOp (rI0 fun i j => V.bl (decide (j < i))) ta tb) k := dx_rB (g := fun i j => decide (j < i)) h
theorem dx_ge (h : Dx C G O ta (isI fun i => Dx C G O tb (isI fun j => k (.bool (decide (j ≤ i)))))) : Dx C G O (tOp (rI0 fun i j => V.bl (decide (j ≤ i))) ta tb) k := dx_rB (g := fun i j => decide (j ≤ i)) h
theorem dx_neg (h : Dx C G O ta (isI fun i => k (.int (-i)))) : Dx C G O (tUn (rU fun i => V.int (-i)) ta) k := fun X F H σ Q r c =>
  h X F H σ _ r fun F1 v H1 d s1 r1 p1 ⟨i, e, q⟩ => by
    subst e; cases p1
    exact ⟨i, rfl, c F1 _ H1 _ s1 r1 (.int _) q⟩
/-! ### equality of plain things, None -/
def scD : PyData → PyData → Bool
  | .none, .none => true
  | .none, .int _ => true
  | .int _, .none => true
  | .none, .bool _ => true
  | .bool _, .none => true
  | .none, .str _ => true
  | .str _, .none => true
  | .int _, .int _ => true
  | .bool _, .bool _ => true
  | .str _, .str _ => true
  | .int _, .str _ => true
  | .str _, .int _ => true
  | .bool _, .str _ => true
  | .str _, .bool _ => true
  | _, _ => false
def seq : PyData → PyData → Bool
  | .none, .none => true
  | .int i, .int j => decide (i = j)
  | .bool i, .bool j => decide (i = j)
  | .str i, .str j => decide (i = j)
  | _, _ => false
theorem dec_inj {α β : Type} {f : α → β} [DecidableEq α] [DecidableEq β] (inj : ∀ a b, f a = f b → a = b) (a b : α) : decide (f a = f b) = decide (a = b) := by
  by_cases h : a = b
  · rw [decide_eq_true h, decide_eq_true (congrArg f h)]
  · rw [decide_eq_false h, decide_eq_false fun z => h (inj a b z)]
theorem dp_scal {K : PySem.W.Frag} {F : Hp} {v w : V} {a b : PyData} (h1 : Dp K F v a) (h2 : Dp K F w b) (h : scD a b = true) : scal v w = true ∧ decide (v = w) = seq a b := by
  cases h1 <;> cases h2 <;> first
    | exact ⟨rfl, rfl⟩
    | (refine ⟨rfl, ?_⟩; exact dec_inj (f := V.int) (fun _ _ z => V.int.inj z) _ _)
    | (refine ⟨rfl, ?_⟩; exact dec_inj (f := V.str) (fun _ _ z => V.str.inj z) _ _)
    | (refine ⟨rfl, ?_⟩; exact dec_inj (f := V.bl) (fun _ _ z => V.bl.inj z) _ _)
    | (refine ⟨rfl, ?_⟩; exact decide_eq_false (fun z => by cases z))
    | cases h
/-- a == b of plain things: k of the answer -/
def sEq (k : Bool → Prop) (a b : PyData) : Prop := scD a b = true ∧ k (seq a b)
theorem sEq_mk {k : Bool → Prop} {a b : PyData} (q : k (seq a b)) (h : scD a b = true := by with_unfolding_all rfl) : sEq k a b := ⟨h, q⟩
theorem sEq_ii {k : Bool → Prop} {a b : Int} (q : k (decide (a = b))) : sEq k (.int a) (.int b) := ⟨rfl, q⟩
theorem sEq_ss {k : Bool → Prop} {a b : Str} (q : k (decide (a = b))) : sEq k (.str a) (.str b) := ⟨rfl, q⟩
theorem sEq_bb {k : Bool → Prop} {a b : Bool} (q : k (decide (a = b))) : sEq k (.bool a) (.bool b) := ⟨rfl, q⟩
theorem sEq_si {k : Bool → Prop} {a : Str} {b : Int} (q : k false) : sEq k (.str a) (.int b) := ⟨rfl, q⟩
theorem sEq_is {k : Bool → Prop} {a : Str} {b : Int} (q : k false) : sEq k (.int b) (.str a) := ⟨rfl, q⟩
theorem sEq_nn {k : Bool → Prop} (q : k true) : sEq k .none .none := ⟨rfl, q⟩
theorem sEq_ns {k : Bool → Prop} {b : Str} (q : k false) : sEq k .none (.str b) := ⟨rfl, q⟩
theorem sEq_sn {k : Bool → Prop} {b : Str} (q : k false) : sEq k (.str b) .none := ⟨rfl, q⟩
theorem sEq_ni {k : Bool → Prop} {b : Int} (q : k false) : sEq k .none (.int b) := ⟨rfl, q⟩
theorem sEq_in {k : Bool → Prop} {b : Int} (q : k false) : sEq k (.int b) .none := ⟨rfl, q⟩
theorem dx_eq (h : Dx C G O ta fun a => Dx C G O tb fun b => sEq (fun c => k (.bool c)) a b) : Dx C G O (tOp rEq ta tb) k := fun X F H σ Q r c =>
  h X F H σ _ r fun F1 v H1 d s1 r1 p1 h2 => h2 X F1 H1 σ _ r1 fun F2 w H2 d2 s2 r2 p2 ⟨e, q⟩ => by
    obtain ⟨e1, e2⟩ := dp_scal (Dp.mono s2.sf _ _ p1) p2 e
    exact ⟨e1, c F2 _ H2 _ (s1.trans s2) r2 (by rw [e2]; exact .bl _) q⟩
theorem dx_ne (h : Dx C G O ta fun a => Dx C G O tb fun b => sEq (fun c => k (.bool (!c))) a b) : Dx C G O (tOp rNe ta tb) k := fun X F H σ Q r c =>
  h X F H σ _ r fun F1 v H1 d s1 r1 p1 h2 => h2 X F1 H1 σ _ r1 fun F2 w H2 d2 s2 r2 p2 ⟨e, q⟩ => by
    obtain ⟨e1, e2⟩ := dp_scal (Dp.mono s2.sf _ _ p1) p2 e
    exact ⟨e1, c F2 _ H2 _ (s1.trans s2) r2 (by rw [e2]; exact .bl _) q⟩
def nonB : PyData → Bool
  | .none => true
  | _ => false
theorem dp_non {K : PySem.W.Frag} {F : Hp} {v : V} {a : PyData} (h : Dp K F v a) : decide (v = .non) = nonB a := by
  cases h <;> first | rfl | exact decide_eq_false (fun z => by cases z)
theorem dx_isN (h : Dx C G O ta fun a => k (.bool (nonB a))) : Dx C G O (tOp (fun x y H Q => y = V.non ∧ Q (V.bl (decide (x = V.non))) H) ta (tC .non)) k := fun X F H σ Q r c =>
  h X F H σ _ r fun F1 v H1 d s1 r1 p1 q => ⟨rfl, c F1 _ H1 _ s1 r1 (by rw [dp_non p1]; exact .bl _) q⟩
theorem dx_notN (h : Dx C G O ta fun a => k (.bool (!nonB a))) : Dx C G O (tOp (fun x y H Q => y = V.non ∧ Q (V.bl (!decide (x = V.non))) H) ta (tC .non)) k := fun X F H σ Q r c =>
  h X F H σ _ r fun F1 v H1 d s1 r1 p1 q => ⟨rfl, c F1 _ H1 _ s1 r1 (by rw [dp_non p1]; exact .bl _) q⟩
/-! ### equality of data -/
theorem dx_eqD (h : Dx C G O ta fun a => Dx C G O tb fun b => SeqAt.shaped a = true ∧ SeqAt.shaped b = true ∧ k (.bool (PyData.eqv a b))) : Dx C G O (tOp (rEqD C.K) ta tb) k := fun X F H σ Q r c =>
  h X F H σ _ r fun F1 v H1 d s1 r1 p1 h2 => h2 X F1 H1 σ _ r1 fun F2 w H2 d2 s2 r2 p2 ⟨e1, e2, q⟩ =>
    ⟨d, d2, Dp.mono r2.q.sub _ _ (Dp.mono s2.sf _ _ p1), Dp.mono r2.q.sub _ _ p2, e1, e2, c F2 _ H2 _ (s1.trans s2) r2 (.bl _) q⟩
theorem dx_neD (h : Dx C G O ta fun a => Dx C G O tb fun b => SeqAt.shaped a = true ∧ SeqAt.shaped b = true ∧ k (.bool (!PyData.eqv a b))) : Dx C G O (tOp (rNeD C.K) ta tb) k := fun X F H σ Q r c =>
  h X F H σ _ r fun F1 v H1 d s1 r1 p1 h2 => h2 X F1 H1 σ _ r1 fun F2 w H2 d2 s2 r2 p2 ⟨e1, e2, q⟩ =>
    ⟨d, d2, Dp.mono r2.q.sub _ _ (Dp.mono s2.sf _ _ p1), Dp.mono r2.q.sub _ _ p2, e1, e2, c F2 _ H2 _ (s1.trans s2) r2 (.bl _) q⟩
/-! ### tests, and, or, not, if -/
theorem dt_b {k : Bool → Prop} (h : Dx C G O t (isB k)) : Dt C G O (tB t) k := fun X F H σ Q r c => h X F H σ _ r fun F1 v H1 d s1 r1 p1 ⟨b, e, q⟩ => by
  subst e; cases p1
  exact ⟨b, rfl, c F1 b H1 s1 r1 q⟩
theorem dt_test {k : Bool → Prop} (h : Dx C G O t (isB k)) : Dt C G O (tTest t) k := fun X F H σ Q r c => h X F H σ _ r fun F1 v H1 d s1 r1 p1 ⟨b, e, q⟩ => by
  subst e; cases p1
  exact ⟨b, rfl, c F1 b H1 s1 r1 q⟩
theorem dt_not {u : TT} {k : Bool → Prop} (h : Dt C G O u fun b => k (!b)) : Dt C G O (tNot u) k := fun X F H σ Q r c => h X F H σ _ r fun F1 b H1 s1 r1 q => c F1 _ H1 s1 r1 q
theorem dt_and {u w : TT} {k : Bool → Prop} (h : Dt C G O u fun b => if b = true then Dt C G O w k else k false) : Dt C G O (tAnd u w) k := fun X F H σ Q r c => h X F H σ _ r fun F1 b H1 s1 r1 q => by
  cases b
  · exact iteF (c F1 false H1 s1 r1 (by simpa using q))
  · refine iteT ?_
    have q : Dt C G O w k := by simpa using q
    exact q X F1 H1 σ _ r1 fun F2 b H2 s2 r2 q => c F2 b H2 (s1.trans s2) r2 q
theorem dt_or {u w : TT} {k : Bool → Prop} (h : Dt C G O u fun b => if b = true then k true else Dt C G O w k) : Dt C G O (tOr u w) k := fun X F H σ Q r c => h X F H σ _ r fun F1 b H1 s1 r1 q => by
  cases b
  · refine iteF ?_
    have q : Dt C G O w k := by simpa using q
    exact q X F1 H1 σ _ r1 fun F2 b H2 s2 r2 q => c F2 b H2 (s1.trans s2) r2 q
  · exact iteT (c F1 true H1 s1 r1 (by simpa using q))
theorem dx_andV (h : Dx C G O ta (isB fun b => if b = true then Dx C G O tb k else k (.bool false))) : Dx C G O (tAndV ta tb) k := fun X F H σ Q r c => h X F H σ _ r fun F1 v H1 d s1 r1 p1 ⟨b, e, q⟩ => by
  subst e; cases p1
  refine ⟨b, rfl, ?_⟩
  cases b
  · exact iteF (c F1 _ H1 _ s1 r1 (.bl false) (by simpa using q))
  · refine iteT ?_
    have q : Dx C G O tb k := by simpa using q
    exact q X F1 H1 σ _ r1 fun F2 w H2 d s2 r2 p q => c F2 w H2 d (s1.trans s2) r2 p q
theorem dx_orV (h : Dx C G O ta (isB fun b => if b = true then k (.bool true) else Dx C G O tb k)) : Dx C G O (tOrV ta tb) k := fun X F H σ Q r c => h X F H σ _ r fun F1 v H1 d s1 r1 p1 ⟨b, e, q⟩ => by
  subst e; cases p1
  refine ⟨b, rfl, ?_⟩
  cases b
  · refine iteF ?_
    have q : Dx C G O tb k := by simpa using q
    exact q X F1 H1 σ _ r1 fun F2 w H2 d s2 r2 p q => c F2 w H2 d (s1.trans s2) r2 p q
  · exact iteT (c F1 _ H1 _ s1 r1 (.bl true) (by simpa using q))
theorem dx_notV (h : Dx C G O ta (isB fun b => k (.bool (!b)))) : Dx C G O (tNotV ta) k := fun X F H σ Q r c => h X F H σ _ r fun F1 v H1 d s1 r1 p1 ⟨b, e, q⟩ => by
  subst e; cases p1
  exact ⟨b, rfl, c F1 _ H1 _ s1 r1 (.bl _) q⟩
theorem dx_if {u : TT} (h : Dt C G O u fun b => if b = true then Dx C G O ta k else Dx C G O tb k) : Dx C G O (tIf u ta tb) k := fun X F H σ Q r c => h X F H σ _ r fun F1 b H1 s1 r1 q => by
  cases b
  · refine iteF ?_
    have q : Dx C G O tb k := by simpa using q
    exact q X F1 H1 σ _ r1 fun F2 w H2 d s2 r2 p q => c F2 w H2 d (s1.trans s2) r2 p q
  · refine iteT ?_
    have q : Dx C G O ta k := by simpa using q
    exact q X F1 H1 σ _ r1 fun F2 w H2 d s2 r2 p q => c F2 w H2 d (s1.trans s2) r2 p q
theorem dx_chain {p p' : Int → Int → Bool} (h : Dx C G O ta (isI fun i => Dx C G O tb (isI fun j => if p i j = true then Dx C G O tc (isI fun l => k (.bool (p' j l))) else k (.bool false)))) :
    Dx C G O (tChain (rI0 fun i j => V.bl (p i j)) (rI0 fun i j => V.bl (p' i j)) ta tb tc) k := fun X F H σ Q r c =>
  h X F H σ _ r fun F1 v H1 d s1 r1 p1 ⟨i, e, h2⟩ => by
    subst e; cases p1
    exact h2 X F1 H1 σ _ r1 fun F2 w H2 d2 s2 r2 p2 ⟨j, e, q⟩ => by
      subst e; cases p2
      refine ⟨i, j, rfl, rfl, p i j, rfl, ?_⟩
      cases e : p i j
      · rw [e] at q
        exact iteF (c F2 _ H2 _ (s1.trans s2) r2 (.bl false) (by simpa using q))
      · rw [e] at q
        refine iteT ?_
        have q : Dx C G O tc (isI fun l => k (.bool (p' j l))) := by simpa using q
        exact q X F2 H2 σ _ r2 fun F3 w H3 d3 s3 r3 p3 ⟨l, e, q⟩ => by
          subst e; cases p3
          exact ⟨j, l, rfl, rfl, c F3 _ H3 _ ((s1.trans s2).trans s3) r3 (.bl _) q⟩
/-! ### arguments -/
theorem da_nil {k : List Sv → Prop} (q : k []) : Da C G O tNil k := fun X F H σ Q r c => c F [] H [] (Gw.refl) r .nil q
theorem da_cons {u : TA} {k : List Sv → Prop} (h : Dv C G O t fun s => Da C G O u fun ss => k (s :: ss)) : Da C G O (tCons t u) k := fun X F H σ Q r c =>
  h X F H σ _ r fun F1 v H1 d s1 r1 p1 h2 => h2 X F1 H1 σ _ r1 fun F2 vs H2 ss s2 r2 p2 q => c F2 (v :: vs) H2 (d :: ss) (s1.trans s2) r2 (.cons (p1.mono s2.sf) p2) q
/-- arguments that are data -/
def Dd (C : Cy) (G : List Sv) (O : Ow) (t : TA) (k : List PyData → Prop) : Prop := ∀ X F H σ Q, Rp C F H σ G (O ++ X) → (∀ F' vs H' ds, Gw (O ++ X) F H F' H' → Rp C F' H' σ G (O ++ X) → DpAll C.K F' vs ds → k ds → Q vs H') → t σ H Q
theorem dd_nil {k : List PyData → Prop} (q : k []) : Dd C G O tNil k := fun X F H σ Q r c => c F [] H [] (Gw.refl) r .nil q
theorem dd_cons {u : TA} {k : List PyData → Prop} (h : Dx C G O t fun s => Dd C G O u fun ss => k (s :: ss)) : Dd C G O (tCons t u) k := fun X F H σ Q r c =>
  h X F H σ _ r fun F1 v H1 d s1 r1 p1 h2 => h2 X F1 H1 σ _ r1 fun F2 vs H2 ss s2 r2 p2 q => c F2 (v :: vs) H2 (d :: ss) (s1.trans s2) r2 (.cons (Dp.mono s2.sf _ _ p1) p2) q
theorem da_dd {u : TA} {k : List Sv → Prop} (h : Dd C G O u fun ds => k (ds.map Sv.dat)) : Da C G O u k := fun X F H σ Q r c => h X F H σ _ r fun F1 vs H1 ds s1 r1 p q => c F1 vs H1 _ s1 r1 (Paired.ofAll p) q
/-! ### displays -/
theorem dpAll_app {K : PySem.W.Frag} {F : Hp} : ∀ {vs ws : List V} {ds es : List PyData}, DpAll K F vs ds → DpAll K F ws es → DpAll K F (vs ++ ws) (ds ++ es)
  | _, _, _, _, .nil, h => h
  | _, _, _, _, .cons a b, h => .cons a (dpAll_app b h)
theorem dx_tup {u : TA} (h : Dd C G O u fun ds => szk ds.length (k (.tuple ds))) : Dx C G O (tTup u) k := fun X F H σ Q r c => h X F H σ _ r fun F1 vs H1 ds s1 r1 p q => by
  refine ⟨by rw [dpAll_len p]; exact q.1, fun l nl => ?_⟩
  have r2 := r1.newF (o := .tup vs) nl
  have s2 := r1.gm (o := .tup vs) nl
  exact c _ _ _ _ (s1.trans s2) r2 (.tup (SqT.of upd_same) (DpAll.mono s2.sf _ _ p)) q.2
theorem dl_lst {u : TA} {k : List Sv → Prop} (h : Da C G O u fun ss => szk ss.length (k ss)) : Dl C G O (tLst u) k := fun X F H σ Q r c => h X F H σ _ r fun F1 vs H1 ss s1 r1 p q => by
  refine ⟨by rw [Paired.length p]; exact q.1, fun l nl => ?_⟩
  exact c _ l _ ss (s1.trans (r1.gn nl)) (r1.q.h0 nl) (r1.newO (ob := .lst ss) nl ⟨vs, rfl, p⟩) q.2
/-! ### items -/
theorem dx_ixT (h : Dx C G O ta (isT fun ds => Dx C G O tb (isI fun i => ∃ d, atI ds i = some d ∧ k d))) : Dx C G O (tOp (rIxT C.K) ta tb) k := fun X F H σ Q r c =>
  h X F H σ _ r fun F1 v H1 d s1 r1 p1 ⟨ds, e, h2⟩ => by
    subst e
    exact h2 X F1 H1 σ _ r1 fun F2 w H2 d2 s2 r2 p2 ⟨i, e, x, hx, q⟩ => by
      subst e; cases p2
      cases Dp.mono s2.sf _ _ p1 with
      | @tup a xs _ ht ha =>
        obtain ⟨y, hy, py⟩ := atI_dp ha hx
        exact ⟨a, xs, i, y, rfl, rfl, Same.tup r2.q.sub ht, hy, c F2 y H2 x (s1.trans s2) r2 py q⟩
theorem dx_ixL (h : Dx C G O ta fun a => ∃ ds, a = .list ds ∧ Dx C G O tb (isI fun i => ∃ d, atI ds i = some d ∧ k d)) : Dx C G O (tOp (rIxL C.K) ta tb) k := fun X F H σ Q r c =>
  h X F H σ _ r fun F1 v H1 d s1 r1 p1 ⟨ds, e, h2⟩ => by
    subst e
    exact h2 X F1 H1 σ _ r1 fun F2 w H2 d2 s2 r2 p2 ⟨i, e, x, hx, q⟩ => by
      subst e; cases p2
      cases Dp.mono s2.sf _ _ p1 with
      | @lst a xs _ ht ha =>
        obtain ⟨y, hy, py⟩ := atI_dp ha hx
        exact ⟨a, xs, i, y, rfl, rfl, r2.q.sub.seq ht, hy, c F2 y H2 x (s1.trans s2) r2 py q⟩
theorem dx_ix (h : Dx C G O ta (isQ fun ds => Dx C G O tb (isI fun i => ∃ d, atI ds i = some d ∧ k d))) : Dx C G O (tOp (rIx C.K) ta tb) k := fun X F H σ Q r c =>
  h X F H σ _ r fun F1 v H1 d s1 r1 p1 ⟨ds, e, h2⟩ => by
    exact h2 X F1 H1 σ _ r1 fun F2 w H2 d2 s2 r2 p2 ⟨i, ei, x, hx, q⟩ => by
      subst ei; cases p2
      rcases e with e | e
      · subst e
        cases Dp.mono s2.sf _ _ p1 with
        | @tup a xs _ ht ha =>
          obtain ⟨y, hy, py⟩ := atI_dp ha hx
          exact .inr (.inl ⟨a, xs, i, y, rfl, rfl, Same.tup r2.q.sub ht, hy, c F2 y H2 x (s1.trans s2) r2 py q⟩)
      · subst e
        cases Dp.mono s2.sf _ _ p1 with
        | @lst a xs _ ht ha =>
          obtain ⟨y, hy, py⟩ := atI_dp ha hx
          exact .inl ⟨a, xs, i, y, rfl, rfl, r2.q.sub.seq ht, hy, c F2 y H2 x (s1.trans s2) r2 py q⟩
/-- of a list of one's own -/
theorem dv_ixO {i n : Nat} {D : Addr} {ss : List Sv} {k : Sv → Prop} (h : G[i]? = some (.ptr D)) (m : O[n]? = some (D, .lst ss)) (h2 : Dx C G O tb (isI fun j => ∃ s, atI ss j = some s ∧ k s)) : Dv C G O (tOp (rIxL C.K) (tVar i) tb) k := fun X F H σ Q r c => by
  obtain ⟨v, a, b⟩ := r.get h (fun z => by cases z)
  cases b
  refine ⟨_, a, ?_⟩
  exact h2 X F H σ _ r fun F2 w H2 d2 s2 r2 p2 ⟨j, ej, x, hx, q⟩ => by
    subst ej; cases p2
    obtain ⟨u, hu, xs, rfl, p⟩ := r2.obj (app_get m)
    obtain ⟨y, hy, py⟩ := atI_paired p hx
    exact ⟨D, xs, j, y, rfl, rfl, SqL.of hu, hy, c F2 y H2 x s2 r2 py q⟩
theorem dv_ixO' {i n : Nat} {D : Addr} {ss : List Sv} {k : Sv → Prop} (h : G[i]? = some (.ptr D)) (m : O[n]? = some (D, .lst ss)) (h2 : Dx C G O tb (isI fun j => ∃ s, atI ss j = some s ∧ k s)) : Dv C G O (tOp (rIx C.K) (tVar i) tb) k := fun X F H σ Q r c => by
  obtain ⟨v, a, b⟩ := r.get h (fun z => by cases z)
  cases b
  refine ⟨_, a, ?_⟩
  exact h2 X F H σ _ r fun F2 w H2 d2 s2 r2 p2 ⟨j, ej, x, hx, q⟩ => by
    subst ej; cases p2
    obtain ⟨u, hu, xs, rfl, p⟩ := r2.obj (app_get m)
    obtain ⟨y, hy, py⟩ := atI_paired p hx
    exact .inl ⟨D, xs, j, y, rfl, rfl, SqL.of hu, hy, c F2 y H2 x s2 r2 py q⟩
/-! ### slices, sums of tuples -/
theorem do_no {k : Option Int → Prop} (q : k none) : Do C G O tNoPart k := fun X F H σ Q r c => c F none H (Gw.refl) r q
theorem do_some {k : Option Int → Prop} (h : Dx C G O t (isI fun i => k (some i))) : Do C G O (tPart t) k := fun X F H σ Q r c => h X F H σ _ r fun F1 v H1 d s1 r1 p1 ⟨i, e, q⟩ => by
  subst e; cases p1
  exact ⟨i, rfl, c F1 _ H1 s1 r1 q⟩
def cutD {α : Type} (xs : List α) (lo hi : Option Int) : List α := (xs.drop (HT.sIx xs.length 0 lo)).take (HT.sIx xs.length xs.length hi - HT.sIx xs.length 0 lo)
theorem dpAll_take {K : PySem.W.Frag} {F : Hp} : ∀ {vs : List V} {ds : List PyData} (n : Nat), DpAll K F vs ds → DpAll K F (vs.take n) (ds.take n)
  | _, _, 0, _ => by rw [List.take_zero, List.take_zero]; exact .nil
  | _, _, n + 1, .nil => by rw [List.take_nil, List.take_nil]; exact .nil
  | _, _, n + 1, .cons a b => .cons a (dpAll_take n b)
theorem dpAll_drop {K : PySem.W.Frag} {F : Hp} : ∀ {vs : List V} {ds : List PyData} (n : Nat), DpAll K F vs ds → DpAll K F (vs.drop n) (ds.drop n)
  | _, _, 0, h => h
  | _, _, n + 1, .nil => by rw [List.drop_nil, List.drop_nil]; exact .nil
  | _, _, n + 1, .cons a b => dpAll_drop n b
theorem dpAll_cut {K : PySem.W.Frag} {F : Hp} {vs : List V} {ds : List PyData} {lo hi : Option Int} (h : DpAll K F vs ds) : DpAll K F (cutV vs lo hi) (cutD ds lo hi) := by
  unfold cutV cutD
  rw [dpAll_len h]
  exact dpAll_take _ (dpAll_drop _ h)
theorem dx_slT {tl th : TO} (h : Dx C G O t (isT fun ds => Do C G O tl fun lo => Do C G O th fun hi => k (.tuple (cutD ds lo hi)))) : Dx C G O (tSl (Ln.rSlS C.K) t tl th) k := fun X F H σ Q r c =>
  h X F H σ _ r fun F1 v H1 d s1 r1 p1 ⟨ds, e, h2⟩ => by
    subst e
    exact h2 X F1 H1 σ _ r1 fun F2 lo H2 s2 r2 h3 => h3 X F2 H2 σ _ r2 fun F3 hi H3 s3 r3 q => by
      cases Dp.mono (s2.trans s3).sf _ _ p1 with
      | @tup a xs _ ht ha =>
        refine ⟨a, xs, rfl, Same.tup r3.q.sub ht, fun p H4 s4 ht4 => ?_⟩
        obtain ⟨r4, tp⟩ := r3.ext s4
        have g := r3.gs s4 _ (grow_same F3 H3 H4)
        exact c _ _ _ _ (((s1.trans s2).trans s3).trans g) r4 (.tup (sqT_rd tp ht4) (DpAll.mono g.sf _ _ (dpAll_cut ha))) q
theorem dx_catT (h : Dx C G O ta (isT fun ds => Dx C G O tb (isT fun es => szk (ds.length + es.length) (k (.tuple (ds ++ es)))))) : Dx C G O (tOp (Ln.rCatS C.K) ta tb) k := fun X F H σ Q r c =>
  h X F H σ _ r fun F1 v H1 d s1 r1 p1 ⟨ds, e, h2⟩ => by
    subst e
    exact h2 X F1 H1 σ _ r1 fun F2 w H2 d2 s2 r2 p2 ⟨es, e, hz, q⟩ => by
      subst e
      cases Dp.mono s2.sf _ _ p1 with
      | @tup a xs _ ht ha => cases p2 with
        | @tup b ys _ ht' ha' =>
          refine ⟨a, b, xs, ys, rfl, rfl, Same.tup r2.q.sub ht, Same.tup r2.q.sub ht', by rw [dpAll_len ha, dpAll_len ha']; exact hz, fun p H4 s4 ht4 => ?_⟩
          obtain ⟨r4, tp⟩ := r2.ext s4
          have g := r2.gs s4 _ (grow_same F2 H2 H4)
          exact c _ _ _ _ ((s1.trans s2).trans g) r4 (.tup (sqT_rd tp ht4) (DpAll.mono g.sf _ _ (dpAll_app ha ha'))) q
end
end Dl
set_option Elab.async false
set_option autoImplicit false
set_option linter.all false
set_option maxRecDepth 100000
set_option maxHeartbeats 4000000
namespace Dl
open PySem PySem.Spec PyProof.Rows L2 Ln
/-! ## what is walked -/
structure DWk (C : Cy) (F : Hp) (J : It) (ds : List PyData) : Prop where
  ex : ∃ (Gd : Hp → Prop) (Y : Nat → Hp → V → Hp → Prop), L2.Walk J ds.length Gd Y ∧ (∀ F' H', Same F F' → Same F' H' → Gd H') ∧
    ∀ i F' H' x H'', i < ds.length → Same F F' → Same F' H' → Y i H' x H'' → ∃ d, ds[i]? = some d ∧ ((H'' = H' ∧ Dp C.K F' x d) ∨ ∃ T xs es, x = V.ref T ∧ H' T = none ∧ H'' = upd H' T (.tup xs) ∧ DpAll C.K F' xs es ∧ d = .tuple es)
def Dw (C : Cy) (G : List Sv) (O : Ow) (wi : TI) (k : List PyData → Prop) : Prop := ∀ X F H σ (R : It → Hp → Prop), Rp C F H σ G (O ++ X) → (∀ F' H' J ds, Gw (O ++ X) F H F' H' → Rp C F' H' σ G (O ++ X) → DWk C F' J ds → k ds → R J H') → wi σ H R
theorem DWk.mono {C : Cy} {F F' : Hp} {J : It} {ds : List PyData} (h : DWk C F J ds) (s : Same F F') : DWk C F' J ds := by
  obtain ⟨Gd, Y, w, a, b⟩ := h.ex
  exact ⟨Gd, Y, w, fun F2 H2 s2 => a F2 H2 (s.trans s2), fun i F2 H2 x H3 hi s2 => b i F2 H2 x H3 hi (s.trans s2)⟩
/-- a turn's item -/
theorem Rp.item {C : Cy} {F H : Hp} {σ : L2.St} {G : List Sv} {O : Ow} {x : V} {H' : Hp} {d : PyData} (r : Rp C F H σ G O) (h : (H' = H ∧ Dp C.K F x d) ∨ ∃ T xs es, x = V.ref T ∧ H T = none ∧ H' = upd H T (.tup xs) ∧ DpAll C.K F xs es ∧ d = .tuple es) :
    ∃ F', Gw O F H F' H' ∧ Rp C F' H' σ G O ∧ Dp C.K F' x d := by
  rcases h with ⟨rfl, h⟩ | ⟨T, xs, es, rfl, n, rfl, h, rfl⟩
  · exact ⟨F, Gw.refl, r, h⟩
  · have s := r.gm (o := .tup xs) n
    exact ⟨_, s, r.newF n, .tup (SqT.of upd_same) (DpAll.mono s.sf _ _ h)⟩
section
variable {C : Cy} {G : List Sv} {O : Ow} {t : TE} {ta : TA} {k : List PyData → Prop}
theorem dw_list {K' : PySem.W.Frag} (h : Dx C G O t fun a => ∃ ds, a = .list ds ∧ k ds) (hK : K' = C.K := by with_unfolding_all rfl) : Dw C G O (iList K' t) k := fun X F H σ R r c => by
  subst hK
  exact
  h X F H σ _ r fun F1 v H1 d s1 r1 p1 ⟨ds, e, q⟩ => by
    subst e
    cases p1 with
    | @lst a xs _ hs ha =>
      refine ⟨a, rfl, ⟨xs, r1.q.sub.seq hs⟩, c F1 H1 _ ds s1 r1 ⟨_, YAt xs, ?_, fun F2 H2 s2 u2 => u2.seq (s2.seq hs), ?_⟩ q⟩
      · have w := walk_list (K := C.K) (a := a) (xs := xs)
        rw [dpAll_len ha] at w
        exact w
      · rintro i F2 H2 x H3 hi s2 u2 ⟨rfl, hx⟩
        obtain ⟨d, hd, p⟩ := dpAll_get ha hx
        exact ⟨d, hd, .inl ⟨rfl, Dp.mono s2 _ _ p⟩⟩
theorem dw_tup {K' : PySem.W.Frag} (h : Dx C G O t (isT k)) (hK : K' = C.K := by with_unfolding_all rfl) : Dw C G O (iTup K' t) k := fun X F H σ R r c => by
  subst hK
  exact
  h X F H σ _ r fun F1 v H1 d s1 r1 p1 ⟨ds, e, q⟩ => by
    subst e
    cases p1 with
    | @tup a xs _ hs ha =>
      refine ⟨a, rfl, ⟨xs, Same.tup r1.q.sub hs⟩, c F1 H1 _ ds s1 r1 ⟨_, YAt xs, ?_, fun F2 H2 s2 u2 => Same.tup u2 (Same.tup s2 hs), ?_⟩ q⟩
      · have w := walk_tup (K := C.K) (a := a) (xs := xs)
        rw [dpAll_len ha] at w
        exact w
      · rintro i F2 H2 x H3 hi s2 u2 ⟨rfl, hx⟩
        obtain ⟨d, hd, p⟩ := dpAll_get ha hx
        exact ⟨d, hd, .inl ⟨rfl, Dp.mono s2 _ _ p⟩⟩
theorem mapI_get {n : Nat} {f : Nat → PyData} {i : Nat} (h : i < n) : ((List.range n).map f)[i]? = some (f i) := by
  rw [List.getElem?_map, List.getElem?_range h]; rfl
theorem dw_rng1 (h : Dd C G O ta fun ds => ∃ j : Int, ds = [.int j] ∧ -(2 ^ 62) ≤ j ∧ j < 2 ^ 62 ∧ k ((List.range j.toNat).map fun i : Nat => PyData.int (i : Int))) : Dw C G O (iRng1 ta) k := fun X F H σ R r c =>
  h X F H σ _ r fun F1 vs H1 ds s1 r1 p1 ⟨j, e, b1, b2, q⟩ => by
    subst e
    cases p1 with | cons p1 p2 => cases p2; cases p1; exact ⟨j, rfl, b1, b2, c F1 H1 _ _ s1 r1 ⟨_, _, by rw [List.length_map, List.length_range]; exact walk_range (lo := 0) (n := j.toNat), fun _ _ _ _ => trivial, fun i F2 H2 x H3 hi s2 u2 hy => by
      obtain ⟨rfl, rfl⟩ := hy
      rw [List.length_map, List.length_range] at hi
      exact ⟨_, mapI_get hi, .inl ⟨rfl, by show Dp C.K F2 (V.int (0 + (i : Int))) _; rw [Int.zero_add]; exact .int _⟩⟩⟩ q⟩
theorem dw_rng2 (h : Dd C G O ta fun ds => ∃ i j : Int, ds = [.int i, .int j] ∧ (-(2 ^ 62) ≤ i ∧ i < 2 ^ 62 ∧ -(2 ^ 62) ≤ j ∧ j < 2 ^ 62) ∧ k ((List.range (j - i).toNat).map fun n : Nat => PyData.int (i + (n : Int)))) : Dw C G O (iRng2 ta) k := fun X F H σ R r c =>
  h X F H σ _ r fun F1 vs H1 ds s1 r1 p1 ⟨i, j, e, b, q⟩ => by
    subst e
    cases p1 with | cons p1 p2 => cases p2 with | cons p2 p3 => cases p3; cases p1; cases p2; exact ⟨i, j, rfl, b, c F1 H1 _ _ s1 r1 ⟨_, _, by rw [List.length_map, List.length_range]; exact walk_range (lo := i) (n := (j - i).toNat), fun _ _ _ _ => trivial, fun n F2 H2 x H3 hi s2 u2 hy => by
      obtain ⟨rfl, rfl⟩ := hy
      rw [List.length_map, List.length_range] at hi
      exact ⟨_, mapI_get hi, .inl ⟨rfl, .int _⟩⟩⟩ q⟩
def enumD (ds : List PyData) : List PyData := ds.mapIdx fun i d => .tuple [.int (i : Int), d]
theorem dw_enumT {K' : PySem.W.Frag} (h : Dd C G O ta fun ds => ∃ es, ds = [.tuple es] ∧ k (enumD es)) (hK : K' = C.K := by with_unfolding_all rfl) : Dw C G O (Ln.iEnumT K' ta) k := fun X F H σ R r c => by
  subst hK
  exact
  h X F H σ _ r fun F1 vs H1 ds s1 r1 p1 ⟨es, e, q⟩ => by
    subst e
    cases p1 with
    | cons p1 p2 =>
      cases p2
      cases p1 with
      | @tup a xs _ hs ha =>
        refine ⟨a, xs, rfl, Same.tup r1.q.sub hs, c F1 H1 _ _ s1 r1 ⟨_, YPair (fun i => some (.int (i : Nat))) (fun i => xs[i]?), ?_, fun F2 H2 s2 u2 => Same.tup u2 (Same.tup s2 hs), ?_⟩ q⟩
        · have w := Ln.walk_enumT (K := C.K) (a := a) (xs := xs)
          rw [dpAll_len ha] at w
          unfold enumD
          rw [List.length_mapIdx]
          exact w
        · rintro i F2 H2 x H3 hi s2 u2 ⟨T, y, z, rfl, n, rfl, e1, e2⟩
          obtain ⟨d, hd, p⟩ := dpAll_get ha e2
          cases e1
          refine ⟨.tuple [.int (i : Int), d], by unfold enumD; rw [List.getElem?_mapIdx, hd]; rfl, .inr ⟨T, _, [.int (i : Int), d], rfl, n, rfl, .cons (.int _) (.cons (Dp.mono s2 _ _ p) .nil), rfl⟩⟩
theorem dw_enum {K' : PySem.W.Frag} (h : Dd C G O ta fun ds => ∃ es, ds = [.list es] ∧ k (enumD es)) (hK : K' = C.K := by with_unfolding_all rfl) : Dw C G O (iEnum K' ta) k := fun X F H σ R r c => by
  subst hK
  exact
  h X F H σ _ r fun F1 vs H1 ds s1 r1 p1 ⟨es, e, q⟩ => by
    subst e
    cases p1 with
    | cons p1 p2 =>
      cases p2
      cases p1 with
      | @lst a xs _ hs ha =>
        refine ⟨a, xs, rfl, r1.q.sub.seq hs, c F1 H1 _ _ s1 r1 ⟨_, YPair (fun i => some (.int (i : Nat))) (fun i => xs[i]?), ?_, fun F2 H2 s2 u2 => u2.seq (s2.seq hs), ?_⟩ q⟩
        · have w := walk_enum (K := C.K) (a := a) (xs := xs)
          rw [dpAll_len ha] at w
          unfold enumD
          rw [List.length_mapIdx]
          exact w
        · rintro i F2 H2 x H3 hi s2 u2 ⟨T, y, z, rfl, n, rfl, e1, e2⟩
          obtain ⟨d, hd, p⟩ := dpAll_get ha e2
          cases e1
          refine ⟨.tuple [.int (i : Int), d], by unfold enumD; rw [List.getElem?_mapIdx, hd]; rfl, .inr ⟨T, _, [.int (i : Int), d], rfl, n, rfl, .cons (.int _) (.cons (Dp.mono s2 _ _ p) .nil), rfl⟩⟩
end
/-! ## targets -/
def Dg (C : Cy) (G : List Sv) (O : Ow) (vz : Option (List Nat)) (g : TG) (d : PyData) (k : List Sv → Prop) : Prop :=
  ∀ X F H σ v Q, Rp C F H σ G (O ++ X) → Dp C.K F v d → (∀ σ' G', Rp C F H σ' G' (O ++ X) → (∀ l : List Nat, vz = some l → wipe σ' l = wipe σ l) → k G' → Q σ' H) → g v σ H Q
def Dgs (C : Cy) (G : List Sv) (O : Ow) (vz : Option (List Nat)) (g : TGs) (ds : List PyData) (k : List Sv → Prop) : Prop :=
  ∀ X F H σ vs Q, Rp C F H σ G (O ++ X) → DpAll C.K F vs ds → (∀ σ' G', Rp C F H σ' G' (O ++ X) → (∀ l : List Nat, vz = some l → wipe σ' l = wipe σ l) → k G' → Q σ' H) → g vs σ H Q
theorem wipe_get (σ : L2.St) : ∀ (vs : List Nat) (i : Nat), (wipe σ vs)[i]? = if i ∈ vs then (if i < σ.length then some none else none) else σ[i]?
  | [], i => by simp [wipe]
  | v :: vs, i => by
    show ((wipe σ vs).set v none)[i]? = _
    by_cases e : v = i
    · subst e
      by_cases hl : v < σ.length
      · rw [List.getElem?_set_self (by rw [wipe_length]; exact hl), if_pos List.mem_cons_self, if_pos hl]
      · rw [List.getElem?_eq_none (by rw [List.length_set, wipe_length]; omega), if_pos List.mem_cons_self, if_neg hl]
    · rw [List.getElem?_set_ne e, wipe_get σ vs i]
      by_cases m : i ∈ vs
      · rw [if_pos m, if_pos (List.mem_cons_of_mem _ m)]
      · rw [if_neg m, if_neg (fun z => by
          rcases List.mem_cons.mp z with z | z
          · exact e z.symm
          · exact m z)]
theorem wipe_set {σ : L2.St} {vs : List Nat} {j : Nat} {x : Option V} (m : j ∈ vs) : wipe (σ.set j x) vs = wipe σ vs := by
  refine List.ext_getElem? fun i => ?_
  rw [wipe_get, wipe_get]
  by_cases e : i ∈ vs
  · rw [if_pos e, if_pos e, List.length_set]
  · rw [if_neg e, if_neg e, List.getElem?_set_ne (fun z => e (by rw [← z]; exact m))]
section
variable {C : Cy} {G : List Sv} {O : Ow}
theorem dg_name {i : Nat} {d : PyData} {k : List Sv → Prop} (q : k (G.set i (.dat d))) : Dg C G O none (gName i) d k := fun X F H σ v Q r p c =>
  c _ _ (r.set (s := .dat d) p) (fun _ h => by cases h) q
theorem dg_nameS {l : List Nat} {i : Nat} {d : PyData} {k : List Sv → Prop} (q : k (G.set i (.dat d))) (m : i ∈ l := by decide) : Dg C G O (some l) (gName i) d k := fun X F H σ v Q r p c =>
  c _ _ (r.set (s := .dat d) p) (fun _ h => by cases h; exact wipe_set m) q
variable {vz : Option (List Nat)}
theorem dgs_nil {k : List Sv → Prop} (q : k G) : Dgs C G O vz gNil [] k := fun X F H σ vs Q r p c => by
  cases p
  exact ⟨rfl, c σ G r (fun _ _ => rfl) q⟩
theorem dgs_cons {g : TG} {gs : TGs} {d : PyData} {ds : List PyData} {k : List Sv → Prop} (h : Dg C G O vz g d fun G' => Dgs C G' O vz gs ds k) : Dgs C G O vz (gCons g gs) (d :: ds) k := fun X F H σ vs Q r p c => by
  cases p with
  | cons p ps =>
    refine ⟨_, _, rfl, h X F H σ _ _ r p fun σ1 G1 r1 w1 h1 => h1 X F H σ1 _ _ r1 ps fun σ2 G2 r2 w2 q => c σ2 G2 r2 (fun l hm => ?_) q⟩
    rw [w2 l hm, w1 l hm]
theorem dg_tup {K' : PySem.W.Frag} {n : Nat} {gs : TGs} {ds : List PyData} {k : List Sv → Prop} (h : Dgs C G O vz gs ds k) (hl : ds.length = n := by with_unfolding_all rfl) (hK : K' = C.K := by with_unfolding_all rfl) : Dg C G O vz (gTup K' n gs) (.tuple ds) k := fun X F H σ v Q r p c => by
  subst hK
  cases p with
  | @tup a xs _ hs ha => exact ⟨a, xs, rfl, Same.tup r.q.sub hs, by rw [dpAll_len ha]; exact hl, h X F H σ xs Q r ha c⟩
end
/-! ## comprehensions -/
def wipeG (G : List Sv) : List Nat → List Sv
  | [] => G
  | v :: vs => (wipeG G vs).set v .any
theorem Rp.clr {C : Cy} {F H : Hp} {σ : L2.St} {G : List Sv} {O : Ow} (h : Rp C F H σ G O) (i : Nat) : Rp C F H (σ.set i none) (G.set i .any) O := by
  refine ⟨h.q, by rw [List.length_set, List.length_set]; exact h.len, ?_, h.ow, h.nd⟩
  intro j s' e
  by_cases z : i = j
  · subst z
    have hl : i < G.length := by
      have := (List.getElem?_eq_some_iff.mp e).1
      rwa [List.length_set] at this
    rw [List.getElem?_set_self hl] at e
    cases e
    exact ⟨none, List.getElem?_set_self (by rw [h.len]; exact hl), trivial⟩
  · rw [List.getElem?_set_ne z] at e
    obtain ⟨ov, a, b⟩ := h.sl j s' e
    exact ⟨ov, by rw [List.getElem?_set_ne z]; exact a, b⟩
theorem Rp.wipe {C : Cy} {F H : Hp} {σ : L2.St} {G : List Sv} {O : Ow} (h : Rp C F H σ G O) : ∀ vs : List Nat, Rp C F H (L2.wipe σ vs) (wipeG G vs) O
  | [] => h
  | v :: vs => (Rp.wipe h vs).clr v
section
variable {C : Cy} {G : List Sv} {O : Ow} {wi : TI} {g : TG} {tt : TT} {te : TE} {vs : List Nat}
theorem Rp.dis {C : Cy} {F H : Hp} {σ : L2.St} {G : List Sv} {O : Ow} {D : Addr} {ob ob' : Ob} (r : Rp C F H σ G ((D, ob) :: O)) (m : (D, ob') ∈ O) : False := by
  have := r.nd
  rw [List.map_cons, List.nodup_cons] at this
  exact this.1 (List.mem_map.mpr ⟨_, m, rfl⟩)
theorem mid (O X : Ow) {y : Addr × Ob} : ∀ x ∈ O ++ X, x ∈ O ++ (y :: X) := fun x m => by
  rcases List.mem_append.mp m with m | m
  · exact List.mem_append_left _ m
  · exact List.mem_append_right _ (List.mem_cons_of_mem _ m)
theorem dl_lc {k : List Sv → Prop} (h : Dw C G O wi fun ds => ds.length ≤ sizeLine ∧ ∃ R : Nat → List Sv → Prop, R 0 [] ∧ (∀ i d acc, ds[i]? = some d → R i acc → Dg C (wipeG G vs) O (some vs) g d fun G' => Dt C G' O tt fun b => if b = true then Dv C G' O te fun s => R (i + 1) (acc ++ [s]) else R (i + 1) acc) ∧ ∀ ss, R ds.length ss → k ss) :
    Dl C G O (tLc wi g tt te vs) k := fun X F H σ Q r c =>
  h X F H σ _ r fun F1 H1 J ds s1 r1 wk ⟨hz, R, h0, hs, hk⟩ => by
    intro D nD
    obtain ⟨Gd, Y, w, hG, hY⟩ := wk.ex
    have hD0 := r1.q.h0 nD
    refine lc_it w (fun i H' => ∃ F' acc, Gw (O ++ X) F1 H1 F' H' ∧ Rp C F' H' (L2.wipe σ vs) (wipeG G vs) ((D, .lst acc) :: (O ++ X)) ∧ Rp C F' H' σ G ((D, .lst acc) :: (O ++ X)) ∧ acc.length ≤ i ∧ R i acc) ?_ ?_ ?_ ?_
    · have r2 := r1.newO (p := D) (u := .lst []) (ob := .lst []) nD ⟨[], rfl, .nil⟩
      exact ⟨F1, [], r1.gn nD, r2.wipe vs, r2, Nat.zero_le _, h0⟩
    · rintro i H' hi ⟨F', acc, s', r', _, _⟩
      exact hG F' H' s'.sf r'.q.sub
    · rintro i x Hx H' hi ⟨F', acc, s', rw', r', hl, hR⟩ y
      obtain ⟨d, hd, hx⟩ := hY i F' Hx x H' hi s'.sf r'.q.sub y
      obtain ⟨F2, s2, r2, p2⟩ := rw'.item hx
      have r2' : Rp C F2 H' σ G ((D, .lst acc) :: (O ++ X)) := by
        obtain ⟨F3, s3, r3, p3⟩ := r'.item hx
        refine ⟨r2.q, r'.len, ?_, r2.ow, r2.nd⟩
        intro j s e
        obtain ⟨ov, a, b⟩ := r'.sl j s e
        exact ⟨ov, a, b.mono s2.sf⟩
      have s2 := s2.sub fun x hx => List.mem_cons_of_mem (D, Ob.lst acc) hx
      have perm : Rp C F2 H' (L2.wipe σ vs) (wipeG G vs) (O ++ ((D, .lst acc) :: X)) := by
        refine ⟨r2.q, r2.len, r2.sl, fun D' ob m => r2.ow D' ob ?_, ?_⟩
        · rcases List.mem_append.mp m with m | m
          · exact List.mem_cons_of_mem _ (List.mem_append_left _ m)
          · rcases List.mem_cons.mp m with m | m
            · rw [m]; exact List.mem_cons_self
            · exact List.mem_cons_of_mem _ (List.mem_append_right _ m)
        · have := r2.nd
          rw [List.map_append, List.map_cons]
          rw [List.map_cons, List.map_append] at this
          exact (List.perm_middle.nodup_iff).mpr this
      refine hs i d acc hd hR ((D, .lst acc) :: X) F2 H' (L2.wipe σ vs) x _ perm p2 fun σ2 G2 r3 w3 h3 => ⟨?_, ?_⟩
      · rw [w3 vs rfl]
        refine List.ext_getElem? fun i => ?_
        rw [wipe_get, wipe_get, wipe_length]
        by_cases m : i ∈ vs
        · rw [if_pos m, if_pos m]
        · rw [if_neg m, if_neg m]
      · refine h3 ((D, .lst acc) :: X) F2 H' σ2 _ r3 fun F4 b H4 s4 r4 h4 => ?_
        have back : ∀ {F5 H5 : Hp} {ob : Ob}, Same F2 F5 → Rp C F5 H5 σ2 G2 (O ++ ((D, ob) :: X)) → Rp C F5 H5 (L2.wipe σ vs) (wipeG G vs) ((D, ob) :: (O ++ X)) ∧ Rp C F5 H5 σ G ((D, ob) :: (O ++ X)) := by
          intro F5 H5 ob s5 r5
          have ow : ∀ D' ob', (D', ob') ∈ (D, ob) :: (O ++ X) → (D', ob') ∈ O ++ ((D, ob) :: X) := by
            intro D' ob' m
            rcases List.mem_cons.mp m with m | m
            · rw [m]; exact List.mem_append_right _ List.mem_cons_self
            · rcases List.mem_append.mp m with m | m
              · exact List.mem_append_left _ m
              · exact List.mem_append_right _ (List.mem_cons_of_mem _ m)
          have nd : (((D, ob) :: (O ++ X)).map Prod.fst).Nodup := by
            have := r5.nd
            rw [List.map_append, List.map_cons] at this
            rw [List.map_cons, List.map_append]
            exact (List.perm_middle.nodup_iff).mp this
          have go : ∀ {σ' : L2.St} {G' : List Sv}, Rp C F2 H' σ' G' ((D, .lst acc) :: (O ++ X)) → Rp C F5 H5 σ' G' ((D, ob) :: (O ++ X)) := fun {σ' G'} rr =>
            ⟨r5.q, rr.len, fun j s e => by
              obtain ⟨ov, a, b⟩ := rr.sl j s e
              exact ⟨ov, a, b.mono s5⟩, fun D' ob' m => r5.ow D' ob' (ow D' ob' m), nd⟩
          exact ⟨go r2, go r2'⟩
        cases b
        · refine iteF ?_
          obtain ⟨k1, k2⟩ := back s4.sf r4
          have s4 := s4.sub (mid O X)
          exact ⟨F4, acc, (s'.trans s2).trans s4, k1, k2, Nat.le_succ_of_le hl, by simpa using h4⟩
        · refine iteT ?_
          have h4 : Dv C G2 O te fun s => R (i + 1) (acc ++ [s]) := by simpa using h4
          refine h4 ((D, .lst acc) :: X) F4 H4 σ2 _ r4 fun F5 v H5 s s5 r5 p5 q5 => ?_
          obtain ⟨u, hu, xs, rfl, px⟩ := r5.obj (n := O.length) (by rw [List.getElem?_append_right (Nat.le_refl _), Nat.sub_self]; rfl)
          refine ⟨xs, hu, ?_, ?_⟩
          · rw [Paired.length px]
            omega
          · have r6 := r5.wr (n := O.length) (D := D) (ob := .lst acc) (ob' := .lst (acc ++ [s])) (u := .lst (xs ++ [v])) (by rw [List.getElem?_append_right (Nat.le_refl _), Nat.sub_self]; rfl) ⟨_, rfl, Paired.snoc px p5⟩
            have e : (O ++ (D, Ob.lst acc) :: X).set O.length (D, Ob.lst (acc ++ [s])) = O ++ (D, Ob.lst (acc ++ [s])) :: X := by
              rw [List.set_append_right _ _ (Nat.le_refl _), Nat.sub_self]
              rfl
            rw [e] at r6
            obtain ⟨k1, k2⟩ := back (s4.trans s5).sf r6
            have g6 : Gw (O ++ X) F5 H5 F5 (upd H5 D (.lst (xs ++ [v]))) := ⟨Same.refl _, fun D' ob m => upd_ne (fun z => r'.dis (by rw [← z]; exact m))⟩
            exact ⟨F5, acc ++ [s], (((s'.trans s2).trans (s4.sub (mid O X))).trans (s5.sub (mid O X))).trans g6, k1, k2, by rw [List.length_append, List.length_singleton]; omega, q5⟩
    · rintro H' ⟨F', acc, s', _, r', _, hR⟩
      exact c F' D H' acc (s1.trans s') hD0 r' (hk acc hR)
/-- [e for x in xs]: by a function of the items -/
theorem dl_map {k : List Sv → Prop} (h : Dw C G O wi fun ds => ds.length ≤ sizeLine ∧ ∃ (α : Type) (xs : List α) (g0 : α → PyData) (f : α → Sv), ds = xs.map g0 ∧ (∀ (i : Nat) x, xs[i]? = some x → Dg C (wipeG G vs) O (some vs) g (g0 x) fun G' => Dv C G' O te fun s => s = f x) ∧ k (xs.map f)) :
    Dl C G O (tLc wi g tYes te vs) k := by
  refine dl_lc fun X F H σ R r c => h X F H σ R r fun F' H' J ds s r' w ⟨hz, α, xs, g0, f, e, hs, q⟩ => c F' H' J ds s r' w ⟨hz, fun i acc => acc = (xs.take i).map f, rfl, fun i d acc hd ha => ?_, fun ss e' => ?_⟩
  · subst e ha
    rw [List.getElem?_map] at hd
    obtain ⟨x, hx, rfl⟩ := Option.map_eq_some_iff.mp hd
    refine fun X F H σ v Q r p c => hs i x hx X F H σ v Q r p fun σ' G' r' w' h' => c σ' G' r' w' fun X F H σ Q r c => c F true H Gw.refl r (by
      refine (if_pos rfl).mpr ?_
      exact h'.mono fun s e => by show _ = _; rw [takeS hx, List.map_append, e]; rfl)
  · subst e e'
    rw [List.length_map, List.take_length]
    exact q
/-- [e for x in xs if t] -/
theorem dl_filt {k : List Sv → Prop} (h : Dw C G O wi fun ds => ds.length ≤ sizeLine ∧ ∃ (α : Type) (xs : List α) (g0 : α → PyData) (p : α → Bool) (f : α → Sv), ds = xs.map g0 ∧ (∀ (i : Nat) x, xs[i]? = some x → Dg C (wipeG G vs) O (some vs) g (g0 x) fun G' => Dt C G' O tt fun b => b = p x ∧ (b = true → Dv C G' O te fun s => s = f x)) ∧ k ((xs.filter p).map f)) :
    Dl C G O (tLc wi g tt te vs) k := by
  refine dl_lc fun X F H σ R r c => h X F H σ R r fun F' H' J ds s r' w ⟨hz, α, xs, g0, p, f, e, hs, q⟩ => c F' H' J ds s r' w ⟨hz, fun i acc => acc = ((xs.take i).filter p).map f, rfl, fun i d acc hd ha => ?_, fun ss e' => ?_⟩
  · subst e ha
    rw [List.getElem?_map] at hd
    obtain ⟨x, hx, rfl⟩ := Option.map_eq_some_iff.mp hd
    refine fun X F H σ v Q r pp c => hs i x hx X F H σ v Q r pp fun σ' G' r' w' h' => c σ' G' r' w' (h'.mono fun b ⟨e, hb⟩ => ?_)
    cases b
    · rw [if_neg Bool.false_ne_true]
      show List.map f (List.filter p (List.take i xs)) = List.map f (List.filter p (List.take (i + 1) xs))
      rw [takeS hx, List.filter_append]
      have : [x].filter p = [] := by rw [List.filter_cons, ← e]; rfl
      rw [this, List.append_nil]
    · rw [if_pos rfl]
      have : [x].filter p = [x] := by rw [List.filter_cons, ← e]; rfl
      refine (hb rfl).mono fun s e => ?_
      show List.map f (List.filter p (List.take i xs)) ++ [s] = List.map f (List.filter p (List.take (i + 1) xs))
      rw [takeS hx, List.filter_append, this, List.map_append, e]
      rfl
  · subst e e'
    rw [List.length_map, List.take_length]
    exact q
/-- the same, by the items themselves -/
theorem dl_mapD {k : List Sv → Prop} (h : Dw C G O wi fun ds => ds.length ≤ sizeLine ∧ ∃ f : PyData → Sv, (∀ (i : Nat) d, ds[i]? = some d → Dg C (wipeG G vs) O (some vs) g d fun G' => Dv C G' O te fun s => s = f d) ∧ k (ds.map f)) :
    Dl C G O (tLc wi g tYes te vs) k := dl_map fun X F H σ R r c => h X F H σ R r fun F' H' J ds s r' w ⟨hz, f, hs, q⟩ => c F' H' J ds s r' w ⟨hz, _, ds, id, f, (List.map_id ds).symm, hs, q⟩
theorem dl_filtD {k : List Sv → Prop} (h : Dw C G O wi fun ds => ds.length ≤ sizeLine ∧ ∃ (p : PyData → Bool) (f : PyData → Sv), (∀ (i : Nat) d, ds[i]? = some d → Dg C (wipeG G vs) O (some vs) g d fun G' => Dt C G' O tt fun b => b = p d ∧ (b = true → Dv C G' O te fun s => s = f d)) ∧ k ((ds.filter p).map f)) :
    Dl C G O (tLc wi g tt te vs) k := dl_filt fun X F H σ R r c => h X F H σ R r fun F' H' J ds s r' w ⟨hz, p, f, hs, q⟩ => c F' H' J ds s r' w ⟨hz, _, ds, id, p, f, (List.map_id ds).symm, hs, q⟩
end
end Dl
set_option Elab.async false
set_option autoImplicit false
set_option linter.all false
set_option maxRecDepth 100000
set_option maxHeartbeats 4000000
namespace Dl
open PySem PySem.Spec PyProof.Rows L2 Ln
/-! ## statements -/
/-- what a def gives back: a value, or a new list -/
inductive Rs where
  | v (s : Sv)
  | l (ss : List Sv)
structure En where
  nx : List Sv → Ow → Prop
  rt : Rs → Prop
  bk : List Sv → Ow → Prop := fun _ _ => False
  ct : List Sv → Ow → Prop := fun _ _ => False
/-- what is to be shown where a value is handed back -/
structure RtOk (C : Cy) (F : Hp) (rt : Rs → Prop) (q : VK) : Prop where
  v : ∀ F' v H' s, Same F F' → Rq C F' H' → SvOk C.K F' v s → rt (.v s) → q v H'
  l : ∀ F' D H' ss xs, Same F F' → Rq C F' H' → C.H0 D = none → F' D = none → D ∉ C.A → H' D = some (.lst xs) → Paired (SvOk C.K F') xs ss → rt (.l ss) → q (.ref D) H'
def NxOk (C : Cy) (F : Hp) (X : Ow) (nx : List Sv → Ow → Prop) (q : L2.St → Hp → Prop) : Prop := ∀ F' σ' H' G' O', Same F F' → Rp C F' H' σ' G' (O' ++ X) → nx G' O' → q σ' H'
def Ds (C : Cy) (G : List Sv) (O : Ow) (t : TS) (E : En) : Prop := ∀ X F H σ (D : Ends), Rp C F H σ G (O ++ X) → NxOk C F X E.nx D.nx → RtOk C F E.rt D.rt → NxOk C F X E.bk D.bk → NxOk C F X E.ct D.ct → t D σ H
section
variable {C : Cy} {G : List Sv} {O : Ow} {t u : TS} {te ta tb : TE} {E : En} {F F' : Hp} {X : Ow}
theorem NxOk.mono {nx : List Sv → Ow → Prop} {q : L2.St → Hp → Prop} (h : NxOk C F X nx q) (s : Same F F') : NxOk C F' X nx q := fun F2 σ H G O s2 r p => h F2 σ H G O (s.trans s2) r p
theorem RtOk.mono {rt : Rs → Prop} {q : VK} (h : RtOk C F rt q) (s : Same F F') : RtOk C F' rt q :=
  ⟨fun F2 v H s' s2 => h.v F2 v H s' (s.trans s2), fun F2 D H ss xs s2 => h.l F2 D H ss xs (s.trans s2)⟩
theorem ds_seq (h : Ds C G O t { E with nx := fun G' O' => Ds C G' O' u E }) : Ds C G O (tSeq t u) E := fun X F H σ D r n1 n2 n3 n4 =>
  h X F H σ { D with nx := u D } r (fun F2 σ2 H2 G2 O2 s2 r2 h2 => h2 X F2 H2 σ2 D r2 (n1.mono s2) (n2.mono s2) (n3.mono s2) (n4.mono s2)) n2 n3 n4
theorem ds_set {i : Nat} (h : Dx C G O te fun d => E.nx (G.set i (.dat d)) O) : Ds C G O (tAsg te (gName i)) E := fun X F H σ D r n1 _ _ _ =>
  h X F H σ _ r fun F1 v H1 d s1 r1 p1 q => n1 F1 _ H1 _ O s1.sf (r1.set (s := .dat d) p1) q
theorem ds_setV {i : Nat} (h : Dv C G O te fun s => E.nx (G.set i s) O) : Ds C G O (tAsg te (gName i)) E := fun X F H σ D r n1 _ _ _ =>
  h X F H σ _ r fun F1 v H1 d s1 r1 p1 q => n1 F1 _ H1 _ O s1.sf (r1.set p1) q
theorem ds_setL {i : Nat} (h : Dl C G O te fun ss => ∀ D, C.H0 D = none → E.nx (G.set i (.ptr D)) ((D, .lst ss) :: O)) : Ds C G O (tAsg te (gName i)) E := fun X F H σ D r n1 _ _ _ =>
  h X F H σ _ r fun F1 v H1 d s1 h0 r1 q => n1 F1 _ H1 _ _ s1.sf (r1.set (s := .ptr v) rfl) (q v h0)
theorem ds_asg {g : TG} (h : Dx C G O te fun d => Dg C G O none g d fun G' => E.nx G' O) : Ds C G O (tAsg te g) E := fun X F H σ D r n1 _ _ _ =>
  h X F H σ _ r fun F1 v H1 d s1 r1 p1 q => q X F1 H1 σ v _ r1 p1 fun σ' G' r' _ h' => n1 F1 σ' H1 G' O s1.sf r' h'
theorem ds_if {c : TT} (h : Dt C G O c fun b => if b = true then Ds C G O t E else Ds C G O u E) : Ds C G O (tIfS c t u) E := fun X F H σ D r n1 n2 n3 n4 =>
  h X F H σ _ r fun F1 b H1 s1 r1 q => by
    cases b
    · refine iteF ?_
      have q : Ds C G O u E := by simpa using q
      exact q X F1 H1 σ D r1 (n1.mono s1.sf) (n2.mono s1.sf) (n3.mono s1.sf) (n4.mono s1.sf)
    · refine iteT ?_
      have q : Ds C G O t E := by simpa using q
      exact q X F1 H1 σ D r1 (n1.mono s1.sf) (n2.mono s1.sf) (n3.mono s1.sf) (n4.mono s1.sf)
theorem ds_ret (h : Dv C G O te fun s => E.rt (.v s)) : Ds C G O (tRet te) E := fun X F H σ D r _ n2 _ _ =>
  h X F H σ _ r fun F1 v H1 d s1 r1 p1 q => n2.v F1 v H1 d s1.sf r1.q p1 q
theorem ds_retD (h : Dx C G O te fun d => E.rt (.v (.dat d))) : Ds C G O (tRet te) E := ds_ret (dv_dx h)
theorem ds_retL (h : Dl C G O te fun ss => E.rt (.l ss)) : Ds C G O (tRet te) E := fun X F H σ D r _ n2 _ _ =>
  h X F H σ _ r fun F1 v H1 ss s1 h0 r1 q => by
    obtain ⟨a, b, c, w, e, xs, rfl, p⟩ := r1.ow v (.lst ss) List.mem_cons_self
    exact n2.l F1 v H1 ss xs s1.sf r1.q h0 b c e p q
theorem ds_retO {i n : Nat} {D : Addr} {ss : List Sv} (hG : G[i]? = some (.ptr D)) (hO : O[n]? = some (D, .lst ss)) (h0 : C.H0 D = none) (q : E.rt (.l ss)) : Ds C G O (tRet (tVar i)) E := fun X F H σ D' r _ n2 _ _ => by
  obtain ⟨v, a, b⟩ := r.get hG (fun z => by cases z)
  cases b
  obtain ⟨a', b', c', w, e, xs, rfl, p⟩ := r.ow D (.lst ss) (List.mem_of_getElem? (app_get hO))
  exact ⟨_, a, n2.l F D H ss xs (Same.refl F) r.q h0 b' c' e p q⟩
theorem ds_retN (h : E.rt (.v (.dat .none))) : Ds C G O tRetN E := fun X F H σ D r _ n2 _ _ => n2.v F .non H (.dat .none) (Same.refl F) r.q .non h
theorem ds_pass (h : E.nx G O) : Ds C G O tNext E := fun X F H σ D r n1 _ _ _ => n1 F σ H G O (Same.refl F) r h
theorem ds_break (h : E.bk G O) : Ds C G O tBreak E := fun X F H σ D r _ _ n3 _ => n3 F σ H G O (Same.refl F) r h
theorem ds_cont (h : E.ct G O) : Ds C G O tCont E := fun X F H σ D r _ _ _ n4 => n4 F σ H G O (Same.refl F) r h
theorem ds_drop (h : Dv C G O te fun _ => E.nx G O) : Ds C G O (tDrop te) E := fun X F H σ D r n1 _ _ _ =>
  h X F H σ _ r fun F1 v H1 d s1 r1 p1 q => n1 F1 σ H1 G O s1.sf r1 q
/-- what is frozen from here on -/
theorem ds_frz {n i : Nat} {D : Addr} {ds : List PyData} (hO : O[n]? = some (D, .lst (ds.map Sv.dat))) (hG : G[i]? = some (.ptr D)) (h0 : C.H0 D = none) (h : Ds C (G.set i (.dat (.list ds))) (O.eraseIdx n) t E) : Ds C G O t E := fun X F H σ D' r n1 n2 n3 n4 => by
  obtain ⟨F2, w, s2, e, ⟨xs, rfl, p⟩, r2⟩ := r.frz h0 (app_get (X := X) hO)
  have eO : (O ++ X).eraseIdx n = O.eraseIdx n ++ X := List.eraseIdx_append_of_lt_length (List.getElem?_eq_some_iff.mp hO).1 _
  rw [eO] at r2
  obtain ⟨v, a, b⟩ := r2.get hG (fun z => by cases z)
  cases b
  have r3 := r2.set (i := i) (v := .ref D) (s := .dat (.list ds)) (.lst (SqL.of e) (Paired.det p rfl))
  have eσ : σ.set i (some (V.ref D)) = σ := by
    refine List.ext_getElem? fun j => ?_
    by_cases z : i = j
    · subst z
      rw [List.getElem?_set_self (List.getElem?_eq_some_iff.mp a).1, a]
    · rw [List.getElem?_set_ne z]
  rw [eσ] at r3
  exact h X F2 H σ D' r3 (n1.mono s2) (n2.mono s2) (n3.mono s2) (n4.mono s2)
/-- fewer slots are known -/
theorem Rp.forget {H : Hp} {σ : L2.St} {G G' : List Sv} (r : Rp C F H σ G O) (hl : G'.length = G.length) (h : ∀ (i : Nat) s, G'[i]? = some s → s = .any ∨ G[i]? = some s) : Rp C F H σ G' O := by
  refine ⟨r.q, by rw [hl]; exact r.len, fun i s e => ?_, r.ow, r.nd⟩
  rcases h i s e with rfl | e'
  · have : i < σ.length := by
      rw [r.len, ← hl]
      exact (List.getElem?_eq_some_iff.mp e).1
    exact ⟨σ[i], List.getElem?_eq_getElem this, trivial⟩
  · exact r.sl i s e'
/-! ### lists of one's own change -/
theorem ds_append {K' : PySem.W.Frag} {i n : Nat} {D : Addr} {ss : List Sv} (hG : G[i]? = some (.ptr D)) (hO : O[n]? = some (D, .lst ss)) (hz : ss.length < sizeLine) (h : Dv C G O te fun s => E.nx G (O.set n (D, .lst (ss ++ [s])))) (hK : K' = C.K := by with_unfolding_all rfl) : Ds C G O (tDrop (tBM K' "list" rAppend (tVar i) (tCons te tNil))) E := fun X F H σ D' r n1 _ _ _ => by
  subst hK
  obtain ⟨v, a, b⟩ := r.get hG (fun z => by cases z)
  cases b
  obtain ⟨w, e, xs, rfl, p⟩ := r.obj (app_get (X := X) hO)
  refine ⟨_, a, .inl ⟨rfl, xs, SqL.of e⟩, h X F H σ _ r fun F1 v H1 s s1 r1 p1 q => ?_⟩
  obtain ⟨w, e, xs, rfl, p⟩ := r1.obj (app_get (X := X) hO)
  refine ⟨D, xs, v, rfl, rfl, e, by rw [Paired.length p]; exact hz, ?_⟩
  have r2 := r1.wr (app_get (X := X) hO) (ob' := .lst (ss ++ [s])) (u := .lst (xs ++ [v])) ⟨_, rfl, Paired.snoc p p1⟩
  rw [app_set hO] at r2
  exact n1 F1 σ _ G _ s1.sf r2 q
theorem paired_set {α β : Type} {R : α → β → Prop} : ∀ {xs : List α} {ys : List β} (j : Nat) {x : α} {y : β}, Paired R xs ys → R x y → Paired R (xs.set j x) (ys.set j y)
  | _, _, _, _, _, .nil, _ => .nil
  | _, _, 0, _, _, .cons _ t, r => .cons r t
  | _, _, j + 1, _, _, .cons q t, r => .cons q (paired_set j t r)
/-- xs[j] = e -/
theorem ds_setIt {i n : Nat} {D : Addr} {ss : List Sv} (hG : G[i]? = some (.ptr D)) (hO : O[n]? = some (D, .lst ss)) (h : Dv C G O te fun s => Dx C G O tb (isI fun j => ∃ m, ixN ss.length j = some m ∧ E.nx G (O.set n (D, .lst (ss.set m s))))) : Ds C G O (tAsg te (gSub (tVar i) tb rSetL)) E := fun X F H σ D' r n1 _ _ _ =>
  h X F H σ _ r fun F1 v H1 s s1 r1 p1 h2 => by
    obtain ⟨v', a, b⟩ := r1.get hG (fun z => by cases z)
    cases b
    refine ⟨_, a, h2 X F1 H1 σ _ r1 fun F2 w H2 d2 s2 r2 p2 ⟨j, ej, m, hm, q⟩ => ?_⟩
    subst ej; cases p2
    obtain ⟨u, e, xs, rfl, p⟩ := r2.obj (app_get (X := X) hO)
    refine ⟨D, xs, j, m, rfl, rfl, e, by rw [Paired.length p]; exact hm, ?_⟩
    have r3 := r2.wr (app_get (X := X) hO) (ob' := .lst (ss.set m s)) (u := .lst (xs.set m v)) ⟨_, rfl, paired_set m p (p1.mono s2.sf)⟩
    rw [app_set hO] at r3
    exact n1 F2 σ _ G _ (s1.trans s2).sf r3 q
/-- x += e, whole numbers -/
theorem ds_aug {i : Nat} {a : Int} (hG : G[i]? = some (.dat (.int a))) (h : Dx C G O te (isI fun j => E.nx (G.set i (.dat (.int (a + j)))) O)) : Ds C G O (tAug i te rAdd) E := fun X F H σ D' r n1 _ _ _ => by
  obtain ⟨v, e, b⟩ := r.get hG (fun z => by cases z)
  cases b
  refine ⟨_, e, h X F H σ _ r fun F1 w H1 d s1 r1 p1 ⟨j, ej, q⟩ => ?_⟩
  subst ej; cases p1
  exact ⟨a, j, rfl, rfl, n1 F1 _ H1 _ O s1.sf (r1.set (s := .dat (.int (a + j))) (.int _)) q⟩
theorem ds_augS {i : Nat} {a : Int} (hG : G[i]? = some (.dat (.int a))) (h : Dx C G O te (isI fun j => E.nx (G.set i (.dat (.int (a - j)))) O)) : Ds C G O (tAug i te rSub) E := fun X F H σ D' r n1 _ _ _ => by
  obtain ⟨v, e, b⟩ := r.get hG (fun z => by cases z)
  cases b
  refine ⟨_, e, h X F H σ _ r fun F1 w H1 d s1 r1 p1 ⟨j, ej, q⟩ => ?_⟩
  subst ej; cases p1
  exact ⟨a, j, rfl, rfl, n1 F1 _ H1 _ O s1.sf (r1.set (s := .dat (.int (a - j))) (.int _)) q⟩
/-! ### loops -/
theorem ds_for {wi : TI} {g : TG} {tb : TS} (h : Dw C G O wi fun ds => ∃ I : Nat → List Sv → Ow → Prop, I 0 G O ∧ (∀ (i : Nat) d G' O', ds[i]? = some d → I i G' O' → Dg C G' O' none g d fun G2 => Ds C G2 O' tb { nx := I (i + 1), rt := E.rt, bk := E.nx, ct := I (i + 1) }) ∧ ∀ G' O', I ds.length G' O' → E.nx G' O') : Ds C G O (tFor wi g tb) E := fun X F H σ D r n1 n2 _ _ =>
  h X F H σ _ r fun F1 H1 J ds s1 r1 wk ⟨I, h0, hs, hd⟩ => by
    obtain ⟨Gd, Y, w, hG, hY⟩ := wk.ex
    refine for_it w (fun i σ' H' => ∃ F' G' O', Same F1 F' ∧ Rp C F' H' σ' G' (O' ++ X) ∧ I i G' O') ?_ ?_ ?_ ?_
    · exact ⟨F1, G, O, Same.refl _, r1, h0⟩
    · rintro i σ' H' hi ⟨F', G', O', s', r', _⟩
      exact hG F' H' s' r'.q.sub
    · rintro i x σ' Hx H' hi ⟨F', G', O', s', r', hI⟩ y
      obtain ⟨d, hd, hx⟩ := hY i F' Hx x H' hi s' r'.q.sub y
      obtain ⟨F2, s2, r2, p2⟩ := r'.item hx
      refine hs i d G' O' hd hI X F2 H' σ' x _ r2 p2 fun σ2 G2 r3 _ h3 => h3 X F2 H' σ2 _ r3 ?_ (n2.mono ((s1.sf.trans s').trans s2.sf)) (n1.mono ((s1.sf.trans s').trans s2.sf)) ?_
      · exact fun F3 σ3 H3 G3 O3 s3 r3 hI3 => ⟨F3, G3, O3, (s'.trans s2.sf).trans s3, r3, hI3⟩
      · exact fun F3 σ3 H3 G3 O3 s3 r3 hI3 => ⟨F3, G3, O3, (s'.trans s2.sf).trans s3, r3, hI3⟩
    · rintro σ' H' ⟨F', G', O', s', r', hI⟩
      exact n1 F' σ' H' G' O' (s1.sf.trans s') r' (hd G' O' hI)
theorem ds_while {c : TT} {tb : TS} (I : Nat → List Sv → Ow → Prop) (h0 : ∃ m, I m G O) (hs : ∀ m G' O', I m G' O' → Dt C G' O' c fun b => if b = true then Ds C G' O' tb { nx := fun G2 O2 => ∃ m', m' < m ∧ I m' G2 O2, rt := E.rt, bk := E.nx, ct := fun G2 O2 => ∃ m', m' < m ∧ I m' G2 O2 } else E.nx G' O') : Ds C G O (tWhile c tb) E := fun X F H σ D r n1 n2 _ _ => by
  refine ⟨fun m σ' H' => ∃ F' G' O', Same F F' ∧ Rp C F' H' σ' G' (O' ++ X) ∧ I m G' O', ?_, ?_⟩
  · obtain ⟨m, h⟩ := h0
    exact ⟨m, F, G, O, Same.refl _, r, h⟩
  · rintro m σ' H' ⟨F', G', O', s', r', hI⟩
    refine hs m G' O' hI X F' H' σ' _ r' fun F2 b H2 s2 r2 h2 => ?_
    cases b
    · refine iteF ?_
      exact n1 F2 σ' H2 G' O' (s'.trans s2.sf) r2 (by simpa using h2)
    · refine iteT ?_
      have h2 : Ds C G' O' tb { nx := fun G2 O2 => ∃ m', m' < m ∧ I m' G2 O2, rt := E.rt, bk := E.nx, ct := fun G2 O2 => ∃ m', m' < m ∧ I m' G2 O2 } := by simpa using h2
      refine ⟨fun σ3 H3 => ∃ m', m' < m ∧ ∃ F3 G3 O3, Same F F3 ∧ Rp C F3 H3 σ3 G3 (O3 ++ X) ∧ I m' G3 O3, fun σ3 H3 ⟨m', hm, x⟩ => ⟨m', hm, x⟩, ?_⟩
      have s2 := s2.sf
      refine h2 X F2 H2 σ' _ r2 ?_ (n2.mono (s'.trans s2)) (n1.mono (s'.trans s2)) ?_
      · rintro F3 σ3 H3 G3 O3 s3 r3 ⟨m', hm, hI3⟩
        exact ⟨m', hm, F3, G3, O3, (s'.trans s2).trans s3, r3, hI3⟩
      · rintro F3 σ3 H3 G3 O3 s3 r3 ⟨m', hm, hI3⟩
        exact ⟨m', hm, F3, G3, O3, (s'.trans s2).trans s3, r3, hI3⟩
end
/-! ## contracts -/
abbrev Ke := Addr → List (Str × PyData) → Prop
abbrev Wt := List Sv → (Rs → Prop) → Ke → Prop
/-- an error's fields -/
def FsOk (K : PySem.W.Frag) (F : Hp) (fs : List (Str × V)) (es : List (Str × PyData)) : Prop := Paired (fun (p : Str × V) (q : Str × PyData) => p.1 = q.1 ∧ Dp K F p.2 q.2) fs es
/-- what stands behind a call -/
structure Bh (F H F' H' : Hp) : Prop where
  sf : Same F F'
  sub : Same F' H'
  sm : Same H H'
  non : ∀ b, F b = none → H b ≠ none → F' b = none
  tup : ∀ b xs, Rd H' b (.tup xs) → Rd F' b (.tup xs)
  lk : ∀ b o u, IsDk u → F' b = some (.frz o u) → F b = some (.frz o u)
structure SpP (K : PySem.W.Frag) (n : Nat) (W : Wt) (vs : List V) (H : Hp) (Q : VK) (E : XK) : Prop where
  ex : vs.length = n ∧ ∃ (F : Hp) (as : List Sv) (k : Rs → Prop) (ke : Ke), Same F H ∧ (∀ b xs, Rd H b (.tup xs) → Rd F b (.tup xs)) ∧ Paired (SvOk K F) vs as ∧ W as k ke ∧
    (∀ F' v H' s, Bh F H F' H' → SvOk K F' v s → k (.v s) → Q v H') ∧
    (∀ F' D H' xs ss, Bh F H F' H' → H D = none → F' D = none → H' D = some (.lst xs) → Paired (SvOk K F') xs ss → k (.l ss) → Q (.ref D) H') ∧
    (∀ F' cls dx H' fs es, Bh F H F' H' → H dx = none → F' dx = some (.xd fs) → FsOk K F' fs es → ke cls es → E (.ref cls) (some dx) H')
def spP (K : PySem.W.Frag) (n : Nat) (W : Wt) : Sp := fun vs H Q E => SpP K n W vs H Q E
/-- the surroundings of a call from F, H -/
abbrev cyP (K : PySem.W.Frag) (F H : Hp) : Cy := { K := K, B := [], A := [], dw := fun _ => True, H0 := H, F0 := F, dwS := fun _ _ _ _ => trivial, dwT := fun _ _ a ha => by cases ha }
def EOk (C : Cy) (E : XK) (ke : Ke) : Prop := ∀ F H cls dx fs es, Rq C F H → C.H0 dx = none → F dx = some (.xd fs) → FsOk C.K F fs es → ke cls es → E (.ref cls) (some dx) H
/-- the wish about errors, from where one stands -/
def EOs (C : Cy) (X : Ow) (F : Hp) (σ : L2.St) (G : List Sv) (O : Ow) (E : XK) (ke : Ke) : Prop := ∀ F' H' cls dx fs es, Same F F' → Rp C F' H' σ G (O ++ X) → C.H0 dx = none → F' dx = some (.xd fs) → FsOk C.K F' fs es → ke cls es → E (.ref cls) (some dx) H'
theorem EOk.s {C : Cy} {X : Ow} {F : Hp} {σ : L2.St} {G : List Sv} {O : Ow} {E : XK} {ke : Ke} (h : EOk C E ke) : EOs C X F σ G O E ke := fun F' H' cls dx fs es _ r => h F' H' cls dx fs es r.q
theorem EOk.none (C : Cy) (E : XK) : EOk C E (fun _ _ => False) := fun _ _ _ _ _ _ _ _ _ _ h => h.elim
theorem rq_start {K : PySem.W.Frag} {F H : Hp} (s : Same F H) (t : ∀ b xs, Rd H b (.tup xs) → Rd F b (.tup xs)) : Rq (cyP K F H) F H :=
  ⟨s, Same.refl F, fun _ _ _ e => e, fun _ e => e, fun _ e _ => e, t, trivial, (fun a ha => by cases ha), fun _ _ _ _ e => e⟩
theorem rq_bh {K : PySem.W.Frag} {F H F' H' : Hp} (q : Rq (cyP K F H) F' H') : Bh F H F' H' := ⟨q.old, q.sub, fun b o e => q.but b o (by exact List.not_mem_nil) e, q.non, q.tup, q.lk⟩
/-- behind a call the surroundings are as they were -/
theorem Rp.called {C : Cy} {F H F' H' : Hp} {σ : L2.St} {G : List Sv} {O : Ow} (r : Rp C F H σ G O) (b : Bh F H F' H') : Rp C F' H' σ G O := by
  have keep : ∀ {a : Addr}, H a ≠ none → H' a = H a := fun {a} n => by
    cases q : H a with
    | none => exact absurd q n
    | some o => exact b.sm a o q
  refine r.step b.sf ⟨b.sub, r.q.old.trans b.sf, fun c o nb e => b.sm c o (r.q.but c o nb e), ?_, fun c e1 e2 => b.non c (r.q.non c e1 e2) (r.q.thr c e2), b.tup, ?_, ?_, fun c o u kd e => r.q.lk c o u kd (b.lk c o u kd e)⟩ ?_
  · intro c e
    have := r.q.thr c e
    rw [keep this]
    exact this
  · exact C.dwS H _ (fun a ha => keep (C.dwT H r.q.dw a ha)) r.q.dw
  · intro a ha
    exact b.non a (r.q.na a ha) (C.dwT H r.q.dw a ha)
  · intro D ob m
    obtain ⟨_, c, _, u, e, _⟩ := r.ow D ob m
    have n : H D ≠ none := by rw [e]; exact fun z => by cases z
    exact ⟨keep n, b.non D c n⟩
theorem Rp.gb {C : Cy} {F H F' H' : Hp} {σ : L2.St} {G : List Sv} {O : Ow} (r : Rp C F H σ G O) (b : Bh F H F' H') : Gw O F H F' H' := ⟨b.sf, fun D ob m => by
  obtain ⟨_, c, _, u, e, _⟩ := r.ow D ob m
  rw [e]
  exact b.sm D u e⟩
section
variable {C : Cy} {G : List Sv} {O : Ow} {ta : TA} {n : Nat} {W : Wt} {ES : L2.St → XK} {ke : Ke}
theorem ke_of {F1 H1 F' H' : Hp} {σ : L2.St} {X : Ow} (hE : ∀ σ, EOk C (ES σ) ke) (r1 : Rp C F1 H1 σ G (O ++ X)) (b : Bh F1 H1 F' H') {cls dx : Addr} {fs : List (Str × V)} {es : List (Str × PyData)} (nd : H1 dx = none) (hd : F' dx = some (.xd fs)) (p : FsOk C.K F' fs es) (q : ke cls es) : ES σ (.ref cls) (some dx) H' :=
  hE σ F' H' cls dx fs es (r1.called b).q (r1.q.h0 nd) hd p q
theorem dv_call {k : Sv → Prop} (hE : ∀ σ, EOk C (ES σ) ke) (h : Da C G O ta fun as => as.length = n ∧ W as (fun r => match r with | .v s => k s | .l _ => False) ke) : Dv C G O (Ln.tCg (spP C.K n W) ES ta) k := fun X F H σ Q r c =>
  h X F H σ _ r fun F1 vs H1 as s1 r1 p ⟨e, w⟩ => ⟨by rw [Paired.length p]; exact e, F1, as, _, ke, r1.q.sub, r1.q.tup, p, w,
    fun F' v H' s b sv q => c F' v H' s (s1.trans (r1.gb b)) (r1.called b) sv q, fun _ _ _ _ _ _ _ _ _ _ q => q.elim, fun F' cls dx H' fs es b nd hd p q => ke_of hE r1 b nd hd p q⟩
theorem dl_call {k : List Sv → Prop} (hE : ∀ σ, EOk C (ES σ) ke) (h : Da C G O ta fun as => as.length = n ∧ W as (fun r => match r with | .v _ => False | .l ss => k ss) ke) : Dl C G O (Ln.tCg (spP C.K n W) ES ta) k := fun X F H σ Q r c =>
  h X F H σ _ r fun F1 vs H1 as s1 r1 p ⟨e, w⟩ => by
    refine ⟨by rw [Paired.length p]; exact e, F1, as, _, ke, r1.q.sub, r1.q.tup, p, w, fun _ _ _ _ _ _ q => q.elim, ?_, fun F' cls dx H' fs es b nd hd p q => ke_of hE r1 b nd hd p q⟩
    intro F' D H' xs ss b nd nf hD pp q
    have r2 := r1.called b
    refine c F' D H' ss (s1.trans (r1.gb b)) (r1.q.h0 nd) ⟨r2.q, r2.len, r2.sl, ?_, ?_⟩ q
    · intro D' ob m
      rcases List.mem_cons.mp m with m | m
      · cases m
        exact ⟨.inr (r1.q.h0 nd), nf, r1.q.nA nd, _, hD, xs, rfl, pp⟩
      · exact r2.ow D' ob m
    · rw [List.map_cons, List.nodup_cons]
      refine ⟨fun m => ?_, r2.nd⟩
      obtain ⟨⟨D', ob⟩, m', e'⟩ := List.mem_map.mp m
      obtain ⟨_, _, _, u, e1, _⟩ := r1.ow D' ob m'
      have e' : D' = D := e'
      rw [e', nd] at e1
      cases e1
theorem dx_call {k : PyData → Prop} (hE : ∀ σ, EOk C (ES σ) ke) (h : Da C G O ta fun as => as.length = n ∧ W as (fun r => match r with | .v s => isD k s | .l _ => False) ke) : Dx C G O (Ln.tCg (spP C.K n W) ES ta) k := dx_dv (dv_call hE h)
/-- a def that lets nothing out -/
theorem dx_callP {k : PyData → Prop} (h : Da C G O ta fun as => as.length = n ∧ W as (fun r => match r with | .v s => isD k s | .l _ => False) (fun _ _ => False)) : Dx C G O (Ln.tCg (spP C.K n W) ES ta) k := dx_call (ke := fun _ _ => False) (fun σ => EOk.none C _) h
theorem dv_callP {k : Sv → Prop} (h : Da C G O ta fun as => as.length = n ∧ W as (fun r => match r with | .v s => k s | .l _ => False) (fun _ _ => False)) : Dv C G O (Ln.tCg (spP C.K n W) ES ta) k := dv_call (ke := fun _ _ => False) (fun σ => EOk.none C _) h
theorem dl_callP {k : List Sv → Prop} (h : Da C G O ta fun as => as.length = n ∧ W as (fun r => match r with | .v _ => False | .l ss => k ss) (fun _ _ => False)) : Dl C G O (Ln.tCg (spP C.K n W) ES ta) k := dl_call (ke := fun _ _ => False) (fun σ => EOk.none C _) h
end
/-! ## a def's body -/
theorem rp_start {K : PySem.W.Frag} {F H : Hp} {vs : List V} {as : List Sv} {N : List Str} (s : Same F H) (t : ∀ b xs, Rd H b (.tup xs) → Rd F b (.tup xs)) (p : Paired (SvOk K F) vs as) : Rp (cyP K F H) F H (L2.start N vs) (as ++ List.replicate (N.length - vs.length) .any) [] := by
  refine ⟨rq_start s t, ?_, ?_, (fun _ _ m => by cases m), List.nodup_nil⟩
  · unfold L2.start
    rw [List.length_append, List.length_append, List.length_map, List.length_replicate, List.length_replicate, Paired.length p]
  · intro i sv e
    unfold L2.start
    by_cases c : i < as.length
    · rw [List.getElem?_append_left c] at e
      obtain ⟨v, hv, ok⟩ := paired_get' p e
      refine ⟨some v, ?_, OvOk.of ok⟩
      rw [List.getElem?_append_left (by rw [List.length_map, Paired.length p]; exact c), List.getElem?_map, hv]
      rfl
    · have e0 := e
      rw [List.getElem?_append_right (by omega)] at e
      have h1 := (List.getElem?_eq_some_iff.mp e).1
      rw [List.length_replicate] at h1
      rw [List.getElem?_replicate_of_lt h1] at e
      cases e
      refine ⟨none, ?_, trivial⟩
      rw [List.getElem?_append_right (by rw [List.length_map, Paired.length p]; omega), List.length_map, Paired.length p, List.getElem?_replicate_of_lt (by rw [Paired.length p] at h1; exact h1)]
theorem ds_body {K : PySem.W.Frag} {n : Nat} {W : Wt} {vs : List V} {H : Hp} {Q : VK} {E : XK} {N : List Str} {t : TS} (h : SpP K n W vs H Q E)
    (hb : ∀ (F0 H0 : Hp) (as : List Sv) (k : Rs → Prop) (ke : Ke), as.length = n → W as k ke → EOk (cyP K F0 H0) E ke → Ds (cyP K F0 H0) (as ++ List.replicate (N.length - n) .any) [] t { nx := fun _ _ => k (.v (.dat .none)), rt := k }) : t { nx := fun _ H' => Q .non H', rt := Q } (L2.start N vs) H := by
  obtain ⟨e, F, as, k, ke, s, tp, p, w, q1, q2, q3⟩ := h.ex
  have r := rp_start (N := N) s tp p
  rw [e] at r
  refine hb F H as k ke (by rw [← Paired.length p]; exact e) w ?_ [] F H _ _ r ?_ ⟨?_, ?_⟩ (fun _ _ _ _ _ _ _ z => z.elim) (fun _ _ _ _ _ _ _ z => z.elim)
  · exact fun F' H' cls dx fs es rq nd hd p q => q3 F' cls dx H' fs es (rq_bh rq) nd hd p q
  · exact fun F' σ' H' G' O' s' r' hk => q1 F' .non H' (.dat .none) (rq_bh r'.q) .non hk
  · exact fun F' v H' s' _ rq sv hk => q1 F' v H' s' (rq_bh rq) sv hk
  · exact fun F' D H' ss xs _ rq n0 nf _ hD pp hk => q2 F' D H' xs ss (rq_bh rq) n0 nf hD pp hk
/-- a def of the text, told by data -/
theorem okP {P : Program} {w : World} {K : PySem.W.Frag} {mg : Str → Option Value} {base : Heap} {x qual : Str} {st : Stmt} {f : Addr} {fd : FuncData} {N ps : List Str} {k n : Nat} {W : Wt} (F : Fun K x qual st f fd) (S : FnScope N ps (defScope st)) (hn : ps.length = n)
    (hbody : ∀ (cdv : Value) (A : Around) (outer : List Env) (s : Shared) (H : Hp) (E : XK), A.guards = some [] → Room k (A.deeper (envOfC qual (defScope st) s.heap.objs.size f cdv)) →
      ∃ t, PSs (cxOf CX0 P w K mg base N qual (defScope st) f cdv A outer s H E).nox (defBody st) t ∧ ∀ (F0 H0 : Hp) (as : List Sv) (k : Rs → Prop) (ke : Ke), as.length = n → W as k ke → Ds (cyP K F0 H0) (as ++ List.replicate (N.length - n) .any) [] t { nx := fun _ _ => k (.v (.dat .none)), rt := k }) : FnG P w K mg base CX0 (k + 1) f fd ps (spP K n W) :=
  okG F S (fun vs H Q E h => by rw [h.ex.1, hn]) fun cdv A outer s H vs Q E hG hr h => by
    obtain ⟨t, ht, hd⟩ := hbody cdv A outer s H E hG hr
    exact ⟨t, ht, ds_body h fun F0 H0 as k ke e w _ => hd F0 H0 as k ke e w⟩
theorem okPX {P : Program} {w : World} {K : PySem.W.Frag} {mg : Str → Option Value} {base : Heap} {x qual : Str} {st : Stmt} {f : Addr} {fd : FuncData} {N ps : List Str} {k n : Nat} {W : Wt} (F : Fun K x qual st f fd) (S : FnScope N ps (defScope st)) (hn : ps.length = n)
    (hbody : ∀ (cdv : Value) (A : Around) (outer : List Env) (s : Shared) (H : Hp) (E : XK), A.guards = some [] → Room k (A.deeper (envOfC qual (defScope st) s.heap.objs.size f cdv)) →
      ∃ t, PSs (cxOf (L2.CX P w) P w K mg base N qual (defScope st) f cdv A outer s H E) (defBody st) t ∧ ∀ (F0 H0 : Hp) (as : List Sv) (k : Rs → Prop) (ke : Ke), as.length = n → W as k ke → EOk (cyP K F0 H0) E ke → Ds (cyP K F0 H0) (as ++ List.replicate (N.length - n) .any) [] t { nx := fun _ _ => k (.v (.dat .none)), rt := k }) : FnG P w K mg base (L2.CX P w) (k + 1) f fd ps (spP K n W) :=
  okX F S (fun vs H Q E h => by rw [h.ex.1, hn]) fun cdv A outer s H vs Q E hG hr h => by
    obtain ⟨t, ht, hd⟩ := hbody cdv A outer s H E hG hr
    exact ⟨t, ht, ds_body h fun F0 H0 as k ke e w hE => hd F0 H0 as k ke e w hE⟩
end Dl
set_option Elab.async false
set_option autoImplicit false
set_option linter.all false
set_option maxRecDepth 100000
set_option maxHeartbeats 4000000
namespace Dl
open PySem PySem.Spec PyProof.Rows L2 Ln
section
variable {C : Cy} {G : List Sv} {O : Ow} {t ta : TE} {k : PyData → Prop}
/-! ## builtins -/
/-- len(x) of data -/
def lenD (k : Nat → Prop) (d : PyData) : Prop := (∃ ds, (d = .tuple ds ∨ d = .list ds) ∧ k ds.length) ∨ ∃ x : Str, d = .str x ∧ x.length ≤ sizeLine ∧ k x.length
theorem lenD_t {k : Nat → Prop} {ds : List PyData} (q : k ds.length) : lenD k (.tuple ds) := .inl ⟨ds, .inl rfl, q⟩
theorem lenD_l {k : Nat → Prop} {ds : List PyData} (q : k ds.length) : lenD k (.list ds) := .inl ⟨ds, .inr rfl, q⟩
theorem dx_len (h : Dx C G O t (lenD fun n => k (.int (n : Nat)))) : Dx C G O (tCB (Ln.rLen C.K) (tCons t tNil)) k := fun X F H σ Q r c =>
  h X F H σ _ r fun F1 v H1 d s1 r1 p1 q => by
    rcases q with ⟨ds, e, q⟩ | ⟨x, e, hz, q⟩
    · rcases e with e | e
      · subst e
        cases p1 with
        | @tup a xs _ hs ha => exact ⟨_, xs.length, rfl, .inr ⟨xs, Same.tup r1.q.sub hs, rfl⟩, c F1 _ H1 _ s1 r1 (.int _) (by rw [dpAll_len ha]; exact q)⟩
      · subst e
        cases p1 with
        | @lst a xs _ hs ha => exact ⟨_, xs.length, rfl, .inl ⟨xs, r1.q.sub.seq hs, rfl⟩, c F1 _ H1 _ s1 r1 (.int _) (by rw [dpAll_len ha]; exact q)⟩
    · subst e
      cases p1
      exact ⟨_, x.length, rfl, ⟨hz, rfl⟩, c F1 _ H1 _ s1 r1 (.int _) q⟩
theorem dx_lenO {i n : Nat} {D : Addr} {ss : List Sv} (hG : G[i]? = some (.ptr D)) (hO : O[n]? = some (D, .lst ss)) (q : k (.int (ss.length : Nat))) : Dx C G O (tCB (Ln.rLen C.K) (tCons (tVar i) tNil)) k := fun X F H σ Q r c => by
  obtain ⟨v, a, b⟩ := r.get hG (fun z => by cases z)
  cases b
  obtain ⟨u, e, xs, rfl, p⟩ := r.obj (app_get (X := X) hO)
  exact ⟨_, a, _, xs.length, rfl, .inl ⟨xs, SqL.of e, rfl⟩, c F _ H _ (Gw.refl) r (.int _) (by rw [Paired.length p]; exact q)⟩
/-- isinstance -/
def isiD (T : String) (d : PyData) : Bool := match d with
  | .none => false
  | .bool _ => T == "int" || T == "bool"
  | .int _ => T == "int"
  | .str _ => T == "str"
  | .list _ => T == "list"
  | .tuple _ => T == "tuple"
  | .dict _ => false
def knownT (T : String) : Bool := T == "int" || T == "bool" || T == "str" || T == "tuple"
theorem tyx_lst {K : PySem.W.Frag} {H : Hp} {a : Addr} {xs : List V} (h : SqL K H a xs) (nf : ∀ o, H a ≠ some (.frz o (.lst xs))) : TyX K H (.ref a) (.type "list") := by
  rcases h with h | h
  · rcases h with h | ⟨o, h⟩
    · exact .base (.lst h)
    · exact absurd h (nf o)
  · obtain ⟨o, _, _, hk, hc, _⟩ := h
    exact .kList hk hc
/-- no list that is locked as another thing stands within -/
def flatK (d : PyData) : Bool := match d with
  | .list _ => false
  | .dict _ => false
  | _ => true
theorem isi_kit {K : PySem.W.Frag} {H : Hp} {v : V} {d : PyData} {T : String} (h : Dp K H v d) (hT : knownT T = true) (hf : flatK d = true) : ∃ t, TyX K H v t ∧ PySem.W.kitOne K t (.type T) = some (isiD T d) := by
  have pl : Plain K H v := by
    cases h with
    | non => exact .non
    | bl b => exact .bl b
    | int i => exact .int i
    | str x => exact .str x
    | lst a b => cases hf
    | tup a b => exact .tup a
  obtain ⟨t, ty, k1, k2, k3, k4⟩ := pl.kit
  refine ⟨t, ty, ?_⟩
  unfold knownT at hT
  rw [Bool.or_eq_true, Bool.or_eq_true, Bool.or_eq_true] at hT
  rcases hT with ((hT | hT) | hT) | hT
  · have e : T = "int" := eq_of_beq hT
    subst e
    rw [k1]
    cases h <;> first | rfl | cases hf
  · have e : T = "bool" := eq_of_beq hT
    subst e
    rw [k2]
    cases h <;> first | rfl | cases hf
  · have e : T = "str" := eq_of_beq hT
    subst e
    rw [k3]
    cases h <;> first | rfl | cases hf
  · have e : T = "tuple" := eq_of_beq hT
    subst e
    rw [k4]
    cases h <;> first | rfl | cases hf
theorem dx_isi {T : String} (h : Dx C G O t fun d => flatK d = true ∧ k (.bool (isiD T d))) (hT : knownT T = true := by with_unfolding_all rfl) : Dx C G O (tCB (rIsi C.K) (tCons t (tCons (tC (.ty T)) tNil))) k := fun X F H σ Q r c =>
  h X F H σ _ r fun F1 v H1 d s1 r1 p1 ⟨hf, q⟩ => by
    obtain ⟨t, ty, kk⟩ := isi_kit (Dp.mono r1.q.sub _ _ p1) hT hf
    exact ⟨v, _, t, _, _, rfl, .ty T, ty, kk, c F1 _ H1 _ s1 r1 (.bl _) q⟩
/-! ### of lists made for it -/
theorem paired_bools {K : PySem.W.Frag} {F : Hp} : ∀ {vs : List V} {bs : List Bool}, Paired (SvOk K F) vs (bs.map fun b => Sv.dat (.bool b)) → vs = bs.map V.bl
  | _, [], .nil => rfl
  | _, b :: bs, .cons a t => by cases a; rw [paired_bools t]; rfl
theorem paired_ints {K : PySem.W.Frag} {F : Hp} : ∀ {vs : List V} {bs : List Int}, Paired (SvOk K F) vs (bs.map fun b => Sv.dat (.int b)) → vs = bs.map V.int
  | _, [], .nil => rfl
  | _, b :: bs, .cons a t => by cases a; rw [paired_ints t]; rfl
theorem dx_all (h : Dl C G O t fun ss => ∃ bs : List Bool, ss = bs.map (fun b => Sv.dat (.bool b)) ∧ k (.bool (bs.all id))) : Dx C G O (tCB (rAll C.K) (tCons t tNil)) k := fun X F H σ Q r c =>
  h X F H σ _ r fun F1 D H1 ss s1 h0 r1 ⟨bs, e, q⟩ => by
    subst e
    obtain ⟨u, e, xs, rfl, p⟩ := r1.obj (n := 0) rfl
    rw [paired_bools p] at e
    exact ⟨D, bs, rfl, SqL.of e, c F1 _ H1 _ s1 (r1.less (List.sublist_cons_self _ _)) (.bl _) q⟩
theorem dx_any (h : Dl C G O t fun ss => ∃ bs : List Bool, ss = bs.map (fun b => Sv.dat (.bool b)) ∧ k (.bool (bs.any id))) : Dx C G O (tCB (rAny C.K) (tCons t tNil)) k := fun X F H σ Q r c =>
  h X F H σ _ r fun F1 D H1 ss s1 h0 r1 ⟨bs, e, q⟩ => by
    subst e
    obtain ⟨u, e, xs, rfl, p⟩ := r1.obj (n := 0) rfl
    rw [paired_bools p] at e
    exact ⟨D, bs, rfl, SqL.of e, c F1 _ H1 _ s1 (r1.less (List.sublist_cons_self _ _)) (.bl _) q⟩
theorem dx_sum (h : Dl C G O t fun ss => ∃ bs : List Int, ss = bs.map (fun b => Sv.dat (.int b)) ∧ k (.int bs.sum)) : Dx C G O (tCB (rSum C.K) (tCons t tNil)) k := fun X F H σ Q r c =>
  h X F H σ _ r fun F1 D H1 ss s1 h0 r1 ⟨bs, e, q⟩ => by
    subst e
    obtain ⟨u, e, xs, rfl, p⟩ := r1.obj (n := 0) rfl
    rw [paired_ints p] at e
    exact ⟨D, bs, rfl, SqL.of e, c F1 _ H1 _ s1 (r1.less (List.sublist_cons_self _ _)) (.int _) q⟩
theorem dx_lenL (h : Dl C G O t fun ss => k (.int (ss.length : Nat))) : Dx C G O (tCB (Ln.rLen C.K) (tCons t tNil)) k := fun X F H σ Q r c =>
  h X F H σ _ r fun F1 D H1 ss s1 h0 r1 q => by
    obtain ⟨u, e, xs, rfl, p⟩ := r1.obj (n := 0) rfl
    exact ⟨_, xs.length, rfl, .inl ⟨xs, SqL.of e, rfl⟩, c F1 _ H1 _ s1 (r1.less (List.sublist_cons_self _ _)) (.int _) (by rw [Paired.length p]; exact q)⟩
theorem dx_tupOf (h : Dl C G O t fun ss => ∃ ds : List PyData, ss = ds.map Sv.dat ∧ k (.tuple ds)) : Dx C G O (tCB (Ln.rTupOf C.K) (tCons t tNil)) k := fun X F H σ Q r c =>
  h X F H σ _ r fun F1 D H1 ss s1 h0 r1 ⟨ds, e, q⟩ => by
    subst e
    obtain ⟨u, e, xs, rfl, p⟩ := r1.obj (n := 0) rfl
    refine ⟨D, xs, rfl, .inl ⟨SqL.of e, fun l nl => ?_⟩⟩
    have r2 := r1.newF (o := .tup xs) nl
    have s2 := r1.gm (o := .tup xs) nl
    exact c _ _ _ _ (s1.trans (s2.sub fun x m => List.mem_cons_of_mem _ m)) (r2.less (List.sublist_cons_self _ _)) (.tup (SqT.of upd_same) (DpAll.mono s2.sf _ _ (Paired.det p rfl))) q
/-- tuple(xs), xs one's own -/
theorem dx_tupOfO {i n : Nat} {D : Addr} {ds : List PyData} (hG : G[i]? = some (.ptr D)) (hO : O[n]? = some (D, .lst (ds.map Sv.dat))) (q : k (.tuple ds)) : Dx C G O (tCB (Ln.rTupOf C.K) (tCons (tVar i) tNil)) k := fun X F H σ Q r c => by
  obtain ⟨v, a, b⟩ := r.get hG (fun z => by cases z)
  cases b
  obtain ⟨u, e, xs, rfl, p⟩ := r.obj (app_get (X := X) hO)
  refine ⟨_, a, D, xs, rfl, .inl ⟨SqL.of e, fun l nl => ?_⟩⟩
  have r2 := r.newF (o := .tup xs) nl
  have s2 := r.gm (o := .tup xs) nl
  exact c _ _ _ _ s2 r2 (.tup (SqT.of upd_same) (DpAll.mono s2.sf _ _ (Paired.det p rfl))) q
theorem dx_tupOfT (h : Dx C G O t fun d => (∃ ds, d = .tuple ds ∧ k (.tuple ds)) ∨ ∃ ds, d = .list ds ∧ k (.tuple ds)) : Dx C G O (tCB (Ln.rTupOf C.K) (tCons t tNil)) k := fun X F H σ Q r c =>
  h X F H σ _ r fun F1 v H1 d s1 r1 p1 q => by
    rcases q with ⟨ds, e, q⟩ | ⟨ds, e, q⟩
    · subst e
      cases p1 with
      | @tup a xs _ hs ha => exact ⟨a, xs, rfl, .inr ⟨Same.tup r1.q.sub hs, c F1 _ H1 _ s1 r1 (.tup hs ha) q⟩⟩
    · subst e
      cases p1 with
      | @lst a xs _ hs ha =>
        refine ⟨a, xs, rfl, .inl ⟨r1.q.sub.seq hs, fun l nl => ?_⟩⟩
        have r2 := r1.newF (o := .tup xs) nl
        have s2 := r1.gm (o := .tup xs) nl
        exact c _ _ _ _ (s1.trans s2) r2 (.tup (SqT.of upd_same) (DpAll.mono s2.sf _ _ ha)) q
theorem dl_listOf {k : List Sv → Prop} (h : Dx C G O t (isQ fun ds => k (ds.map Sv.dat))) : Dl C G O (tCB (Ln.rListOf C.K) (tCons t tNil)) k := fun X F H σ Q r c =>
  h X F H σ _ r fun F1 v H1 d s1 r1 p1 ⟨ds, e, q⟩ => by
    have fin : ∀ (a : Addr) (xs : List V), DpAll C.K F1 xs ds → ∀ l, H1 l = none → Q (.ref l) (upd H1 l (.lst xs)) := fun a xs ha l nl =>
      c F1 l _ (ds.map Sv.dat) (s1.trans (r1.gn nl)) (r1.q.h0 nl) (r1.newO (ob := .lst (ds.map Sv.dat)) nl ⟨xs, rfl, Paired.ofAll ha⟩) q
    rcases e with e | e
    · subst e
      cases p1 with
      | @tup a xs _ hs ha => exact ⟨a, xs, rfl, .inr (Same.tup r1.q.sub hs), fin a xs ha⟩
    · subst e
      cases p1 with
      | @lst a xs _ hs ha => exact ⟨a, xs, rfl, .inl (r1.q.sub.seq hs), fin a xs ha⟩
theorem dl_listOfO {i n : Nat} {D : Addr} {ss : List Sv} {k : List Sv → Prop} (hG : G[i]? = some (.ptr D)) (hO : O[n]? = some (D, .lst ss)) (q : k ss) : Dl C G O (tCB (Ln.rListOf C.K) (tCons (tVar i) tNil)) k := fun X F H σ Q r c => by
  obtain ⟨v, a, b⟩ := r.get hG (fun z => by cases z)
  cases b
  obtain ⟨u, e, xs, rfl, p⟩ := r.obj (app_get (X := X) hO)
  exact ⟨_, a, D, xs, rfl, .inl (SqL.of e), fun l nl => c F l _ ss (r.gn nl) (r.q.h0 nl) (r.newO (ob := .lst ss) nl ⟨xs, rfl, p⟩) q⟩
/-! ### numbers -/
theorem dx_abs (h : Dx C G O t (isI fun i => k (.int (if i < 0 then -i else i)))) : Dx C G O (tCB (fun xs H Q => ∃ i, xs = [V.int i] ∧ Q (V.int (if i < 0 then -i else i)) H) (tCons t tNil)) k := fun X F H σ Q r c =>
  h X F H σ _ r fun F1 v H1 d s1 r1 p1 ⟨i, e, q⟩ => by
    subst e; cases p1
    exact ⟨i, rfl, c F1 _ H1 _ s1 r1 (.int _) q⟩
theorem dx_min2 (h : Dx C G O t (isI fun i => Dx C G O ta (isI fun j => k (.int (if j < i then j else i))))) : Dx C G O (tCB (fun xs H Q => ∃ i j, xs = [V.int i, V.int j] ∧ Q (V.int (if j < i then j else i)) H) (tCons t (tCons ta tNil))) k := fun X F H σ Q r c =>
  h X F H σ _ r fun F1 v H1 d s1 r1 p1 ⟨i, e, h2⟩ => by
    subst e; cases p1
    exact h2 X F1 H1 σ _ r1 fun F2 w H2 d2 s2 r2 p2 ⟨j, e, q⟩ => by
      subst e; cases p2
      exact ⟨i, j, rfl, c F2 _ H2 _ (s1.trans s2) r2 (.int _) q⟩
theorem dx_max2 (h : Dx C G O t (isI fun i => Dx C G O ta (isI fun j => k (.int (if i < j then j else i))))) : Dx C G O (tCB (fun xs H Q => ∃ i j, xs = [V.int i, V.int j] ∧ Q (V.int (if i < j then j else i)) H) (tCons t (tCons ta tNil))) k := fun X F H σ Q r c =>
  h X F H σ _ r fun F1 v H1 d s1 r1 p1 ⟨i, e, h2⟩ => by
    subst e; cases p1
    exact h2 X F1 H1 σ _ r1 fun F2 w H2 d2 s2 r2 p2 ⟨j, e, q⟩ => by
      subst e; cases p2
      exact ⟨i, j, rfl, c F2 _ H2 _ (s1.trans s2) r2 (.int _) q⟩
theorem dx_str1 (h : Dx C G O t (isI fun i => i.natAbs.log2 < 1920 ∧ k (.str (Str.ofString (toString i))))) : Dx C G O (tCB (fun xs H Q => ∃ i, xs = [V.int i] ∧ i.natAbs.log2 < 1920 ∧ Q (V.str (Str.ofString (toString i))) H) (tCons t tNil)) k := fun X F H σ Q r c =>
  h X F H σ _ r fun F1 v H1 d s1 r1 p1 ⟨i, e, b, q⟩ => by
    subst e; cases p1
    exact ⟨i, rfl, b, c F1 _ H1 _ s1 r1 (.str _) q⟩
theorem dx_addS (h : Dx C G O t (isS fun i => Dx C G O ta (isS fun j => i.length + j.length ≤ sizeLine ∧ k (.str (i ++ j))))) : Dx C G O (tOp (fun x y H Q => ∃ i j, x = V.str i ∧ y = V.str j ∧ i.length + j.length ≤ sizeLine ∧ Q (V.str (i ++ j)) H) t ta) k := fun X F H σ Q r c =>
  h X F H σ _ r fun F1 v H1 d s1 r1 p1 ⟨i, e, h2⟩ => by
    subst e; cases p1
    exact h2 X F1 H1 σ _ r1 fun F2 w H2 d2 s2 r2 p2 ⟨j, e, b, q⟩ => by
      subst e; cases p2
      exact ⟨i, j, rfl, rfl, b, c F2 _ H2 _ (s1.trans s2) r2 (.str _) q⟩
theorem dx_repr (h : Dx C G O t fun d => Ln.Shw d ∧ k (.str d.shown)) : Dx C G O (tCB (Ln.rReprD C.K) (tCons t tNil)) k := fun X F H σ Q r c =>
  h X F H σ _ r fun F1 v H1 d s1 r1 p1 ⟨hs, q⟩ => ⟨v, d, rfl, Dp.mono r1.q.sub _ _ p1, hs, c F1 _ H1 _ s1 r1 (.str _) q⟩
/-! ### in, of plain things -/
def flatD : PyData → Bool
  | .none => true
  | .bool _ => true
  | .int _ => true
  | .str _ => true
  | _ => false
def eqvS : PyData → PyData → Bool
  | .none, .none => true
  | .bool a, .bool b => a == b
  | .bool a, .int b => (if a = true then 1 else 0) == b
  | .int a, .bool b => a == if b = true then 1 else 0
  | .int a, .int b => a == b
  | .str a, .str b => a == b
  | _, _ => false
def inD (d : PyData) (ds : List PyData) : Bool := ds.any fun e => eqvS e d
theorem dp_flat {K : PySem.W.Frag} {F : Hp} {v : V} {d : PyData} (h : Dp K F v d) (f : flatD d = true) : flatV v = true := by
  cases h <;> first | rfl | cases f
theorem dp_eqv {K : PySem.W.Frag} {F : Hp} {v w : V} {d e : PyData} (h : Dp K F v d) (f : flatD d = true) (h' : Dp K F w e) (f' : flatD e = true) : eqV v w = eqvS d e := by
  cases h <;> cases h' <;> first | rfl | cases f | cases f'
theorem dpAll_in {K : PySem.W.Frag} {F : Hp} {v : V} {d : PyData} (h : Dp K F v d) (f : flatD d = true) : ∀ {vs : List V} {ds : List PyData}, DpAll K F vs ds → ds.all flatD = true → vs.all flatV = true ∧ inV v vs = inD d ds
  | _, _, .nil, _ => ⟨rfl, rfl⟩
  | _, _, .cons (v := w) (d := e) a b, q => by
    rw [List.all_cons, Bool.and_eq_true] at q
    obtain ⟨i1, i2⟩ := dpAll_in h f b q.2
    refine ⟨by rw [List.all_cons, dp_flat a q.1, i1]; rfl, ?_⟩
    have i2 : List.any _ (fun y => eqV y v) = List.any _ (fun e => eqvS e d) := i2
    show List.any _ (fun y => eqV y v) = List.any _ (fun e => eqvS e d)
    rw [List.any_cons, List.any_cons, i2, dp_eqv a q.1 h f]
theorem dx_in {neg : Bool} (h : Dx C G O t fun d => Dx C G O ta (isQ fun ds => flatD d = true ∧ ds.all flatD = true ∧ k (.bool (if neg then !inD d ds else inD d ds)))) : Dx C G O (tOp (rIn C.K neg) t ta) k := fun X F H σ Q r c =>
  h X F H σ _ r fun F1 v H1 d s1 r1 p1 h2 => h2 X F1 H1 σ _ r1 fun F2 w H2 d2 s2 r2 p2 ⟨ds, e, f, fs, q⟩ => by
    rcases e with e | e
    · subst e
      cases p2 with
      | @tup a xs _ hs ha =>
        obtain ⟨e1, e2⟩ := dpAll_in (Dp.mono s2.sf _ _ p1) f ha fs
        exact ⟨a, xs, rfl, .inr (Same.tup r2.q.sub hs), dp_flat (Dp.mono s2.sf _ _ p1) f, e1, c F2 _ H2 _ (s1.trans s2) r2 (by rw [e2]; exact .bl _) q⟩
    · subst e
      cases p2 with
      | @lst a xs _ hs ha =>
        obtain ⟨e1, e2⟩ := dpAll_in (Dp.mono s2.sf _ _ p1) f ha fs
        exact ⟨a, xs, rfl, .inl (r2.q.sub.seq hs), dp_flat (Dp.mono s2.sf _ _ p1) f, e1, c F2 _ H2 _ (s1.trans s2) r2 (by rw [e2]; exact .bl _) q⟩
/-! ## a list of one's own, lent -/
mutual
def noLd : PyData → Bool
  | .list _ => false
  | .dict _ => false
  | .tuple ds => noLds ds
  | _ => true
def noLds : List PyData → Bool
  | [] => true
  | d :: ds => noLd d && noLds ds
end
mutual
theorem Dp.tups {K : PySem.W.Frag} {F F' : Hp} (sm : ∀ b xs, Rd F b (.tup xs) → Rd F' b (.tup xs)) : ∀ (d : PyData) (v : V), noLd d = true → Dp K F v d → Dp K F' v d
  | .none, _, _, h => by cases h; exact .non
  | .bool b, _, _, h => by cases h; exact .bl b
  | .int b, _, _, h => by cases h; exact .int b
  | .str b, _, _, h => by cases h; exact .str b
  | .list _, _, q, _ => by simp [noLd] at q
  | .dict _, _, q, _ => by simp [noLd] at q
  | .tuple ds, _, q, h => by
    cases h with
    | tup a b => exact .tup (sqT_rd sm a) (DpAll.tups sm ds _ (by simpa only [noLd] using q) b)
theorem DpAll.tups {K : PySem.W.Frag} {F F' : Hp} (sm : ∀ b xs, Rd F b (.tup xs) → Rd F' b (.tup xs)) : ∀ (ds : List PyData) (vs : List V), noLds ds = true → DpAll K F vs ds → DpAll K F' vs ds
  | [], _, _, h => by cases h; exact .nil
  | d :: ds, _, q, h => by
    cases h with
    | cons a b =>
      have q' : (noLd d && noLds ds) = true := by simpa only [noLds] using q
      obtain ⟨q1, q2⟩ := Bool.and_eq_true_iff.mp q'
      exact .cons (Dp.tups sm d _ q1 a) (DpAll.tups sm ds _ q2 b)
end
theorem mem_erase {α β : Type} : ∀ {l : List (α × β)} {n : Nat} {a : α} {b : β}, l[n]? = some (a, b) → ∀ {x : α} {y : β}, (x, y) ∈ l → x ≠ a → (x, y) ∈ l.eraseIdx n
  | [], _, _, _, e, _, _, _, _ => by simp at e
  | (u, w) :: l, 0, a, b, e, x, y, m, ne => by
    cases e
    rcases List.mem_cons.mp m with q | q
    · cases q; exact absurd rfl ne
    · exact q
  | (u, w) :: l, n + 1, a, b, e, x, y, m, ne => by
    have e' : l[n]? = some (a, b) := by simpa using e
    show (x, y) ∈ (u, w) :: l.eraseIdx n
    rcases List.mem_cons.mp m with q | q
    · rw [q]; exact List.mem_cons_self
    · exact List.mem_cons_of_mem _ (mem_erase e' q ne)
/-- lent for an expression -/
theorem Rp.lend {F H : Hp} {σ : L2.St} {X : Ow} {i n : Nat} {D : Addr} {ds : List PyData} (hG : G[i]? = some (.ptr D)) (hO : O[n]? = some (D, .lst (ds.map Sv.dat))) (h0 : C.H0 D = none) (r : Rp C F H σ G (O ++ X)) :
    ∃ F2, Rp C F2 H σ (G.set i (.dat (.list ds))) (O.eraseIdx n ++ X) ∧ ∀ F' H', Gw (O.eraseIdx n ++ X) F2 H F' H' → Rp C F' H' σ (G.set i (.dat (.list ds))) (O.eraseIdx n ++ X) →
      ∃ F3, Gw (O ++ X) F H F3 H' ∧ Rp C F3 H' σ G (O ++ X) ∧ ∀ b xs, Rd F' b (.tup xs) → Rd F3 b (.tup xs) := by
  obtain ⟨F2, u, s2, e, ⟨xs, rfl, p⟩, r2⟩ := r.frz h0 (app_get (X := X) hO)
  have eO : (O ++ X).eraseIdx n = O.eraseIdx n ++ X := List.eraseIdx_append_of_lt_length (List.getElem?_eq_some_iff.mp hO).1 _
  have hOX := app_get (X := X) hO
  rw [eO] at r2
  obtain ⟨v, a, b⟩ := r2.get hG (fun z => by cases z)
  cases b
  have r3 := r2.set (i := i) (v := .ref D) (s := .dat (.list ds)) (.lst (SqL.of e) (Paired.det p rfl))
  have eσ : σ.set i (some (V.ref D)) = σ := by
    refine List.ext_getElem? fun j => ?_
    by_cases z : i = j
    · subst z
      rw [List.getElem?_set_self (List.getElem?_eq_some_iff.mp a).1, a]
    · rw [List.getElem?_set_ne z]
  rw [eσ] at r3
  refine ⟨F2, r3, fun F' H' g r' => ?_⟩
  obtain ⟨_, nF, _, _⟩ := r.ow D _ (List.mem_of_getElem? hOX)
  have fD : F' D = some (.lst xs) := g.sf D _ e
  have hD' : H' D = some (.lst xs) := r'.q.sub D _ fD
  have hD : H D = some (.lst xs) := r3.q.sub D _ e
  have mem : ∀ {D' : Addr} {ob : Ob}, (D', ob) ∈ O ++ X → D' ≠ D → (D', ob) ∈ O.eraseIdx n ++ X := fun {D' ob} m ne => by
    rw [← eO]
    exact mem_erase hOX m ne
  have sF : Same F (fun b => if b = D then none else F' b) := fun b o e' => by
    have z : b ≠ D := fun z => by rw [z, nF] at e'; cases e'
    show (if b = D then none else F' b) = some o
    rw [if_neg z]
    exact g.sf b o (s2 b o e')
  have tp : ∀ b xs, Rd F' b (.tup xs) → Rd (fun b => if b = D then none else F' b) b (.tup xs) := fun b ys k => by
    have z : b ≠ D := by
      rintro rfl
      rcases k with k | ⟨o, k⟩
      · rw [fD] at k; cases k
      · rw [fD] at k; cases k
    rcases k with k | ⟨o, k⟩
    · exact .inl (by show (if b = D then none else F' b) = _; rw [if_neg z]; exact k)
    · exact .inr ⟨o, by show (if b = D then none else F' b) = _; rw [if_neg z]; exact k⟩
  have gw : Gw (O ++ X) F H (fun b => if b = D then none else F' b) H' := ⟨sF, fun D' ob m => by
    by_cases z : D' = D
    · rw [z, hD', hD]
    · exact g.ow D' ob (mem m z)⟩
  refine ⟨fun b => if b = D then none else F' b, gw, ⟨⟨?_, r.q.old.trans sF, r'.q.but, r'.q.thr, ?_, fun b xs k => tp b xs (r'.q.tup b xs k), r'.q.dw, ?_, ?_⟩, r.len, ?_, ?_, r.nd⟩, tp⟩
  · intro b o e'
    have e' : (if b = D then none else F' b) = some o := e'
    by_cases z : b = D
    · rw [if_pos z] at e'; cases e'
    · rw [if_neg z] at e'; exact r'.q.sub b o e'
  · intro b e1 e2
    show (if b = D then none else F' b) = none
    by_cases z : b = D
    · rw [if_pos z]
    · rw [if_neg z]; exact r'.q.non b e1 e2
  · intro b hb
    show (if b = D then none else F' b) = none
    by_cases z : b = D
    · rw [if_pos z]
    · rw [if_neg z]; exact r'.q.na b hb
  · intro b o w kd e'
    have e' : (if b = D then none else F' b) = some (.frz o w) := e'
    by_cases z : b = D
    · rw [if_pos z] at e'; cases e'
    · rw [if_neg z] at e'; exact r'.q.lk b o w kd e'
  · intro j s ej
    obtain ⟨ov, a1, b1⟩ := r.sl j s ej
    exact ⟨ov, a1, b1.mono sF⟩
  · intro D' ob m
    obtain ⟨a1, b1, c1, u1, e1, k1⟩ := r.ow D' ob m
    refine ⟨a1, ?_, c1, u1, by rw [gw.ow D' ob m]; exact e1, k1.mono sF⟩
    show (if D' = D then none else F' D') = none
    by_cases z : D' = D
    · rw [if_pos z]
    · rw [if_neg z]
      exact (r'.ow D' ob (mem m z)).2.1
theorem dx_bor {i n : Nat} {D : Addr} {ds : List PyData} (hG : G[i]? = some (.ptr D)) (hO : O[n]? = some (D, .lst (ds.map Sv.dat))) (h0 : C.H0 D = none) (h : Dx C (G.set i (.dat (.list ds))) (O.eraseIdx n) t fun d => noLd d = true ∧ k d) : Dx C G O t k := fun X F H σ Q r c => by
  obtain ⟨F2, r2, back⟩ := r.lend hG hO h0
  exact h X F2 H σ _ r2 fun F' v H' d g r' p ⟨nl, q⟩ => by
    obtain ⟨F3, g3, r3, tp⟩ := back F' H' g r'
    exact c F3 v H' d g3 r3 (Dp.tups tp d v nl p) q
theorem dt_bor {u : TT} {k : Bool → Prop} {i n : Nat} {D : Addr} {ds : List PyData} (hG : G[i]? = some (.ptr D)) (hO : O[n]? = some (D, .lst (ds.map Sv.dat))) (h0 : C.H0 D = none) (h : Dt C (G.set i (.dat (.list ds))) (O.eraseIdx n) u k) : Dt C G O u k := fun X F H σ Q r c => by
  obtain ⟨F2, r2, back⟩ := r.lend hG hO h0
  exact h X F2 H σ _ r2 fun F' b H' g r' q => by
    obtain ⟨F3, g3, r3, tp⟩ := back F' H' g r'
    exact c F3 b H' g3 r3 q
end
end Dl
set_option Elab.async false
set_option autoImplicit false
set_option linter.all false
set_option maxRecDepth 100000
set_option maxHeartbeats 4000000
namespace Dl
open PySem PySem.Spec PyProof.Rows L2 Ln
/-- one step: p is shown by q -/
class Stp (p : Prop) (q : outParam Prop) : Prop where
  h : q → p
structure isLs (k : List PyData → Prop) (d : PyData) : Prop where
  ex : ∃ ds, d = .list ds ∧ k ds
class Lk (G : List Sv) (i : Nat) (s : outParam Sv) : Prop where
  h : G[i]? = some s
instance lk0 {s : Sv} {G : List Sv} : Lk (s :: G) 0 s := ⟨rfl⟩
instance lkS {x s : Sv} {G : List Sv} {i : Nat} [e : Lk G i s] : Lk (x :: G) (i + 1) s := ⟨by rw [List.getElem?_cons_succ]; exact e.h⟩
class St (G : List Sv) (i : Nat) (s : Sv) (G' : outParam (List Sv)) : Prop where
  h : G.set i s = G'
instance st0 {x s : Sv} {G : List Sv} : St (x :: G) 0 s (s :: G) := ⟨rfl⟩
instance stS {x s : Sv} {G G' : List Sv} {i : Nat} [e : St G i s G'] : St (x :: G) (i + 1) s (x :: G') := ⟨by rw [List.set_cons_succ, e.h]⟩
/-- a list of one's own by its address -/
class Ok (O : Ow) (D : Addr) (n : outParam Nat) (ob : outParam Ob) : Prop where
  h : O[n]? = some (D, ob)
instance ok0 {O : Ow} {D : Addr} {ob : Ob} : Ok ((D, ob) :: O) D 0 ob := ⟨rfl⟩
instance (priority := low) okS {O : Ow} {D : Addr} {ob : Ob} {x : Addr × Ob} {n : Nat} [e : Ok O D n ob] : Ok (x :: O) D (n + 1) ob := ⟨by rw [List.getElem?_cons_succ]; exact e.h⟩
class So (O : Ow) (n : Nat) (x : Addr × Ob) (O' : outParam Ow) : Prop where
  h : O.set n x = O'
instance so0 {x y : Addr × Ob} {O : Ow} : So (x :: O) 0 y (y :: O) := ⟨rfl⟩
instance soS {x y : Addr × Ob} {O O' : Ow} {i : Nat} [e : So O i y O'] : So (x :: O) (i + 1) y (x :: O') := ⟨by rw [List.set_cons_succ, e.h]⟩
/-- the same fragment -/
class Lkk (K K' : PySem.W.Frag) : Prop where
  h : K = K'
instance lkk {K : PySem.W.Frag} : Lkk K K := ⟨rfl⟩
instance lkk3 {CX : CXT} {P : Program} {w : World} {K : PySem.W.Frag} {mg : Str → Option Value} {base : Heap} {N : List Str} {qual : Str} {scope : Scope} {f : Addr} {cd : Value} {A : Around} {outer : List Env} {s : Shared} {H : Hp} {E : XK} : Lkk (cxOf CX P w K mg base N qual scope f cd A outer s H E).K K := ⟨rfl⟩
instance lkk4 {CX : CXT} {P : Program} {w : World} {K : PySem.W.Frag} {mg : Str → Option Value} {base : Heap} {N : List Str} {qual : Str} {scope : Scope} {f : Addr} {cd : Value} {A : Around} {outer : List Env} {s : Shared} {H : Hp} {E : XK} : Lkk (cxOf CX P w K mg base N qual scope f cd A outer s H E).nox.K K := ⟨rfl⟩
section
variable {C : Cy} {G : List Sv} {O : Ow} {t ta tb tc : TE} {k : PyData → Prop} {q : Prop}
instance s_var {i : Nat} {d : PyData} [e : Lk G i (.dat d)] : Stp (Dx C G O (tVar i) k) (k d) := ⟨dx_var e.h⟩
instance s_int {n : Int} : Stp (Dx C G O (tC (.int n)) k) (k (.int n)) := ⟨dx_int⟩
instance s_str {n : Str} : Stp (Dx C G O (tC (.str n)) k) (k (.str n)) := ⟨dx_str⟩
instance s_bl {n : Bool} : Stp (Dx C G O (tC (.bl n)) k) (k (.bool n)) := ⟨dx_bl⟩
instance s_non : Stp (Dx C G O (tC .non) k) (k .none) := ⟨dx_non⟩
instance s_add : Stp (Dx C G O (tOp (rI0 fun i j => V.int (i + j)) ta tb) k) (Dx C G O ta (isI fun i => Dx C G O tb (isI fun j => k (.int (i + j))))) := ⟨dx_add⟩
instance s_sub : Stp (Dx C G O (tOp (rI0 fun i j => V.int (i - j)) ta tb) k) (Dx C G O ta (isI fun i => Dx C G O tb (isI fun j => k (.int (i - j))))) := ⟨dx_sub⟩
instance s_mul : Stp (Dx C G O (tOp (rI CMul fun i j => V.int (i * j)) ta tb) k) (Dx C G O ta (isI fun i => Dx C G O tb (isI fun j => CMul i j ∧ k (.int (i * j))))) := ⟨dx_mul⟩
instance s_fdiv : Stp (Dx C G O (tOp (rI CDiv fun i j => V.int (i / j)) ta tb) k) (Dx C G O ta (isI fun i => Dx C G O tb (isI fun j => CDiv i j ∧ k (.int (i / j))))) := ⟨dx_fdiv⟩
instance s_mod : Stp (Dx C G O (tOp (rI (fun _ j => 0 < j) fun i j => V.int (i % j)) ta tb) k) (Dx C G O ta (isI fun i => Dx C G O tb (isI fun j => 0 < j ∧ k (.int (i % j))))) := ⟨dx_mod⟩
instance s_lt : Stp (Dx C G O (tOp (rI0 fun i j => V.bl (decide (i < j))) ta tb) k) (Dx C G O ta (isI fun i => Dx C G O tb (isI fun j => k (.bool (decide (i < j)))))) := ⟨dx_lt⟩
instance s_le : Stp (Dx C G O (tOp (rI0 fun i j => V.bl (decide (i ≤ j))) ta tb) k) (Dx C G O ta (isI fun i => Dx C G O tb (isI fun j => k (.bool (decide (i ≤ j)))))) := ⟨dx_le⟩
instance s_gt : Stp (Dx C G O (tOp (rI0 fun i j => V.bl (decide (j < i))) ta tb) k) (Dx C G O ta (isI fun i => Dx C G O tb (isI fun j => k (.bool (decide (j < i)))))) := ⟨dx_gt⟩
instance s_ge : Stp (Dx C G O (tOp (rI0 fun i j => V.bl (decide (j ≤ i))) ta tb) k) (Dx C G O ta (isI fun i => Dx C G O tb (isI fun j => k (.bool (decide (j ≤ i)))))) := ⟨dx_ge⟩
instance s_neg : Stp (Dx C G O (tUn (rU fun i => V.int (-i)) ta) k) (Dx C G O ta (isI fun i => k (.int (-i)))) := ⟨dx_neg⟩
instance s_eq : Stp (Dx C G O (tOp rEq ta tb) k) (Dx C G O ta fun a => Dx C G O tb fun b => sEq (fun c => k (.bool c)) a b) := ⟨dx_eq⟩
instance s_ne : Stp (Dx C G O (tOp rNe ta tb) k) (Dx C G O ta fun a => Dx C G O tb fun b => sEq (fun c => k (.bool (!c))) a b) := ⟨dx_ne⟩
instance s_isN : Stp (Dx C G O (tOp (fun x y H Q => y = V.non ∧ Q (V.bl (decide (x = V.non))) H) ta (tC .non)) k) (Dx C G O ta fun a => k (.bool (nonB a))) := ⟨dx_isN⟩
instance s_notN : Stp (Dx C G O (tOp (fun x y H Q => y = V.non ∧ Q (V.bl (!decide (x = V.non))) H) ta (tC .non)) k) (Dx C G O ta fun a => k (.bool (!nonB a))) := ⟨dx_notN⟩
instance s_eqD {K' : PySem.W.Frag} [e : Lkk K' C.K] : Stp (Dx C G O (tOp (rEqD K') ta tb) k) (Dx C G O ta fun a => Dx C G O tb fun b => SeqAt.shaped a = true ∧ SeqAt.shaped b = true ∧ k (.bool (PyData.eqv a b))) := ⟨by rw [e.h]; exact dx_eqD⟩
instance s_neD {K' : PySem.W.Frag} [e : Lkk K' C.K] : Stp (Dx C G O (tOp (rNeD K') ta tb) k) (Dx C G O ta fun a => Dx C G O tb fun b => SeqAt.shaped a = true ∧ SeqAt.shaped b = true ∧ k (.bool (!PyData.eqv a b))) := ⟨by rw [e.h]; exact dx_neD⟩
instance s_if {u : TT} : Stp (Dx C G O (tIf u ta tb) k) (Dt C G O u fun b => if b = true then Dx C G O ta k else Dx C G O tb k) := ⟨dx_if⟩
instance s_andV : Stp (Dx C G O (tAndV ta tb) k) (Dx C G O ta (isB fun b => if b = true then Dx C G O tb k else k (.bool false))) := ⟨dx_andV⟩
instance s_orV : Stp (Dx C G O (tOrV ta tb) k) (Dx C G O ta (isB fun b => if b = true then k (.bool true) else Dx C G O tb k)) := ⟨dx_orV⟩
instance s_notV : Stp (Dx C G O (tNotV ta) k) (Dx C G O ta (isB fun b => k (.bool (!b)))) := ⟨dx_notV⟩
instance s_chain {p p' : Int → Int → Bool} : Stp (Dx C G O (tChain (rI0 fun i j => V.bl (p i j)) (rI0 fun i j => V.bl (p' i j)) ta tb tc) k) (Dx C G O ta (isI fun i => Dx C G O tb (isI fun j => if p i j = true then Dx C G O tc (isI fun l => k (.bool (p' j l))) else k (.bool false)))) := ⟨dx_chain⟩
instance s_tup {u : TA} : Stp (Dx C G O (tTup u) k) (Dd C G O u fun ds => szk ds.length (k (.tuple ds))) := ⟨dx_tup⟩
instance s_ixT {K' : PySem.W.Frag} [e : Lkk K' C.K] : Stp (Dx C G O (tOp (rIxT K') ta tb) k) (Dx C G O ta (isT fun ds => Dx C G O tb (isI fun i => ∃ d, atI ds i = some d ∧ k d))) := ⟨by rw [e.h]; exact dx_ixT⟩
instance s_ixL {K' : PySem.W.Frag} [e : Lkk K' C.K] : Stp (Dx C G O (tOp (rIxL K') ta tb) k) (Dx C G O ta (isLs fun ds => Dx C G O tb (isI fun i => ∃ d, atI ds i = some d ∧ k d))) := ⟨by rw [e.h]; exact fun h => dx_ixL (h.mono fun _ x => x.ex)⟩
instance s_ix {K' : PySem.W.Frag} [e : Lkk K' C.K] : Stp (Dx C G O (tOp (rIx K') ta tb) k) (Dx C G O ta (isQ fun ds => Dx C G O tb (isI fun i => ∃ d, atI ds i = some d ∧ k d))) := ⟨by rw [e.h]; exact dx_ix⟩
instance (priority := high) s_ixO {K' : PySem.W.Frag} {i n : Nat} {D : Addr} {ss : List Sv} [e : Lkk K' C.K] [e1 : Lk G i (.ptr D)] [e2 : Ok O D n (.lst ss)] : Stp (Dx C G O (tOp (rIxL K') (tVar i) tb) k) (Dx C G O tb (isI fun j => ∃ d, atI ss j = some (.dat d) ∧ k d)) := ⟨by
  rw [e.h]; exact fun h => dx_dv (dv_ixO e1.h e2.h (h.mono fun _ ⟨i, e, d, h1, h2⟩ => ⟨i, e, .dat d, h1, d, rfl, h2⟩))⟩
instance (priority := high) s_ixO' {K' : PySem.W.Frag} {i n : Nat} {D : Addr} {ss : List Sv} [e : Lkk K' C.K] [e1 : Lk G i (.ptr D)] [e2 : Ok O D n (.lst ss)] : Stp (Dx C G O (tOp (rIx K') (tVar i) tb) k) (Dx C G O tb (isI fun j => ∃ d, atI ss j = some (.dat d) ∧ k d)) := ⟨by
  rw [e.h]; exact fun h => dx_dv (dv_ixO' e1.h e2.h (h.mono fun _ ⟨i, e, d, h1, h2⟩ => ⟨i, e, .dat d, h1, d, rfl, h2⟩))⟩
instance s_slT {K' : PySem.W.Frag} {tl th : TO} [e : Lkk K' C.K] : Stp (Dx C G O (tSl (Ln.rSlS K') t tl th) k) (Dx C G O t (isT fun ds => Do C G O tl fun lo => Do C G O th fun hi => k (.tuple (cutD ds lo hi)))) := ⟨by rw [e.h]; exact dx_slT⟩
instance s_catT {K' : PySem.W.Frag} [e : Lkk K' C.K] : Stp (Dx C G O (tOp (Ln.rCatS K') ta tb) k) (Dx C G O ta (isT fun ds => Dx C G O tb (isT fun es => szk (ds.length + es.length) (k (.tuple (ds ++ es)))))) := ⟨by rw [e.h]; exact dx_catT⟩
instance s_len {K' : PySem.W.Frag} [e : Lkk K' C.K] : Stp (Dx C G O (tCB (Ln.rLen K') (tCons t tNil)) k) (Dx C G O t (lenD fun n => k (.int (n : Nat)))) := ⟨by rw [e.h]; exact dx_len⟩
instance (priority := high) s_lenO {K' : PySem.W.Frag} {i n : Nat} {D : Addr} {ss : List Sv} [e : Lkk K' C.K] [e1 : Lk G i (.ptr D)] [e2 : Ok O D n (.lst ss)] : Stp (Dx C G O (tCB (Ln.rLen K') (tCons (tVar i) tNil)) k) (k (.int (ss.length : Nat))) := ⟨by rw [e.h]; exact dx_lenO e1.h e2.h⟩
class KnT (T : String) : Prop where
  h : knownT T = true
instance : KnT "int" := ⟨rfl⟩
instance : KnT "bool" := ⟨rfl⟩
instance : KnT "str" := ⟨rfl⟩
instance : KnT "tuple" := ⟨rfl⟩
def isiK (k : Bool → Prop) (T : String) (d : PyData) : Prop := flatK d = true ∧ k (isiD T d)
instance s_isi {K' : PySem.W.Frag} {T : String} [e : Lkk K' C.K] [kt : KnT T] : Stp (Dx C G O (tCB (rIsi K') (tCons t (tCons (tC (.ty T)) tNil))) k) (Dx C G O t (isiK (fun b => k (.bool b)) T)) := ⟨by rw [e.h]; exact fun h => dx_isi h kt.h⟩
instance s_all {K' : PySem.W.Frag} [e : Lkk K' C.K] : Stp (Dx C G O (tCB (rAll K') (tCons t tNil)) k) (Dl C G O t fun ss => ∃ bs : List Bool, ss = bs.map (fun b => Sv.dat (.bool b)) ∧ k (.bool (bs.all id))) := ⟨by rw [e.h]; exact dx_all⟩
instance s_any {K' : PySem.W.Frag} [e : Lkk K' C.K] : Stp (Dx C G O (tCB (rAny K') (tCons t tNil)) k) (Dl C G O t fun ss => ∃ bs : List Bool, ss = bs.map (fun b => Sv.dat (.bool b)) ∧ k (.bool (bs.any id))) := ⟨by rw [e.h]; exact dx_any⟩
instance s_sum {K' : PySem.W.Frag} [e : Lkk K' C.K] : Stp (Dx C G O (tCB (rSum K') (tCons t tNil)) k) (Dl C G O t fun ss => ∃ bs : List Int, ss = bs.map (fun b => Sv.dat (.int b)) ∧ k (.int bs.sum)) := ⟨by rw [e.h]; exact dx_sum⟩
instance s_tupOf {K' : PySem.W.Frag} [e : Lkk K' C.K] : Stp (Dx C G O (tCB (Ln.rTupOf K') (tCons t tNil)) k) (Dl C G O t fun ss => ∃ ds : List PyData, ss = ds.map Sv.dat ∧ k (.tuple ds)) := ⟨by rw [e.h]; exact dx_tupOf⟩
instance s_abs : Stp (Dx C G O (tCB (fun xs H Q => ∃ i, xs = [V.int i] ∧ Q (V.int (if i < 0 then -i else i)) H) (tCons t tNil)) k) (Dx C G O t (isI fun i => k (.int (if i < 0 then -i else i)))) := ⟨dx_abs⟩
instance s_min2 : Stp (Dx C G O (tCB (fun xs H Q => ∃ i j, xs = [V.int i, V.int j] ∧ Q (V.int (if j < i then j else i)) H) (tCons t (tCons ta tNil))) k) (Dx C G O t (isI fun i => Dx C G O ta (isI fun j => k (.int (if j < i then j else i))))) := ⟨dx_min2⟩
instance s_max2 : Stp (Dx C G O (tCB (fun xs H Q => ∃ i j, xs = [V.int i, V.int j] ∧ Q (V.int (if i < j then j else i)) H) (tCons t (tCons ta tNil))) k) (Dx C G O t (isI fun i => Dx C G O ta (isI fun j => k (.int (if i < j then j else i))))) := ⟨dx_max2⟩
instance s_str1 : Stp (Dx C G O (tCB (fun xs H Q => ∃ i, xs = [V.int i] ∧ i.natAbs.log2 < 1920 ∧ Q (V.str (Str.ofString (toString i))) H) (tCons t tNil)) k) (Dx C G O t (isI fun i => i.natAbs.log2 < 1920 ∧ k (.str (Str.ofString (toString i))))) := ⟨dx_str1⟩
instance s_addS : Stp (Dx C G O (tOp (fun x y H Q => ∃ i j, x = V.str i ∧ y = V.str j ∧ i.length + j.length ≤ sizeLine ∧ Q (V.str (i ++ j)) H) t ta) k) (Dx C G O t (isS fun i => Dx C G O ta (isS fun j => i.length + j.length ≤ sizeLine ∧ k (.str (i ++ j))))) := ⟨dx_addS⟩
instance s_repr {K' : PySem.W.Frag} [e : Lkk K' C.K] : Stp (Dx C G O (tCB (Ln.rReprD K') (tCons t tNil)) k) (Dx C G O t fun d => Ln.Shw d ∧ k (.str d.shown)) := ⟨by rw [e.h]; exact dx_repr⟩
instance s_in {K' : PySem.W.Frag} {neg : Bool} [e : Lkk K' C.K] : Stp (Dx C G O (tOp (rIn K' neg) t ta) k) (Dx C G O t fun d => Dx C G O ta (isQ fun ds => flatD d = true ∧ ds.all flatD = true ∧ k (.bool (if neg then !inD d ds else inD d ds)))) := ⟨by rw [e.h]; exact dx_in⟩
instance s_call {K' : PySem.W.Frag} {n : Nat} {W : Wt} {ES : L2.St → XK} {u : TA} [e : Lkk K' C.K] : Stp (Dx C G O (Ln.tCg (spP K' n W) ES u) k) (Da C G O u fun as => as.length = n ∧ W as (fun r => match r with | .v s => isD k s | .l _ => False) (fun _ _ => False)) := ⟨by rw [e.h]; exact dx_callP⟩
/-! ### arguments -/
instance s_ddnil {k : List PyData → Prop} : Stp (Dd C G O tNil k) (k []) := ⟨dd_nil⟩
instance s_ddcons {u : TA} {k : List PyData → Prop} : Stp (Dd C G O (tCons t u) k) (Dx C G O t fun s => Dd C G O u fun ss => k (s :: ss)) := ⟨dd_cons⟩
instance s_danil {k : List Sv → Prop} : Stp (Da C G O tNil k) (k []) := ⟨da_nil⟩
instance s_dacons {u : TA} {k : List Sv → Prop} : Stp (Da C G O (tCons t u) k) (Dv C G O t fun s => Da C G O u fun ss => k (s :: ss)) := ⟨da_cons⟩
instance (priority := low) s_dv {k : Sv → Prop} : Stp (Dv C G O t k) (Dx C G O t fun d => k (.dat d)) := ⟨dv_dx⟩
class NAny (s : Sv) : Prop where
  h : s ≠ .any
instance {d : PyData} : NAny (.dat d) := ⟨fun z => by cases z⟩
instance {d : Addr} : NAny (.ptr d) := ⟨fun z => by cases z⟩
instance {d : Mo} : NAny (.hdl d) := ⟨fun z => by cases z⟩
instance s_dvvar {i : Nat} {s : Sv} {k : Sv → Prop} [e : Lk G i s] [n : NAny s] : Stp (Dv C G O (tVar i) k) (k s) := ⟨dv_var e.h n.h⟩
/-! ### tests -/
instance s_dtb {k : Bool → Prop} : Stp (Dt C G O (tB t) k) (Dx C G O t (isB k)) := ⟨dt_b⟩
instance s_dtt {k : Bool → Prop} : Stp (Dt C G O (tTest t) k) (Dx C G O t (isB k)) := ⟨dt_test⟩
instance s_dtn {u : TT} {k : Bool → Prop} : Stp (Dt C G O (tNot u) k) (Dt C G O u fun b => k (!b)) := ⟨dt_not⟩
instance s_dta {u w : TT} {k : Bool → Prop} : Stp (Dt C G O (tAnd u w) k) (Dt C G O u fun b => if b = true then Dt C G O w k else k false) := ⟨dt_and⟩
instance s_dto {u w : TT} {k : Bool → Prop} : Stp (Dt C G O (tOr u w) k) (Dt C G O u fun b => if b = true then k true else Dt C G O w k) := ⟨dt_or⟩
instance s_dty {k : Bool → Prop} : Stp (Dt C G O tYes k) (k true) := ⟨fun h X F H σ Q r c => c F true H Gw.refl r h⟩
instance s_ift {A B : Prop} : Stp (if true = true then A else B) A := ⟨fun h => (if_pos rfl).mpr h⟩
instance s_iff {A B : Prop} : Stp (if false = true then A else B) B := ⟨fun h => (if_neg Bool.false_ne_true).mpr h⟩
instance s_do0 {k : Option Int → Prop} : Stp (Do C G O tNoPart k) (k none) := ⟨do_no⟩
instance s_do1 {k : Option Int → Prop} : Stp (Do C G O (tPart t) k) (Dx C G O t (isI fun i => k (some i))) := ⟨do_some⟩
/-! ### what data is -/
instance s_isI {k : Int → Prop} {i : Int} : Stp (isI k (.int i)) (k i) := ⟨isI_mk⟩
instance s_isB {k : Bool → Prop} {i : Bool} : Stp (isB k (.bool i)) (k i) := ⟨isB_mk⟩
instance s_isS {k : Str → Prop} {i : Str} : Stp (isS k (.str i)) (k i) := ⟨isS_mk⟩
instance s_isT {k : List PyData → Prop} {i : List PyData} : Stp (isT k (.tuple i)) (k i) := ⟨isT_mk⟩
instance s_isL {k : List PyData → Prop} {i : List PyData} : Stp (isLs k (.list i)) (k i) := ⟨fun h => ⟨⟨i, rfl, h⟩⟩⟩
instance s_isQt {k : List PyData → Prop} {i : List PyData} : Stp (isQ k (.tuple i)) (k i) := ⟨isQ_t⟩
instance s_isQl {k : List PyData → Prop} {i : List PyData} : Stp (isQ k (.list i)) (k i) := ⟨isQ_l⟩
instance s_isD {k : PyData → Prop} {i : PyData} : Stp (isD k (.dat i)) (k i) := ⟨isD_mk⟩
instance s_lent {k : Nat → Prop} {ds : List PyData} : Stp (lenD k (.tuple ds)) (k ds.length) := ⟨lenD_t⟩
instance s_lenl {k : Nat → Prop} {ds : List PyData} : Stp (lenD k (.list ds)) (k ds.length) := ⟨lenD_l⟩
instance s_eii {k : Bool → Prop} {a b : Int} : Stp (sEq k (.int a) (.int b)) (k (decide (a = b))) := ⟨sEq_ii⟩
instance s_ess {k : Bool → Prop} {a b : Str} : Stp (sEq k (.str a) (.str b)) (k (decide (a = b))) := ⟨sEq_ss⟩
instance s_ebb {k : Bool → Prop} {a b : Bool} : Stp (sEq k (.bool a) (.bool b)) (k (decide (a = b))) := ⟨sEq_bb⟩
instance s_esi {k : Bool → Prop} {a : Str} {b : Int} : Stp (sEq k (.str a) (.int b)) (k false) := ⟨sEq_si⟩
instance s_eis {k : Bool → Prop} {a : Str} {b : Int} : Stp (sEq k (.int b) (.str a)) (k false) := ⟨sEq_is⟩
instance s_enn {k : Bool → Prop} : Stp (sEq k .none .none) (k true) := ⟨sEq_nn⟩
instance s_ens {k : Bool → Prop} {b : Str} : Stp (sEq k .none (.str b)) (k false) := ⟨sEq_ns⟩
instance s_esn {k : Bool → Prop} {b : Str} : Stp (sEq k (.str b) .none) (k false) := ⟨sEq_sn⟩
instance s_eni {k : Bool → Prop} {b : Int} : Stp (sEq k .none (.int b)) (k false) := ⟨sEq_ni⟩
instance s_ein {k : Bool → Prop} {b : Int} : Stp (sEq k (.int b) .none) (k false) := ⟨sEq_in⟩
instance s_kn_int {k : Bool → Prop} : Stp (isiK k "int" .none) (k false) := ⟨fun h => ⟨rfl, h⟩⟩
instance s_ki_int {k : Bool → Prop} {i : Int} : Stp (isiK k "int" (.int i)) (k true) := ⟨fun h => ⟨rfl, h⟩⟩
instance s_kb_int {k : Bool → Prop} {i : Bool} : Stp (isiK k "int" (.bool i)) (k true) := ⟨fun h => ⟨rfl, h⟩⟩
instance s_ks_int {k : Bool → Prop} {i : Str} : Stp (isiK k "int" (.str i)) (k false) := ⟨fun h => ⟨rfl, h⟩⟩
instance s_kt_int {k : Bool → Prop} {i : List PyData} : Stp (isiK k "int" (.tuple i)) (k false) := ⟨fun h => ⟨rfl, h⟩⟩
instance s_kn_bool {k : Bool → Prop} : Stp (isiK k "bool" .none) (k false) := ⟨fun h => ⟨rfl, h⟩⟩
instance s_ki_bool {k : Bool → Prop} {i : Int} : Stp (isiK k "bool" (.int i)) (k false) := ⟨fun h => ⟨rfl, h⟩⟩
instance s_kb_bool {k : Bool → Prop} {i : Bool} : Stp (isiK k "bool" (.bool i)) (k true) := ⟨fun h => ⟨rfl, h⟩⟩
instance s_ks_bool {k : Bool → Prop} {i : Str} : Stp (isiK k "bool" (.str i)) (k false) := ⟨fun h => ⟨rfl, h⟩⟩
instance s_kt_bool {k : Bool → Prop} {i : List PyData} : Stp (isiK k "bool" (.tuple i)) (k false) := ⟨fun h => ⟨rfl, h⟩⟩
instance s_kn_str {k : Bool → Prop} : Stp (isiK k "str" .none) (k false) := ⟨fun h => ⟨rfl, h⟩⟩
instance s_ki_str {k : Bool → Prop} {i : Int} : Stp (isiK k "str" (.int i)) (k false) := ⟨fun h => ⟨rfl, h⟩⟩
instance s_kb_str {k : Bool → Prop} {i : Bool} : Stp (isiK k "str" (.bool i)) (k false) := ⟨fun h => ⟨rfl, h⟩⟩
instance s_ks_str {k : Bool → Prop} {i : Str} : Stp (isiK k "str" (.str i)) (k true) := ⟨fun h => ⟨rfl, h⟩⟩
instance s_kt_str {k : Bool → Prop} {i : List PyData} : Stp (isiK k "str" (.tuple i)) (k false) := ⟨fun h => ⟨rfl, h⟩⟩
instance s_kn_tuple {k : Bool → Prop} : Stp (isiK k "tuple" .none) (k false) := ⟨fun h => ⟨rfl, h⟩⟩
instance s_ki_tuple {k : Bool → Prop} {i : Int} : Stp (isiK k "tuple" (.int i)) (k false) := ⟨fun h => ⟨rfl, h⟩⟩
instance s_kb_tuple {k : Bool → Prop} {i : Bool} : Stp (isiK k "tuple" (.bool i)) (k false) := ⟨fun h => ⟨rfl, h⟩⟩
instance s_ks_tuple {k : Bool → Prop} {i : Str} : Stp (isiK k "tuple" (.str i)) (k false) := ⟨fun h => ⟨rfl, h⟩⟩
instance s_kt_tuple {k : Bool → Prop} {i : List PyData} : Stp (isiK k "tuple" (.tuple i)) (k true) := ⟨fun h => ⟨rfl, h⟩⟩
instance (priority := low) s_refl {α : Type} {a : α} : Stp (a = a ∧ q) q := ⟨fun h => ⟨rfl, h⟩⟩
/-! ### targets, walks -/
variable {vz : Option (List Nat)}
instance s_dgn {i : Nat} {d : PyData} {G' : List Sv} {k : List Sv → Prop} [e : St G i (.dat d) G'] : Stp (Dg C G O none (gName i) d k) (k G') := ⟨by rw [← e.h]; exact dg_name⟩
class Mem (i : Nat) (l : List Nat) : Prop where
  h : i ∈ l
instance {i : Nat} {l : List Nat} : Mem i (i :: l) := ⟨List.mem_cons_self⟩
instance (priority := low) {i j : Nat} {l : List Nat} [e : Mem i l] : Mem i (j :: l) := ⟨List.mem_cons_of_mem _ e.h⟩
instance s_dgnS {i : Nat} {d : PyData} {G' : List Sv} {l : List Nat} {k : List Sv → Prop} [e : St G i (.dat d) G'] [m : Mem i l] : Stp (Dg C G O (some l) (gName i) d k) (k G') := ⟨fun h => by rw [← e.h] at h; exact dg_nameS h m.h⟩
class Snd (own : List (Str × Nat)) (l : outParam (List Nat)) : Prop where
  h : own.map (fun x => x.snd) = l
instance : Snd [] [] := ⟨rfl⟩
instance {x : Str} {n : Nat} {r : List (Str × Nat)} {l : List Nat} [e : Snd r l] : Snd ((x, n) :: r) (n :: l) := ⟨by rw [List.map_cons, e.h]⟩
class Wp (G : List Sv) (l : List Nat) (G' : outParam (List Sv)) : Prop where
  h : wipeG G l = G'
instance {G : List Sv} : Wp G [] G := ⟨rfl⟩
instance {G G' G2 : List Sv} {v : Nat} {l : List Nat} [e : Wp G l G'] [e2 : St G' v .any G2] : Wp G (v :: l) G2 := ⟨by show (wipeG G l).set v .any = G2; rw [e.h, e2.h]⟩
instance (priority := high) s_dgW {own : List (Str × Nat)} {l : List Nat} {G' : List Sv} {g : TG} {d : PyData} {k : List Sv → Prop} [e1 : Snd own l] [e2 : Wp G l G'] : Stp (Dg C (wipeG G (own.map (fun x => x.snd))) O (some (own.map (fun x => x.snd))) g d k) (Dg C G' O (some l) g d k) := ⟨by rw [e1.h, e2.h]; exact id⟩
instance s_dgs0 {k : List Sv → Prop} : Stp (Dgs C G O vz gNil [] k) (k G) := ⟨dgs_nil⟩
instance s_dgs1 {g : TG} {gs : TGs} {d : PyData} {ds : List PyData} {k : List Sv → Prop} : Stp (Dgs C G O vz (gCons g gs) (d :: ds) k) (Dg C G O vz g d fun G' => Dgs C G' O vz gs ds k) := ⟨dgs_cons⟩
instance s_dwT {K' : PySem.W.Frag} {k : List PyData → Prop} [e : Lkk K' C.K] : Stp (Dw C G O (iTup K' t) k) (Dx C G O t (isT k)) := ⟨fun h => dw_tup h e.h⟩
instance s_dwL {K' : PySem.W.Frag} {k : List PyData → Prop} [e : Lkk K' C.K] : Stp (Dw C G O (iList K' t) k) (Dx C G O t (isLs k)) := ⟨fun h => dw_list (h.mono fun _ x => x.ex) e.h⟩
instance s_dwE {K' : PySem.W.Frag} {k : List PyData → Prop} [e : Lkk K' C.K] : Stp (Dw C G O (Ln.iEnumT K' (tCons t tNil)) k) (Dx C G O t (isT fun es => k (enumD es))) := ⟨fun h => dw_enumT (dd_cons (h.mono fun d x => dd_nil (by obtain ⟨es, e, q⟩ := x.ex; exact ⟨es, by rw [e], q⟩))) e.h⟩
instance s_dwEL {K' : PySem.W.Frag} {k : List PyData → Prop} [e : Lkk K' C.K] : Stp (Dw C G O (iEnum K' (tCons t tNil)) k) (Dx C G O t (isLs fun es => k (enumD es))) := ⟨fun h => dw_enum (dd_cons (h.mono fun d x => dd_nil (by obtain ⟨es, e, q⟩ := x.ex; exact ⟨es, by rw [e], q⟩))) e.h⟩
def rngOk (j : Int) : Prop := -(2 ^ 62) ≤ j ∧ j < 2 ^ 62
instance s_dwR1 {k : List PyData → Prop} : Stp (Dw C G O (iRng1 (tCons t tNil)) k) (Dx C G O t (isI fun j => rngOk j ∧ k ((List.range j.toNat).map fun i : Nat => PyData.int (i : Int)))) := ⟨fun h => dw_rng1 (dd_cons (h.mono fun d x => dd_nil (by obtain ⟨j, e, b, q⟩ := x; exact ⟨j, by rw [e], b.1, b.2, q⟩)))⟩
instance s_dwR2 {k : List PyData → Prop} : Stp (Dw C G O (iRng2 (tCons ta (tCons tb tNil))) k) (Dx C G O ta (isI fun i => Dx C G O tb (isI fun j => rngOk i ∧ rngOk j ∧ k ((List.range (j - i).toNat).map fun n : Nat => PyData.int (i + (n : Int)))))) := ⟨fun h => dw_rng2 (dd_cons (h.mono fun d x => by
  obtain ⟨i, e, x⟩ := x
  exact dd_cons (x.mono fun d2 y => dd_nil (by obtain ⟨j, e2, b, b2, q⟩ := y; exact ⟨i, j, by rw [e, e2], ⟨b.1, b.2, b2.1, b2.2⟩, q⟩))))⟩
/-! ### statements -/
variable {u w : TS} {E : En}
instance s_seq : Stp (Ds C G O (tSeq u w) E) (Ds C G O u { E with nx := fun G' O' => Ds C G' O' w E }) := ⟨ds_seq⟩
def SetD (G : List Sv) (i : Nat) (s : Sv) (k : List Sv → Prop) : Prop := k (G.set i s)
instance s_setD {i : Nat} {s : Sv} {G' : List Sv} {k : List Sv → Prop} [e : St G i s G'] : Stp (SetD G i s k) (k G') := ⟨fun h => by unfold SetD; rw [e.h]; exact h⟩
instance (priority := low) s_set {i : Nat} : Stp (Ds C G O (tAsg t (gName i)) E) (Dx C G O t fun d => SetD G i (.dat d) fun G' => E.nx G' O) := ⟨ds_set⟩
instance (priority := low) s_asg {g : TG} : Stp (Ds C G O (tAsg t g) E) (Dx C G O t fun d => Dg C G O none g d fun G' => E.nx G' O) := ⟨ds_asg⟩
instance s_lcs {wi : TI} {g : TG} {tt : TT} {te : TE} {vs : List Nat} {i : Nat} : Stp (Ds C G O (tAsg (tLc wi g tt te vs) (gName i)) E) (Dl C G O (tLc wi g tt te vs) fun ss => ∀ D, C.H0 D = none → SetD G i (.ptr D) fun G' => E.nx G' ((D, .lst ss) :: O)) := ⟨ds_setL⟩
instance s_lsts {ta : TA} {i : Nat} : Stp (Ds C G O (tAsg (tLst ta) (gName i)) E) (Da C G O ta fun ss => szk ss.length (∀ D, C.H0 D = none → SetD G i (.ptr D) fun G' => E.nx G' ((D, .lst ss) :: O))) := ⟨fun h => ds_setL (dl_lst h)⟩
instance s_ifS {c : TT} : Stp (Ds C G O (tIfS c u w) E) (Dt C G O c fun b => if b = true then Ds C G O u E else Ds C G O w E) := ⟨ds_if⟩
instance (priority := low) s_ret : Stp (Ds C G O (tRet t) E) (Dx C G O t fun d => E.rt (.v (.dat d))) := ⟨ds_retD⟩
instance s_retO {i n : Nat} {D : Addr} {ss : List Sv} [e1 : Lk G i (.ptr D)] [e2 : Ok O D n (.lst ss)] : Stp (Ds C G O (tRet (tVar i)) E) (C.H0 D = none ∧ E.rt (.l ss)) := ⟨fun h => ds_retO e1.h e2.h h.1 h.2⟩
instance s_retL {wi : TI} {g : TG} {tt : TT} {te : TE} {vs : List Nat} : Stp (Ds C G O (tRet (tLc wi g tt te vs)) E) (Dl C G O (tLc wi g tt te vs) fun ss => E.rt (.l ss)) := ⟨ds_retL⟩
instance s_retN : Stp (Ds C G O tRetN E) (E.rt (.v (.dat .none))) := ⟨ds_retN⟩
instance s_pass : Stp (Ds C G O tNext E) (E.nx G O) := ⟨ds_pass⟩
instance s_break : Stp (Ds C G O tBreak E) (E.bk G O) := ⟨ds_break⟩
instance s_cont : Stp (Ds C G O tCont E) (E.ct G O) := ⟨ds_cont⟩
instance (priority := low) s_drop : Stp (Ds C G O (tDrop t) E) (Dv C G O t fun _ => E.nx G O) := ⟨ds_drop⟩
def SetO (O : Ow) (n : Nat) (x : Addr × Ob) (k : Ow → Prop) : Prop := k (O.set n x)
instance s_setO {n : Nat} {x : Addr × Ob} {O' : Ow} {k : Ow → Prop} [e : So O n x O'] : Stp (SetO O n x k) (k O') := ⟨fun h => by unfold SetO; rw [e.h]; exact h⟩
instance s_app {K' : PySem.W.Frag} {i n : Nat} {D : Addr} {ss : List Sv} [e : Lkk K' C.K] [e1 : Lk G i (.ptr D)] [e2 : Ok O D n (.lst ss)] : Stp (Ds C G O (tDrop (tBM K' "list" rAppend (tVar i) (tCons t tNil))) E) (ss.length < sizeLine ∧ Dv C G O t fun s => SetO O n (D, .lst (ss ++ [s])) fun O' => E.nx G O') := ⟨fun h => ds_append e1.h e2.h h.1 h.2 e.h⟩
instance s_setIt {i n : Nat} {D : Addr} {ss : List Sv} [e1 : Lk G i (.ptr D)] [e2 : Ok O D n (.lst ss)] : Stp (Ds C G O (tAsg t (gSub (tVar i) tb rSetL)) E) (Dv C G O t fun s => Dx C G O tb (isI fun j => ∃ m, ixN ss.length j = some m ∧ SetO O n (D, .lst (ss.set m s)) fun O' => E.nx G O')) := ⟨fun h => ds_setIt e1.h e2.h h⟩
instance s_aug {i : Nat} {a : Int} [e1 : Lk G i (.dat (.int a))] : Stp (Ds C G O (tAug i t rAdd) E) (Dx C G O t (isI fun j => SetD G i (.dat (.int (a + j))) fun G' => E.nx G' O)) := ⟨fun h => ds_aug e1.h h⟩
instance s_augS {i : Nat} {a : Int} [e1 : Lk G i (.dat (.int a))] : Stp (Ds C G O (tAug i t rSub) E) (Dx C G O t (isI fun j => SetD G i (.dat (.int (a - j))) fun G' => E.nx G' O)) := ⟨fun h => ds_augS e1.h h⟩
end
end Dl
set_option Elab.async false
set_option autoImplicit false
set_option linter.all false
set_option maxRecDepth 100000
set_option maxHeartbeats 4000000
namespace Dl
open PySem PySem.Spec PyProof.Rows L2 Ln
/-! ## raise -/
/-- what an error's __init__ does -/
def spIni (C : Addr) (fs : List Str) : Sp := fun vs H Q _ => ∃ (a : Addr) (zs : List V), vs = V.ref a :: zs ∧ zs.length = fs.length ∧ H a = some (exo a C none) ∧ ∀ dx, H dx = none → dx ≠ a → Q .non (upd (upd H dx (exd dx (fs.zip zs))) a (exo a C (some dx)))
section
variable {C : Cy} {G : List Sv} {O : Ow} {ta : TA} {E : XK}
theorem fsOk_zip {K : PySem.W.Frag} {F : Hp} : ∀ {fs : List Str} {vs : List V} {ds : List PyData}, DpAll K F vs ds → FsOk K F (fs.zip vs) (fs.zip ds)
  | [], _, _, _ => .nil
  | _ :: _, _, _, .nil => .nil
  | _ :: fs, _, _, .cons a b => .cons ⟨rfl, a⟩ (fsOk_zip b)
theorem FsOk.mono {K : PySem.W.Frag} {F F' : Hp} {fs : List (Str × V)} {es : List (Str × PyData)} (h : FsOk K F fs es) (s : Same F F') : FsOk K F' fs es := Paired.mono (fun _ _ q => ⟨q.1, Dp.mono s _ _ q.2⟩) h
/-- an error is made and leaves -/
theorem raised {C : Cy} {F H : Hp} {σ : L2.St} {G : List Sv} {O : Ow} {cls : Addr} {fs : List Str} {vs : List V} {ds : List PyData} {W : Value → Option Addr → Hp → Prop} (r : Rp C F H σ G O) (p : DpAll C.K F vs ds) (hl : vs.length = fs.length) (hz : vs.length ≤ 1000)
    (q : ∀ F' H' dx gs, Same F F' → Rp C F' H' σ G O → C.H0 dx = none → F' dx = some (.xd gs) → FsOk C.K F' gs (fs.zip ds) → W (.ref cls) (some dx) H') : vs.length ≤ 1000 ∧ ∀ a, H a = none → spIni cls fs (.ref a :: (vs ++ [])) (upd H a (exo a cls none))
  (fun v H2 => v = .non ∧ ∃ (d : Addr) (gs : List (Str × V)), H2 a = some (exo a cls (some d)) ∧ H2 d = some (exd d gs) ∧ H d = none ∧ W (.ref cls) (some d) (upd (del H2 a) d (.xd gs))) (fun _ _ _ => False) := by
  refine ⟨hz, fun a na => ⟨a, vs, by rw [List.append_nil], hl, upd_same, fun dx n1 n2 => ⟨rfl, dx, fs.zip vs, upd_same, ?_, ?_, ?_⟩⟩⟩
  · rw [upd_ne n2]
    exact upd_same
  · rw [upd_ne n2] at n1
    exact n1
  · have nd : H dx = none := by rw [upd_ne n2] at n1; exact n1
    have e : (upd (del (upd (upd (upd H a (exo a cls none)) dx (exd dx (fs.zip vs))) a (exo a cls (some dx))) a) dx (.xd (fs.zip vs))) = upd H dx (.xd (fs.zip vs)) := by
      funext b
      by_cases b1 : b = dx
      · rw [b1, upd_same, upd_same]
      · by_cases b2 : b = a
        · rw [upd_ne b1, b2, del_same, upd_ne (fun z => b1 (b2.trans z)), na]
        · rw [upd_ne b1, del_ne b2, upd_ne b2, upd_ne b1, upd_ne b2, upd_ne b1]
    rw [e]
    have s := r.sm (o := .xd (fs.zip vs)) nd
    exact q _ _ dx (fs.zip vs) s (r.newF nd) (r.q.h0 nd) upd_same ((fsOk_zip p).mono s)
theorem ds_raise {cls : Addr} {fs : List Str} {ke : Ke} {D : En} (hE : EOk C E ke) (h : Dd C G O ta fun ds => ds.length = fs.length ∧ ds.length ≤ 1000 ∧ ke cls (fs.zip ds)) : Ds C G O (fun _ σ H => tMkO cls (spIni cls fs) [] ta σ H fun c d H' => E c d H') D := fun X F H σ D' r _ _ _ _ =>
  h X F H σ _ r fun F1 vs H1 ds s1 r1 p ⟨e1, e2, q⟩ => raised r1 p (by rw [dpAll_len p]; exact e1) (by rw [dpAll_len p]; exact e2) fun F' H' dx gs s r' nd e f => hE F' H' cls dx gs _ r'.q nd e f q
/-! ## try -/
def excM (a d : Addr) (K : PySem.W.Frag) (es : List (Str × PyData)) : Mo where
  P := fun F v => v = .ref a ∧ ∃ fs, F d = some (.xd fs) ∧ FsOk K F fs es
  mono := fun s ⟨e, fs, h, k⟩ => ⟨e, fs, s.ex _ _ (fun z => by rcases z with ⟨_, z⟩ | ⟨_, z⟩ <;> cases z) (fun _ _ z => by cases z) h, Paired.mono (fun _ _ q => ⟨q.1, Dp.ry s _ _ q.2⟩) k⟩
/-- statements with a wish of errors -/
def DsW (C : Cy) (G : List Sv) (O : Ow) (tb : WX → TS) (E : En) (ke : Ke) : Prop := ∀ X F H σ (D : Ends) (W : WX), Rp C F H σ G (O ++ X) → NxOk C F X E.nx D.nx → RtOk C F E.rt D.rt → NxOk C F X E.bk D.bk → NxOk C F X E.ct D.ct →
  EOs C X F σ G O (fun c d H => W c d σ H) ke → tb W D σ H
variable {En0 : En} {ke : Ke}
theorem fsOk_look {K : PySem.W.Frag} {F : Hp} : ∀ {fs : List (Str × V)} {es : List (Str × PyData)}, FsOk K F fs es → ∀ {f : Str} {d : PyData}, es.lookup f = some d → ∃ v, fs.lookup f = some v ∧ Dp K F v d
  | _, _, .nil, f, d, e => by cases e
  | (x, v) :: fs, (y, d0) :: es, .cons ⟨h1, h2⟩ t, f, d, e => by
    have h1 : x = y := h1
    subst h1
    rw [List.lookup_cons] at e ⊢
    by_cases c : (f == x) = true
    · rw [c] at e ⊢
      cases e
      exact ⟨v, rfl, h2⟩
    · have c := Bool.eq_false_iff.mpr c
      rw [c] at e ⊢
      exact fsOk_look t e
/-- e.f of a caught error -/
theorem dx_xf {a d cls : Addr} {i : Nat} {f : Str} {es : List (Str × PyData)} {x : PyData} {k : PyData → Prop} (hG : G[i]? = some (.hdl (excM a d C.K es))) (hl : es.lookup f = some x) (q : k x) : Dx C G O (tXf a (.ref cls) (some d) cls f (tVar i)) k := fun X F H σ Q r c => by
  obtain ⟨v, e, rfl, fs, h1, h2⟩ := r.get hG (fun z => by cases z)
  obtain ⟨w, l, p⟩ := fsOk_look h2 hl
  exact ⟨_, e, rfl, rfl, d, fs, w, rfl, r.q.sub _ _ h1, l, c F w H x Gw.refl r p q⟩
def frE (i : Nat) (E : En) : En := { nx := fun G' O' => E.nx (G'.set i .any) O', rt := E.rt, bk := fun G' O' => E.bk (G'.set i .any) O', ct := fun G' O' => E.ct (G'.set i .any) O' }
theorem NxOk.fr {F : Hp} {X : Ow} {nx : List Sv → Ow → Prop} {q : L2.St → Hp → Prop} {i : Nat} (h : NxOk C F X nx q) : NxOk C F X (fun G' O' => nx (G'.set i .any) O') (fun σ' H' => q (σ'.set i none) H') := fun F' σ' H' G' O' s r n => h F' _ H' _ O' s (r.clr i) n
/-- a clause with a name -/
theorem ds_try_as {c : Value} {i : Nat} {ts : Addr → Value → Option Addr → TS} {Wout : WX} {tb : WX → TS} {K' : PySem.W.Frag} (hb : DsW C G O tb En0 ke) (hc : ∀ cls es, ke cls es → PySem.W.exmOne C.K (.ref cls) c = some true ∧ ∀ a d, Ds C (G.set i (.hdl (excM a d C.K es))) O (ts a (.ref cls) (some d)) (frE i En0)) (hK : K' = C.K := by with_unfolding_all rfl) :
    Ds C G O (fun D σ H => tb (wAs K' c i ts Wout D) D σ H) En0 := fun X F H σ D r n1 n2 n3 n4 => by
  subst hK
  refine hb X F H σ D _ r n1 n2 n3 n4 fun F' H' cls dx fs es s r' nd e f q => ?_
  obtain ⟨h1, h2⟩ := hc cls es q
  refine ⟨true, h1, fun _ a na => ?_, fun z => by cases z⟩
  exact h2 a dx X F' H' _ _ (r'.set (s := .hdl (excM a dx C.K es)) ⟨rfl, fs, e, f⟩) (n1.mono s).fr (n2.mono s) (n3.mono s).fr (n4.mono s).fr
/-- several clauses -/
inductive ClsOk (C : Cy) (G : List Sv) (O : Ow) (E : En) (cls : Addr) (es : List (Str × PyData)) : List (Value × Nat × Suite1) → Prop
  | hit {c : Value} {i : Nat} {ts : Suite1} {l : List (Value × Nat × Suite1)} (h : PySem.W.exmOne C.K (.ref cls) c = some true) (q : ∀ a d, Ds C (G.set i (.hdl (excM a d C.K es))) O (ts a (.ref cls) (some d)) (frE i E)) : ClsOk C G O E cls es ((c, i, ts) :: l)
  | no {c : Value} {i : Nat} {ts : Suite1} {l : List (Value × Nat × Suite1)} (h : PySem.W.exmOne C.K (.ref cls) c = some false) (q : ClsOk C G O E cls es l) : ClsOk C G O E cls es ((c, i, ts) :: l)
theorem ds_try_named {Wo : WX} {l : List (Value × Nat × Suite1)} {tb : WX → TS} {K' : PySem.W.Frag} (hb : DsW C G O tb En0 ke) (hc : ∀ cls es, ke cls es → ClsOk C G O En0 cls es l) (hK : K' = C.K := by with_unfolding_all rfl) : Ds C G O (fun D σ H => tb (wNam K' Wo D l) D σ H) En0 := fun X F H σ D r n1 n2 n3 n4 => by
  subst hK
  refine hb X F H σ D _ r n1 n2 n3 n4 fun F' H' cls dx fs es s r' nd e f q => ?_
  have h := hc cls es q
  show wNam C.K Wo D l (.ref cls) (some dx) σ H'
  clear hb hc
  induction h with
  | @hit c i ts l h q => exact ⟨true, h, fun _ a na => q a dx X F' H' _ _ (r'.set (s := .hdl (excM a dx C.K es)) ⟨rfl, fs, e, f⟩) (n1.mono s).fr (n2.mono s) (n3.mono s).fr (n4.mono s).fr, fun z => by cases z⟩
  | no h q ih => exact ⟨false, h, (fun z => by cases z), fun _ => ih⟩
/-! ### what may stand within -/
theorem dw_const {t : TS} (h : Ds C G O t En0) : DsW C G O (fun _ => t) En0 ke := fun X F H σ D W r n1 n2 n3 n4 _ => h X F H σ D r n1 n2 n3 n4
theorem dw_if {c : TT} {t u : WX → TS} (h : Dt C G O c fun b => if b = true then DsW C G O t En0 ke else DsW C G O u En0 ke) : DsW C G O (fun W => tIfS c (t W) (u W)) En0 ke := fun X F H σ D W r n1 n2 n3 n4 e =>
  h X F H σ _ r fun F1 b H1 s1 r1 q => by
    have e1 : EOs C X F1 σ G O (fun c d H => W c d σ H) ke := fun F' H' cls dx fs es s => e F' H' cls dx fs es (s1.sf.trans s)
    cases b
    · refine iteF ?_
      have q : DsW C G O u En0 ke := by simpa using q
      exact q X F1 H1 σ D W r1 (n1.mono s1.sf) (n2.mono s1.sf) (n3.mono s1.sf) (n4.mono s1.sf) e1
    · refine iteT ?_
      have q : DsW C G O t En0 ke := by simpa using q
      exact q X F1 H1 σ D W r1 (n1.mono s1.sf) (n2.mono s1.sf) (n3.mono s1.sf) (n4.mono s1.sf) e1
/-- a call that may raise -/
theorem dw_call {n : Nat} {Wc : Wt} {f : TE → TS} {k : Rs → Prop} (hf : ∀ (X : Ow) (F H : Hp) (σ : L2.St) (D : Ends) (t : TE), Rp C F H σ G (O ++ X) → NxOk C F X En0.nx D.nx → RtOk C F En0.rt D.rt → (∀ Q : VK, (∀ F' v H' s, Gw (O ++ X) F H F' H' → Rp C F' H' σ G (O ++ X) → SvOk C.K F' v s → k (.v s) → Q v H') →
      (∀ F' D' H' ss, Gw (O ++ X) F H F' H' → C.H0 D' = none → Rp C F' H' σ G ((D', .lst ss) :: (O ++ X)) → k (.l ss) → Q (.ref D') H') → t σ H Q) → f t D σ H)
    (h : Da C G O ta fun as => as.length = n ∧ Wc as k ke) : DsW C G O (fun W => f (Ln.tCg (spP C.K n Wc) (fun σ => fun cls d H => W cls d σ H) ta)) En0 ke := fun X F H σ D W r n1 n2 n3 n4 e => by
  refine hf X F H σ D _ r n1 n2 fun Q q1 q2 => ?_
  refine h X F H σ _ r fun F1 vs H1 as s1 r1 p ⟨el, w⟩ => ?_
  refine ⟨by rw [Paired.length p]; exact el, F1, as, _, ke, r1.q.sub, r1.q.tup, p, w, fun F' v H' s b sv q => q1 F' v H' s (s1.trans (r1.gb b)) (r1.called b) sv q, ?_, ?_⟩
  · intro F' D' H' xs ss b nd nf hD pp q
    have r2 := r1.called b
    refine q2 F' D' H' ss (s1.trans (r1.gb b)) (r1.q.h0 nd) ⟨r2.q, r2.len, r2.sl, ?_, ?_⟩ q
    · intro D2 ob m
      rcases List.mem_cons.mp m with m | m
      · cases m
        exact ⟨.inr (r1.q.h0 nd), nf, r1.q.nA nd, _, hD, xs, rfl, pp⟩
      · exact r2.ow D2 ob m
    · rw [List.map_cons, List.nodup_cons]
      refine ⟨fun m => ?_, r2.nd⟩
      obtain ⟨⟨D2, ob⟩, m', e'⟩ := List.mem_map.mp m
      obtain ⟨_, _, _, u, e1, _⟩ := r1.ow D2 ob m'
      have e' : D2 = D' := e'
      rw [e', nd] at e1
      cases e1
  · intro F' cls dx H' fs es b nd hd p q
    exact e F' H' cls dx fs es (s1.sf.trans b.sf) (r1.called b) (r1.q.h0 nd) hd p q
/-- f(..) as a statement -/
theorem dw_drop {n : Nat} {Wc : Wt} {K' : PySem.W.Frag} (h : Da C G O ta fun as => as.length = n ∧ Wc as (fun r => match r with | .v _ => En0.nx G O | .l _ => En0.nx G O) ke) (hK : K' = C.K := by with_unfolding_all rfl) : DsW C G O (fun W => tDrop (Ln.tCg (spP K' n Wc) (fun σ => fun cls d H => W cls d σ H) ta)) En0 ke := by
  subst hK
  exact dw_call (f := tDrop) (fun X F H σ D t r n1 n2 ht => ht _ (fun F' v H' s g r' _ q => n1 F' σ H' G O g.sf r' q) fun F' D' H' ss g n0 r' q => n1 F' σ H' G O g.sf (r'.less (List.sublist_cons_self _ _)) q) h
/-- return f(..) -/
theorem dw_ret {n : Nat} {Wc : Wt} {K' : PySem.W.Frag} (h : Da C G O ta fun as => as.length = n ∧ Wc as En0.rt ke) (hK : K' = C.K := by with_unfolding_all rfl) : DsW C G O (fun W => tRet (Ln.tCg (spP K' n Wc) (fun σ => fun cls d H => W cls d σ H) ta)) En0 ke := by
  subst hK
  refine dw_call (f := tRet) (fun X F H σ D t r n1 n2 ht => ht _ (fun F' v H' s g r' sv q => n2.v F' v H' s g.sf r'.q sv q) fun F' D' H' ss g n0 r' q => ?_) h
  obtain ⟨a, b, c, w, e, xs, rfl, p⟩ := r'.ow D' (.lst ss) List.mem_cons_self
  exact n2.l F' D' H' ss xs g.sf r'.q n0 b c e p q
/-- x = f(..), a value that is data -/
theorem dw_set {n i : Nat} {Wc : Wt} {K' : PySem.W.Frag} (h : Da C G O ta fun as => as.length = n ∧ Wc as (fun r => match r with | .v s => En0.nx (G.set i s) O | .l _ => False) ke) (hK : K' = C.K := by with_unfolding_all rfl) : DsW C G O (fun W => tAsg (Ln.tCg (spP K' n Wc) (fun σ => fun cls d H => W cls d σ H) ta) (gName i)) En0 ke := by
  subst hK
  exact dw_call (f := fun t => tAsg t (gName i)) (fun X F H σ D t r n1 n2 ht => ht _ (fun F' v H' s g r' sv q => n1 F' _ H' _ O g.sf (r'.set sv) q) fun _ _ _ _ _ _ _ q => q.elim) h
end
end Dl
set_option Elab.async false
set_option autoImplicit false
set_option linter.all false
set_option maxRecDepth 100000
set_option maxHeartbeats 4000000
/-! min, max, sorted of data of any shape; bits -/
namespace Dl
open PySem PySem.Spec PyProof.Rows L2 Ln PySem.W
theorem u8 {k : Nat} {A : Around} (h : Room k A) : A.units + 8 < cLine := by
  have := h.units
  omega
theorem vals_at : ∀ {xs : List V} {us : List Value}, Vals xs us → ∀ {i : Nat} {u : Value}, us[i]? = some u → ∃ v, xs[i]? = some v ∧ RelV v u
  | _, _, .nil, i, u, e => by simp at e
  | _, _, .cons r t, 0, u, e => by cases e; exact ⟨_, rfl, r⟩
  | _, _, .cons r t, i + 1, u, e => vals_at t (i := i) (by simpa using e)
theorem foldl_mem {α : Type} {f : α → α → α} (hf : ∀ a b, f a b = a ∨ f a b = b) : ∀ (xs : List α) (x : α), xs.foldl f x ∈ x :: xs
  | [], x => by simp
  | y :: ys, x => by
    rw [List.foldl_cons]
    have := foldl_mem hf ys (f x y)
    rcases List.mem_cons.mp this with e | e
    · rw [e]
      rcases hf x y with z | z
      · rw [z]; simp
      · rw [z]; simp
    · exact List.mem_cons_of_mem _ (List.mem_cons_of_mem _ e)
theorem minD_mem (x : PyData) (xs : List PyData) : minD x xs ∈ x :: xs := foldl_mem (fun a b => by by_cases c : dataLt b a = true <;> simp [c]) xs x
theorem maxD_mem (x : PyData) (xs : List PyData) : maxD x xs ∈ x :: xs := foldl_mem (fun a b => by by_cases c : dataLt a b = true <;> simp [c]) xs x
/-- data that can be compared with one another -/
structure Cmpb (ds : List PyData) : Prop where
  al : AlikeAll ds
  dp : PyData.depthAll ds ≤ 4
section
variable {X : Cx}
/-- the item that reads as d -/
theorem item_of {X : Cx} {pins : List (Addr × Obj)} {σ : L2.St} {H : Hp} {s : Shared} {xs : List V} {us : List Value} {ds : List PyData} (I : Inv X pins σ H s) (rv : Vals xs us) (ha : DpAll X.K H xs ds) (hc : AlikeAll ds) {i : Nat} {u : Value} {h' : Heap} {bs : List Addr} {d : PyData} (hu : us[i]? = some u) (md : d ∈ ds) (rd : PySem.Reads h' u d bs)
    (k : ∀ b o, s.heap.get? b = some o → h'.get? b = some o) : ∃ v, RelV v u ∧ xs[i]? = some v ∧ ds[i]? = some d := by
  obtain ⟨v, hv, r⟩ := vals_at rv hu
  obtain ⟨e, he, p⟩ := dpAll_get ha hv
  obtain ⟨as, q⟩ := L2.Dp.reads I e v u p r
  have := alike_unique e d u as bs (hc.1 _ (List.mem_of_getElem? he) _ md) (reads_keeps k q) rd
  subst this
  exact ⟨v, r, hv, he⟩
def rMinG (K : PySem.W.Frag) : List V → Hp → VK → Prop := fun vs H Q => ∃ (a : Addr) (xs : List V) (x : PyData) (ds : List PyData), vs = [V.ref a] ∧ (SqL K H a xs ∨ SqT K H a xs) ∧ DpAll K H xs (x :: ds) ∧ Cmpb (x :: ds) ∧ ∀ (i : Nat) v, xs[i]? = some v → (x :: ds)[i]? = some (minD x ds) → Q v H
def rMaxG (K : PySem.W.Frag) : List V → Hp → VK → Prop := fun vs H Q => ∃ (a : Addr) (xs : List V) (x : PyData) (ds : List PyData), vs = [V.ref a] ∧ (SqL K H a xs ∨ SqT K H a xs) ∧ DpAll K H xs (x :: ds) ∧ Cmpb (x :: ds) ∧ ∀ (i : Nat) v, xs[i]? = some v → (x :: ds)[i]? = some (maxD x ds) → Q v H
theorem cr_minG (hc : X.calm = true) (hu : X.A.units + 8 < cLine) : CallR X (.builtin "min") (rMinG X.K) := by
  intro pins s σ H vs us Q I r h
  obtain ⟨a, xs, x, ds, rfl, hs, ha, cb, q⟩ := h
  obtain rfl := Vals.ref1 r
  have dp := cb.dp
  rcases hs with hs | hs
  · obtain ⟨its, rv, pl, hz⟩ := I.list hs
    obtain ⟨as, ra⟩ := L2.Dp.readsAll I _ _ _ ha rv
    refine min_list_data (I.ok.hd hc) pl.isList (by simpa using ra) cb.al (by omega) fun i u h' tk bs hv hr hk => ?_
    obtain ⟨v, rr, p, p'⟩ := item_of I rv ha cb.al (by simpa using hv) (minD_mem _ _) hr hk
    exact ⟨v, H, I.kept (t' := tk) hk, rr, q i v p p'⟩
  · obtain ⟨its, rv, pl, hz⟩ := I.tuple hs
    obtain ⟨as, ra⟩ := L2.Dp.readsAll I _ _ _ ha rv
    refine min_tuple_data (I.ok.hd hc) pl (by simpa using ra) cb.al (by omega) fun i u h' tk bs hv hr hk => ?_
    obtain ⟨v, rr, p, p'⟩ := item_of I rv ha cb.al (by simpa using hv) (minD_mem _ _) hr hk
    exact ⟨v, H, I.kept (t' := tk) hk, rr, q i v p p'⟩
theorem cr_maxG (hc : X.calm = true) (hu : X.A.units + 8 < cLine) : CallR X (.builtin "max") (rMaxG X.K) := by
  intro pins s σ H vs us Q I r h
  obtain ⟨a, xs, x, ds, rfl, hs, ha, cb, q⟩ := h
  obtain rfl := Vals.ref1 r
  have dp := cb.dp
  rcases hs with hs | hs
  · obtain ⟨its, rv, pl, hz⟩ := I.list hs
    obtain ⟨as, ra⟩ := L2.Dp.readsAll I _ _ _ ha rv
    refine max_list_data (I.ok.hd hc) pl.isList (by simpa using ra) cb.al (by omega) fun i u h' tk bs hv hr hk => ?_
    obtain ⟨v, rr, p, p'⟩ := item_of I rv ha cb.al (by simpa using hv) (maxD_mem _ _) hr hk
    exact ⟨v, H, I.kept (t' := tk) hk, rr, q i v p p'⟩
  · obtain ⟨its, rv, pl, hz⟩ := I.tuple hs
    obtain ⟨as, ra⟩ := L2.Dp.readsAll I _ _ _ ha rv
    refine max_tuple_data (I.ok.hd hc) pl (by simpa using ra) cb.al (by omega) fun i u h' tk bs hv hr hk => ?_
    obtain ⟨v, rr, p, p'⟩ := item_of I rv ha cb.al (by simpa using hv) (maxD_mem _ _) hr hk
    exact ⟨v, H, I.kept (t' := tk) hk, rr, q i v p p'⟩
/-- min(xs, default=d) -/
def rMinGD (K : PySem.W.Frag) : List V → List V → Hp → VK → Prop := fun vs zs H Q => ∃ (a : Addr) (xs : List V) (z : V) (ds : List PyData), vs = [V.ref a] ∧ zs = [z] ∧ (SqL K H a xs ∨ SqT K H a xs) ∧ DpAll K H xs ds ∧ Cmpb ds ∧ (ds = [] → Q z H) ∧ ∀ x es (i : Nat) v, ds = x :: es → xs[i]? = some v → ds[i]? = some (minD x es) → Q v H
def rMaxGD (K : PySem.W.Frag) : List V → List V → Hp → VK → Prop := fun vs zs H Q => ∃ (a : Addr) (xs : List V) (z : V) (ds : List PyData), vs = [V.ref a] ∧ zs = [z] ∧ (SqL K H a xs ∨ SqT K H a xs) ∧ DpAll K H xs ds ∧ Cmpb ds ∧ (ds = [] → Q z H) ∧ ∀ x es (i : Nat) v, ds = x :: es → xs[i]? = some v → ds[i]? = some (maxD x es) → Q v H
theorem cr_minGD (hc : X.calm = true) (hu : X.A.units + 8 < cLine) : CallRK X (.builtin "min") [Str.ofString "default"] (rMinGD X.K) := by
  intro pins s σ H vs zs us ws Q I r rz h
  obtain ⟨a, xs, z, ds, rfl, rfl, hs, ha, cb, q0, q⟩ := h
  obtain rfl := Vals.ref1 r
  obtain ⟨w1, rfl, e1⟩ := vals1 rz
  have dp := cb.dp
  rcases hs with hs | hs
  · obtain ⟨its, rv, pl, hz⟩ := I.list hs
    obtain ⟨as, ra⟩ := L2.Dp.readsAll I _ _ _ ha rv
    refine min_list_default (xs := ds) (I.ok.hd hc) pl.isList (by simpa using ra) cb.al (by omega) (fun e h' tk hk => ⟨z, H, I.kept (t' := tk) hk, e1, q0 e⟩) fun y ys i u h' tk bs e hv hr hk => ?_
    obtain ⟨v, rr, p, p'⟩ := item_of I rv ha cb.al (by simpa using hv) (by rw [e]; exact minD_mem _ _) hr hk
    exact ⟨v, H, I.kept (t' := tk) hk, rr, q y ys i v e p p'⟩
  · obtain ⟨its, rv, pl, hz⟩ := I.tuple hs
    obtain ⟨as, ra⟩ := L2.Dp.readsAll I _ _ _ ha rv
    refine min_tuple_default (xs := ds) (I.ok.hd hc) pl (by simpa using ra) cb.al (by omega) (fun e h' tk hk => ⟨z, H, I.kept (t' := tk) hk, e1, q0 e⟩) fun y ys i u h' tk bs e hv hr hk => ?_
    obtain ⟨v, rr, p, p'⟩ := item_of I rv ha cb.al (by simpa using hv) (by rw [e]; exact minD_mem _ _) hr hk
    exact ⟨v, H, I.kept (t' := tk) hk, rr, q y ys i v e p p'⟩
theorem cr_maxGD (hc : X.calm = true) (hu : X.A.units + 8 < cLine) : CallRK X (.builtin "max") [Str.ofString "default"] (rMaxGD X.K) := by
  intro pins s σ H vs zs us ws Q I r rz h
  obtain ⟨a, xs, z, ds, rfl, rfl, hs, ha, cb, q0, q⟩ := h
  obtain rfl := Vals.ref1 r
  obtain ⟨w1, rfl, e1⟩ := vals1 rz
  have dp := cb.dp
  rcases hs with hs | hs
  · obtain ⟨its, rv, pl, hz⟩ := I.list hs
    obtain ⟨as, ra⟩ := L2.Dp.readsAll I _ _ _ ha rv
    refine max_list_default (xs := ds) (I.ok.hd hc) pl.isList (by simpa using ra) cb.al (by omega) (fun e h' tk hk => ⟨z, H, I.kept (t' := tk) hk, e1, q0 e⟩) fun y ys i u h' tk bs e hv hr hk => ?_
    obtain ⟨v, rr, p, p'⟩ := item_of I rv ha cb.al (by simpa using hv) (by rw [e]; exact maxD_mem _ _) hr hk
    exact ⟨v, H, I.kept (t' := tk) hk, rr, q y ys i v e p p'⟩
  · obtain ⟨its, rv, pl, hz⟩ := I.tuple hs
    obtain ⟨as, ra⟩ := L2.Dp.readsAll I _ _ _ ha rv
    refine max_tuple_default (xs := ds) (I.ok.hd hc) pl (by simpa using ra) cb.al (by omega) (fun e h' tk hk => ⟨z, H, I.kept (t' := tk) hk, e1, q0 e⟩) fun y ys i u h' tk bs e hv hr hk => ?_
    obtain ⟨v, rr, p, p'⟩ := item_of I rv ha cb.al (by simpa using hv) (by rw [e]; exact maxD_mem _ _) hr hk
    exact ⟨v, H, I.kept (t' := tk) hk, rr, q y ys i v e p p'⟩
/-! ### sorted -/
def sortD (rev : Bool) (ds : List PyData) : List PyData := ds.mergeSort (dataLe rev id)
def rSortG (K : PySem.W.Frag) : List V → Hp → VK → Prop := fun vs H Q => ∃ (a : Addr) (xs : List V) (ds : List PyData), vs = [V.ref a] ∧ SqL K H a xs ∧ DpAll K H xs ds ∧ Cmpb ds ∧ Sortable ds ∧ ∀ p zs, H p = none → (∀ F', DpAll K F' xs ds → DpAll K F' zs (sortD false ds)) → Q (.ref p) (upd H p (.lst zs))
theorem each_zip {us : List Value} : ∀ {xs : List V} {ds : List PyData}, Vals xs us → xs.length = ds.length → EachIs (fun u (b : V × PyData) => RelV b.1 u) us (xs.zip ds) := by
  induction us with
  | nil => intro xs ds r e; cases r; exact .nil
  | cons u us ih =>
    intro xs ds r e
    cases r with
    | cons r t => cases ds with
      | nil => cases e
      | cons d ds => exact .cons r (ih t (by simpa using e))
theorem each_vals : ∀ {us : List Value} {bs : List (V × PyData)}, EachIs (fun u (b : V × PyData) => RelV b.1 u) us bs → Vals (bs.map Prod.fst) us
  | _, _, .nil => .nil
  | _, _, .cons r t => .cons r (each_vals t)
theorem dpAll_zip {K : PySem.W.Frag} {H : Hp} : ∀ {xs : List V} {ds : List PyData}, DpAll K H xs ds → ∀ b ∈ xs.zip ds, Dp K H b.1 b.2
  | _, _, .nil, b, m => by cases m
  | _, _, .cons h t, b, m => by
    rcases List.mem_cons.mp m with e | m
    · rw [e]; exact h
    · exact dpAll_zip t b m
theorem dpAll_of {K : PySem.W.Frag} {H : Hp} : ∀ {bs : List (V × PyData)}, (∀ b ∈ bs, Dp K H b.1 b.2) → DpAll K H (bs.map Prod.fst) (bs.map Prod.snd)
  | [], _ => .nil
  | b :: bs, h => .cons (h b List.mem_cons_self) (dpAll_of fun c m => h c (List.mem_cons_of_mem _ m))
theorem zip_snd : ∀ {xs : List V} {ds : List PyData}, xs.length = ds.length → (xs.zip ds).map Prod.snd = ds
  | [], [], _ => rfl
  | [], _ :: _, e => by cases e
  | _ :: _, [], e => by cases e
  | _ :: xs, d :: ds, e => by
    show d :: (xs.zip ds).map Prod.snd = d :: ds
    rw [zip_snd (by simpa using e)]
theorem depth_mem : ∀ {ds : List PyData} {d : PyData}, d ∈ ds → d.depth ≤ PyData.depthAll ds
  | x :: xs, d, m => by
    simp only [PyData.depthAll]
    rcases List.mem_cons.mp m with e | m
    · rw [e]; exact Nat.le_max_left _ _
    · exact Nat.le_trans (depth_mem m) (Nat.le_max_right _ _)
theorem cr_sortG (hu : X.A.units + 8 < cLine) : CallR X (.builtin "sorted") (rSortG X.K) := by
  intro pins s σ H vs us Q I r h
  obtain ⟨a, xs, ds, rfl, hs, ha, cb, so, q⟩ := h
  obtain rfl := Vals.ref1 r
  have dp := cb.dp
  obtain ⟨its, rv, hl, hz⟩ := I.list hs
  have el := dpAll_len ha
  have e := each_zip rv el
  have es := zip_snd el
  have er : EachIs (fun v (b : V × PyData) => ∃ as, PySem.Reads s.heap v b.2 as) its (xs.zip ds) := by
    have hm := dpAll_zip ha
    clear es el dp so cb q hs hl hz ha
    generalize xs.zip ds = bs at e hm
    clear rv
    induction e with
    | nil => exact .nil
    | @cons u b us bs r t ih => exact .cons (L2.Dp.reads I b.2 b.1 u (hm b List.mem_cons_self) r) (ih fun c m => hm c (List.mem_cons_of_mem _ m))
  refine sorted_data (R := fun u (b : V × PyData) => RelV b.1 u) (enc := Prod.snd) hl.isList e er (by rw [es]; exact fun d hd d' hd' => cb.al.1 d hd d' hd') (by rw [es]; exact so) (by rw [List.length_zip, el, Nat.min_self, ← el]; exact hz) (fun b hb => ?_) fun out _ eo => ?_
  · have : b.2 ∈ ds := by rw [← es]; exact List.mem_map_of_mem hb
    have := depth_mem this
    omega
  · have em : ((xs.zip ds).mergeSort (dataLe false Prod.snd)).map Prod.snd = sortD false ds := by
      unfold sortD
      conv => rhs; rw [← es]
      exact List.map_mergeSort fun _ _ _ _ => rfl
    obtain ⟨n, hn⟩ := sortedAll_at s.heap its out.toArray
    have rz := each_vals eo
    have hzz : (((xs.zip ds).mergeSort (dataLe false Prod.snd)).map Prod.fst).length ≤ sizeLine := by
      rw [List.length_map, List.length_mergeSort, List.length_zip, el, Nat.min_self, ← el]
      exact hz
    refine ⟨.ref _, upd H (s.heap.objs.size + 1) (.lst (((xs.zip ds).mergeSort (dataLe false Prod.snd)).map Prod.fst)), I.laid (t' := s.toks) (fun b o e => sortedAll_old e) (Nat.le_succ _) ⟨hzz, out, n, rz, hn⟩, rfl, q _ _ (I.hok.fresh (Nat.le_succ _)) ?_⟩
    intro F' ha'
    rw [← em]
    exact dpAll_of fun b hb => dpAll_zip ha' b ((List.mergeSort_perm _ _).mem_iff.mp hb)
end
/-! ## by data -/
section
variable {C : Cy} {G : List Sv} {O : Ow} {t : TE} {k : PyData → Prop}
def minK (k : PyData → Prop) (ds : List PyData) : Prop := ∃ x es, ds = x :: es ∧ Cmpb ds ∧ k (minD x es)
def maxK (k : PyData → Prop) (ds : List PyData) : Prop := ∃ x es, ds = x :: es ∧ Cmpb ds ∧ k (maxD x es)
theorem dx_minG {K' : PySem.W.Frag} [e : Lkk K' C.K] (h : Dx C G O t (isQ (minK k))) : Dx C G O (tCB (rMinG K') (tCons t tNil)) k := fun X F H σ Q r c => by
  rw [e.h]
  exact h X F H σ _ r fun F1 v H1 d s1 r1 p1 ⟨ds, ed, x, es, e, cb, q⟩ => by
    subst e
    have fin : ∀ (a : Addr) (xs : List V), (SqL C.K F1 a xs ∨ SqT C.K F1 a xs) → DpAll C.K F1 xs (x :: es) → rMinG C.K [V.ref a] H1 Q := fun a xs hs ha =>
      ⟨a, xs, x, es, rfl, hs.elim (fun z => .inl (r1.q.sub.seq z)) (fun z => .inr (Same.tup r1.q.sub z)), DpAll.mono r1.q.sub _ _ ha, cb, fun i v e1 e2 => by
        obtain ⟨d, hd, pd⟩ := dpAll_get ha e1
        rw [e2] at hd; cases hd
        exact c F1 v H1 _ s1 r1 pd q⟩
    rcases ed with ed | ed
    · subst ed
      cases p1 with
      | @tup a xs _ hs ha => exact fin a xs (.inr hs) ha
    · subst ed
      cases p1 with
      | @lst a xs _ hs ha => exact fin a xs (.inl hs) ha
theorem dx_maxG {K' : PySem.W.Frag} [e : Lkk K' C.K] (h : Dx C G O t (isQ (maxK k))) : Dx C G O (tCB (rMaxG K') (tCons t tNil)) k := fun X F H σ Q r c => by
  rw [e.h]
  exact h X F H σ _ r fun F1 v H1 d s1 r1 p1 ⟨ds, ed, x, es, e, cb, q⟩ => by
    subst e
    have fin : ∀ (a : Addr) (xs : List V), (SqL C.K F1 a xs ∨ SqT C.K F1 a xs) → DpAll C.K F1 xs (x :: es) → rMaxG C.K [V.ref a] H1 Q := fun a xs hs ha =>
      ⟨a, xs, x, es, rfl, hs.elim (fun z => .inl (r1.q.sub.seq z)) (fun z => .inr (Same.tup r1.q.sub z)), DpAll.mono r1.q.sub _ _ ha, cb, fun i v e1 e2 => by
        obtain ⟨d, hd, pd⟩ := dpAll_get ha e1
        rw [e2] at hd; cases hd
        exact c F1 v H1 _ s1 r1 pd q⟩
    rcases ed with ed | ed
    · subst ed
      cases p1 with
      | @tup a xs _ hs ha => exact fin a xs (.inr hs) ha
    · subst ed
      cases p1 with
      | @lst a xs _ hs ha => exact fin a xs (.inl hs) ha
def minKD (k : PyData → Prop) (ds : List PyData) (z : PyData) : Prop := Cmpb ds ∧ (ds = [] → k z) ∧ ∀ x es, ds = x :: es → k (minD x es)
def maxKD (k : PyData → Prop) (ds : List PyData) (z : PyData) : Prop := Cmpb ds ∧ (ds = [] → k z) ∧ ∀ x es, ds = x :: es → k (maxD x es)
theorem dx_minGD {K' : PySem.W.Frag} {td : TE} [e : Lkk K' C.K] (h : Dx C G O t (isQ fun ds => Dx C G O td fun z => minKD k ds z)) : Dx C G O (tCKw (rMinGD K') (tCons t tNil) (tCons td tNil)) k := fun X F H σ Q r c => by
  rw [e.h]
  exact h X F H σ _ r fun F1 v H1 d s1 r1 p1 ⟨ds, ed, h2⟩ => h2 X F1 H1 σ _ r1 fun F2 w H2 z s2 r2 p2 ⟨cb, q0, q⟩ => by
    have fin : ∀ (a : Addr) (xs : List V), (SqL C.K F2 a xs ∨ SqT C.K F2 a xs) → DpAll C.K F2 xs ds → rMinGD C.K [V.ref a] [w] H2 Q := fun a xs hs ha =>
      ⟨a, xs, w, ds, rfl, rfl, hs.elim (fun z => .inl (r2.q.sub.seq z)) (fun z => .inr (Same.tup r2.q.sub z)), DpAll.mono r2.q.sub _ _ ha, cb, fun e => c F2 w H2 z (s1.trans s2) r2 p2 (q0 e), fun x es i v e e1 e2 => by
        obtain ⟨d, hd, pd⟩ := dpAll_get ha e1
        rw [e2] at hd; cases hd
        exact c F2 v H2 _ (s1.trans s2) r2 pd (q x es e)⟩
    rcases ed with ed | ed
    · subst ed
      cases Dp.mono s2.sf _ _ p1 with
      | @tup a xs _ hs ha => exact fin a xs (.inr hs) ha
    · subst ed
      cases Dp.mono s2.sf _ _ p1 with
      | @lst a xs _ hs ha => exact fin a xs (.inl hs) ha
theorem dx_maxGD {K' : PySem.W.Frag} {td : TE} [e : Lkk K' C.K] (h : Dx C G O t (isQ fun ds => Dx C G O td fun z => maxKD k ds z)) : Dx C G O (tCKw (rMaxGD K') (tCons t tNil) (tCons td tNil)) k := fun X F H σ Q r c => by
  rw [e.h]
  exact h X F H σ _ r fun F1 v H1 d s1 r1 p1 ⟨ds, ed, h2⟩ => h2 X F1 H1 σ _ r1 fun F2 w H2 z s2 r2 p2 ⟨cb, q0, q⟩ => by
    have fin : ∀ (a : Addr) (xs : List V), (SqL C.K F2 a xs ∨ SqT C.K F2 a xs) → DpAll C.K F2 xs ds → rMaxGD C.K [V.ref a] [w] H2 Q := fun a xs hs ha =>
      ⟨a, xs, w, ds, rfl, rfl, hs.elim (fun z => .inl (r2.q.sub.seq z)) (fun z => .inr (Same.tup r2.q.sub z)), DpAll.mono r2.q.sub _ _ ha, cb, fun e => c F2 w H2 z (s1.trans s2) r2 p2 (q0 e), fun x es i v e e1 e2 => by
        obtain ⟨d, hd, pd⟩ := dpAll_get ha e1
        rw [e2] at hd; cases hd
        exact c F2 v H2 _ (s1.trans s2) r2 pd (q x es e)⟩
    rcases ed with ed | ed
    · subst ed
      cases Dp.mono s2.sf _ _ p1 with
      | @tup a xs _ hs ha => exact fin a xs (.inr hs) ha
    · subst ed
      cases Dp.mono s2.sf _ _ p1 with
      | @lst a xs _ hs ha => exact fin a xs (.inl hs) ha
instance s_minG {K' : PySem.W.Frag} [e : Lkk K' C.K] : Stp (Dx C G O (tCB (rMinG K') (tCons t tNil)) k) (Dx C G O t (isQ (minK k))) := ⟨dx_minG⟩
instance s_maxG {K' : PySem.W.Frag} [e : Lkk K' C.K] : Stp (Dx C G O (tCB (rMaxG K') (tCons t tNil)) k) (Dx C G O t (isQ (maxK k))) := ⟨dx_maxG⟩
instance s_minGD {K' : PySem.W.Frag} {td : TE} [e : Lkk K' C.K] : Stp (Dx C G O (tCKw (rMinGD K') (tCons t tNil) (tCons td tNil)) k) (Dx C G O t (isQ fun ds => Dx C G O td fun z => minKD k ds z)) := ⟨dx_minGD⟩
instance s_maxGD {K' : PySem.W.Frag} {td : TE} [e : Lkk K' C.K] : Stp (Dx C G O (tCKw (rMaxGD K') (tCons t tNil) (tCons td tNil)) k) (Dx C G O t (isQ fun ds => Dx C G O td fun z => maxKD k ds z)) := ⟨dx_maxGD⟩
def sortK (k : List Sv → Prop) (ds : List PyData) : Prop := Cmpb ds ∧ Sortable ds ∧ k ((sortD false ds).map Sv.dat)
theorem dl_sortG {K' : PySem.W.Frag} {k : List Sv → Prop} [e : Lkk K' C.K] (h : Dx C G O t (isLs (sortK k))) : Dl C G O (tCB (rSortG K') (tCons t tNil)) k := fun X F H σ Q r c => by
  rw [e.h]
  exact h X F H σ _ r fun F1 v H1 d s1 r1 p1 ⟨ds, ed, cb, so, q⟩ => by
    subst ed
    cases p1 with
    | @lst a xs _ hs ha =>
      exact ⟨a, xs, ds, rfl, r1.q.sub.seq hs, DpAll.mono r1.q.sub _ _ ha, cb, so, fun p zs np hz => c F1 p _ _ (s1.trans (r1.gn np)) (r1.q.h0 np) (r1.newO (ob := .lst ((sortD false ds).map Sv.dat)) np ⟨zs, rfl, Paired.ofAll (hz F1 ha)⟩) q⟩
instance s_sortX {K' : PySem.W.Frag} [e : Lkk K' C.K] : Stp (Dx C G O (tCB (rSortG K') (tCons t tNil)) k) (Dx C G O t (isLs (sortK fun ss => ∃ ds : List PyData, ss = ds.map Sv.dat ∧ k (.list ds)))) := ⟨fun h => dx_dl (dl_sortG h)⟩
/-! ### lists made, of data -/
theorem dx_lstD {u : TA} (h : Dd C G O u fun ds => szk ds.length (k (.list ds))) : Dx C G O (tLst u) k := dx_dl (dl_lst (da_dd fun X F H σ Q r c => h X F H σ Q r fun F' vs H' ds g r' p q => c F' vs H' ds g r' p ⟨by rw [List.length_map]; exact q.1, ds, rfl, q.2⟩))
instance s_lstD {u : TA} : Stp (Dx C G O (tLst u) k) (Dd C G O u fun ds => szk ds.length (k (.list ds))) := ⟨dx_lstD⟩
/-- a comprehension, frozen -/
instance (priority := low) s_lcX {wi : TI} {g : TG} {tt : TT} {te : TE} {vs : List Nat} : Stp (Dx C G O (tLc wi g tt te vs) k) (Dl C G O (tLc wi g tt te vs) fun ss => ∃ ds : List PyData, ss = ds.map Sv.dat ∧ k (.list ds)) := ⟨dx_dl⟩
/-! ### bits -/
theorem dx_and2 {ta tb : TE} (h : Dx C G O ta (isI fun i => Dx C G O tb (isI fun j => k (.int (Builtin.bitAnd i j))))) : Dx C G O (tOp (rI0 fun i j => V.int (Builtin.bitAnd i j)) ta tb) k := dx_rI0 (g := fun i j => Builtin.bitAnd i j) h
instance s_and2 {ta tb : TE} : Stp (Dx C G O (tOp (rI0 fun i j => V.int (Builtin.bitAnd i j)) ta tb) k) (Dx C G O ta (isI fun i => Dx C G O tb (isI fun j => k (.int (Builtin.bitAnd i j))))) := ⟨dx_and2⟩
instance s_shl {ta tb : TE} : Stp (Dx C G O (tOp (rI CPow fun i j => V.int (i * 2 ^ j.toNat)) ta tb) k) (Dx C G O ta (isI fun i => Dx C G O tb (isI fun j => CPow i j ∧ k (.int (i * 2 ^ j.toNat))))) := ⟨dx_rI (g := fun i j => i * 2 ^ j.toNat)⟩
instance s_shr {ta tb : TE} : Stp (Dx C G O (tOp (rI (fun _ j => 0 ≤ j) fun i j => V.int (i / 2 ^ j.toNat)) ta tb) k) (Dx C G O ta (isI fun i => Dx C G O tb (isI fun j => 0 ≤ j ∧ k (.int (i / 2 ^ j.toNat))))) := ⟨dx_rI (P := fun _ j => 0 ≤ j) (g := fun i j => i / 2 ^ j.toNat)⟩
theorem dx_bits (h : Dx C G O t (isI fun i => k (.int (Builtin.Int.intBits i : Nat)))) : Dx C G O (tBits t) k := fun X F H σ Q r c =>
  h X F H σ _ r fun F1 v H1 d s1 r1 p1 ⟨i, e, q⟩ => by
    subst e; cases p1
    exact ⟨i, rfl, c F1 _ H1 _ s1 r1 (.int _) q⟩
instance s_bits : Stp (Dx C G O (tBits t) k) (Dx C G O t (isI fun i => k (.int (Builtin.Int.intBits i : Nat)))) := ⟨dx_bits⟩
/-! ### truth -/
def truD : PyData → Option Bool
  | .none => some false
  | .bool b => some b
  | .int i => some (i != 0)
  | .tuple ds => some (!ds.isEmpty)
  | .list ds => some (!ds.isEmpty)
  | _ => none
structure truK (k : Bool → Prop) (d : PyData) : Prop where
  ex : ∃ b, truD d = some b ∧ k b
theorem dt_tru {K' : PySem.W.Frag} {k : Bool → Prop} [e : Lkk K' C.K] (h : Dx C G O t (truK k)) : Dt C G O (Ln.tTruK K' t) k := fun X F H σ Q r c => by
  rw [e.h]
  exact h X F H σ _ r fun F1 v H1 d s1 r1 p1 ⟨b, e, q⟩ => by
    refine ⟨b, ?_, c F1 b H1 s1 r1 q⟩
    cases p1 with
    | non => cases e; rfl
    | bl b => cases e; rfl
    | int i => cases e; rfl
    | str x => cases e
    | @lst a xs ds hs ha =>
      cases e
      refine .inl ⟨xs, r1.q.sub.seq hs, ?_⟩
      have := dpAll_len ha
      cases xs <;> cases ds <;> first | rfl | cases this
    | @tup a xs ds hs ha =>
      cases e
      refine .inr (.inl ⟨xs, Same.tup r1.q.sub hs, ?_⟩)
      have := dpAll_len ha
      cases xs <;> cases ds <;> first | rfl | cases this
instance s_tru {K' : PySem.W.Frag} {k : Bool → Prop} [e : Lkk K' C.K] : Stp (Dt C G O (Ln.tTruK K' t) k) (Dx C G O t (truK k)) := ⟨dt_tru⟩
instance s_trub {k : Bool → Prop} {b : Bool} : Stp (truK k (.bool b)) (k b) := ⟨fun h => ⟨b, rfl, h⟩⟩
instance s_trui {k : Bool → Prop} {b : Int} : Stp (truK k (.int b)) (k (b != 0)) := ⟨fun h => ⟨_, rfl, h⟩⟩
instance s_trun {k : Bool → Prop} : Stp (truK k .none) (k false) := ⟨fun h => ⟨_, rfl, h⟩⟩
instance s_trut {k : Bool → Prop} {ds : List PyData} : Stp (truK k (.tuple ds)) (k (!ds.isEmpty)) := ⟨fun h => ⟨_, rfl, h⟩⟩
instance s_trul {k : Bool → Prop} {ds : List PyData} : Stp (truK k (.list ds)) (k (!ds.isEmpty)) := ⟨fun h => ⟨_, rfl, h⟩⟩
theorem dpAll_strs {K : PySem.W.Frag} {F : Hp} : ∀ {us : List V} {xs : List Str}, DpAll K F us (xs.map .str) → us = xs.map V.str
  | _, [], .nil => rfl
  | _, x :: xs, .cons a b => by cases a; rw [dpAll_strs b]; rfl
theorem dpAll_ints {K : PySem.W.Frag} {F : Hp} : ∀ {us : List V} {xs : List Int}, DpAll K F us (xs.map .int) → us = xs.map V.int
  | _, [], .nil => rfl
  | _, x :: xs, .cons a b => by cases a; rw [dpAll_ints b]; rfl
end
end Dl
set_option Elab.async false
set_option autoImplicit false
set_option linter.all false
set_option maxRecDepth 100000
set_option maxHeartbeats 4000000
/-! lists within lists, reversed lists, and bits of numbers -/
namespace Dl
open PySem PySem.Spec PyProof.Rows L2 Ln
/-! ## what one's own thing reads as -/
mutual
inductive OwD (O : Ow) : Sv → PyData → Prop
  | dat (d : PyData) : OwD O (.dat d) d
  | ptr {D : Addr} {ss : List Sv} {ds : List PyData} (m : (D, Ob.lst ss) ∈ O) (h : OwDs O ss ds) : OwD O (.ptr D) (.list ds)
inductive OwDs (O : Ow) : List Sv → List PyData → Prop
  | nil : OwDs O [] []
  | cons {s : Sv} {d : PyData} {ss : List Sv} {ds : List PyData} (a : OwD O s d) (b : OwDs O ss ds) : OwDs O (s :: ss) (d :: ds)
end
mutual
theorem OwD.dp {C : Cy} {F H : Hp} {σ : L2.St} {G : List Sv} {O X : Ow} (r : Rp C F H σ G (O ++ X)) : ∀ {s : Sv} {d : PyData} {v : V}, OwD O s d → SvOk C.K F v s → Dp C.K H v d
  | _, _, _, .dat d, p => Dp.mono r.q.sub _ _ p
  | _, _, _, .ptr (D := D) m h, p => by
    cases p
    obtain ⟨_, _, _, u, e, xs, rfl, k⟩ := r.ow D _ (List.mem_append_left _ m)
    exact .lst (SqL.of e) (OwDs.dp r h k)
theorem OwDs.dp {C : Cy} {F H : Hp} {σ : L2.St} {G : List Sv} {O X : Ow} (r : Rp C F H σ G (O ++ X)) : ∀ {ss : List Sv} {ds : List PyData} {vs : List V}, OwDs O ss ds → Paired (SvOk C.K F) vs ss → DpAll C.K H vs ds
  | _, _, _, .nil, .nil => .nil
  | _, _, _, .cons a b, .cons p q => .cons (OwD.dp r a p) (OwDs.dp r b q)
end
section
variable {C : Cy} {G : List Sv} {O : Ow} {t ta tb : TE} {k : PyData → Prop}
theorem dx_eqO (h : Dv C G O ta fun a => Dv C G O tb fun b => ∃ d e, OwD O a d ∧ OwD O b e ∧ SeqAt.shaped d = true ∧ SeqAt.shaped e = true ∧ k (.bool (PyData.eqv d e))) : Dx C G O (tOp (rEqD C.K) ta tb) k := fun X F H σ Q r c =>
  h X F H σ _ r fun F1 v H1 s s1 r1 p1 h2 => h2 X F1 H1 σ _ r1 fun F2 w H2 s' s2 r2 p2 ⟨d, e, o1, o2, e1, e2, q⟩ =>
    ⟨d, e, o1.dp r2 (p1.mono s2.sf), o2.dp r2 p2, e1, e2, c F2 _ H2 _ (s1.trans s2) r2 (.bl _) q⟩
theorem dx_neO (h : Dv C G O ta fun a => Dv C G O tb fun b => ∃ d e, OwD O a d ∧ OwD O b e ∧ SeqAt.shaped d = true ∧ SeqAt.shaped e = true ∧ k (.bool (!PyData.eqv d e))) : Dx C G O (tOp (rNeD C.K) ta tb) k := fun X F H σ Q r c =>
  h X F H σ _ r fun F1 v H1 s s1 r1 p1 h2 => h2 X F1 H1 σ _ r1 fun F2 w H2 s' s2 r2 p2 ⟨d, e, o1, o2, e1, e2, q⟩ =>
    ⟨d, e, o1.dp r2 (p1.mono s2.sf), o2.dp r2 p2, e1, e2, c F2 _ H2 _ (s1.trans s2) r2 (.bl _) q⟩
/-- t.append(e), t any expression that is a list of one's own -/
theorem ds_appendV {E : En} {K' : PySem.W.Frag} (h : Dv C G O ta fun s => ∃ D n ss, s = .ptr D ∧ O[n]? = some (D, .lst ss) ∧ ss.length < sizeLine ∧ Dv C G O tb fun s => E.nx G (O.set n (D, .lst (ss ++ [s])))) (hK : K' = C.K := by with_unfolding_all rfl) : Ds C G O (tDrop (tBM K' "list" rAppend ta (tCons tb tNil))) E := fun X F H σ D' r n1 _ _ _ => by
  subst hK
  refine h X F H σ _ r fun F1 v H1 s s1 r1 p1 ⟨D, n, ss, es, hO, hz, h2⟩ => ?_
  subst es; cases p1
  obtain ⟨w, e, xs, rfl, p⟩ := r1.obj (app_get (X := X) hO)
  refine ⟨.inl ⟨rfl, xs, SqL.of e⟩, h2 X F1 H1 σ _ r1 fun F2 v H2 s s2 r2 p2 q => ?_⟩
  obtain ⟨w, e, xs, rfl, p⟩ := r2.obj (app_get (X := X) hO)
  refine ⟨D, xs, v, rfl, rfl, e, by rw [Paired.length p]; exact hz, ?_⟩
  have r3 := r2.wr (app_get (X := X) hO) (ob' := .lst (ss ++ [s])) (u := .lst (xs ++ [v])) ⟨_, rfl, Paired.snoc p p2⟩
  rw [app_set hO] at r3
  exact n1 F2 σ _ G _ (s1.trans s2).sf r3 q
/-! ## reversed -/
theorem dpAll_snoc {K : PySem.W.Frag} {F : Hp} {v : V} {d : PyData} : ∀ {vs : List V} {ds : List PyData}, DpAll K F vs ds → Dp K F v d → DpAll K F (vs ++ [v]) (ds ++ [d])
  | _, _, .nil, h => .cons h .nil
  | _, _, .cons a b, h => .cons a (dpAll_snoc b h)
theorem dpAll_rev {K : PySem.W.Frag} {F : Hp} : ∀ {vs : List V} {ds : List PyData}, DpAll K F vs ds → DpAll K F vs.reverse ds.reverse
  | _, _, .nil => .nil
  | _, _, .cons a b => by rw [List.reverse_cons, List.reverse_cons]; exact dpAll_snoc (dpAll_rev b) a
theorem dx_revT {K' : PySem.W.Frag} [e : Lkk K' C.K] (h : Dx C G O t (isT fun ds => k (.tuple ds.reverse))) : Dx C G O (tRevT K' t) k := fun X F H σ Q r c => by
  rw [e.h]
  exact h X F H σ _ r fun F1 v H1 d s1 r1 p1 ⟨ds, ed, q⟩ => by
    subst ed
    cases p1 with
    | @tup a xs _ hs ha =>
      refine ⟨a, xs, rfl, Same.tup r1.q.sub hs, fun p np => ?_⟩
      have r2 := r1.newF (o := .tup xs.reverse) np
      have s2 := r1.gm (o := .tup xs.reverse) np
      exact c _ _ _ _ (s1.trans s2) r2 (.tup (SqT.of upd_same) (DpAll.mono s2.sf _ _ (dpAll_rev ha))) q
instance s_revT {K' : PySem.W.Frag} [e : Lkk K' C.K] : Stp (Dx C G O (tRevT K' t) k) (Dx C G O t (isT fun ds => k (.tuple ds.reverse))) := ⟨dx_revT⟩
theorem paired_rev {α β : Type} {R : α → β → Prop} {xs : List α} {ys : List β} (h : Paired R xs ys) : Paired R xs.reverse ys.reverse := by
  induction h with
  | nil => exact .nil
  | cons a b ih => rw [List.reverse_cons, List.reverse_cons]; exact Paired.snoc ih a
/-- of a list of one's own -/
theorem dl_revLO {K' : PySem.W.Frag} {i n : Nat} {D : Addr} {ss : List Sv} {k : List Sv → Prop} [e : Lkk K' C.K] (hG : G[i]? = some (.ptr D)) (hO : O[n]? = some (D, .lst ss)) (q : k ss.reverse) : Dl C G O (tRevL K' (tVar i)) k := fun X F H σ Q r c => by
  rw [e.h]
  obtain ⟨v, a, b⟩ := r.get hG (fun z => by cases z)
  cases b
  obtain ⟨u, e, xs, rfl, p⟩ := r.obj (app_get (X := X) hO)
  exact ⟨_, a, D, xs, rfl, SqL.of e, fun l nl => c F l _ _ (r.gn nl) (r.q.h0 nl) (r.newO (ob := .lst ss.reverse) nl ⟨_, rfl, paired_rev p⟩) q⟩
instance s_retRev {K' : PySem.W.Frag} {E : En} {i n : Nat} {D : Addr} {ss : List Sv} [e : Lkk K' C.K] [e1 : Lk G i (.ptr D)] [e2 : Ok O D n (.lst ss)] : Stp (Ds C G O (tRet (tRevL K' (tVar i))) E) (E.rt (.l ss.reverse)) := ⟨fun h => ds_retL (dl_revLO e1.h e2.h h)⟩
/-! ## lists within a list are frozen -/
theorem Rp.melt {H : Hp} {σ : L2.St} {P : Addr} : ∀ {rows : List (Addr × List PyData)} {ds0 : List PyData} {F : Hp} {O2 : Ow}, (∀ r ∈ rows, C.H0 r.1 = none) → Rp C F H σ G ((P, .lst (ds0.map Sv.dat ++ rows.map fun r => Sv.ptr r.1)) :: (rows.map (fun r => (r.1, Ob.lst (r.2.map Sv.dat))) ++ O2)) →
    ∃ F', Same F F' ∧ Rp C F' H σ G ((P, .lst ((ds0 ++ rows.map fun r => PyData.list r.2).map Sv.dat)) :: O2)
  | [], ds0, F, O2, _, r => ⟨F, Same.refl F, by simpa using r⟩
  | (D, es) :: rows, ds0, F, O2, h0, r => by
    obtain ⟨F1, u, s1, e1, ⟨xs, rfl, p⟩, r1⟩ := r.frz (n := 1) (D := D) (ob := .lst (es.map Sv.dat)) (h0 (D, es) List.mem_cons_self) rfl
    have r1 : Rp C F1 H σ G ((P, .lst (ds0.map Sv.dat ++ (Sv.ptr D :: rows.map fun r => Sv.ptr r.1))) :: (rows.map (fun r => (r.1, Ob.lst (r.2.map Sv.dat))) ++ O2)) := r1
    have r2 : Rp C F1 H σ G ((P, .lst ((ds0 ++ [PyData.list es]).map Sv.dat ++ rows.map fun r => Sv.ptr r.1)) :: (rows.map (fun r => (r.1, Ob.lst (r.2.map Sv.dat))) ++ O2)) := by
      refine ⟨r1.q, r1.len, r1.sl, fun D' ob m => ?_, r1.nd⟩
      rcases List.mem_cons.mp m with m | m
      · cases m
        obtain ⟨a, b, c, u, eu, xs', rfl, pp⟩ := r1.ow P _ List.mem_cons_self
        refine ⟨a, b, c, _, eu, xs', rfl, ?_⟩
        rw [List.map_append, List.append_assoc]
        have gen : ∀ {as : List Sv} {zs : List V} {bs : List Sv}, Paired (SvOk C.K F1) zs (as ++ Sv.ptr D :: bs) → Paired (SvOk C.K F1) zs (as ++ ([PyData.list es].map Sv.dat ++ bs)) := by
          intro as
          induction as with
          | nil => intro zs bs h; cases h with
            | cons a b => cases a; exact .cons (.lst (SqL.of e1) (Paired.det p rfl)) b
          | cons a as ih => intro zs bs h; cases h with
            | cons a b => exact .cons a (ih b)
        exact gen pp
      · exact r1.ow D' ob (List.mem_cons_of_mem _ m)
    obtain ⟨F2, s2, r3⟩ := Rp.melt (fun r hr => h0 r (List.mem_cons_of_mem _ hr)) r2
    exact ⟨F2, s1.trans s2, by simpa using r3⟩
theorem ds_melt {t : TS} {E : En} {i : Nat} {P : Addr} {rows : List (Addr × List PyData)} {O2 : Ow} (h0 : ∀ r ∈ rows, C.H0 r.1 = none) (hP : C.H0 P = none) (hG : G[i]? = some (.ptr P)) (h : Ds C (G.set i (.dat (.list (rows.map fun r => PyData.list r.2)))) O2 t E) : Ds C G ((P, .lst (rows.map fun r => Sv.ptr r.1)) :: (rows.map (fun r => (r.1, Ob.lst (r.2.map Sv.dat))) ++ O2)) t E := fun X F H σ D r n1 n2 n3 n4 => by
  have r' : Rp C F H σ G ((P, .lst (([] : List PyData).map Sv.dat ++ rows.map fun r => Sv.ptr r.1)) :: (rows.map (fun r => (r.1, Ob.lst (r.2.map Sv.dat))) ++ (O2 ++ X))) := by
    rw [← List.append_assoc]; exact r
  obtain ⟨F1, s1, r1⟩ := Rp.melt h0 r'
  have hh : Ds C G ((P, .lst ((rows.map fun r => PyData.list r.2).map Sv.dat)) :: O2) t E := ds_frz (n := 0) rfl hG hP h
  exact hh X F1 H σ D r1 (n1.mono s1) (n2.mono s1) (n3.mono s1) (n4.mono s1)
end
/-! ## bits -/
theorem bitAnd_nn (m n : Nat) : Builtin.bitAnd (m : Int) (n : Int) = ((m &&& n : Nat) : Int) := by
  unfold Builtin.bitAnd
  rw [decide_eq_true (Int.natCast_nonneg m), decide_eq_true (Int.natCast_nonneg n)]
  rfl
theorem and_pow_pos (n p : Nat) : decide (0 < n &&& 2 ^ p) = n.testBit p := by
  have h : n &&& 2 ^ p = if n.testBit p then 2 ^ p else 0 := by
    refine Nat.eq_of_testBit_eq fun i => ?_
    rw [Nat.testBit_and, Nat.testBit_two_pow]
    by_cases e : p = i
    · subst e
      cases n.testBit p <;> simp [Nat.testBit_two_pow]
    · rw [decide_eq_false e, Bool.and_false]
      cases n.testBit p <;> simp [Nat.testBit_two_pow, e]
  rw [h]
  cases n.testBit p
  · rfl
  · simpa using Nat.two_pow_pos p
theorem bit_test (n p : Nat) : decide (0 < Builtin.bitAnd (n : Int) ((1 : Int) * 2 ^ p)) = n.testBit p := by
  rw [show ((1 : Int) * 2 ^ p) = ((2 ^ p : Nat) : Int) by rw [Int.one_mul, Int.natCast_pow]; rfl, bitAnd_nn, ← and_pow_pos]
  exact decide_eq_decide.mpr (by omega)
theorem bit_low (n : Nat) : Builtin.bitAnd (n : Int) 1 = ((n % 2 : Nat) : Int) := by
  rw [show (1 : Int) = ((1 : Nat) : Int) from rfl, bitAnd_nn, Nat.and_one_is_mod]
theorem shr_nat (n p : Nat) : (n : Int) / (2 : Int) ^ p = ((n / 2 ^ p : Nat) : Int) := by
  rw [Int.natCast_ediv, Int.natCast_pow]; rfl
theorem bit_shr (n p : Nat) : decide (Builtin.bitAnd ((n : Int) / (2 : Int) ^ p) 1 = 1) = n.testBit p := by
  rw [shr_nat, bit_low, Nat.testBit_eq_decide_div_mod_eq]
  exact decide_eq_decide.mpr (by omega)
/-- the bits, from the least on -/
def bitsOf (n : Nat) : List Nat := (List.range (Builtin.Int.intBits (n : Int))).filter n.testBit
theorem intBits_lt (n : Nat) : n < 2 ^ Builtin.Int.intBits (n : Int) := by
  unfold Builtin.Int.intBits
  by_cases h : n = 0
  · subst h; decide
  · rw [if_neg (by simpa using h)]
    exact Nat.lt_log2_self
theorem testBit_lt {n i G : Nat} (h : n < 2 ^ G) (b : n.testBit i = true) : i < G := by
  refine Nat.lt_of_not_le fun z => ?_
  rw [Nat.testBit_lt_two_pow (Nat.lt_of_lt_of_le h (Nat.pow_le_pow_right (by decide) z))] at b
  cases b
theorem filter_range_ext {p : Nat → Bool} : ∀ (m n : Nat), m ≤ n → (∀ i, m ≤ i → p i = false) → (List.range n).filter p = (List.range m).filter p
  | m, n, h, hp => by
    obtain ⟨d, rfl⟩ := Nat.exists_eq_add_of_le h
    clear h
    induction d with
    | zero => rfl
    | succ d ih =>
      rw [← Nat.add_assoc, List.range_succ, List.filter_append, ih]
      simp [hp (m + d) (by omega)]
theorem bitsOf_range {n G : Nat} (h : n < 2 ^ G) : (List.range G).filter n.testBit = bitsOf n := by
  unfold bitsOf
  have a : ∀ m, n < 2 ^ m → ∀ i, m ≤ i → n.testBit i = false := fun m hm i hi => Nat.testBit_lt_two_pow (Nat.lt_of_lt_of_le hm (Nat.pow_le_pow_right (by decide) hi))
  by_cases z : G ≤ Builtin.Int.intBits (n : Int)
  · rw [filter_range_ext _ _ z (a G h)]
  · rw [filter_range_ext _ _ (by omega) (a _ (intBits_lt n))]
theorem mem_bitsOf {n i : Nat} : i ∈ bitsOf n ↔ n.testBit i = true := by
  unfold bitsOf
  rw [List.mem_filter, List.mem_range]
  exact ⟨fun h => h.2, fun h => ⟨testBit_lt (intBits_lt n) h, h⟩⟩
theorem bitsOf_nodup (n : Nat) : (bitsOf n).Nodup := List.Nodup.sublist List.filter_sublist List.nodup_range
theorem bit_le {n p : Nat} (h : n.testBit p = true) : 2 ^ p ≤ n := Nat.ge_two_pow_of_testBit h
theorem testBit_sub {n p : Nat} (h : n.testBit p = true) (q : Nat) : (n - 2 ^ p).testBit q = (n.testBit q && decide (q ≠ p)) := by
  have e : n = 2 ^ p * (n / 2 ^ p) + n % 2 ^ p := (Nat.div_add_mod n (2 ^ p)).symm
  have hb : n % 2 ^ p < 2 ^ p := Nat.mod_lt _ (Nat.two_pow_pos p)
  have ho : (n / 2 ^ p) % 2 = 1 := by
    rw [Nat.testBit_eq_decide_div_mod_eq] at h
    exact of_decide_eq_true h
  obtain ⟨a, ha⟩ : ∃ a, n / 2 ^ p = 2 * a + 1 := ⟨n / 2 ^ p / 2, by omega⟩
  rw [ha] at e
  have e2 : n - 2 ^ p = 2 ^ p * (2 * a) + n % 2 ^ p := by
    rw [Nat.mul_add, Nat.mul_one] at e
    omega
  rw [e2]
  conv => rhs; rw [e]
  rw [Nat.testBit_two_pow_mul_add _ hb, Nat.testBit_two_pow_mul_add _ hb]
  by_cases c : q < p
  · rw [if_pos c, if_pos c, decide_eq_true (by omega), Bool.and_true]
  · rw [if_neg c, if_neg c]
    by_cases z : q = p
    · subst z
      rw [Nat.sub_self, decide_eq_false (by omega), Bool.and_false, Nat.testBit_zero]
      exact decide_eq_false (by omega)
    · rw [decide_eq_true z, Bool.and_true]
      obtain ⟨m, hm⟩ : ∃ m, q - p = m + 1 := ⟨q - p - 1, by omega⟩
      rw [hm, Nat.testBit_succ, Nat.testBit_succ, show 2 * a / 2 = (2 * a + 1) / 2 by omega]
theorem bitsOf_sub {n p : Nat} (h : n.testBit p = true) : (p :: bitsOf (n - 2 ^ p)).Perm (bitsOf n) := by
  refine (List.perm_ext_iff_of_nodup ?_ (bitsOf_nodup n)).mpr fun q => ?_
  · rw [List.nodup_cons]
    exact ⟨fun m => by rw [mem_bitsOf, testBit_sub h] at m; simp at m, bitsOf_nodup _⟩
  · rw [List.mem_cons, mem_bitsOf, mem_bitsOf, testBit_sub h]
    by_cases z : q = p
    · subst z; simp [h]
    · simp [z]
theorem bitsOf_zero : bitsOf 0 = [] := by decide
theorem bitsOf_ne {n : Nat} (h : 0 < n) : bitsOf n ≠ [] := by
  intro e
  obtain ⟨i, hi⟩ := Nat.exists_testBit_of_ne_zero (by omega : n ≠ 0)
  have := mem_bitsOf.mpr hi
  rw [e] at this
  cases this
end Dl
namespace Dl
open PySem PySem.Spec PyProof.Rows L2 Ln PySem.W
section
variable {C : Cy} {G : List Sv} {O : Ow} {ta : TA} {n : Nat} {W : Wt} {ES : L2.St → XK} {ke : Ke}
/-- a call's value or its new list, frozen -/
theorem dx_callB {k : PyData → Prop} (hE : ∀ σ, EOk C (ES σ) ke) (h : Da C G O ta fun as => as.length = n ∧ W as (fun r => match r with | .v s => isD k s | .l ss => ∃ ds : List PyData, ss = ds.map Sv.dat ∧ k (.list ds)) ke) : Dx C G O (Ln.tCg (spP C.K n W) ES ta) k := fun X F H σ Q r c =>
  h X F H σ _ r fun F1 vs H1 as s1 r1 p ⟨e, w⟩ => by
    refine ⟨by rw [Paired.length p]; exact e, F1, as, _, ke, r1.q.sub, r1.q.tup, p, w, ?_, ?_, fun F' cls dx H' fs es b nd hd p q => ke_of hE r1 b nd hd p q⟩
    · intro F' v H' s b sv q
      obtain ⟨d, rfl, q⟩ := q
      exact c F' v H' d (s1.trans (r1.gb b)) (r1.called b) sv q
    · intro F' D H' xs ss b nd nf hD pp q
      obtain ⟨ds, rfl, q⟩ := q
      have r2 := r1.called b
      have r3 : Rp C F' H' σ G ((D, .lst (ds.map Sv.dat)) :: (O ++ X)) := by
        refine ⟨r2.q, r2.len, r2.sl, ?_, ?_⟩
        · intro D' ob m
          rcases List.mem_cons.mp m with m | m
          · cases m
            exact ⟨.inr (r1.q.h0 nd), nf, r1.q.nA nd, _, hD, xs, rfl, pp⟩
          · exact r2.ow D' ob m
        · rw [List.map_cons, List.nodup_cons]
          refine ⟨fun m => ?_, r2.nd⟩
          obtain ⟨⟨D', ob⟩, m', e'⟩ := List.mem_map.mp m
          obtain ⟨_, _, _, u, e1, _⟩ := r1.ow D' ob m'
          have e' : D' = D := e'
          rw [e', nd] at e1
          cases e1
      obtain ⟨F2, u, s2, e, ⟨xs', rfl, p'⟩, r4⟩ := r3.frz (n := 0) (ob := .lst (ds.map Sv.dat)) (r1.q.h0 nd) rfl
      exact c F2 (.ref D) H' (.list ds) ((s1.trans (r1.gb b)).trans (Gw.of s2)) r4 (.lst (SqL.of e) (Paired.det p' rfl)) q
theorem dx_callBP {k : PyData → Prop} (h : Da C G O ta fun as => as.length = n ∧ W as (fun r => match r with | .v s => isD k s | .l ss => ∃ ds : List PyData, ss = ds.map Sv.dat ∧ k (.list ds)) (fun _ _ => False)) : Dx C G O (Ln.tCg (spP C.K n W) ES ta) k := dx_callB (ke := fun _ _ => False) (fun σ => EOk.none C _) h
/-- what may leave a call, and be asked for -/
class EkI (C : Cy) (ES : L2.St → XK) (ke : outParam Ke) : Prop where
  h : ∀ σ, EOk C (ES σ) ke
instance (priority := low) ekFalse {C : Cy} {ES : L2.St → XK} : EkI C ES (fun _ _ => False) := ⟨fun σ => EOk.none C _⟩
theorem EkI.of {C : Cy} {E : XK} {ke : Ke} (h : EOk C E ke) : EkI C (fun _ => E) ke := ⟨fun _ => h⟩
instance s_callB {K' : PySem.W.Frag} {k : PyData → Prop} {u : TA} [e : Lkk K' C.K] [e2 : EkI C ES ke] : Stp (Dx C G O (Ln.tCg (spP K' n W) ES u) k) (Da C G O u fun as => as.length = n ∧ W as (fun r => match r with | .v s => isD k s | .l ss => ∃ ds : List PyData, ss = ds.map Sv.dat ∧ k (.list ds)) ke) := ⟨by rw [e.h]; exact dx_callB e2.h⟩
instance s_callL {K' : PySem.W.Frag} {k : List Sv → Prop} {u : TA} [e : Lkk K' C.K] [e2 : EkI C ES ke] : Stp (Dl C G O (Ln.tCg (spP K' n W) ES u) k) (Da C G O u fun as => as.length = n ∧ W as (fun r => match r with | .v _ => False | .l ss => k ss) ke) := ⟨by rw [e.h]; exact dl_call e2.h⟩
instance s_callS {K' : PySem.W.Frag} {E : En} {u : TA} [e : Lkk K' C.K] [e2 : EkI C ES ke] : Stp (Ds C G O (tDrop (Ln.tCg (spP K' n W) ES u)) E) (Da C G O u fun as => as.length = n ∧ W as (fun r => match r with | .v s => E.nx G O | .l ss => False) ke) := ⟨by rw [e.h]; exact fun h => ds_drop (dv_call e2.h h)⟩
instance s_retC {K' : PySem.W.Frag} {E : En} {u : TA} [e : Lkk K' C.K] [e2 : EkI C ES ke] : Stp (Ds C G O (tRet (Ln.tCg (spP K' n W) ES u)) E) (Da C G O u fun as => as.length = n ∧ W as (fun r => match r with | .v s => E.rt (.v s) | .l ss => False) ke) := ⟨by rw [e.h]; exact fun h => ds_ret (dv_call e2.h h)⟩
end
/-! ## pairs of numbers -/
abbrev entD (e : Int × Int) : PyData := .tuple [.int e.1, .int e.2]
def ltE (a b : Int × Int) : Prop := a.1 < b.1 ∨ (a.1 = b.1 ∧ a.2 < b.2)
instance (a b : Int × Int) : Decidable (ltE a b) := by unfold ltE; infer_instance
def minE (x : Int × Int) (xs : List (Int × Int)) : Int × Int := xs.foldl (fun a y => if ltE y a then y else a) x
def maxE (x : Int × Int) (xs : List (Int × Int)) : Int × Int := xs.foldl (fun a y => if ltE a y then y else a) x
theorem lt_ent (a b : Int × Int) : dataLt (entD a) (entD b) = decide (ltE a b) := by
  unfold ltE
  rw [dataLt_ii]
theorem minD_ent : ∀ (xs : List (Int × Int)) (x : Int × Int), minD (entD x) (xs.map entD) = entD (minE x xs)
  | [], x => rfl
  | y :: ys, x => by
    show minD (if dataLt (entD y) (entD x) = true then entD y else entD x) (ys.map entD) = _
    rw [lt_ent, show (if decide (ltE y x) = true then entD y else entD x) = entD (if ltE y x then y else x) by by_cases c : ltE y x <;> simp [c], minD_ent ys]
    rfl
theorem maxD_ent : ∀ (xs : List (Int × Int)) (x : Int × Int), maxD (entD x) (xs.map entD) = entD (maxE x xs)
  | [], x => rfl
  | y :: ys, x => by
    show maxD (if dataLt (entD x) (entD y) = true then entD y else entD x) (ys.map entD) = _
    rw [lt_ent, show (if decide (ltE x y) = true then entD y else entD x) = entD (if ltE x y then y else x) by by_cases c : ltE x y <;> simp [c], maxD_ent ys]
    rfl
theorem depthAll_le {n : Nat} : ∀ {ds : List PyData}, (∀ d ∈ ds, d.depth ≤ n) → PyData.depthAll ds ≤ n
  | [], _ => by simp [PyData.depthAll]
  | d :: ds, h => by
    simp only [PyData.depthAll]
    exact Nat.max_le.mpr ⟨h d List.mem_cons_self, depthAll_le fun e he => h e (List.mem_cons_of_mem _ he)⟩
theorem Cmpb.of {ds : List PyData} (h : ∀ a ∈ ds, ∀ b ∈ ds, alike a b = true) (n : ∀ a ∈ ds, a ≠ .none) (d : ∀ a ∈ ds, a.depth ≤ 4) : Cmpb ds := ⟨⟨h, n⟩, depthAll_le d⟩
theorem cmpb_ent (xs : List (Int × Int)) : Cmpb (xs.map entD) := by
  refine Cmpb.of ?_ ?_ ?_
  · intro a ha b hb
    obtain ⟨x, _, rfl⟩ := List.mem_map.mp ha
    obtain ⟨y, _, rfl⟩ := List.mem_map.mp hb
    simp [alike, alikeAll]
  · intro a ha
    obtain ⟨x, _, rfl⟩ := List.mem_map.mp ha
    exact fun z => by cases z
  · intro a ha
    obtain ⟨x, _, rfl⟩ := List.mem_map.mp ha
    simp [PyData.depth, PyData.depthAll]
theorem minE_mem (x : Int × Int) (xs : List (Int × Int)) : minE x xs ∈ x :: xs := foldl_mem (fun a b => by by_cases c : ltE b a <;> simp [c]) xs x
theorem maxE_mem (x : Int × Int) (xs : List (Int × Int)) : maxE x xs ∈ x :: xs := foldl_mem (fun a b => by by_cases c : ltE a b <;> simp [c]) xs x
end Dl
namespace Dl
open PySem PySem.Spec PyProof.Rows L2 Ln PySem.W
theorem atI_map {α β : Type} {g : α → β} {xs : List α} {i : Int} {m : Nat} {x : α} (e : i = (m : Int)) (h : xs[m]? = some x) : atI (xs.map g) i = some (g x) := by
  rw [e]; exact atI_nat (by rw [List.getElem?_map, h]; rfl)
theorem bit_sub {n p : Nat} (h : n.testBit p = true) : (n : Int) - 1 * (2 : Int) ^ ((p : Int)).toNat = ((n - 2 ^ p : Nat) : Int) := by
  have := bit_le h
  rw [Int.toNat_natCast, Int.one_mul, Int.natCast_sub this, Int.natCast_pow]
  rfl
theorem get_getD {α : Type} {xs : List α} {m : Nat} {z : α} (h : m < xs.length) : xs[m]? = some (xs.getD m z) := by
  rw [List.getD_eq_getElem?_getD, List.getElem?_eq_getElem h]; rfl
end Dl
namespace Dl
open PySem PySem.Spec PyProof.Rows L2 Ln PySem.W
theorem isQ_of {k : List PyData → Prop} {td : PyData} {ds : List PyData} (h : td = .tuple ds ∨ td = .list ds) (q : k ds) : isQ k td := ⟨ds, h, q⟩
theorem minKD_ent {k : PyData → Prop} {xs : List (Int × Int)} {z : PyData} (h0 : xs = [] → k z) (h : ∀ y ys, xs = y :: ys → k (entD (minE y ys))) : minKD k (xs.map entD) z := by
  refine ⟨cmpb_ent xs, fun e => h0 (List.map_eq_nil_iff.mp e), fun x es e => ?_⟩
  cases xs with
  | nil => cases e
  | cons y ys =>
    cases e
    rw [minD_ent]
    exact h y ys rfl
theorem maxK_ent {k : PyData → Prop} {xs : List (Int × Int)} {y : Int × Int} {ys : List (Int × Int)} (e : xs = y :: ys) (h : k (entD (maxE y ys))) : maxK k (xs.map entD) := by
  subst e
  exact ⟨_, _, rfl, cmpb_ent _, by rw [maxD_ent]; exact h⟩
theorem minK_ent {k : PyData → Prop} {xs : List (Int × Int)} {y : Int × Int} {ys : List (Int × Int)} (e : xs = y :: ys) (h : k (entD (minE y ys))) : minK k (xs.map entD) := by
  subst e
  exact ⟨_, _, rfl, cmpb_ent _, by rw [minD_ent]; exact h⟩
end Dl
namespace Dl
open PySem PySem.Spec PyProof.Rows L2 Ln PySem.W
class Er (O : Ow) (n : Nat) (O' : outParam Ow) : Prop where
  h : O.eraseIdx n = O'
instance er0 {x : Addr × Ob} {O : Ow} : Er (x :: O) 0 O := ⟨rfl⟩
instance erS {x : Addr × Ob} {O O' : Ow} {i : Nat} [e : Er O i O'] : Er (x :: O) (i + 1) (x :: O') := ⟨by rw [List.eraseIdx_cons_succ, e.h]⟩
section
variable {C : Cy} {G G' : List Sv} {O O' : Ow} {t : TE} {k : PyData → Prop} {n : Nat} {D : Addr} {ds : List PyData}
theorem dx_lend (i : Nat) [e1 : Lk G i (.ptr D)] [e2 : Ok O D n (.lst (ds.map Sv.dat))] [e3 : St G i (.dat (.list ds)) G'] [e4 : Er O n O'] (h0 : C.H0 D = none) (h : Dx C G' O' t fun d => noLd d = true ∧ k d) : Dx C G O t k :=
  dx_bor e1.h e2.h h0 (by rw [e3.h, e4.h]; exact h)
theorem dt_lend (i : Nat) {u : TT} {k : Bool → Prop} [e1 : Lk G i (.ptr D)] [e2 : Ok O D n (.lst (ds.map Sv.dat))] [e3 : St G i (.dat (.list ds)) G'] [e4 : Er O n O'] (h0 : C.H0 D = none) (h : Dt C G' O' u k) : Dt C G O u k :=
  dt_bor e1.h e2.h h0 (by rw [e3.h, e4.h]; exact h)
/-- from here on it changes no more -/
theorem ds_keep (i : Nat) {t : TS} {E : En} [e1 : Lk G i (.ptr D)] [e2 : Ok O D n (.lst (ds.map Sv.dat))] [e3 : St G i (.dat (.list ds)) G'] [e4 : Er O n O'] (h0 : C.H0 D = none) (h : Ds C G' O' t E) : Ds C G O t E :=
  ds_frz e2.h e1.h h0 (by rw [e3.h, e4.h]; exact h)
end
end Dl
namespace Dl
open PySem PySem.Spec PyProof.Rows L2 Ln PySem.W
theorem Rp.perm {C : Cy} {F H : Hp} {σ : L2.St} {G : List Sv} {O O' : Ow} (r : Rp C F H σ G O) (p : O'.Perm O) : Rp C F H σ G O' :=
  ⟨r.q, r.len, r.sl, fun D ob m => r.ow D ob (p.mem_iff.mp m), ((p.map Prod.fst).nodup_iff).mpr r.nd⟩
section
variable {C : Cy} {G : List Sv} {O : Ow} {te tb : TE} {E : En} {k : PyData → Prop}
/-- xs.append(a new list) -/
theorem ds_appendL {K' : PySem.W.Frag} {i n : Nat} {D : Addr} {ss : List Sv} (hG : G[i]? = some (.ptr D)) (hO : O[n]? = some (D, .lst ss)) (hz : ss.length < sizeLine) (h : Dl C G O te fun es => ∀ D2, C.H0 D2 = none → ∃ O', O'.Perm ((D2, .lst es) :: O.set n (D, .lst (ss ++ [.ptr D2]))) ∧ E.nx G O') (hK : K' = C.K := by with_unfolding_all rfl) : Ds C G O (tDrop (tBM K' "list" rAppend (tVar i) (tCons te tNil))) E := fun X F H σ D' r n1 _ _ _ => by
  subst hK
  obtain ⟨v, a, b⟩ := r.get hG (fun z => by cases z)
  cases b
  obtain ⟨w, e, xs, rfl, p⟩ := r.obj (app_get (X := X) hO)
  refine ⟨_, a, .inl ⟨rfl, xs, SqL.of e⟩, h X F H σ _ r fun F1 D2 H1 es s1 h0 r1 q => ?_⟩
  obtain ⟨w, e, xs, rfl, p⟩ := r1.obj (n := n + 1) (by rw [List.getElem?_cons_succ]; exact app_get (X := X) hO)
  refine ⟨D, xs, .ref D2, rfl, rfl, e, by rw [Paired.length p]; exact hz, ?_⟩
  have r2 := r1.wr (n := n + 1) (by rw [List.getElem?_cons_succ]; exact app_get (X := X) hO) (ob' := .lst (ss ++ [.ptr D2])) (u := .lst (xs ++ [.ref D2])) ⟨_, rfl, Paired.snoc p (show SvOk C.K F1 (.ref D2) (.ptr D2) from rfl)⟩
  rw [List.set_cons_succ, app_set hO] at r2
  obtain ⟨O', po, q⟩ := q D2 h0
  exact n1 F1 σ _ G O' s1.sf (r2.perm (po.append_right X)) q
/-- a list of one's own held against [] -/
instance (priority := high) s_eqNil {K' : PySem.W.Frag} {i n : Nat} {D : Addr} {ss : List Sv} [e : Lkk K' C.K] [e1 : Lk G i (.ptr D)] [e2 : Ok O D n (.lst ss)] : Stp (Dx C G O (tOp (rEqD K') (tVar i) (tLst tNil)) k) (∃ ds, OwDs O ss ds ∧ SeqAt.shaped (.list ds) = true ∧ k (.bool ss.isEmpty)) := ⟨fun h => by
  rw [e.h]
  obtain ⟨ds, o, sh, q⟩ := h
  refine dx_eqO (dv_var e1.h (fun z => by cases z) (dv_dx (dx_dl (dl_lst (da_nil ⟨by decide, [], rfl, .list ds, .list [], .ptr (List.mem_of_getElem? e2.h) o, .dat _, sh, rfl, ?_⟩)))))
  have : PyData.eqv (.list ds) (.list []) = ss.isEmpty := by
    cases o <;> simp [PyData.eqv, PyData.eqvAll]
  rw [this]
  exact q⟩
end
theorem canLayAll_map {α : Type} {g : α → PyData} : ∀ {xs : List α}, (∀ x ∈ xs, (g x).canLay0 = true) → PyData.canLayAll0 (xs.map g) = true
  | [], _ => rfl
  | x :: xs, h => by
    rw [List.map_cons]
    simp only [PyData.canLayAll0, h x List.mem_cons_self, canLayAll_map fun y hy => h y (List.mem_cons_of_mem _ hy), Bool.and_self]
theorem depthAll_map {α : Type} {g : α → PyData} {n : Nat} : ∀ {xs : List α}, (∀ x ∈ xs, (g x).depth ≤ n) → PyData.depthAll (xs.map g) ≤ n
  | [], _ => by simp [PyData.depthAll]
  | x :: xs, h => by
    rw [List.map_cons]
    simp only [PyData.depthAll]
    exact Nat.max_le.mpr ⟨h x List.mem_cons_self, depthAll_map fun y hy => h y (List.mem_cons_of_mem _ hy)⟩
/-- may be held against another, and is not deep -/
def Shp (n : Nat) (d : PyData) : Prop := d.canLay0 = true ∧ d.depth ≤ n
theorem Shp.list {α : Type} {g : α → PyData} {n : Nat} {xs : List α} (h : ∀ x ∈ xs, Shp n (g x)) : Shp (n + 1) (.list (xs.map g)) := ⟨by simp only [PyData.canLay0]; exact canLayAll_map fun x hx => (h x hx).1, by simp only [PyData.depth]; exact Nat.succ_le_succ (depthAll_map fun x hx => (h x hx).2)⟩
theorem Shp.tuple {α : Type} {g : α → PyData} {n : Nat} {xs : List α} (h : ∀ x ∈ xs, Shp n (g x)) : Shp (n + 1) (.tuple (xs.map g)) := ⟨by simp only [PyData.canLay0]; exact canLayAll_map fun x hx => (h x hx).1, by simp only [PyData.depth]; exact Nat.succ_le_succ (depthAll_map fun x hx => (h x hx).2)⟩
theorem Shp.int {n : Nat} (i : Int) : Shp n (.int i) := ⟨rfl, Nat.zero_le _⟩
theorem Shp.bool {n : Nat} (i : Bool) : Shp n (.bool i) := ⟨rfl, Nat.zero_le _⟩
theorem Shp.non {n : Nat} : Shp n .none := ⟨rfl, Nat.zero_le _⟩
theorem Shp.str {n : Nat} {x : Str} (h : PyData.strOk x = true) : Shp n (.str x) := ⟨by simpa only [PyData.canLay0] using h, Nat.zero_le _⟩
theorem Shp.shaped {n : Nat} {d : PyData} (h : Shp n d) (hn : n ≤ 64) : SeqAt.shaped d = true := by
  unfold SeqAt.shaped
  rw [h.1, decide_eq_true (Nat.le_trans h.2 hn)]
  rfl
theorem OwDs.ofDat {O : Ow} : ∀ (ds : List PyData), OwDs O (ds.map Sv.dat) ds
  | [] => .nil
  | d :: ds => .cons (.dat d) (OwDs.ofDat ds)
theorem OwDs.rows {O : Ow} : ∀ {rows : List (Addr × List PyData)}, (∀ r ∈ rows, (r.1, Ob.lst (r.2.map Sv.dat)) ∈ O) → OwDs O (rows.map fun r => Sv.ptr r.1) (rows.map fun r => PyData.list r.2)
  | [], _ => .nil
  | r :: rows, h => .cons (.ptr (h r List.mem_cons_self) (OwDs.ofDat _)) (OwDs.rows fun x hx => h x (List.mem_cons_of_mem _ hx))
end Dl
namespace Dl
open PySem PySem.Spec PyProof.Rows L2 Ln PySem.W
section
variable {C : Cy} {G : List Sv} {O : Ow} {k : PyData → Prop} {i : Nat} {ds : List PyData}
instance (priority := high) s_tupOfL {K' : PySem.W.Frag} [e : Lkk K' C.K] [e1 : Lk G i (.dat (.list ds))] : Stp (Dx C G O (tCB (Ln.rTupOf K') (tCons (tVar i) tNil)) k) (k (.tuple ds)) := ⟨fun h => by rw [e.h]; exact dx_tupOfT (dx_var e1.h (.inr ⟨ds, rfl, h⟩))⟩
instance (priority := high) s_tupOfV {K' : PySem.W.Frag} [e : Lkk K' C.K] [e1 : Lk G i (.dat (.tuple ds))] : Stp (Dx C G O (tCB (Ln.rTupOf K') (tCons (tVar i) tNil)) k) (k (.tuple ds)) := ⟨fun h => by rw [e.h]; exact dx_tupOfT (dx_var e1.h (.inl ⟨ds, rfl, h⟩))⟩
end
end Dl
set_option Elab.async false
set_option autoImplicit false
set_option linter.all false
set_option maxRecDepth 100000
set_option maxHeartbeats 4000000
/-! dicts of data: a handle by its address, its keys and its values -/
namespace Dl
open PySem PySem.Spec PyProof.Rows L2 Ln
theorem rd_same {F F' : Hp} (s : Same F F') {a : Addr} {u : HO} (h : Rd F a u) : Rd F' a u := by
  rcases h with h | ⟨o, h⟩
  · exact .inl (s _ _ h)
  · exact .inr ⟨o, s _ _ h⟩
def keyD : Key → PyData
  | .inl i => .int i
  | .inr x => .str x
theorem dp_key {K : PySem.W.Frag} {F : Hp} {v : V} {k : Key} (h : Dp K F v (keyD k)) : v = kV k := by
  cases k <;> (cases h; rfl)
theorem key_dp {K : PySem.W.Frag} {F : Hp} (k : Key) : Dp K F (kV k) (keyD k) := by
  cases k
  · exact .int _
  · exact .str _
/-- keys are the same, values are told by data -/
def DKs (K : PySem.W.Frag) (F : Hp) (ys : List (Key × V)) (kvs : List (Key × PyData)) : Prop := Paired (fun (p : Key × V) (q : Key × PyData) => p.1 = q.1 ∧ Dp K F p.2 q.2) ys kvs
theorem DKs.ry {K : PySem.W.Frag} {F F' : Hp} {ys : List (Key × V)} {kvs : List (Key × PyData)} (h : DKs K F ys kvs) (r : Ry F F') : DKs K F' ys kvs := Paired.mono (fun _ _ q => ⟨q.1, Dp.ry r _ _ q.2⟩) h
theorem DKs.mono {K : PySem.W.Frag} {F F' : Hp} {ys : List (Key × V)} {kvs : List (Key × PyData)} (h : DKs K F ys kvs) (r : Same F F') : DKs K F' ys kvs := h.ry (Ry.of r)
def dcM (K : PySem.W.Frag) (a : Addr) (kvs : List (Key × PyData)) : Mo where
  P := fun F v => v = .ref a ∧ ∃ ys, Rd F a (.dK ys) ∧ DKs K F ys kvs
  mono := fun r ⟨e, ys, h1, h2⟩ => ⟨e, ys, r.rd _ _ (fun _ _ z => by cases z) h1, h2.ry r⟩
def lookD {β : Type} (kvs : List (Key × β)) (k : Key) : Option β := (kvs.find? fun kv => decide (kv.1 = k)).map Prod.snd
theorem look_pair {K : PySem.W.Frag} {F : Hp} (k : Key) : ∀ {ys : List (Key × V)} {kvs : List (Key × PyData)}, DKs K F ys kvs → (∀ d, lookD kvs k = some d → ∃ v, valV ys k = some v ∧ Dp K F v d) ∧ (valV ys k).isSome = (lookD kvs k).isSome
  | _, _, .nil => ⟨fun d e => (by cases e), rfl⟩
  | (k1, v) :: ys, (k2, d) :: kvs, .cons ⟨e, p⟩ t => by
    have e : k1 = k2 := e
    subst e
    unfold lookD valV
    rw [List.find?_cons, List.find?_cons]
    by_cases c : k1 = k
    · rw [decide_eq_true (show (k1, v).1 = k from c)]
      exact ⟨fun d' e => by cases e; exact ⟨v, rfl, p⟩, rfl⟩
    · rw [decide_eq_false (show ¬ (k1, v).1 = k from c)]
      exact look_pair k t
def putG {β : Type} (kvs : List (Key × β)) (k : Key) (v : β) : List (Key × β) :=
  if (kvs.any fun kv => decide (kv.1 = k)) = true then kvs.map (fun kv => if kv.1 = k then (kv.1, v) else kv) else kvs ++ [(k, v)]
def mergeG {β : Type} (kvs more : List (Key × β)) : List (Key × β) := more.foldl (fun acc kv => putG acc kv.1 kv.2) kvs
theorem any_pair {K : PySem.W.Frag} {F : Hp} (k : Key) : ∀ {ys : List (Key × V)} {kvs : List (Key × PyData)}, DKs K F ys kvs → (ys.any fun kv => decide (kv.1 = k)) = (kvs.any fun kv => decide (kv.1 = k))
  | _, _, .nil => rfl
  | (k1, v) :: ys, (k2, d) :: kvs, .cons ⟨e, p⟩ t => by
    have e : k1 = k2 := e
    subst e
    rw [List.any_cons, List.any_cons, any_pair k t]
theorem DKs.put {K : PySem.W.Frag} {F : Hp} {k : Key} {z : V} {d : PyData} {ys : List (Key × V)} {kvs : List (Key × PyData)} (h : DKs K F ys kvs) (p : Dp K F z d) : DKs K F (putK ys k z) (putG kvs k d) := by
  unfold putK putG
  rw [any_pair k h]
  by_cases c : (kvs.any fun kv => decide (kv.1 = k)) = true
  · rw [if_pos c, if_pos c]
    clear c
    unfold DKs at h ⊢
    induction h with
    | nil => exact .nil
    | @cons a b as bs r t ih =>
      rw [List.map_cons, List.map_cons]
      refine .cons ?_ ih
      rw [r.1]
      by_cases c : b.1 = k
      · rw [if_pos c, if_pos c]; exact ⟨rfl, p⟩
      · rw [if_neg c, if_neg c]; exact r
  · rw [if_neg c, if_neg c]
    exact Paired.snoc h ⟨rfl, p⟩
theorem DKs.merge {K : PySem.W.Frag} {F : Hp} : ∀ {zs : List (Key × V)} {more : List (Key × PyData)} {ys : List (Key × V)} {kvs : List (Key × PyData)}, DKs K F zs more → DKs K F ys kvs → DKs K F (mergeK ys zs) (mergeG kvs more)
  | _, _, _, _, .nil, h => h
  | z :: zs, m :: more, ys, kvs, .cons r t, h => by
    show DKs K F (mergeK (putK ys z.1 z.2) zs) (mergeG (putG kvs m.1 m.2) more)
    rw [r.1]
    exact DKs.merge t (h.put r.2)
theorem putG_new {β : Type} {kvs : List (Key × β)} {k : Key} {v : β} (h : ∀ p ∈ kvs, p.1 ≠ k) : putG kvs k v = kvs ++ [(k, v)] := by
  unfold putG
  rw [if_neg]
  intro c
  obtain ⟨p, hp, e⟩ := List.any_eq_true.mp c
  exact h p hp (of_decide_eq_true e)
theorem mergeG_new {β : Type} : ∀ {more kvs : List (Key × β)}, ((kvs ++ more).map Prod.fst).Nodup → mergeG kvs more = kvs ++ more
  | [], kvs, _ => (List.append_nil kvs).symm
  | m :: more, kvs, h => by
    show mergeG (putG kvs m.1 m.2) more = _
    have hn : ∀ p ∈ kvs, p.1 ≠ m.1 := by
      intro p hp e
      rw [List.map_append, List.nodup_append] at h
      exact h.2.2 p.1 (List.mem_map_of_mem hp) m.1 (by simp) e
    rw [putG_new hn, mergeG_new (by rw [List.append_assoc]; exact h), List.append_assoc]
    rfl
theorem lookD_map {α β : Type} {f : α → Key} {g : α → β} : ∀ {xs : List α} {x : α}, (xs.map f).Nodup → x ∈ xs → lookD (xs.map fun x => (f x, g x)) (f x) = some (g x)
  | y :: ys, x, nd, m => by
    unfold lookD
    rw [List.map_cons, List.find?_cons]
    rw [List.map_cons, List.nodup_cons] at nd
    by_cases c : f y = f x
    · rw [decide_eq_true (show (f y, g y).1 = f x from c)]
      rcases List.mem_cons.mp m with e | m
      · rw [e]; rfl
      · exact absurd (List.mem_map.mpr ⟨x, m, c.symm⟩) nd.1
    · rw [decide_eq_false (show ¬ (f y, g y).1 = f x from c)]
      rcases List.mem_cons.mp m with e | m
      · rw [e] at c; exact absurd rfl c
      · exact lookD_map nd.2 m
theorem lookD_none {β : Type} {kvs : List (Key × β)} {k : Key} (h : k ∉ kvs.map Prod.fst) : lookD kvs k = none := by
  unfold lookD
  rw [List.find?_eq_none.mpr]
  · rfl
  · intro p hp e
    exact h (List.mem_map.mpr ⟨p, hp, of_decide_eq_true e⟩)
structure keyK (k : Key → Prop) (d : PyData) : Prop where
  ex : ∃ key, d = keyD key ∧ k key
section
variable {C : Cy} {G : List Sv} {O : Ow} {t td ty tx : TE} {k : PyData → Prop}
instance s_keyS {k : Key → Prop} {x : Str} : Stp (keyK k (.str x)) (k (.inr x)) := ⟨fun h => ⟨⟨_, rfl, h⟩⟩⟩
instance s_keyI {k : Key → Prop} {x : Int} : Stp (keyK k (.int x)) (k (.inl x)) := ⟨fun h => ⟨⟨_, rfl, h⟩⟩⟩
/-- a handle on a dict -/
structure isDc (K : PySem.W.Frag) (k : Addr → List (Key × PyData) → Prop) (s : Sv) : Prop where
  ex : ∃ a kvs, s = .hdl (dcM K a kvs) ∧ k a kvs
instance s_isDc {K K' : PySem.W.Frag} {k : Addr → List (Key × PyData) → Prop} {a : Addr} {kvs : List (Key × PyData)} [e : Lkk K' K] : Stp (isDc K k (.hdl (dcM K' a kvs))) (k a kvs) := ⟨fun h => ⟨⟨a, kvs, by rw [e.h], h⟩⟩⟩
/-! ## reading -/
theorem dx_dget (h : Dv C G O td (isDc C.K fun _ kvs => Dx C G O ty (keyK fun key => ∃ d, lookD kvs key = some d ∧ k d))) : Dx C G O (tDGet td ty) k := fun X F H σ Q r c =>
  h X F H σ _ r fun F1 v H1 s s1 r1 p1 ⟨a, kvs, es, h2⟩ => h2 X F1 H1 σ _ r1 fun F2 y H2 d2 s2 r2 p2 ⟨key, ed, d, hd, q⟩ => by
    subst es ed
    obtain ⟨rfl, ys, hr, hk⟩ := SvOk.mono s2.sf p1
    obtain ⟨w, hw, pw⟩ := (look_pair key hk).1 d hd
    exact ⟨a, w, rfl, .inl ⟨ys, key, rd_same r2.q.sub hr, dp_key p2, hw.symm⟩, c F2 w H2 d (s1.trans s2) r2 pw q⟩
theorem dx_din (h : Dx C G O ty (keyK fun key => Dv C G O td (isDc C.K fun _ kvs => k (.bool (lookD kvs key).isSome)))) : Dx C G O (tDIn ty td) k := fun X F H σ Q r c =>
  h X F H σ _ r fun F1 y H1 d s1 r1 p1 ⟨key, ed, h2⟩ => h2 X F1 H1 σ _ r1 fun F2 v H2 s s2 r2 p2 ⟨a, kvs, es, q⟩ => by
    subst es ed
    obtain ⟨rfl, ys, hr, hk⟩ := p2
    exact ⟨a, _, rfl, .inl ⟨ys, key, rd_same r2.q.sub hr, dp_key (Dp.mono s2.sf _ _ p1), rfl⟩, c F2 _ H2 _ (s1.trans s2) r2 (by rw [(look_pair key hk).2]; exact .bl _) q⟩
theorem dx_dnotin (h : Dx C G O ty (keyK fun key => Dv C G O td (isDc C.K fun _ kvs => k (.bool (!(lookD kvs key).isSome))))) : Dx C G O (tDNotIn ty td) k := fun X F H σ Q r c =>
  h X F H σ _ r fun F1 y H1 d s1 r1 p1 ⟨key, ed, h2⟩ => h2 X F1 H1 σ _ r1 fun F2 v H2 s s2 r2 p2 ⟨a, kvs, es, q⟩ => by
    subst es ed
    obtain ⟨rfl, ys, hr, hk⟩ := p2
    exact ⟨a, _, rfl, .inl ⟨ys, key, rd_same r2.q.sub hr, dp_key (Dp.mono s2.sf _ _ p1), rfl⟩, c F2 _ H2 _ (s1.trans s2) r2 (by rw [(look_pair key hk).2]; exact .bl _) q⟩
/-- d.get(y) -/
def getK (k : PyData → Prop) (o : Option PyData) (z : PyData) : Prop := (o = none → k z) ∧ ∀ d, o = some d → k d
theorem dx_dget1 (h : Dv C G O td (isDc C.K fun _ kvs => Dx C G O ty (keyK fun key => getK k (lookD kvs key) .none))) : Dx C G O (tDGet1 td ty) k := fun X F H σ Q r c =>
  h X F H σ _ r fun F1 v H1 s s1 r1 p1 ⟨a, kvs, es, h2⟩ => by
    subst es
    obtain ⟨rfl, ys, hr, hk⟩ := id p1
    refine ⟨a, rfl, .inl ⟨ys, rd_same r1.q.sub hr⟩, h2 X F1 H1 σ _ r1 fun F2 y H2 d2 s2 r2 p2 ⟨key, ed, q0, q1⟩ => ?_⟩
    subst ed
    obtain ⟨_, ys, hr, hk⟩ := SvOk.mono s2.sf p1
    refine ⟨valV ys key, .inl ⟨ys, key, rd_same r2.q.sub hr, dp_key p2, rfl⟩, ?_⟩
    obtain ⟨l1, l2⟩ := look_pair key hk
    cases e : lookD kvs key with
    | none =>
      rw [e] at l2
      cases e2 : valV ys key with
      | none => exact c F2 _ H2 .none (s1.trans s2) r2 .non (q0 e)
      | some w => rw [e2] at l2; cases l2
    | some d =>
      obtain ⟨w, hw, pw⟩ := l1 d e
      rw [hw]
      exact c F2 _ H2 d (s1.trans s2) r2 pw (q1 d e)
theorem dx_dget2 (h : Dv C G O td (isDc C.K fun _ kvs => Dx C G O ty (keyK fun key => Dx C G O tx fun z => getK k (lookD kvs key) z))) : Dx C G O (tDGet2 td ty tx) k := fun X F H σ Q r c =>
  h X F H σ _ r fun F1 v H1 s s1 r1 p1 ⟨a, kvs, es, h2⟩ => by
    subst es
    obtain ⟨rfl, ys, hr, hk⟩ := id p1
    refine ⟨a, rfl, .inl ⟨ys, rd_same r1.q.sub hr⟩, h2 X F1 H1 σ _ r1 fun F2 y H2 d2 s2 r2 p2 ⟨key, ed, h3⟩ => h3 X F2 H2 σ _ r2 fun F3 z H3 dz s3 r3 p3 ⟨q0, q1⟩ => ?_⟩
    subst ed
    obtain ⟨_, ys, hr, hk⟩ := SvOk.mono (s2.trans s3).sf p1
    refine ⟨valV ys key, .inl ⟨ys, key, rd_same r3.q.sub hr, dp_key (Dp.mono s3.sf _ _ p2), rfl⟩, ?_⟩
    obtain ⟨l1, l2⟩ := look_pair key hk
    cases e : lookD kvs key with
    | none =>
      rw [e] at l2
      cases e2 : valV ys key with
      | none => exact c F3 _ H3 dz ((s1.trans s2).trans s3) r3 p3 (q0 e)
      | some w => rw [e2] at l2; cases l2
    | some d =>
      obtain ⟨w, hw, pw⟩ := l1 d e
      rw [hw]
      exact c F3 _ H3 d ((s1.trans s2).trans s3) r3 pw (q1 d e)
instance s_dget : Stp (Dx C G O (tDGet td ty) k) (Dv C G O td (isDc C.K fun _ kvs => Dx C G O ty (keyK fun key => ∃ d, lookD kvs key = some d ∧ k d))) := ⟨dx_dget⟩
instance s_din : Stp (Dx C G O (tDIn ty td) k) (Dx C G O ty (keyK fun key => Dv C G O td (isDc C.K fun _ kvs => k (.bool (lookD kvs key).isSome)))) := ⟨dx_din⟩
instance s_dnotin : Stp (Dx C G O (tDNotIn ty td) k) (Dx C G O ty (keyK fun key => Dv C G O td (isDc C.K fun _ kvs => k (.bool (!(lookD kvs key).isSome))))) := ⟨dx_dnotin⟩
instance s_dget1 : Stp (Dx C G O (tDGet1 td ty) k) (Dv C G O td (isDc C.K fun _ kvs => Dx C G O ty (keyK fun key => getK k (lookD kvs key) .none))) := ⟨dx_dget1⟩
instance s_dget2 : Stp (Dx C G O (tDGet2 td ty tx) k) (Dv C G O td (isDc C.K fun _ kvs => Dx C G O ty (keyK fun key => Dx C G O tx fun z => getK k (lookD kvs key) z))) := ⟨dx_dget2⟩
/-! ## dict(xs) -/
def rDictP (K : PySem.W.Frag) : List V → Hp → VK → Prop := fun xs H Q => ∃ (a : Addr) (ps : List Addr) (kvs : List (Key × V)), xs = [.ref a] ∧ SqL K H a (ps.map V.ref) ∧ Paired (fun p kv => SqT K H p [kV kv.1, kv.2]) ps kvs ∧
    ∀ p, H p = none → Q (.ref p) (upd H p (.dK (mergeK [] kvs)))
theorem cr_dictP {X : Cx} (hcalm : X.calm = true) : CallR X (.type "dict") (rDictP X.K) := call_dictP hcalm
abbrev pairD (p : Key × PyData) : PyData := .tuple [keyD p.1, p.2]
theorem pairs_dp {K : PySem.W.Frag} {F : Hp} : ∀ {kvs : List (Key × PyData)} {xs : List V}, DpAll K F xs (kvs.map pairD) → ∃ (ps : List Addr) (ys : List (Key × V)), xs = ps.map V.ref ∧ Paired (fun p (kv : Key × V) => SqT K F p [kV kv.1, kv.2]) ps ys ∧ DKs K F ys kvs
  | [], _, .nil => ⟨[], [], rfl, .nil, .nil⟩
  | (key, d) :: kvs, _, .cons (v := w) a b => by
    obtain ⟨ps, ys, rfl, h1, h2⟩ := pairs_dp b
    cases a with
    | @tup p us _ hs ha =>
      cases ha with
      | cons a1 a2 => cases a2 with
        | @cons v2 _ _ _ a2 a3 =>
          cases a3
          have := dp_key a1
          subst this
          exact ⟨p :: ps, (key, v2) :: ys, rfl, .cons hs h1, .cons ⟨rfl, a2⟩ h2⟩
theorem dv_dictP {k : Sv → Prop} (h : Dx C G O t (isLs fun ds => ∃ kvs : List (Key × PyData), ds = kvs.map pairD ∧ ∀ a, k (.hdl (dcM C.K a (mergeG [] kvs))))) : Dv C G O (tCB (rDictP C.K) (tCons t tNil)) k := fun X F H σ Q r c =>
  h X F H σ _ r fun F1 v H1 d s1 r1 p1 ⟨ds, ed, kvs, ek, q⟩ => by
    subst ed ek
    cases p1 with
    | @lst a xs _ hs ha =>
      obtain ⟨ps, ys, rfl, h1, h2⟩ := pairs_dp ha
      refine ⟨a, ps, ys, rfl, r1.q.sub.seq hs, Paired.mono (fun _ _ z => Same.tup r1.q.sub z) h1, fun l nl => ?_⟩
      have r2 := r1.newF (o := .dK (mergeK [] ys)) nl
      have s2 := r1.gm (o := .dK (mergeK [] ys)) nl
      exact c _ _ _ (.hdl (dcM C.K l (mergeG [] kvs))) (s1.trans s2) r2 ⟨rfl, _, .inl upd_same, (DKs.merge h2 .nil).mono s2.sf⟩ (q l)
instance s_setDictP {K' : PySem.W.Frag} {i : Nat} {E : En} [e : Lkk K' C.K] : Stp (Ds C G O (tAsg (tCB (rDictP K') (tCons t tNil)) (gName i)) E) (Dx C G O t (isLs fun ds => ∃ kvs : List (Key × PyData), ds = kvs.map pairD ∧ ∀ a, SetD G i (.hdl (dcM K' a (mergeG [] kvs))) fun G' => E.nx G' O)) := ⟨fun h => ds_setV (by
  rw [e.h] at h ⊢
  exact dv_dictP h)⟩
end
/-! ## lists put together -/
theorem Paired.app {α β : Type} {R : α → β → Prop} : ∀ {as cs : List α} {bs ds : List β}, Paired R as bs → Paired R cs ds → Paired R (as ++ cs) (bs ++ ds)
  | _, _, _, _, .nil, h => h
  | _, _, _, _, .cons a b, h => .cons a (Paired.app b h)
section
variable {C : Cy} {G : List Sv} {O O' : Ow} {ta tb : TE} {k : List Sv → Prop} {i n : Nat} {D : Addr} {ss : List Sv}
/-- less is one's own from here on -/
theorem ds_less {t : TS} {E : En} (s : O'.Sublist O) (h : Ds C G O' t E) : Ds C G O t E := fun X F H σ D r => h X F H σ D (r.less (s.append (List.Sublist.refl X)))
theorem dl_catO (hG : G[i]? = some (.ptr D)) (hO : O[n]? = some (D, .lst ss)) (h : Dl C G O tb fun es => ss.length + es.length ≤ sizeLine ∧ k (ss ++ es)) : Dl C G O (tOp rCat (tVar i) tb) k := fun X F H σ Q r c => by
  obtain ⟨v, a, b⟩ := r.get hG (fun z => by cases z)
  cases b
  refine ⟨_, a, h X F H σ _ r fun F1 D1 H1 es s1 h0 r1 ⟨hz, q⟩ => ?_⟩
  obtain ⟨u1, e1, xs, rfl, p1⟩ := r1.obj (n := n + 1) (by rw [List.getElem?_cons_succ]; exact app_get (X := X) hO)
  obtain ⟨u2, e2, zs, rfl, p2⟩ := r1.obj (n := 0) rfl
  refine ⟨D, D1, xs, zs, rfl, rfl, e1, e2, by rw [Paired.length p1, Paired.length p2]; exact hz, fun l nl => ?_⟩
  have r2 := r1.newO (ob := .lst (ss ++ es)) (u := .lst (xs ++ zs)) nl ⟨_, rfl, Paired.app p1 p2⟩
  have g2 : Gw (O ++ X) F1 H1 F1 (upd H1 l (.lst (xs ++ zs))) := (r1.gn nl).sub fun x m => List.mem_cons_of_mem _ m
  exact c F1 l _ _ (s1.trans g2) (r1.q.h0 nl) (r2.less (List.Sublist.cons_cons _ (List.sublist_cons_self _ _))) q
instance s_catO [e1 : Lk G i (.ptr D)] [e2 : Ok O D n (.lst ss)] : Stp (Dl C G O (tOp rCat (tVar i) tb) k) (Dl C G O tb fun es => ss.length + es.length ≤ sizeLine ∧ k (ss ++ es)) := ⟨dl_catO e1.h e2.h⟩
instance s_setCat {E : En} {j : Nat} : Stp (Ds C G O (tAsg (tOp rCat ta tb) (gName j)) E) (Dl C G O (tOp rCat ta tb) fun ss => ∀ D, C.H0 D = none → SetD G j (.ptr D) fun G' => E.nx G' ((D, .lst ss) :: O)) := ⟨ds_setL⟩
end
end Dl
namespace Dl
instance s_ifNT {A B : Prop} : Stp (if (!true) = true then A else B) B := ⟨fun h => (if_neg (by decide)).mpr h⟩
instance s_ifNF {A B : Prop} : Stp (if (!false) = true then A else B) A := ⟨fun h => (if_pos (by decide)).mpr h⟩
end Dl
namespace Dl
open PySem PySem.Spec PyProof.Rows L2 Ln PySem.W
theorem Shp.mem {n : Nat} {ds : List PyData} (h : Shp (n + 1) (.tuple ds)) : ∀ x ∈ ds, Shp n x := by
  intro x hx
  obtain ⟨h1, h2⟩ := h
  simp only [PyData.canLay0] at h1
  simp only [PyData.depth] at h2
  refine ⟨?_, Nat.le_trans (depth_mem hx) (by omega)⟩
  clear h2
  induction ds with
  | nil => cases hx
  | cons y ys ih =>
    simp only [PyData.canLayAll0, Bool.and_eq_true] at h1
    rcases List.mem_cons.mp hx with e | hx
    · rw [e]; exact h1.1
    · exact ih hx h1.2
theorem Shp.lst {n : Nat} {ds : List PyData} (h : ∀ x ∈ ds, Shp n x) : Shp (n + 1) (.list ds) := by
  have := Shp.list (g := id) (xs := ds) h
  rwa [List.map_id] at this
theorem eqv_nil (ds : List PyData) : PyData.eqv (.list ds) (.list []) = ds.isEmpty := by
  cases ds <;> simp [PyData.eqv, PyData.eqvAll]
end Dl
namespace Dl
open PySem PySem.Spec PyProof.Rows L2 Ln PySem.W
theorem inD_strs (x : Str) (xs : List Str) : inD (.str x) (xs.map .str) = decide (x ∈ xs) := by
  unfold inD
  rw [List.any_map, Bool.eq_iff_iff, List.any_eq_true, decide_eq_true_iff]
  constructor
  · rintro ⟨y, hy, e⟩
    have e : (y == x) = true := e
    rw [← eq_of_beq e]; exact hy
  · intro h
    exact ⟨x, h, by show (x == x) = true; exact beq_self_eq_true x⟩
theorem flat_strs (xs : List Str) : (xs.map PyData.str).all flatD = true := by
  rw [List.all_map, List.all_eq_true]; intro x _; rfl
section
variable {C : Cy} {G G' : List Sv} {O O' : Ow} {n : Nat} {D : Addr} {ds : List PyData}
/-- a test that reads one's own list -/
theorem ds_ifLend (i : Nat) {c : TT} {t u : TS} {E : En} [e1 : Lk G i (.ptr D)] [e2 : Ok O D n (.lst (ds.map Sv.dat))] [e3 : St G i (.dat (.list ds)) G'] [e4 : Er O n O'] (h0 : C.H0 D = none) (h : Dt C G' O' c fun b => if b = true then Ds C G O t E else Ds C G O u E) : Ds C G O (tIfS c t u) E := ds_if (dt_lend i h0 h)
end
end Dl
namespace Dl
open PySem PySem.Spec PyProof.Rows L2 Ln PySem.W
theorem sIx_nat {n d x : Nat} (h : x ≤ n) : HT.sIx n d (some (x : Int)) = x := by
  unfold HT.sIx
  simp
  rw [if_neg (by omega)]
  omega
theorem cutD_take {α : Type} {xs : List α} {x : Nat} (h : x ≤ xs.length) : cutD xs none (some (x : Int)) = xs.take x := by
  unfold cutD
  rw [sIx_nat h]
  rfl
theorem cutD_drop {α : Type} {xs : List α} {x : Nat} (h : x ≤ xs.length) : cutD xs (some (x : Int)) none = xs.drop x := by
  unfold cutD
  rw [sIx_nat h]
  show List.take (xs.length - x) (xs.drop x) = xs.drop x
  rw [List.take_of_length_le (by rw [List.length_drop]; exact Nat.le_refl _)]
theorem filter_no {α : Type} (xs : List α) : xs.filter (fun _ => false) = [] := List.filter_eq_nil_iff.mpr (fun _ _ z => by cases z)
end Dl
namespace Dl
open PySem PySem.Spec PyProof.Rows L2 Ln PySem.W
section
variable {C : Cy} {G : List Sv} {O : Ow} {t : TE} {k : List Sv → Prop}
instance s_listOf {K' : PySem.W.Frag} [e : Lkk K' C.K] : Stp (Dl C G O (tCB (Ln.rListOf K') (tCons t tNil)) k) (Dx C G O t (isQ fun ds => k (ds.map Sv.dat))) := ⟨by rw [e.h]; exact dl_listOf⟩
instance (priority := high) s_listOfO {K' : PySem.W.Frag} {i n : Nat} {D : Addr} {ss : List Sv} [e : Lkk K' C.K] [e1 : Lk G i (.ptr D)] [e2 : Ok O D n (.lst ss)] : Stp (Dl C G O (tCB (Ln.rListOf K') (tCons (tVar i) tNil)) k) (k ss) := ⟨by rw [e.h]; exact dl_listOfO e1.h e2.h⟩
instance s_setListOf {K' : PySem.W.Frag} {E : En} {j : Nat} : Stp (Ds C G O (tAsg (tCB (Ln.rListOf K') (tCons t tNil)) (gName j)) E) (Dl C G O (tCB (Ln.rListOf K') (tCons t tNil)) fun ss => ∀ D, C.H0 D = none → SetD G j (.ptr D) fun G' => E.nx G' ((D, .lst ss) :: O)) := ⟨ds_setL⟩
instance (priority := low) s_xListOf {K' : PySem.W.Frag} {k : PyData → Prop} : Stp (Dx C G O (tCB (Ln.rListOf K') (tCons t tNil)) k) (Dl C G O (tCB (Ln.rListOf K') (tCons t tNil)) fun ss => ∃ ds : List PyData, ss = ds.map Sv.dat ∧ k (.list ds)) := ⟨dx_dl⟩
end
end Dl
namespace Dl
open PySem PySem.Spec PyProof.Rows L2 Ln PySem.W
instance s_xf {C : Cy} {G : List Sv} {O : Ow} {k : PyData → Prop} {a d cls : Addr} {i : Nat} {f : Str} {es : List (Str × PyData)} {K' : PySem.W.Frag} [e : Lkk K' C.K] [e1 : Lk G i (.hdl (excM a d K' es))] : Stp (Dx C G O (tXf a (.ref cls) (some d) cls f (tVar i)) k) (∃ x, es.lookup f = some x ∧ k x) := ⟨fun ⟨x, hx, q⟩ => dx_xf (es := es) (by rw [← e.h]; exact e1.h) hx q⟩
end Dl
namespace Ln
open PySem PySem.Spec PyProof.Rows L2
/-- a promise where nothing is raised -/
def calm (sp : Sp) : Sp := fun vs H Q _ => sp vs H Q E0
theorem Cg.calm {P : Program} {w : World} {K : PySem.W.Frag} {mg : Str → Option Value} {base : Heap} {k : Nat} {x : Str} {sp : Sp} (c : Cg P w K mg base (L2.CX P w) k x sp) : Cg P w K mg base CX0 k x (Ln.calm sp) := by
  obtain ⟨f, fd, ps, F, h1, h2, h3⟩ := c.ex
  refine ⟨f, fd, ps, ⟨fun vs H Q E h => F.len vs H Q E0 h, fun A outer s H args us vs Q E hG hr he hb r h => codeAny_mono (F.run A outer s H args us vs Q E0 hG hr he hb r h) fun r s' q => ?_⟩, h1, h2, h3⟩
  cases r with
  | ok fl =>
    cases fl <;> exact q
  | error e =>
    obtain ⟨_, _, _, _, _, _, _, _, _, _, _, _, z⟩ := q
    exact z.elim
end Ln
namespace Dl
open PySem PySem.Spec PyProof.Rows L2 Ln PySem.W
section
variable {C : Cy} {G : List Sv} {O : Ow} {n : Nat} {W : Wt} {ES : L2.St → XK} {u : TA}
/-- calls of what might raise, and doesn't -/
instance s_callC {K' : PySem.W.Frag} {k : PyData → Prop} [e : Lkk K' C.K] : Stp (Dx C G O (Ln.tCg (Ln.calm (spP K' n W)) ES u) k) (Da C G O u fun as => as.length = n ∧ W as (fun r => match r with | .v s => isD k s | .l ss => ∃ ds : List PyData, ss = ds.map Sv.dat ∧ k (.list ds)) (fun _ _ => False)) := ⟨fun h => by
  rw [e.h]
  exact (dx_callBP (ES := fun _ => E0) h : Dx C G O (Ln.tCg (spP C.K n W) (fun _ => E0) u) k)⟩
instance s_callCS {K' : PySem.W.Frag} {E : En} [e : Lkk K' C.K] : Stp (Ds C G O (tDrop (Ln.tCg (Ln.calm (spP K' n W)) ES u)) E) (Da C G O u fun as => as.length = n ∧ W as (fun r => match r with | .v s => E.nx G O | .l ss => False) (fun _ _ => False)) := ⟨fun h => by
  rw [e.h]
  exact (ds_drop (dv_callP (ES := fun _ => E0) h) : Ds C G O (tDrop (Ln.tCg (spP C.K n W) (fun _ => E0) u)) E)⟩
instance s_callCL {K' : PySem.W.Frag} {k : List Sv → Prop} [e : Lkk K' C.K] : Stp (Dl C G O (Ln.tCg (Ln.calm (spP K' n W)) ES u) k) (Da C G O u fun as => as.length = n ∧ W as (fun r => match r with | .v _ => False | .l ss => k ss) (fun _ _ => False)) := ⟨fun h => by
  rw [e.h]
  exact (dl_callP (ES := fun _ => E0) h : Dl C G O (Ln.tCg (spP C.K n W) (fun _ => E0) u) k)⟩
end
/-! ## least and greatest of numbers -/
theorem cmpb_int (xs : List Int) : Cmpb (xs.map .int) := by
  refine Cmpb.of ?_ ?_ ?_
  · intro a ha b hb
    obtain ⟨x, _, rfl⟩ := List.mem_map.mp ha
    obtain ⟨y, _, rfl⟩ := List.mem_map.mp hb
    simp [alike]
  · intro a ha
    obtain ⟨x, _, rfl⟩ := List.mem_map.mp ha
    exact fun z => by cases z
  · intro a ha
    obtain ⟨x, _, rfl⟩ := List.mem_map.mp ha
    simp [PyData.depth]
theorem maxD_int : ∀ (xs : List Int) (x : Int), ∃ M ∈ x :: xs, maxD (.int x) (xs.map .int) = .int M ∧ ∀ y ∈ x :: xs, y ≤ M
  | [], x => ⟨x, List.mem_cons_self, rfl, fun y hy => by rw [List.mem_singleton.mp hy]; exact Int.le_refl _⟩
  | z :: zs, x => by
    have e : maxD (.int x) ((z :: zs).map .int) = maxD (if dataLt (.int x) (.int z) = true then PyData.int z else .int x) (zs.map .int) := rfl
    rw [e, dataLt_int]
    by_cases c : x < z
    · rw [if_pos (decide_eq_true c)]
      obtain ⟨M, m, e, h⟩ := maxD_int zs z
      refine ⟨M, List.mem_cons_of_mem _ m, e, fun y hy => ?_⟩
      rcases List.mem_cons.mp hy with hy | hy
      · have := h z List.mem_cons_self; omega
      · exact h y hy
    · rw [if_neg (by simpa using c)]
      obtain ⟨M, m, e, h⟩ := maxD_int zs x
      refine ⟨M, ?_, e, fun y hy => ?_⟩
      · rcases List.mem_cons.mp m with m | m
        · rw [m]; exact List.mem_cons_self
        · exact List.mem_cons_of_mem _ (List.mem_cons_of_mem _ m)
      · rcases List.mem_cons.mp hy with hy | hy
        · rw [hy]; exact h x List.mem_cons_self
        · rcases List.mem_cons.mp hy with hy | hy
          · have := h x List.mem_cons_self; omega
          · exact h y (List.mem_cons_of_mem _ hy)
theorem minD_int : ∀ (xs : List Int) (x : Int), ∃ M ∈ x :: xs, minD (.int x) (xs.map .int) = .int M ∧ ∀ y ∈ x :: xs, M ≤ y
  | [], x => ⟨x, List.mem_cons_self, rfl, fun y hy => by rw [List.mem_singleton.mp hy]; exact Int.le_refl _⟩
  | z :: zs, x => by
    have e : minD (.int x) ((z :: zs).map .int) = minD (if dataLt (.int z) (.int x) = true then PyData.int z else .int x) (zs.map .int) := rfl
    rw [e, dataLt_int]
    by_cases c : z < x
    · rw [if_pos (decide_eq_true c)]
      obtain ⟨M, m, e, h⟩ := minD_int zs z
      refine ⟨M, List.mem_cons_of_mem _ m, e, fun y hy => ?_⟩
      rcases List.mem_cons.mp hy with hy | hy
      · have := h z List.mem_cons_self; omega
      · exact h y hy
    · rw [if_neg (by simpa using c)]
      obtain ⟨M, m, e, h⟩ := minD_int zs x
      refine ⟨M, ?_, e, fun y hy => ?_⟩
      · rcases List.mem_cons.mp m with m | m
        · rw [m]; exact List.mem_cons_self
        · exact List.mem_cons_of_mem _ (List.mem_cons_of_mem _ m)
      · rcases List.mem_cons.mp hy with hy | hy
        · rw [hy]; exact h x List.mem_cons_self
        · rcases List.mem_cons.mp hy with hy | hy
          · have := h x List.mem_cons_self; omega
          · exact h y (List.mem_cons_of_mem _ hy)
theorem maxK_int {k : PyData → Prop} {xs : List Int} (ne : xs ≠ []) (h : ∀ M ∈ xs, (∀ x ∈ xs, x ≤ M) → k (.int M)) : maxK k (xs.map .int) := by
  cases xs with
  | nil => exact absurd rfl ne
  | cons x xs =>
    obtain ⟨M, m, e, g⟩ := maxD_int xs x
    exact ⟨_, _, rfl, cmpb_int (x :: xs), by rw [e]; exact h M m g⟩
theorem minK_int {k : PyData → Prop} {xs : List Int} (ne : xs ≠ []) (h : ∀ M ∈ xs, (∀ x ∈ xs, M ≤ x) → k (.int M)) : minK k (xs.map .int) := by
  cases xs with
  | nil => exact absurd rfl ne
  | cons x xs =>
    obtain ⟨M, m, e, g⟩ := minD_int xs x
    exact ⟨_, _, rfl, cmpb_int (x :: xs), by rw [e]; exact h M m g⟩
end Dl
set_option Elab.async false
namespace Mine
open PySem
def topS (i : Nat) : Stmt := PySem.Challenge.pw_interline_k84_whole_seated_groups.main.body.getD i (.Pass ⟨0, 0, 0, 0⟩)
/-- a promise that is not looked into where two are compared -/
structure Hide (sp : L2.Sp) (vs : List L2.V) (H : L2.Hp) (Q : L2.VK) (E : L2.XK) : Prop where
  h : sp vs H Q E
def hid (sp : L2.Sp) : L2.Sp := fun vs H Q E => Hide sp vs H Q E
end Mine
set_option Elab.async false
set_option linter.all false
set_option maxRecDepth 100000
set_option maxHeartbeats 4000000
namespace Mine
open PySem PySem.Spec PyProof.Rows L2 Ln
abbrev s_law_draws : Stmt := topS 31
abbrev N_law_draws : List Str := ["script", "draws", "cell", "rest", "k", "mixed"]
theorem sc_law_draws : FnScope N_law_draws ["script"] (defScope s_law_draws) := ⟨rfl, rfl, rfl, by decide +kernel, rfl, by decide +kernel, by decide +kernel⟩
-- slots: 0 script, 1 draws, 2 cell, 3 rest, 4 k, 5 mixed
abbrev s_law_more : Stmt := topS 32
abbrev N_law_more : List Str := ["draws", "place", "mixed", "k"]
theorem sc_law_more : FnScope N_law_more ["draws", "place"] (defScope s_law_more) := ⟨rfl, rfl, rfl, by decide +kernel, rfl, by decide +kernel, by decide +kernel⟩
-- slots: 0 draws, 1 place, 2 mixed, 3 k
abbrev s_law_take : Stmt := topS 33
abbrev N_law_take : List Str := ["draws", "at", "many", "place"]
theorem sc_law_take : FnScope N_law_take ["draws", "at", "many"] (defScope s_law_take) := ⟨rfl, rfl, rfl, by decide +kernel, rfl, by decide +kernel, by decide +kernel⟩
-- slots: 0 draws, 1 at, 2 many, 3 place
abbrev s_law_one : Stmt := topS 34
abbrev N_law_one : List Str := ["rows", "draws", "at"]
theorem sc_law_one : FnScope N_law_one ["rows", "draws", "at"] (defScope s_law_one) := ⟨rfl, rfl, rfl, by decide +kernel, rfl, by decide +kernel, by decide +kernel⟩
-- slots: 0 rows, 1 draws, 2 at
structure LawTxt (mg : Str → Option Value) : Prop where
  z_len : mg "len" = none
  z_abs : mg "abs" = none
  z_int : mg "int" = none
  z_str : mg "str" = none
  z_tuple : mg "tuple" = none
  z_range : mg "range" = none
  z_min : mg "min" = none
  z_max : mg "max" = none
  z_sorted : mg "sorted" = none
section
variable {P : Program} {w : World} {K : PySem.W.Frag} {mg : Str → Option Value} {base : Heap}
/-! ## the draws -/
def Good (ds : List Int) : Prop := ds.length ≤ 3780 ∧ ∀ d ∈ ds, 0 ≤ d ∧ d < 4294967296
def spDraws (K : PySem.W.Frag) : Sp := fun vs H Q _ => ∃ (a : Addr) (ns : List Int), vs = [.ref a] ∧ SqL K H a (ns.map V.int) ∧ ns.length ≤ 63 ∧
  ∀ H' p ds, Same H H' → H p = none → H' p = some (.lst (ds.map V.int)) → Good ds → Q (.ref p) H'
theorem cut63 (ns : List Int) : ∃ ms : List Int, cutV (ns.map V.int) none (some 63) = ms.map V.int ∧ ms.length ≤ 63 := by
  refine ⟨(ns.drop 0).take (HT.sIx ns.length ns.length (some 63) - 0), ?_, ?_⟩
  · unfold cutV
    rw [List.length_map, List.map_take, List.map_drop]
    rfl
  · rw [List.length_take]
    have e : HT.sIx ns.length ns.length (some ((63 : Nat) : Int)) = min 63 ns.length := HT.sIx_nat ns.length ns.length 63
    have e' : HT.sIx ns.length ns.length (some 63) = min 63 ns.length := e
    rw [e']
    omega
theorem good_app {ds : List Int} {d : Int} (h : ∀ x ∈ ds, 0 ≤ x ∧ x < 4294967296) (h1 : 0 ≤ d) (h2 : d < 4294967296) : ∀ x ∈ ds ++ [d], 0 ≤ x ∧ x < 4294967296 := by
  intro x hx
  rcases List.mem_append.mp hx with hx | hx
  · exact h x hx
  · have e : x = d := by simpa using hx
    subst e
    exact ⟨h1, h2⟩
theorem ok_draws {f : Addr} {fd : FuncData} (F : Fun K "_law_draws" "_law_draws" s_law_draws f fd) (T : LawTxt mg) : FnG P w K mg base CX0 1 f fd ["script"] (spDraws K) := by
  refine okG F sc_law_draws (fun vs H Q E h => ?_) (fun cdv A outer s H vs Q E hG hr h => ?_)
  · obtain ⟨a, ns, rfl, _⟩ := h
    rfl
  · obtain ⟨a, ns, rfl, hS, hlen, q⟩ := h
    refine ⟨_, (pss_cons (ps_set (i := 1) sc_law_draws.nd rfl (.inl rfl) (pe_lst pa_nil))
    (pss_cons (ps_for PassesOwn.never rfl (pi_list (pe_slice (r := rSlL K) sl_list (pv 0) po_none (po_some pe_int))) (pg_name (i := 2) sc_law_draws.nd rfl (.inl rfl))
    (pss_cons (ps_set (i := 3) sc_law_draws.nd rfl (.inl rfl) (pe_callB (id := "abs") call_abs (by rfl) T.z_abs (by decide +kernel) (pa_cons (pv 2) pa_nil)))
    (pss_one (ps_if (pt_cmpR op_ge (pv 3) (pe_op op_pow pe_int pe_int) (nomark _))
    (pss_one (ps_for PassesOwn.never rfl (pi_range1 (by rfl) T.z_range (pa_cons pe_int pa_nil)) (pg_name (i := 4) sc_law_draws.nd rfl (.inl rfl))
    (pss_one (ps_if (pt_cmpR op_gt (pv 3) pe_int (nomark _))
    (pss_cons (ps_expr (pe_bm PySem.F.plainAttrs_list PySem.F.slot_list_append PySem.F.type_list_append mt_append (pv 1) (pa_cons (pe_op op_mod (pe_callTy (T := "int") call_int1 (by rfl) T.z_int (by decide +kernel) (pa_cons (pv 3) pa_nil)) pe_int) pa_nil)))
    (pss_one (ps_set (i := 3) sc_law_draws.nd rfl (.inl rfl) (pe_op op_fdiv (pv 3) pe_int))))
    pss_nil))))
    (pss_cons (ps_set (i := 5) sc_law_draws.nd rfl (.inl rfl) (pe_op op_mod (pe_callTy (T := "int") call_int1 (by rfl) T.z_int (by decide +kernel) (pa_cons (pe_op op_add (pe_op op_mul (pv 3) pe_int) pe_int) pa_nil)) pe_int))
    (pss_one (ps_for PassesOwn.never rfl (pi_range1 (by rfl) T.z_range (pa_cons pe_int pa_nil)) (pg_name (i := 4) sc_law_draws.nd rfl (.inl rfl))
    (pss_cons (ps_set (i := 5) sc_law_draws.nd rfl (.inl rfl) (pe_op op_mod (pe_callTy (T := "int") call_int1 (by rfl) T.z_int (by decide +kernel) (pa_cons (pe_op op_add (pe_op op_add (pe_op op_mul (pv 5) pe_int) (pe_op op_mul pe_int (pv 4))) pe_int) pa_nil)) pe_int))
    (pss_one (ps_expr (pe_bm PySem.F.plainAttrs_list PySem.F.slot_list_append PySem.F.type_list_append mt_append (pv 1) (pa_cons (pe_op op_fdiv (pv 5) pe_int) pa_nil))))))))))))
    (pss_one (ps_ret (pv 1))))), ?_⟩
    refine ⟨Nat.zero_le _, fun D nD => ?_⟩
    have s1 : Same H (upd H D (.lst [])) := Ln.same_upd nD
    refine ⟨_, rfl, 63, rfl, a, ns.map V.int, rfl, s1.seq hS, fun c nc => ?_⟩
    obtain ⟨ms, ems, hms⟩ := cut63 ns
    rw [ems]
    have ncD : c ≠ D := fun e => by rw [e, upd_same] at nc; cases nc
    refine ⟨c, rfl, ⟨_, SqL.of upd_same⟩, for_list (K := K) (a := c) (xs := ms.map V.int) (fun i σ H' => ∃ (v2 v3 v4 v5 : Option V) (ds : List Int), σ = [some (.ref a), some (.ref D), v2, v3, v4, v5] ∧ Same H H' ∧ H' c = some (.lst (ms.map V.int)) ∧
        H' D = some (.lst (ds.map V.int)) ∧ ds.length ≤ 60 * i ∧ ∀ d ∈ ds, 0 ≤ d ∧ d < 4294967296) ?_ ?_ ?_ ?_⟩
    · refine ⟨none, none, none, none, [], rfl, s1.trans (Ln.same_upd nc), upd_same, ?_, Nat.zero_le _, by simp⟩
      rw [upd_ne ncD.symm]
      exact upd_same
    · rintro i σ H' hi ⟨_, _, _, _, _, _, _, hc, _⟩
      exact SqL.of hc
    · rintro i x σ H1 hx ⟨v2, v3, v4, v5, ds, rfl, sm, hc, hD, hl, hb⟩
      obtain ⟨z, hz, rfl⟩ := getI hx
      have hi : i < ms.length := (List.getElem?_eq_some_iff.mp hz).1
      -- rest = abs(cell)
      refine ⟨_, rfl, z, rfl, ?_⟩
      -- if rest >= 10 ** 18
      refine ⟨_, rfl, 10, 18, rfl, rfl, ⟨by decide, by decide, by decide⟩, _, _, rfl, rfl, _, rfl, ?_⟩
      have hnn : (0 : Int) ≤ (if z < 0 then -z else z) := by split <;> omega
      generalize (if z < 0 then -z else z) = r0 at hnn ⊢
      refine ite2 (fun _ => ?_) (fun _ => ?_)
      · -- the great ones
        refine ⟨60, rfl, by decide, by decide, for_range (lo := 0) (n := 60) (fun k σ H' => ∃ (r : Int) (v4 : Option V) (ds : List Int), σ = [some (.ref a), some (.ref D), some (.int z), some (.int r), v4, v5] ∧ 0 ≤ r ∧ Same H H' ∧ H' c = some (.lst (ms.map V.int)) ∧
          H' D = some (.lst (ds.map V.int)) ∧ ds.length ≤ 60 * i + k ∧ ∀ d ∈ ds, 0 ≤ d ∧ d < 4294967296) ?_ ?_ ?_⟩
        · exact ⟨r0, v4, ds, rfl, hnn, sm, hc, hD, by omega, hb⟩
        · rintro k σ H' hk ⟨r, u4, ds, rfl, hr0, sm, hc, hD, hl, hb⟩
          refine ⟨_, rfl, _, _, rfl, rfl, _, rfl, ite2 (fun _ => ?_) (fun _ => ?_)⟩
          · refine ⟨.ref D, rfl, .inl ⟨rfl, _, SqL.of hD⟩, _, rfl, .inl ⟨r, rfl, _, _, rfl, rfl, by show (0 : Int) < 1009; decide, D, _, _, rfl, rfl, hD, ?_, ?_⟩⟩
            · rw [List.length_map]; exact small1 (by omega)
            · rw [app1]
              refine ⟨_, rfl, _, _, rfl, rfl, ⟨by decide, by decide⟩, r / 1009, _, ds ++ [r % 1009], rfl, by omega, same_at sm nD, ?_, upd_same, by rw [List.length_append, List.length_singleton]; omega, good_app hb (by omega) (by omega)⟩
              rw [upd_ne ncD]
              exact hc
          · exact ⟨r, _, ds, rfl, hr0, sm, hc, hD, by omega, hb⟩
        · rintro σ H' ⟨r, u4, ds, rfl, hr0, sm, hc, hD, hl, hb⟩
          exact ⟨_, _, _, _, ds, rfl, sm, hc, hD, by omega, hb⟩
      · -- the small ones
        refine ⟨_, rfl, _, _, rfl, rfl, .inr ⟨by decide, by decide⟩, _, _, rfl, rfl, .inl ⟨_, rfl, _, _, rfl, rfl, by show (0 : Int) < 2147483647; decide, ?_⟩⟩
        refine ⟨12, rfl, by decide, by decide, for_range (lo := 0) (n := 12) (fun k σ H' => ∃ (m : Int) (v4 : Option V) (ds : List Int), σ = [some (.ref a), some (.ref D), some (.int z), some (.int r0), v4, some (.int m)] ∧ Same H H' ∧ H' c = some (.lst (ms.map V.int)) ∧
          H' D = some (.lst (ds.map V.int)) ∧ ds.length ≤ 60 * i + k ∧ ∀ d ∈ ds, 0 ≤ d ∧ d < 4294967296) ?_ ?_ ?_⟩
        · exact ⟨_, v4, ds, rfl, sm, hc, hD, by omega, hb⟩
        · rintro k σ H' hk ⟨m, u4, ds, rfl, sm, hc, hD, hl, hb⟩
          refine ⟨_, rfl, _, _, rfl, rfl, .inr ⟨by decide, by decide⟩, _, rfl, _, _, rfl, rfl, .inl ⟨by decide, by decide⟩, _, _, rfl, rfl, _, _, rfl, rfl, .inl ⟨_, rfl, _, _, rfl, rfl, by show (0 : Int) < 2147483629; decide, ?_⟩⟩
          have b0 := Int.emod_nonneg (m * 16807 + 69621 * (0 + (k : Int)) + 5) (show (2147483629 : Int) ≠ 0 by decide)
          have b1 := Int.emod_lt_of_pos (m * 16807 + 69621 * (0 + (k : Int)) + 5) (show (0 : Int) < 2147483629 by decide)
          refine ⟨.ref D, rfl, .inl ⟨rfl, _, SqL.of hD⟩, _, rfl, _, _, rfl, rfl, ⟨by decide, by decide⟩, D, _, _, rfl, rfl, hD, ?_, ?_⟩
          · rw [List.length_map]; exact small1 (by omega)
          · rw [app1]
            refine ⟨_, _, ds ++ [(m * 16807 + 69621 * (0 + (k : Int)) + 5) % 2147483629 / 1009], rfl, same_at sm nD, ?_, upd_same, by rw [List.length_append, List.length_singleton]; omega, good_app hb (by omega) (by omega)⟩
            rw [upd_ne ncD]
            exact hc
        · rintro σ H' ⟨r, u4, ds, rfl, sm, hc, hD, hl, hb⟩
          exact ⟨_, _, _, _, ds, rfl, sm, hc, hD, by omega, hb⟩
    · rintro σ H' ⟨v2, v3, v4, v5, ds, rfl, sm, hc, hD, hl, hb⟩
      rw [List.length_map] at hl
      exact ⟨_, rfl, q H' D ds sm nD hD ⟨by omega, hb⟩⟩
/-- where the draws stand -/
def Drw (dr at_ : Addr) (H : Hp) : Prop := ∃ (ds : List Int) (p : Int), H dr = some (.lst (ds.map V.int)) ∧ H at_ = some (.lst [.int p]) ∧ dr ≠ at_ ∧ Good ds ∧ 0 ≤ p
def spMore (K : PySem.W.Frag) : Sp := fun vs H Q _ => ∃ (dr : Addr) (ds : List Int) (p : Int), vs = [.ref dr, .int p] ∧ H dr = some (.lst (ds.map V.int)) ∧ Good ds ∧ ∀ v, Q (.int v) H
theorem ok_more {f : Addr} {fd : FuncData} (F : Fun K "_law_more" "_law_more" s_law_more f fd) (T : LawTxt mg) : FnG P w K mg base CX0 1 f fd ["draws", "place"] (spMore K) := by
  refine okG F sc_law_more (fun vs H Q E h => ?_) (fun cdv A outer s H vs Q E hG hr h => ?_)
  · obtain ⟨a, ds, p, rfl, _⟩ := h
    rfl
  · obtain ⟨a, ds, p, rfl, hd, ⟨hl, hb⟩, q⟩ := h
    refine ⟨_, (pss_cons (ps_set (i := 2) sc_law_more.nd rfl (.inl rfl) (pe_op op_mod (pe_callTy (T := "int") call_int1 (by rfl) T.z_int (by decide +kernel) (pa_cons (pe_op op_add (pe_op op_add (pe_op op_mul (pv 1) pe_int) (pe_callB (r := Ln.rLen K) (id := "len") c_len (by rfl) T.z_len (by decide +kernel) (pa_cons (pv 0) pa_nil))) pe_int) pa_nil)) pe_int))
    (pss_cons (ps_for PassesOwn.never rfl (pi_range1 (by rfl) T.z_range (pa_cons pe_int pa_nil)) (pg_name (i := 3) sc_law_more.nd rfl (.inl rfl))
    (pss_cons (ps_if (pt_truthK (pv 0) (by intro _; rfl))
    (pss_one (ps_set (i := 2) sc_law_more.nd rfl (.inl rfl) (pe_op op_add (pv 2) (pe_ix (r := rIxL K) ix_list (pv 0) (pe_op op_mod (pe_callTy (T := "int") call_int1 (by rfl) T.z_int (by decide +kernel) (pa_cons (pe_op op_add (pe_op op_mul (pv 1) (pe_op op_add (pv 3) pe_int)) (pv 3)) pa_nil)) (pe_callB (r := Ln.rLen K) (id := "len") c_len (by rfl) T.z_len (by decide +kernel) (pa_cons (pv 0) pa_nil))) (fun _ _ => rfl)))))
    pss_nil)
    (pss_one (ps_set (i := 2) sc_law_more.nd rfl (.inl rfl) (pe_op op_mod (pe_callTy (T := "int") call_int1 (by rfl) T.z_int (by decide +kernel) (pa_cons (pe_op op_add (pe_op op_add (pe_op op_mul (pv 2) pe_int) (pe_op op_mul pe_int (pv 3))) pe_int) pa_nil)) pe_int)))))
    (pss_one (ps_ret (pe_op op_fdiv (pv 2) pe_int))))), ?_⟩
    have hS : SqL K H a (ds.map V.int) := SqL.of hd
    refine ⟨_, rfl, _, _, rfl, rfl, .inr ⟨by decide, by decide⟩, .ref a, rfl, .ref a, ds.length, rfl, .inl ⟨_, hS, by rw [List.length_map]⟩, _, _, rfl, rfl, _, _, rfl, rfl, .inl ⟨_, rfl, _, _, rfl, rfl, by show (0 : Int) < 2147483629; decide, ?_⟩⟩
    refine ⟨3, rfl, by decide, by decide, for_range (lo := 0) (n := 3) (fun k σ H' => ∃ (m : Int) (v3 : Option V), σ = [some (.ref a), some (.int p), some (.int m), v3] ∧ H' = H) ?_ ?_ ?_⟩
    · exact ⟨_, none, rfl, rfl⟩
    · rintro k σ H' hk ⟨m, v3, rfl, rfl⟩
      have fin : ∀ m2 : Int, (fun σ' H'' => ∃ (m : Int) (v3 : Option V), σ' = [some (.ref a), some (.int p), some (.int m), v3] ∧ H'' = H') [some (.ref a), some (.int p), some (.int m2), some (.int (0 + (k : Int)))] H' := fun m2 => ⟨m2, _, rfl, rfl⟩
      refine ⟨.ref a, rfl, !ds.isEmpty, .inl ⟨_, hS, by rw [List.isEmpty_map]⟩, ite2 (fun hne => ?_) (fun _ => ?_)⟩
      · have hpos : 0 < ds.length := by
          cases ds with
          | nil => cases hne
          | cons x r => exact Nat.succ_pos _
        refine ⟨_, rfl, .ref a, rfl, _, rfl, _, rfl, _, _, rfl, rfl, _, _, rfl, rfl, .inr ⟨by omega, by omega⟩, _, rfl, _, _, rfl, rfl, .inl ⟨_, rfl, .ref a, rfl, .ref a, ds.length, rfl, .inl ⟨_, hS, by rw [List.length_map]⟩, _, _, rfl, rfl, by omega, ?_⟩⟩
        obtain ⟨j', hj, he⟩ := modIx (p * (0 + (k : Int) + 5) + (0 + (k : Int))) hpos
        refine ⟨a, _, _, .int ds[j'], rfl, rfl, hS, by rw [he]; exact atInt hj, _, _, rfl, rfl, ?_⟩
        refine ⟨_, rfl, _, _, rfl, rfl, .inr ⟨by decide, by decide⟩, _, rfl, _, _, rfl, rfl, .inl ⟨by decide, by decide⟩, _, _, rfl, rfl, _, _, rfl, rfl, .inl ⟨_, rfl, _, _, rfl, rfl, by show (0 : Int) < 2147483629; decide, ?_⟩⟩
        exact fin _
      · refine ⟨_, rfl, _, _, rfl, rfl, .inr ⟨by decide, by decide⟩, _, rfl, _, _, rfl, rfl, .inl ⟨by decide, by decide⟩, _, _, rfl, rfl, _, _, rfl, rfl, .inl ⟨_, rfl, _, _, rfl, rfl, by show (0 : Int) < 2147483629; decide, ?_⟩⟩
        exact fin _
    · rintro σ H' ⟨m, v3, rfl, rfl⟩
      exact ⟨_, rfl, _, _, rfl, rfl, ⟨by decide, by decide⟩, q _⟩
def spTake (K : PySem.W.Frag) : Sp := hid fun vs H Q _ => ∃ (dr at_ : Addr) (m : Int), vs = [.ref dr, .ref at_, .int m] ∧ Drw dr at_ H ∧ 0 < m ∧ ∀ v H', 0 ≤ v → v < m → But at_ H H' → Drw dr at_ H' → Q (.int v) H'
theorem ok_take {f : Addr} {fd : FuncData} (F : Fun K "_law_take" "_law_take" s_law_take f fd) (T : LawTxt mg) (c__law_more : Cg P w K mg base CX0 1 "_law_more" (spMore K)) : FnG P w K mg base CX0 2 f fd ["draws", "at", "many"] (spTake K) := by
  refine okG F sc_law_take (fun vs H Q E h => ?_) (fun cdv A outer s H vs Q E hG hr h => ?_)
  · obtain ⟨a, b, m, rfl, _⟩ := h
    rfl
  · obtain ⟨dr, at_, m, rfl, ⟨ds, p, hd, ha, ne, hgood, hp⟩, hm, q⟩ := h
    refine ⟨_, (pss_cons (ps_set (i := 3) sc_law_take.nd rfl (.inl rfl) (pe_ix (r := rIxL K) ix_list (pv 1) pe_int (fun _ _ => rfl)))
    (pss_cons (ps_asg (pe_op op_add (pv 3) pe_int) (pg_sub (pv 1) pe_int set_list))
    (pss_one (ps_ret (pe_op op_mod (pe_callTy (T := "int") call_int1 (by rfl) T.z_int (by decide +kernel) (pa_cons (pe_ifExp (pt_cmpR op_lt (pv 3) (pe_callB (r := Ln.rLen K) (id := "len") c_len (by rfl) T.z_len (by decide +kernel) (pa_cons (pv 0) pa_nil)) (nomark _)) (pe_ix (r := rIxL K) ix_list (pv 0) (pv 3) (fun _ _ => rfl)) (pe_cg c__law_more hr (by decide) hG (by rfl) (pa_cons (pv 0) (pa_cons (pv 3) pa_nil)))) pa_nil)) (pv 2)))))), ?_⟩
    refine ⟨_, rfl, at_, _, 0, .int p, rfl, rfl, SqL.of ha, atI_nat (j := 0) rfl, ?_⟩
    refine ⟨_, rfl, _, _, rfl, rfl, .ref at_, rfl, at_, _, 0, 0, rfl, rfl, ha, rfl, ?_⟩
    have hd' : (upd H at_ (.lst [.int (p + 1)])) dr = some (.lst (ds.map V.int)) := by rw [upd_ne ne]; exact hd
    have hS := SqL.of (K := K) hd'
    have fin : ∀ x : Int, Q (.int (x % m)) (upd H at_ (.lst [.int (p + 1)])) := fun x =>
      q _ _ (Int.emod_nonneg _ (by omega)) (Int.emod_lt_of_pos _ hm) (But.upd _ _ _) ⟨ds, p + 1, hd', upd_same, ne, hgood, by omega⟩
    refine ⟨_, rfl, .ref dr, rfl, .ref dr, ds.length, rfl, .inl ⟨_, hS, by rw [List.length_map]⟩, _, _, rfl, rfl, _, rfl, ite2 (fun hlt => ?_) (fun _ => ?_)⟩
    · have hlt' := of_decide_eq_true hlt
      obtain ⟨j, rfl⟩ : ∃ j : Nat, p = j := ⟨p.toNat, by omega⟩
      have hj : j < ds.length := by omega
      exact ⟨_, rfl, _, rfl, dr, _, _, .int ds[j], rfl, rfl, hS, atInt hj, .inl ⟨_, rfl, _, rfl, _, _, rfl, rfl, hm, fin _⟩⟩
    · exact ⟨_, rfl, _, rfl, dr, ds, p, rfl, hd', hgood, fun v => .inl ⟨_, rfl, _, rfl, _, _, rfl, rfl, hm, fin _⟩⟩
/-- one of a list's items -/
def spOne (K : PySem.W.Frag) : Sp := hid fun vs H Q _ => ∃ (r dr at_ : Addr) (xs : List V), vs = [.ref r, .ref dr, .ref at_] ∧ ((∀ H', But at_ H H' → SqL K H' r xs) ∨ SqT K H r xs) ∧ Drw dr at_ H ∧ 0 < xs.length ∧ ∀ x ∈ xs, ∀ H', But at_ H H' → Drw dr at_ H' → Q x H'
theorem ok_one {f : Addr} {fd : FuncData} (F : Fun K "_law_one" "_law_one" s_law_one f fd) (T : LawTxt mg) (c__law_take : Cg P w K mg base CX0 2 "_law_take" (spTake K)) : FnG P w K mg base CX0 3 f fd ["rows", "draws", "at"] (spOne K) := by
  refine okG F sc_law_one (fun vs H Q E h => ?_) (fun cdv A outer s H vs Q E hG hr h => ?_)
  · obtain ⟨a, b, m, xs, rfl, _⟩ := h
    rfl
  · obtain ⟨r, dr, at_, xs, rfl, hS, hD, hpos, q⟩ := h
    refine ⟨_, (pss_one (ps_ret (pe_ix (r := rIx K) ix_seq (pv 0) (pe_cg c__law_take hr (by decide) hG (by rfl) (pa_cons (pv 1) (pa_cons (pv 2) (pa_cons (pe_callB (r := Ln.rLen K) (id := "len") c_len (by rfl) T.z_len (by decide +kernel) (pa_cons (pv 0) pa_nil)) pa_nil)))) (fun _ _ => rfl)))), ?_⟩
    have hl : LenV K (.ref r) H xs.length := hS.elim (fun h => .inl ⟨_, h _ (But.refl _ _), rfl⟩) fun h => .inr ⟨_, h, rfl⟩
    refine ⟨.ref r, rfl, .ref dr, rfl, .ref at_, rfl, .ref r, rfl, .ref r, xs.length, rfl, hl, dr, at_, _, rfl, hD, by omega, fun v H' v0 v1 hB hD' => ?_⟩
    obtain ⟨j, rfl⟩ : ∃ j : Nat, v = j := ⟨v.toNat, by omega⟩
    have hj : j < xs.length := by omega
    have fin := q _ (List.getElem_mem hj) _ hB hD'
    have hat := atI_nat (List.getElem?_eq_getElem hj)
    rcases hS with hS | hS
    · exact .inl ⟨r, xs, _, xs[j], rfl, rfl, hS _ hB, hat, fin⟩
    · obtain ⟨ds, p, _, ha, _⟩ := hD
      exact .inr (.inl ⟨r, xs, _, xs[j], rfl, rfl, But.tup hB ha hS, hat, fin⟩)
end
end Mine
set_option Elab.async false
set_option linter.all false
set_option maxRecDepth 100000
set_option maxHeartbeats 4000000
namespace Mine
open PySem PySem.Spec PyProof.Rows L2 Ln Dl
/-! ## the draws, as surroundings -/
theorem Drw.keep {dr at_ : Addr} {H H' : Hp} (h : ∀ a ∈ [dr, at_], H' a = H a) (d : Drw dr at_ H) : Drw dr at_ H' := by
  obtain ⟨ds, p, h1, h2, h3⟩ := d
  exact ⟨ds, p, by rw [h dr (by simp)]; exact h1, by rw [h at_ (by simp)]; exact h2, h3⟩
theorem Drw.there {dr at_ : Addr} {H : Hp} (d : Drw dr at_ H) : ∀ a ∈ [dr, at_], H a ≠ none := by
  obtain ⟨ds, p, h1, h2, h3⟩ := d
  intro a ha
  rcases List.mem_cons.mp ha with e | ha
  · rw [e, h1]; exact fun z => by cases z
  · rcases List.mem_cons.mp ha with e | ha
    · rw [e, h2]; exact fun z => by cases z
    · cases ha
abbrev cyD (K : PySem.W.Frag) (dr at_ : Addr) (F H : Hp) : Cy := { K := K, B := [at_], A := [dr, at_], dw := Drw dr at_, H0 := H, F0 := F, dwS := fun _ _ => Drw.keep, dwT := fun _ => Drw.there }
/-- what stands behind a call that may draw -/
structure BhD (dr at_ : Addr) (F H F' H' : Hp) : Prop where
  sf : Same F F'
  sub : Same F' H'
  bt : But at_ H H'
  non : ∀ b, F b = none → H b ≠ none → F' b = none
  tup : ∀ b xs, Rd H' b (.tup xs) → Rd F' b (.tup xs)
  dw : Drw dr at_ H'
  lk : ∀ b o u, IsDk u → F' b = some (.frz o u) → F b = some (.frz o u)
section
variable {K : PySem.W.Frag} {dr at_ : Addr} {F0 H0 F H F' H' : Hp} {σ : L2.St} {G : List Sv} {O : Ow}
theorem Rp.calledD (r : Rp (cyD K dr at_ F0 H0) F H σ G O) (b : BhD dr at_ F H F' H') : Rp (cyD K dr at_ F0 H0) F' H' σ G O ∧ Gw O F H F' H' := by
  have ne : ∀ {D : Addr} {ob : Ob}, (D, ob) ∈ O → H' D = H D := fun {D ob} m => by
    obtain ⟨_, _, c, u, e, _⟩ := r.ow D ob m
    have z : D ≠ at_ := fun z => c (by rw [z]; simp)
    rw [e]
    exact b.bt D u z e
  refine ⟨r.step b.sf ⟨b.sub, r.q.old.trans b.sf, fun c o nb e => b.bt c o (fun z => nb (by rw [z]; simp)) (r.q.but c o nb e), ?_, fun c e1 e2 => b.non c (r.q.non c e1 e2) (r.q.thr c e2), b.tup, b.dw, ?_, fun c o u kd e => r.q.lk c o u kd (b.lk c o u kd e)⟩ ?_, ⟨b.sf, fun D ob m => ne m⟩⟩
  · intro c e
    have e := r.q.thr c e
    by_cases z : c = at_
    · rw [z]; exact b.dw.there at_ (by simp)
    · cases q : H c with
      | none => exact absurd q e
      | some o => rw [b.bt c o z q]; exact fun z => by cases z
  · intro a ha
    exact b.non a (r.q.na a ha) (r.q.dw.there a ha)
  · intro D ob m
    obtain ⟨_, c, _, u, e, _⟩ := r.ow D ob m
    exact ⟨ne m, b.non D c (by rw [e]; exact fun z => by cases z)⟩
/-- where only the number of the next draw has changed, and the heap has grown -/
theorem Rp.but (r : Rp (cyD K dr at_ F0 H0) F H σ G O) (bt : But at_ H H') (d : Drw dr at_ H') : Rp (cyD K dr at_ F0 H0) (grow F H H') H' σ G O ∧ Gw O F H (grow F H H') H' ∧ Same F (grow F H H') := by
  have nat : at_ ∈ [dr, at_] := by simp
  have hat : H at_ ≠ none := r.q.dw.there at_ nat
  have bb : BhD dr at_ F H (grow F H H') H' := by
    refine ⟨grow_same F H H', ?_, bt, fun b e n => grow_none e n, ?_, d, ?_⟩
    · intro b o e
      unfold grow at e
      cases q : F b with
      | some x =>
        rw [q] at e
        have z : b ≠ at_ := fun z => by rw [z, r.q.na at_ nat] at q; cases q
        exact bt b o z (r.q.sub b o (by rw [q]; exact e))
      | none =>
        rw [q] at e
        cases q2 : H b with
        | none => rw [q2] at e; exact unfz_some e
        | some y => rw [q2] at e; cases e
    · intro b xs k
      cases e : H b with
      | none =>
        have g := grow_new F (H' := H') (r.q.f0 e) e
        rcases k with k | ⟨o, k⟩
        · exact .inl (by rw [g]; exact unfz_tup.1 k)
        · exact .inr ⟨o, by rw [g]; exact unfz_tup.2 o k⟩
      | some u =>
        by_cases z : b = at_
        · obtain ⟨ds, p, _, h2, _⟩ := d
          rw [z] at k
          rcases k with k | ⟨o, k⟩
          · rw [h2] at k; cases k
          · rw [h2] at k; cases k
        · have e' := bt b u z e
          have k : Rd H b (.tup xs) := by
            rcases k with k | ⟨o, k⟩
            · rw [e'] at k; exact .inl (by rw [e]; exact k)
            · rw [e'] at k; exact .inr ⟨o, by rw [e]; exact k⟩
          rcases r.q.tup b xs k with k | ⟨o, k⟩
          · exact .inl (grow_old k)
          · exact .inr ⟨o, grow_old k⟩
    · intro b o u kd e
      unfold grow at e
      cases q : F b with
      | some x => rw [q] at e; exact e
      | none =>
        rw [q] at e
        cases q2 : H b with
        | none => rw [q2] at e; exact absurd e (unfz_nd kd)
        | some y => rw [q2] at e; cases e
  obtain ⟨a, g⟩ := Rp.calledD r bb
  exact ⟨a, g, bb.sf⟩
end
/-! ## contracts of defs that draw -/
abbrev WtD := Addr → Addr → Wt
structure SpD (K : PySem.W.Frag) (n : Nat) (W : WtD) (vs : List V) (H : Hp) (Q : VK) (E : XK) : Prop where
  ex : vs.length = n ∧ ∃ (dr at_ : Addr) (F : Hp) (as : List Sv) (k : Rs → Prop) (ke : Ke), Drw dr at_ H ∧ F dr = none ∧ F at_ = none ∧ Same F H ∧ (∀ b xs, Rd H b (.tup xs) → Rd F b (.tup xs)) ∧ Paired (SvOk K F) vs as ∧ W dr at_ as k ke ∧
    (∀ F' v H' s, BhD dr at_ F H F' H' → SvOk K F' v s → k (.v s) → Q v H') ∧
    (∀ F' D H' xs ss, BhD dr at_ F H F' H' → H D = none → F' D = none → H' D = some (.lst xs) → Paired (SvOk K F') xs ss → k (.l ss) → Q (.ref D) H') ∧
    (∀ F' cls dx H' fs es, BhD dr at_ F H F' H' → H dx = none → F' dx = some (.xd fs) → FsOk K F' fs es → ke cls es → E (.ref cls) (some dx) H')
def spD (K : PySem.W.Frag) (n : Nat) (W : WtD) : Sp := fun vs H Q E => SpD K n W vs H Q E
theorem rqD_start {K : PySem.W.Frag} {dr at_ : Addr} {F H : Hp} (d : Drw dr at_ H) (n1 : F dr = none) (n2 : F at_ = none) (s : Same F H) (t : ∀ b xs, Rd H b (.tup xs) → Rd F b (.tup xs)) : Rq (cyD K dr at_ F H) F H :=
  ⟨s, Same.refl F, fun _ _ _ e => e, fun _ e => e, fun _ e _ => e, t, d, (fun a ha => by
    rcases List.mem_cons.mp ha with e | ha
    · rw [e]; exact n1
    · rcases List.mem_cons.mp ha with e | ha
      · rw [e]; exact n2
      · cases ha), fun _ _ _ _ e => e⟩
theorem rqD_bh {K : PySem.W.Frag} {dr at_ : Addr} {F H F' H' : Hp} (q : Rq (cyD K dr at_ F H) F' H') : BhD dr at_ F H F' H' := ⟨q.old, q.sub, fun b o n e => q.but b o (fun z => n (by simpa using z)) e, q.non, q.tup, q.dw, q.lk⟩
section
variable {K : PySem.W.Frag} {dr at_ : Addr} {F0 H0 : Hp} {G : List Sv} {O : Ow} {ta : TA} {n : Nat} {W : WtD} {ES : L2.St → XK} {ke : Ke}
theorem dv_callD {k : Sv → Prop} (h : Da (cyD K dr at_ F0 H0) G O ta fun as => as.length = n ∧ W dr at_ as (fun r => match r with | .v s => k s | .l _ => False) (fun _ _ => False)) : Dv (cyD K dr at_ F0 H0) G O (Ln.tCg (spD K n W) ES ta) k := fun X F H σ Q r c =>
  h X F H σ _ r fun F1 vs H1 as s1 r1 p ⟨e, w⟩ => ⟨by rw [Paired.length p]; exact e, dr, at_, F1, as, _, _, r1.q.dw, r1.q.na dr (by simp), r1.q.na at_ (by simp), r1.q.sub, r1.q.tup, p, w,
    fun F' v H' s b sv q => c F' v H' s (s1.trans (Rp.calledD r1 b).2) (Rp.calledD r1 b).1 sv q, fun _ _ _ _ _ _ _ _ _ _ q => q.elim, fun _ _ _ _ _ _ _ _ _ _ q => q.elim⟩
theorem dl_callD {k : List Sv → Prop} (h : Da (cyD K dr at_ F0 H0) G O ta fun as => as.length = n ∧ W dr at_ as (fun r => match r with | .v _ => False | .l ss => k ss) (fun _ _ => False)) : Dl.Dl (cyD K dr at_ F0 H0) G O (Ln.tCg (spD K n W) ES ta) k := fun X F H σ Q r c =>
  h X F H σ _ r fun F1 vs H1 as s1 r1 p ⟨e, w⟩ => by
    refine ⟨by rw [Paired.length p]; exact e, dr, at_, F1, as, _, _, r1.q.dw, r1.q.na dr (by simp), r1.q.na at_ (by simp), r1.q.sub, r1.q.tup, p, w, fun _ _ _ _ _ _ q => q.elim, ?_, fun _ _ _ _ _ _ _ _ _ _ q => q.elim⟩
    intro F' D H' xs ss b nd nf hD pp q
    obtain ⟨r2, g⟩ := Rp.calledD r1 b
    refine c F' D H' ss (s1.trans g) (r1.q.h0 nd) ⟨r2.q, r2.len, r2.sl, ?_, ?_⟩ q
    · intro D2 ob m
      rcases List.mem_cons.mp m with m | m
      · cases m
        exact ⟨.inr (r1.q.h0 nd), nf, r1.q.nA nd, _, hD, xs, rfl, pp⟩
      · exact r2.ow D2 ob m
    · rw [List.map_cons, List.nodup_cons]
      refine ⟨fun m => ?_, r2.nd⟩
      obtain ⟨⟨D2, ob⟩, m', e'⟩ := List.mem_map.mp m
      obtain ⟨_, _, _, u, e1, _⟩ := r1.ow D2 ob m'
      have e' : D2 = D := e'
      rw [e', nd] at e1
      cases e1
instance s_callD {K' : PySem.W.Frag} {k : PyData → Prop} [e : Lkk K' K] : Stp (Dx (cyD K dr at_ F0 H0) G O (Ln.tCg (spD K' n W) ES ta) k) (Da (cyD K dr at_ F0 H0) G O ta fun as => as.length = n ∧ W dr at_ as (fun r => match r with | .v s => isD k s | .l _ => False) (fun _ _ => False)) := ⟨by rw [e.h]; exact fun h => dx_dv (dv_callD h)⟩
/-- a drawn number -/
theorem dx_take {tm : TE} {i j : Nat} {k : PyData → Prop} (h1 : G[i]? = some (.ptr dr)) (h2 : G[j]? = some (.ptr at_)) (h : Dx (cyD K dr at_ F0 H0) G O tm (isI fun m => 0 < m ∧ ∀ v : Int, 0 ≤ v → v < m → k (.int v))) :
    Dx (cyD K dr at_ F0 H0) G O (Ln.tCg (spTake K) ES (tCons (tVar i) (tCons (tVar j) (tCons tm tNil)))) k := fun X F H σ Q r c => by
  obtain ⟨v1, e1, p1⟩ := r.get h1 (fun z => by cases z)
  obtain ⟨v2, e2, p2⟩ := r.get h2 (fun z => by cases z)
  cases p1; cases p2
  refine ⟨_, e1, _, e2, ?_⟩
  exact h X F H σ _ r fun F1 w H1 d s1 r1 pd ⟨m, em, hm, q⟩ => by
    subst em; cases pd
    refine ⟨dr, at_, m, rfl, r1.q.dw, hm, fun v H' v0 v1 bt dw => ?_⟩
    obtain ⟨r2, g, _⟩ := Rp.but r1 bt dw
    exact c _ _ H' _ (s1.trans g) r2 (.int v) (q v v0 v1)
def takeK (k : Int → Prop) (m : Int) : Prop := 0 < m ∧ ∀ v : Int, 0 ≤ v → v < m → k v
instance s_take {K' : PySem.W.Frag} {tm : TE} {i j : Nat} {k : PyData → Prop} [e : Lkk K' K] [e1 : Lk G i (.ptr dr)] [e2 : Lk G j (.ptr at_)] : Stp (Dx (cyD K dr at_ F0 H0) G O (Ln.tCg (spTake K') ES (tCons (tVar i) (tCons (tVar j) (tCons tm tNil)))) k) (Dx (cyD K dr at_ F0 H0) G O tm (isI (takeK fun v => k (.int v)))) := ⟨by rw [e.h]; exact dx_take e1.h e2.h⟩
/-- one of several -/
theorem dx_one {tr : TE} {i j : Nat} {k : PyData → Prop} (h1 : G[i]? = some (.ptr dr)) (h2 : G[j]? = some (.ptr at_)) (h : Dx (cyD K dr at_ F0 H0) G O tr (isQ fun ds => 0 < ds.length ∧ ∀ d ∈ ds, k d)) :
    Dx (cyD K dr at_ F0 H0) G O (Ln.tCg (spOne K) ES (tCons tr (tCons (tVar i) (tCons (tVar j) tNil)))) k := fun X F H σ Q r c =>
  h X F H σ _ r fun F1 w H1 d s1 r1 pd ⟨ds, ed, hp, q⟩ => by
    obtain ⟨v1, e1, p1⟩ := r1.get h1 (fun z => by cases z)
    obtain ⟨v2, e2, p2⟩ := r1.get h2 (fun z => by cases z)
    cases p1; cases p2
    refine ⟨_, e1, _, e2, ?_⟩
    have fin : ∀ (a : Addr) (xs : List V), DpAll K F1 xs ds → ∀ x ∈ xs, ∀ H', But at_ H1 H' → Drw dr at_ H' → Q x H' := fun a xs ha x hx H' bt dw => by
      obtain ⟨l, hl, el⟩ := List.mem_iff_getElem.mp hx
      obtain ⟨e, he, pe⟩ := dpAll_get ha (i := l) (v := x) (by rw [List.getElem?_eq_getElem hl, el])
      obtain ⟨r2, g, sf⟩ := Rp.but r1 bt dw
      exact c _ _ H' e (s1.trans g) r2 (Dp.mono sf _ _ pe) (q e (List.mem_of_getElem? he))
    have nat : F1 at_ = none := r1.q.na at_ (by simp)
    rcases ed with ed | ed
    · subst ed
      cases pd with
      | @tup a xs _ hs ha => exact ⟨a, dr, at_, xs, rfl, .inr (Same.tup r1.q.sub hs), r1.q.dw, by rw [dpAll_len ha]; exact hp, fin a xs ha⟩
    · subst ed
      cases pd with
      | @lst a xs _ hs ha =>
        refine ⟨a, dr, at_, xs, rfl, .inl fun H' bt => ?_, r1.q.dw, by rw [dpAll_len ha]; exact hp, fin a xs ha⟩
        rcases hs with (k | ⟨o, k⟩) | k
        · exact .inl (.inl (bt a _ (fun z => by rw [z, nat] at k; cases k) (r1.q.sub _ _ k)))
        · exact .inl (.inr ⟨o, bt a _ (fun z => by rw [z, nat] at k; cases k) (r1.q.sub _ _ k)⟩)
        · exact .inr k
def oneK (k : PyData → Prop) (ds : List PyData) : Prop := 0 < ds.length ∧ ∀ d ∈ ds, k d
theorem oneK_nil {k : PyData → Prop} {d : PyData} (h : k d) : oneK k [d] := ⟨Nat.zero_lt_one, fun x hx => by simp at hx; rw [hx]; exact h⟩
theorem oneK_cons {k : PyData → Prop} {d e : PyData} {ds : List PyData} (h : k d) (t : oneK k (e :: ds)) : oneK k (d :: e :: ds) := ⟨Nat.succ_pos _, fun x hx => by
  rcases List.mem_cons.mp hx with z | z
  · rw [z]; exact h
  · exact t.2 x z⟩
instance s_one {K' : PySem.W.Frag} {tr : TE} {i j : Nat} {k : PyData → Prop} [e : Lkk K' K] [e1 : Lk G i (.ptr dr)] [e2 : Lk G j (.ptr at_)] : Stp (Dx (cyD K dr at_ F0 H0) G O (Ln.tCg (spOne K') ES (tCons tr (tCons (tVar i) (tCons (tVar j) tNil)))) k) (Dx (cyD K dr at_ F0 H0) G O tr (isQ (oneK k))) := ⟨by rw [e.h]; exact dx_one e1.h e2.h⟩
end
/-! ## the bodies -/
theorem rpD_start {K : PySem.W.Frag} {dr at_ : Addr} {F H : Hp} {vs : List V} {as : List Sv} {N : List Str} (q : Rq (cyD K dr at_ F H) F H) (p : Paired (SvOk K F) vs as) : Rp (cyD K dr at_ F H) F H (L2.start N vs) (as ++ List.replicate (N.length - vs.length) .any) [] := by
  have z := rp_start (K := K) (F := F) (H := H) (N := N) q.sub q.tup p
  exact ⟨q, z.len, z.sl, (fun _ _ m => by cases m), List.nodup_nil⟩
theorem okD {P : Program} {w : World} {K : PySem.W.Frag} {mg : Str → Option Value} {base : Heap} {x qual : Str} {st : Stmt} {f : Addr} {fd : FuncData} {N ps : List Str} {k n : Nat} {W : WtD} (F : Fun K x qual st f fd) (S : FnScope N ps (defScope st)) (hn : ps.length = n)
    (hbody : ∀ (cdv : Value) (A : Around) (outer : List Env) (s : Shared) (H : Hp) (E : XK), A.guards = some [] → Room k (A.deeper (envOfC qual (defScope st) s.heap.objs.size f cdv)) →
      ∃ t, PSs (cxOf CX0 P w K mg base N qual (defScope st) f cdv A outer s H E).nox (defBody st) t ∧ ∀ (dr at_ : Addr) (F0 H0 : Hp) (as : List Sv) (k : Rs → Prop) (ke : Ke), as.length = n → W dr at_ as k ke → Ds (cyD K dr at_ F0 H0) (as ++ List.replicate (N.length - n) .any) [] t { nx := fun _ _ => k (.v (.dat .none)), rt := k }) : FnG P w K mg base CX0 (k + 1) f fd ps (spD K n W) :=
  okG F S (fun vs H Q E h => by rw [h.ex.1, hn]) fun cdv A outer s H vs Q E hG hr h => by
    obtain ⟨t, ht, hd⟩ := hbody cdv A outer s H E hG hr
    refine ⟨t, ht, ?_⟩
    obtain ⟨e, dr, at_, F, as, k, ke, dw, n1, n2, sf, tp, p, w, q1, q2, q3⟩ := h.ex
    have r := rpD_start (N := N) (rqD_start (K := K) dw n1 n2 sf tp) p
    rw [e] at r
    refine hd dr at_ F H as k ke (by rw [← Paired.length p]; exact e) w [] F H _ _ r ?_ ⟨?_, ?_⟩ (fun _ _ _ _ _ _ _ z => z.elim) (fun _ _ _ _ _ _ _ z => z.elim)
    · exact fun F' σ' H' G' O' s' r' hk => q1 F' .non H' (.dat .none) (rqD_bh r'.q) .non hk
    · exact fun F' v H' s' _ rq sv hk => q1 F' v H' s' (rqD_bh rq) sv hk
    · exact fun F' D H' ss xs _ rq n0 nf _ hD pp hk => q2 F' D H' xs ss (rqD_bh rq) n0 nf hD pp hk
/-- what the law's body says from the draws on: the slots ahead of dr and at_ are forgotten -/
theorem law_enter {K : PySem.W.Frag} {dr at_ : Addr} {H : Hp} {v0 : Option V} {m : Nat} {t : TS} {D : Ends} {E : En} (d : Drw dr at_ H) (h : ∀ F0 H0, Ds (cyD K dr at_ F0 H0) (.any :: .ptr dr :: .ptr at_ :: List.replicate m .any) [] t E)
    (h1 : ∀ v H', E.rt (.v (.dat (.bool v))) → D.rt (.bl v) H') (h2 : ∀ r, E.rt r → ∃ b, r = .v (.dat (.bool b))) (h3 : ∀ G' O', ¬ E.nx G' O') (h4 : ∀ G' O', ¬ E.bk G' O') (h5 : ∀ G' O', ¬ E.ct G' O') : t D (v0 :: some (.ref dr) :: some (.ref at_) :: List.replicate m none) H := by
  have tp : ∀ b xs, Rd H b (.tup xs) → Rd (fun b => if b = dr ∨ b = at_ then none else H b) b (.tup xs) := by
    intro b xs k
    obtain ⟨ds, p, e1, e2, _⟩ := id d
    have z : ¬ (b = dr ∨ b = at_) := by
      rintro (z | z)
      · rw [z] at k
        rcases k with k | ⟨o, k⟩
        · rw [e1] at k; cases k
        · rw [e1] at k; cases k
      · rw [z] at k
        rcases k with k | ⟨o, k⟩
        · rw [e2] at k; cases k
        · rw [e2] at k; cases k
    rcases k with k | ⟨o, k⟩
    · exact .inl (by show (if b = dr ∨ b = at_ then none else H b) = _; rw [if_neg z]; exact k)
    · exact .inr ⟨o, by show (if b = dr ∨ b = at_ then none else H b) = _; rw [if_neg z]; exact k⟩
  have sf : Same (fun b => if b = dr ∨ b = at_ then none else H b) H := fun b o e => by
    have e : (if b = dr ∨ b = at_ then none else H b) = some o := e
    by_cases z : b = dr ∨ b = at_
    · rw [if_pos z] at e; cases e
    · rw [if_neg z] at e; exact e
  have q := rqD_start (K := K) d (F := fun b => if b = dr ∨ b = at_ then none else H b) (if_pos (.inl rfl)) (if_pos (.inr rfl)) sf tp
  refine h _ _ [] _ H _ D ⟨q, ?_, ?_, (fun _ _ m => by cases m), List.nodup_nil⟩ (fun _ _ _ _ _ _ _ z => (h3 _ _ z).elim) ⟨?_, ?_⟩ (fun _ _ _ _ _ _ _ z => (h4 _ _ z).elim) (fun _ _ _ _ _ _ _ z => (h5 _ _ z).elim)
  · simp
  · intro i s e
    match i, e with
    | 0, e => cases e; exact ⟨v0, rfl, trivial⟩
    | 1, e => cases e; exact ⟨_, rfl, rfl⟩
    | 2, e => cases e; exact ⟨_, rfl, rfl⟩
    | i + 3, e =>
      have e : (List.replicate m Sv.any)[i]? = some s := e
      have hi := (List.getElem?_eq_some_iff.mp e).1
      rw [List.length_replicate] at hi
      rw [List.getElem?_replicate_of_lt hi] at e
      cases e
      exact ⟨none, by show (List.replicate m none)[i]? = some none; rw [List.getElem?_replicate_of_lt hi], trivial⟩
  · intro F' v H' s _ _ sv hk
    obtain ⟨b, e⟩ := h2 _ hk
    cases e
    cases sv
    exact h1 b H' hk
  · intro F' D' H' ss xs _ _ _ _ _ _ _ hk
    obtain ⟨b, e⟩ := h2 _ hk
    cases e
/-- how each law begins: the draws, and the place of the next one -/
theorem law_start {K : PySem.W.Frag} {H : Hp} {σ : L2.St} {a : Addr} {ns : List Int} {m : Nat} {rest : TS} {D : Ends} {E : En} {ES : L2.St → XK} (hσ : σ = some (.ref a) :: List.replicate (m + 2) none) (hS : SqL K H a (ns.map V.int)) (hlen : ns.length ≤ 63)
    (h : ∀ dr at_ F0 H0, Ds (cyD K dr at_ F0 H0) (.any :: .ptr dr :: .ptr at_ :: List.replicate m .any) [] rest E)
    (h1 : ∀ v H', E.rt (.v (.dat (.bool v))) → D.rt (.bl v) H') (h2 : ∀ r, E.rt r → ∃ b, r = .v (.dat (.bool b))) (h3 : ∀ G' O', ¬ E.nx G' O') (h4 : ∀ G' O', ¬ E.bk G' O') (h5 : ∀ G' O', ¬ E.ct G' O') :
    tSeq (tAsg (Ln.tCg (spDraws K) ES (tCons (tVar 0) tNil)) (gName 1)) (tSeq (tAsg (tLst (tCons (tC (V.int 0)) tNil)) (gName 2)) rest) D σ H := by
  subst hσ
  refine ⟨.ref a, rfl, a, ns, rfl, hS, hlen, fun H1 dr ds sm1 ndr hdr hgood => ?_⟩
  refine ⟨by show 1 ≤ sizeLine; decide, fun at_ nat => ?_⟩
  have hDrw : Drw dr at_ (upd H1 at_ (.lst [.int 0])) := ⟨ds, 0, by rw [upd_ne (ne_of_none hdr nat)]; exact hdr, upd_same, ne_of_none hdr nat, hgood, by decide⟩
  exact law_enter (K := K) (m := m) (v0 := some (.ref a)) hDrw (h dr at_) h1 h2 h3 h4 h5
end Mine
local macro_rules | `(tactic| walk_at "d1") => `(tactic| first
  | refine Dl.Stp.h ?_
  | refine Dl.dg_tup ?_
  | refine Dl.szk_mk ?_
  | refine Dl.isT_mk ?_
  | refine Dl.isI_mk ?_
  | refine Dl.isS_mk ?_)
local macro_rules | `(tactic| walk_at "d") => `(tactic| repeat walk_at "d1")
set_option Elab.async false
set_option linter.all false
set_option maxRecDepth 100000
set_option maxHeartbeats 4000000
/-! what kinds of values there are, and what is asked -/
namespace Mine
open PySem PySem.Spec PyProof.Rows L2 Ln Dl
structure DTxt (mg : Str → Option Value) : Prop where
  z_len : mg "len" = none
  z_abs : mg "abs" = none
  z_int : mg "int" = none
  z_str : mg "str" = none
  z_bool : mg "bool" = none
  z_tuple : mg "tuple" = none
  z_list : mg "list" = none
  z_dict : mg "dict" = none
  z_set : mg "set" = none
  z_range : mg "range" = none
  z_min : mg "min" = none
  z_max : mg "max" = none
  z_sum : mg "sum" = none
  z_all : mg "all" = none
  z_any : mg "any" = none
  z_sorted : mg "sorted" = none
  z_reversed : mg "reversed" = none
  z_enumerate : mg "enumerate" = none
  z_zip : mg "zip" = none
  z_repr : mg "repr" = none
  z_isinstance : mg "isinstance" = none
abbrev s_ArgumentErrorD_initD : Stmt := inClass (topS 2) 0
abbrev N_ArgumentErrorD_initD : List Str := ["self", "reason"]
theorem sc_ArgumentErrorD_initD : FnScope N_ArgumentErrorD_initD ["self", "reason"] (defScope s_ArgumentErrorD_initD) := ⟨rfl, rfl, rfl, by decide +kernel, rfl, by decide +kernel, by decide +kernel⟩
-- slots: 0 self, 1 reason
abbrev s_PaperErrorD_initD : Stmt := inClass (topS 3) 0
abbrev N_PaperErrorD_initD : List Str := ["self", "reason"]
theorem sc_PaperErrorD_initD : FnScope N_PaperErrorD_initD ["self", "reason"] (defScope s_PaperErrorD_initD) := ⟨rfl, rfl, rfl, by decide +kernel, rfl, by decide +kernel, by decide +kernel⟩
-- slots: 0 self, 1 reason
abbrev s_require : Stmt := topS 12
abbrev N_require : List Str := ["holds", "reason"]
theorem sc_require : FnScope N_require ["holds", "reason"] (defScope s_require) := ⟨rfl, rfl, rfl, by decide +kernel, rfl, by decide +kernel, by decide +kernel⟩
-- slots: 0 holds, 1 reason
abbrev s_is_integer : Stmt := topS 5
abbrev N_is_integer : List Str := ["value"]
theorem sc_is_integer : FnScope N_is_integer ["value"] (defScope s_is_integer) := ⟨rfl, rfl, rfl, by decide +kernel, rfl, by decide +kernel, by decide +kernel⟩
-- slots: 0 value
abbrev s_is_within : Stmt := topS 6
abbrev N_is_within : List Str := ["value", "low", "high"]
theorem sc_is_within : FnScope N_is_within ["value", "low", "high"] (defScope s_is_within) := ⟨rfl, rfl, rfl, by decide +kernel, rfl, by decide +kernel, by decide +kernel⟩
-- slots: 0 value, 1 low, 2 high
abbrev s_is_row : Stmt := topS 7
abbrev N_is_row : List Str := ["value", "size"]
theorem sc_is_row : FnScope N_is_row ["value", "size"] (defScope s_is_row) := ⟨rfl, rfl, rfl, by decide +kernel, rfl, by decide +kernel, by decide +kernel⟩
-- slots: 0 value, 1 size
abbrev s_is_short : Stmt := topS 8
abbrev N_is_short : List Str := ["value", "most"]
theorem sc_is_short : FnScope N_is_short ["value", "most"] (defScope s_is_short) := ⟨rfl, rfl, rfl, by decide +kernel, rfl, by decide +kernel, by decide +kernel⟩
-- slots: 0 value, 1 most
abbrev s_are_integers : Stmt := topS 9
abbrev N_are_integers : List Str := ["value", "part"]
theorem sc_are_integers : FnScope N_are_integers ["value"] (defScope s_are_integers) := ⟨rfl, rfl, rfl, by decide +kernel, rfl, by decide +kernel, by decide +kernel⟩
-- slots: 0 value, 1 part
abbrev s_are_unlike : Stmt := topS 10
abbrev N_are_unlike : List Str := ["names"]
theorem sc_are_unlike : FnScope N_are_unlike ["names"] (defScope s_are_unlike) := ⟨rfl, rfl, rfl, by decide +kernel, rfl, by decide +kernel, by decide +kernel⟩
-- slots: 0 names
def intB : PyData → Bool | .int _ => true | _ => false
def strB : PyData → Bool | .str _ => true | _ => false
def withinB (d : PyData) (lo hi : Int) : Bool := match d with | .int i => decide (lo ≤ i) && decide (i ≤ hi) | _ => false
def rowB (d : PyData) (n : Int) : Bool := match d with | .tuple ds => decide ((ds.length : Int) = n) | _ => false
def shortB (d : PyData) (n : Int) : Bool := match d with | .tuple ds => decide ((ds.length : Int) ≤ n) | _ => false
def intsB (d : PyData) : Bool := match d with | .tuple ds => ds.all intB | _ => false
def strsB (d : PyData) : Bool := match d with | .tuple ds => ds.all strB | _ => false
theorem flat_of {d : PyData} (h : noLd d = true) : flatK d = true := by
  cases d <;> first | rfl | (simp [noLd] at h)
theorem noLds_mem {ds : List PyData} (h : noLds ds = true) : ∀ d ∈ ds, noLd d = true := by
  induction ds with
  | nil => simp
  | cons x r ih =>
    simp only [noLds, Bool.and_eq_true] at h
    intro d hd
    rcases List.mem_cons.mp hd with e | hd
    · rw [e]; exact h.1
    · exact ih h.2 d hd
theorem noLds_of {ds : List PyData} (h : ∀ d ∈ ds, noLd d = true) : noLds ds = true := by
  induction ds with
  | nil => rfl
  | cons x r ih =>
    simp only [noLds, Bool.and_eq_true]
    exact ⟨h x List.mem_cons_self, ih fun d hd => h d (List.mem_cons_of_mem _ hd)⟩
theorem noLd_tup {ds : List PyData} : noLd (.tuple ds) = noLds ds := by simp only [noLd]
section
variable {P : Program} {w : World} {K : PySem.W.Frag} {mg : Str → Option Value} {base : Heap} {C fI : Addr}
def wIsInt : Wt := fun as k _ => ∃ d, as = [.dat d] ∧ flatK d = true ∧ k (.v (.dat (.bool (intB d))))
theorem ok_isint {f : Addr} {fd : FuncData} (F : Fun K "is_integer" "is_integer" s_is_integer f fd) (T : DTxt mg) : FnG P w K mg base CX0 1 f fd ["value"] (spP K 1 wIsInt) := by
  refine okP F sc_is_integer rfl fun cdv A outer s H E hG hr => ⟨_, (pss_one (ps_ret (pe_and (pe_callB (r := rIsi K) (id := "isinstance") call_isi (by rfl) T.z_isinstance (by decide +kernel) (pa_cons (pv 0) (pa_cons (pe_bltn (v := .ty "int") (u := .type "int") (by rfl) T.z_int (by decide +kernel) rfl) pa_nil))) (pe_one (pe_not (pe_callB (r := rIsi K) (id := "isinstance") call_isi (by rfl) T.z_isinstance (by decide +kernel) (pa_cons (pv 0) (pa_cons (pe_bltn (v := .ty "bool") (u := .type "bool") (by rfl) T.z_bool (by decide +kernel) rfl) pa_nil)))))))), fun F0 H0 as k ke hl hw => ?_⟩
  obtain ⟨d, rfl, hf, q⟩ := hw
  change Ds _ [_] _ _ _
  walk_at "d"
  cases d <;> first | (cases hf; done) | (walk_at "d"; exact q)
def wWithin : Wt := fun as k _ => ∃ d lo hi, as = [.dat d, .dat (.int lo), .dat (.int hi)] ∧ flatK d = true ∧ k (.v (.dat (.bool (withinB d lo hi))))
theorem ok_within {f : Addr} {fd : FuncData} (F : Fun K "is_within" "is_within" s_is_within f fd) (c_is_integer : Cg P w K mg base CX0 1 "is_integer" (spP K 1 wIsInt)) : FnG P w K mg base CX0 2 f fd ["value", "low", "high"] (spP K 3 wWithin) := by
  refine okP F sc_is_within rfl fun cdv A outer s H E hG hr => ⟨_, (pss_one (ps_ret (pe_and (pe_cg c_is_integer hr (by decide) hG (by rfl) (pa_cons (pv 0) pa_nil)) (pe_one (pe_chain op_le op_le (pv 1) (pv 0) (pv 2)))))), fun F0 H0 as k ke hl hw => ?_⟩
  obtain ⟨d, lo, hi, rfl, hf, q⟩ := hw
  change Ds _ [_, _, _] _ _ _
  walk_at "d"
  refine ⟨d, rfl, hf, ?_⟩
  walk_at "d"
  refine ifB (fun h => ?_) (fun h => ?_)
  · cases d <;> first | cases h | skip
    rename_i i
    have q : k (.v (.dat (.bool (decide (lo ≤ i) && decide (i ≤ hi))))) := q
    walk_at "d"
    refine ifB (fun h => ?_) (fun h => ?_)
    · rw [h] at q
      walk_at "d"
      exact q
    · rw [h] at q
      exact q
  · cases d <;> first | exact q | cases h
def wIsRow : Wt := fun as k _ => ∃ d n, as = [.dat d, .dat (.int n)] ∧ flatK d = true ∧ k (.v (.dat (.bool (rowB d n))))
theorem ok_isrow {f : Addr} {fd : FuncData} (F : Fun K "is_row" "is_row" s_is_row f fd) (T : DTxt mg) : FnG P w K mg base CX0 1 f fd ["value", "size"] (spP K 2 wIsRow) := by
  refine okP F sc_is_row rfl fun cdv A outer s H E hG hr => ⟨_, (pss_one (ps_ret (pe_and (pe_callB (r := rIsi K) (id := "isinstance") call_isi (by rfl) T.z_isinstance (by decide +kernel) (pa_cons (pv 0) (pa_cons (pe_bltn (v := .ty "tuple") (u := .type "tuple") (by rfl) T.z_tuple (by decide +kernel) rfl) pa_nil))) (pe_one (pe_cmpR op_eq (pe_callB (r := Ln.rLen K) (id := "len") c_len (by rfl) T.z_len (by decide +kernel) (pa_cons (pv 0) pa_nil)) (pv 1) (nomark _)))))), fun F0 H0 as k ke hl hw => ?_⟩
  obtain ⟨d, n, rfl, hf, q⟩ := hw
  change Ds _ [_, _] _ _ _
  walk_at "d"
  cases d <;> first | (cases hf; done) | (walk_at "d"; exact q)
def wIsShort : Wt := fun as k _ => ∃ d n, as = [.dat d, .dat (.int n)] ∧ flatK d = true ∧ k (.v (.dat (.bool (shortB d n))))
theorem ok_isshort {f : Addr} {fd : FuncData} (F : Fun K "is_short" "is_short" s_is_short f fd) (T : DTxt mg) : FnG P w K mg base CX0 1 f fd ["value", "most"] (spP K 2 wIsShort) := by
  refine okP F sc_is_short rfl fun cdv A outer s H E hG hr => ⟨_, (pss_one (ps_ret (pe_and (pe_callB (r := rIsi K) (id := "isinstance") call_isi (by rfl) T.z_isinstance (by decide +kernel) (pa_cons (pv 0) (pa_cons (pe_bltn (v := .ty "tuple") (u := .type "tuple") (by rfl) T.z_tuple (by decide +kernel) rfl) pa_nil))) (pe_one (pe_cmpR op_le (pe_callB (r := Ln.rLen K) (id := "len") c_len (by rfl) T.z_len (by decide +kernel) (pa_cons (pv 0) pa_nil)) (pv 1) (nomark _)))))), fun F0 H0 as k ke hl hw => ?_⟩
  obtain ⟨d, n, rfl, hf, q⟩ := hw
  change Ds _ [_, _] _ _ _
  walk_at "d"
  cases d <;> first | (cases hf; done) | (walk_at "d"; exact q)
def wAreInts : Wt := fun as k _ => ∃ d, as = [.dat d] ∧ noLd d = true ∧ (∀ ds, d = .tuple ds → ds.length ≤ sizeLine) ∧ k (.v (.dat (.bool (intsB d))))
theorem ok_areints {f : Addr} {fd : FuncData} (F : Fun K "are_integers" "are_integers" s_are_integers f fd) (T : DTxt mg) (c_is_integer : Cg P w K mg base CX0 1 "is_integer" (spP K 1 wIsInt)) : FnG P w K mg base CX0 2 f fd ["value"] (spP K 1 wAreInts) := by
  refine okP F sc_are_integers rfl fun cdv A outer s H E hG hr => ⟨_, (pss_one (ps_ret (pe_and (pe_callB (r := rIsi K) (id := "isinstance") call_isi (by rfl) T.z_isinstance (by decide +kernel) (pa_cons (pv 0) (pa_cons (pe_bltn (v := .ty "tuple") (u := .type "tuple") (by rfl) T.z_tuple (by decide +kernel) rfl) pa_nil))) (pe_one (pe_callB (r := rAll K) (id := "all") (cr_all rfl) (by rfl) T.z_all (by decide +kernel) (pa_cons (pe_lc (own := [("part", 1)]) rfl sc_are_integers.nd (pi_tup (pv 0)) (blkOk_by (own := [("part", 1)]) (N := N_are_integers) (sc := defScope s_are_integers) (by decide +kernel)) (fun _ _ _ _ _ => (pg_name (i := 1) sc_are_integers.nd rfl (.inl rfl))) (fun _ _ _ _ _ => pts_nil) (fun _ _ _ _ _ => (pe_cg c_is_integer hr (by decide) hG (by rfl) (pa_cons (pv 1) pa_nil)))) pa_nil)))))), fun F0 H0 as k ke hl hw => ?_⟩
  obtain ⟨d, rfl, hf, hz, q⟩ := hw
  change Ds _ [_, _] _ _ _
  walk_at "d"
  cases d with
  | tuple ds =>
    walk_at "d"
    rw [noLd_tup] at hf
    refine dl_mapD ?_
    walk_at "d"
    refine ⟨hz ds rfl, fun d => .dat (.bool (intB d)), fun i x hx => ?_, ds.map intB, by rw [List.map_map]; rfl, ?_⟩
    · walk_at "d"
      refine ⟨_, rfl, flat_of (noLds_mem hf x (List.mem_of_getElem? hx)), ?_⟩
      walk_at "d"
      rfl
    · rw [List.all_map]
      exact q
  | _ => first | (walk_at "d"; exact q) | (simp [noLd] at hf)
theorem dx_lenNames {K' : PySem.W.Frag} {Cc : Cy} {G : List Sv} {O : Ow} {t : TE} {k : PyData → Prop} [e : Lkk K' Cc.K] (h : Dx Cc G O t (isLs fun ds => ∃ xs : List Str, ds = xs.map .str ∧ xs.length ≤ 60 ∧ k (.int ((met xs).length : Nat)))) : Dx Cc G O (tLenNames K' t) k := fun X F H σ Q r c => by
  rw [e.h]
  exact h X F H σ _ r fun F1 v H1 d s1 r1 p1 ⟨ds, ed, xs, ex, hl, q⟩ => by
    subst ed ex
    cases p1 with
    | @lst a us _ hs ha =>
      have := dpAll_strs ha
      subst this
      exact ⟨a, xs, rfl, r1.q.sub.seq hs, hl, c F1 _ H1 _ s1 r1 (.int _) q⟩
instance s_lenNames {K' : PySem.W.Frag} {Cc : Cy} {G : List Sv} {O : Ow} {t : TE} {k : PyData → Prop} [e : Lkk K' Cc.K] : Stp (Dx Cc G O (tLenNames K' t) k) (Dx Cc G O t (isLs fun ds => ∃ xs : List Str, ds = xs.map .str ∧ xs.length ≤ 60 ∧ k (.int ((met xs).length : Nat)))) := ⟨dx_lenNames⟩
def wUnlike : Wt := fun as k _ => ∃ xs : List Str, as = [.dat (.list (xs.map .str))] ∧ xs.length ≤ 60 ∧ k (.v (.dat (.bool (decide xs.Nodup))))
theorem ok_unlike {f : Addr} {fd : FuncData} (F : Fun K "are_unlike" "are_unlike" s_are_unlike f fd) (T : DTxt mg) : FnG P w K mg base CX0 1 f fd ["names"] (spP K 1 wUnlike) := by
  refine okP F sc_are_unlike rfl fun cdv A outer s H E hG hr => ⟨_, (pss_one (ps_ret (pe_cmpR op_eq (pe_lenNames rfl (by rfl) T.z_len (by rfl) T.z_set (pv 0)) (pe_callB (r := Ln.rLen K) (id := "len") c_len (by rfl) T.z_len (by decide +kernel) (pa_cons (pv 0) pa_nil)) (nomark _)))), fun F0 H0 as k ke hl hw => ?_⟩
  obtain ⟨xs, rfl, hz, q⟩ := hw
  change Ds _ [_] _ _ _
  walk_at "d"
  refine ⟨xs, rfl, hz, ?_⟩
  walk_at "d"
  rw [List.length_map]
  have e : decide (((met xs).length : Nat) = (((xs.length : Nat)) : Int)) = decide xs.Nodup := decide_eq_decide.mpr (by rw [← met_all xs]; omega)
  rw [e]
  exact q
/-! ## errors -/
structure ErrT (K : PySem.W.Frag) (C fI : Addr) : Prop where
  o : OexC K C
  x : XfC K C
  n : PySem.W.findIn K (.ref C) "reason" = some none
  i : PySem.W.findIn K (.ref C) "__init__" = some (some (.ref fI))
  t : PySem.W.typeIn K (.ref fI) = some (.type "function")
structure ArgErr (K : PySem.W.Frag) (mg : Str → Option Value) (C fI : Addr) : Prop where
  m_ArgumentError : mg "ArgumentError" = some (.ref C)
  o_ArgumentError : OexC K C
  x_ArgumentError : XfC K C
  n_ArgumentError_reason : PySem.W.findIn K (.ref C) "reason" = some none
  i_ArgumentError : PySem.W.findIn K (.ref C) "__init__" = some (some (.ref fI))
  t_ArgumentError : PySem.W.typeIn K (.ref fI) = some (.type "function")
theorem ok_init {f : Addr} {fd : FuncData} (F : Fun K "__init__" "ArgumentError.__init__" s_ArgumentErrorD_initD f fd) (T : ArgErr K mg C fI) : FnOk P w K mg base CX0 1 f fd ["self", "reason"] (spIni C ["reason"]) := by
  refine F.ok sc_ArgumentErrorD_initD (fun vs H Q E h => ?_) (fun cdv A outer s H vs Q E hr h => ?_)
  · obtain ⟨a, zs, rfl, hz, _⟩ := h
    rw [List.length_cons, hz]; rfl
  · obtain ⟨a, zs, rfl, hz, ha, q⟩ := h
    match zs, hz with
    | [v], _ =>
      refine ⟨_, (pss_one (ps_ost (pv 0) (pv 1))), ?_⟩
      exact ⟨v, rfl, .ref a, rfl, a, C, rfl, T.o_ArgumentError, T.n_ArgumentError_reason, .inl ⟨ha, fun dx n1 n2 => q dx n1 n2⟩⟩
structure PapErr (K : PySem.W.Frag) (mg : Str → Option Value) (C fI : Addr) : Prop where
  m_PaperError : mg "PaperError" = some (.ref C)
  o_PaperError : OexC K C
  x_PaperError : XfC K C
  n_PaperError_reason : PySem.W.findIn K (.ref C) "reason" = some none
  i_PaperError : PySem.W.findIn K (.ref C) "__init__" = some (some (.ref fI))
  t_PaperError : PySem.W.typeIn K (.ref fI) = some (.type "function")
theorem ok_initp {f : Addr} {fd : FuncData} (F : Fun K "__init__" "PaperError.__init__" s_PaperErrorD_initD f fd) (T : PapErr K mg C fI) : FnOk P w K mg base CX0 1 f fd ["self", "reason"] (spIni C ["reason"]) := by
  refine F.ok sc_PaperErrorD_initD (fun vs H Q E h => ?_) (fun cdv A outer s H vs Q E hr h => ?_)
  · obtain ⟨a, zs, rfl, hz, _⟩ := h
    rw [List.length_cons, hz]; rfl
  · obtain ⟨a, zs, rfl, hz, ha, q⟩ := h
    match zs, hz with
    | [v], _ =>
      refine ⟨_, (pss_one (ps_ost (pv 0) (pv 1))), ?_⟩
      exact ⟨v, rfl, .ref a, rfl, a, C, rfl, T.o_PaperError, T.n_PaperError_reason, .inl ⟨ha, fun dx n1 n2 => q dx n1 n2⟩⟩
def rsn (x : Str) : List (Str × PyData) := [("reason", .str x)]
def wRequire (C : Addr) : Wt := fun as k ke => ∃ (b : Bool) (x : Str), as = [.dat (.bool b), .dat (.str x)] ∧ (b = true → k (.v (.dat .none))) ∧ (b = false → ke C (rsn x))
theorem ok_require {f : Addr} {fd fdI : FuncData} (F : Fun K "require" "require" s_require f fd) (T : ArgErr K mg C fI) (fi_ArgumentError : FnOk P w K mg base CX0 1 fI fdI ["self", "reason"] (spIni C ["reason"])) (fb_ArgumentError : Binds K fdI ["self", "reason"] []) :
    FnG P w K mg base (L2.CX P w) 3 f fd ["holds", "reason"] (spP K 2 (wRequire C)) := by
  refine okPX F sc_require rfl fun cdv A outer s H E hG hr => ?_
  have tk0 : Takes (cxOf (L2.CX P w) P w K mg base N_require "require" (defScope s_require) f cdv A outer s H E) (fun cls d _ H => E cls d H) := takes_of rfl rfl rfl rfl
  refine ⟨_, (pss_one (ps_if (pt_not (pt_truthK (pv 0) (by intro _; rfl)))
    (pss_one (ps_raise rfl tk0 (pmk_oex T.o_ArgumentError T.i_ArgumentError T.t_ArgumentError fi_ArgumentError (hr.mono (by decide)) fb_ArgumentError .nil pass0 (by rfl) T.m_ArgumentError (pa_cons (pv 1) pa_nil))))
    pss_nil)), fun F0 H0 as k ke hl hw hE => ?_⟩
  obtain ⟨b, x, rfl, qt, qf⟩ := hw
  change Ds _ [_, _] _ _ _
  walk_at "d"
  refine ifB (fun h => ?_) (fun h => ?_)
  · cases b with
    | true => cases h
    | false =>
      refine ds_raise (fs := ["reason"]) hE ?_
      walk_at "d"
      exact ⟨by show 1 ≤ 1000; decide, qf rfl⟩
  · cases b with
    | true => walk_at "d"; exact qt rfl
    | false => cases h
end
end Mine
set_option Elab.async false
set_option linter.all false
set_option maxRecDepth 100000
set_option maxHeartbeats 4000000
namespace Mine
open PySem PySem.Spec PyProof.Rows L2 Ln Dl
abbrev s_behind : Stmt := topS 24
abbrev N_behind : List Str := ["entry", "size", "seats", "full", "last"]
theorem sc_behind : FnScope N_behind ["entry", "size", "seats"] (defScope s_behind) := ⟨rfl, rfl, rfl, by decide +kernel, rfl, by decide +kernel, by decide +kernel⟩
-- slots: 0 entry, 1 size, 2 seats, 3 full, 4 last
abbrev s_rows_used : Stmt := topS 25
abbrev N_rows_used : List Str := ["entry", "full", "last"]
theorem sc_rows_used : FnScope N_rows_used ["entry"] (defScope s_rows_used) := ⟨rfl, rfl, rfl, by decide +kernel, rfl, by decide +kernel, by decide +kernel⟩
-- slots: 0 entry, 1 full, 2 last
section
variable {P : Program} {w : World} {K : PySem.W.Frag} {mg : Str → Option Value} {base : Heap}
abbrev entD (e : Int × Int) : PyData := .tuple [.int e.1, .int e.2]
def behindF (seats size : Int) (e : Int × Int) : Int × Int := if e.2 + size ≤ seats then (e.1, e.2 + size) else (e.1 + 1, size)
def wBehind : Wt := fun as k _ => ∃ (e : Int × Int) (size seats : Int), as = [.dat (entD e), .dat (.int size), .dat (.int seats)] ∧ k (.v (.dat (entD (behindF seats size e))))
theorem ok_behind {f : Addr} {fd : FuncData} (F : Fun K "behind" "behind" s_behind f fd) : FnG P w K mg base CX0 1 f fd ["entry", "size", "seats"] (spP K 3 wBehind) := by
  refine okP F sc_behind rfl fun cdv A outer s H E hG hr => ⟨_, (pss_cons (ps_asg (pv 0) (pg_tup (by rfl) (pgs_cons (pg_name (i := 3) sc_behind.nd rfl (.inl rfl)) (pgs_cons (pg_name (i := 4) sc_behind.nd rfl (.inl rfl)) pgs_nil))))
    (pss_cons (ps_if (pt_cmpR op_le (pe_op op_add (pv 4) (pv 1)) (pv 2) (nomark _))
    (pss_one (ps_ret (pe_tup (pa_cons (pv 3) (pa_cons (pe_op op_add (pv 4) (pv 1)) pa_nil)))))
    pss_nil)
    (pss_one (ps_ret (pe_tup (pa_cons (pe_op op_add (pv 3) pe_int) (pa_cons (pv 1) pa_nil))))))), fun F0 H0 as k ke hl hw => ?_⟩
  obtain ⟨e, size, seats, rfl, q⟩ := hw
  change Ds _ [_, _, _, _, _] _ _ _
  walk_at "d"
  unfold behindF at q
  refine ifP (fun h => ?_) (fun h => ?_)
  · rw [if_pos h] at q
    walk_at "d"
    exact q
  · rw [if_neg h] at q
    walk_at "d"
    exact q
def wUsed : Wt := fun as k _ => ∃ (e : Int × Int), as = [.dat (entD e)] ∧ k (.v (.dat (.int (if 0 < e.2 then e.1 + 1 else e.1))))
theorem ok_used {f : Addr} {fd : FuncData} (F : Fun K "rows_used" "rows_used" s_rows_used f fd) : FnG P w K mg base CX0 1 f fd ["entry"] (spP K 1 wUsed) := by
  refine okP F sc_rows_used rfl fun cdv A outer s H E hG hr => ⟨_, (pss_cons (ps_asg (pv 0) (pg_tup (by rfl) (pgs_cons (pg_name (i := 1) sc_rows_used.nd rfl (.inl rfl)) (pgs_cons (pg_name (i := 2) sc_rows_used.nd rfl (.inl rfl)) pgs_nil))))
    (pss_one (ps_ret (pe_ifExp (pt_cmpR op_gt (pv 2) pe_int (nomark _)) (pe_op op_add (pv 1) pe_int) (pv 1))))), fun F0 H0 as k ke hl hw => ?_⟩
  obtain ⟨e, rfl, q⟩ := hw
  change Ds _ [_, _, _] _ _ _
  walk_at "d"
  refine ifP (fun h => ?_) (fun h => ?_)
  · rw [if_pos h] at q
    walk_at "d"
    exact q
  · rw [if_neg h] at q
    walk_at "d"
    exact q
end
end Mine
set_option Elab.async false
set_option linter.all false
set_option maxRecDepth 100000
set_option maxHeartbeats 4000000
namespace Mine
open PySem PySem.Spec PyProof.Rows L2 Ln Dl
abbrev s_members : Stmt := topS 16
abbrev N_members : List Str := ["number", "place"]
theorem sc_members : FnScope N_members ["number"] (defScope s_members) := ⟨rfl, rfl, rfl, by decide +kernel, rfl, by decide +kernel, by decide +kernel⟩
-- slots: 0 number*, 1 place
abbrev s_is_group : Stmt := topS 21
abbrev N_is_group : List Str := ["value", "seats"]
theorem sc_is_group : FnScope N_is_group ["value", "seats"] (defScope s_is_group) := ⟨rfl, rfl, rfl, by decide +kernel, rfl, by decide +kernel, by decide +kernel⟩
-- slots: 0 value, 1 seats
abbrev s_require_groups : Stmt := topS 20
abbrev N_require_groups : List Str := ["groups", "rows", "seats", "part", "group"]
theorem sc_require_groups : FnScope N_require_groups ["groups", "rows", "seats"] (defScope s_require_groups) := ⟨rfl, rfl, rfl, by decide +kernel, rfl, by decide +kernel, by decide +kernel⟩
-- slots: 0 groups, 1 rows, 2 seats*, 3 part, 4 group
theorem intBits_of {n G : Nat} (h : n < 2 ^ G) : Builtin.Int.intBits (n : Int) ≤ G := PyProof.Rows.intBits_le (by simpa using h)
abbrev natD (n : Nat) : PyData := .int (n : Int)
structure SeaTxt (mg : Str → Option Value) : Prop extends DTxt mg where
  g_MAX_GROUPS : ∃ u, mg "MAX_GROUPS" = some u ∧ RelV (.int 10) u
  g_MAX_SEATED : ∃ u, mg "MAX_SEATED" = some u ∧ RelV (.int 12) u
  g_MAX_ROWS : ∃ u, mg "MAX_ROWS" = some u ∧ RelV (.int 99) u
section
variable {P : Program} {w : World} {K : PySem.W.Frag} {mg : Str → Option Value} {base : Heap} {C fI : Addr}
def wMembers : Wt := fun as k _ => ∃ n : Nat, as = [.dat (.int (n : Int))] ∧ n < 2 ^ 20 ∧ k (.l (((bitsOf n).map natD).map Sv.dat))
theorem ok_members {f : Addr} {fd : FuncData} (F : Fun K "members" "members" s_members f fd) (T : DTxt mg) : FnG P w K mg base CX0 1 f fd ["number"] (spP K 1 wMembers) := by
  refine okP F sc_members rfl fun cdv A outer s H E hG hr => ⟨_, (pss_one (ps_ret (pe_lc (own := [("place", 1)]) rfl sc_members.nd (pi_range1 (by rfl) T.z_range (pa_cons (pe_bits (pv 0)) pa_nil)) (blkOk_by (own := [("place", 1)]) (N := N_members) (sc := defScope s_members) (by decide +kernel)) (fun _ _ _ _ _ => (pg_name (i := 1) sc_members.nd rfl (.inl rfl))) (fun _ _ _ _ _ => (pts_one (pt_cmpR op_gt (pe_op op_and (pv 0) (pe_op op_shl pe_int (pv 1))) pe_int (nomark _)))) (fun _ _ _ _ _ => (pv 1))))), fun F0 H0 as k ke hl hw => ?_⟩
  obtain ⟨n, rfl, hn, q⟩ := hw
  change Ds _ [_, _] _ _ _
  walk_at "d"
  refine dl_filt ?_
  walk_at "d"
  have hb := intBits_of hn
  refine ⟨⟨by omega, by omega⟩, by rw [List.length_map, List.length_range, sizeLine_eq]; omega, Nat, List.range (Builtin.Int.intBits (n : Int)), _, n.testBit, fun i => .dat (natD i), by rw [Int.toNat_natCast], fun i x hx => ?_, by rw [List.map_map] at q; exact q⟩
  walk_at "d"
  have hx := List.mem_range.mp (List.mem_of_getElem? hx)
  refine ⟨⟨by omega, by omega, by decide⟩, ?_⟩
  walk_at "d"
  refine ⟨by rw [Int.toNat_natCast]; exact bit_test n x, fun _ => ?_⟩
  walk_at "d"
  rfl
def groupB (d : PyData) (s : Int) : Bool := match d with | .tuple [a, b] => strB a && withinB b 1 s | _ => false
def wIsGroup : Wt := fun as k _ => ∃ d s, as = [.dat d, .dat (.int s)] ∧ noLd d = true ∧ k (.v (.dat (.bool (groupB d s))))
theorem ok_isgroup {f : Addr} {fd : FuncData} (F : Fun K "is_group" "is_group" s_is_group f fd) (T : DTxt mg) (c_is_row : Cg P w K mg base CX0 1 "is_row" (spP K 2 wIsRow)) (c_is_within : Cg P w K mg base CX0 2 "is_within" (spP K 3 wWithin)) : FnG P w K mg base CX0 3 f fd ["value", "seats"] (spP K 2 wIsGroup) := by
  refine okP F sc_is_group rfl fun cdv A outer s H E hG hr => ⟨_, (pss_one (ps_ret (pe_and (pe_cg c_is_row hr (by decide) hG (by rfl) (pa_cons (pv 0) (pa_cons pe_int pa_nil))) (pe_and (pe_callB (r := rIsi K) (id := "isinstance") call_isi (by rfl) T.z_isinstance (by decide +kernel) (pa_cons (pe_ix (r := rIxT K) ix_tup (pv 0) pe_int (fun _ _ => rfl)) (pa_cons (pe_bltn (v := .ty "str") (u := .type "str") (by rfl) T.z_str (by decide +kernel) rfl) pa_nil))) (pe_one (pe_cg c_is_within hr (by decide) hG (by rfl) (pa_cons (pe_ix (r := rIxT K) ix_tup (pv 0) pe_int (fun _ _ => rfl)) (pa_cons pe_int (pa_cons (pv 1) pa_nil))))))))), fun F0 H0 as k ke hl hw => ?_⟩
  obtain ⟨d, s, rfl, hn, q⟩ := hw
  change Ds _ [_, _] _ _ _
  walk_at "d"
  refine ⟨d, 2, rfl, flat_of hn, ?_⟩
  walk_at "d"
  refine ifB (fun h => ?_) (fun h => ?_)
  · match d, h with
    | .tuple [a, b], _ =>
      walk_at "d"
      refine ⟨a, rfl, ?_⟩
      simp only [noLd, noLds, Bool.and_eq_true] at hn
      have fa := flat_of hn.1
      have fb := flat_of hn.2.1
      have nx : ∀ x : Bool, x = strB a → k (.v (.dat (.bool (x && withinB b 1 s)))) := fun x e => by rw [e]; exact q
      cases a <;> first | (cases fa; done) | (walk_at "d"; exact nx false rfl) | skip
      walk_at "d"
      refine ⟨b, rfl, ?_⟩
      walk_at "d"
      refine ⟨b, 1, s, rfl, fb, ?_⟩
      walk_at "d"
      exact nx true rfl
    | .tuple [], h => cases h
    | .tuple [_], h => cases h
    | .tuple (_ :: _ :: _ :: l), h =>
      simp [rowB] at h
      omega
    | .none, h => cases h
    | .bool _, h => cases h
    | .int _, h => cases h
    | .str _, h => cases h
    | .list _, h => cases h
    | .dict _, h => cases h
  · have e : groupB d s = false := by
      match d, h with
      | .tuple [a, b], h => cases h
      | .tuple [], h => rfl
      | .tuple [_], h => rfl
      | .tuple (_ :: _ :: _ :: _), h => rfl
      | .none, h => rfl
      | .bool _, h => rfl
      | .int _, h => rfl
      | .str _, h => rfl
      | .list _, h => rfl
      | .dict _, h => rfl
    rw [e] at q
    exact q
/-! ## what is asked of groups -/
abbrev grpD (g : Str × Int) : PyData := .tuple [.str g.1, .int g.2]
abbrev gsD (gs : List (Str × Int)) : PyData := .tuple (gs.map grpD)
def groupsB (d : PyData) (s : Int) : Bool := match d with | .tuple ds => ds.all fun x => groupB x s | _ => false
def seatsI (d : PyData) : Int := match d with | .int i => i | _ => 0
def grpsOf (d : PyData) : List (Str × Int) := match d with | .tuple ds => ds.map (fun x => match x with | .tuple [.str a, .int b] => (a, b) | _ => (Str.ofString "", 0)) | _ => []
/-- what is wrong with the three -/
def reqG (g r s : PyData) : Option Str :=
  if withinB r 0 99 = false then some "rows" else if withinB s 1 12 = false then some "seats" else if (shortB g 10 && groupsB g (seatsI s)) = false then some "groups" else if ((grpsOf g).map Prod.fst).Nodup then none else some "groups"
structure GoodG (gs : List (Str × Int)) (ro se : Int) : Prop where
  r : 0 ≤ ro ∧ ro ≤ 99
  s : 1 ≤ se ∧ se ≤ 12
  l : gs.length ≤ 10
  z : ∀ g ∈ gs, 1 ≤ g.2 ∧ g.2 ≤ se
  n : (gs.map Prod.fst).Nodup
theorem withinB_ex {d : PyData} {lo hi : Int} (h : withinB d lo hi = true) : ∃ i, d = .int i ∧ lo ≤ i ∧ i ≤ hi := by
  cases d <;> simp [withinB] at h
  exact ⟨_, rfl, h⟩
theorem groupB_ex {d : PyData} {s : Int} (h : groupB d s = true) : ∃ g : Str × Int, d = grpD g ∧ 1 ≤ g.2 ∧ g.2 ≤ s := by
  match d, h with
  | .tuple [a, b], h =>
    simp only [groupB, Bool.and_eq_true] at h
    obtain ⟨i, rfl, h1, h2⟩ := withinB_ex h.2
    cases a <;> simp [strB] at h
    exact ⟨(_, i), rfl, h1, h2⟩
theorem groupsB_ex : ∀ {ds : List PyData} {s : Int}, (ds.all fun x => groupB x s) = true → ∃ gs : List (Str × Int), ds = gs.map grpD ∧ ∀ g ∈ gs, 1 ≤ g.2 ∧ g.2 ≤ s
  | [], _, _ => ⟨[], rfl, by simp⟩
  | d :: ds, s, h => by
    rw [List.all_cons, Bool.and_eq_true] at h
    obtain ⟨g, rfl, hg⟩ := groupB_ex h.1
    obtain ⟨gs, rfl, hgs⟩ := groupsB_ex h.2
    exact ⟨g :: gs, rfl, fun x hx => by
      rcases List.mem_cons.mp hx with e | hx
      · rw [e]; exact hg
      · exact hgs x hx⟩
theorem grpsOf_gsD (gs : List (Str × Int)) : grpsOf (gsD gs) = gs := by
  show (gs.map grpD).map _ = gs
  rw [List.map_map]
  exact (List.map_congr_left fun _ _ => rfl).trans (List.map_id gs)
theorem reqG_none {g r s : PyData} (h : reqG g r s = none) : ∃ gs ro se, g = gsD gs ∧ r = .int ro ∧ s = .int se ∧ GoodG gs ro se := by
  unfold reqG at h
  by_cases c1 : withinB r 0 99 = false
  · rw [if_pos c1] at h; cases h
  rw [if_neg c1] at h
  by_cases c2 : withinB s 1 12 = false
  · rw [if_pos c2] at h; cases h
  rw [if_neg c2] at h
  by_cases c3 : (shortB g 10 && groupsB g (seatsI s)) = false
  · rw [if_pos c3] at h; cases h
  rw [if_neg c3] at h
  by_cases c4 : ((grpsOf g).map Prod.fst).Nodup
  · obtain ⟨ro, rfl, hr⟩ := withinB_ex (Bool.not_eq_false _ ▸ c1)
    obtain ⟨se, rfl, hs⟩ := withinB_ex (Bool.not_eq_false _ ▸ c2)
    have c3 := (Bool.not_eq_false _ ▸ c3 : (shortB g 10 && groupsB g (seatsI (.int se))) = true)
    rw [Bool.and_eq_true] at c3
    match g, c3 with
    | .tuple ds, c3 =>
      obtain ⟨gs, rfl, hg⟩ := groupsB_ex c3.2
      have c4 : ((grpsOf (gsD gs)).map Prod.fst).Nodup := c4
      rw [grpsOf_gsD] at c4
      refine ⟨gs, ro, se, rfl, rfl, rfl, hr, hs, ?_, hg, c4⟩
      have := c3.1
      simp [shortB] at this
      omega
  · rw [if_neg c4] at h; cases h
theorem groupsB_of {gs : List (Str × Int)} {s : Int} (h : ∀ g ∈ gs, 1 ≤ g.2 ∧ g.2 ≤ s) : groupsB (gsD gs) s = true := by
  show ((gs.map grpD).all fun x => groupB x s) = true
  rw [List.all_map, List.all_eq_true]
  intro g hg
  simpa [groupB, strB, withinB] using h g hg
theorem reqG_good {gs : List (Str × Int)} {ro se : Int} (h : GoodG gs ro se) : reqG (gsD gs) (.int ro) (.int se) = none := by
  have e1 : withinB (.int ro) 0 99 = true := by simpa [withinB] using h.r
  have e2 : withinB (.int se) 1 12 = true := by simpa [withinB] using h.s
  have e3 : shortB (gsD gs) 10 = true := by
    have := h.l
    simp [shortB]; omega
  have e4 : groupsB (gsD gs) (seatsI (.int se)) = true := groupsB_of h.z
  unfold reqG
  rw [e1, e2, e3, e4, grpsOf_gsD, if_pos h.n]
  rfl
def wReqG (C : Addr) : Wt := fun as k ke => ∃ g r s, as = [.dat g, .dat r, .dat s] ∧ noLd g = true ∧ noLd r = true ∧ noLd s = true ∧ (reqG g r s = none → k (.v (.dat .none))) ∧ ∀ x, reqG g r s = some x → ke C (rsn x)
theorem ok_reqG {f : Addr} {fd : FuncData} (F : Fun K "require_groups" "require_groups" s_require_groups f fd) (T : SeaTxt mg) (c_is_within : Cg P w K mg base CX0 2 "is_within" (spP K 3 wWithin)) (c_is_short : Cg P w K mg base CX0 1 "is_short" (spP K 2 wIsShort)) (c_is_group : Cg P w K mg base CX0 3 "is_group" (spP K 2 wIsGroup)) (c_are_unlike : Cg P w K mg base CX0 1 "are_unlike" (spP K 1 wUnlike)) (c_require : Cg P w K mg base (L2.CX P w) 3 "require" (spP K 2 (wRequire C))) :
    FnG P w K mg base (L2.CX P w) 4 f fd ["groups", "rows", "seats"] (spP K 3 (wReqG C)) := by
  refine okPX F sc_require_groups rfl fun cdv A outer s H E hG hr => ?_
  have tk0 : Takes (cxOf (L2.CX P w) P w K mg base N_require_groups "require_groups" (defScope s_require_groups) f cdv A outer s H E) (fun cls d _ H => E cls d H) := takes_of rfl rfl rfl rfl
  refine ⟨_, (pss_cons (ps_expr (pe_cgS c_require hr (by decide) hG (fun _ => passE tk0) (by rfl) (pa_cons (pe_cg c_is_within hr (by decide) hG (by rfl) (pa_cons (pv 1) (pa_cons pe_int (pa_cons (pe_gl (by rfl) T.g_MAX_ROWS) pa_nil)))) (pa_cons pe_str pa_nil))))
    (pss_cons (ps_expr (pe_cgS c_require hr (by decide) hG (fun _ => passE tk0) (by rfl) (pa_cons (pe_cg c_is_within hr (by decide) hG (by rfl) (pa_cons (pv 2) (pa_cons pe_int (pa_cons (pe_gl (by rfl) T.g_MAX_SEATED) pa_nil)))) (pa_cons pe_str pa_nil))))
    (pss_cons (ps_expr (pe_cgS c_require hr (by decide) hG (fun _ => passE tk0) (by rfl) (pa_cons (pe_and (pe_cg c_is_short hr (by decide) hG (by rfl) (pa_cons (pv 0) (pa_cons (pe_gl (by rfl) T.g_MAX_GROUPS) pa_nil))) (pe_one (pe_callB (r := rAll K) (id := "all") (cr_all rfl) (by rfl) T.z_all (by decide +kernel) (pa_cons (pe_lc (own := [("part", 3)]) rfl sc_require_groups.nd (pi_tup (pv 0)) (blkOk_by (own := [("part", 3)]) (N := N_require_groups) (sc := defScope s_require_groups) (by decide +kernel)) (fun _ _ _ _ _ => (pg_name (i := 3) sc_require_groups.nd rfl (.inl rfl))) (fun _ _ _ _ _ => pts_nil) (fun _ _ _ _ _ => (pe_cg c_is_group hr (by decide) hG (by rfl) (pa_cons (pv 3) (pa_cons (pv 2) pa_nil))))) pa_nil)))) (pa_cons pe_str pa_nil))))
    (pss_one (ps_expr (pe_cgS c_require hr (by decide) hG (fun _ => passE tk0) (by rfl) (pa_cons (pe_cg c_are_unlike hr (by decide) hG (by rfl) (pa_cons (pe_lc (own := [("group", 4)]) rfl sc_require_groups.nd (pi_tup (pv 0)) (blkOk_by (own := [("group", 4)]) (N := N_require_groups) (sc := defScope s_require_groups) (by decide +kernel)) (fun _ _ _ _ _ => (pg_name (i := 4) sc_require_groups.nd rfl (.inl rfl))) (fun _ _ _ _ _ => pts_nil) (fun _ _ _ _ _ => (pe_ix (r := rIxT K) ix_tup (pv 4) pe_int (fun _ _ => rfl)))) pa_nil)) (pa_cons pe_str pa_nil)))))))), fun F0 H0 as k ke hl hw hE => ?_⟩
  obtain ⟨g, r, s, rfl, ng, nr, ns, qn, qx⟩ := hw
  haveI := EkI.of hE
  change Ds _ [_, _, _, _, _] _ _ _
  walk_at "d"
  refine ⟨r, 0, 99, rfl, flat_of nr, ?_⟩
  walk_at "d"
  refine ⟨_, _, rfl, fun h1 => ?_, fun h1 => qx _ (by unfold reqG; rw [if_pos h1])⟩
  walk_at "d"
  refine ⟨s, 1, 12, rfl, flat_of ns, ?_⟩
  walk_at "d"
  refine ⟨_, _, rfl, fun h2 => ?_, fun h2 => qx _ (by unfold reqG; rw [h1, h2]; rfl)⟩
  walk_at "d"
  refine ⟨g, 10, rfl, flat_of ng, ?_⟩
  obtain ⟨se, rfl, hse⟩ := withinB_ex h2
  have no : (shortB g 10 && groupsB g se) = false → ke C (rsn "groups") := fun h => qx _ (by unfold reqG; rw [h1, h2]; show (if (shortB g 10 && groupsB g se) = false then _ else _) = _; rw [if_pos h])
  walk_at "d"
  refine ifB (fun h3 => ?_) (fun h3 => ?_)
  · match g, h3 with
    | .tuple ds, h3 =>
      have hl : (ds.length : Int) ≤ 10 := by simpa [shortB] using h3
      walk_at "d"
      refine dl_mapD ?_
      walk_at "d"
      refine ⟨by rw [sizeLine_eq]; omega, fun d => .dat (.bool (groupB d se)), fun i x hx => ?_, ds.map (fun d => groupB d se), by rw [List.map_map]; rfl, ?_⟩
      · walk_at "d"
        refine ⟨_, _, rfl, noLds_mem (by simpa only [noLd_tup] using ng) x (List.mem_of_getElem? hx), ?_⟩
        walk_at "d"
        rfl
      walk_at "d"
      rw [List.all_map]
      refine ⟨_, _, rfl, fun h4 => ?_, fun h4 => no (by rw [h3]; exact h4)⟩
      have h4 : (ds.all fun x => groupB x se) = true := h4
      obtain ⟨gs, rfl, hg⟩ := groupsB_ex h4
      walk_at "d"
      refine dl_map ?_
      walk_at "d"
      rw [List.length_map] at hl
      refine ⟨by rw [List.length_map, sizeLine_eq]; omega, _, gs, grpD, fun g => .dat (.str g.1), rfl, fun i x hx => ?_, (gs.map Prod.fst).map .str, by rw [List.map_map, List.map_map]; rfl, ?_⟩
      · walk_at "d"
        refine ⟨_, rfl, ?_⟩
        walk_at "d"
        rfl
      walk_at "d"
      refine ⟨_, rfl, by rw [List.length_map]; omega, ?_⟩
      walk_at "d"
      have e : reqG (gsD gs) r (.int se) = if (gs.map Prod.fst).Nodup then none else some (Str.ofString "groups") := by
        unfold reqG
        rw [h1, h2, h3, grpsOf_gsD, show groupsB (gsD gs) (seatsI (.int se)) = true from h4]
        rw [if_neg (by decide), if_neg (by decide), if_neg (by decide)]
      rw [e] at qn qx
      refine ⟨_, _, rfl, fun h5 => ?_, fun h5 => ?_⟩
      · walk_at "d"
        exact qn (by rw [if_pos (of_decide_eq_true h5)])
      · exact qx _ (by rw [if_neg (of_decide_eq_false h5)])
    | .none, h => cases h
    | .bool _, h => cases h
    | .int _, h => cases h
    | .str _, h => cases h
    | .list _, h => cases h
    | .dict _, h => cases h
  · walk_at "d"
    exact ⟨_, _, rfl, (fun z => by cases z), fun _ => no (by rw [h3]; rfl)⟩
end
end Mine
set_option Elab.async false
set_option linter.all false
set_option maxRecDepth 100000
set_option maxHeartbeats 4000000
namespace Mine
open PySem PySem.Spec PyProof.Rows L2 Ln Dl PySem.W
abbrev s_entry_for : Stmt := topS 23
abbrev N_entry_for : List Str := ["groups", "seats", "table", "number", "place"]
theorem sc_entry_for : FnScope N_entry_for ["groups", "seats", "table", "number"] (defScope s_entry_for) := ⟨rfl, rfl, rfl, by decide +kernel, rfl, by decide +kernel, by decide +kernel⟩
-- slots: 0 groups*, 1 seats*, 2 table*, 3 number*, 4 place
abbrev s_find_table : Stmt := topS 22
abbrev N_find_table : List Str := ["groups", "seats", "table", "number"]
theorem sc_find_table : FnScope N_find_table ["groups", "seats"] (defScope s_find_table) := ⟨rfl, rfl, rfl, by decide +kernel, rfl, by decide +kernel, by decide +kernel⟩
-- slots: 0 groups, 1 seats, 2 table, 3 number
abbrev s_seat_table : Stmt := topS 19
abbrev N_seat_table : List Str := ["groups", "rows", "seats"]
theorem sc_seat_table : FnScope N_seat_table ["groups", "rows", "seats"] (defScope s_seat_table) := ⟨rfl, rfl, rfl, by decide +kernel, rfl, by decide +kernel, by decide +kernel⟩
-- slots: 0 groups, 1 rows, 2 seats
def sz (gs : List (Str × Int)) (p : Nat) : Int := (gs.map Prod.snd).getD p 0
def candF (gs : List (Str × Int)) (seats : Int) (tab : List (Int × Int)) (n : Nat) : List (Int × Int) := (bitsOf n).map fun p => behindF seats (sz gs p) (tab.getD (n - 2 ^ p) (0, 0))
def minL : List (Int × Int) → Int × Int
  | [] => (0, 0)
  | x :: xs => minE x xs
def entF (gs : List (Str × Int)) (seats : Int) (tab : List (Int × Int)) (n : Nat) : Int × Int := minL (candF gs seats tab n)
def tabL (gs : List (Str × Int)) (seats : Int) : Nat → List (Int × Int)
  | 0 => []
  | n + 1 => tabL gs seats n ++ [entF gs seats (tabL gs seats n) n]
theorem tabL_len (gs : List (Str × Int)) (seats : Int) : ∀ n, (tabL gs seats n).length = n
  | 0 => rfl
  | n + 1 => by show (_ ++ [_]).length = _; rw [List.length_append, tabL_len gs seats n]; rfl
theorem sz_get {gs : List (Str × Int)} {p : Nat} (h : p < gs.length) : ∃ x, gs[p]? = some (x, sz gs p) := by
  refine ⟨gs[p].1, ?_⟩
  unfold sz
  rw [List.getD_eq_getElem?_getD, List.getElem?_map, List.getElem?_eq_getElem h]
  rfl
section
variable {P : Program} {w : World} {K : PySem.W.Frag} {mg : Str → Option Value} {base : Heap} {C fI : Addr}
def wEntry : Wt := fun as k _ => ∃ (gs : List (Str × Int)) (seats : Int) (tab : List (Int × Int)) (td : PyData) (n : Nat), as = [.dat (gsD gs), .dat (.int seats), .dat td, .dat (natD n)] ∧ (td = .tuple (tab.map entD) ∨ td = .list (tab.map entD)) ∧ n < 2 ^ gs.length ∧ n ≤ tab.length ∧ gs.length ≤ 10 ∧ k (.v (.dat (entD (entF gs seats tab n))))
theorem ok_entry {f : Addr} {fd : FuncData} (F : Fun K "entry_for" "entry_for" s_entry_for f fd) (T : DTxt mg) (c_members : Cg P w K mg base CX0 1 "members" (spP K 1 wMembers)) (c_behind : Cg P w K mg base CX0 1 "behind" (spP K 3 wBehind)) : FnG P w K mg base CX0 2 f fd ["groups", "seats", "table", "number"] (spP K 4 wEntry) := by
  refine okP F sc_entry_for rfl fun cdv A outer s H E hG hr => ⟨_, (pss_one (ps_ret (pe_callBK (r := Dl.rMinGD K) (ks := [Str.ofString "default"]) (Dl.cr_minGD rfl (Dl.u8 hr)) (by rfl) T.z_min (by decide +kernel) (pa_cons (pe_lc (own := [("place", 4)]) rfl sc_entry_for.nd (pi_list (pe_cg c_members hr (by decide) hG (by rfl) (pa_cons (pv 3) pa_nil))) (blkOk_by (own := [("place", 4)]) (N := N_entry_for) (sc := defScope s_entry_for) (by decide +kernel)) (fun _ _ _ _ _ => (pg_name (i := 4) sc_entry_for.nd rfl (.inl rfl))) (fun _ _ _ _ _ => pts_nil) (fun _ _ _ _ _ => (pe_cg c_behind hr (by decide) hG (by rfl) (pa_cons (pe_ix (r := rIx K) ix_seq (pv 2) (pe_op op_sub (pv 3) (pe_op op_shl pe_int (pv 4))) (fun _ _ => rfl)) (pa_cons (pe_ix (r := rIxT K) ix_tup (pe_ix (r := rIxT K) ix_tup (pv 0) (pv 4) (fun _ _ => rfl)) pe_int (fun _ _ => rfl)) (pa_cons (pv 1) pa_nil)))))) pa_nil) (pk_cons (pe_tup (pa_cons pe_int (pa_cons pe_int pa_nil))) pk_nil)))), fun F0 H0 as k ke hl hw => ?_⟩
  obtain ⟨gs, seats, tab, td, n, rfl, ht, hn, hnt, hg, q⟩ := hw
  change Ds _ [_, _, _, _, _] _ _ _
  walk_at "d"
  have hb : 2 ^ gs.length ≤ 2 ^ 10 := Nat.pow_le_pow_right (by decide) hg
  refine dl_map ?_
  walk_at "d"
  refine ⟨n, rfl, by omega, _, rfl, ?_⟩
  walk_at "d"
  refine ⟨by rw [List.length_map, sizeLine_eq]; exact Nat.le_trans (Nat.le_trans (List.length_filter_le _ _) (by rw [List.length_range]; exact intBits_of (Nat.lt_of_lt_of_le hn hb))) (by decide), Nat, bitsOf n, natD, fun p => .dat (entD (behindF seats (sz gs p) (tab.getD (n - 2 ^ p) (0, 0)))), rfl, fun i p hp => ?_, (candF gs seats tab n).map entD, by unfold candF; rw [List.map_map, List.map_map]; rfl, ?_⟩
  · have hp := mem_bitsOf.mp (List.mem_of_getElem? hp)
    have hpl := testBit_lt hn hp
    have hle := bit_le hp
    have hpos := Nat.two_pow_pos p
    obtain ⟨x, hx⟩ := sz_get hpl
    have hi := atI_map (g := entD) (bit_sub hp) (get_getD (z := (0, 0)) (show n - 2 ^ p < tab.length by omega))
    walk_at "d"
    refine isQ_of ht ?_
    walk_at "d"
    refine ⟨⟨by omega, by omega, by decide⟩, ?_⟩
    walk_at "d"
    refine ⟨_, hi, ?_⟩
    walk_at "d"
    refine ⟨_, atI_map rfl hx, ?_⟩
    walk_at "d"
    refine ⟨_, rfl, ?_⟩
    walk_at "d"
    refine ⟨_, _, _, rfl, ?_⟩
    walk_at "d"
    rfl
  · walk_at "d"
    unfold entF at q
    refine minKD_ent (fun e => ?_) fun y ys e => ?_
    · rw [e] at q; exact q
    · rw [e] at q; exact q
def wFind : Wt := fun as k _ => ∃ (gs : List (Str × Int)) (seats : Int), as = [.dat (gsD gs), .dat (.int seats)] ∧ gs.length ≤ 10 ∧ k (.l (((tabL gs seats (2 ^ gs.length)).map entD).map Sv.dat))
theorem ok_find {f : Addr} {fd : FuncData} (F : Fun K "find_table" "find_table" s_find_table f fd) (T : DTxt mg) (c_entry_for : Cg P w K mg base CX0 2 "entry_for" (spP K 4 wEntry)) : FnG P w K mg base CX0 3 f fd ["groups", "seats"] (spP K 2 wFind) := by
  refine okP F sc_find_table rfl fun cdv A outer s H E hG hr => ⟨_, (pss_cons (ps_set (i := 2) sc_find_table.nd rfl (.inl rfl) (pe_lst pa_nil))
    (pss_cons (ps_for PassesOwn.never rfl (pi_range1 (by rfl) T.z_range (pa_cons (pe_op op_shl pe_int (pe_callB (r := Ln.rLen K) (id := "len") c_len (by rfl) T.z_len (by decide +kernel) (pa_cons (pv 0) pa_nil))) pa_nil)) (pg_name (i := 3) sc_find_table.nd rfl (.inl rfl))
    (pss_one (ps_expr (pe_bm PySem.F.plainAttrs_list PySem.F.slot_list_append PySem.F.type_list_append mt_append (pv 2) (pa_cons (pe_cg c_entry_for hr (by decide) hG (by rfl) (pa_cons (pv 0) (pa_cons (pv 1) (pa_cons (pv 2) (pa_cons (pv 3) pa_nil))))) pa_nil)))))
    (pss_one (ps_ret (pv 2))))), fun F0 H0 as k ke hl hw => ?_⟩
  obtain ⟨gs, seats, rfl, hg, q⟩ := hw
  change Ds _ [_, _, _, _] _ _ _
  walk_at "d"
  intro D hD
  walk_at "d"
  have hb : 2 ^ gs.length ≤ 2 ^ 10 := Nat.pow_le_pow_right (by decide) hg
  have hpos := Nat.two_pow_pos gs.length
  refine ds_for ?_
  walk_at "d"
  rw [List.length_map]
  have e1 : (1 : Int) * 2 ^ ((gs.length : Int)).toNat = ((2 ^ gs.length : Nat) : Int) := by
    rw [Int.toNat_natCast, Int.one_mul, Int.natCast_pow]; rfl
  rw [e1]
  refine ⟨⟨by omega, by omega, by decide⟩, ?_⟩
  walk_at "d"
  rw [Int.toNat_natCast]
  refine ⟨⟨by omega, by omega⟩, fun i G' O' => (∃ z, G' = [.dat (gsD gs), .dat (.int seats), .ptr D, z]) ∧ O' = [(D, .lst (((tabL gs seats i).map entD).map Sv.dat))], ⟨⟨_, rfl⟩, rfl⟩, ?_, ?_⟩
  · rintro i d G' O' hd ⟨⟨z, rfl⟩, rfl⟩
    have hi : i < 2 ^ gs.length := by
      have := (List.getElem?_eq_some_iff.mp hd).1
      rwa [List.length_map, List.length_range] at this
    rw [mapI_get hi] at hd
    cases hd
    walk_at "d"
    rw [List.length_map, List.length_map, tabL_len]
    refine ⟨by rw [sizeLine_eq]; omega, ?_⟩
    refine dv_dx (dx_lend 2 hD ?_)
    walk_at "d"
    refine ⟨gs, seats, _, _, i, rfl, .inr rfl, hi, Nat.le_of_eq (tabL_len gs seats i).symm, hg, ?_⟩
    walk_at "d"
    refine ⟨rfl, ?_⟩
    walk_at "d"
    refine ⟨⟨_, rfl⟩, ?_⟩
    show _ = [(D, Ob.lst (((tabL gs seats i ++ [_]).map entD).map Sv.dat))]
    rw [List.map_append, List.map_append]
    rfl
  · rintro G' O' ⟨⟨z, rfl⟩, rfl⟩
    walk_at "d"
    rw [List.length_map, List.length_range]
    exact ⟨hD, q⟩
def wSeatTab (C : Addr) : Wt := fun as k ke => ∃ g r s, as = [.dat g, .dat r, .dat s] ∧ noLd g = true ∧ noLd r = true ∧ noLd s = true ∧ (∀ gs ro se, g = gsD gs → r = .int ro → s = .int se → GoodG gs ro se → k (.v (.dat (.tuple ((tabL gs se (2 ^ gs.length)).map entD))))) ∧ ∀ x, reqG g r s = some x → ke C (rsn x)
theorem ok_seattab {f : Addr} {fd : FuncData} (F : Fun K "seat_table" "seat_table" s_seat_table f fd) (T : DTxt mg) (c_require_groups : Cg P w K mg base (L2.CX P w) 4 "require_groups" (spP K 3 (wReqG C))) (c_find_table : Cg P w K mg base CX0 3 "find_table" (spP K 2 wFind)) : FnG P w K mg base (L2.CX P w) 5 f fd ["groups", "rows", "seats"] (spP K 3 (wSeatTab C)) := by
  refine okPX F sc_seat_table rfl fun cdv A outer s H E hG hr => ?_
  have tk0 : Takes (cxOf (L2.CX P w) P w K mg base N_seat_table "seat_table" (defScope s_seat_table) f cdv A outer s H E) (fun cls d _ H => E cls d H) := takes_of rfl rfl rfl rfl
  refine ⟨_, (pss_cons (ps_expr (pe_cgS c_require_groups hr (by decide) hG (fun _ => passE tk0) (by rfl) (pa_cons (pv 0) (pa_cons (pv 1) (pa_cons (pv 2) pa_nil)))))
    (pss_one (ps_ret (pe_callTy (r := Ln.rTupOf K) (T := "tuple") c_tuple (by rfl) T.z_tuple (by decide +kernel) (pa_cons (pe_cg c_find_table hr (by decide) hG (by rfl) (pa_cons (pv 0) (pa_cons (pv 2) pa_nil))) pa_nil))))), fun F0 H0 as k ke hl hw hE => ?_⟩
  obtain ⟨g, r, s, rfl, ng, nr, ns, qn, qx⟩ := hw
  haveI := EkI.of hE
  change Ds _ [_, _, _] _ _ _
  walk_at "d"
  refine ⟨g, r, s, rfl, ng, nr, ns, fun h => ?_, qx⟩
  obtain ⟨gs, ro, se, rfl, rfl, rfl, hgood⟩ := reqG_none h
  walk_at "d"
  refine ⟨gs, se, rfl, hgood.l, _, rfl, ?_⟩
  exact qn gs ro se rfl rfl rfl hgood
end
end Mine
set_option Elab.async false
set_option linter.all false
set_option maxRecDepth 100000
set_option maxHeartbeats 4000000
namespace Mine
open PySem PySem.Spec PyProof.Rows L2 Ln Dl PySem.W
abbrev s_order_of : Stmt := topS 28
abbrev N_order_of : List Str := ["groups", "seats", "table", "number", "order", "place", "rest"]
theorem sc_order_of : FnScope N_order_of ["groups", "seats", "table", "number"] (defScope s_order_of) := ⟨rfl, rfl, rfl, by decide +kernel, rfl, by decide +kernel, by decide +kernel⟩
-- slots: 0 groups, 1 seats, 2 table, 3 number, 4 order, 5 place, 6 rest
abbrev s_seating_of : Stmt := topS 27
abbrev N_seating_of : List Str := ["groups", "seats", "table", "number", "plan", "last", "place", "name", "size", "row"]
theorem sc_seating_of : FnScope N_seating_of ["groups", "seats", "table", "number"] (defScope s_seating_of) := ⟨rfl, rfl, rfl, by decide +kernel, rfl, by decide +kernel, by decide +kernel⟩
-- slots: 0 groups, 1 seats, 2 table, 3 number, 4 plan, 5 last, 6 place, 7 name, 8 size, 9 row
abbrev s_seated : Stmt := topS 26
abbrev N_seated : List Str := ["groups", "rows", "seats", "table", "fitting", "number", "entry", "many", "best"]
theorem sc_seated : FnScope N_seated ["groups", "rows", "seats"] (defScope s_seated) := ⟨rfl, rfl, rfl, by decide +kernel, rfl, by decide +kernel, by decide +kernel⟩
-- slots: 0 groups, 1 rows*, 2 seats, 3 table, 4 fitting, 5 number, 6 entry, 7 many, 8 best
/-! ## the table, as a function -/
abbrev tbl (gs : List (Str × Int)) (se : Int) : List (Int × Int) := tabL gs se (2 ^ gs.length)
def tb (gs : List (Str × Int)) (se : Int) (n : Nat) : Int × Int := entF gs se (tabL gs se n) n
theorem tabL_get (gs : List (Str × Int)) (se : Int) : ∀ (m n : Nat), n < m → (tabL gs se m)[n]? = some (tb gs se n)
  | 0, n, h => by omega
  | m + 1, n, h => by
    show (tabL gs se m ++ [entF gs se (tabL gs se m) m])[n]? = _
    by_cases e : n = m
    · subst e
      rw [List.getElem?_append_right (by rw [tabL_len]; omega), tabL_len, Nat.sub_self]
      rfl
    · rw [List.getElem?_append_left (by rw [tabL_len]; omega)]
      exact tabL_get gs se m n (by omega)
theorem tabL_getD (gs : List (Str × Int)) (se : Int) {m n : Nat} (h : n < m) : (tabL gs se m).getD n (0, 0) = tb gs se n := by
  rw [List.getD_eq_getElem?_getD, tabL_get gs se m n h]; rfl
theorem entF_congr {gs : List (Str × Int)} {se : Int} {t t' : List (Int × Int)} {n : Nat} (h : ∀ m, m < n → t.getD m (0, 0) = t'.getD m (0, 0)) : entF gs se t n = entF gs se t' n := by
  have : candF gs se t n = candF gs se t' n := by
    unfold candF
    refine List.map_congr_left fun p hp => ?_
    have h1 := bit_le (mem_bitsOf.mp hp)
    have h2 := Nat.two_pow_pos p
    rw [h _ (by omega)]
  unfold entF
  rw [this]
theorem tb_cand (gs : List (Str × Int)) (se : Int) (n : Nat) : tb gs se n = minL ((bitsOf n).map (fun p => behindF se (sz gs p) (tb gs se (n - 2 ^ p)))) := by
  have : candF gs se (tabL gs se n) n = (bitsOf n).map (fun p => behindF se (sz gs p) (tb gs se (n - 2 ^ p))) := by
    unfold candF
    refine List.map_congr_left fun p hp => ?_
    have h1 := bit_le (mem_bitsOf.mp hp)
    have h2 := Nat.two_pow_pos p
    rw [tabL_getD gs se (by omega)]
  show entF gs se (tabL gs se n) n = _
  unfold entF
  rw [this]
theorem tb_zero (gs : List (Str × Int)) (se : Int) : tb gs se 0 = (0, 0) := by
  rw [tb_cand, bitsOf_zero]; rfl
theorem tb_hit (gs : List (Str × Int)) (se : Int) {n : Nat} (h : 0 < n) : ∃ p, n.testBit p = true ∧ behindF se (sz gs p) (tb gs se (n - 2 ^ p)) = tb gs se n := by
  have e := tb_cand gs se n
  cases q : (bitsOf n).map (fun p => behindF se (sz gs p) (tb gs se (n - 2 ^ p))) with
  | nil => exact absurd (List.map_eq_nil_iff.mp q) (bitsOf_ne h)
  | cons x xs =>
    rw [q] at e
    have m := minE_mem x xs
    have e : tb gs se n = minE x xs := e
    rw [← e, ← q] at m
    obtain ⟨p, hp, hh⟩ := List.mem_map.mp m
    exact ⟨p, mem_bitsOf.mp hp, hh⟩
theorem bitsOf_len {n G : Nat} (h : n < 2 ^ G) : (bitsOf n).length ≤ G := by
  rw [← bitsOf_range h]
  exact Nat.le_trans (List.length_filter_le _ _) (by rw [List.length_range]; exact Nat.le_refl _)
def runF (gs : List (Str × Int)) (se : Int) (ps : List Nat) (e : Int × Int) : Int × Int := ps.foldl (fun e p => behindF se (sz gs p) e) e
theorem eqv_ent (a b : Int × Int) : PyData.eqv (entD a) (entD b) = decide (a = b) := by
  simp only [PyData.eqv, PyData.eqvAll]
  rcases a with ⟨a1, a2⟩
  rcases b with ⟨b1, b2⟩
  by_cases h1 : a1 = b1 <;> by_cases h2 : a2 = b2 <;> simp [h1, h2]
theorem shaped_ent (a : Int × Int) : SeqAt.shaped (entD a) = true := by
  rfl
section
variable {P : Program} {w : World} {K : PySem.W.Frag} {mg : Str → Option Value} {base : Heap} {C fI : Addr}
def wOrder : Wt := fun as k _ => ∃ (gs : List (Str × Int)) (se : Int) (n : Nat), as = [.dat (gsD gs), .dat (.int se), .dat (.list ((tbl gs se).map entD)), .dat (natD n)] ∧ n < 2 ^ gs.length ∧ gs.length ≤ 10 ∧ ∀ ps : List Nat, ps.Perm (bitsOf n) → runF gs se ps (0, 0) = tb gs se n → k (.l ((ps.map natD).map Sv.dat))
theorem ok_order {f : Addr} {fd : FuncData} (F : Fun K "order_of" "order_of" s_order_of f fd) (T : DTxt mg) (c_members : Cg P w K mg base CX0 1 "members" (spP K 1 wMembers)) (c_behind : Cg P w K mg base CX0 1 "behind" (spP K 3 wBehind)) : FnG P w K mg base CX0 2 f fd ["groups", "seats", "table", "number"] (spP K 4 wOrder) := by
  refine okP F sc_order_of rfl fun cdv A outer s H E hG hr => ⟨_, (pss_cons (ps_set (i := 4) sc_order_of.nd rfl (.inl rfl) (pe_lst pa_nil))
    (pss_cons (ps_while PassesOwn.never (pt_cmpR op_gt (pv 3) pe_int (nomark _))
    (pss_one (ps_for PassesOwn.never rfl (pi_list (pe_cg c_members hr (by decide) hG (by rfl) (pa_cons (pv 3) pa_nil))) (pg_name (i := 5) sc_order_of.nd rfl (.inl rfl))
    (pss_cons (ps_set (i := 6) sc_order_of.nd rfl (.inl rfl) (pe_op op_sub (pv 3) (pe_op op_shl pe_int (pv 5))))
    (pss_one (ps_if (pt_cmpR (r := rEqD K) (op_eqD hr.units) (pe_cg c_behind hr (by decide) hG (by rfl) (pa_cons (pe_ix (r := rIxL K) ix_list (pv 2) (pv 6) (fun _ _ => rfl)) (pa_cons (pe_ix (r := rIx K) ix_seq (pe_ix (r := rIxT K) ix_tup (pv 0) (pv 5) (fun _ _ => rfl)) pe_int (fun _ _ => rfl)) (pa_cons (pv 1) pa_nil)))) (pe_ix (r := rIxL K) ix_list (pv 2) (pv 3) (fun _ _ => rfl)) (nomark _))
    (pss_cons (ps_expr (pe_bm PySem.F.plainAttrs_list PySem.F.slot_list_append PySem.F.type_list_append mt_append (pv 4) (pa_cons (pv 5) pa_nil)))
    (pss_cons (ps_set (i := 3) sc_order_of.nd rfl (.inl rfl) (pv 6))
    (pss_one ps_break)))
    pss_nil))))))
    (pss_one (ps_ret (pe_revL (pv 4)))))), fun F0 H0 as k ke hl hw => ?_⟩
  obtain ⟨gs, se, n, rfl, hn, hg, q⟩ := hw
  have hb : 2 ^ gs.length ≤ 2 ^ 10 := Nat.pow_le_pow_right (by decide) hg
  change Ds _ [_, _, _, _, _, _, _] _ _ _
  walk_at "d"
  intro D hD
  walk_at "d"
  refine ds_while (fun m G' O' => m < 2 ^ gs.length ∧ ∃ (acc : List Nat) (z1 z2 : Sv), G' = [.dat (gsD gs), .dat (.int se), .dat (.list ((tbl gs se).map entD)), .dat (natD m), .ptr D, z1, z2] ∧ O' = [(D, .lst ((acc.map natD).map Sv.dat))] ∧ (acc ++ bitsOf m).Perm (bitsOf n) ∧ runF gs se acc.reverse (tb gs se m) = tb gs se n) ⟨n, hn, [], _, _, rfl, rfl, List.Perm.refl _, rfl⟩ ?_
  rintro m G' O' ⟨hm, acc, z1, z2, rfl, rfl, hp, hrun⟩
  walk_at "d"
  refine ifP (fun h => ?_) (fun h => ?_)
  · have hm0 : 0 < m := by omega
    have hi0 := get_getD (z := (0, 0)) (show m < (tbl gs se).length by rw [tabL_len]; exact hm)
    rw [tabL_getD gs se hm] at hi0
    refine ds_for ?_
    walk_at "d"
    refine ⟨m, rfl, by omega, _, rfl, ?_⟩
    walk_at "d"
    refine ⟨fun i G' O' => ∃ z1 z2, G' = [.dat (gsD gs), .dat (.int se), .dat (.list ((tbl gs se).map entD)), .dat (natD m), .ptr D, z1, z2] ∧ O' = [(D, .lst ((acc.map natD).map Sv.dat))] ∧ ∀ j p, j < i → (bitsOf m)[j]? = some p → behindF se (sz gs p) (tb gs se (m - 2 ^ p)) ≠ tb gs se m, ⟨_, _, rfl, rfl, fun j p h => by omega⟩, ?_, ?_⟩
    · rintro i d G' O' hd ⟨z1, z2, rfl, rfl, hno⟩
      rw [List.getElem?_map] at hd
      obtain ⟨p, hp', rfl⟩ := Option.map_eq_some_iff.mp hd
      have hbit := mem_bitsOf.mp (List.mem_of_getElem? hp')
      have hpl := testBit_lt hm hbit
      have hle := bit_le hbit
      have hpos := Nat.two_pow_pos p
      obtain ⟨x, hx⟩ := sz_get hpl
      have hi := get_getD (z := (0, 0)) (show m - 2 ^ p < (tbl gs se).length by rw [tabL_len]; omega)
      rw [tabL_getD gs se (show m - 2 ^ p < 2 ^ gs.length by omega)] at hi
      walk_at "d"
      refine ⟨⟨by omega, by omega, by decide⟩, ?_⟩
      walk_at "d"
      rw [bit_sub hbit]
      refine ⟨_, atI_map rfl hi, ?_⟩
      walk_at "d"
      refine ⟨_, atI_map rfl hx, ?_⟩
      walk_at "d"
      refine ⟨_, rfl, ?_⟩
      walk_at "d"
      refine ⟨_, _, _, rfl, ?_⟩
      walk_at "d"
      refine ⟨_, atI_map rfl hi0, ?_⟩
      walk_at "d"
      refine ⟨shaped_ent _, shaped_ent _, ?_⟩
      rw [eqv_ent]
      walk_at "d"
      refine ifP (fun h => ?_) (fun h => ?_)
      · walk_at "d"
        have hl := hp.length_eq
        rw [List.length_append] at hl
        have hl2 := bitsOf_len hn
        rw [List.length_map, List.length_map]
        refine ⟨by rw [sizeLine_eq]; omega, ?_⟩
        walk_at "d"
        refine ⟨m - 2 ^ p, by omega, by omega, acc ++ [p], _, _, rfl, by rw [List.map_append, List.map_append]; rfl, ?_, ?_⟩
        · refine List.Perm.trans ?_ hp
          rw [List.append_assoc]
          exact List.Perm.append_left acc (bitsOf_sub hbit)
        · rw [List.reverse_append]
          show runF gs se acc.reverse (behindF se (sz gs p) (tb gs se (m - 2 ^ p))) = _
          rw [h]
          exact hrun
      · walk_at "d"
        refine ⟨_, _, rfl, rfl, fun j p' hj hp2 => ?_⟩
        by_cases e : j = i
        · subst e
          rw [hp'] at hp2
          cases hp2
          exact h
        · exact hno j p' (by omega) hp2
    · rintro G' O' ⟨z1, z2, rfl, rfl, hno⟩
      exfalso
      obtain ⟨p, h1, h2⟩ := tb_hit gs se hm0
      obtain ⟨j, hj, e⟩ := List.mem_iff_getElem.mp (mem_bitsOf.mpr h1)
      exact hno j p (by rw [List.length_map]; exact hj) (by rw [List.getElem?_eq_getElem hj, e]) h2
  · have hm0 : m = 0 := by omega
    subst hm0
    rw [bitsOf_zero, List.append_nil] at hp
    rw [tb_zero] at hrun
    walk_at "d"
    have z := q acc.reverse ((List.reverse_perm acc).trans hp) hrun
    rw [List.map_reverse, List.map_reverse] at z
    exact z
end
end Mine
set_option Elab.async false
set_option linter.all false
set_option maxRecDepth 100000
set_option maxHeartbeats 4000000
namespace Mine
open PySem PySem.Spec PyProof.Rows L2 Ln Dl PySem.W
def nm (gs : List (Str × Int)) (p : Nat) : Str := (gs.map Prod.fst).getD p (Str.ofString "")
theorem nm_get {gs : List (Str × Int)} {p : Nat} (h : p < gs.length) : gs[p]? = some (nm gs p, sz gs p) := by
  unfold nm sz
  rw [List.getD_eq_getElem?_getD, List.getD_eq_getElem?_getD, List.getElem?_map, List.getElem?_map, List.getElem?_eq_getElem h]
  rfl
def usedF (e : Int × Int) : Int := if 0 < e.2 then e.1 + 1 else e.1
def rowSum (gs : List (Str × Int)) (r : List Nat) : Int := (r.map (sz gs)).sum
/-- rows that have been filled in order -/
structure RowsOk (gs : List (Str × Int)) (se : Int) (rows : List (List Nat)) : Prop where
  ne : ∀ r ∈ rows, r ≠ []
  le : ∀ r ∈ rows, rowSum gs r ≤ se
abbrev rowD (gs : List (Str × Int)) (r : List Nat) : List PyData := r.map fun p => PyData.str (nm gs p)
structure Fill (gs : List (Str × Int)) (se : Int) (qs : List Nat) (rows : List (List Nat)) (last : Int) : Prop where
  fl : rows.flatten = qs
  ok : RowsOk gs se rows
  st : (rows = [] ∧ last = 0 ∧ runF gs se qs (0, 0) = (0, 0)) ∨ ∃ init r, rows = init ++ [r] ∧ rowSum gs r = last ∧ 1 ≤ last ∧ runF gs se qs (0, 0) = ((init.length : Int), last)
theorem runF_snoc (gs : List (Str × Int)) (se : Int) (qs : List Nat) (p : Nat) (e : Int × Int) : runF gs se (qs ++ [p]) e = behindF se (sz gs p) (runF gs se qs e) := by
  unfold runF
  rw [List.foldl_append]; rfl
theorem rowSum_one (gs : List (Str × Int)) (p : Nat) : rowSum gs [p] = sz gs p := by simp [rowSum]
theorem rowSum_snoc (gs : List (Str × Int)) (r : List Nat) (p : Nat) : rowSum gs (r ++ [p]) = rowSum gs r + sz gs p := by simp [rowSum]
theorem Fill.new {gs : List (Str × Int)} {se : Int} {qs : List Nat} {rows : List (List Nat)} {last : Int} {p : Nat} (h : Fill gs se qs rows last) (h1 : 1 ≤ sz gs p) (h2 : sz gs p ≤ se) (c : rows = [] ∨ se < last + sz gs p) : Fill gs se (qs ++ [p]) (rows ++ [[p]]) (sz gs p) := by
  refine ⟨by rw [List.flatten_append, h.fl]; rfl, ⟨fun r hr => ?_, fun r hr => ?_⟩, .inr ⟨rows, [p], rfl, rowSum_one gs p, h1, ?_⟩⟩
  · rcases List.mem_append.mp hr with hr | hr
    · exact h.ok.ne r hr
    · rw [List.mem_singleton.mp hr]; exact fun z => by cases z
  · rcases List.mem_append.mp hr with hr | hr
    · exact h.ok.le r hr
    · rw [List.mem_singleton.mp hr, rowSum_one]; exact h2
  · rw [runF_snoc]
    rcases h.st with ⟨e1, e2, e3⟩ | ⟨init, r, e1, e2, e3, e4⟩
    · rw [e3, e1]
      unfold behindF
      rw [if_pos (show (0 : Int) + sz gs p ≤ se by omega)]
      simp
    · rw [e4]
      unfold behindF
      rcases c with c | c
      · rw [c] at e1; cases init <;> cases e1
      · rw [if_neg (show ¬ (last + sz gs p ≤ se) by omega), e1]
        simp
theorem Fill.add {gs : List (Str × Int)} {se : Int} {qs : List Nat} {init : List (List Nat)} {r : List Nat} {last : Int} {p : Nat} (h : Fill gs se qs (init ++ [r]) last) (h1 : 1 ≤ sz gs p) (c : last + sz gs p ≤ se) : Fill gs se (qs ++ [p]) (init ++ [r ++ [p]]) (last + sz gs p) := by
  rcases h.st with ⟨e1, e2, e3⟩ | ⟨init', r', e1, e2, e3, e4⟩
  · cases init <;> cases e1
  obtain ⟨rfl, e5⟩ := List.append_inj' e1 rfl
  cases e5
  refine ⟨by rw [← h.fl]; simp, ⟨fun x hx => ?_, fun x hx => ?_⟩, .inr ⟨init, r ++ [p], rfl, by rw [rowSum_snoc, e2], by omega, ?_⟩⟩
  · rcases List.mem_append.mp hx with hx | hx
    · exact h.ok.ne x (List.mem_append_left _ hx)
    · rw [List.mem_singleton.mp hx]; exact fun z => by simp at z
  · rcases List.mem_append.mp hx with hx | hx
    · exact h.ok.le x (List.mem_append_left _ hx)
    · rw [List.mem_singleton.mp hx, rowSum_snoc, e2]; exact c
  · rw [runF_snoc, e4]
    unfold behindF
    rw [if_pos c]
theorem len_flatten : ∀ {rows : List (List Nat)}, (∀ r ∈ rows, r ≠ []) → rows.length ≤ rows.flatten.length
  | [], _ => Nat.zero_le _
  | r :: rows, h => by
    have h1 := List.length_pos_iff.mpr (h r List.mem_cons_self)
    have h2 := len_flatten fun x hx => h x (List.mem_cons_of_mem _ hx)
    rw [List.flatten_cons, List.length_append, List.length_cons]
    omega
theorem Fill.used {gs : List (Str × Int)} {se : Int} {qs : List Nat} {rows : List (List Nat)} {last : Int} (h : Fill gs se qs rows last) : (rows.length : Int) = usedF (runF gs se qs (0, 0)) := by
  unfold usedF
  rcases h.st with ⟨e1, e2, e3⟩ | ⟨init', r', e1, e2, e3, e4⟩
  · rw [e3, e1]; rfl
  · rw [e4, e1, if_pos (show 0 < last by omega)]; simp
section
variable {P : Program} {w : World} {K : PySem.W.Frag} {mg : Str → Option Value} {base : Heap} {C fI : Addr}
abbrev prD (gs : List (Str × Int)) (rows : List (Addr × List Nat)) : List (Addr × List PyData) := rows.map fun r => (r.1, rowD gs r.2)
/-- where the loop stands -/
def seatI (gs : List (Str × Int)) (se : Int) (n : Nat) (D : Addr) (H0 : Hp) (ps : List Nat) (i : Nat) (G' : List Sv) (O' : Ow) : Prop :=
  ∃ (rows : List (Addr × List Nat)) (last : Int) (z1 z2 z3 z4 : Sv), G' = [.dat (gsD gs), .dat (.int se), .dat (.list ((tbl gs se).map entD)), .dat (natD n), .ptr D, .dat (.int last), z1, z2, z3, z4] ∧
    O' = (D, .lst ((prD gs rows).map fun r => Sv.ptr r.1)) :: (prD gs rows).map (fun r => (r.1, Ob.lst (r.2.map Sv.dat))) ∧ (∀ r ∈ rows, H0 r.1 = none) ∧ Fill gs se (ps.take i) (rows.map Prod.snd) last
def wSeating : Wt := fun as k _ => ∃ (gs : List (Str × Int)) (se : Int) (n : Nat), as = [.dat (gsD gs), .dat (.int se), .dat (.list ((tbl gs se).map entD)), .dat (natD n)] ∧ n < 2 ^ gs.length ∧ gs.length ≤ 10 ∧ (∀ g ∈ gs, PyData.strOk g.1 = true ∧ 1 ≤ g.2 ∧ g.2 ≤ se) ∧
  ∀ rows : List (List Nat), rows.flatten.Perm (bitsOf n) → (rows.length : Int) = usedF (tb gs se n) → RowsOk gs se rows → k (.v (.dat (.tuple (rows.map fun r => .tuple (rowD gs r)))))
theorem ok_seating {f : Addr} {fd : FuncData} (F : Fun K "seating_of" "seating_of" s_seating_of f fd) (T : DTxt mg) (c_order_of : Cg P w K mg base CX0 2 "order_of" (spP K 4 wOrder)) : FnG P w K mg base CX0 3 f fd ["groups", "seats", "table", "number"] (spP K 4 wSeating) := by
  refine okP F sc_seating_of rfl fun cdv A outer s H E hG hr => ⟨_, (pss_cons (ps_set (i := 4) sc_seating_of.nd rfl (.inl rfl) (pe_lst pa_nil))
    (pss_cons (ps_set (i := 5) sc_seating_of.nd rfl (.inl rfl) pe_int)
    (pss_cons (ps_for PassesOwn.never rfl (pi_list (pe_cg c_order_of hr (by decide) hG (by rfl) (pa_cons (pv 0) (pa_cons (pv 1) (pa_cons (pv 2) (pa_cons (pv 3) pa_nil)))))) (pg_name (i := 6) sc_seating_of.nd rfl (.inl rfl))
    (pss_cons (ps_asg (pe_ix (r := rIxT K) ix_tup (pv 0) (pv 6) (fun _ _ => rfl)) (pg_tup (by rfl) (pgs_cons (pg_name (i := 7) sc_seating_of.nd rfl (.inl rfl)) (pgs_cons (pg_name (i := 8) sc_seating_of.nd rfl (.inl rfl)) pgs_nil))))
    (pss_one (ps_if (PW.pt (pw_or (pt_cmpR (r := rEqD K) (op_eqD hr.units) (pv 4) (pe_lst pa_nil) (nomark _)) (pw_or1 (pt_cmpR op_gt (pe_op op_add (pv 5) (pv 8)) (pv 1) (nomark _)))))
    (pss_cons (ps_expr (pe_bm PySem.F.plainAttrs_list PySem.F.slot_list_append PySem.F.type_list_append mt_append (pv 4) (pa_cons (pe_lst (pa_cons (pv 7) pa_nil)) pa_nil)))
    (pss_one (ps_set (i := 5) sc_seating_of.nd rfl (.inl rfl) (pv 8))))
    (pss_cons (ps_expr (pe_bm PySem.F.plainAttrs_list PySem.F.slot_list_append PySem.F.type_list_append mt_append (pe_ix (r := rIxL K) ix_list (pv 4) (pe_un un_neg pe_int) (fun _ _ => rfl)) (pa_cons (pv 7) pa_nil)))
    (pss_one (ps_set (i := 5) sc_seating_of.nd rfl (.inl rfl) (pe_op op_add (pv 5) (pv 8)))))))))
    (pss_one (ps_ret (pe_callTy (r := Ln.rTupOf K) (T := "tuple") c_tuple (by rfl) T.z_tuple (by decide +kernel) (pa_cons (pe_lc (own := [("row", 9)]) rfl sc_seating_of.nd (pi_list (pv 4)) (blkOk_by (own := [("row", 9)]) (N := N_seating_of) (sc := defScope s_seating_of) (by decide +kernel)) (fun _ _ _ _ _ => (pg_name (i := 9) sc_seating_of.nd rfl (.inl rfl))) (fun _ _ _ _ _ => pts_nil) (fun _ _ _ _ _ => (pe_callTy (r := Ln.rTupOf K) (T := "tuple") c_tuple (by rfl) T.z_tuple (by decide +kernel) (pa_cons (pv 9) pa_nil)))) pa_nil))))))), fun F0 H0 as k ke hl hw => ?_⟩
  obtain ⟨gs, se, n, rfl, hn, hg, hok, q⟩ := hw
  change Ds _ [_, _, _, _, _, _, _, _, _, _] _ _ _
  walk_at "d"
  intro D hD
  walk_at "d"
  refine ds_for ?_
  walk_at "d"
  refine ⟨gs, se, n, rfl, hn, hg, fun ps hp hrun => ⟨ps.map natD, rfl, ?_⟩⟩
  walk_at "d"
  have hsz : ∀ p ∈ ps, p < gs.length ∧ PyData.strOk (nm gs p) = true ∧ 1 ≤ sz gs p ∧ sz gs p ≤ se := by
    intro p hp2
    have := testBit_lt hn (mem_bitsOf.mp (hp.mem_iff.mp hp2))
    exact ⟨this, hok _ (List.mem_of_getElem? (nm_get this))⟩
  refine ⟨seatI gs se n D H0 ps, ⟨[], 0, _, _, _, _, rfl, rfl, (by simp), ⟨by simp, ⟨by simp, by simp⟩, .inl ⟨rfl, rfl, by simp [runF]⟩⟩⟩, ?_, ?_⟩
  · rintro i d G' O' hd ⟨rows, last, z1, z2, z3, z4, rfl, rfl, h0, hf⟩
    rw [List.getElem?_map] at hd
    obtain ⟨p, hp', rfl⟩ := Option.map_eq_some_iff.mp hd
    obtain ⟨hpl, hstr, hs1, hs2⟩ := hsz p (List.mem_of_getElem? hp')
    have tk : ps.take (i + 1) = ps.take i ++ [p] := takeS hp'
    walk_at "d"
    refine ⟨_, atI_map rfl (nm_get hpl), ?_⟩
    walk_at "d"
    have hshp : ∀ r ∈ rows, Shp 1 (PyData.list (rowD gs r.2)) := by
      intro r hr
      refine Shp.list fun p hp => Shp.str (n := 0) ?_
      have : p ∈ (rows.map Prod.snd).flatten := List.mem_flatten.mpr ⟨r.2, List.mem_map_of_mem hr, hp⟩
      rw [hf.fl] at this
      exact (hsz p (List.mem_of_mem_take this)).2.1
    refine ⟨_, OwDs.rows (rows := prD gs rows) fun r hr => List.mem_cons_of_mem _ (List.mem_map_of_mem hr), ?_, ?_⟩
    · refine Shp.shaped (n := 2) (Shp.list fun r hr => ?_) (by decide)
      obtain ⟨x, hx, rfl⟩ := List.mem_map.mp hr
      exact hshp x hx
    walk_at "d"
    refine (fun (new : (rows = [] ∨ se < last + sz gs p) → _) => ifB (fun h => (if_pos rfl).mpr (new (.inl (by simpa using h)))) (fun h => ?_)) ?_
    · have hne : rows ≠ [] := by
        intro e
        rw [e] at h
        cases h
      walk_at "d"
      refine ifP (fun h2 => new (.inr h2)) (fun h2 => ?_)
      obtain ⟨init, ⟨D2, r⟩, rfl⟩ : ∃ init x, rows = init ++ [x] := ⟨rows.dropLast, rows.getLast hne, (List.dropLast_concat_getLast hne).symm⟩
      have hlr : (rowD gs r).length < sizeLine := by
        have h1 : (r : List Nat).length ≤ (ps.take i).length := by
          rw [← hf.fl]
          simp only [List.map_append, List.flatten_append, List.length_append, List.map_cons, List.map_nil, List.flatten_cons, List.flatten_nil, List.append_nil]
          omega
        have h2 : (ps.take i).length ≤ 10 := by
          have := hp.length_eq
          have := bitsOf_len hn
          rw [List.length_take]
          omega
        rw [List.length_map, sizeLine_eq]
        omega
      refine ds_seq (ds_appendV (dv_ixO (i := 4) (n := 0) rfl rfl ?_))
      walk_at "d"
      refine ⟨.ptr D2, by simp only [prD, List.map_append]; exact atI_last _ _, D2, init.length + 1, (rowD gs r).map Sv.dat, rfl, ?_, by rw [List.length_map]; exact hlr, ?_⟩
      · rw [List.getElem?_cons_succ]
        simp only [prD, List.map_append, List.map_map, List.map_cons, List.map_nil]
        rw [List.getElem?_append_right (by simp)]
        simp
      walk_at "d"
      refine ⟨init ++ [(D2, r ++ [p])], _, _, _, _, _, rfl, ?_, ?_, ?_⟩
      · rw [List.set_cons_succ]
        simp only [prD, List.map_append, List.map_map, List.map_cons, List.map_nil]
        rw [List.set_append_right _ _ (by simp)]
        simp
      · intro x hx
        rcases List.mem_append.mp hx with hx | hx
        · exact h0 x (List.mem_append_left _ hx)
        · rw [List.mem_singleton.mp hx]
          exact h0 (D2, r) (List.mem_append_right _ List.mem_cons_self)
      · rw [tk, List.map_append]
        rw [List.map_append] at hf
        exact hf.add hs1 (by omega)
    · intro c
      have hlr : rows.length < sizeLine := by
        have h1 := hf.used
        have h2 : rows.length ≤ (ps.take i).length := by
          rw [← hf.fl, ← List.length_map (f := Prod.snd) (as := rows)]
          exact len_flatten hf.ok.ne
        have h3 : (ps.take i).length ≤ 10 := by
          have := hp.length_eq
          have := bitsOf_len hn
          rw [List.length_take]
          omega
        rw [sizeLine_eq]
        omega
      refine ds_seq (ds_appendL (n := 0) rfl rfl (by rw [List.length_map, List.length_map]; exact hlr) ?_)
      refine dl_lst ?_
      walk_at "d"
      intro D2 h2
      refine ⟨(D, .lst ((prD gs (rows ++ [(D2, [p])])).map fun r => Sv.ptr r.1)) :: (prD gs (rows ++ [(D2, [p])])).map (fun r => (r.1, Ob.lst (r.2.map Sv.dat))), ?_, ?_⟩
      · simp only [prD, List.map_append, List.map_map, List.map_cons, List.map_nil, List.set_cons_zero]
        refine List.Perm.trans ?_ (List.Perm.swap _ _ _)
        refine List.Perm.cons _ ?_
        exact List.perm_append_singleton _ _
      · walk_at "d"
        refine ⟨rows ++ [(D2, [p])], _, _, _, _, _, rfl, rfl, ?_, ?_⟩
        · intro x hx
          rcases List.mem_append.mp hx with hx | hx
          · exact h0 x hx
          · rw [List.mem_singleton.mp hx]
            exact h2
        · rw [tk, List.map_append]
          refine hf.new hs1 hs2 (c.imp (fun e => by rw [e]; rfl) id)
  · rintro G' O' ⟨rows, last, z1, z2, z3, z4, rfl, rfl, h0, hf⟩
    rw [List.length_map, List.take_length] at hf
    have hrl : rows.length ≤ 10 := by
      have h2 : (rows.map Prod.snd).length ≤ ps.length := by
        rw [← hf.fl]
        exact len_flatten hf.ok.ne
      rw [List.length_map] at h2
      have := hp.length_eq
      have := bitsOf_len hn
      omega
    have ee : (D, Ob.lst ((prD gs rows).map fun r => Sv.ptr r.1)) :: (prD gs rows).map (fun r => (r.1, Ob.lst (r.2.map Sv.dat))) = (D, Ob.lst ((prD gs rows).map fun r => Sv.ptr r.1)) :: ((prD gs rows).map (fun r => (r.1, Ob.lst (r.2.map Sv.dat))) ++ []) := by rw [List.append_nil]
    rw [ee]
    refine ds_melt (i := 4) ?_ hD rfl ?_
    · intro r hr
      obtain ⟨x, hx, rfl⟩ := List.mem_map.mp hr
      exact h0 x hx
    change Ds _ [_, _, _, _, _, _, _, _, _, _] _ _ _
    walk_at "d"
    refine dl_map ?_
    walk_at "d"
    refine ⟨by rw [List.length_map, List.length_map, sizeLine_eq]; omega, _, rows, fun r => PyData.list (rowD gs r.2), fun r => .dat (.tuple (rowD gs r.2)), by rw [List.map_map]; rfl, fun i x hx => ?_, rows.map (fun r => .tuple (rowD gs r.2)), by rw [List.map_map]; rfl, ?_⟩
    · walk_at "d"
      rfl
    · walk_at "d"
      have z := q (rows.map Prod.snd) (by rw [hf.fl]; exact hp) (by rw [hf.used, hrun]) hf.ok
      rw [List.map_map] at z
      exact z
theorem enum_tbl (gs : List (Str × Int)) (se : Int) : enumD ((tbl gs se).map entD) = (List.range (2 ^ gs.length)).map fun n => .tuple [natD n, entD (tb gs se n)] := by
  refine List.ext_getElem? fun i => ?_
  unfold enumD
  rw [List.getElem?_mapIdx, List.getElem?_map, List.getElem?_map]
  by_cases h : i < 2 ^ gs.length
  · rw [tabL_get gs se _ i h, List.getElem?_range h]; rfl
  · rw [List.getElem?_eq_none (by rw [tabL_len]; omega), List.getElem?_eq_none (by rw [List.length_range]; omega)]; rfl
def fitP (gs : List (Str × Int)) (se ro : Int) : List (Int × Int) := ((List.range (2 ^ gs.length)).filter fun n => decide (usedF (tb gs se n) ≤ ro)).map fun n => (((bitsOf n).length : Int), (n : Int))
theorem maxE_fst : ∀ (x : Int × Int) (xs : List (Int × Int)), ∀ y ∈ x :: xs, y.1 ≤ (maxE x xs).1 := by
  intro x xs
  induction xs generalizing x with
  | nil => intro y hy; rw [List.mem_singleton.mp hy]; exact Int.le_refl _
  | cons z zs ih =>
    intro y hy
    have e : maxE x (z :: zs) = maxE (if ltE x z then z else x) zs := rfl
    rw [e]
    have h := ih (if ltE x z then z else x)
    have h0 := h _ List.mem_cons_self
    rcases List.mem_cons.mp hy with hy | hy
    · rw [hy]
      by_cases c : ltE x z
      · rw [if_pos c] at h0 ⊢
        unfold ltE at c
        omega
      · rw [if_neg c] at h0 ⊢
        exact h0
    · rcases List.mem_cons.mp hy with hy | hy
      · rw [hy]
        by_cases c : ltE x z
        · rw [if_pos c] at h0 ⊢
          exact h0
        · rw [if_neg c] at h0 ⊢
          unfold ltE at c
          omega
      · exact h y (List.mem_cons_of_mem _ hy)
def wSeated (C : Addr) : Wt := fun as k ke => ∃ g r s, as = [.dat g, .dat r, .dat s] ∧ noLd g = true ∧ noLd r = true ∧ noLd s = true ∧ (∀ gs ro se, g = gsD gs → r = .int ro → s = .int se → GoodG gs ro se → (∀ x ∈ gs, PyData.strOk x.1 = true) ∧
    ∀ (n : Nat) (rows : List (List Nat)), n < 2 ^ gs.length → usedF (tb gs se n) ≤ ro → (∀ m, m < 2 ^ gs.length → usedF (tb gs se m) ≤ ro → (bitsOf m).length ≤ (bitsOf n).length) → rows.flatten.Perm (bitsOf n) → (rows.length : Int) = usedF (tb gs se n) → RowsOk gs se rows →
      k (.v (.dat (.tuple [.int ((bitsOf n).length : Int), .tuple (rows.map fun r => .tuple (rowD gs r))])))) ∧ ∀ x, reqG g r s = some x → ke C (rsn x)
theorem ok_seated {f : Addr} {fd : FuncData} (F : Fun K "seated" "seated" s_seated f fd) (T : DTxt mg) (c_require_groups : Cg P w K mg base (L2.CX P w) 4 "require_groups" (spP K 3 (wReqG C))) (c_find_table : Cg P w K mg base CX0 3 "find_table" (spP K 2 wFind)) (c_members : Cg P w K mg base CX0 1 "members" (spP K 1 wMembers)) (c_rows_used : Cg P w K mg base CX0 1 "rows_used" (spP K 1 wUsed)) (c_seating_of : Cg P w K mg base CX0 3 "seating_of" (spP K 4 wSeating)) : FnG P w K mg base (L2.CX P w) 5 f fd ["groups", "rows", "seats"] (spP K 3 (wSeated C)) := by
  refine okPX F sc_seated rfl fun cdv A outer s H E hG hr => ?_
  have tk0 : Takes (cxOf (L2.CX P w) P w K mg base N_seated "seated" (defScope s_seated) f cdv A outer s H E) (fun cls d _ H => E cls d H) := takes_of rfl rfl rfl rfl
  refine ⟨_, (pss_cons (ps_expr (pe_cgS c_require_groups hr (by decide) hG (fun _ => passE tk0) (by rfl) (pa_cons (pv 0) (pa_cons (pv 1) (pa_cons (pv 2) pa_nil)))))
    (pss_cons (ps_set (i := 3) sc_seated.nd rfl (.inl rfl) (pe_cg c_find_table hr (by decide) hG (by rfl) (pa_cons (pv 0) (pa_cons (pv 2) pa_nil))))
    (pss_cons (ps_setLc (i := 4) (own := [("number", 5), ("entry", 6)]) (g := (gTup K 2 (gCons (gName 5) (gCons (gName 6) gNil)))) rfl sc_seated.nd rfl rfl (sw_true rfl rfl rfl (by decide +kernel)) (pi_enum (by rfl) T.z_enumerate (pa_cons (pv 3) pa_nil)) (blkOk_by (own := [("number", 5), ("entry", 6)]) (N := N_seated) (sc := defScope s_seated) (by decide +kernel)) (fun _ _ _ _ _ => (pg_tup (by rfl) (pgs_cons (pg_name (i := 5) sc_seated.nd rfl (.inl rfl)) (pgs_cons (pg_name (i := 6) sc_seated.nd rfl (.inl rfl)) pgs_nil)))) (fun _ _ _ _ _ => (pts_one (pt_cmpR op_le (pe_cg c_rows_used hr (by decide) hG (by rfl) (pa_cons (pv 6) pa_nil)) (pv 1) (nomark _)))) (fun _ _ _ _ _ => (pe_tup (pa_cons (pe_callB (r := Ln.rLen K) (id := "len") c_len (by rfl) T.z_len (by decide +kernel) (pa_cons (pe_cg c_members hr (by decide) hG (by rfl) (pa_cons (pv 5) pa_nil)) pa_nil)) (pa_cons (pv 5) pa_nil)))))
    (pss_cons (ps_asg (pe_callB (r := Dl.rMaxG K) (id := "max") (Dl.cr_maxG rfl (Dl.u8 hr)) (by rfl) T.z_max (by decide +kernel) (pa_cons (pv 4) pa_nil)) (pg_tup (by rfl) (pgs_cons (pg_name (i := 7) sc_seated.nd rfl (.inl rfl)) (pgs_cons (pg_name (i := 8) sc_seated.nd rfl (.inl rfl)) pgs_nil))))
    (pss_one (ps_ret (pe_tup (pa_cons (pv 7) (pa_cons (pe_cg c_seating_of hr (by decide) hG (by rfl) (pa_cons (pv 0) (pa_cons (pv 2) (pa_cons (pv 3) (pa_cons (pv 8) pa_nil))))) pa_nil))))))))), fun F0 H0 as k ke hl hw hE => ?_⟩
  obtain ⟨g, r, s, rfl, ng, nr, ns, qn, qx⟩ := hw
  haveI := EkI.of hE
  change Ds _ [_, _, _, _, _, _, _, _, _] _ _ _
  walk_at "d"
  refine ⟨g, r, s, rfl, ng, nr, ns, fun h => ?_, qx⟩
  obtain ⟨gs, ro, se, rfl, rfl, rfl, hgood⟩ := reqG_none h
  obtain ⟨hstr, q⟩ := qn gs ro se rfl rfl rfl hgood
  have hb : 2 ^ gs.length ≤ 2 ^ 10 := Nat.pow_le_pow_right (by decide) hgood.l
  walk_at "d"
  refine ⟨gs, se, rfl, hgood.l, _, rfl, ?_⟩
  walk_at "d"
  refine dl_filt ?_
  walk_at "d"
  refine ⟨by rw [enum_tbl, List.length_map, List.length_range, sizeLine_eq]; omega, Nat, List.range (2 ^ gs.length), fun n => .tuple [natD n, entD (tb gs se n)], fun n => decide (usedF (tb gs se n) ≤ ro), fun n => .dat (entD (((bitsOf n).length : Int), (n : Int))), enum_tbl gs se, fun i x hx => ?_, ?_⟩
  · have hx := List.mem_range.mp (List.mem_of_getElem? hx)
    walk_at "d"
    refine ⟨_, rfl, ?_⟩
    walk_at "d"
    refine ⟨rfl, fun _ => ?_⟩
    walk_at "d"
    refine ⟨x, rfl, by omega, _, rfl, ?_⟩
    walk_at "d"
    rw [List.length_map]
  intro D hD
  walk_at "d1"
  have e1 : (List.filter (fun n => decide (usedF (tb gs se n) ≤ ro)) (List.range (2 ^ gs.length))).map (fun n => Sv.dat (entD (((bitsOf n).length : Int), (n : Int)))) = ((fitP gs se ro).map entD).map Sv.dat := by
    unfold fitP
    rw [List.map_map, List.map_map]
    rfl
  rw [e1]
  show Ds _ _ _ _ _
  refine ds_keep 4 hD ?_
  walk_at "d"
  obtain ⟨y, ys, ey⟩ : ∃ y ys, fitP gs se ro = y :: ys := by
    cases e : fitP gs se ro with
    | nil =>
      have : (((bitsOf 0).length : Int), ((0 : Nat) : Int)) ∈ fitP gs se ro := by
        refine List.mem_map.mpr ⟨0, List.mem_filter.mpr ⟨List.mem_range.mpr (Nat.two_pow_pos _), decide_eq_true ?_⟩, rfl⟩
        rw [tb_zero]
        exact hgood.r.1
      rw [e] at this
      cases this
    | cons y ys => exact ⟨y, ys, rfl⟩
  refine maxK_ent ey ?_
  have hm := maxE_mem y ys
  have hge := maxE_fst y ys
  generalize maxE y ys = mx at hm hge
  rw [← ey] at hm hge
  obtain ⟨n, hn, rfl⟩ := List.mem_map.mp hm
  obtain ⟨hn1, hn2⟩ := List.mem_filter.mp hn
  have hn1 := List.mem_range.mp hn1
  have hn2 := of_decide_eq_true hn2
  walk_at "d"
  refine ⟨gs, se, n, rfl, hn1, hgood.l, fun g hg => ⟨hstr g hg, hgood.z g hg⟩, fun rows h1 h2 h3 => ?_⟩
  walk_at "d"
  refine q n rows hn1 hn2 (fun m hm1 hm2 => ?_) h1 h2 h3
  have := hge (((bitsOf m).length : Int), (m : Int)) (List.mem_map.mpr ⟨m, List.mem_filter.mpr ⟨List.mem_range.mpr hm1, decide_eq_true hm2⟩, rfl⟩)
  have : ((bitsOf m).length : Int) ≤ ((bitsOf n).length : Int) := this
  omega
end
end Mine
set_option Elab.async false
set_option linter.all false
set_option maxRecDepth 100000
set_option maxHeartbeats 4000000
namespace Mine
open PySem PySem.Spec PyProof.Rows L2 Ln Dl PySem.W
abbrev s_accept_seat_table : Stmt := topS 29
abbrev N_accept_seat_table : List Str := ["groups", "rows", "seats", "table", "entry", "number"]
theorem sc_accept_seat_table : FnScope N_accept_seat_table ["groups", "rows", "seats", "table"] (defScope s_accept_seat_table) := ⟨rfl, rfl, rfl, by decide +kernel, rfl, by decide +kernel, by decide +kernel⟩
-- slots: 0 groups*, 1 rows, 2 seats*, 3 table*, 4 entry, 5 number
def pairB (d : PyData) : Bool := rowB d 2 && intsB d
def formB (d : PyData) (n : Int) : Bool := rowB d n && (match d with | .tuple ds => ds.all pairB | _ => false)
theorem pairB_ex {d : PyData} (h : pairB d = true) : ∃ e : Int × Int, d = entD e := by
  unfold pairB at h
  rw [Bool.and_eq_true] at h
  match d, h with
  | .tuple [a, b], h =>
    have h2 := h.2
    simp only [intsB, List.all_cons, List.all_nil, Bool.and_true, Bool.and_eq_true] at h2
    cases a <;> first | (cases h2.1; done) | skip
    cases b <;> first | (cases h2.2; done) | skip
    exact ⟨(_, _), rfl⟩
  | .tuple [], h => cases h.1
  | .tuple [_], h => cases h.1
  | .tuple (_ :: _ :: _ :: l), h =>
    have := h.1
    simp [rowB] at this
    omega
theorem pairs_ex : ∀ {ds : List PyData}, ds.all pairB = true → ∃ es : List (Int × Int), ds = es.map entD
  | [], _ => ⟨[], rfl⟩
  | d :: ds, h => by
    rw [List.all_cons, Bool.and_eq_true] at h
    obtain ⟨e, rfl⟩ := pairB_ex h.1
    obtain ⟨es, rfl⟩ := pairs_ex h.2
    exact ⟨e :: es, rfl⟩
theorem formB_ex {d : PyData} {n : Nat} (h : formB d (n : Int) = true) : ∃ tab : List (Int × Int), d = .tuple (tab.map entD) ∧ tab.length = n := by
  unfold formB at h
  rw [Bool.and_eq_true] at h
  match d, h with
  | .tuple ds, h =>
    obtain ⟨es, rfl⟩ := pairs_ex h.2
    refine ⟨es, rfl, ?_⟩
    have := h.1
    simp [rowB] at this
    omega
theorem formB_of (tab : List (Int × Int)) : formB (.tuple (tab.map entD)) (tab.length : Int) = true := by
  unfold formB
  rw [Bool.and_eq_true]
  refine ⟨by simp [rowB], ?_⟩
  show (tab.map entD).all pairB = true
  rw [List.all_map, List.all_eq_true]
  intro e _
  rfl
/-- one entry is not what it should be -/
def offB (gs : List (Str × Int)) (se : Int) (tab : List (Int × Int)) : Bool := (List.range tab.length).any fun n => decide (tab.getD n (0, 0) ≠ entF gs se tab n)
theorem offB_iff {gs : List (Str × Int)} {se : Int} {tab : List (Int × Int)} (h : tab.length = 2 ^ gs.length) : offB gs se tab = decide (tab ≠ tbl gs se) := by
  have key : offB gs se tab = false ↔ tab = tbl gs se := by
    constructor
    · intro e
      have e2 : ∀ n, n < tab.length → tab.getD n (0, 0) = entF gs se tab n := by
        intro n hn
        unfold offB at e
        rw [List.any_eq_false] at e
        have := e n (List.mem_range.mpr hn)
        simpa using this
      have e3 : ∀ n, n < tab.length → tab.getD n (0, 0) = tb gs se n := by
        intro n
        induction n using Nat.strongRecOn with
        | _ n ih =>
          intro hn
          rw [e2 n hn]
          exact entF_congr fun m hm => by rw [ih m hm (by omega), tabL_getD gs se hm]
      refine List.ext_getElem? fun n => ?_
      by_cases hn : n < tab.length
      · rw [get_getD (z := (0, 0)) hn, e3 n hn, tabL_get gs se _ n (by omega)]
      · rw [List.getElem?_eq_none (by omega), List.getElem?_eq_none (by rw [tabL_len]; omega)]
    · intro e
      unfold offB
      rw [List.any_eq_false]
      intro n hn
      have hn := List.mem_range.mp hn
      rw [decide_eq_true_iff, ne_eq, Decidable.not_not]
      subst e
      rw [h] at hn
      rw [tabL_getD gs se hn]
      exact entF_congr fun m hm => by rw [tabL_getD gs se hm, tabL_getD gs se (by omega)]
  by_cases c : tab = tbl gs se
  · rw [key.mpr c, decide_eq_false (fun z => z c)]
  · rw [decide_eq_true c]
    cases q : offB gs se tab with
    | true => rfl
    | false => exact absurd (key.mp q) c
structure AccTxt (K : PySem.W.Frag) (mg : Str → Option Value) (CP fI' : Addr) : Prop extends DTxt mg, PapErr K mg CP fI'
section
variable {P : Program} {w : World} {K : PySem.W.Frag} {mg : Str → Option Value} {base : Heap} {C CP fI fI' : Addr}
def wAccept (C CP : Addr) : Wt := fun as k ke => ∃ g r s t, as = [.dat g, .dat r, .dat s, .dat t] ∧ noLd g = true ∧ noLd r = true ∧ noLd s = true ∧ noLd t = true ∧ (∀ x, reqG g r s = some x → ke C (rsn x)) ∧
  ∀ gs ro se, g = gsD gs → r = .int ro → s = .int se → GoodG gs ro se → (formB t ((2 ^ gs.length : Nat) : Int) = false → ke CP (rsn "form")) ∧ ∀ tab : List (Int × Int), t = .tuple (tab.map entD) → tab.length = 2 ^ gs.length → (tab = tbl gs se → k (.v (.dat .none))) ∧ (tab ≠ tbl gs se → ke CP (rsn "entry"))
theorem ok_accept {f : Addr} {fd fdI : FuncData} (F : Fun K "accept_seat_table" "accept_seat_table" s_accept_seat_table f fd) (T : AccTxt K mg CP fI') (fi_PaperError : FnOk P w K mg base CX0 1 fI' fdI ["self", "reason"] (spIni CP ["reason"])) (fb_PaperError : Binds K fdI ["self", "reason"] []) (c_require_groups : Cg P w K mg base (L2.CX P w) 4 "require_groups" (spP K 3 (wReqG C))) (c_is_row : Cg P w K mg base CX0 1 "is_row" (spP K 2 wIsRow)) (c_are_integers : Cg P w K mg base CX0 2 "are_integers" (spP K 1 wAreInts)) (c_entry_for : Cg P w K mg base CX0 2 "entry_for" (spP K 4 wEntry)) : FnG P w K mg base (L2.CX P w) 5 f fd ["groups", "rows", "seats", "table"] (spP K 4 (wAccept C CP)) := by
  refine okPX F sc_accept_seat_table rfl fun cdv A outer s H E hG hr => ?_
  have tk0 : Takes (cxOf (L2.CX P w) P w K mg base N_accept_seat_table "accept_seat_table" (defScope s_accept_seat_table) f cdv A outer s H E) (fun cls d _ H => E cls d H) := takes_of rfl rfl rfl rfl
  refine ⟨_, (pss_cons (ps_expr (pe_cgS c_require_groups hr (by decide) hG (fun _ => passE tk0) (by rfl) (pa_cons (pv 0) (pa_cons (pv 1) (pa_cons (pv 2) pa_nil)))))
    (pss_cons (ps_if (PW.pt (pw_or (pt_not (pt_val (pe_cg c_is_row hr (by decide) hG (by rfl) (pa_cons (pv 3) (pa_cons (pe_op op_shl pe_int (pe_callB (r := Ln.rLen K) (id := "len") c_len (by rfl) T.z_len (by decide +kernel) (pa_cons (pv 0) pa_nil))) pa_nil))))) (pw_or1 (pt_not (pt_val (pe_callB (r := rAll K) (id := "all") (cr_all rfl) (by rfl) T.z_all (by decide +kernel) (pa_cons (pe_lc (own := [("entry", 4)]) rfl sc_accept_seat_table.nd (pi_tup (pv 3)) (blkOk_by (own := [("entry", 4)]) (N := N_accept_seat_table) (sc := defScope s_accept_seat_table) (by decide +kernel)) (fun _ _ _ _ _ => (pg_name (i := 4) sc_accept_seat_table.nd rfl (.inl rfl))) (fun _ _ _ _ _ => pts_nil) (fun _ _ _ _ _ => (pe_and (pe_cg c_is_row hr (by decide) hG (by rfl) (pa_cons (pv 4) (pa_cons pe_int pa_nil))) (pe_one (pe_cg c_are_integers hr (by decide) hG (by rfl) (pa_cons (pv 4) pa_nil)))))) pa_nil)))))))
    (pss_one (ps_raise rfl tk0 (pmk_oex T.o_PaperError T.i_PaperError T.t_PaperError fi_PaperError (hr.mono (by decide)) fb_PaperError .nil pass0 (by rfl) T.m_PaperError (pa_cons pe_str pa_nil))))
    pss_nil)
    (pss_one (ps_if (pt_val (pe_callB (r := rAny K) (id := "any") (cr_any rfl) (by rfl) T.z_any (by decide +kernel) (pa_cons (pe_lc (own := [("number", 5), ("entry", 4)]) (g := (gTup K 2 (gCons (gName 5) (gCons (gName 4) gNil)))) rfl sc_accept_seat_table.nd (pi_enumT (by rfl) T.z_enumerate (pa_cons (pv 3) pa_nil)) (blkOk_by (own := [("number", 5), ("entry", 4)]) (N := N_accept_seat_table) (sc := defScope s_accept_seat_table) (by decide +kernel)) (fun _ _ _ _ _ => (pg_tup (by rfl) (pgs_cons (pg_name (i := 5) sc_accept_seat_table.nd rfl (.inl rfl)) (pgs_cons (pg_name (i := 4) sc_accept_seat_table.nd rfl (.inl rfl)) pgs_nil)))) (fun _ _ _ _ _ => pts_nil) (fun _ _ _ _ _ => (pe_cmpR (r := rNeD K) (op_neD hr.units) (pv 4) (pe_cg c_entry_for hr (by decide) hG (by rfl) (pa_cons (pv 0) (pa_cons (pv 2) (pa_cons (pv 3) (pa_cons (pv 5) pa_nil))))) (nomark _)))) pa_nil)))
    (pss_one (ps_raise rfl tk0 (pmk_oex T.o_PaperError T.i_PaperError T.t_PaperError fi_PaperError (hr.mono (by decide)) fb_PaperError .nil pass0 (by rfl) T.m_PaperError (pa_cons pe_str pa_nil))))
    pss_nil)))), fun F0 H0 as k ke hl hw hE => ?_⟩
  obtain ⟨g, r, s, t, rfl, ng, nr, ns, nt, qx, qn⟩ := hw
  haveI := EkI.of hE
  change Ds _ [_, _, _, _, _, _] _ _ _
  walk_at "d"
  refine ⟨g, r, s, rfl, ng, nr, ns, fun h => ?_, qx⟩
  obtain ⟨gs, ro, se, rfl, rfl, rfl, hgood⟩ := reqG_none h
  obtain ⟨q1, q2⟩ := qn gs ro se rfl rfl rfl hgood
  have hb : 2 ^ gs.length ≤ 2 ^ 10 := Nat.pow_le_pow_right (by decide) hgood.l
  have e1 : (1 : Int) * 2 ^ ((gs.length : Int)).toNat = ((2 ^ gs.length : Nat) : Int) := by
    rw [Int.toNat_natCast, Int.one_mul, Int.natCast_pow]; rfl
  have hgl := hgood.l
  walk_at "d"
  rw [List.length_map]
  refine ⟨⟨by omega, by omega, by decide⟩, ?_⟩
  walk_at "d"
  rw [e1]
  refine ⟨t, _, rfl, flat_of nt, ?_⟩
  walk_at "d"
  refine (fun (raise : formB t ((2 ^ gs.length : Nat) : Int) = false → _) => ifB (fun h => (if_pos rfl).mpr (raise (by
    have h : rowB t ((2 ^ gs.length : Nat) : Int) = false := by simpa using h
    unfold formB; rw [h]; rfl))) (fun h => ?_)) ?_
  · have h : rowB t ((2 ^ gs.length : Nat) : Int) = true := by simpa using h
    match t, h with
    | .tuple ds, h =>
      have hl : ds.length = 2 ^ gs.length := by
        exact Int.ofNat_inj.mp (of_decide_eq_true h)
      have nds : noLds ds = true := by simpa only [noLd_tup] using nt
      walk_at "d"
      refine dl_mapD ?_
      walk_at "d"
      refine ⟨by rw [sizeLine_eq]; omega, fun d => .dat (.bool (pairB d)), fun i x hx => ?_, ds.map pairB, by rw [List.map_map]; rfl, ?_⟩
      · have nx := noLds_mem nds x (List.mem_of_getElem? hx)
        walk_at "d"
        refine ⟨x, 2, rfl, flat_of nx, ?_⟩
        walk_at "d"
        refine ifB (fun h2 => ?_) (fun h2 => ?_)
        · walk_at "d"
          refine ⟨x, rfl, nx, fun es e => ?_, ?_⟩
          · subst e
            simp [rowB] at h2
            rw [sizeLine_eq]; omega
          · walk_at "d"
            exact congrArg (fun b => Sv.dat (.bool b)) (show intsB x = pairB x by unfold pairB; rw [h2]; rfl)
        · walk_at "d"
          exact congrArg (fun b => Sv.dat (.bool b)) (show false = pairB x by unfold pairB; rw [h2]; rfl)
      walk_at "d"
      rw [List.all_map]
      refine ifB (fun h2 => raise (by
        have h2 : ds.all pairB = false := by simpa using h2
        unfold formB
        show (_ && ds.all pairB) = false
        rw [h2, Bool.and_false])) (fun h2 => ?_)
      have h2 : ds.all pairB = true := by simpa using h2
      obtain ⟨tab, rfl⟩ := pairs_ex h2
      rw [List.length_map] at hl
      obtain ⟨qk, qe⟩ := q2 tab rfl hl
      walk_at "d"
      have hent : enumD (tab.map entD) = (List.range tab.length).map fun n => .tuple [natD n, entD (tab.getD n (0, 0))] := by
        refine List.ext_getElem? fun i => ?_
        unfold enumD
        rw [List.getElem?_mapIdx, List.getElem?_map, List.getElem?_map]
        by_cases h : i < tab.length
        · rw [get_getD (z := (0, 0)) h, List.getElem?_range h]; rfl
        · rw [List.getElem?_eq_none (by omega), List.getElem?_eq_none (by rw [List.length_range]; omega)]; rfl
      refine dl_map ?_
      walk_at "d"
      refine ⟨by rw [hent, List.length_map, List.length_range, sizeLine_eq]; omega, Nat, List.range tab.length, _, fun n => .dat (.bool (decide (tab.getD n (0, 0) ≠ entF gs se tab n))), hent, fun i x hx => ?_, (List.range tab.length).map (fun n => decide (tab.getD n (0, 0) ≠ entF gs se tab n)), by rw [List.map_map]; rfl, ?_⟩
      · have hx := List.mem_range.mp (List.mem_of_getElem? hx)
        walk_at "d"
        refine ⟨gs, se, tab, _, x, rfl, .inl rfl, by omega, by omega, hgl, ?_⟩
        walk_at "d"
        refine ⟨shaped_ent _, shaped_ent _, ?_⟩
        rw [eqv_ent]
        show Sv.dat (.bool (!decide _)) = Sv.dat (.bool (decide (¬ _)))
        rw [decide_not]
      walk_at "d"
      rw [List.any_map, show (List.range tab.length).any (id ∘ fun n => decide (tab.getD n (0, 0) ≠ entF gs se tab n)) = offB gs se tab from rfl, offB_iff hl]
      refine ifP (fun h3 => ?_) (fun h3 => ?_)
      · refine ds_raise (fs := ["reason"]) hE ?_
        walk_at "d"
        exact ⟨by show 1 ≤ 1000; decide, qe h3⟩
      · walk_at "d"
        exact qk (Decidable.not_not.mp h3)
    | .none, h => cases h
    | .bool _, h => cases h
    | .int _, h => cases h
    | .str _, h => cases h
    | .list _, h => cases h
    | .dict _, h => cases h
  · intro h
    refine ds_raise (fs := ["reason"]) hE ?_
    walk_at "d"
    exact ⟨by show 1 ≤ 1000; decide, q1 h⟩
end
end Mine
set_option Elab.async false
set_option linter.all false
set_option maxRecDepth 100000
set_option maxHeartbeats 4000000
namespace Mine
open PySem PySem.Spec PyProof.Rows L2 Ln Dl PySem.W
abbrev s_law_groups : Stmt := topS 35
abbrev N_law_groups : List Str := ["most", "seats", "draws", "at", "k"]
theorem sc_law_groups : FnScope N_law_groups ["most", "seats", "draws", "at"] (defScope s_law_groups) := ⟨rfl, rfl, rfl, by decide +kernel, rfl, by decide +kernel, by decide +kernel⟩
-- slots: 0 most, 1 seats*, 2 draws*, 3 at*, 4 k
abbrev s_law_table : Stmt := topS 36
abbrev N_law_table : List Str := ["groups", "seats", "table", "digits", "found", "k", "full", "last", "size"]
theorem sc_law_table : FnScope N_law_table ["groups", "seats"] (defScope s_law_table) := ⟨rfl, rfl, rfl, by decide +kernel, rfl, by decide +kernel, by decide +kernel⟩
-- slots: 0 groups, 1 seats, 2 table, 3 digits, 4 found, 5 k, 6 full, 7 last, 8 size
abbrev s_law_needs : Stmt := topS 37
abbrev N_law_needs : List Str := ["entry"]
theorem sc_law_needs : FnScope N_law_needs ["entry"] (defScope s_law_needs) := ⟨rfl, rfl, rfl, by decide +kernel, rfl, by decide +kernel, by decide +kernel⟩
-- slots: 0 entry
abbrev s_law_ones : Stmt := topS 38
abbrev N_law_ones : List Str := ["digits", "many"]
theorem sc_law_ones : FnScope N_law_ones ["digits"] (defScope s_law_ones) := ⟨rfl, rfl, rfl, by decide +kernel, rfl, by decide +kernel, by decide +kernel⟩
-- slots: 0 digits, 1 many
abbrev s_law_has_form : Stmt := topS 40
abbrev N_law_has_form : List Str := ["value", "size", "entry", "part"]
theorem sc_law_has_form : FnScope N_law_has_form ["value", "size"] (defScope s_law_has_form) := ⟨rfl, rfl, rfl, by decide +kernel, rfl, by decide +kernel, by decide +kernel⟩
-- slots: 0 value, 1 size, 2 entry, 3 part
def gnm (k : Nat) : Str := Str.ofString "g" ++ Str.ofString (toString (k : Int))
structure LGs (most seats : Int) (gs : List (Str × Int)) : Prop where
  l : (gs.length : Int) ≤ most
  n : gs.map Prod.fst = (List.range gs.length).map gnm
  z : ∀ g ∈ gs, 1 ≤ g.2 ∧ g.2 ≤ seats
theorem len_toString (i : Nat) (h : i < 1000) : (Str.ofString (toString (i : Int))).length ≤ 3 := by
  have : ∀ i < 1000, (Str.ofString (toString ((i : Nat) : Int))).length ≤ 3 := by decide +kernel
  exact this i h
/-- what the law has found by then -/
def candN (gs : List (Str × Int)) (se : Int) (n j : Nat) : List (Int × Int) := ((List.range j).filter n.testBit).map (fun p => behindF se (sz gs p) (tb gs se (n - 2 ^ p)))
theorem noLds_ents (xs : List (Int × Int)) : noLds (xs.map entD) = true := noLds_of fun d hd => by
  obtain ⟨e, _, rfl⟩ := List.mem_map.mp hd
  rfl
section
variable {P : Program} {w : World} {K : PySem.W.Frag} {mg : Str → Option Value} {base : Heap}
def wLGroups : WtD := fun dr at_ as k _ => ∃ most seats : Int, as = [.dat (.int most), .dat (.int seats), .ptr dr, .ptr at_] ∧ 0 ≤ most ∧ most ≤ 10 ∧ 1 ≤ seats ∧ seats ≤ 12 ∧ ∀ gs, LGs most seats gs → k (.v (.dat (gsD gs)))
theorem ok_lgroups {f : Addr} {fd : FuncData} (F : Fun K "_law_groups" "_law_groups" s_law_groups f fd) (T : DTxt mg) (c__law_take : Cg P w K mg base CX0 2 "_law_take" (spTake K)) : FnG P w K mg base CX0 3 f fd ["most", "seats", "draws", "at"] (spD K 4 wLGroups) := by
  refine okD F sc_law_groups rfl fun cdv A outer s H E hG hr => ⟨_, (pss_one (ps_ret (pe_callTy (r := Ln.rTupOf K) (T := "tuple") c_tuple (by rfl) T.z_tuple (by decide +kernel) (pa_cons (pe_lc (own := [("k", 4)]) rfl sc_law_groups.nd (pi_range1 (by rfl) T.z_range (pa_cons (pe_cg c__law_take hr (by decide) hG (by rfl) (pa_cons (pv 2) (pa_cons (pv 3) (pa_cons (pe_op op_add (pv 0) pe_int) pa_nil)))) pa_nil)) (blkOk_by (own := [("k", 4)]) (N := N_law_groups) (sc := defScope s_law_groups) (by decide +kernel)) (fun _ _ _ _ _ => (pg_name (i := 4) sc_law_groups.nd rfl (.inl rfl))) (fun _ _ _ _ _ => pts_nil) (fun _ _ _ _ _ => (pe_tup (pa_cons (pe_op op_add_str pe_str (pe_callTy (T := "str") call_str_int (by rfl) T.z_str (by decide +kernel) (pa_cons (pv 4) pa_nil))) (pa_cons (pe_op op_add pe_int (pe_cg c__law_take hr (by decide) hG (by rfl) (pa_cons (pv 2) (pa_cons (pv 3) (pa_cons (pv 1) pa_nil))))) pa_nil))))) pa_nil)))), fun dr at_ F0 H0 as k ke hl hw => ?_⟩
  obtain ⟨most, seats, rfl, hm0, hm1, hs0, hs1, q⟩ := hw
  change Ds _ [_, _, _, _, _] _ _ _
  walk_at "d"
  refine dl_lc ?_
  walk_at "d"
  refine ⟨by omega, fun v v0 v1 => ?_⟩
  walk_at "d"
  refine ⟨⟨by omega, by omega⟩, by rw [List.length_map, List.length_range, sizeLine_eq]; omega, fun i acc => ∃ gs : List (Str × Int), acc = gs.map (fun g => .dat (grpD g)) ∧ gs.length = i ∧ gs.map Prod.fst = (List.range i).map gnm ∧ ∀ g ∈ gs, 1 ≤ g.2 ∧ g.2 ≤ seats, ⟨[], rfl, rfl, rfl, by simp⟩, ?_, ?_⟩
  · rintro i d acc hd ⟨gs, rfl, hgl, hgn, hgz⟩
    have hi : i < v.toNat := by
      have := (List.getElem?_eq_some_iff.mp hd).1
      rwa [List.length_map, List.length_range] at this
    rw [mapI_get hi] at hd
    cases hd
    walk_at "d"
    refine ⟨by rw [Int.natAbs_natCast]; exact Nat.lt_of_le_of_lt (Nat.log2_le_self i) (by omega), ?_⟩
    walk_at "d"
    refine ⟨?_, ?_⟩
    · have := len_toString i (by omega)
      show 1 + (Str.ofString (toString (i : Int))).length ≤ sizeLine
      rw [sizeLine_eq]
      omega
    walk_at "d"
    refine ⟨by omega, fun z z0 z1 => ?_⟩
    walk_at "d"
    refine ⟨gs ++ [(gnm i, 1 + z)], by rw [List.map_append]; rfl, by rw [List.length_append, hgl]; rfl, by rw [List.map_append, hgn, List.range_succ, List.map_append]; rfl, fun g hg => ?_⟩
    rcases List.mem_append.mp hg with hg | hg
    · exact hgz g hg
    · rw [List.mem_singleton.mp hg]
      exact ⟨by omega, by omega⟩
  · rintro ss ⟨gs, rfl, hgl, hgn, hgz⟩
    rw [List.length_map, List.length_range] at hgl hgn
    refine ⟨gs.map grpD, by rw [List.map_map]; rfl, q gs ⟨by omega, by rw [hgl]; exact hgn, hgz⟩⟩
def wLTable : Wt := fun as k _ => ∃ (gs : List (Str × Int)) (se : Int), as = [.dat (gsD gs), .dat (.int se)] ∧ gs.length ≤ 10 ∧ k (.v (.dat (.tuple ((tbl gs se).map entD))))
theorem ok_ltable {f : Addr} {fd : FuncData} (F : Fun K "_law_table" "_law_table" s_law_table f fd) (T : DTxt mg) : FnG P w K mg base CX0 1 f fd ["groups", "seats"] (spP K 2 wLTable) := by
  refine okP F sc_law_table rfl fun cdv A outer s H E hG hr => ⟨_, (pss_cons (ps_set (i := 2) sc_law_table.nd rfl (.inl rfl) (pe_lst (pa_cons (pe_tup (pa_cons pe_int (pa_cons pe_int pa_nil))) pa_nil)))
    (pss_cons (ps_for PassesOwn.never rfl (pi_range2 (by rfl) T.z_range (pa_cons pe_int (pa_cons (pe_op op_shl pe_int (pe_callB (r := Ln.rLen K) (id := "len") c_len (by rfl) T.z_len (by decide +kernel) (pa_cons (pv 0) pa_nil))) pa_nil))) (pg_name (i := 3) sc_law_table.nd rfl (.inl rfl))
    (pss_cons (ps_set (i := 4) sc_law_table.nd rfl (.inl rfl) (pe_lst pa_nil))
    (pss_cons (ps_for PassesOwn.never rfl (pi_range1 (by rfl) T.z_range (pa_cons (pe_callB (r := Ln.rLen K) (id := "len") c_len (by rfl) T.z_len (by decide +kernel) (pa_cons (pv 0) pa_nil)) pa_nil)) (pg_name (i := 5) sc_law_table.nd rfl (.inl rfl))
    (pss_one (ps_if (pt_cmpR op_eq (pe_op op_and (pe_op op_shr (pv 3) (pv 5)) pe_int) pe_int (nomark _))
    (pss_cons (ps_asg (pe_ix (r := rIxL K) ix_list (pv 2) (pe_op op_sub (pv 3) (pe_op op_shl pe_int (pv 5))) (fun _ _ => rfl)) (pg_tup (by rfl) (pgs_cons (pg_name (i := 6) sc_law_table.nd rfl (.inl rfl)) (pgs_cons (pg_name (i := 7) sc_law_table.nd rfl (.inl rfl)) pgs_nil))))
    (pss_cons (ps_set (i := 8) sc_law_table.nd rfl (.inl rfl) (pe_ix (r := rIxT K) ix_tup (pe_ix (r := rIxT K) ix_tup (pv 0) (pv 5) (fun _ _ => rfl)) pe_int (fun _ _ => rfl)))
    (pss_one (ps_expr (pe_bm PySem.F.plainAttrs_list PySem.F.slot_list_append PySem.F.type_list_append mt_append (pv 4) (pa_cons (pe_ifExp (pt_cmpR op_le (pe_op op_add (pv 7) (pv 8)) (pv 1) (nomark _)) (pe_tup (pa_cons (pv 6) (pa_cons (pe_op op_add (pv 7) (pv 8)) pa_nil))) (pe_tup (pa_cons (pe_op op_add (pv 6) pe_int) (pa_cons (pv 8) pa_nil)))) pa_nil))))))
    pss_nil)))
    (pss_one (ps_expr (pe_bm PySem.F.plainAttrs_list PySem.F.slot_list_append PySem.F.type_list_append mt_append (pv 2) (pa_cons (pe_callB (r := Dl.rMinG K) (id := "min") (Dl.cr_minG rfl (Dl.u8 hr)) (by rfl) T.z_min (by decide +kernel) (pa_cons (pv 4) pa_nil)) pa_nil)))))))
    (pss_one (ps_ret (pe_callTy (r := Ln.rTupOf K) (T := "tuple") c_tuple (by rfl) T.z_tuple (by decide +kernel) (pa_cons (pv 2) pa_nil)))))), fun F0 H0 as k ke hl hw => ?_⟩
  obtain ⟨gs, se, rfl, hg, q⟩ := hw
  have hb : 2 ^ gs.length ≤ 2 ^ 10 := Nat.pow_le_pow_right (by decide) hg
  have hpos := Nat.two_pow_pos gs.length
  have e1 : (1 : Int) * 2 ^ ((gs.length : Int)).toNat = ((2 ^ gs.length : Nat) : Int) := by
    rw [Int.toNat_natCast, Int.one_mul, Int.natCast_pow]; rfl
  change Ds _ [_, _, _, _, _, _, _, _, _] _ _ _
  walk_at "d"
  intro D hD
  walk_at "d"
  refine ds_for ?_
  walk_at "d"
  rw [List.length_map]
  refine ⟨⟨by omega, by omega, by decide⟩, ?_⟩
  walk_at "d"
  rw [e1]
  refine ⟨⟨by omega, by omega⟩, ⟨by omega, by omega⟩, fun i G' O' => (∃ z3 z4 z5 z6 z7 z8, G' = [.dat (gsD gs), .dat (.int se), .ptr D, z3, z4, z5, z6, z7, z8]) ∧ [(D, Ob.lst (((tabL gs se (i + 1)).map entD).map Sv.dat))].Sublist O', ⟨⟨_, _, _, _, _, _, rfl⟩, ?_⟩, ?_, ?_⟩
  · have e0 : tabL gs se (0 + 1) = [(0, 0)] := by
      show [] ++ [tb gs se 0] = _
      rw [tb_zero]; rfl
    rw [e0]
    exact List.Sublist.refl _
  · rintro i d G' O' hd ⟨⟨z3, z4, z5, z6, z7, z8, rfl⟩, hsub⟩
    have hi : i < 2 ^ gs.length - 1 := by
      have := (List.getElem?_eq_some_iff.mp hd).1
      rw [List.length_map, List.length_range] at this
      omega
    rw [mapI_get (by omega)] at hd
    cases hd
    walk_at "d1"
    refine ds_less hsub ?_
    rw [show (1 : Int) + (i : Int) = ((i + 1 : Nat) : Int) by omega]
    walk_at "d"
    intro D2 hD2
    walk_at "d"
    refine ds_for ?_
    walk_at "d"
    rw [List.length_map]
    refine ⟨⟨by omega, by omega⟩, fun j G' O' => (∃ z5 z6 z7 z8, G' = [.dat (gsD gs), .dat (.int se), .ptr D, .dat (natD (i + 1)), .ptr D2, z5, z6, z7, z8]) ∧ O' = [(D2, Ob.lst (((candN gs se (i + 1) j).map entD).map Sv.dat)), (D, Ob.lst (((tabL gs se (i + 1)).map entD).map Sv.dat))], ⟨⟨_, _, _, _, rfl⟩, rfl⟩, ?_, ?_⟩
    · rintro j d G' O' hd ⟨⟨z5, z6, z7, z8, rfl⟩, rfl⟩
      have hj : j < gs.length := by
        have := (List.getElem?_eq_some_iff.mp hd).1
        rw [List.length_map, List.length_range] at this
        omega
      rw [mapI_get (by omega)] at hd
      cases hd
      have hcl : (candN gs se (i + 1) j).length ≤ j := by
        unfold candN
        rw [List.length_map]
        exact Nat.le_trans (List.length_filter_le _ _) (by rw [List.length_range]; omega)
      walk_at "d"
      refine ⟨by omega, ?_⟩
      walk_at "d"
      rw [Int.toNat_natCast, bit_shr]
      refine ifB (fun h => ?_) (fun h => ?_)
      · have hle := bit_le h
        have hpos := Nat.two_pow_pos j
        obtain ⟨x, hx⟩ := sz_get hj
        have hi2 := tabL_get gs se (i + 1) (i + 1 - 2 ^ j) (by omega)
        walk_at "d"
        refine ⟨⟨by omega, by omega, by decide⟩, ?_⟩
        walk_at "d"
        rw [bit_sub h]
        refine ⟨entD (tb gs se (i + 1 - 2 ^ j)), ?_, ?_⟩
        · rw [List.map_map]
          exact atI_map rfl hi2
        walk_at "d"
        refine ⟨_, atI_map rfl hx, ?_⟩
        walk_at "d"
        refine ⟨_, rfl, ?_⟩
        walk_at "d"
        rw [List.length_map, List.length_map]
        refine ⟨by rw [sizeLine_eq]; omega, ?_⟩
        have ec : candN gs se (i + 1) (j + 1) = candN gs se (i + 1) j ++ [behindF se (sz gs j) (tb gs se (i + 1 - 2 ^ j))] := by
          unfold candN
          rw [List.range_succ, List.filter_append, List.map_append, List.filter_cons, h]
          rfl
        have fin : ∀ e : Int × Int, e = behindF se (sz gs j) (tb gs se (i + 1 - 2 ^ j)) → ((candN gs se (i + 1) j).map entD).map Sv.dat ++ [Sv.dat (entD e)] = ((candN gs se (i + 1) (j + 1)).map entD).map Sv.dat := by
          intro e he
          rw [ec, he, List.map_append, List.map_append]; rfl
        walk_at "d"
        refine ifP (fun h2 => ?_) (fun h2 => ?_)
        · walk_at "d"
          refine ⟨⟨_, _, _, _, rfl⟩, ?_⟩
          rw [← fin _ (by unfold behindF; rw [if_pos h2])]
        · walk_at "d"
          refine ⟨⟨_, _, _, _, rfl⟩, ?_⟩
          rw [← fin _ (by unfold behindF; rw [if_neg h2])]
      · walk_at "d"
        refine ⟨⟨_, _, _, _, rfl⟩, ?_⟩
        have ec : candN gs se (i + 1) (j + 1) = candN gs se (i + 1) j := by
          unfold candN
          rw [List.range_succ, List.filter_append, List.filter_cons, h]
          simp
        rw [ec]
    · rintro G' O' ⟨⟨z5, z6, z7, z8, rfl⟩, rfl⟩
      rw [List.length_map, List.length_range, Int.toNat_natCast]
      have ec : candN gs se (i + 1) gs.length = (bitsOf (i + 1)).map (fun p => behindF se (sz gs p) (tb gs se (i + 1 - 2 ^ p))) := by
        unfold candN
        rw [bitsOf_range (by omega)]
      rw [ec]
      walk_at "d"
      rw [List.length_map, List.length_map, tabL_len]
      refine ⟨by rw [sizeLine_eq]; omega, ?_⟩
      refine dv_dx (dx_lend 4 hD2 ?_)
      walk_at "d"
      have et := tb_cand gs se (i + 1)
      cases e : (bitsOf (i + 1)).map (fun p => behindF se (sz gs p) (tb gs se (i + 1 - 2 ^ p))) with
      | nil => exact absurd (List.map_eq_nil_iff.mp e) (bitsOf_ne (by omega))
      | cons y ys =>
        rw [e] at et
        refine minK_ent rfl ?_
        rw [show minE y ys = tb gs se (i + 1) from et.symm]
        refine ⟨rfl, ?_⟩
        walk_at "d"
        refine ⟨⟨_, _, _, _, _, _, rfl⟩, ?_⟩
        have e2 : ((tabL gs se (i + 1 + 1)).map entD).map Sv.dat = ((tabL gs se (i + 1)).map entD).map Sv.dat ++ [Sv.dat (entD (tb gs se (i + 1)))] := by
          show ((tabL gs se (i + 1) ++ [tb gs se (i + 1)]).map entD).map Sv.dat = _
          rw [List.map_append, List.map_append]; rfl
        rw [e2]
        exact List.sublist_cons_self _ _
  · rintro G' O' ⟨⟨z3, z4, z5, z6, z7, z8, rfl⟩, hsub⟩
    rw [List.length_map, List.length_range] at hsub
    refine ds_less hsub ?_
    rw [show ((((2 ^ gs.length : Nat) : Int) - 1).toNat + 1) = 2 ^ gs.length by omega]
    refine ds_ret (dv_dx (dx_lend 2 hD ?_))
    walk_at "d"
    exact ⟨by rw [noLd_tup]; exact noLds_ents _, q⟩
def wLNeeds : Wt := fun as k _ => ∃ (e : Int × Int), as = [.dat (entD e)] ∧ k (.v (.dat (.int (usedF e))))
theorem ok_lneeds {f : Addr} {fd : FuncData} (F : Fun K "_law_needs" "_law_needs" s_law_needs f fd) : FnG P w K mg base CX0 1 f fd ["entry"] (spP K 1 wLNeeds) := by
  refine okP F sc_law_needs rfl fun cdv A outer s H E hG hr => ⟨_, (pss_one (ps_ret (pe_op op_add (pe_ix (r := rIxT K) ix_tup (pv 0) pe_int (fun _ _ => rfl)) (pe_ifExp (pt_cmpR op_gt (pe_ix (r := rIxT K) ix_tup (pv 0) pe_int (fun _ _ => rfl)) pe_int (nomark _)) pe_int pe_int)))), fun F0 H0 as k ke hl hw => ?_⟩
  obtain ⟨e, rfl, q⟩ := hw
  change Ds _ [_] _ _ _
  walk_at "d"
  refine ⟨_, rfl, ?_⟩
  walk_at "d"
  refine ⟨_, rfl, ?_⟩
  walk_at "d"
  unfold usedF at q
  refine ifP (fun h => ?_) (fun h => ?_)
  · rw [if_pos h] at q
    walk_at "d"
    exact q
  · rw [if_neg h] at q
    walk_at "d"
    rw [Int.add_zero]
    exact q
theorem bitsOf_half (m : Nat) : (bitsOf m).length = m % 2 + (bitsOf (m / 2)).length := by
  have h1 : m < 2 ^ (Builtin.Int.intBits (m : Int) + 1) := Nat.lt_of_lt_of_le (intBits_lt m) (Nat.pow_le_pow_right (by decide) (by omega))
  have h2 : m / 2 < 2 ^ Builtin.Int.intBits (m : Int) := by
    rw [Nat.pow_succ] at h1
    omega
  rw [← bitsOf_range h1, ← bitsOf_range h2, List.range_succ_eq_map, List.filter_cons, List.filter_map]
  have e : (m.testBit ∘ Nat.succ) = (m / 2).testBit := by
    funext i
    show m.testBit (i + 1) = _
    rw [Nat.testBit_succ]
  rw [e]
  by_cases c : m.testBit 0 = true
  · rw [if_pos c, List.length_cons, List.length_map]
    rw [Nat.testBit_zero] at c
    have := of_decide_eq_true c
    omega
  · rw [if_neg c, List.length_map]
    rw [Nat.testBit_zero] at c
    have : ¬ m % 2 = 1 := fun z => c (decide_eq_true z)
    omega
def wLOnes : Wt := fun as k _ => ∃ n : Nat, as = [.dat (natD n)] ∧ k (.v (.dat (natD (bitsOf n).length)))
theorem ok_lones {f : Addr} {fd : FuncData} (F : Fun K "_law_ones" "_law_ones" s_law_ones f fd) : FnG P w K mg base CX0 1 f fd ["digits"] (spP K 1 wLOnes) := by
  refine okP F sc_law_ones rfl fun cdv A outer s H E hG hr => ⟨_, (pss_cons (ps_set (i := 1) sc_law_ones.nd rfl (.inl rfl) pe_int)
    (pss_cons (ps_while PassesOwn.never (pt_cmpR op_gt (pv 0) pe_int (nomark _))
    (pss_cons (ps_set (i := 1) sc_law_ones.nd rfl (.inl rfl) (pe_op op_add (pv 1) (pe_op op_and (pv 0) pe_int)))
    (pss_one (ps_set (i := 0) sc_law_ones.nd rfl (.inl rfl) (pe_op op_shr (pv 0) pe_int)))))
    (pss_one (ps_ret (pv 1))))), fun F0 H0 as k ke hl hw => ?_⟩
  obtain ⟨n, rfl, q⟩ := hw
  change Ds _ [_, _] _ _ _
  walk_at "d"
  refine ds_while (fun m G' O' => O' = [] ∧ ∃ c : Nat, G' = [.dat (natD m), .dat (natD c)] ∧ c + (bitsOf m).length = (bitsOf n).length) ⟨n, rfl, 0, rfl, by omega⟩ ?_
  rintro m G' O' ⟨rfl, c, rfl, hc⟩
  walk_at "d"
  refine ifP (fun h => ?_) (fun h => ?_)
  · walk_at "d"
    rw [bit_low, show (m : Int) / 2 ^ Int.toNat 1 = ((m / 2 : Nat) : Int) by show (m : Int) / 2 ^ 1 = _; omega, show (c : Int) + ((m % 2 : Nat) : Int) = ((c + m % 2 : Nat) : Int) by omega]
    refine ⟨by omega, ?_⟩
    walk_at "d"
    exact ⟨m / 2, by omega, rfl, _, rfl, by have := bitsOf_half m; omega⟩
  · have hm0 : m = 0 := by omega
    subst hm0
    rw [bitsOf_zero] at hc
    walk_at "d"
    rw [show c = (bitsOf n).length by simpa using hc]
    exact q
def wLForm : Wt := fun as k _ => ∃ (d : PyData) (n : Nat), as = [.dat d, .dat (natD n)] ∧ noLd d = true ∧ Shp 40 d ∧ n ≤ 1024 ∧ k (.v (.dat (.bool (formB d (n : Int)))))
theorem ok_lform {f : Addr} {fd : FuncData} (F : Fun K "_law_has_form" "_law_has_form" s_law_has_form f fd) (T : DTxt mg) : FnG P w K mg base CX0 1 f fd ["value", "size"] (spP K 2 wLForm) := by
  refine okP F sc_law_has_form rfl fun cdv A outer s H E hG hr => ⟨_, (pss_cons (ps_if (PW.pt (pw_or (pt_not (pt_val (pe_callB (r := rIsi K) (id := "isinstance") call_isi (by rfl) T.z_isinstance (by decide +kernel) (pa_cons (pv 0) (pa_cons (pe_bltn (v := .ty "tuple") (u := .type "tuple") (by rfl) T.z_tuple (by decide +kernel) rfl) pa_nil))))) (pw_or1 (pt_cmpR op_ne (pe_callB (r := Ln.rLen K) (id := "len") c_len (by rfl) T.z_len (by decide +kernel) (pa_cons (pv 0) pa_nil)) (pv 1) (nomark _)))))
    (pss_one (ps_ret pe_bl))
    pss_nil)
    (pss_cons (ps_for PassesOwn.never rfl (pi_tup (pv 0)) (pg_name (i := 2) sc_law_has_form.nd rfl (.inl rfl))
    (pss_cons (ps_if (PW.pt (pw_or (pt_not (pt_val (pe_callB (r := rIsi K) (id := "isinstance") call_isi (by rfl) T.z_isinstance (by decide +kernel) (pa_cons (pv 2) (pa_cons (pe_bltn (v := .ty "tuple") (u := .type "tuple") (by rfl) T.z_tuple (by decide +kernel) rfl) pa_nil))))) (pw_or1 (pt_cmpR op_ne (pe_callB (r := Ln.rLen K) (id := "len") c_len (by rfl) T.z_len (by decide +kernel) (pa_cons (pv 2) pa_nil)) pe_int (nomark _)))))
    (pss_one (ps_ret pe_bl))
    pss_nil)
    (pss_one (ps_if (pt_cmpR (r := rNeD K) (op_neD hr.units) (pe_lc (own := [("part", 3)]) rfl sc_law_has_form.nd (pi_tup (pv 2)) (blkOk_by (own := [("part", 3)]) (N := N_law_has_form) (sc := defScope s_law_has_form) (by decide +kernel)) (fun _ _ _ _ _ => (pg_name (i := 3) sc_law_has_form.nd rfl (.inl rfl))) (fun _ _ _ _ _ => (pts_one (PW.pt (pw_or (pt_not (pt_val (pe_callB (r := rIsi K) (id := "isinstance") call_isi (by rfl) T.z_isinstance (by decide +kernel) (pa_cons (pv 3) (pa_cons (pe_bltn (v := .ty "int") (u := .type "int") (by rfl) T.z_int (by decide +kernel) rfl) pa_nil))))) (pw_or1 (pt_val (pe_callB (r := rIsi K) (id := "isinstance") call_isi (by rfl) T.z_isinstance (by decide +kernel) (pa_cons (pv 3) (pa_cons (pe_bltn (v := .ty "bool") (u := .type "bool") (by rfl) T.z_bool (by decide +kernel) rfl) pa_nil))))))))) (fun _ _ _ _ _ => (pv 3))) (pe_lst pa_nil) (nomark _))
    (pss_one (ps_ret pe_bl))
    pss_nil))))
    (pss_one (ps_ret pe_bl)))), fun F0 H0 as k ke hl hw => ?_⟩
  obtain ⟨d, n, rfl, hn, hs, hn2, q⟩ := hw
  have hf := flat_of hn
  change Ds _ [_, _, _, _] _ _ _
  walk_at "d"
  cases d with
  | tuple ds =>
    walk_at "d"
    have hl : ∀ b : Bool, (b = decide ((ds.length : Int) = (n : Int))) → (b && ds.all pairB) = formB (.tuple ds) (n : Int) := fun b e => by rw [e]; rfl
    refine ifB (fun h => ?_) (fun h => ?_)
    · walk_at "d"
      rw [← hl false (by simpa using h)] at q
      exact q
    · have h : true = decide ((ds.length : Int) = (n : Int)) := by simpa using h
      rw [← hl true h, Bool.true_and] at q
      have h := of_decide_eq_true h.symm
      rw [noLd_tup] at hn
      walk_at "d"
      refine ds_for ?_
      walk_at "d"
      refine ⟨fun i G' O' => (∃ z2 z3, G' = [.dat (.tuple ds), .dat (natD n), z2, z3]) ∧ O' = [] ∧ (ds.take i).all pairB = true, ⟨⟨_, _, rfl⟩, rfl, rfl⟩, ?_, ?_⟩
      · rintro i x G' O' hx ⟨⟨z2, z3, rfl⟩, rfl, hall⟩
        have mx := List.mem_of_getElem? hx
        have nx := noLds_mem hn x mx
        have sx := hs.mem x mx
        have bad : pairB x = false → k (.v (.dat (.bool false))) := fun hb => by
          rw [show ds.all pairB = false from List.all_eq_false.mpr ⟨x, mx, by rw [hb]; exact Bool.false_ne_true⟩] at q
          exact q
        have tk : (ds.take (i + 1)).all pairB = pairB x := by
          rw [takeS hx, List.all_append, hall]
          simp
        have fx := flat_of nx
        walk_at "d"
        cases x with
        | tuple es =>
          walk_at "d"
          have hr2 : rowB (.tuple es) 2 = decide ((es.length : Int) = 2) := rfl
          refine ifB (fun h => ?_) (fun h => ?_)
          · walk_at "d"
            exact bad (by unfold pairB; rw [hr2, show decide ((es.length : Int) = 2) = false by simpa using h]; rfl)
          · have h : decide ((es.length : Int) = 2) = true := by simpa using h
            have he2 := of_decide_eq_true h
            have ep : pairB (.tuple es) = es.all intB := by unfold pairB; rw [hr2, h]; rfl
            rw [noLd_tup] at nx
            walk_at "d"
            refine dl_filtD ?_
            walk_at "d"
            refine ⟨by rw [sizeLine_eq]; omega, fun d => !intB d, fun d => .dat d, fun i y hy => ?_, es.filter fun d => !intB d, rfl, ?_⟩
            · have my := List.mem_of_getElem? hy
              have fy := flat_of (noLds_mem nx y my)
              walk_at "d"
              cases y <;> first | (cases fy; done) | skip
              all_goals (walk_at "d")
              all_goals (refine ⟨rfl, fun hh => ?_⟩)
              all_goals first | (cases hh; done) | (walk_at "d"; rfl)
            · walk_at "d"
              refine ⟨(Shp.lst fun y hy => sx.mem y (List.mem_filter.mp hy).1).shaped (by decide), rfl, ?_⟩
              rw [eqv_nil]
              walk_at "d"
              have ee : es.all intB = (es.filter fun d => !intB d).isEmpty := by
                rw [Bool.eq_iff_iff, List.all_eq_true, List.isEmpty_iff, List.filter_eq_nil_iff]
                simp
              rw [← ee, ← ep]
              refine ifB (fun h3 => ?_) (fun h3 => ?_)
              · walk_at "d"
                exact bad (by simpa using h3)
              · walk_at "d"
                exact ⟨⟨_, _, rfl⟩, rfl, by rw [tk]; simpa using h3⟩
        | _ => first | (cases fx; done) | (walk_at "d"; exact bad rfl)
      · rintro G' O' ⟨⟨z2, z3, rfl⟩, rfl, hall⟩
        rw [List.take_length] at hall
        rw [hall] at q
        walk_at "d"
        exact q
  | _ => first | (cases hf; done) | (walk_at "d"; exact q)
end
end Mine
set_option Elab.async false
set_option linter.all false
set_option maxRecDepth 100000
set_option maxHeartbeats 4000000
namespace Mine
open PySem PySem.Spec PyProof.Rows L2 Ln Dl PySem.W
abbrev s_law_plan_right : Stmt := topS 39
abbrev N_law_plan_right : List Str := ["groups", "rows", "seats", "number", "plan", "sizes", "name", "size", "met", "row", "k"]
theorem sc_law_plan_right : FnScope N_law_plan_right ["groups", "rows", "seats", "number", "plan"] (defScope s_law_plan_right) := ⟨rfl, rfl, rfl, by decide +kernel, rfl, by decide +kernel, by decide +kernel⟩
-- slots: 0 groups, 1 rows, 2 seats, 3 number, 4 plan, 5 sizes*, 6 name, 7 size, 8 met*, 9 row*, 10 k
theorem nodup_map_on {α β : Type} {f : α → β} : ∀ {xs : List α}, (∀ x ∈ xs, ∀ y ∈ xs, f x = f y → x = y) → xs.Nodup → (xs.map f).Nodup
  | [], _, _ => List.nodup_nil
  | x :: xs, h, nd => by
    rw [List.nodup_cons] at nd
    rw [List.map_cons, List.nodup_cons]
    refine ⟨fun m => ?_, nodup_map_on (fun a ha b hb => h a (List.mem_cons_of_mem _ ha) b (List.mem_cons_of_mem _ hb)) nd.2⟩
    obtain ⟨y, hy, e⟩ := List.mem_map.mp m
    rw [h x List.mem_cons_self y (List.mem_cons_of_mem _ hy) e.symm] at nd
    exact nd.1 hy
theorem nm_eq {gs : List (Str × Int)} {p : Nat} (h : p < gs.length) : (gs.map Prod.fst)[p]? = some (nm gs p) := by
  rw [List.getElem?_map, nm_get h]; rfl
theorem nodup_get {α : Type} : ∀ {xs : List α}, xs.Nodup → ∀ {i j : Nat} {x : α}, xs[i]? = some x → xs[j]? = some x → i = j
  | [], _, i, j, x, e, _ => by simp at e
  | y :: ys, nd, i, j, x, e1, e2 => by
    rw [List.nodup_cons] at nd
    match i, j, e1, e2 with
    | 0, 0, _, _ => rfl
    | 0, j + 1, e1, e2 => cases e1; exact absurd (List.mem_of_getElem? (by simpa using e2)) nd.1
    | i + 1, 0, e1, e2 => cases e2; exact absurd (List.mem_of_getElem? (by simpa using e1)) nd.1
    | i + 1, j + 1, e1, e2 => rw [nodup_get nd.2 (i := i) (j := j) (by simpa using e1) (by simpa using e2)]
theorem eqv_nilT (ds : List PyData) : PyData.eqv (.tuple ds) (.tuple []) = ds.isEmpty := by
  cases ds <;> simp [PyData.eqv, PyData.eqvAll]
theorem nm_inj {gs : List (Str × Int)} (nd : (gs.map Prod.fst).Nodup) {p q : Nat} (hp : p < gs.length) (hq : q < gs.length) (e : nm gs p = nm gs q) : p = q := by
  have h1 := nm_eq hp
  have h2 := nm_eq hq
  rw [e] at h1
  exact nodup_get nd h1 h2
def C0 (K : PySem.W.Frag) (F0 H0 : Hp) (D : Addr) : Prop := (cyP K F0 H0).H0 D = none
section
variable {P : Program} {w : World} {K : PySem.W.Frag} {mg : Str → Option Value} {base : Heap}
abbrev planD (gs : List (Str × Int)) (rows : List (List Nat)) : PyData := .tuple (rows.map fun r => .tuple (rowD gs r))
def wLPlan : Wt := fun as k _ => ∃ (gs : List (Str × Int)) (ro se : Int) (n : Nat) (rows : List (List Nat)), as = [.dat (gsD gs), .dat (.int ro), .dat (.int se), .dat (natD (bitsOf n).length), .dat (planD gs rows)] ∧ n < 2 ^ gs.length ∧ gs.length ≤ 10 ∧ (gs.map Prod.fst).Nodup ∧ (∀ g ∈ gs, PyData.strOk g.1 = true) ∧
  (rows.length : Int) ≤ ro ∧ rows.flatten.Perm (bitsOf n) ∧ RowsOk gs se rows ∧ k (.v (.dat (.bool true)))
theorem ok_lplan {f : Addr} {fd : FuncData} (F : Fun K "_law_plan_right" "_law_plan_right" s_law_plan_right f fd) (T : DTxt mg) : FnG P w K mg base CX0 1 f fd ["groups", "rows", "seats", "number", "plan"] (spP K 5 wLPlan) := by
  refine okP F sc_law_plan_right rfl fun cdv A outer s H E hG hr => ⟨_, (pss_cons (ps_if (PW.pt (pw_or (pt_not (pt_val (pe_callB (r := rIsi K) (id := "isinstance") call_isi (by rfl) T.z_isinstance (by decide +kernel) (pa_cons (pv 4) (pa_cons (pe_bltn (v := .ty "tuple") (u := .type "tuple") (by rfl) T.z_tuple (by decide +kernel) rfl) pa_nil))))) (pw_or1 (pt_cmpR op_gt (pe_callB (r := Ln.rLen K) (id := "len") c_len (by rfl) T.z_len (by decide +kernel) (pa_cons (pv 4) pa_nil)) (pv 1) (nomark _)))))
    (pss_one (ps_ret pe_bl))
    pss_nil)
    (pss_cons (ps_set (i := 5) sc_law_plan_right.nd rfl (.inr rfl) (pe_callTy (r := Dl.rDictP K) (T := "dict") (Dl.cr_dictP rfl) (by rfl) T.z_dict (by decide +kernel) (pa_cons (pe_lc (own := [("name", 6), ("size", 7)]) (g := (gTup K 2 (gCons (gName 6) (gCons (gName 7) gNil)))) rfl sc_law_plan_right.nd (pi_tup (pv 0)) (blkOk_by (own := [("name", 6), ("size", 7)]) (N := N_law_plan_right) (sc := defScope s_law_plan_right) (by decide +kernel)) (fun _ _ _ _ _ => (pg_tup (by rfl) (pgs_cons (pg_name (i := 6) sc_law_plan_right.nd rfl (.inl rfl)) (pgs_cons (pg_name (i := 7) sc_law_plan_right.nd rfl (.inl rfl)) pgs_nil)))) (fun _ _ _ _ _ => pts_nil) (fun _ _ _ _ _ => (pe_tup (pa_cons (pv 6) (pa_cons (pv 7) pa_nil))))) pa_nil)))
    (pss_cons (ps_set (i := 8) sc_law_plan_right.nd rfl (.inr rfl) (pe_lst pa_nil))
    (pss_cons (ps_for PassesOwn.never rfl (pi_tup (pv 4)) (pg_name (i := 9) sc_law_plan_right.nd rfl (.inr rfl))
    (pss_cons (ps_if (PW.pt (pw_or (pt_not (pt_val (pe_callB (r := rIsi K) (id := "isinstance") call_isi (by rfl) T.z_isinstance (by decide +kernel) (pa_cons (pv 9) (pa_cons (pe_bltn (v := .ty "tuple") (u := .type "tuple") (by rfl) T.z_tuple (by decide +kernel) rfl) pa_nil))))) (pw_or (pt_cmpR (r := rEqD K) (op_eqD hr.units) (pv 9) (pe_tup pa_nil) (nomark _)) (pw_or1 (pt_cmpR (r := rNeD K) (op_neD hr.units) (pe_lc (own := [("name", 6)]) rfl sc_law_plan_right.nd (pi_tup (pv 9)) (blkOk_by (own := [("name", 6)]) (N := N_law_plan_right) (sc := defScope s_law_plan_right) (by decide +kernel)) (fun _ _ _ _ _ => (pg_name (i := 6) sc_law_plan_right.nd rfl (.inl rfl))) (fun _ _ _ _ _ => (pts_one (PW.pt (pw_or (pt_cmp (pc_dnotin (hu_of hr) (pv 6) (pv 5))) (pw_or1 (pt_cmpR (r := rIn K false) op_in_seq (pv 6) (pv 8) (by rfl))))))) (fun _ _ _ _ _ => (pv 6))) (pe_lst pa_nil) (nomark _))))))
    (pss_one (ps_ret pe_bl))
    pss_nil)
    (pss_cons (ps_if (PW.pt (pw_or (pt_cmpR op_gt (pe_callB (r := rSum K) (id := "sum") (cr_sum rfl) (by rfl) T.z_sum (by decide +kernel) (pa_cons (pe_lc (own := [("name", 6)]) rfl sc_law_plan_right.nd (pi_tup (pv 9)) (blkOk_by (own := [("name", 6)]) (N := N_law_plan_right) (sc := defScope s_law_plan_right) (by decide +kernel)) (fun _ _ _ _ _ => (pg_name (i := 6) sc_law_plan_right.nd rfl (.inl rfl))) (fun _ _ _ _ _ => pts_nil) (fun _ _ _ _ _ => (pe_dget (by exact hu_of hr) (pv 5) (pv 6) (fun _ _ => rfl)))) pa_nil)) (pv 2) (nomark _)) (pw_or1 (pt_cmpR (r := rNeD K) (op_neD hr.units) (pe_lc (own := [("k", 10)]) rfl sc_law_plan_right.nd (pi_range1 (by rfl) T.z_range (pa_cons (pe_callB (r := Ln.rLen K) (id := "len") c_len (by rfl) T.z_len (by decide +kernel) (pa_cons (pv 9) pa_nil)) pa_nil)) (blkOk_by (own := [("k", 10)]) (N := N_law_plan_right) (sc := defScope s_law_plan_right) (by decide +kernel)) (fun _ _ _ _ _ => (pg_name (i := 10) sc_law_plan_right.nd rfl (.inl rfl))) (fun _ _ _ _ _ => (pts_one (pt_cmpR (r := rIn K false) op_in_seq (pe_ix (r := rIxT K) ix_tup (pv 9) (pv 10) (fun _ _ => rfl)) (pe_slice (r := Ln.rSlS K) sl_tupS (pv 9) po_none (po_some (pv 10))) (by rfl)))) (fun _ _ _ _ _ => (pv 10))) (pe_lst pa_nil) (nomark _)))))
    (pss_one (ps_ret pe_bl))
    pss_nil)
    (pss_one (ps_set (i := 8) sc_law_plan_right.nd rfl (.inr rfl) (pe_op op_cat (pv 8) (pe_callTy (r := Ln.rListOf K) (T := "list") c_list (by rfl) T.z_list (by decide +kernel) (pa_cons (pv 9) pa_nil))))))))
    (pss_one (ps_ret (pe_cmpR op_eq (pe_callB (r := Ln.rLen K) (id := "len") c_len (by rfl) T.z_len (by decide +kernel) (pa_cons (pv 8) pa_nil)) (pv 3) (nomark _)))))))), fun F0 H0 as k ke hl hw => ?_⟩
  obtain ⟨gs, ro, se, n, rows, rfl, hn, hg, hnd, hstr, hro, hp, hok, q⟩ := hw
  change Ds _ [_, _, _, _, _, _, _, _, _, _, _] _ _ _
  walk_at "d"
  have hml : ∀ r ∈ rows, ∀ p ∈ r, p < gs.length := fun r hr p hpr => testBit_lt hn (mem_bitsOf.mp (hp.mem_iff.mp (List.mem_flatten.mpr ⟨r, hr, hpr⟩)))
  have hfl : rows.flatten.length ≤ 10 := by
    have := hp.length_eq
    have := bitsOf_len hn
    omega
  have hrl : rows.length ≤ 10 := Nat.le_trans (len_flatten hok.ne) hfl
  have hnn : (rows.flatten.map (nm gs)).Nodup := by
    refine nodup_map_on ?_ (hp.nodup_iff.mpr (bitsOf_nodup n))
    intro p hp1 q hq1 e
    have h1 := testBit_lt hn (mem_bitsOf.mp (hp.mem_iff.mp hp1))
    have h2 := testBit_lt hn (mem_bitsOf.mp (hp.mem_iff.mp hq1))
    exact nm_inj hnd h1 h2 e
  rw [List.length_map, decide_eq_false (by omega)]
  walk_at "d"
  refine dl_map ?_
  walk_at "d"
  refine ⟨by rw [List.length_map, sizeLine_eq]; omega, _, gs, grpD, fun g => .dat (grpD g), rfl, fun i x hx => ?_, gs.map grpD, by rw [List.map_map]; rfl, ?_⟩
  · walk_at "d"
    rfl
  walk_at "d"
  refine ⟨gs.map fun g => (.inr g.1, .int g.2), by rw [List.map_map]; rfl, fun a => ?_⟩
  have hkn : (gs.map fun g => (Sum.inr g.1 : Key)).Nodup := by
    have h := nodup_map_on (f := (Sum.inr : Str → Key)) (fun x _ y _ e => Sum.inr.inj e) hnd
    rwa [List.map_map] at h
  rw [mergeG_new (by rw [List.nil_append, List.map_map]; exact hkn), List.nil_append]
  have hlk : ∀ r ∈ rows, ∀ p ∈ r, lookD (gs.map fun g => ((Sum.inr g.1 : Key), PyData.int g.2)) (.inr (nm gs p)) = some (.int (sz gs p)) := fun r hr p hpr =>
    lookD_map (f := fun g : Str × Int => (Sum.inr g.1 : Key)) (g := fun g => PyData.int g.2) (x := (nm gs p, sz gs p)) hkn (List.mem_of_getElem? (nm_get (hml r hr p hpr)))
  walk_at "d"
  intro D hD
  walk_at "d"
  refine ds_for ?_
  walk_at "d"
  refine ⟨fun i G' O' => (∃ D z6 z7 z9 z10, C0 K F0 H0 D ∧ G' = [.dat (gsD gs), .dat (.int ro), .dat (.int se), .dat (natD (bitsOf n).length), .dat (planD gs rows), .hdl (dcM K a (gs.map fun g => ((Sum.inr g.1 : Key), PyData.int g.2))), z6, z7, .ptr D, z9, z10] ∧ [(D, Ob.lst (((((rows.take i).flatten.map (nm gs)).map PyData.str)).map Sv.dat))].Sublist O'), ⟨D, _, _, _, _, hD, rfl, List.Sublist.refl _⟩, ?_, ?_⟩
  · rintro i d G' O' hd ⟨D, z6, z7, z9, z10, hD, rfl, hsub⟩
    rw [List.getElem?_map] at hd
    obtain ⟨r, hr, rfl⟩ := Option.map_eq_some_iff.mp hd
    have mr := List.mem_of_getElem? hr
    have hne := hok.ne r mr
    have hrl2 : r.length ≤ 10 := by
      have : r.length ≤ rows.flatten.length := List.Sublist.length_le (List.sublist_flatten_of_mem mr)
      omega
    walk_at "d1"
    refine ds_less hsub ?_
    refine ds_seq (ds_ifLend 8 hD ?_)
    have hstr2 : ∀ p ∈ r, PyData.strOk (nm gs p) = true := fun p hp => hstr _ (List.mem_of_getElem? (nm_get (hml r mr p hp)))
    have hrs : SeqAt.shaped (PyData.tuple (rowD gs r)) = true := (Shp.tuple (n := 0) fun p hp => Shp.str (hstr2 p hp)).shaped (by decide)
    have htk : (rows.take (i + 1)).flatten = (rows.take i).flatten ++ r := by
      rw [takeS hr, List.flatten_append]; simp
    have hsub2 : ((rows.take i).flatten ++ r).Sublist rows.flatten := by
      rw [← htk]
      conv => rhs; rw [← List.take_append_drop (i + 1) rows, List.flatten_append]
      exact List.sublist_append_left _ _
    have hnn2 : (((rows.take i).flatten ++ r).map (nm gs)).Nodup := hnn.sublist (hsub2.map _)
    rw [List.map_append, List.nodup_append] at hnn2
    have hl10 : ((rows.take i).flatten).length + r.length ≤ 10 := by
      have := hsub2.length_le
      rw [List.length_append] at this
      omega
    walk_at "d"
    refine ⟨hrs, rfl, ?_⟩
    rw [eqv_nilT, show (rowD gs r).isEmpty = false by
      cases r with
      | nil => exact absurd rfl hne
      | cons _ _ => rfl]
    walk_at "d"
    refine dl_filt ?_
    walk_at "d"
    refine ⟨by rw [List.length_map, sizeLine_eq]; omega, Nat, r, _, fun _ => false, fun _ => .dat .none, rfl, fun j p hp2 => ?_, [], by rw [filter_no]; rfl, ?_⟩
    · have mp := List.mem_of_getElem? hp2
      walk_at "d"
      rw [hlk r mr p mp, Option.isSome_some]
      walk_at "d"
      refine ⟨rfl, flat_strs _, ?_⟩
      rw [inD_strs, decide_eq_false (fun z => hnn2.2.2 _ z _ (List.mem_map_of_mem mp) rfl)]
      walk_at "d"
      exact ⟨rfl, fun z => by cases z⟩
    walk_at "d"
    refine ⟨rfl, rfl, ?_⟩
    rw [eqv_nil, List.isEmpty_nil]
    walk_at "d"
    refine dl_map ?_
    walk_at "d"
    refine ⟨by rw [List.length_map, sizeLine_eq]; omega, Nat, r, _, fun p => .dat (.int (sz gs p)), rfl, fun j p hp2 => ?_, r.map (sz gs), by rw [List.map_map]; rfl, ?_⟩
    · have mp := List.mem_of_getElem? hp2
      walk_at "d"
      exact ⟨_, hlk r mr p mp, rfl⟩
    walk_at "d"
    rw [decide_eq_false (by have : rowSum gs r ≤ se := hok.le r mr; unfold rowSum at this; omega)]
    walk_at "d"
    refine dl_filt ?_
    walk_at "d"
    rw [List.length_map]
    refine ⟨⟨by omega, by omega⟩, by rw [List.length_map, List.length_range, sizeLine_eq]; omega, Nat, List.range r.length, _, fun _ => false, fun _ => .dat .none, by rw [Int.toNat_natCast], fun j x hx => ?_, [], by rw [filter_no]; rfl, ?_⟩
    · have hx := List.mem_range.mp (List.mem_of_getElem? hx)
      walk_at "d"
      refine ⟨_, atI_map (m := x) rfl (List.getElem?_eq_getElem hx), ?_⟩
      walk_at "d"
      have ec : cutD (rowD gs r) none (some (x : Int)) = (((r.take x).map (nm gs)).map PyData.str) := by
        rw [cutD_take (by rw [List.length_map]; omega), ← List.map_take, List.map_map]; rfl
      rw [ec]
      refine ⟨rfl, flat_strs _, ?_⟩
      rw [inD_strs, decide_eq_false]
      · walk_at "d"
        exact ⟨rfl, fun z => by cases z⟩
      · intro z
        obtain ⟨p, hp1, e⟩ := List.mem_map.mp z
        obtain ⟨j', hj', e2⟩ := List.mem_iff_getElem.mp hp1
        rw [List.length_take] at hj'
        rw [List.getElem_take] at e2
        have h1 : (r.map (nm gs))[j']? = some (nm gs r[x]) := by rw [List.getElem?_map, List.getElem?_eq_getElem (show j' < r.length by omega), e2, ← e]; rfl
        have h2 : (r.map (nm gs))[x]? = some (nm gs r[x]) := by rw [List.getElem?_map, List.getElem?_eq_getElem hx]; rfl
        have := nodup_get hnn2.2.1 h1 h2
        omega
    walk_at "d"
    refine ⟨rfl, rfl, ?_⟩
    rw [eqv_nil, List.isEmpty_nil]
    walk_at "d"
    rw [List.length_map, List.length_map, List.length_map, List.length_map, List.length_map]
    refine ⟨by rw [sizeLine_eq]; omega, fun D2 hD2 => ?_⟩
    walk_at "d"
    refine ⟨D2, _, _, _, _, hD2, rfl, ?_⟩
    rw [htk, List.map_append, List.map_append, List.map_append, List.map_map (l := r)]
    exact List.Sublist.cons_cons _ (List.nil_sublist _)
  · rintro G' O' ⟨D, z6, z7, z9, z10, hD, rfl, hsub⟩
    refine ds_less hsub ?_
    walk_at "d"
    rw [List.length_map, List.length_map, List.length_map, List.length_map, List.take_length, hp.length_eq]
    walk_at "d"
    rw [decide_eq_true rfl]
    exact q
end
end Mine
set_option Elab.async false
set_option linter.all false
set_option maxRecDepth 100000
set_option maxHeartbeats 4000000
namespace Mine
open PySem PySem.Spec PyProof.Rows L2 Ln Dl PySem.W
abbrev s_law_bent : Stmt := topS 41
abbrev N_law_bent : List Str := ["table", "draws", "at", "k", "full", "last", "rows"]
theorem sc_law_bent : FnScope N_law_bent ["table", "draws", "at"] (defScope s_law_bent) := ⟨rfl, rfl, rfl, by decide +kernel, rfl, by decide +kernel, by decide +kernel⟩
-- slots: 0 table, 1 draws, 2 at, 3 k, 4 full, 5 last, 6 rows
abbrev s_law_told : Stmt := topS 42
abbrev N_law_told : List Str := ["call", "groups", "rows", "seats", "table", "e"]
theorem sc_law_told : FnScope N_law_told ["call", "groups", "rows", "seats", "table"] (defScope s_law_told) := ⟨rfl, rfl, rfl, by decide +kernel, rfl, by decide +kernel, by decide +kernel⟩
-- slots: 0 call, 1 groups, 2 rows, 3 seats, 4 table, 5 e
/-- numbers of a pair are small -/
def Bd (B : Nat) (d : PyData) : Prop := ∀ a b : Int, d = .tuple [.int a, .int b] → a.natAbs ≤ B ∧ b.natAbs ≤ B
structure Gd (B : Nat) (d : PyData) : Prop where
  nl : noLd d = true
  sm : Sm d 3 400000
  bd : ∀ ds, d = .tuple ds → ∀ x ∈ ds, Bd B x
/-- what a row may be -/
structure Gr (B : Nat) (d : PyData) : Prop where
  nl : noLd d = true
  sm : Sm d 1 84
  bd : Bd B d
theorem Gd.tup {B : Nat} {ds : List PyData} (hl : ds.length ≤ 2050) (h : ∀ d ∈ ds, Gr B d) : Gd B (.tuple ds) :=
  ⟨by rw [noLd_tup]; exact noLds_of fun d hd => (h d hd).nl, (Sm.tup (fun d hd => (h d hd).sm) hl).mono (by decide) (by decide), fun es e x hx => by cases e; exact (h x hx).bd⟩
theorem sm_ent {B : Nat} (hB : B ≤ 1000) {e : Int × Int} (h1 : e.1.natAbs ≤ B) (h2 : e.2.natAbs ≤ B) : Gr B (entD e) := by
  refine ⟨rfl, ?_, fun a b e => by cases e; exact ⟨h1, h2⟩⟩
  refine Sm.tup (k := 0) (m := 41) (n := 2) (fun d hd => ?_) (by show 2 ≤ 2; decide)
  simp only [List.mem_cons, List.not_mem_nil, or_false] at hd
  rcases hd with rfl | rfl
  · exact Sm.int (by omega)
  · exact Sm.int (by omega)
theorem Gd.ofR {B : Nat} {d : PyData} (h : Gr B d) (n : ∀ ds, d = .tuple ds → ∀ x ∈ ds, ∀ es, x ≠ .tuple es) : Gd B d := ⟨h.nl, h.sm.mono (by decide) (by decide), fun ds e x hx a b e2 => absurd e2 (n ds e x hx _)⟩
section
variable {P : Program} {w : World} {K : PySem.W.Frag} {mg : Str → Option Value} {base : Heap} {C CP fI fI' : Addr}
abbrev tabD (tab : List (Int × Int)) : PyData := .tuple (tab.map entD)
def wLBent : WtD := fun dr at_ as k _ => ∃ tab : List (Int × Int), as = [.dat (tabD tab), .ptr dr, .ptr at_] ∧ 1 ≤ tab.length ∧ tab.length ≤ 1024 ∧ ∃ B : Nat, B ≤ 100 ∧ (∀ e ∈ tab, e.1.natAbs ≤ B ∧ e.2.natAbs ≤ B) ∧ ∀ d, Gd (B + 1) d → k (.v (.dat d))
theorem ok_lbent {f : Addr} {fd : FuncData} (F : Fun K "_law_bent" "_law_bent" s_law_bent f fd) (T : DTxt mg) (c__law_take : Cg P w K mg base CX0 2 "_law_take" (spTake K)) (c__law_one : Cg P w K mg base CX0 3 "_law_one" (spOne K)) : FnG P w K mg base CX0 4 f fd ["table", "draws", "at"] (spD K 3 wLBent) := by
  refine okD F sc_law_bent rfl fun cdv A outer s H E hG hr => ⟨_, (pss_cons (ps_set (i := 3) sc_law_bent.nd rfl (.inl rfl) (pe_cg c__law_take hr (by decide) hG (by rfl) (pa_cons (pv 1) (pa_cons (pv 2) (pa_cons (pe_callB (r := Ln.rLen K) (id := "len") c_len (by rfl) T.z_len (by decide +kernel) (pa_cons (pv 0) pa_nil)) pa_nil)))))
    (pss_cons (ps_asg (pe_ix (r := rIxT K) ix_tup (pv 0) (pv 3) (fun _ _ => rfl)) (pg_tup (by rfl) (pgs_cons (pg_name (i := 4) sc_law_bent.nd rfl (.inl rfl)) (pgs_cons (pg_name (i := 5) sc_law_bent.nd rfl (.inl rfl)) pgs_nil))))
    (pss_cons (ps_set (i := 6) sc_law_bent.nd rfl (.inl rfl) (pe_lst (pa_cons (pe_tup (pa_cons (pe_op op_add (pv 4) pe_int) (pa_cons (pv 5) pa_nil))) (pa_cons (pe_tup (pa_cons (pv 4) (pa_cons (pe_op op_add (pv 5) pe_int) pa_nil))) (pa_cons (pe_tup (pa_cons (pe_op op_sub (pv 4) pe_int) (pa_cons (pv 5) pa_nil))) (pa_cons (pe_tup (pa_cons (pv 4) (pa_cons pe_int pa_nil))) (pa_cons (pe_ix (r := rIxT K) ix_tup (pv 0) (pe_cg c__law_take hr (by decide) hG (by rfl) (pa_cons (pv 1) (pa_cons (pv 2) (pa_cons (pe_callB (r := Ln.rLen K) (id := "len") c_len (by rfl) T.z_len (by decide +kernel) (pa_cons (pv 0) pa_nil)) pa_nil)))) (fun _ _ => rfl)) (pa_cons (pe_tup (pa_cons (pv 4) (pa_cons pe_bl pa_nil))) (pa_cons (pe_tup (pa_cons (pv 4) pa_nil)) (pa_cons pe_non (pa_cons (pe_tup (pa_cons (pv 5) (pa_cons (pv 4) pa_nil))) pa_nil)))))))))))
    (pss_cons (ps_if (pt_cmpR op_gt (pe_cg c__law_take hr (by decide) hG (by rfl) (pa_cons (pv 1) (pa_cons (pv 2) (pa_cons pe_int pa_nil)))) pe_int (nomark _))
    (pss_one (ps_ret (pe_op (r := rCatS K) op_catS (pe_op (r := rCatS K) op_catS (pe_slice (r := Ln.rSlS K) sl_tupS (pv 0) po_none (po_some (pv 3))) (pe_tup (pa_cons (pe_cg c__law_one hr (by decide) hG (by rfl) (pa_cons (pv 6) (pa_cons (pv 1) (pa_cons (pv 2) pa_nil)))) pa_nil))) (pe_slice (r := Ln.rSlS K) sl_tupS (pv 0) (po_some (pe_op op_add (pv 3) pe_int)) po_none))))
    pss_nil)
    (pss_one (ps_ret (pe_cg c__law_one hr (by decide) hG (by rfl) (pa_cons (pe_lst (pa_cons (pe_slice (r := Ln.rSlS K) sl_tupS (pv 0) (po_some pe_int) po_none) (pa_cons (pe_op (r := rCatS K) op_catS (pv 0) (pe_slice (r := Ln.rSlS K) sl_tupS (pv 0) po_none (po_some pe_int))) (pa_cons pe_non (pa_cons (pe_tup (pa_cons (pv 0) pa_nil)) (pa_cons (pe_revT (pv 0)) (pa_cons (pe_ix (r := rIxL K) ix_list (pe_callTy (r := Ln.rListOf K) (T := "list") c_list (by rfl) T.z_list (by decide +kernel) (pa_cons (pv 0) pa_nil)) pe_int (fun _ _ => rfl)) pa_nil))))))) (pa_cons (pv 1) (pa_cons (pv 2) pa_nil)))))))))), fun dr at_ F0 H0 as k ke hl hw => ?_⟩
  obtain ⟨tab, rfl, h1, h2, B, hB, hall, q⟩ := hw
  change Ds _ [_, _, _, _, _, _, _] _ _ _
  walk_at "d"
  rw [List.length_map]
  refine ⟨by omega, fun v v0 v1 => ?_⟩
  obtain ⟨m, rfl⟩ := Int.eq_ofNat_of_zero_le v0
  have hm : m < tab.length := by have : (m : Int) < (tab.length : Int) := v1; omega
  have gE : ∀ e ∈ tab, Gr (B + 1) (entD e) := fun e he => sm_ent (by omega) (by have := hall e he; omega) (by have := hall e he; omega)
  have gT : ∀ x ∈ tab.map entD, Gr (B + 1) x := fun x hx => by
    obtain ⟨e, he, rfl⟩ := List.mem_map.mp hx
    exact gE e he
  have hin : ∀ j, j < tab.length → tab.getD j (0, 0) ∈ tab := fun j hj => List.mem_of_getElem? (get_getD hj)
  walk_at "d"
  refine ⟨_, atI_map rfl (get_getD (z := (0, 0)) hm), ?_⟩
  have he0 := hall _ (hin m hm)
  generalize tab.getD m (0, 0) = e0 at he0
  obtain ⟨full, last⟩ := e0
  walk_at "d"
  rw [List.length_map]
  refine ⟨by omega, fun v' v0' v1' => ?_⟩
  obtain ⟨m', rfl⟩ := Int.eq_ofNat_of_zero_le v0'
  have hm' : m' < tab.length := by have : (m' : Int) < (tab.length : Int) := v1'; omega
  walk_at "d"
  refine ⟨_, atI_map rfl (get_getD (z := (0, 0)) hm'), ?_⟩
  have he1 := hall _ (hin m' hm')
  generalize tab.getD m' (0, 0) = e1 at he1
  walk_at "d"
  intro D hD
  walk_at "d1"
  show Ds _ _ _ _ _
  refine ds_keep 6 (ds := [entD (full + 1, last), entD (full, last + 1), entD (full - 1, last), entD (full, 0), entD e1, .tuple [.int full, .bool true], .tuple [.int full], .none, entD (last, full)]) hD ?_
  have hrows : ∀ d ∈ [entD (full + 1, last), entD (full, last + 1), entD (full - 1, last), entD (full, 0), entD e1, .tuple [.int full, .bool true], .tuple [.int full], .none, entD (last, full)], Gr (B + 1) d := by
    intro d hd
    have he0 : full.natAbs ≤ B ∧ last.natAbs ≤ B := he0
    simp only [List.mem_cons, List.not_mem_nil, or_false] at hd
    have sf : Sm (.int full) 0 41 := Sm.int (by omega)
    rcases hd with rfl | rfl | rfl | rfl | rfl | rfl | rfl | rfl | rfl
    · exact sm_ent (by omega) (by show (full + 1).natAbs ≤ _; omega) (by show last.natAbs ≤ _; omega)
    · exact sm_ent (by omega) (by show full.natAbs ≤ _; omega) (by show (last + 1).natAbs ≤ _; omega)
    · exact sm_ent (by omega) (by show (full - 1).natAbs ≤ _; omega) (by show last.natAbs ≤ _; omega)
    · exact sm_ent (by omega) (by show full.natAbs ≤ _; omega) (by show (0 : Int).natAbs ≤ _; omega)
    · exact sm_ent (by omega) (by omega) (by omega)
    · refine ⟨rfl, Sm.tup (k := 0) (m := 41) (n := 2) (fun d hd => ?_) (by show 2 ≤ 2; decide), fun a b e => by cases e⟩
      simp only [List.mem_cons, List.not_mem_nil, or_false] at hd
      rcases hd with rfl | rfl
      · exact sf
      · exact (Sm.bool true).mono (Nat.le_refl _) (by decide)
    · refine ⟨rfl, (Sm.tup (k := 0) (m := 41) (n := 1) (fun d hd => ?_) (by show 1 ≤ 1; decide)).mono (Nat.le_refl _) (by decide), fun a b e => by cases e⟩
      rw [List.mem_singleton.mp hd]; exact sf
    · exact ⟨rfl, Sm.none.mono (by decide) (by decide), fun a b e => by cases e⟩
    · exact sm_ent (by omega) (by show last.natAbs ≤ _; omega) (by show full.natAbs ≤ _; omega)
  walk_at "d"
  refine ⟨by omega, fun u u0 u1 => ?_⟩
  walk_at "d"
  refine ifP (fun h => ?_) (fun h => ?_)
  · walk_at "d"
    rw [cutD_take (by rw [List.length_map]; omega)]
    refine ⟨by show 0 < 9; decide, fun x hx => ?_⟩
    have gx := hrows x hx
    walk_at "d"
    have ltk : ((tab.map entD).take m).length ≤ 1024 := by rw [List.length_take, List.length_map]; omega
    refine ⟨by rw [sizeLine_eq]; show _ + 1 ≤ _; omega, ?_⟩
    walk_at "d"
    rw [show (m : Int) + 1 = ((m + 1 : Nat) : Int) by omega, cutD_drop (by rw [List.length_map]; omega)]
    have ldr : ((tab.map entD).drop (m + 1)).length ≤ 1024 := by rw [List.length_drop, List.length_map]; omega
    refine ⟨by rw [sizeLine_eq, List.length_append]; show _ + 1 + _ ≤ _; omega, ?_⟩
    walk_at "d"
    refine q _ (Gd.tup (by rw [List.length_append, List.length_append]; show _ + 1 + _ ≤ _; omega) fun y hy => ?_)
    rcases List.mem_append.mp hy with hy | hy
    · rcases List.mem_append.mp hy with hy | hy
      · exact gT y (List.mem_of_mem_take hy)
      · rw [List.mem_singleton.mp hy]; exact gx
    · exact gT y (List.mem_of_mem_drop hy)
  · walk_at "d"
    rw [show (some (1 : Int)) = some ((1 : Nat) : Int) from rfl, cutD_take (by rw [List.length_map]; omega), cutD_drop (by rw [List.length_map]; omega)]
    refine ⟨by rw [sizeLine_eq, List.length_take, List.length_map]; omega, ?_⟩
    walk_at "d"
    refine ⟨tab.map entD, rfl, ?_⟩
    walk_at "d"
    refine ⟨_, atI_map (m := 0) rfl (get_getD (z := (0, 0)) (by omega)), ?_⟩
    walk_at "d"
    refine ⟨by show 0 < 6; decide, fun x hx => ?_⟩
    refine q x ?_
    simp only [List.mem_cons, List.not_mem_nil, or_false] at hx
    rcases hx with rfl | rfl | rfl | rfl | rfl | rfl
    · exact Gd.tup (by rw [List.length_drop, List.length_map]; omega) fun y hy => gT y (List.mem_of_mem_drop hy)
    · refine Gd.tup (by rw [List.length_append, List.length_take, List.length_map]; omega) fun y hy => ?_
      rcases List.mem_append.mp hy with hy | hy
      · exact gT y hy
      · exact gT y (List.mem_of_mem_take hy)
    · exact ⟨rfl, Sm.none.mono (by decide) (by decide), fun ds e => by cases e⟩
    · have st : Sm (tabD tab) 2 (85 * 1024) := Sm.tup (fun d hd => (gT d hd).sm) (by rw [List.length_map]; exact h2)
      refine ⟨by simp only [noLd, noLds]; rw [show noLds (tab.map entD) = true from noLds_ents _]; rfl, (Sm.tup (k := 2) (m := 85 * 1024) (n := 1) (fun d hd => by rw [List.mem_singleton.mp hd]; exact st) (by show 1 ≤ 1; decide)).mono (by decide) (by decide), fun ds e x hx a b e2 => ?_⟩
      cases e
      rw [List.mem_singleton.mp hx] at e2
      injection e2 with e2
      have : PyData.int a ∈ tab.map entD := by rw [e2]; exact List.mem_cons_self
      obtain ⟨_, _, z⟩ := List.mem_map.mp this
      cases z
    · exact Gd.tup (by rw [List.length_reverse, List.length_map]; omega) fun y hy => gT y (List.mem_reverse.mp hy)
    · refine Gd.ofR (gE _ (hin 0 (by omega))) fun ds e x hx es z => ?_
      cases e
      simp only [List.mem_cons, List.not_mem_nil, or_false] at hx
      rcases hx with rfl | rfl <;> cases z
def argD (x : Str) : PyData := .tuple [.str "argument", .str x]
structure ToldTxt (K : PySem.W.Frag) (mg : Str → Option Value) (C CP fI fI' : Addr) : Prop extends ArgErr K mg C fI, PapErr K mg CP fI' where
  e_ArgumentError : PySem.W.exmOne K (.ref C) (.ref C) = some true
  e_PaperError : PySem.W.exmOne K (.ref CP) (.ref CP) = some true
  en_ArgumentError : PySem.W.exmOne K (.ref C) (.ref CP) = some false
def wLTold : Wt := fun as k _ => ∃ (c : Int) (g r s t : PyData), as = [.dat (.int c), .dat g, .dat r, .dat s, .dat t] ∧ noLd g = true ∧ noLd r = true ∧ noLd s = true ∧ noLd t = true ∧ (∀ x, reqG g r s = some x → k (.v (.dat (argD x)))) ∧
  (reqG g r s = none → c = 2 ∧ ∀ gs ro se, g = gsD gs → r = .int ro → s = .int se → GoodG gs ro se → (formB t ((2 ^ gs.length : Nat) : Int) = false → k (.v (.dat (.str "form")))) ∧ ∀ tab : List (Int × Int), t = .tuple (tab.map entD) → tab.length = 2 ^ gs.length → (tab = tbl gs se → k (.v (.dat .none))) ∧ (tab ≠ tbl gs se → k (.v (.dat (.str "entry")))))
theorem ok_ltold {f : Addr} {fd : FuncData} (F : Fun K "_law_told" "_law_told" s_law_told f fd) (T : ToldTxt K mg C CP fI fI') (c_seat_table : Cg P w K mg base (L2.CX P w) 5 "seat_table" (spP K 3 (wSeatTab C))) (c_seated : Cg P w K mg base (L2.CX P w) 5 "seated" (spP K 3 (wSeated C))) (c_accept_seat_table : Cg P w K mg base (L2.CX P w) 5 "accept_seat_table" (spP K 4 (wAccept C CP))) :
    FnG P w K mg base CX0 6 f fd ["call", "groups", "rows", "seats", "table"] (spP K 5 wLTold) := by
  refine okP F sc_law_told rfl fun cdv A outer s H E hG hr => ⟨_, (pss_cons (ps_try_named (Wo := fun _ _ _ _ => False) rfl rfl sc_law_told.nd takes0 (fun W pn xe tk _ => (pss_one (ps_if (pt_cmpR op_eq (pv 0) pe_int (nomark _))
    (pss_one (ps_expr (pe_cgS c_seat_table hr (by decide) hG (fun σ => passAt tk σ) (by rfl) (pa_cons (pv 1) (pa_cons (pv 2) (pa_cons (pv 3) pa_nil))))))
    (pss_one (ps_if (pt_cmpR op_eq (pv 0) pe_int (nomark _))
    (pss_one (ps_expr (pe_cgS c_seated hr (by decide) hG (fun σ => passAt tk σ) (by rfl) (pa_cons (pv 1) (pa_cons (pv 2) (pa_cons (pv 3) pa_nil))))))
    (pss_one (ps_expr (pe_cgS c_accept_seat_table hr (by decide) hG (fun σ => passAt tk σ) (by rfl) (pa_cons (pv 1) (pa_cons (pv 2) (pa_cons (pv 3) (pa_cons (pv 4) pa_nil))))))))))))
    (Clauses.more (i := 5) rfl rfl ⟨rfl, by decide, .inl T.m_PaperError⟩ (fun a oe cls d pn hz hf => (pss_one (ps_ret (pe_xf T.x_PaperError T.n_PaperError_reason hz hf (pv 5)))))
    (Clauses.more (i := 5) rfl rfl ⟨rfl, by decide, .inl T.m_ArgumentError⟩ (fun a oe cls d pn hz hf => (pss_one (ps_ret (pe_tup (pa_cons pe_str (pa_cons (pe_xf T.x_ArgumentError T.n_ArgumentError_reason hz hf (pv 5)) pa_nil))))))
    Clauses.done)))
    (pss_one (ps_ret pe_non))), fun F0 H0 as k ke hl hw => ?_⟩
  obtain ⟨c, g, r, s, t, rfl, ng, nr, ns, nt, qa, q⟩ := hw
  change Ds _ [_, _, _, _, _, _] _ _ _
  refine ds_seq (ds_try_named (ke := fun cls es => (∃ x, cls = C ∧ es = rsn x ∧ k (.v (.dat (argD x)))) ∨ ∃ x, cls = CP ∧ es = rsn x ∧ k (.v (.dat (.str x)))) (tb := fun W => tIfS _ (tDrop (Ln.tCg _ (WE W) _)) (tIfS _ (tDrop (Ln.tCg _ (WE W) _)) (tDrop (Ln.tCg _ (WE W) _)))) ?_ ?_)
  · have hno : c ≠ 2 → ∀ gs ro se, g = gsD gs → r = .int ro → s = .int se → GoodG gs ro se → False := by
      intro hc gs ro se e1 e2 e3 hgood
      subst e1 e2 e3
      exact hc (q (reqG_good hgood)).1
    refine dw_if ?_
    walk_at "d"
    refine ifP (fun h => ?_) (fun h => ?_)
    · refine dw_drop ?_
      walk_at "d"
      exact ⟨g, r, s, rfl, ng, nr, ns, fun gs ro se e1 e2 e3 hgood => (hno (by omega) gs ro se e1 e2 e3 hgood).elim, fun x hx => .inl ⟨x, rfl, rfl, qa x hx⟩⟩
    · refine dw_if ?_
      walk_at "d"
      refine ifP (fun h => ?_) (fun h => ?_)
      · refine dw_drop ?_
        walk_at "d"
        exact ⟨g, r, s, rfl, ng, nr, ns, fun gs ro se e1 e2 e3 hgood => (hno (by omega) gs ro se e1 e2 e3 hgood).elim, fun x hx => .inl ⟨x, rfl, rfl, qa x hx⟩⟩
      · refine dw_drop ?_
        walk_at "d"
        refine ⟨g, r, s, t, rfl, ng, nr, ns, nt, fun x hx => .inl ⟨x, rfl, rfl, qa x hx⟩, fun gs ro se e1 e2 e3 hgood => ?_⟩
        subst e1 e2 e3
        obtain ⟨_, q⟩ := q (reqG_good hgood)
        obtain ⟨q1, q2⟩ := q gs ro se rfl rfl rfl hgood
        refine ⟨fun hf => .inr ⟨_, rfl, rfl, q1 hf⟩, fun tab e1 e2 => ⟨fun h => ?_, fun h => .inr ⟨_, rfl, rfl, (q2 tab e1 e2).2 h⟩⟩⟩
        walk_at "d"
        exact (q2 tab e1 e2).1 h
  · rintro cls es (⟨x, rfl, rfl, hk⟩ | ⟨x, rfl, rfl, hk⟩)
    · refine .no T.en_ArgumentError (.hit T.e_ArgumentError fun a d => ?_)
      change Ds _ [_, _, _, _, _, _] _ _ _
      walk_at "d"
      refine ⟨_, rfl, ?_⟩
      walk_at "d"
      exact hk
    · refine .hit T.e_PaperError fun a d => ?_
      change Ds _ [_, _, _, _, _, _] _ _ _
      walk_at "d"
      exact ⟨_, rfl, hk⟩
end
end Mine
set_option Elab.async false
set_option linter.all false
set_option maxRecDepth 100000
set_option maxHeartbeats 8000000
namespace Mine
open PySem PySem.Spec PyProof.Rows L2 Ln Dl PySem.W
abbrev s_law : Stmt := topS 43
abbrev N_law : List Str := ["script", "draws", "at", "seats", "groups", "table", "need", "rows", "best", "digits", "told", "turn", "bent", "due", "many", "k", "wrong", "odd", "bad", "call"]
theorem sc_law : FnScope N_law ["script"] (defScope s_law) := ⟨rfl, rfl, rfl, by decide +kernel, rfl, by decide +kernel, by decide +kernel⟩
-- slots: 0 script, 1 draws, 2 at, 3 seats, 4 groups, 5 table*, 6 need, 7 rows*, 8 best, 9 digits, 10 told, 11 turn, 12 bent, 13 due, 14 many, 15 k, 16 wrong, 17 odd, 18 bad, 19 call
theorem reach {gs : List (Str × Int)} {se : Int} (hz : ∀ g ∈ gs, 1 ≤ g.2 ∧ g.2 ≤ se) : ∀ n : Nat, n < 2 ^ gs.length → ∃ ps rows last, Fill gs se ps rows last ∧ ps.Perm (bitsOf n) ∧ runF gs se ps (0, 0) = tb gs se n := by
  intro n
  induction n using Nat.strongRecOn with
  | _ n ih =>
    intro hn
    by_cases h0 : n = 0
    · subst h0
      exact ⟨[], [], 0, ⟨rfl, ⟨by simp, by simp⟩, .inl ⟨rfl, rfl, rfl⟩⟩, by rw [bitsOf_zero], by rw [tb_zero]; rfl⟩
    · obtain ⟨p, hb, he⟩ := tb_hit gs se (by omega : 0 < n)
      have hle := bit_le hb
      have hpos := Nat.two_pow_pos p
      obtain ⟨ps, rows, last, hf, hp, hr⟩ := ih (n - 2 ^ p) (by omega) (by omega)
      obtain ⟨h1, h2⟩ := hz _ (List.mem_of_getElem? (nm_get (testBit_lt hn hb)))
      have h1 : 1 ≤ sz gs p := h1
      have h2 : sz gs p ≤ se := h2
      have hperm : (ps ++ [p]).Perm (bitsOf n) := by
        refine List.Perm.trans ?_ (bitsOf_sub hb)
        exact (List.perm_append_singleton p ps).trans (List.Perm.cons p hp)
      have hrun : runF gs se (ps ++ [p]) (0, 0) = tb gs se n := by rw [runF_snoc, hr, he]
      by_cases c : rows = [] ∨ se < last + sz gs p
      · exact ⟨_, _, _, hf.new h1 h2 c, hperm, hrun⟩
      · obtain ⟨c1, c2⟩ := not_or.mp c
        obtain ⟨init, r, rfl⟩ : ∃ init x, rows = init ++ [x] := ⟨rows.dropLast, rows.getLast c1, (List.dropLast_concat_getLast c1).symm⟩
        exact ⟨_, _, _, hf.add h1 (by omega), hperm, hrun⟩
theorem tb_small {gs : List (Str × Int)} {se : Int} (hz : ∀ g ∈ gs, 1 ≤ g.2 ∧ g.2 ≤ se) (hs : 1 ≤ se ∧ se ≤ 12) (hg : gs.length ≤ 10) {n : Nat} (hn : n < 2 ^ gs.length) : (tb gs se n).1.natAbs ≤ 12 ∧ (tb gs se n).2.natAbs ≤ 12 ∧ 0 ≤ usedF (tb gs se n) ∧ usedF (tb gs se n) ≤ 10 := by
  obtain ⟨ps, rows, last, hf, hp, hr⟩ := reach hz n hn
  have hu := hf.used
  have hl : rows.length ≤ 10 := by
    have h1 := len_flatten hf.ok.ne
    rw [hf.fl] at h1
    have := hp.length_eq
    have := bitsOf_len hn
    omega
  rw [← hr]
  refine ⟨?_, ?_, by omega, by omega⟩
  · rcases hf.st with ⟨e1, e2, e3⟩ | ⟨init, r, e1, e2, e3, e4⟩
    · rw [e3]; decide
    · rw [e4]
      rw [e1, List.length_append] at hl
      show ((init.length : Int)).natAbs ≤ 12
      rw [Int.natAbs_natCast]
      omega
  · rcases hf.st with ⟨e1, e2, e3⟩ | ⟨init, r, e1, e2, e3, e4⟩
    · rw [e3]; decide
    · rw [e4]
      have h1 := hf.ok.le r (by rw [e1]; exact List.mem_append_right _ List.mem_cons_self)
      rw [e2] at h1
      show last.natAbs ≤ 12
      omega
theorem gnm_nodup : ((List.range 10).map gnm).Nodup := by decide +kernel
theorem gnm_ok : ∀ k, k < 10 → PyData.strOk (gnm k) = true := by decide +kernel
theorem LGs.good {most se : Int} {gs : List (Str × Int)} (h : LGs most se gs) (hm : most ≤ 10) (hs : 1 ≤ se ∧ se ≤ 12) {ro : Int} (hr : 0 ≤ ro ∧ ro ≤ 99) : GoodG gs ro se := by
  have hl : gs.length ≤ 10 := by have := h.l; omega
  refine ⟨hr, hs, hl, h.z, ?_⟩
  rw [h.n]
  refine gnm_nodup.sublist (List.Sublist.map _ ?_)
  rw [show List.range gs.length = (List.range 10).take gs.length by rw [List.take_range, Nat.min_eq_left hl]]
  exact List.take_sublist _ _
theorem LGs.ok {most se : Int} {gs : List (Str × Int)} (h : LGs most se gs) (hm : most ≤ 10) : ∀ g ∈ gs, PyData.strOk g.1 = true := by
  intro g hg
  have hl : gs.length ≤ 10 := by have := h.l; omega
  have : g.1 ∈ gs.map Prod.fst := List.mem_map_of_mem hg
  rw [h.n] at this
  obtain ⟨k, hk, e⟩ := List.mem_map.mp this
  rw [← e]
  exact gnm_ok k (by have := List.mem_range.mp hk; omega)
theorem contL {P X : PyData → Prop} {G : Prop} (h1 : (∀ d, P d → X d) → G) (h2 : ∀ d, P d → X d) : G := h1 h2
theorem Gd.small {B : Nat} {tab : List (Int × Int)} (h : Gd B (tabD tab)) : ∀ e ∈ tab, e.1.natAbs ≤ B ∧ e.2.natAbs ≤ B := fun e he => h.bd _ rfl (entD e) (List.mem_map_of_mem he) e.1 e.2 rfl
theorem Gd.up {B : Nat} {d : PyData} (h : Gd B d) : Gd (B + 1) d := ⟨h.nl, h.sm, fun ds e x hx a b e2 => by have := h.bd ds e x hx a b e2; omega⟩
theorem ents_inj : ∀ {l m : List (Int × Int)}, tabD l = tabD m → l = m := by
  intro l m h
  injection h with h
  induction l generalizing m with
  | nil => cases m with
    | nil => rfl
    | cons _ _ => cases h
  | cons x xs ih => cases m with
    | nil => cases h
    | cons y ys =>
      rw [List.map_cons, List.map_cons] at h
      injection h with h1 h2
      injection h1 with h1
      injection h1 with h3 h4
      injection h3 with h3
      injection h4 with h4 _
      injection h4 with h4
      rw [ih h2, show x = y from Prod.ext h3 h4]
theorem tabs_inj {l m : List (Int × Int)} (e : l.length = m.length) (h : (tabD l).shown = (tabD m).shown) : l = m := by
  have g : ∀ l : List (Int × Int), tabD l = .tuple ((l.map fun e => [some e.1, some e.2]).map Vol.rowD) := fun l => by rw [List.map_map]; rfl
  rw [g, g] at h
  have h2 := Vol.table_inj (n := 2) (by rw [List.length_map, List.length_map, e]) (fun r hr => by obtain ⟨x, _, rfl⟩ := List.mem_map.mp hr; rfl) (fun r hr => by obtain ⟨x, _, rfl⟩ := List.mem_map.mp hr; rfl) h
  exact ents_inj (by rw [g, g, h2])
theorem strS (x : Str) (h : PyData.strOk x = true) : SeqAt.shaped (.str x) = true := (Shp.str (n := 0) h).shaped (by decide)
structure LawTop (mg : Str → Option Value) : Prop extends DTxt mg
def spLaw (K : PySem.W.Frag) : Sp := fun vs H Q _ => ∃ (a : Addr) (ns : List Int), vs = [.ref a] ∧ SqL K H a (ns.map V.int) ∧ ns.length ≤ 63 ∧ ∀ H', Q (.bl true) H'
section
variable {P : Program} {w : World} {K : PySem.W.Frag} {mg : Str → Option Value} {base : Heap} {C CP fI fI' : Addr}
theorem ok_law {f : Addr} {fd : FuncData} (F : Fun K "law" "law" s_law f fd) (T : LawTop mg) (c__law_draws : Cg P w K mg base CX0 1 "_law_draws" (spDraws K)) (c__law_take : Cg P w K mg base CX0 2 "_law_take" (spTake K)) (c__law_one : Cg P w K mg base CX0 3 "_law_one" (spOne K))
    (c__law_groups : Cg P w K mg base CX0 3 "_law_groups" (spD K 4 wLGroups)) (c__law_table : Cg P w K mg base CX0 1 "_law_table" (spP K 2 wLTable)) (c__law_needs : Cg P w K mg base CX0 1 "_law_needs" (spP K 1 wLNeeds)) (c__law_ones : Cg P w K mg base CX0 1 "_law_ones" (spP K 1 wLOnes))
    (c_seated : Cg P w K mg base CX0 5 "seated" (Ln.calm (spP K 3 (wSeated C)))) (c_seat_table : Cg P w K mg base CX0 5 "seat_table" (Ln.calm (spP K 3 (wSeatTab C)))) (c__law_plan_right : Cg P w K mg base CX0 1 "_law_plan_right" (spP K 5 wLPlan)) (c__law_bent : Cg P w K mg base CX0 4 "_law_bent" (spD K 3 wLBent))
    (c__law_has_form : Cg P w K mg base CX0 1 "_law_has_form" (spP K 2 wLForm)) (c__law_told : Cg P w K mg base CX0 6 "_law_told" (spP K 5 wLTold)) : FnG P w K mg base CX0 7 f fd ["script"] (spLaw K) := by
  refine okG F sc_law (fun vs H Q E h => ?_) (fun cdv A outer s H vs Q E hG hr h => ?_)
  · obtain ⟨a, ns, rfl, _⟩ := h
    rfl
  · obtain ⟨a, ns, rfl, hS, hlen, q⟩ := h
    refine ⟨_, (pss_cons (ps_set (i := 1) sc_law.nd rfl (.inl rfl) (pe_cg c__law_draws hr (by decide) hG (by rfl) (pa_cons (pv 0) pa_nil)))
    (pss_cons (ps_set (i := 2) sc_law.nd rfl (.inl rfl) (pe_lst (pa_cons pe_int pa_nil)))
    (pss_cons (ps_set (i := 3) sc_law.nd rfl (.inl rfl) (pe_op op_add pe_int (pe_cg c__law_take hr (by decide) hG (by rfl) (pa_cons (pv 1) (pa_cons (pv 2) (pa_cons pe_int pa_nil))))))
    (pss_cons (ps_set (i := 4) sc_law.nd rfl (.inl rfl) (pe_cg c__law_groups hr (by decide) hG (by rfl) (pa_cons (pe_ix (r := rIxL K) ix_list (pe_lst (pa_cons pe_int (pa_cons pe_int (pa_cons pe_int (pa_cons pe_int pa_nil))))) (pe_cg c__law_take hr (by decide) hG (by rfl) (pa_cons (pv 1) (pa_cons (pv 2) (pa_cons pe_int pa_nil)))) (fun _ _ => rfl)) (pa_cons (pv 3) (pa_cons (pv 1) (pa_cons (pv 2) pa_nil))))))
    (pss_cons (ps_set (i := 5) sc_law.nd rfl (.inr rfl) (pe_cg c__law_table hr (by decide) hG (by rfl) (pa_cons (pv 4) (pa_cons (pv 3) pa_nil))))
    (pss_cons (ps_set (i := 6) sc_law.nd rfl (.inl rfl) (pe_cg c__law_needs hr (by decide) hG (by rfl) (pa_cons (pe_ix (r := rIxT K) ix_tup (pv 5) (pe_op op_sub (pe_callB (r := Ln.rLen K) (id := "len") c_len (by rfl) T.z_len (by decide +kernel) (pa_cons (pv 5) pa_nil)) pe_int) (fun _ _ => rfl)) pa_nil)))
    (pss_cons (ps_for PassesOwn.never rfl (pi_list (pe_lst (pa_cons pe_int (pa_cons (pv 6) (pa_cons (pe_callB (id := "max") (call_max2 rfl) (by rfl) T.z_max (by decide +kernel) (pa_cons pe_int (pa_cons (pe_op op_sub (pv 6) pe_int) pa_nil))) (pa_cons (pe_cg c__law_take hr (by decide) hG (by rfl) (pa_cons (pv 1) (pa_cons (pv 2) (pa_cons pe_int pa_nil)))) (pa_cons pe_int pa_nil))))))) (pg_name (i := 7) sc_law.nd rfl (.inr rfl))
    (pss_cons (ps_set (i := 8) sc_law.nd rfl (.inl rfl) (pe_callB (r := Dl.rMaxG K) (id := "max") (Dl.cr_maxG rfl (Dl.u8 hr)) (by rfl) T.z_max (by decide +kernel) (pa_cons (pe_lc (own := [("digits", 9)]) rfl sc_law.nd (pi_range1 (by rfl) T.z_range (pa_cons (pe_callB (r := Ln.rLen K) (id := "len") c_len (by rfl) T.z_len (by decide +kernel) (pa_cons (pv 5) pa_nil)) pa_nil)) (blkOk_by (own := [("digits", 9)]) (N := N_law) (sc := defScope s_law) (by decide +kernel)) (fun _ _ _ _ _ => (pg_name (i := 9) sc_law.nd rfl (.inl rfl))) (fun _ _ _ _ _ => (pts_one (pt_cmpR op_le (pe_cg c__law_needs hr (by decide) hG (by rfl) (pa_cons (pe_ix (r := rIxT K) ix_tup (pv 5) (pv 9) (fun _ _ => rfl)) pa_nil)) (pv 7) (nomark _)))) (fun _ _ _ _ _ => (pe_cg c__law_ones hr (by decide) hG (by rfl) (pa_cons (pv 9) pa_nil)))) pa_nil)))
    (pss_cons (ps_set (i := 10) sc_law.nd rfl (.inl rfl) (pe_cg c_seated hr (by decide) hG (by rfl) (pa_cons (pv 4) (pa_cons (pv 7) (pa_cons (pv 3) pa_nil)))))
    (pss_cons (ps_if (PW.pt (pw_or (pt_not (pt_val (pe_callB (r := rIsi K) (id := "isinstance") call_isi (by rfl) T.z_isinstance (by decide +kernel) (pa_cons (pv 10) (pa_cons (pe_bltn (v := .ty "tuple") (u := .type "tuple") (by rfl) T.z_tuple (by decide +kernel) rfl) pa_nil))))) (pw_or (pt_cmpR op_ne (pe_callB (r := Ln.rLen K) (id := "len") c_len (by rfl) T.z_len (by decide +kernel) (pa_cons (pv 10) pa_nil)) pe_int (nomark _)) (pw_or1 (pt_cmpR op_ne (pe_callB (r := Ln.rReprD K) (id := "repr") (c_repr hG hr.units) (by rfl) T.z_repr (by decide +kernel) (pa_cons (pe_ix (r := rIxT K) ix_tup (pv 10) pe_int (fun _ _ => rfl)) pa_nil)) (pe_callB (r := Ln.rReprD K) (id := "repr") (c_repr hG hr.units) (by rfl) T.z_repr (by decide +kernel) (pa_cons (pv 8) pa_nil)) (nomark _))))))
    (pss_one (ps_ret pe_bl))
    pss_nil)
    (pss_one (ps_if (pt_not (pt_val (pe_cg c__law_plan_right hr (by decide) hG (by rfl) (pa_cons (pv 4) (pa_cons (pv 7) (pa_cons (pv 3) (pa_cons (pv 8) (pa_cons (pe_ix (r := rIxT K) ix_tup (pv 10) pe_int (fun _ _ => rfl)) pa_nil))))))))
    (pss_one (ps_ret pe_bl))
    pss_nil))))))
    (pss_cons (ps_if (pt_cmpR op_ne (pe_callB (r := Ln.rReprD K) (id := "repr") (c_repr hG hr.units) (by rfl) T.z_repr (by decide +kernel) (pa_cons (pe_cg c_seat_table hr (by decide) hG (by rfl) (pa_cons (pv 4) (pa_cons (pv 6) (pa_cons (pv 3) pa_nil)))) pa_nil)) (pe_callB (r := Ln.rReprD K) (id := "repr") (c_repr hG hr.units) (by rfl) T.z_repr (by decide +kernel) (pa_cons (pv 5) pa_nil)) (nomark _))
    (pss_one (ps_ret pe_bl))
    pss_nil)
    (pss_cons (ps_for PassesOwn.never rfl (pi_range1 (by rfl) T.z_range (pa_cons pe_int pa_nil)) (pg_name (i := 11) sc_law.nd rfl (.inl rfl))
    (pss_cons (ps_set (i := 12) sc_law.nd rfl (.inl rfl) (pv 5))
    (pss_cons (ps_if (pt_cmpR op_gt (pv 11) pe_int (nomark _))
    (pss_one (ps_set (i := 12) sc_law.nd rfl (.inl rfl) (pe_cg c__law_bent hr (by decide) hG (by rfl) (pa_cons (pv 12) (pa_cons (pv 1) (pa_cons (pv 2) pa_nil))))))
    pss_nil)
    (pss_cons (ps_if (PW.pt (pw_and (pt_cmpR op_gt (pv 11) pe_int (nomark _)) (pw_and1 (pt_val (pe_cg c__law_has_form hr (by decide) hG (by rfl) (pa_cons (pv 12) (pa_cons (pe_callB (r := Ln.rLen K) (id := "len") c_len (by rfl) T.z_len (by decide +kernel) (pa_cons (pv 5) pa_nil)) pa_nil)))))))
    (pss_one (ps_set (i := 12) sc_law.nd rfl (.inl rfl) (pe_cg c__law_bent hr (by decide) hG (by rfl) (pa_cons (pv 12) (pa_cons (pv 1) (pa_cons (pv 2) pa_nil))))))
    pss_nil)
    (pss_cons (ps_set (i := 13) sc_law.nd rfl (.inl rfl) pe_str)
    (pss_cons (ps_if (pt_val (pe_cg c__law_has_form hr (by decide) hG (by rfl) (pa_cons (pv 12) (pa_cons (pe_callB (r := Ln.rLen K) (id := "len") c_len (by rfl) T.z_len (by decide +kernel) (pa_cons (pv 5) pa_nil)) pa_nil))))
    (pss_one (ps_set (i := 13) sc_law.nd rfl (.inl rfl) (pe_ifExp (pt_cmpR op_eq (pe_callB (r := Ln.rReprD K) (id := "repr") (c_repr hG hr.units) (by rfl) T.z_repr (by decide +kernel) (pa_cons (pv 12) pa_nil)) (pe_callB (r := Ln.rReprD K) (id := "repr") (c_repr hG hr.units) (by rfl) T.z_repr (by decide +kernel) (pa_cons (pv 5) pa_nil)) (nomark _)) pe_non pe_str)))
    pss_nil)
    (pss_one (ps_if (pt_cmpR (r := rNeD K) (op_neD hr.units) (pe_cg c__law_told hr (by decide) hG (by rfl) (pa_cons pe_int (pa_cons (pv 4) (pa_cons (pv 6) (pa_cons (pv 3) (pa_cons (pv 12) pa_nil)))))) (pv 13) (nomark _))
    (pss_one (ps_ret pe_bl))
    pss_nil))))))))
    (pss_cons (ps_set (i := 14) sc_law.nd rfl (.inl rfl) (pe_callTy (r := Ln.rTupOf K) (T := "tuple") c_tuple (by rfl) T.z_tuple (by decide +kernel) (pa_cons (pe_lc (own := [("k", 15)]) rfl sc_law.nd (pi_range1 (by rfl) T.z_range (pa_cons pe_int pa_nil)) (blkOk_by (own := [("k", 15)]) (N := N_law) (sc := defScope s_law) (by decide +kernel)) (fun _ _ _ _ _ => (pg_name (i := 15) sc_law.nd rfl (.inl rfl))) (fun _ _ _ _ _ => pts_nil) (fun _ _ _ _ _ => (pe_tup (pa_cons (pe_op op_add_str pe_str (pe_callTy (T := "str") call_str_int (by rfl) T.z_str (by decide +kernel) (pa_cons (pv 15) pa_nil))) (pa_cons pe_int pa_nil))))) pa_nil)))
    (pss_cons (ps_set (i := 16) sc_law.nd rfl (.inl rfl) (pe_cg c__law_one hr (by decide) hG (by rfl) (pa_cons (pe_lst (pa_cons pe_non (pa_cons pe_int (pa_cons (pe_tup (pa_cons (pe_tup (pa_cons pe_str pa_nil)) pa_nil)) (pa_cons (pe_tup (pa_cons (pe_tup (pa_cons pe_str (pa_cons pe_int pa_nil))) pa_nil)) (pa_cons (pe_tup (pa_cons (pe_tup (pa_cons pe_str (pa_cons pe_int pa_nil))) pa_nil)) (pa_cons (pe_tup (pa_cons (pe_tup (pa_cons pe_str (pa_cons pe_bl pa_nil))) pa_nil)) (pa_cons (pe_tup (pa_cons (pe_tup (pa_cons pe_int (pa_cons pe_int pa_nil))) pa_nil)) (pa_cons (pe_tup (pa_cons (pe_tup (pa_cons pe_str (pa_cons pe_int pa_nil))) (pa_cons (pe_tup (pa_cons pe_str (pa_cons pe_int pa_nil))) (pa_cons (pe_tup (pa_cons pe_str (pa_cons pe_int pa_nil))) pa_nil)))) (pa_cons (pv 14) (pa_cons (pe_tup (pa_cons pe_non pa_nil)) (pa_cons (pe_tup (pa_cons (pe_tup (pa_cons pe_str (pa_cons pe_int (pa_cons pe_int pa_nil)))) pa_nil)) pa_nil)))))))))))) (pa_cons (pv 1) (pa_cons (pv 2) pa_nil)))))
    (pss_cons (ps_set (i := 17) sc_law.nd rfl (.inl rfl) (pe_cg c__law_one hr (by decide) hG (by rfl) (pa_cons (pe_lst (pa_cons pe_non (pa_cons pe_int (pa_cons pe_int (pa_cons pe_bl (pa_cons pe_str pa_nil)))))) (pa_cons (pv 1) (pa_cons (pv 2) pa_nil)))))
    (pss_cons (ps_set (i := 18) sc_law.nd rfl (.inl rfl) (pe_cg c__law_one hr (by decide) hG (by rfl) (pa_cons (pe_lst (pa_cons pe_non (pa_cons (pe_un un_neg pe_int) (pa_cons pe_int (pa_cons pe_bl (pa_cons pe_str pa_nil)))))) (pa_cons (pv 1) (pa_cons (pv 2) pa_nil)))))
    (pss_cons (ps_for PassesOwn.never rfl (pi_range1 (by rfl) T.z_range (pa_cons pe_int pa_nil)) (pg_name (i := 19) sc_law.nd rfl (.inl rfl))
    (pss_cons (ps_if (PW.pt (pw_or (pt_cmpR (r := rNeD K) (op_neD hr.units) (pe_cg c__law_told hr (by decide) hG (by rfl) (pa_cons (pv 19) (pa_cons (pv 16) (pa_cons (pv 18) (pa_cons (pv 17) (pa_cons pe_non pa_nil)))))) (pe_tup (pa_cons pe_str (pa_cons pe_str pa_nil))) (nomark _)) (pw_or1 (pt_cmpR (r := rNeD K) (op_neD hr.units) (pe_cg c__law_told hr (by decide) hG (by rfl) (pa_cons (pv 19) (pa_cons (pv 16) (pa_cons pe_int (pa_cons (pv 17) (pa_cons pe_non pa_nil)))))) (pe_tup (pa_cons pe_str (pa_cons pe_str pa_nil))) (nomark _)))))
    (pss_one (ps_ret pe_bl))
    pss_nil)
    (pss_one (ps_if (pt_cmpR (r := rNeD K) (op_neD hr.units) (pe_cg c__law_told hr (by decide) hG (by rfl) (pa_cons (pv 19) (pa_cons (pv 16) (pa_cons pe_int (pa_cons pe_int (pa_cons pe_non pa_nil)))))) (pe_tup (pa_cons pe_str (pa_cons pe_str pa_nil))) (nomark _))
    (pss_one (ps_ret pe_bl))
    pss_nil))))
    (pss_one (ps_ret pe_bl)))))))))))))))), ?_⟩
    refine law_start (m := 17) (E := { nx := fun _ _ => False, rt := fun r => r = .v (.dat (.bool true)) }) rfl hS hlen (fun dr at_ F0 H0 => ?_) (fun v H' e => ?_) (fun r e => ⟨true, e⟩) (fun _ _ z => z) (fun _ _ z => z) (fun _ _ z => z)
    · change Ds _ [_, _, _, _, _, _, _, _, _, _, _, _, _, _, _, _, _, _, _, _] _ _ _
      walk_at "d"
      refine ⟨by decide, fun v v0 v1 => ?_⟩
      walk_at "d"
      refine ⟨by decide, fun u u0 u1 => ?_⟩
      walk_at "d"
      obtain ⟨most, hmo, hm0, hm1⟩ : ∃ most : Int, atI [PyData.int 3, PyData.int 6, PyData.int 6, PyData.int 10] u = some (.int most) ∧ 0 ≤ most ∧ most ≤ 10 := by
        have : u = 0 ∨ u = 1 ∨ u = 2 ∨ u = 3 := by omega
        rcases this with rfl | rfl | rfl | rfl
        · exact ⟨3, rfl, by decide, by decide⟩
        · exact ⟨6, rfl, by decide, by decide⟩
        · exact ⟨6, rfl, by decide, by decide⟩
        · exact ⟨10, rfl, by decide, by decide⟩
      obtain ⟨se, hse⟩ : ∃ se, se = 1 + v := ⟨_, rfl⟩
      rw [← hse]
      have hs : 1 ≤ se ∧ se ≤ 12 := ⟨by omega, by omega⟩
      refine ⟨_, hmo, ?_⟩
      walk_at "d"
      refine ⟨most, se, rfl, hm0, hm1, hs.1, hs.2, fun gs hgs => ?_⟩
      have hgood : ∀ ro : Int, 0 ≤ ro ∧ ro ≤ 99 → GoodG gs ro se := fun ro hr => hgs.good hm1 hs hr
      have hstr := hgs.ok hm1
      have hg : gs.length ≤ 10 := by have := hgs.l; omega
      have hz := hgs.z
      have hnd := (hgood 0 (by omega)).n
      have hb : 2 ^ gs.length ≤ 2 ^ 10 := Nat.pow_le_pow_right (by decide) hg
      have hpos := Nat.two_pow_pos gs.length
      clear hgs hmo
      walk_at "d"
      refine ⟨gs, se, rfl, hg, ?_⟩
      walk_at "d"
      rw [List.length_map, tabL_len]
      refine ⟨entD (tb gs se (2 ^ gs.length - 1)), atI_map (m := 2 ^ gs.length - 1) (by omega) (tabL_get gs se _ _ (by omega)), ?_⟩
      obtain ⟨_, _, hu0, hu1⟩ := tb_small hz hs hg (n := 2 ^ gs.length - 1) (by omega)
      walk_at "d"
      refine ⟨_, rfl, ?_⟩
      generalize usedF (tb gs se (2 ^ gs.length - 1)) = need at hu0 hu1
      walk_at "d"
      refine ds_for ?_
      walk_at "d"
      refine ⟨by decide, fun w w0 w1 => ?_⟩
      walk_at "d"
      refine ⟨fun i G' O' => ∃ z7 z8 z9 z10 z11 z12 z13 z14 z15 z16 z17 z18 z19, G' = [.any, .ptr dr, .ptr at_, .dat (.int se), .dat (gsD gs), .dat (tabD (tbl gs se)), .dat (.int need), z7, z8, z9, z10, z11, z12, z13, z14, z15, z16, z17, z18, z19] ∧ O' = [], ⟨_, _, _, _, _, _, _, _, _, _, _, _, _, rfl, rfl⟩, ?_, ?_⟩
      · rintro i d G' O' hd ⟨z7, z8, z9, z10, z11, z12, z13, z14, z15, z16, z17, z18, z19, rfl, rfl⟩
        obtain ⟨ro, rfl, hr⟩ : ∃ ro : Int, d = .int ro ∧ 0 ≤ ro ∧ ro ≤ 99 := by
          have := List.mem_of_getElem? hd
          simp only [List.mem_cons, List.not_mem_nil, or_false] at this
          rcases this with rfl | rfl | rfl | rfl | rfl
          · exact ⟨_, rfl, by decide, by decide⟩
          · exact ⟨_, rfl, by omega, by omega⟩
          · refine ⟨_, rfl, ?_⟩
            split <;> omega
          · exact ⟨_, rfl, by omega, by omega⟩
          · exact ⟨_, rfl, by decide, by decide⟩
        clear hd
        have hG := hgood ro hr
        have htl : (tbl gs se).length = 2 ^ gs.length := tabL_len gs se _
        walk_at "d"
        refine dl_filt ?_
        walk_at "d"
        rw [List.length_map, htl]
        refine ⟨⟨by omega, by omega⟩, by rw [List.length_map, List.length_range, sizeLine_eq]; omega, Nat, List.range (2 ^ gs.length), _, fun n => decide (usedF (tb gs se n) ≤ ro), fun n => .dat (.int (((bitsOf n).length : Nat) : Int)), by rw [Int.toNat_natCast], fun i x hx => ?_, (((List.range (2 ^ gs.length)).filter fun n => decide (usedF (tb gs se n) ≤ ro)).map fun n => (((bitsOf n).length : Nat) : Int)).map .int, by rw [List.map_map, List.map_map]; rfl, ?_⟩
        · have hx := List.mem_range.mp (List.mem_of_getElem? hx)
          walk_at "d"
          refine ⟨_, atI_map rfl (tabL_get gs se _ x hx), ?_⟩
          walk_at "d"
          refine ⟨_, rfl, ?_⟩
          walk_at "d"
          intro _
          walk_at "d"
          refine ⟨x, rfl, ?_⟩
          walk_at "d"
          rfl
        walk_at "d"
        refine maxK_int (fun e => ?_) fun M hM hge => ?_
        · have : (0 : Nat) ∈ (List.range (2 ^ gs.length)).filter fun n => decide (usedF (tb gs se n) ≤ ro) := by
            refine List.mem_filter.mpr ⟨List.mem_range.mpr hpos, decide_eq_true ?_⟩
            rw [tb_zero]; exact hr.1
          rw [List.map_eq_nil_iff] at e
          rw [e] at this
          cases this
        obtain ⟨n0, hn0, rfl⟩ := List.mem_map.mp hM
        obtain ⟨hn0a, hn0b⟩ := List.mem_filter.mp hn0
        have hn0a := List.mem_range.mp hn0a
        have hn0b := of_decide_eq_true hn0b
        walk_at "d"
        refine ⟨_, _, _, rfl, by rw [noLd_tup]; exact noLds_of (fun d hd => by obtain ⟨e, _, rfl⟩ := List.mem_map.mp hd; rfl), rfl, rfl, fun gs' ro' se' e1 e2 e3 _ => ?_, fun x hx => by rw [reqG_good hG] at hx; cases hx⟩
        have e1 : gs = gs' := by
          have := congrArg grpsOf e1
          rwa [grpsOf_gsD, grpsOf_gsD] at this
        injection e2 with e2
        injection e3 with e3
        subst e1 e2 e3
        refine ⟨hstr, fun n rows hn hu hmax hp hl hok => ?_⟩
        have eM : (bitsOf n0).length = (bitsOf n).length := by
          have h1 := hmax n0 hn0a hn0b
          have h2 := hge (((bitsOf n).length : Nat) : Int) (List.mem_map.mpr ⟨n, List.mem_filter.mpr ⟨List.mem_range.mpr hn, decide_eq_true hu⟩, rfl⟩)
          omega
        rw [eM]
        have hbl := bitsOf_len hn
        have shw : Shw (.int ((bitsOf n).length : Int)) := (Sm.int (by rw [Int.natAbs_natCast]; omega)).shw (by decide) (by decide)
        walk_at "d"
        refine ifF rfl ?_
        walk_at "d"
        refine ⟨_, rfl, ?_⟩
        walk_at "d"
        refine ⟨shw, ?_⟩
        walk_at "d"
        refine ⟨shw, ?_⟩
        walk_at "d"
        refine ifF (by rw [decide_eq_true rfl]; rfl) ?_
        walk_at "d"
        refine ⟨_, rfl, ?_⟩
        walk_at "d"
        refine ⟨gs, ro, se, n, rows, rfl, hn, hg, hnd, hstr, by omega, hp, hok, ?_⟩
        walk_at "d"
        exact ⟨_, _, _, _, _, _, _, _, _, _, _, _, _, rfl, rfl⟩
      · rintro G' O' ⟨z7, z8, z9, z10, z11, z12, z13, z14, z15, z16, z17, z18, z19, rfl, rfl⟩
        have htl : (tbl gs se).length = 2 ^ gs.length := tabL_len gs se _
        have hts : ∀ e ∈ tbl gs se, e.1.natAbs ≤ 12 ∧ e.2.natAbs ≤ 12 := by
          intro e he
          obtain ⟨j, hj, e2⟩ := List.mem_iff_getElem.mp he
          have hj2 : j < 2 ^ gs.length := by rw [← htl]; exact hj
          have := tabL_get gs se _ j hj2
          rw [List.getElem?_eq_getElem hj, e2] at this
          cases this
          obtain ⟨h1, h2, _⟩ := tb_small hz hs hg hj2
          exact ⟨h1, h2⟩
        have hG := hgood need (by omega)
        have sents : ∀ (B : Nat) (tab : List (Int × Int)), B ≤ 200 → tab.length ≤ 1024 → (∀ e ∈ tab, e.1.natAbs ≤ B ∧ e.2.natAbs ≤ B) → Sm (tabD tab) 2 (85 * 1024) := fun B tab hB hl hall => Sm.tup (fun d hd => by
          obtain ⟨e, he, rfl⟩ := List.mem_map.mp hd
          exact (sm_ent (B := B) (by omega) (hall e he).1 (hall e he).2).sm) (by rw [List.length_map]; exact hl)
        have shwT : Shw (tabD (tbl gs se)) := (sents 12 _ (by decide) (by rw [htl]; omega) hts).shw (by decide) (by decide)
        have nlG : noLd (gsD gs) = true := by rw [noLd_tup]; exact noLds_of (fun d hd => by obtain ⟨e, _, rfl⟩ := List.mem_map.mp hd; rfl)
        have gsI : ∀ gs', gsD gs = gsD gs' → gs' = gs := fun gs' e1 => by
          have := congrArg grpsOf e1
          rw [grpsOf_gsD, grpsOf_gsD] at this
          exact this.symm
        walk_at "d"
        refine ⟨_, _, _, rfl, nlG, rfl, rfl, fun gs' ro' se' e1 e2 e3 _ => ?_, fun x hx => by rw [reqG_good hG] at hx; cases hx⟩
        have e1 := (gsI gs' e1).symm
        injection e2 with e2
        injection e3 with e3
        subst e1 e2 e3
        walk_at "d"
        refine ⟨shwT, ?_⟩
        walk_at "d"
        refine ⟨shwT, ?_⟩
        walk_at "d"
        refine ifF (by rw [decide_eq_true rfl]; rfl) ?_
        walk_at "d"
        refine ds_for ?_
        walk_at "d"
        refine ⟨⟨by decide, by decide⟩, fun i G' O' => ∃ z7 z8 z9 z10 z11 z12 z13 z14 z15 z16 z17 z18 z19, G' = [.any, .ptr dr, .ptr at_, .dat (.int se), .dat (gsD gs), .dat (tabD (tbl gs se)), .dat (.int need), z7, z8, z9, z10, z11, z12, z13, z14, z15, z16, z17, z18, z19] ∧ O' = [], ⟨_, _, _, _, _, _, _, _, _, _, _, _, _, rfl, rfl⟩, ?_, ?_⟩
        · rintro i d G' O' hd ⟨z7, z8, z9, z10, z11, z12, z13, z14, z15, z16, z17, z18, z19, rfl, rfl⟩
          obtain ⟨turn, rfl⟩ : ∃ turn : Int, d = .int turn := by
            obtain ⟨j, _, rfl⟩ := List.mem_map.mp (List.mem_of_getElem? hd)
            exact ⟨_, rfl⟩
          clear hd
          have g0 : Gd 13 (tabD (tbl gs se)) := Gd.tup (by rw [List.length_map, htl]; omega) fun d hd => by
            obtain ⟨e, he, rfl⟩ := List.mem_map.mp hd
            exact sm_ent (by decide) (by have := hts e he; omega) (by have := hts e he; omega)
          walk_at "d"
          apply contL (P := Gd 13)
          · intro c1
            refine ifP (fun h => ?_) (fun h => ?_)
            · walk_at "d"
              refine ⟨tbl gs se, rfl, by rw [htl]; omega, by rw [htl]; omega, 12, by decide, hts, fun d hd => ?_⟩
              walk_at "d"
              exact c1 d hd
            · walk_at "d"
              exact c1 _ g0
          intro d gd
          apply contL (P := Gd 14)
          · intro c2
            refine ifP (fun h => ?_) (fun h => ?_)
            · walk_at "d"
              rw [List.length_map, htl]
              refine ⟨d, _, rfl, gd.nl, ⟨gd.sm.cl, Nat.le_trans gd.sm.dp (by decide)⟩, by omega, ?_⟩
              walk_at "d"
              refine ifB (fun hf => ?_) (fun hf => ?_)
              · obtain ⟨tab, ed, htb⟩ := formB_ex hf
                have hbt := Gd.small (B := 13) (tab := tab) (by have z := gd; rw [ed] at z; exact z)
                walk_at "d"
                refine ⟨tab, by rw [ed], by rw [htb]; omega, by rw [htb]; omega, 13, by decide, hbt, fun d hd => ?_⟩
                walk_at "d"
                exact c2 d hd
              · walk_at "d"
                exact c2 _ (gd.up)
            · walk_at "d"
              exact c2 _ (gd.up)
          clear gd
          intro d gd
          rw [List.length_map, htl]
          have told : ∀ (k : Rs → Prop) (ke : Ke), (formB d ((2 ^ gs.length : Nat) : Int) = false → k (.v (.dat (.str "form")))) → (∀ tab, d = tabD tab → tab.length = 2 ^ gs.length → (tab = tbl gs se → k (.v (.dat .none))) ∧ (tab ≠ tbl gs se → k (.v (.dat (.str "entry"))))) → wLTold [.dat (.int 2), .dat (gsD gs), .dat (.int need), .dat (.int se), .dat d] k ke := fun k ke k1 k2 =>
            ⟨2, _, _, _, _, rfl, nlG, rfl, rfl, gd.nl, (fun x hx => by rw [reqG_good hG] at hx; cases hx), fun _ => ⟨rfl, fun gs' ro' se' e1 e2 e3 _ => by
              have e1 := (gsI gs' e1).symm
              injection e2 with e2
              injection e3 with e3
              subst e1 e2 e3
              exact ⟨k1, k2⟩⟩⟩
          refine ⟨d, _, rfl, gd.nl, ⟨gd.sm.cl, Nat.le_trans gd.sm.dp (by decide)⟩, by omega, ?_⟩
          walk_at "d"
          refine ifB (fun hf => ?_) (fun hf => ?_)
          · obtain ⟨tab, rfl, htb⟩ := formB_ex hf
            have shwB : Shw (tabD tab) := (sents 14 tab (by decide) (by rw [htb]; omega) gd.small).shw (by decide) (by decide)
            walk_at "d"
            refine ⟨shwB, ?_⟩
            walk_at "d"
            refine ⟨shwT, ?_⟩
            walk_at "d"
            refine ifP (fun he => ?_) (fun he => ?_)
            · walk_at "d"
              refine told _ _ (fun z => by rw [hf] at z; cases z) fun tab' e4 _ => ⟨fun _ => ?_, fun hne => absurd ?_ hne⟩
              · walk_at "d"
                refine ⟨rfl, rfl, ?_⟩
                walk_at "d"
                refine ifF rfl ?_
                walk_at "d"
                exact ⟨_, _, _, _, _, _, _, _, _, _, _, _, _, rfl, rfl⟩
              · rw [← ents_inj e4]
                exact tabs_inj (by rw [htb, htl]) he
            · walk_at "d"
              refine told _ _ (fun z => by rw [hf] at z; cases z) fun tab' e4 _ => ⟨fun heq => absurd ?_ he, fun hne => ?_⟩
              · have := ents_inj e4
                rw [this, heq]
              · walk_at "d"
                refine ⟨strS _ (by decide +kernel), strS _ (by decide +kernel), ?_⟩
                walk_at "d"
                refine ifF (by decide +kernel) ?_
                walk_at "d"
                exact ⟨_, _, _, _, _, _, _, _, _, _, _, _, _, rfl, rfl⟩
          · walk_at "d"
            refine told _ _ (fun _ => ?_) fun tab' e4 h4 => ?_
            · walk_at "d"
              refine ⟨strS _ (by decide +kernel), strS _ (by decide +kernel), ?_⟩
              walk_at "d"
              refine ifF (by decide +kernel) ?_
              walk_at "d"
              exact ⟨_, _, _, _, _, _, _, _, _, _, _, _, _, rfl, rfl⟩
            · rw [e4, ← h4] at hf
              rw [formB_of] at hf
              cases hf
        · rintro G' O' ⟨z7, z8, z9, z10, z11, z12, z13, z14, z15, z16, z17, z18, z19, rfl, rfl⟩
          walk_at "d"
          refine dl_map ?_
          walk_at "d"
          refine ⟨⟨by decide, by decide⟩, by rw [List.length_map, List.length_range, sizeLine_eq]; decide, Nat, List.range 11, _, fun k => .dat (.tuple [.str (Str.ofString "n" ++ Str.ofString (toString (k : Int))), .int 1]), rfl, fun i x hx => ?_, (List.range 11).map (fun k : Nat => .tuple [.str (Str.ofString "n" ++ Str.ofString (toString (k : Int))), .int 1]), by rw [List.map_map]; rfl, ?_⟩
          · have hx := List.mem_range.mp (List.mem_of_getElem? hx)
            walk_at "d"
            refine ⟨by rw [Int.natAbs_natCast]; exact Nat.lt_of_le_of_lt (Nat.log2_le_self x) (by omega), ?_⟩
            walk_at "d"
            refine ⟨?_, ?_⟩
            · have := len_toString x (by omega)
              show 1 + (Str.ofString (toString (x : Int))).length ≤ sizeLine
              rw [sizeLine_eq]
              omega
            walk_at "d"
            rfl
          walk_at "d"
          refine ⟨Nat.zero_lt_succ _, fun wr hwr => ?_⟩
          have hW : noLd wr = true ∧ reqG wr (.int 0) (.int 12) = some (Str.ofString "groups") := by
            simp only [List.mem_cons, List.not_mem_nil, or_false] at hwr
            rcases hwr with rfl | rfl | rfl | rfl | rfl | rfl | rfl | rfl | rfl | rfl | rfl <;> exact ⟨by decide +kernel, by decide +kernel⟩
          clear hwr
          walk_at "d"
          refine ⟨Nat.zero_lt_succ _, fun od hod => ?_⟩
          have hO : noLd od = true ∧ withinB od 1 12 = false := by
            simp only [List.mem_cons, List.not_mem_nil, or_false] at hod
            rcases hod with rfl | rfl | rfl | rfl | rfl <;> exact ⟨rfl, rfl⟩
          clear hod
          walk_at "d"
          refine ⟨Nat.zero_lt_succ _, fun bd hbd => ?_⟩
          have hB : noLd bd = true ∧ withinB bd 0 99 = false := by
            simp only [List.mem_cons, List.not_mem_nil, or_false] at hbd
            rcases hbd with rfl | rfl | rfl | rfl | rfl <;> exact ⟨rfl, rfl⟩
          clear hbd
          walk_at "d"
          refine ds_for ?_
          walk_at "d"
          refine ⟨⟨by decide, by decide⟩, fun i G' O' => ∃ z19, G' = [.any, .ptr dr, .ptr at_, .dat (.int se), .dat (gsD gs), .dat (tabD (tbl gs se)), .dat (.int need), z7, z8, z9, z10, z11, z12, z13, .dat (.tuple ((List.range 11).map (fun k : Nat => .tuple [.str (Str.ofString "n" ++ Str.ofString (toString (k : Int))), .int 1]))), z15, .dat wr, .dat od, .dat bd, z19] ∧ O' = [], ⟨_, rfl, rfl⟩, ?_, ?_⟩
          · rintro i d G' O' hd ⟨z19, rfl, rfl⟩
            obtain ⟨call, rfl⟩ : ∃ call : Int, d = .int call := by
              obtain ⟨j, _, rfl⟩ := List.mem_map.mp (List.mem_of_getElem? hd)
              exact ⟨_, rfl⟩
            clear hd
            have told : ∀ (k : Rs → Prop) (ke : Ke) (r s : PyData) (x : Str), noLd r = true → noLd s = true → reqG wr r s = some x → k (.v (.dat (argD x))) → wLTold [.dat (.int call), .dat wr, .dat r, .dat s, .dat .none] k ke := fun k ke r s x n1 n2 e kk =>
              ⟨call, _, _, _, _, rfl, hW.1, n1, n2, rfl, fun y hy => by rw [e] at hy; cases hy; exact kk, fun z => by rw [e] at z; cases z⟩
            have ne : ∀ x, PyData.strOk x = true → SeqAt.shaped (argD x) = true ∧ PyData.eqv (argD x) (argD x) = true := fun x hx => by
              have cl : (argD x).canLay0 = true := by
                simp only [argD, PyData.canLay0, PyData.canLayAll0, hx, Bool.and_true]
                decide +kernel
              exact ⟨by unfold SeqAt.shaped; rw [cl, Bool.true_and]; exact decide_eq_true (by simp only [argD, PyData.depth, PyData.depthAll]; decide), SeqAt.eqv_refl _ cl⟩
            have n1 := ne "rows" (by decide +kernel)
            have n2 := ne "seats" (by decide +kernel)
            have n3 := ne "groups" (by decide +kernel)
            walk_at "d"
            refine told _ _ bd od "rows" hB.1 hO.1 (by unfold reqG; rw [if_pos hB.2]) ?_
            walk_at "d"
            refine ⟨n1.1, n1.1, ?_⟩
            walk_at "d"
            refine ifF (by rw [show PyData.eqv (argD "rows") (.tuple [.str "argument", .str "rows"]) = true from n1.2]; rfl) ?_
            walk_at "d"
            refine told _ _ (.int 99) od "seats" rfl hO.1 (by unfold reqG; rw [if_neg (by decide +kernel), if_pos hO.2]) ?_
            walk_at "d"
            refine ⟨n2.1, n2.1, ?_⟩
            walk_at "d"
            refine ifF (by rw [show PyData.eqv (argD "seats") (.tuple [.str "argument", .str "seats"]) = true from n2.2]; rfl) ?_
            walk_at "d"
            refine told _ _ (.int 0) (.int 12) "groups" rfl rfl hW.2 ?_
            walk_at "d"
            refine ⟨n3.1, n3.1, ?_⟩
            walk_at "d"
            refine ifF (by rw [show PyData.eqv (argD "groups") (.tuple [.str "argument", .str "groups"]) = true from n3.2]; rfl) ?_
            walk_at "d"
            exact ⟨_, rfl, rfl⟩
          · rintro G' O' ⟨z19, rfl, rfl⟩
            walk_at "d"
            rfl
    · cases e
      exact q H'
end
end Mine
set_option Elab.async false
set_option linter.all false
set_option maxRecDepth 100000
set_option maxHeartbeats 16000000
namespace Mine
open PySem PySem.Spec PyProof.Rows L2 Ln Dl
theorem exm_self {K : PySem.W.Frag} {S : Addr} (h1 : PySem.W.subIn K (.ref S) (.type "BaseException") = some true) (h2 : PySem.W.isClsIn K S = true) (h3 : PySem.W.typeIn K (.ref S) = some (.type "type"))
    (h4 : PySem.W.subIn K (.ref S) (.ref S) = some true) : PySem.W.exmOne K (.ref S) (.ref S) = some true := by
  have e2 : ((PySem.W.clsIn K S).isSome && PySem.W.typeIn K (.ref S) == some (.type "type")) = true := by
    have h2' : (PySem.W.clsIn K S).isSome = true := h2
    rw [h2', h3] <;> rfl
  have e1 : (PySem.W.subIn K (.ref S) (.type "BaseException") == some true) = true := by rw [h1] <;> rfl
  show ite ((PySem.W.subIn K (.ref S) (.type "BaseException") == some true) = true) (ite (((PySem.W.clsIn K S).isSome && PySem.W.typeIn K (.ref S) == some (.type "type")) = true) (PySem.W.subIn K (.ref S) (.ref S)) none) none = some true
  rw [if_pos e1, if_pos e2]
  exact h4
theorem exm_no {K : PySem.W.Frag} {S T : Addr} (h1 : PySem.W.subIn K (.ref T) (.type "BaseException") = some true) (h2 : PySem.W.isClsIn K T = true) (h3 : PySem.W.typeIn K (.ref T) = some (.type "type"))
    (h4 : PySem.W.subIn K (.ref S) (.ref T) = some false) : PySem.W.exmOne K (.ref S) (.ref T) = some false := by
  have h2' : (PySem.W.clsIn K T).isSome = true := h2
  have e2 : ((PySem.W.clsIn K T).isSome && PySem.W.typeIn K (.ref T) == some (.type "type")) = true := by
    rw [h2', h3] <;> rfl
  have e1 : (PySem.W.subIn K (.ref T) (.type "BaseException") == some true) = true := by rw [h1] <;> rfl
  show ite ((PySem.W.subIn K (.ref T) (.type "BaseException") == some true) = true) (ite (((PySem.W.clsIn K T).isSome && PySem.W.typeIn K (.ref T) == some (.type "type")) = true) (PySem.W.subIn K (.ref S) (.ref T)) none) none = some false
  rw [if_pos e1, if_pos e2]
  exact h4
theorem all_mk {l : PySem.W.OpenLaw} {w : World} {K : PySem.W.Frag} {h : Heap} {mg : Str → Option Value} {fa : Addr} (X : K.In h) (G : h.Ns mainGlobals mg) (hfa : mg "law" = some (.ref fa))
    {C_ArgumentError fI_ArgumentError N_ArgumentError : Addr} {nm_ArgumentError q_ArgumentError : Str} {bs_ArgumentError : List Value} {sn_ArgumentError : List Str} {sub_ArgumentError : List Value} {ab_ArgumentError : Bool} {col_ArgumentError : Option Bool} {dd_ArgumentError : Option Addr} {m0_ArgumentError m1_ArgumentError m2_ArgumentError m3_ArgumentError m5_ArgumentError : Option Value}
    {B0_ArgumentError : Addr}
    {oc_ArgumentError kV_ArgumentError dc_ArgumentError pm_ArgumentError cd_ArgumentError ct_ArgumentError : Value} {od_ArgumentError an_ArgumentError : Option Addr} {sl_ArgumentError : Array (Option Value)}
    {C_PaperError fI_PaperError N_PaperError : Addr} {nm_PaperError q_PaperError : Str} {bs_PaperError : List Value} {sn_PaperError : List Str} {sub_PaperError : List Value} {ab_PaperError : Bool} {col_PaperError : Option Bool} {dd_PaperError : Option Addr} {m0_PaperError m1_PaperError m2_PaperError m3_PaperError m5_PaperError : Option Value}
    {B0_PaperError : Addr}
    {oc_PaperError kV_PaperError dc_PaperError pm_PaperError cd_PaperError ct_PaperError : Value} {od_PaperError an_PaperError : Option Addr} {sl_PaperError : Array (Option Value)}
    {tMAX_GROUPS : Tok}
    {tMAX_ROWS : Tok}
    {tMAX_SEATED : Tok}
    {f__law_draws : Addr} {oc__law_draws kV__law_draws dc__law_draws pm__law_draws cd__law_draws ct__law_draws : Value} {od__law_draws an__law_draws : Option Addr} {sl__law_draws : Array (Option Value)}
    {f__law_more : Addr} {oc__law_more kV__law_more dc__law_more pm__law_more cd__law_more ct__law_more : Value} {od__law_more an__law_more : Option Addr} {sl__law_more : Array (Option Value)}
    {f__law_take : Addr} {oc__law_take kV__law_take dc__law_take pm__law_take cd__law_take ct__law_take : Value} {od__law_take an__law_take : Option Addr} {sl__law_take : Array (Option Value)}
    {f__law_one : Addr} {oc__law_one kV__law_one dc__law_one pm__law_one cd__law_one ct__law_one : Value} {od__law_one an__law_one : Option Addr} {sl__law_one : Array (Option Value)}
    {f__law_groups : Addr} {oc__law_groups kV__law_groups dc__law_groups pm__law_groups cd__law_groups ct__law_groups : Value} {od__law_groups an__law_groups : Option Addr} {sl__law_groups : Array (Option Value)}
    {f__law_table : Addr} {oc__law_table kV__law_table dc__law_table pm__law_table cd__law_table ct__law_table : Value} {od__law_table an__law_table : Option Addr} {sl__law_table : Array (Option Value)}
    {f__law_needs : Addr} {oc__law_needs kV__law_needs dc__law_needs pm__law_needs cd__law_needs ct__law_needs : Value} {od__law_needs an__law_needs : Option Addr} {sl__law_needs : Array (Option Value)}
    {f__law_ones : Addr} {oc__law_ones kV__law_ones dc__law_ones pm__law_ones cd__law_ones ct__law_ones : Value} {od__law_ones an__law_ones : Option Addr} {sl__law_ones : Array (Option Value)}
    {f_is_integer : Addr} {oc_is_integer kV_is_integer dc_is_integer pm_is_integer cd_is_integer ct_is_integer : Value} {od_is_integer an_is_integer : Option Addr} {sl_is_integer : Array (Option Value)}
    {f_is_within : Addr} {oc_is_within kV_is_within dc_is_within pm_is_within cd_is_within ct_is_within : Value} {od_is_within an_is_within : Option Addr} {sl_is_within : Array (Option Value)}
    {f_is_short : Addr} {oc_is_short kV_is_short dc_is_short pm_is_short cd_is_short ct_is_short : Value} {od_is_short an_is_short : Option Addr} {sl_is_short : Array (Option Value)}
    {f_is_row : Addr} {oc_is_row kV_is_row dc_is_row pm_is_row cd_is_row ct_is_row : Value} {od_is_row an_is_row : Option Addr} {sl_is_row : Array (Option Value)}
    {f_is_group : Addr} {oc_is_group kV_is_group dc_is_group pm_is_group cd_is_group ct_is_group : Value} {od_is_group an_is_group : Option Addr} {sl_is_group : Array (Option Value)}
    {f_are_unlike : Addr} {oc_are_unlike kV_are_unlike dc_are_unlike pm_are_unlike cd_are_unlike ct_are_unlike : Value} {od_are_unlike an_are_unlike : Option Addr} {sl_are_unlike : Array (Option Value)}
    {f_require : Addr} {oc_require kV_require dc_require pm_require cd_require ct_require : Value} {od_require an_require : Option Addr} {sl_require : Array (Option Value)}
    {f_require_groups : Addr} {oc_require_groups kV_require_groups dc_require_groups pm_require_groups cd_require_groups ct_require_groups : Value} {od_require_groups an_require_groups : Option Addr} {sl_require_groups : Array (Option Value)}
    {f_members : Addr} {oc_members kV_members dc_members pm_members cd_members ct_members : Value} {od_members an_members : Option Addr} {sl_members : Array (Option Value)}
    {f_behind : Addr} {oc_behind kV_behind dc_behind pm_behind cd_behind ct_behind : Value} {od_behind an_behind : Option Addr} {sl_behind : Array (Option Value)}
    {f_entry_for : Addr} {oc_entry_for kV_entry_for dc_entry_for pm_entry_for cd_entry_for ct_entry_for : Value} {od_entry_for an_entry_for : Option Addr} {sl_entry_for : Array (Option Value)}
    {f_find_table : Addr} {oc_find_table kV_find_table dc_find_table pm_find_table cd_find_table ct_find_table : Value} {od_find_table an_find_table : Option Addr} {sl_find_table : Array (Option Value)}
    {f_rows_used : Addr} {oc_rows_used kV_rows_used dc_rows_used pm_rows_used cd_rows_used ct_rows_used : Value} {od_rows_used an_rows_used : Option Addr} {sl_rows_used : Array (Option Value)}
    {f_order_of : Addr} {oc_order_of kV_order_of dc_order_of pm_order_of cd_order_of ct_order_of : Value} {od_order_of an_order_of : Option Addr} {sl_order_of : Array (Option Value)}
    {f_seating_of : Addr} {oc_seating_of kV_seating_of dc_seating_of pm_seating_of cd_seating_of ct_seating_of : Value} {od_seating_of an_seating_of : Option Addr} {sl_seating_of : Array (Option Value)}
    {f_seated : Addr} {oc_seated kV_seated dc_seated pm_seated cd_seated ct_seated : Value} {od_seated an_seated : Option Addr} {sl_seated : Array (Option Value)}
    {f_seat_table : Addr} {oc_seat_table kV_seat_table dc_seat_table pm_seat_table cd_seat_table ct_seat_table : Value} {od_seat_table an_seat_table : Option Addr} {sl_seat_table : Array (Option Value)}
    {f__law_plan_right : Addr} {oc__law_plan_right kV__law_plan_right dc__law_plan_right pm__law_plan_right cd__law_plan_right ct__law_plan_right : Value} {od__law_plan_right an__law_plan_right : Option Addr} {sl__law_plan_right : Array (Option Value)}
    {f__law_bent : Addr} {oc__law_bent kV__law_bent dc__law_bent pm__law_bent cd__law_bent ct__law_bent : Value} {od__law_bent an__law_bent : Option Addr} {sl__law_bent : Array (Option Value)}
    {f__law_has_form : Addr} {oc__law_has_form kV__law_has_form dc__law_has_form pm__law_has_form cd__law_has_form ct__law_has_form : Value} {od__law_has_form an__law_has_form : Option Addr} {sl__law_has_form : Array (Option Value)}
    {f_are_integers : Addr} {oc_are_integers kV_are_integers dc_are_integers pm_are_integers cd_are_integers ct_are_integers : Value} {od_are_integers an_are_integers : Option Addr} {sl_are_integers : Array (Option Value)}
    {f_accept_seat_table : Addr} {oc_accept_seat_table kV_accept_seat_table dc_accept_seat_table pm_accept_seat_table cd_accept_seat_table ct_accept_seat_table : Value} {od_accept_seat_table an_accept_seat_table : Option Addr} {sl_accept_seat_table : Array (Option Value)}
    {f__law_told : Addr} {oc__law_told kV__law_told dc__law_told pm__law_told cd__law_told ct__law_told : Value} {od__law_told an__law_told : Option Addr} {sl__law_told : Array (Option Value)}
    {f_law : Addr} {oc_law kV_law dc_law pm_law cd_law ct_law : Value} {od_law an_law : Option Addr} {sl_law : Array (Option Value)}
    (aC_ArgumentError : PySem.W.nsIn K mainGlobals "ArgumentError" = some (some (.ref C_ArgumentError)))
    (xC_ArgumentError : K.lookup C_ArgumentError = some (excClassObj nm_ArgumentError q_ArgumentError C_ArgumentError N_ArgumentError bs_ArgumentError [.ref B0_ArgumentError, .type "ValueError", .type "Exception", .type "BaseException", .type "object"] true sn_ArgumentError sub_ArgumentError ab_ArgumentError col_ArgumentError dd_ArgumentError m0_ArgumentError m1_ArgumentError m2_ArgumentError m3_ArgumentError m5_ArgumentError "ValueError.__new__"))
    (sa_ArgumentError : PySem.W.findIn K (.ref C_ArgumentError) "__setattr__" = some (some (.builtin "object.__setattr__")))
    (ga_ArgumentError : PySem.W.findIn K (.ref C_ArgumentError) "__getattribute__" = some (some (.builtin "BaseException.__getattribute__")))
    (gg_ArgumentError : PySem.W.findIn K (.ref C_ArgumentError) "__getattr__" = some none)
    (no_ArgumentError_reason : PySem.W.findIn K (.ref C_ArgumentError) "reason" = some none)
    (kC_ArgumentError : PySem.W.keepIn K (.ref C_ArgumentError) = true)
    (eC_ArgumentError : PySem.W.subIn K (.ref C_ArgumentError) (.type "BaseException") = some true)
    (tC_ArgumentError : PySem.W.typeIn K (.ref C_ArgumentError) = some (.type "type"))
    (hC_ArgumentError : PySem.W.hasDictIn K C_ArgumentError = true)
    (iC_ArgumentError : PySem.W.isClsIn K C_ArgumentError = true)
    (sC_ArgumentError : PySem.W.subIn K (.ref C_ArgumentError) (.ref C_ArgumentError) = some true)
    (ai_ArgumentError : PySem.W.findIn K (.ref C_ArgumentError) "__init__" = some (some (.ref fI_ArgumentError)))
    (ti_ArgumentError : PySem.W.typeIn K (.ref fI_ArgumentError) = some (.type "function"))
    (li_ArgumentError : K.lookup fI_ArgumentError = some ⟨oc_ArgumentError, od_ArgumentError, .func (PySem.W.fnOf "__init__" "ArgumentError.__init__" (defArgs s_ArgumentErrorD_initD) (defBody s_ArgumentErrorD_initD) (defScope s_ArgumentErrorD_initD) .none kV_ArgumentError dc_ArgumentError pm_ArgumentError an_ArgumentError cd_ArgumentError ct_ArgumentError), sl_ArgumentError⟩)
    (ci_ArgumentError : PySem.W.codeIn K cd_ArgumentError "ArgumentError.__init__" = true)
    (ki_ArgumentError : PySem.W.keepIn K (.ref fI_ArgumentError) = true)
    (aC_PaperError : PySem.W.nsIn K mainGlobals "PaperError" = some (some (.ref C_PaperError)))
    (xC_PaperError : K.lookup C_PaperError = some (excClassObj nm_PaperError q_PaperError C_PaperError N_PaperError bs_PaperError [.ref B0_PaperError, .type "ValueError", .type "Exception", .type "BaseException", .type "object"] true sn_PaperError sub_PaperError ab_PaperError col_PaperError dd_PaperError m0_PaperError m1_PaperError m2_PaperError m3_PaperError m5_PaperError "ValueError.__new__"))
    (sa_PaperError : PySem.W.findIn K (.ref C_PaperError) "__setattr__" = some (some (.builtin "object.__setattr__")))
    (ga_PaperError : PySem.W.findIn K (.ref C_PaperError) "__getattribute__" = some (some (.builtin "BaseException.__getattribute__")))
    (gg_PaperError : PySem.W.findIn K (.ref C_PaperError) "__getattr__" = some none)
    (no_PaperError_reason : PySem.W.findIn K (.ref C_PaperError) "reason" = some none)
    (kC_PaperError : PySem.W.keepIn K (.ref C_PaperError) = true)
    (eC_PaperError : PySem.W.subIn K (.ref C_PaperError) (.type "BaseException") = some true)
    (tC_PaperError : PySem.W.typeIn K (.ref C_PaperError) = some (.type "type"))
    (hC_PaperError : PySem.W.hasDictIn K C_PaperError = true)
    (iC_PaperError : PySem.W.isClsIn K C_PaperError = true)
    (sC_PaperError : PySem.W.subIn K (.ref C_PaperError) (.ref C_PaperError) = some true)
    (ai_PaperError : PySem.W.findIn K (.ref C_PaperError) "__init__" = some (some (.ref fI_PaperError)))
    (ti_PaperError : PySem.W.typeIn K (.ref fI_PaperError) = some (.type "function"))
    (li_PaperError : K.lookup fI_PaperError = some ⟨oc_PaperError, od_PaperError, .func (PySem.W.fnOf "__init__" "PaperError.__init__" (defArgs s_PaperErrorD_initD) (defBody s_PaperErrorD_initD) (defScope s_PaperErrorD_initD) .none kV_PaperError dc_PaperError pm_PaperError an_PaperError cd_PaperError ct_PaperError), sl_PaperError⟩)
    (ci_PaperError : PySem.W.codeIn K cd_PaperError "PaperError.__init__" = true)
    (ki_PaperError : PySem.W.keepIn K (.ref fI_PaperError) = true)
    (sn_AP : PySem.W.subIn K (.ref C_ArgumentError) (.ref C_PaperError) = some false)
    (gMAX_GROUPS : PySem.W.nsIn K mainGlobals "MAX_GROUPS" = some (some (.int 10 tMAX_GROUPS)))
    (gMAX_ROWS : PySem.W.nsIn K mainGlobals "MAX_ROWS" = some (some (.int 99 tMAX_ROWS)))
    (gMAX_SEATED : PySem.W.nsIn K mainGlobals "MAX_SEATED" = some (some (.int 12 tMAX_SEATED)))
    (a__law_draws : PySem.W.nsIn K mainGlobals "_law_draws" = some (some (.ref f__law_draws)))
    (l__law_draws : K.lookup f__law_draws = some ⟨oc__law_draws, od__law_draws, .func (PySem.W.fnOf "_law_draws" "_law_draws" (defArgs s_law_draws) (defBody s_law_draws) (defScope s_law_draws) .none kV__law_draws dc__law_draws pm__law_draws an__law_draws cd__law_draws ct__law_draws), sl__law_draws⟩)
    (c__law_draws : PySem.W.codeIn K cd__law_draws "_law_draws" = true)
    (k__law_draws : PySem.W.keepIn K (.ref f__law_draws) = true)
    (a__law_more : PySem.W.nsIn K mainGlobals "_law_more" = some (some (.ref f__law_more)))
    (l__law_more : K.lookup f__law_more = some ⟨oc__law_more, od__law_more, .func (PySem.W.fnOf "_law_more" "_law_more" (defArgs s_law_more) (defBody s_law_more) (defScope s_law_more) .none kV__law_more dc__law_more pm__law_more an__law_more cd__law_more ct__law_more), sl__law_more⟩)
    (c__law_more : PySem.W.codeIn K cd__law_more "_law_more" = true)
    (k__law_more : PySem.W.keepIn K (.ref f__law_more) = true)
    (a__law_take : PySem.W.nsIn K mainGlobals "_law_take" = some (some (.ref f__law_take)))
    (l__law_take : K.lookup f__law_take = some ⟨oc__law_take, od__law_take, .func (PySem.W.fnOf "_law_take" "_law_take" (defArgs s_law_take) (defBody s_law_take) (defScope s_law_take) .none kV__law_take dc__law_take pm__law_take an__law_take cd__law_take ct__law_take), sl__law_take⟩)
    (c__law_take : PySem.W.codeIn K cd__law_take "_law_take" = true)
    (k__law_take : PySem.W.keepIn K (.ref f__law_take) = true)
    (a__law_one : PySem.W.nsIn K mainGlobals "_law_one" = some (some (.ref f__law_one)))
    (l__law_one : K.lookup f__law_one = some ⟨oc__law_one, od__law_one, .func (PySem.W.fnOf "_law_one" "_law_one" (defArgs s_law_one) (defBody s_law_one) (defScope s_law_one) .none kV__law_one dc__law_one pm__law_one an__law_one cd__law_one ct__law_one), sl__law_one⟩)
    (c__law_one : PySem.W.codeIn K cd__law_one "_law_one" = true)
    (k__law_one : PySem.W.keepIn K (.ref f__law_one) = true)
    (a__law_groups : PySem.W.nsIn K mainGlobals "_law_groups" = some (some (.ref f__law_groups)))
    (l__law_groups : K.lookup f__law_groups = some ⟨oc__law_groups, od__law_groups, .func (PySem.W.fnOf "_law_groups" "_law_groups" (defArgs s_law_groups) (defBody s_law_groups) (defScope s_law_groups) .none kV__law_groups dc__law_groups pm__law_groups an__law_groups cd__law_groups ct__law_groups), sl__law_groups⟩)
    (c__law_groups : PySem.W.codeIn K cd__law_groups "_law_groups" = true)
    (k__law_groups : PySem.W.keepIn K (.ref f__law_groups) = true)
    (a__law_table : PySem.W.nsIn K mainGlobals "_law_table" = some (some (.ref f__law_table)))
    (l__law_table : K.lookup f__law_table = some ⟨oc__law_table, od__law_table, .func (PySem.W.fnOf "_law_table" "_law_table" (defArgs s_law_table) (defBody s_law_table) (defScope s_law_table) .none kV__law_table dc__law_table pm__law_table an__law_table cd__law_table ct__law_table), sl__law_table⟩)
    (c__law_table : PySem.W.codeIn K cd__law_table "_law_table" = true)
    (k__law_table : PySem.W.keepIn K (.ref f__law_table) = true)
    (a__law_needs : PySem.W.nsIn K mainGlobals "_law_needs" = some (some (.ref f__law_needs)))
    (l__law_needs : K.lookup f__law_needs = some ⟨oc__law_needs, od__law_needs, .func (PySem.W.fnOf "_law_needs" "_law_needs" (defArgs s_law_needs) (defBody s_law_needs) (defScope s_law_needs) .none kV__law_needs dc__law_needs pm__law_needs an__law_needs cd__law_needs ct__law_needs), sl__law_needs⟩)
    (c__law_needs : PySem.W.codeIn K cd__law_needs "_law_needs" = true)
    (k__law_needs : PySem.W.keepIn K (.ref f__law_needs) = true)
    (a__law_ones : PySem.W.nsIn K mainGlobals "_law_ones" = some (some (.ref f__law_ones)))
    (l__law_ones : K.lookup f__law_ones = some ⟨oc__law_ones, od__law_ones, .func (PySem.W.fnOf "_law_ones" "_law_ones" (defArgs s_law_ones) (defBody s_law_ones) (defScope s_law_ones) .none kV__law_ones dc__law_ones pm__law_ones an__law_ones cd__law_ones ct__law_ones), sl__law_ones⟩)
    (c__law_ones : PySem.W.codeIn K cd__law_ones "_law_ones" = true)
    (k__law_ones : PySem.W.keepIn K (.ref f__law_ones) = true)
    (a_is_integer : PySem.W.nsIn K mainGlobals "is_integer" = some (some (.ref f_is_integer)))
    (l_is_integer : K.lookup f_is_integer = some ⟨oc_is_integer, od_is_integer, .func (PySem.W.fnOf "is_integer" "is_integer" (defArgs s_is_integer) (defBody s_is_integer) (defScope s_is_integer) .none kV_is_integer dc_is_integer pm_is_integer an_is_integer cd_is_integer ct_is_integer), sl_is_integer⟩)
    (c_is_integer : PySem.W.codeIn K cd_is_integer "is_integer" = true)
    (k_is_integer : PySem.W.keepIn K (.ref f_is_integer) = true)
    (a_is_within : PySem.W.nsIn K mainGlobals "is_within" = some (some (.ref f_is_within)))
    (l_is_within : K.lookup f_is_within = some ⟨oc_is_within, od_is_within, .func (PySem.W.fnOf "is_within" "is_within" (defArgs s_is_within) (defBody s_is_within) (defScope s_is_within) .none kV_is_within dc_is_within pm_is_within an_is_within cd_is_within ct_is_within), sl_is_within⟩)
    (c_is_within : PySem.W.codeIn K cd_is_within "is_within" = true)
    (k_is_within : PySem.W.keepIn K (.ref f_is_within) = true)
    (a_is_short : PySem.W.nsIn K mainGlobals "is_short" = some (some (.ref f_is_short)))
    (l_is_short : K.lookup f_is_short = some ⟨oc_is_short, od_is_short, .func (PySem.W.fnOf "is_short" "is_short" (defArgs s_is_short) (defBody s_is_short) (defScope s_is_short) .none kV_is_short dc_is_short pm_is_short an_is_short cd_is_short ct_is_short), sl_is_short⟩)
    (c_is_short : PySem.W.codeIn K cd_is_short "is_short" = true)
    (k_is_short : PySem.W.keepIn K (.ref f_is_short) = true)
    (a_is_row : PySem.W.nsIn K mainGlobals "is_row" = some (some (.ref f_is_row)))
    (l_is_row : K.lookup f_is_row = some ⟨oc_is_row, od_is_row, .func (PySem.W.fnOf "is_row" "is_row" (defArgs s_is_row) (defBody s_is_row) (defScope s_is_row) .none kV_is_row dc_is_row pm_is_row an_is_row cd_is_row ct_is_row), sl_is_row⟩)
    (c_is_row : PySem.W.codeIn K cd_is_row "is_row" = true)
    (k_is_row : PySem.W.keepIn K (.ref f_is_row) = true)
    (a_is_group : PySem.W.nsIn K mainGlobals "is_group" = some (some (.ref f_is_group)))
    (l_is_group : K.lookup f_is_group = some ⟨oc_is_group, od_is_group, .func (PySem.W.fnOf "is_group" "is_group" (defArgs s_is_group) (defBody s_is_group) (defScope s_is_group) .none kV_is_group dc_is_group pm_is_group an_is_group cd_is_group ct_is_group), sl_is_group⟩)
    (c_is_group : PySem.W.codeIn K cd_is_group "is_group" = true)
    (k_is_group : PySem.W.keepIn K (.ref f_is_group) = true)
    (a_are_unlike : PySem.W.nsIn K mainGlobals "are_unlike" = some (some (.ref f_are_unlike)))
    (l_are_unlike : K.lookup f_are_unlike = some ⟨oc_are_unlike, od_are_unlike, .func (PySem.W.fnOf "are_unlike" "are_unlike" (defArgs s_are_unlike) (defBody s_are_unlike) (defScope s_are_unlike) .none kV_are_unlike dc_are_unlike pm_are_unlike an_are_unlike cd_are_unlike ct_are_unlike), sl_are_unlike⟩)
    (c_are_unlike : PySem.W.codeIn K cd_are_unlike "are_unlike" = true)
    (k_are_unlike : PySem.W.keepIn K (.ref f_are_unlike) = true)
    (a_require : PySem.W.nsIn K mainGlobals "require" = some (some (.ref f_require)))
    (l_require : K.lookup f_require = some ⟨oc_require, od_require, .func (PySem.W.fnOf "require" "require" (defArgs s_require) (defBody s_require) (defScope s_require) .none kV_require dc_require pm_require an_require cd_require ct_require), sl_require⟩)
    (c_require : PySem.W.codeIn K cd_require "require" = true)
    (k_require : PySem.W.keepIn K (.ref f_require) = true)
    (a_require_groups : PySem.W.nsIn K mainGlobals "require_groups" = some (some (.ref f_require_groups)))
    (l_require_groups : K.lookup f_require_groups = some ⟨oc_require_groups, od_require_groups, .func (PySem.W.fnOf "require_groups" "require_groups" (defArgs s_require_groups) (defBody s_require_groups) (defScope s_require_groups) .none kV_require_groups dc_require_groups pm_require_groups an_require_groups cd_require_groups ct_require_groups), sl_require_groups⟩)
    (c_require_groups : PySem.W.codeIn K cd_require_groups "require_groups" = true)
    (k_require_groups : PySem.W.keepIn K (.ref f_require_groups) = true)
    (a_members : PySem.W.nsIn K mainGlobals "members" = some (some (.ref f_members)))
    (l_members : K.lookup f_members = some ⟨oc_members, od_members, .func (PySem.W.fnOf "members" "members" (defArgs s_members) (defBody s_members) (defScope s_members) .none kV_members dc_members pm_members an_members cd_members ct_members), sl_members⟩)
    (c_members : PySem.W.codeIn K cd_members "members" = true)
    (k_members : PySem.W.keepIn K (.ref f_members) = true)
    (a_behind : PySem.W.nsIn K mainGlobals "behind" = some (some (.ref f_behind)))
    (l_behind : K.lookup f_behind = some ⟨oc_behind, od_behind, .func (PySem.W.fnOf "behind" "behind" (defArgs s_behind) (defBody s_behind) (defScope s_behind) .none kV_behind dc_behind pm_behind an_behind cd_behind ct_behind), sl_behind⟩)
    (c_behind : PySem.W.codeIn K cd_behind "behind" = true)
    (k_behind : PySem.W.keepIn K (.ref f_behind) = true)
    (a_entry_for : PySem.W.nsIn K mainGlobals "entry_for" = some (some (.ref f_entry_for)))
    (l_entry_for : K.lookup f_entry_for = some ⟨oc_entry_for, od_entry_for, .func (PySem.W.fnOf "entry_for" "entry_for" (defArgs s_entry_for) (defBody s_entry_for) (defScope s_entry_for) .none kV_entry_for dc_entry_for pm_entry_for an_entry_for cd_entry_for ct_entry_for), sl_entry_for⟩)
    (c_entry_for : PySem.W.codeIn K cd_entry_for "entry_for" = true)
    (k_entry_for : PySem.W.keepIn K (.ref f_entry_for) = true)
    (a_find_table : PySem.W.nsIn K mainGlobals "find_table" = some (some (.ref f_find_table)))
    (l_find_table : K.lookup f_find_table = some ⟨oc_find_table, od_find_table, .func (PySem.W.fnOf "find_table" "find_table" (defArgs s_find_table) (defBody s_find_table) (defScope s_find_table) .none kV_find_table dc_find_table pm_find_table an_find_table cd_find_table ct_find_table), sl_find_table⟩)
    (c_find_table : PySem.W.codeIn K cd_find_table "find_table" = true)
    (k_find_table : PySem.W.keepIn K (.ref f_find_table) = true)
    (a_rows_used : PySem.W.nsIn K mainGlobals "rows_used" = some (some (.ref f_rows_used)))
    (l_rows_used : K.lookup f_rows_used = some ⟨oc_rows_used, od_rows_used, .func (PySem.W.fnOf "rows_used" "rows_used" (defArgs s_rows_used) (defBody s_rows_used) (defScope s_rows_used) .none kV_rows_used dc_rows_used pm_rows_used an_rows_used cd_rows_used ct_rows_used), sl_rows_used⟩)
    (c_rows_used : PySem.W.codeIn K cd_rows_used "rows_used" = true)
    (k_rows_used : PySem.W.keepIn K (.ref f_rows_used) = true)
    (a_order_of : PySem.W.nsIn K mainGlobals "order_of" = some (some (.ref f_order_of)))
    (l_order_of : K.lookup f_order_of = some ⟨oc_order_of, od_order_of, .func (PySem.W.fnOf "order_of" "order_of" (defArgs s_order_of) (defBody s_order_of) (defScope s_order_of) .none kV_order_of dc_order_of pm_order_of an_order_of cd_order_of ct_order_of), sl_order_of⟩)
    (c_order_of : PySem.W.codeIn K cd_order_of "order_of" = true)
    (k_order_of : PySem.W.keepIn K (.ref f_order_of) = true)
    (a_seating_of : PySem.W.nsIn K mainGlobals "seating_of" = some (some (.ref f_seating_of)))
    (l_seating_of : K.lookup f_seating_of = some ⟨oc_seating_of, od_seating_of, .func (PySem.W.fnOf "seating_of" "seating_of" (defArgs s_seating_of) (defBody s_seating_of) (defScope s_seating_of) .none kV_seating_of dc_seating_of pm_seating_of an_seating_of cd_seating_of ct_seating_of), sl_seating_of⟩)
    (c_seating_of : PySem.W.codeIn K cd_seating_of "seating_of" = true)
    (k_seating_of : PySem.W.keepIn K (.ref f_seating_of) = true)
    (a_seated : PySem.W.nsIn K mainGlobals "seated" = some (some (.ref f_seated)))
    (l_seated : K.lookup f_seated = some ⟨oc_seated, od_seated, .func (PySem.W.fnOf "seated" "seated" (defArgs s_seated) (defBody s_seated) (defScope s_seated) .none kV_seated dc_seated pm_seated an_seated cd_seated ct_seated), sl_seated⟩)
    (c_seated : PySem.W.codeIn K cd_seated "seated" = true)
    (k_seated : PySem.W.keepIn K (.ref f_seated) = true)
    (a_seat_table : PySem.W.nsIn K mainGlobals "seat_table" = some (some (.ref f_seat_table)))
    (l_seat_table : K.lookup f_seat_table = some ⟨oc_seat_table, od_seat_table, .func (PySem.W.fnOf "seat_table" "seat_table" (defArgs s_seat_table) (defBody s_seat_table) (defScope s_seat_table) .none kV_seat_table dc_seat_table pm_seat_table an_seat_table cd_seat_table ct_seat_table), sl_seat_table⟩)
    (c_seat_table : PySem.W.codeIn K cd_seat_table "seat_table" = true)
    (k_seat_table : PySem.W.keepIn K (.ref f_seat_table) = true)
    (a__law_plan_right : PySem.W.nsIn K mainGlobals "_law_plan_right" = some (some (.ref f__law_plan_right)))
    (l__law_plan_right : K.lookup f__law_plan_right = some ⟨oc__law_plan_right, od__law_plan_right, .func (PySem.W.fnOf "_law_plan_right" "_law_plan_right" (defArgs s_law_plan_right) (defBody s_law_plan_right) (defScope s_law_plan_right) .none kV__law_plan_right dc__law_plan_right pm__law_plan_right an__law_plan_right cd__law_plan_right ct__law_plan_right), sl__law_plan_right⟩)
    (c__law_plan_right : PySem.W.codeIn K cd__law_plan_right "_law_plan_right" = true)
    (k__law_plan_right : PySem.W.keepIn K (.ref f__law_plan_right) = true)
    (a__law_bent : PySem.W.nsIn K mainGlobals "_law_bent" = some (some (.ref f__law_bent)))
    (l__law_bent : K.lookup f__law_bent = some ⟨oc__law_bent, od__law_bent, .func (PySem.W.fnOf "_law_bent" "_law_bent" (defArgs s_law_bent) (defBody s_law_bent) (defScope s_law_bent) .none kV__law_bent dc__law_bent pm__law_bent an__law_bent cd__law_bent ct__law_bent), sl__law_bent⟩)
    (c__law_bent : PySem.W.codeIn K cd__law_bent "_law_bent" = true)
    (k__law_bent : PySem.W.keepIn K (.ref f__law_bent) = true)
    (a__law_has_form : PySem.W.nsIn K mainGlobals "_law_has_form" = some (some (.ref f__law_has_form)))
    (l__law_has_form : K.lookup f__law_has_form = some ⟨oc__law_has_form, od__law_has_form, .func (PySem.W.fnOf "_law_has_form" "_law_has_form" (defArgs s_law_has_form) (defBody s_law_has_form) (defScope s_law_has_form) .none kV__law_has_form dc__law_has_form pm__law_has_form an__law_has_form cd__law_has_form ct__law_has_form), sl__law_has_form⟩)
    (c__law_has_form : PySem.W.codeIn K cd__law_has_form "_law_has_form" = true)
    (k__law_has_form : PySem.W.keepIn K (.ref f__law_has_form) = true)
    (a_are_integers : PySem.W.nsIn K mainGlobals "are_integers" = some (some (.ref f_are_integers)))
    (l_are_integers : K.lookup f_are_integers = some ⟨oc_are_integers, od_are_integers, .func (PySem.W.fnOf "are_integers" "are_integers" (defArgs s_are_integers) (defBody s_are_integers) (defScope s_are_integers) .none kV_are_integers dc_are_integers pm_are_integers an_are_integers cd_are_integers ct_are_integers), sl_are_integers⟩)
    (c_are_integers : PySem.W.codeIn K cd_are_integers "are_integers" = true)
    (k_are_integers : PySem.W.keepIn K (.ref f_are_integers) = true)
    (a_accept_seat_table : PySem.W.nsIn K mainGlobals "accept_seat_table" = some (some (.ref f_accept_seat_table)))
    (l_accept_seat_table : K.lookup f_accept_seat_table = some ⟨oc_accept_seat_table, od_accept_seat_table, .func (PySem.W.fnOf "accept_seat_table" "accept_seat_table" (defArgs s_accept_seat_table) (defBody s_accept_seat_table) (defScope s_accept_seat_table) .none kV_accept_seat_table dc_accept_seat_table pm_accept_seat_table an_accept_seat_table cd_accept_seat_table ct_accept_seat_table), sl_accept_seat_table⟩)
    (c_accept_seat_table : PySem.W.codeIn K cd_accept_seat_table "accept_seat_table" = true)
    (k_accept_seat_table : PySem.W.keepIn K (.ref f_accept_seat_table) = true)
    (a__law_told : PySem.W.nsIn K mainGlobals "_law_told" = some (some (.ref f__law_told)))
    (l__law_told : K.lookup f__law_told = some ⟨oc__law_told, od__law_told, .func (PySem.W.fnOf "_law_told" "_law_told" (defArgs s_law_told) (defBody s_law_told) (defScope s_law_told) .none kV__law_told dc__law_told pm__law_told an__law_told cd__law_told ct__law_told), sl__law_told⟩)
    (c__law_told : PySem.W.codeIn K cd__law_told "_law_told" = true)
    (k__law_told : PySem.W.keepIn K (.ref f__law_told) = true)
    (a_law : PySem.W.nsIn K mainGlobals "law" = some (some (.ref f_law)))
    (l_law : K.lookup f_law = some ⟨oc_law, od_law, .func (PySem.W.fnOf "law" "law" (defArgs s_law) (defBody s_law) (defScope s_law) .none kV_law dc_law pm_law an_law cd_law ct_law), sl_law⟩)
    (c_law : PySem.W.codeIn K cd_law "law" = true)
    (k_law : PySem.W.keepIn K (.ref f_law) = true)
    (z_abs : PySem.W.nsIn K mainGlobals "abs" = some none)
    (z_all : PySem.W.nsIn K mainGlobals "all" = some none)
    (z_any : PySem.W.nsIn K mainGlobals "any" = some none)
    (z_bool : PySem.W.nsIn K mainGlobals "bool" = some none)
    (z_dict : PySem.W.nsIn K mainGlobals "dict" = some none)
    (z_enumerate : PySem.W.nsIn K mainGlobals "enumerate" = some none)
    (z_int : PySem.W.nsIn K mainGlobals "int" = some none)
    (z_isinstance : PySem.W.nsIn K mainGlobals "isinstance" = some none)
    (z_len : PySem.W.nsIn K mainGlobals "len" = some none)
    (z_list : PySem.W.nsIn K mainGlobals "list" = some none)
    (z_max : PySem.W.nsIn K mainGlobals "max" = some none)
    (z_min : PySem.W.nsIn K mainGlobals "min" = some none)
    (z_range : PySem.W.nsIn K mainGlobals "range" = some none)
    (z_repr : PySem.W.nsIn K mainGlobals "repr" = some none)
    (z_reversed : PySem.W.nsIn K mainGlobals "reversed" = some none)
    (z_set : PySem.W.nsIn K mainGlobals "set" = some none)
    (z_sorted : PySem.W.nsIn K mainGlobals "sorted" = some none)
    (z_str : PySem.W.nsIn K mainGlobals "str" = some none)
    (z_sum : PySem.W.nsIn K mainGlobals "sum" = some none)
    (z_tuple : PySem.W.nsIn K mainGlobals "tuple" = some none)
    (z_zip : PySem.W.nsIn K mainGlobals "zip" = some none)
    : ∃ fd : FuncData, (∀ (s : Shared) (v : Value), BindsTo s fd ⟨[v], []⟩ [("script", v)]) ∧ ∀ base : Heap, K.In base → base.Ns mainGlobals mg → FnG l.prog w K mg base CX0 7 fa fd ["script"] (spLaw K) := by
  have e := hfa.symm.trans (PySem.W.mg_of X G a_law)
  cases e

  refine ⟨PySem.W.fnOf "law" "law" (defArgs s_law) (defBody s_law) (defScope s_law) .none kV_law dc_law pm_law an_law cd_law ct_law, fun s v => .of_eq rfl, fun base hKb hNb => ?_⟩
  have F__law_draws := fun_mk (st := s_law_draws) l__law_draws c__law_draws k__law_draws
  have T_LawTxt : LawTxt mg := { z_len := PySem.W.mg_none_of X G z_len, z_abs := PySem.W.mg_none_of X G z_abs, z_int := PySem.W.mg_none_of X G z_int, z_str := PySem.W.mg_none_of X G z_str, z_tuple := PySem.W.mg_none_of X G z_tuple, z_range := PySem.W.mg_none_of X G z_range, z_min := PySem.W.mg_none_of X G z_min, z_max := PySem.W.mg_none_of X G z_max, z_sorted := PySem.W.mg_none_of X G z_sorted }
  have b__law_draws := F__law_draws.binds (ps := ["script"]) fun _ _ _ _ _ _ us hl => match us, hl with | [_], _ => rfl
  have C__law_draws : Cg l.prog w K mg base CX0 1 "_law_draws" ((spDraws K)) := ⟨_, _, _, ok_draws F__law_draws T_LawTxt, PySem.W.mg_of X G a__law_draws, k__law_draws, b__law_draws⟩
  have F__law_more := fun_mk (st := s_law_more) l__law_more c__law_more k__law_more
  have b__law_more := F__law_more.binds (ps := ["draws", "place"]) fun _ _ _ _ _ _ us hl => match us, hl with | [_, _], _ => rfl
  have C__law_more : Cg l.prog w K mg base CX0 1 "_law_more" ((spMore K)) := ⟨_, _, _, ok_more F__law_more T_LawTxt, PySem.W.mg_of X G a__law_more, k__law_more, b__law_more⟩
  have F__law_take := fun_mk (st := s_law_take) l__law_take c__law_take k__law_take
  have b__law_take := F__law_take.binds (ps := ["draws", "at", "many"]) fun _ _ _ _ _ _ us hl => match us, hl with | [_, _, _], _ => rfl
  have C__law_take : Cg l.prog w K mg base CX0 2 "_law_take" ((spTake K)) := ⟨_, _, _, ok_take F__law_take T_LawTxt C__law_more, PySem.W.mg_of X G a__law_take, k__law_take, b__law_take⟩
  have F__law_one := fun_mk (st := s_law_one) l__law_one c__law_one k__law_one
  have b__law_one := F__law_one.binds (ps := ["rows", "draws", "at"]) fun _ _ _ _ _ _ us hl => match us, hl with | [_, _, _], _ => rfl
  have C__law_one : Cg l.prog w K mg base CX0 3 "_law_one" ((spOne K)) := ⟨_, _, _, ok_one F__law_one T_LawTxt C__law_take, PySem.W.mg_of X G a__law_one, k__law_one, b__law_one⟩
  have F__law_groups := fun_mk (st := s_law_groups) l__law_groups c__law_groups k__law_groups
  have T_DTxt : DTxt mg := { z_len := PySem.W.mg_none_of X G z_len, z_abs := PySem.W.mg_none_of X G z_abs, z_int := PySem.W.mg_none_of X G z_int, z_str := PySem.W.mg_none_of X G z_str, z_bool := PySem.W.mg_none_of X G z_bool, z_tuple := PySem.W.mg_none_of X G z_tuple, z_list := PySem.W.mg_none_of X G z_list, z_dict := PySem.W.mg_none_of X G z_dict, z_set := PySem.W.mg_none_of X G z_set, z_range := PySem.W.mg_none_of X G z_range, z_min := PySem.W.mg_none_of X G z_min, z_max := PySem.W.mg_none_of X G z_max, z_sum := PySem.W.mg_none_of X G z_sum, z_all := PySem.W.mg_none_of X G z_all, z_any := PySem.W.mg_none_of X G z_any, z_sorted := PySem.W.mg_none_of X G z_sorted, z_reversed := PySem.W.mg_none_of X G z_reversed, z_enumerate := PySem.W.mg_none_of X G z_enumerate, z_zip := PySem.W.mg_none_of X G z_zip, z_repr := PySem.W.mg_none_of X G z_repr, z_isinstance := PySem.W.mg_none_of X G z_isinstance }
  have b__law_groups := F__law_groups.binds (ps := ["most", "seats", "draws", "at"]) fun _ _ _ _ _ _ us hl => match us, hl with | [_, _, _, _], _ => rfl
  have C__law_groups : Cg l.prog w K mg base CX0 3 "_law_groups" ((spD K 4 wLGroups)) := ⟨_, _, _, ok_lgroups F__law_groups T_DTxt C__law_take, PySem.W.mg_of X G a__law_groups, k__law_groups, b__law_groups⟩
  have F__law_table := fun_mk (st := s_law_table) l__law_table c__law_table k__law_table
  have b__law_table := F__law_table.binds (ps := ["groups", "seats"]) fun _ _ _ _ _ _ us hl => match us, hl with | [_, _], _ => rfl
  have C__law_table : Cg l.prog w K mg base CX0 1 "_law_table" ((spP K 2 wLTable)) := ⟨_, _, _, ok_ltable F__law_table T_DTxt, PySem.W.mg_of X G a__law_table, k__law_table, b__law_table⟩
  have F__law_needs := fun_mk (st := s_law_needs) l__law_needs c__law_needs k__law_needs
  have b__law_needs := F__law_needs.binds (ps := ["entry"]) fun _ _ _ _ _ _ us hl => match us, hl with | [_], _ => rfl
  have C__law_needs : Cg l.prog w K mg base CX0 1 "_law_needs" ((spP K 1 wLNeeds)) := ⟨_, _, _, ok_lneeds F__law_needs , PySem.W.mg_of X G a__law_needs, k__law_needs, b__law_needs⟩
  have F__law_ones := fun_mk (st := s_law_ones) l__law_ones c__law_ones k__law_ones
  have b__law_ones := F__law_ones.binds (ps := ["digits"]) fun _ _ _ _ _ _ us hl => match us, hl with | [_], _ => rfl
  have C__law_ones : Cg l.prog w K mg base CX0 1 "_law_ones" ((spP K 1 wLOnes)) := ⟨_, _, _, ok_lones F__law_ones , PySem.W.mg_of X G a__law_ones, k__law_ones, b__law_ones⟩
  have F_is_integer := fun_mk (st := s_is_integer) l_is_integer c_is_integer k_is_integer
  have b_is_integer := F_is_integer.binds (ps := ["value"]) fun _ _ _ _ _ _ us hl => match us, hl with | [_], _ => rfl
  have C_is_integer : Cg l.prog w K mg base CX0 1 "is_integer" ((spP K 1 wIsInt)) := ⟨_, _, _, ok_isint F_is_integer T_DTxt, PySem.W.mg_of X G a_is_integer, k_is_integer, b_is_integer⟩
  have F_is_within := fun_mk (st := s_is_within) l_is_within c_is_within k_is_within
  have b_is_within := F_is_within.binds (ps := ["value", "low", "high"]) fun _ _ _ _ _ _ us hl => match us, hl with | [_, _, _], _ => rfl
  have C_is_within : Cg l.prog w K mg base CX0 2 "is_within" ((spP K 3 wWithin)) := ⟨_, _, _, ok_within F_is_within C_is_integer, PySem.W.mg_of X G a_is_within, k_is_within, b_is_within⟩
  have F_is_short := fun_mk (st := s_is_short) l_is_short c_is_short k_is_short
  have b_is_short := F_is_short.binds (ps := ["value", "most"]) fun _ _ _ _ _ _ us hl => match us, hl with | [_, _], _ => rfl
  have C_is_short : Cg l.prog w K mg base CX0 1 "is_short" ((spP K 2 wIsShort)) := ⟨_, _, _, ok_isshort F_is_short T_DTxt, PySem.W.mg_of X G a_is_short, k_is_short, b_is_short⟩
  have F_is_row := fun_mk (st := s_is_row) l_is_row c_is_row k_is_row
  have b_is_row := F_is_row.binds (ps := ["value", "size"]) fun _ _ _ _ _ _ us hl => match us, hl with | [_, _], _ => rfl
  have C_is_row : Cg l.prog w K mg base CX0 1 "is_row" ((spP K 2 wIsRow)) := ⟨_, _, _, ok_isrow F_is_row T_DTxt, PySem.W.mg_of X G a_is_row, k_is_row, b_is_row⟩
  have F_is_group := fun_mk (st := s_is_group) l_is_group c_is_group k_is_group
  have b_is_group := F_is_group.binds (ps := ["value", "seats"]) fun _ _ _ _ _ _ us hl => match us, hl with | [_, _], _ => rfl
  have C_is_group : Cg l.prog w K mg base CX0 3 "is_group" ((spP K 2 wIsGroup)) := ⟨_, _, _, ok_isgroup F_is_group T_DTxt C_is_row C_is_within, PySem.W.mg_of X G a_is_group, k_is_group, b_is_group⟩
  have F_are_unlike := fun_mk (st := s_are_unlike) l_are_unlike c_are_unlike k_are_unlike
  have b_are_unlike := F_are_unlike.binds (ps := ["names"]) fun _ _ _ _ _ _ us hl => match us, hl with | [_], _ => rfl
  have C_are_unlike : Cg l.prog w K mg base CX0 1 "are_unlike" ((spP K 1 wUnlike)) := ⟨_, _, _, ok_unlike F_are_unlike T_DTxt, PySem.W.mg_of X G a_are_unlike, k_are_unlike, b_are_unlike⟩
  have F_require := fun_mk (st := s_require) l_require c_require k_require
  have T_ArgErr : ArgErr K mg C_ArgumentError fI_ArgumentError := { m_ArgumentError := PySem.W.mg_of X G aC_ArgumentError, o_ArgumentError := ⟨⟨_, _, _, _, _, _, _, _, _, _, _, _, _, _, _, xC_ArgumentError, rfl⟩, sa_ArgumentError, eC_ArgumentError, tC_ArgumentError, kC_ArgumentError⟩, x_ArgumentError := ⟨ga_ArgumentError, gg_ArgumentError, eC_ArgumentError, hC_ArgumentError⟩, n_ArgumentError_reason := no_ArgumentError_reason, i_ArgumentError := ai_ArgumentError, t_ArgumentError := ti_ArgumentError }
  have F_ArgumentErrorI := fun_mk (st := s_ArgumentErrorD_initD) li_ArgumentError ci_ArgumentError ki_ArgumentError
  have b_fI_ArgumentError := F_ArgumentErrorI.binds (ps := ["self", "reason"]) fun _ _ _ _ _ _ us hl => match us, hl with | [_, _], _ => rfl
  have fi_ArgumentError := ok_init (P := l.prog) (w := w) (base := base) F_ArgumentErrorI T_ArgErr
  have b_require := F_require.binds (ps := ["holds", "reason"]) fun _ _ _ _ _ _ us hl => match us, hl with | [_, _], _ => rfl
  have C_require : Cg l.prog w K mg base (L2.CX l.prog w) 3 "require" ((spP K 2 (wRequire C_ArgumentError))) := ⟨_, _, _, ok_require F_require T_ArgErr fi_ArgumentError b_fI_ArgumentError, PySem.W.mg_of X G a_require, k_require, b_require⟩
  have F_require_groups := fun_mk (st := s_require_groups) l_require_groups c_require_groups k_require_groups
  have T_SeaTxt : SeaTxt mg := { toDTxt := T_DTxt, g_MAX_GROUPS := ⟨_, PySem.W.mg_of X G gMAX_GROUPS, ⟨_, rfl⟩⟩, g_MAX_SEATED := ⟨_, PySem.W.mg_of X G gMAX_SEATED, ⟨_, rfl⟩⟩, g_MAX_ROWS := ⟨_, PySem.W.mg_of X G gMAX_ROWS, ⟨_, rfl⟩⟩ }
  have b_require_groups := F_require_groups.binds (ps := ["groups", "rows", "seats"]) fun _ _ _ _ _ _ us hl => match us, hl with | [_, _, _], _ => rfl
  have C_require_groups : Cg l.prog w K mg base (L2.CX l.prog w) 4 "require_groups" ((spP K 3 (wReqG C_ArgumentError))) := ⟨_, _, _, ok_reqG F_require_groups T_SeaTxt C_is_within C_is_short C_is_group C_are_unlike C_require, PySem.W.mg_of X G a_require_groups, k_require_groups, b_require_groups⟩
  have F_members := fun_mk (st := s_members) l_members c_members k_members
  have b_members := F_members.binds (ps := ["number"]) fun _ _ _ _ _ _ us hl => match us, hl with | [_], _ => rfl
  have C_members : Cg l.prog w K mg base CX0 1 "members" ((spP K 1 wMembers)) := ⟨_, _, _, ok_members F_members T_DTxt, PySem.W.mg_of X G a_members, k_members, b_members⟩
  have F_behind := fun_mk (st := s_behind) l_behind c_behind k_behind
  have b_behind := F_behind.binds (ps := ["entry", "size", "seats"]) fun _ _ _ _ _ _ us hl => match us, hl with | [_, _, _], _ => rfl
  have C_behind : Cg l.prog w K mg base CX0 1 "behind" ((spP K 3 wBehind)) := ⟨_, _, _, ok_behind F_behind , PySem.W.mg_of X G a_behind, k_behind, b_behind⟩
  have F_entry_for := fun_mk (st := s_entry_for) l_entry_for c_entry_for k_entry_for
  have b_entry_for := F_entry_for.binds (ps := ["groups", "seats", "table", "number"]) fun _ _ _ _ _ _ us hl => match us, hl with | [_, _, _, _], _ => rfl
  have C_entry_for : Cg l.prog w K mg base CX0 2 "entry_for" ((spP K 4 wEntry)) := ⟨_, _, _, ok_entry F_entry_for T_DTxt C_members C_behind, PySem.W.mg_of X G a_entry_for, k_entry_for, b_entry_for⟩
  have F_find_table := fun_mk (st := s_find_table) l_find_table c_find_table k_find_table
  have b_find_table := F_find_table.binds (ps := ["groups", "seats"]) fun _ _ _ _ _ _ us hl => match us, hl with | [_, _], _ => rfl
  have C_find_table : Cg l.prog w K mg base CX0 3 "find_table" ((spP K 2 wFind)) := ⟨_, _, _, ok_find F_find_table T_DTxt C_entry_for, PySem.W.mg_of X G a_find_table, k_find_table, b_find_table⟩
  have F_rows_used := fun_mk (st := s_rows_used) l_rows_used c_rows_used k_rows_used
  have b_rows_used := F_rows_used.binds (ps := ["entry"]) fun _ _ _ _ _ _ us hl => match us, hl with | [_], _ => rfl
  have C_rows_used : Cg l.prog w K mg base CX0 1 "rows_used" ((spP K 1 wUsed)) := ⟨_, _, _, ok_used F_rows_used , PySem.W.mg_of X G a_rows_used, k_rows_used, b_rows_used⟩
  have F_order_of := fun_mk (st := s_order_of) l_order_of c_order_of k_order_of
  have b_order_of := F_order_of.binds (ps := ["groups", "seats", "table", "number"]) fun _ _ _ _ _ _ us hl => match us, hl with | [_, _, _, _], _ => rfl
  have C_order_of : Cg l.prog w K mg base CX0 2 "order_of" ((spP K 4 wOrder)) := ⟨_, _, _, ok_order F_order_of T_DTxt C_members C_behind, PySem.W.mg_of X G a_order_of, k_order_of, b_order_of⟩
  have F_seating_of := fun_mk (st := s_seating_of) l_seating_of c_seating_of k_seating_of
  have b_seating_of := F_seating_of.binds (ps := ["groups", "seats", "table", "number"]) fun _ _ _ _ _ _ us hl => match us, hl with | [_, _, _, _], _ => rfl
  have C_seating_of : Cg l.prog w K mg base CX0 3 "seating_of" ((spP K 4 wSeating)) := ⟨_, _, _, ok_seating F_seating_of T_DTxt C_order_of, PySem.W.mg_of X G a_seating_of, k_seating_of, b_seating_of⟩
  have F_seated := fun_mk (st := s_seated) l_seated c_seated k_seated
  have b_seated := F_seated.binds (ps := ["groups", "rows", "seats"]) fun _ _ _ _ _ _ us hl => match us, hl with | [_, _, _], _ => rfl
  have C_seated : Cg l.prog w K mg base (L2.CX l.prog w) 5 "seated" ((spP K 3 (wSeated C_ArgumentError))) := ⟨_, _, _, ok_seated F_seated T_DTxt C_require_groups C_find_table C_members C_rows_used C_seating_of, PySem.W.mg_of X G a_seated, k_seated, b_seated⟩
  have F_seat_table := fun_mk (st := s_seat_table) l_seat_table c_seat_table k_seat_table
  have b_seat_table := F_seat_table.binds (ps := ["groups", "rows", "seats"]) fun _ _ _ _ _ _ us hl => match us, hl with | [_, _, _], _ => rfl
  have C_seat_table : Cg l.prog w K mg base (L2.CX l.prog w) 5 "seat_table" ((spP K 3 (wSeatTab C_ArgumentError))) := ⟨_, _, _, ok_seattab F_seat_table T_DTxt C_require_groups C_find_table, PySem.W.mg_of X G a_seat_table, k_seat_table, b_seat_table⟩
  have F__law_plan_right := fun_mk (st := s_law_plan_right) l__law_plan_right c__law_plan_right k__law_plan_right
  have b__law_plan_right := F__law_plan_right.binds (ps := ["groups", "rows", "seats", "number", "plan"]) fun _ _ _ _ _ _ us hl => match us, hl with | [_, _, _, _, _], _ => rfl
  have C__law_plan_right : Cg l.prog w K mg base CX0 1 "_law_plan_right" ((spP K 5 wLPlan)) := ⟨_, _, _, ok_lplan F__law_plan_right T_DTxt, PySem.W.mg_of X G a__law_plan_right, k__law_plan_right, b__law_plan_right⟩
  have F__law_bent := fun_mk (st := s_law_bent) l__law_bent c__law_bent k__law_bent
  have b__law_bent := F__law_bent.binds (ps := ["table", "draws", "at"]) fun _ _ _ _ _ _ us hl => match us, hl with | [_, _, _], _ => rfl
  have C__law_bent : Cg l.prog w K mg base CX0 4 "_law_bent" ((spD K 3 wLBent)) := ⟨_, _, _, ok_lbent F__law_bent T_DTxt C__law_take C__law_one, PySem.W.mg_of X G a__law_bent, k__law_bent, b__law_bent⟩
  have F__law_has_form := fun_mk (st := s_law_has_form) l__law_has_form c__law_has_form k__law_has_form
  have b__law_has_form := F__law_has_form.binds (ps := ["value", "size"]) fun _ _ _ _ _ _ us hl => match us, hl with | [_, _], _ => rfl
  have C__law_has_form : Cg l.prog w K mg base CX0 1 "_law_has_form" ((spP K 2 wLForm)) := ⟨_, _, _, ok_lform F__law_has_form T_DTxt, PySem.W.mg_of X G a__law_has_form, k__law_has_form, b__law_has_form⟩
  have F_are_integers := fun_mk (st := s_are_integers) l_are_integers c_are_integers k_are_integers
  have b_are_integers := F_are_integers.binds (ps := ["value"]) fun _ _ _ _ _ _ us hl => match us, hl with | [_], _ => rfl
  have C_are_integers : Cg l.prog w K mg base CX0 2 "are_integers" ((spP K 1 wAreInts)) := ⟨_, _, _, ok_areints F_are_integers T_DTxt C_is_integer, PySem.W.mg_of X G a_are_integers, k_are_integers, b_are_integers⟩
  have F_accept_seat_table := fun_mk (st := s_accept_seat_table) l_accept_seat_table c_accept_seat_table k_accept_seat_table
  have T_PapErr : PapErr K mg C_PaperError fI_PaperError := { m_PaperError := PySem.W.mg_of X G aC_PaperError, o_PaperError := ⟨⟨_, _, _, _, _, _, _, _, _, _, _, _, _, _, _, xC_PaperError, rfl⟩, sa_PaperError, eC_PaperError, tC_PaperError, kC_PaperError⟩, x_PaperError := ⟨ga_PaperError, gg_PaperError, eC_PaperError, hC_PaperError⟩, n_PaperError_reason := no_PaperError_reason, i_PaperError := ai_PaperError, t_PaperError := ti_PaperError }
  have T_AccTxt : AccTxt K mg C_PaperError fI_PaperError := { toDTxt := T_DTxt, toPapErr := T_PapErr }
  have F_PaperErrorI := fun_mk (st := s_PaperErrorD_initD) li_PaperError ci_PaperError ki_PaperError
  have b_fI_PaperError := F_PaperErrorI.binds (ps := ["self", "reason"]) fun _ _ _ _ _ _ us hl => match us, hl with | [_, _], _ => rfl
  have fi_PaperError := ok_initp (P := l.prog) (w := w) (base := base) F_PaperErrorI T_PapErr
  have b_accept_seat_table := F_accept_seat_table.binds (ps := ["groups", "rows", "seats", "table"]) fun _ _ _ _ _ _ us hl => match us, hl with | [_, _, _, _], _ => rfl
  have C_accept_seat_table : Cg l.prog w K mg base (L2.CX l.prog w) 5 "accept_seat_table" ((spP K 4 (wAccept C_ArgumentError C_PaperError))) := ⟨_, _, _, ok_accept F_accept_seat_table T_AccTxt fi_PaperError b_fI_PaperError C_require_groups C_is_row C_are_integers C_entry_for, PySem.W.mg_of X G a_accept_seat_table, k_accept_seat_table, b_accept_seat_table⟩
  have F__law_told := fun_mk (st := s_law_told) l__law_told c__law_told k__law_told
  have T_ToldTxt : ToldTxt K mg C_ArgumentError C_PaperError fI_ArgumentError fI_PaperError := { toArgErr := T_ArgErr, toPapErr := T_PapErr, e_ArgumentError := exm_self eC_ArgumentError iC_ArgumentError tC_ArgumentError sC_ArgumentError, e_PaperError := exm_self eC_PaperError iC_PaperError tC_PaperError sC_PaperError, en_ArgumentError := exm_no eC_PaperError iC_PaperError tC_PaperError sn_AP }
  have b__law_told := F__law_told.binds (ps := ["call", "groups", "rows", "seats", "table"]) fun _ _ _ _ _ _ us hl => match us, hl with | [_, _, _, _, _], _ => rfl
  have C__law_told : Cg l.prog w K mg base CX0 6 "_law_told" ((spP K 5 wLTold)) := ⟨_, _, _, ok_ltold F__law_told T_ToldTxt C_seat_table C_seated C_accept_seat_table, PySem.W.mg_of X G a__law_told, k__law_told, b__law_told⟩
  have F_law := fun_mk (st := s_law) l_law c_law k_law
  have T_LawTop : LawTop mg := { toDTxt := T_DTxt }
  exact ok_law F_law T_LawTop C__law_draws C__law_take C__law_one C__law_groups C__law_table C__law_needs C__law_ones (C_seated).calm (C_seat_table).calm C__law_plan_right C__law_bent C__law_has_form C__law_told
end Mine
open PySem PySem.W PyProof.Rows
set_option maxHeartbeats 0 in
theorem PySem.Challenge.cw_interline_k84_whole_seated_groups_holds : PySem.Challenge.rw_interline_k84_whole_seated_groups.Holds := by
  w_on; o_law; k_head; (case hw => w_witness2)
  k_fill
  refine Ln.walkG (l := PySem.Challenge.rw_interline_k84_whole_seated_groups) (n := 63) (k := 7) (x := "script") (CX := fun _ => L2.CX0) (sp := fun w => Mine.spLaw _) rfl (by decide) rfl ⟨rfl, by decide, by decide⟩ (fun w h Y => PySem.W.kIn_of Y) ?F (fun _ _ a ns hl _ hS => ⟨a, ns, rfl, hS, hl, fun _ => rfl⟩) (fun _ _ _ _ _ h => h)
  case F =>
    intro w mg fa h KX G hmg
    refine' Mine.all_mk KX G hmg ?aC_ArgumentError ?xC_ArgumentError ?sa_ArgumentError ?ga_ArgumentError ?gg_ArgumentError ?no_ArgumentError_reason ?kC_ArgumentError ?eC_ArgumentError ?tC_ArgumentError ?hC_ArgumentError ?iC_ArgumentError ?sC_ArgumentError ?ai_ArgumentError ?ti_ArgumentError ?li_ArgumentError ?ci_ArgumentError ?ki_ArgumentError ?aC_PaperError ?xC_PaperError ?sa_PaperError ?ga_PaperError ?gg_PaperError ?no_PaperError_reason ?kC_PaperError ?eC_PaperError ?tC_PaperError ?hC_PaperError ?iC_PaperError ?sC_PaperError ?ai_PaperError ?ti_PaperError ?li_PaperError ?ci_PaperError ?ki_PaperError ?sn_AP ?gMAX_GROUPS ?gMAX_ROWS ?gMAX_SEATED ?a__law_draws ?l__law_draws ?c__law_draws ?k__law_draws ?a__law_more ?l__law_more ?c__law_more ?k__law_more ?a__law_take ?l__law_take ?c__law_take ?k__law_take ?a__law_one ?l__law_one ?c__law_one ?k__law_one ?a__law_groups ?l__law_groups ?c__law_groups ?k__law_groups ?a__law_table ?l__law_table ?c__law_table ?k__law_table ?a__law_needs ?l__law_needs ?c__law_needs ?k__law_needs ?a__law_ones ?l__law_ones ?c__law_ones ?k__law_ones ?a_is_integer ?l_is_integer ?c_is_integer ?k_is_integer ?a_is_within ?l_is_within ?c_is_within ?k_is_within ?a_is_short ?l_is_short ?c_is_short ?k_is_short ?a_is_row ?l_is_row ?c_is_row ?k_is_row ?a_is_group ?l_is_group ?c_is_group ?k_is_group ?a_are_unlike ?l_are_unlike ?c_are_unlike ?k_are_unlike ?a_require ?l_require ?c_require ?k_require ?a_require_groups ?l_require_groups ?c_require_groups ?k_require_groups ?a_members ?l_members ?c_members ?k_members ?a_behind ?l_behind ?c_behind ?k_behind ?a_entry_for ?l_entry_for ?c_entry_for ?k_entry_for ?a_find_table ?l_find_table ?c_find_table ?k_find_table ?a_rows_used ?l_rows_used ?c_rows_used ?k_rows_used ?a_order_of ?l_order_of ?c_order_of ?k_order_of ?a_seating_of ?l_seating_of ?c_seating_of ?k_seating_of ?a_seated ?l_seated ?c_seated ?k_seated ?a_seat_table ?l_seat_table ?c_seat_table ?k_seat_table ?a__law_plan_right ?l__law_plan_right ?c__law_plan_right ?k__law_plan_right ?a__law_bent ?l__law_bent ?c__law_bent ?k__law_bent ?a__law_has_form ?l__law_has_form ?c__law_has_form ?k__law_has_form ?a_are_integers ?l_are_integers ?c_are_integers ?k_are_integers ?a_accept_seat_table ?l_accept_seat_table ?c_accept_seat_table ?k_accept_seat_table ?a__law_told ?l__law_told ?c__law_told ?k__law_told ?a_law ?l_law ?c_law ?k_law ?z_abs ?z_all ?z_any ?z_bool ?z_dict ?z_enumerate ?z_int ?z_isinstance ?z_len ?z_list ?z_max ?z_min ?z_range ?z_repr ?z_reversed ?z_set ?z_sorted ?z_str ?z_sum ?z_tuple ?z_zip
    (case aC_ArgumentError => k_is)
    (case xC_ArgumentError => k_is)
    (case sa_ArgumentError => k_is)
    (case ga_ArgumentError => k_is)
    (case gg_ArgumentError => k_is)
    (case no_ArgumentError_reason => k_is)
    (case kC_ArgumentError => k_is)
    (case eC_ArgumentError => k_is)
    (case tC_ArgumentError => k_is)
    (case hC_ArgumentError => k_is)
    (case iC_ArgumentError => k_is)
    (case sC_ArgumentError => first | rfl | k_is)
    (case ai_ArgumentError => k_is)
    (case ti_ArgumentError => k_is)
    (case li_ArgumentError => k_is)
    (case ci_ArgumentError => k_is)
    (case ki_ArgumentError => k_is)
    (case aC_PaperError => k_is)
    (case xC_PaperError => k_is)
    (case sa_PaperError => k_is)
    (case ga_PaperError => k_is)
    (case gg_PaperError => k_is)
    (case no_PaperError_reason => k_is)
    (case kC_PaperError => k_is)
    (case eC_PaperError => k_is)
    (case tC_PaperError => k_is)
    (case hC_PaperError => k_is)
    (case iC_PaperError => k_is)
    (case sC_PaperError => first | rfl | k_is)
    (case ai_PaperError => k_is)
    (case ti_PaperError => k_is)
    (case li_PaperError => k_is)
    (case ci_PaperError => k_is)
    (case ki_PaperError => k_is)
    (case sn_AP => k_is)
    (case gMAX_GROUPS => k_is)
    (case gMAX_ROWS => k_is)
    (case gMAX_SEATED => k_is)
    (case a__law_draws => k_is)
    (case l__law_draws => k_is)
    (case c__law_draws => k_is)
    (case k__law_draws => k_is)
    (case a__law_more => k_is)
    (case l__law_more => k_is)
    (case c__law_more => k_is)
    (case k__law_more => k_is)
    (case a__law_take => k_is)
    (case l__law_take => k_is)
    (case c__law_take => k_is)
    (case k__law_take => k_is)
    (case a__law_one => k_is)
    (case l__law_one => k_is)
    (case c__law_one => k_is)
    (case k__law_one => k_is)
    (case a__law_groups => k_is)
    (case l__law_groups => k_is)
    (case c__law_groups => k_is)
    (case k__law_groups => k_is)
    (case a__law_table => k_is)
    (case l__law_table => k_is)
    (case c__law_table => k_is)
    (case k__law_table => k_is)
    (case a__law_needs => k_is)
    (case l__law_needs => k_is)
    (case c__law_needs => k_is)
    (case k__law_needs => k_is)
    (case a__law_ones => k_is)
    (case l__law_ones => k_is)
    (case c__law_ones => k_is)
    (case k__law_ones => k_is)
    (case a_is_integer => k_is)
    (case l_is_integer => k_is)
    (case c_is_integer => k_is)
    (case k_is_integer => k_is)
    (case a_is_within => k_is)
    (case l_is_within => k_is)
    (case c_is_within => k_is)
    (case k_is_within => k_is)
    (case a_is_short => k_is)
    (case l_is_short => k_is)
    (case c_is_short => k_is)
    (case k_is_short => k_is)
    (case a_is_row => k_is)
    (case l_is_row => k_is)
    (case c_is_row => k_is)
    (case k_is_row => k_is)
    (case a_is_group => k_is)
    (case l_is_group => k_is)
    (case c_is_group => k_is)
    (case k_is_group => k_is)
    (case a_are_unlike => k_is)
    (case l_are_unlike => k_is)
    (case c_are_unlike => k_is)
    (case k_are_unlike => k_is)
    (case a_require => k_is)
    (case l_require => k_is)
    (case c_require => k_is)
    (case k_require => k_is)
    (case a_require_groups => k_is)
    (case l_require_groups => k_is)
    (case c_require_groups => k_is)
    (case k_require_groups => k_is)
    (case a_members => k_is)
    (case l_members => k_is)
    (case c_members => k_is)
    (case k_members => k_is)
    (case a_behind => k_is)
    (case l_behind => k_is)
    (case c_behind => k_is)
    (case k_behind => k_is)
    (case a_entry_for => k_is)
    (case l_entry_for => k_is)
    (case c_entry_for => k_is)
    (case k_entry_for => k_is)
    (case a_find_table => k_is)
    (case l_find_table => k_is)
    (case c_find_table => k_is)
    (case k_find_table => k_is)
    (case a_rows_used => k_is)
    (case l_rows_used => k_is)
    (case c_rows_used => k_is)
    (case k_rows_used => k_is)
    (case a_order_of => k_is)
    (case l_order_of => k_is)
    (case c_order_of => k_is)
    (case k_order_of => k_is)
    (case a_seating_of => k_is)
    (case l_seating_of => k_is)
    (case c_seating_of => k_is)
    (case k_seating_of => k_is)
    (case a_seated => k_is)
    (case l_seated => k_is)
    (case c_seated => k_is)
    (case k_seated => k_is)
    (case a_seat_table => k_is)
    (case l_seat_table => k_is)
    (case c_seat_table => k_is)
    (case k_seat_table => k_is)
    (case a__law_plan_right => k_is)
    (case l__law_plan_right => k_is)
    (case c__law_plan_right => k_is)
    (case k__law_plan_right => k_is)
    (case a__law_bent => k_is)
    (case l__law_bent => k_is)
    (case c__law_bent => k_is)
    (case k__law_bent => k_is)
    (case a__law_has_form => k_is)
    (case l__law_has_form => k_is)
    (case c__law_has_form => k_is)
    (case k__law_has_form => k_is)
    (case a_are_integers => k_is)
    (case l_are_integers => k_is)
    (case c_are_integers => k_is)
    (case k_are_integers => k_is)
    (case a_accept_seat_table => k_is)
    (case l_accept_seat_table => k_is)
    (case c_accept_seat_table => k_is)
    (case k_accept_seat_table => k_is)
    (case a__law_told => k_is)
    (case l__law_told => k_is)
    (case c__law_told => k_is)
    (case k__law_told => k_is)
    (case a_law => k_is)
    (case l_law => k_is)
    (case c_law => k_is)
    (case k_law => k_is)
    (case z_abs => k_is)
    (case z_all => k_is)
    (case z_any => k_is)
    (case z_bool => k_is)
    (case z_dict => k_is)
    (case z_enumerate => k_is)
    (case z_int => k_is)
    (case z_isinstance => k_is)
    (case z_len => k_is)
    (case z_list => k_is)
    (case z_max => k_is)
    (case z_min => k_is)
    (case z_range => k_is)
    (case z_repr => k_is)
    (case z_reversed => k_is)
    (case z_set => k_is)
    (case z_sorted => k_is)
    (case z_str => k_is)
    (case z_sum => k_is)
    (case z_tuple => k_is)
    (case z_zip => k_is)
#print axioms PySem.Challenge.cw_interline_k84_whole_seated_groups_holds
