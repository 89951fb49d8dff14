import PyProof.Rows.All
import Wide.All
import OpenK.AllK
import Wide.FinOn
import PyProof.EqAt
import PyProof.EqKinds
import PyProof.TupleCall
import PyProof.ReprRoads
import HandS.ForMost
import HandS.ForExc
import HandS.ExcInit
import HandS.ExcField
import HandS.IsInst
import HandS.Codes
import HandS.Conv
import HandS.Flow
import HandS.SortRule
import HandS.TupMul
import HandS.TupAny
import HandS.Walk
import PyProof.ReprLen
import PySem.Challenge.RW_interline_k20_whole_shares
import HandS.Words
set_option Elab.async false
set_option linter.all false
set_option maxRecDepth 100000
set_option maxHeartbeats 4000000
namespace Ln
open PySem PySem.Spec PyProof.Rows L2
/-! ## contracts that know that no display is under way -/
structure FnG (P : Program) (w : World) (K : PySem.W.Frag) (mg : Str → Option Value) (base : Heap) (CX : CXT) (k : Nat) (f : Addr) (fd : FuncData) (ps : List Str) (sp : Sp) : Prop where
  len : ∀ vs H Q E, sp vs H Q E → vs.length = ps.length
  run : ∀ (A : Around) (outer : List Env) (s : Shared) (H : Hp) (args : Args) (us : List Value) (vs : List V) (Q : VK) (E : XK), A.guards = some [] → Room k A → Env0 P w K mg base A outer s H →
    BindsTo s fd args (ps.zip us) → Vals vs us → sp vs H Q E → codeAny (model P w) A (.call (.ref f) args) (CR CX outer P w H s Q E) s
section
variable {P : Program} {w : World} {K : PySem.W.Frag} {mg : Str → Option Value} {base : Heap} {CX : CXT}
theorem FnG.mono {j k : Nat} {f : Addr} {fd : FuncData} {ps : List Str} {sp : Sp} (F : FnG P w K mg base CX j f fd ps sp) (h : j ≤ k) : FnG P w K mg base CX k f fd ps sp :=
  ⟨F.len, fun A o s H args us vs Q E hG hr => F.run A o s H args us vs Q E hG (hr.mono h)⟩
/-- the body of a def, walked where nothing is being shown -/
theorem fnG_of {k : Nat} {f : Addr} {name qual : Str} {params : Arguments} {body : List Stmt} {scope : Scope} {dV kV doc pm cdv ct oc : Value} {an od : Option Addr} {osl : Array (Option Value)} {N ps : List Str} {sp : Sp}
    (lk : K.lookup f = some ⟨oc, od, .func (PySem.W.fnOf name qual params body scope dV kV doc pm an cdv ct), osl⟩) (hcd : PySem.W.codeIn K cdv qual = true) (S : FnScope N ps scope) (len : ∀ vs H Q E, sp vs H Q E → vs.length = ps.length)
    (hbody : ∀ (A : Around) (outer : List Env) (s : Shared) (H : Hp) (vs : List V) (Q : VK) (E : XK), A.guards = some [] → Room k (A.deeper (envOfC qual scope s.heap.objs.size f cdv)) → sp vs H Q E →
      ∃ t, PSs (cxOf CX P w K mg base N qual scope f cdv A outer s H E) body t ∧ t { nx := fun _ H' => Q .non H', rt := Q } (start N vs) H) :
    FnG P w K mg base CX (k + 1) f (PySem.W.fnOf name qual params body scope dV kV doc pm an cdv ct) ps sp := by
  constructor
  · exact len
  intro A outer s H args us vs Q E hG hr e0 hb r hsp
  have hl := len _ _ _ _ hsp
  have KX : K.In s.heap := e0.mod.kin.keeps fun b o e => (e0.bs b o e).1
  have lim : s.heap.NoLimit := e0.mod.nolimit.keeps fun b o e => (e0.bs b o e).1
  have hkind : ∀ y ∈ ps.zip us, scope.names.lookup y.1 = some .local ∨ (scope.names.lookup y.1 = some .cell ∧ ((cellsFrom (s.heap.objs.size + 1) scope.names []).lookup y.1).isSome = true) := by
    rintro ⟨n, v⟩ hy
    cases S.par n (List.of_mem_zip hy).1 with
    | inl q => exact .inl q
    | inr q => exact .inr ⟨q, PySem.W.cellsFrom_some _ _ _ (.inl q)⟩
  apply codeAny_call_function hr.depth (KX _ _ lk) rfl S.co S.gen rfl (PySem.W.codeRec_of KX hcd) (hb _ _ _ _ ?_)
  apply wpAny_newFunctionEnv_cells S.kind hkind
  intro env he s1 x
  subst he
  constructor
  · exact lim.keeps x.toInCall.keep
  apply codeAny_func
  obtain ⟨t, ht, hq⟩ := hbody A outer s H vs Q E hG (hr.deeper _) hsp
  have I : Inv (cxOf CX P w K mg base N qual scope f cdv A outer s H E) [] (start N vs) H s1 := inv_start S hr.hd e0 hl r x
  apply wpAny_mono (ht.run [] s1 (start N vs) H _ I hq) _ (fun e s' hs => hs)
  intro fl s' hs
  cases fl with
  | ret u =>
    obtain ⟨v, σ', H', J, rv, q⟩ := hs
    exact ⟨v, H', J.os, J.bare, J.base, J.hok, rv, q⟩
  | next =>
    obtain ⟨σ', H', J, q⟩ := hs
    exact ⟨V.non, H', J.os, J.bare, J.base, J.hok, rfl, q⟩
  | brk =>
    obtain ⟨_, _, _, q⟩ := hs
    cases q
  | cont =>
    obtain ⟨_, _, _, q⟩ := hs
    cases q
/-- a def of the text that lets nothing out -/
theorem okG {x qual : Str} {st : Stmt} {f : Addr} {fd : FuncData} {N ps : List Str} {k : Nat} {sp : Sp} (F : Fun K x qual st f fd) (S : FnScope N ps (defScope st)) (len : ∀ vs H Q E, sp vs H Q E → vs.length = ps.length)
    (hbody : ∀ (cdv : Value) (A : Around) (outer : List Env) (s : Shared) (H : Hp) (vs : List V) (Q : VK) (E : XK), A.guards = some [] → Room k (A.deeper (envOfC qual (defScope st) s.heap.objs.size f cdv)) → sp vs H Q E →
      ∃ t, PSs (cxOf CX0 P w K mg base N qual (defScope st) f cdv A outer s H E).nox (defBody st) t ∧ t { nx := fun _ H' => Q .non H', rt := Q } (start N vs) H) : FnG P w K mg base CX0 (k + 1) f fd ps sp := by
  obtain ⟨oc, od, kV, doc, pm, an, cdv, ct, osl, rfl, lk, hcd⟩ := F.ex
  apply fnG_of lk hcd S len
  intro A outer s H vs Q E hG hr hsp
  obtain ⟨t, h, q⟩ := hbody cdv A outer s H vs Q E hG hr hsp
  exact ⟨t, h.nox, q⟩
/-- one that may raise -/
theorem okX {x qual : Str} {st : Stmt} {f : Addr} {fd : FuncData} {N ps : List Str} {k : Nat} {sp : Sp} (F : Fun K x qual st f fd) (S : FnScope N ps (defScope st)) (len : ∀ vs H Q E, sp vs H Q E → vs.length = ps.length)
    (hbody : ∀ (cdv : Value) (A : Around) (outer : List Env) (s : Shared) (H : Hp) (vs : List V) (Q : VK) (E : XK), A.guards = some [] → Room k (A.deeper (envOfC qual (defScope st) s.heap.objs.size f cdv)) → sp vs H Q E →
      ∃ t, PSs (cxOf (L2.CX P w) P w K mg base N qual (defScope st) f cdv A outer s H E) (defBody st) t ∧ t { nx := fun _ H' => Q .non H', rt := Q } (start N vs) H) : FnG P w K mg base (L2.CX P w) (k + 1) f fd ps sp := by
  obtain ⟨oc, od, kV, doc, pm, an, cdv, ct, osl, rfl, lk, hcd⟩ := F.ex
  exact fnG_of lk hcd S len fun A outer s H vs Q E hG hr hsp => hbody cdv A outer s H vs Q E hG hr hsp
/-- a def that may be called by its name -/
structure Cg (P : Program) (w : World) (K : PySem.W.Frag) (mg : Str → Option Value) (base : Heap) (CX : CXT) (k : Nat) (x : Str) (sp : Sp) : Prop where
  ex : ∃ (f : Addr) (fd : FuncData) (ps : List Str), FnG P w K mg base CX k f fd ps sp ∧ mg x = some (.ref f) ∧ PySem.W.keepIn K (.ref f) = true ∧ Binds K fd ps []
end
section
variable {X : Cx} {CX : CXT} {j k : Nat} {f : Addr} {fd : FuncData} {ps : List Str} {sp : Sp} {E : XK} {ES : L2.St → XK} {x : Str} {p pos : Pos} {e : Expr} {es : List Expr} {t : TA}
theorem runG {pins : List (Addr × Obj)} {σ : L2.St} {H : Hp} {s : Shared} {Q : VK} {us : List Value} {vs : List V} (F : FnG X.prog X.w X.K X.mg X.base CX k f fd ps sp) (hr : Room k X.A) (hG : X.A.guards = some []) (hb : Binds X.K fd ps [])
    (hx : PassesAt CX X σ E) (I : Inv X pins σ H s) (r : Vals vs us) (h : sp vs H Q E) : wpAny (model X.prog X.w) X.A (call (.ref f) us) (EP X pins σ Q) X.xe s := by
  have hl : us.length = ps.length := by rw [← r.length]; exact F.len _ _ _ _ h
  apply wpAny_call (codeAny_mono (F.run X.A X.stack s H ⟨us, []⟩ us vs Q E hG hr I.env0 (by have q := hb s us I.kIn (by simpa using hl); simpa using q) r h) _)
  intro r s' hq
  cases r with
  | error e => exact hx pins H s e s' I hq
  | ok fl =>
    cases fl with
    | ret u => exact I.after hq
    | next => exact hq.elim
    | brk => exact hq.elim
    | cont => exact hq.elim
/-- the reading of a call -/
def tCg (sp : Sp) (E : L2.St → XK) (t : TA) : TE := fun σ H Q => t σ H fun vs H1 => sp vs H1 Q (E σ)
theorem pe_cgS (c : Cg X.prog X.w X.K X.mg X.base CX k x sp) (hr : Room j X.A) (hk : k ≤ j) (hG : X.A.guards = some []) (hx : ∀ σ, PassesAt CX X σ (ES σ)) (hg : Gl X x) (ha : PA X (e :: es) t)
    (hdb : (x == ("__debug__" : Str)) = false := by decide) (he : starEach (e :: es) X.env = (false, eval e X.env) :: starEach es X.env := by rfl) (hpl : (backTo pos (starEach es X.env)).any (·.1) = false := by rfl) :
    PE X (.Call (.Name x p) (e :: es) [] pos) (tCg sp ES t) := by
  constructor
  intro pins s σ H Q I h
  obtain ⟨f, fd, ps, F, hm, kp, b⟩ := c.ex
  apply wpAny_Call_Name_kw (ld_glob I hg hm ?_ hdb)
  apply PySem.W.callWith_K (h₀ := X.base) I.ok.mod.kin kp (thn (ha.run pos pins s σ H _ I h) _) he hpl
  rintro us s1 ⟨vs, H1, I1, r, q⟩
  exact ⟨I1.kIn, runG F (hr.mono hk) hG b (hx σ) I1 r q⟩
theorem pe_cgS0 (c : Cg X.prog X.w X.K X.mg X.base CX k x sp) (hr : Room j X.A) (hk : k ≤ j) (hG : X.A.guards = some []) (hx : ∀ σ, PassesAt CX X σ (ES σ)) (hg : Gl X x)
    (hdb : (x == ("__debug__" : Str)) = false := by decide) : PE X (.Call (.Name x p) [] [] pos) (tCg sp ES tNil) := by
  constructor
  intro pins s σ H Q I h
  obtain ⟨f, fd, ps, F, hm, kp, b⟩ := c.ex
  apply wpAny_Call_Name_kw (ld_glob I hg hm ?_ hdb)
  exact PySem.W.callWith_K0 I.kIn kp (runG (us := []) F (hr.mono hk) hG b (hx σ) I .nil h)
theorem passE (tk : Takes X (fun cls d _ H => E cls d H)) {σ : L2.St} : PassesAt (L2.CX X.prog X.w) X σ E := fun _ _ _ e s' I c => tk e s' (XE.of_call I (fun _ _ _ h => h) c)
theorem passAt0 (σ : L2.St) : PassesAt CX0 X σ E0 := fun _ _ _ _ _ _ h => h.elim
/-- a call of a def that lets nothing out -/
theorem pe_cg (c : Cg X.prog X.w X.K X.mg X.base CX0 k x sp) (hr : Room j X.A) (hk : k ≤ j) (hG : X.A.guards = some []) (hg : Gl X x) (ha : PA X (e :: es) t)
    (hdb : (x == ("__debug__" : Str)) = false := by decide) (he : starEach (e :: es) X.env = (false, eval e X.env) :: starEach es X.env := by rfl) (hpl : (backTo pos (starEach es X.env)).any (·.1) = false := by rfl) :
    PE X (.Call (.Name x p) (e :: es) [] pos) (tCg sp (fun _ => E0) t) := pe_cgS c hr hk hG passAt0 hg ha hdb he hpl
end
/-! ## repr of data -/
def Shw (d : PyData) : Prop := d.showable = true ∧ d.depth ≤ 60 ∧ d.shown.length ≤ sizeLine
theorem Dp.nodict {K : PySem.W.Frag} {H : Hp} : ∀ (d : PyData) (v : V), Dp K H v d → d.hasDict = false ∧ True
  | .none, _, _ => ⟨by simp only [PyData.hasDict], trivial⟩
  | .bool _, _, _ => ⟨by simp only [PyData.hasDict], trivial⟩
  | .int _, _, _ => ⟨by simp only [PyData.hasDict], trivial⟩
  | .str _, _, _ => ⟨by simp only [PyData.hasDict], trivial⟩
  | .list ds, _, h => by
    cases h with
    | lst _ ha =>
      have q := nodictAll ds _ ha
      exact ⟨by simp only [PyData.hasDict]; exact q, trivial⟩
  | .tuple ds, _, h => by
    cases h with
    | tup _ ha =>
      have q := nodictAll ds _ ha
      exact ⟨by simp only [PyData.hasDict]; exact q, trivial⟩
  | .dict _, _, h => by cases h
where
  nodictAll : ∀ (ds : List PyData) (vs : List V), DpAll K H vs ds → PyData.hasDictAll ds = false
    | [], _, _ => by simp only [PyData.hasDictAll]
    | d :: ds, _, h => by
      cases h with
      | cons h1 h2 =>
        simp only [PyData.hasDictAll, Bool.or_eq_false_iff]
        exact ⟨(Dp.nodict d _ h1).1, nodictAll ds _ h2⟩
section
variable {X : Cx}
theorem call_reprD (hG : X.A.guards = some []) (hu : X.A.units + 64 < cLine) : CallR X (.builtin "repr") (fun xs H Q => ∃ x d, xs = [x] ∧ Dp X.K H x d ∧ Shw d ∧ Q (.str d.shown) H) := by
  intro pins s σ H xs us Q I r h
  obtain ⟨x, d, rfl, hd, ⟨h1, h2, h3⟩, q⟩ := h
  obtain ⟨u, rfl, ru⟩ := vals1 r
  have nd := (Dp.nodict d x hd).1
  have ref : ∀ a, x = .ref a → wpAny (model X.prog X.w) X.A (call (.builtin "repr") [u]) (EP X pins σ Q) X.xe s := by
    rintro a rfl
    obtain rfl : u = Value.ref a := ru
    obtain ⟨as, hr⟩ := Dp.reads I d _ _ hd rfl
    apply repr_of_reads' hr h1 (PyData.noDict_hsm nd) hG (by omega) (fun _ _ e => e) _ h3
    intro h' u tk hk
    exact ⟨.str d.shown, H, I.kept (t' := tk) hk, ⟨u, rfl⟩, q⟩
  cases hd with
  | non => cases ru; exact PySem.P.repr_of_none ⟨.str _, H, I.tok _, ⟨_, rfl⟩, by simpa only [PyData.shown] using q⟩
  | bl b => cases ru; exact PySem.P.repr_of_bool ⟨.str _, H, I.tok _, ⟨_, rfl⟩, by simpa only [PyData.shown] using q⟩
  | int i =>
    obtain ⟨t, rfl⟩ := ru
    exact PySem.P.repr_of_int (by simpa [PyData.showable] using h1) ⟨.str _, H, I.tok _, ⟨_, rfl⟩, by simpa only [PyData.shown] using q⟩
  | str z =>
    obtain ⟨t, rfl⟩ := ru
    exact PySem.P.repr_of_str ⟨.str _, H, I.tok _, ⟨_, rfl⟩, by simpa only [PyData.shown] using q⟩ (by simpa only [PyData.shown] using h3)
  | lst _ _ => exact ref _ rfl
  | tup _ _ => exact ref _ rfl
/-- xs[i] with i from 0 on, read for a store that changes it -/
def rGetL (K : PySem.W.Frag) : V → V → Hp → VK → Prop := fun o i H Q => ∃ (p : Addr) (xs : List V) (k : Nat) (v : V), o = .ref p ∧ i = .int k ∧ SqL K H p xs ∧ xs[k]? = some v ∧ Q v H
theorem get_list : PGet X (rGetL X.K) := by
  intro pins s σ H o i ov iv Q I ro ri h
  obtain ⟨p, xs, k, v, rfl, rfl, hq, hk, q⟩ := h
  cases ro
  obtain ⟨t, rfl⟩ := ri
  obtain ⟨its, r, pl, hz⟩ := I.list hq
  obtain ⟨u, hu, ru⟩ := r.get hk
  have hn := line63
  have hl := r.length
  have hlt : k < xs.length := (List.getElem?_eq_some_iff.mp hk).1
  exact PySem.wpAny_getItem_list pl.isList (by omega) (by omega) (by simpa using hu) ⟨v, H, I, ru, q⟩
end
/-! ## the law's end, for a contract of this kind -/
theorem lawG {P : Program} {w : World} {K : PySem.W.Frag} {mg mb : Str → Option Value} {CX : CXT} {k : Nat} {fa a : Addr} {fd : FuncData} {x : Str} {sp : Sp} {s₁ : Shared} {vs : List Value} {ns : List Int}
    (KX : K.In s₁.heap) (hns : s₁.heap.Ns mainGlobals mg) (hb : s₁.heap.Ns builtinsNs mb) (hbb : ∀ x : Str, x ≠ "__name__" → mb x = bootBuiltins x) (hlim : s₁.heap.NoLimit) (hg : s₁.gens = #[])
    (ha : s₁.heap.get? a = some { cls := .type "list", data := .seq vs.toArray }) (hi : IntsAre vs ns) (hl : ns.length ≤ sizeLine) (hr : Room k callerA)
    (F : ∀ base : Heap, K.In base → base.Ns mainGlobals mg → FnG P w K mg base CX k fa fd [x] sp) (hbind : ∀ (s : Shared) (u : Value), BindsTo s fd ⟨[u], []⟩ [(x, u)])
    (hsp : ∀ H : Hp, Only H → SqL K H a (ns.map V.int) → sp [.ref a] H (fun v _ => v = .bl true) fun _ _ _ => False) (hCX : ∀ H e s', CX [] H s₁ (fun _ _ _ => False) e s' → False) :
    codeAny (model P w) callerA (.call (.ref fa) ⟨[.ref a], []⟩) (fun r s' => r = .ok (.ret (.bool true)) ∧ OldK s₁.heap s'.heap ∧ s'.os = s₁.os ∧ AllBare s'.gens) s₁ := by
  have rv := vals_ints hi
  have lenV := hi.length
  have core : ∀ H : Hp, Only H → SqL K H a (ns.map V.int) → HOk P w H s₁.heap → (∀ b, H b ≠ none → b = a) → (H a ≠ none → K.lookup a = none) →
      codeAny (model P w) callerA (.call (.ref fa) ⟨[.ref a], []⟩) (fun r s' => r = .ok (.ret (.bool true)) ∧ OldK s₁.heap s'.heap ∧ s'.os = s₁.os ∧ AllBare s'.gens) s₁ := by
    intro H hO hS hok hA hK
    have noA : ∀ {b : Addr} {o : Obj} {es : Array DictEntry} {ep : Nat}, s₁.heap.get? b = some o → o.data = .dict es ep → H b = none := by
      intro b o es ep e d
      by_cases q : H b = none
      · exact q
      · have e' := hA b q
        subst e'
        rw [ha] at e
        cases e
        cases (show Data.seq vs.toArray _ = Data.dict es ep from d)
    have nsK : ∀ {b : Addr} {m : Str → Option Value}, s₁.heap.Ns b m → (hidT s₁.heap H).Ns b m := by
      rintro b m ⟨o, es, ep, e, d, r⟩
      exact ⟨o, es, ep, hidT_get e (noA e d), d, r⟩
    have hKb : K.In (hidT s₁.heap H) := by
      intro b o e
      apply hidT_get (KX b o e)
      by_cases q : H b = none
      · exact q
      · have e' := hA b q
        subst e'
        rw [hK q] at e
        cases e
    have hM : Mod K mg (hidT s₁.heap H) := ⟨hKb, nsK hns, ⟨mb, nsK hb, hbb⟩, by obtain ⟨mc, h1, h2⟩ := hlim; exact ⟨mc, nsK h1, h2⟩⟩
    have e0 : Env0 P w K mg (hidT s₁.heap H) callerA [] s₁ H := ⟨rfl, hM, fun b o e => of_hidT e, Nat.le_of_eq (hidT_size _ _), trivial, fun b hb => absurd (show b ∈ ([] : List Addr) from hb) (by simp), hok, .of_eq hg⟩
    apply codeAny_mono ((F _ hKb (nsK hns)).run callerA [] s₁ H ⟨[.ref a], []⟩ [.ref a] [.ref a] _ _ rfl hr e0 (hbind s₁ (.ref a)) (.cons rfl .nil) (hsp H hO hS))
    intro r s' h
    cases r with
    | error e => exact (hCX H e s' h).elim
    | ok fl =>
      cases fl with
      | ret u =>
        obtain ⟨v, H', os, bare, un, hok', r', q⟩ := h
        obtain rfl : v = .bl true := q
        obtain rfl : u = Value.bool true := r'
        refine ⟨rfl, OldK.of_keep ?_, os, bare⟩
        intro b o e
        by_cases q : H b = none
        · exact un.keep b o e q (by intro z; exact absurd (show b ∈ ([] : List Addr) from z) (by simp)) (by simp)
        · rcases hO b with z | ⟨ob, xs, z⟩
          · exact absurd z q
          · obtain ⟨e1, _⟩ := hok b _ z
            obtain ⟨e2, _⟩ := hok' b _ (un.frzs b ob _ z)
            rw [e] at e1
            cases e1
            exact e2
      | next => exact h.elim
      | brk => exact h.elim
      | cont => exact h.elim
  cases hk : K.lookup a with
  | some o =>
    have e := KX a o hk
    rw [ha] at e
    cases e
    have hS : SqL K (fun _ => none) a (ns.map V.int) := .inr ⟨_, vs.toArray, _, hk, rfl, rfl, rfl, by rw [List.size_toArray, lenV]; exact hl, by simpa using rv⟩
    exact core (fun _ => none) (fun _ => .inl rfl) hS (fun b u z => nomatch (show (none : Option HO) = some u from z)) (fun b z => absurd rfl z) fun z => absurd rfl z
  | none =>
    have no : ∀ b, b ≠ a → (if b = a then some (HO.frz { cls := .type "list", data := .seq vs.toArray } (.lst (ns.map V.int))) else none) = none := fun b hb => if_neg hb
    apply core (fun b => if b = a then some (.frz { cls := .type "list", data := .seq vs.toArray } (.lst (ns.map V.int))) else none)
    · intro b
      by_cases hb : b = a
      · exact .inr ⟨_, _, if_pos hb⟩
      · exact .inl (if_neg hb)
    · exact .inl (.inr ⟨{ cls := .type "list", data := .seq vs.toArray }, if_pos rfl⟩)
    · intro b u z
      by_cases hb : b = a
      · subst hb
        have z' := (if_pos rfl).symm.trans z
        cases z'
        exact ⟨ha, by rw [List.length_map]; exact hl, vs, _, rv, ha⟩
      · exact nomatch (no b hb).symm.trans z
    · intro b z
      by_cases hb : b = a
      · exact hb
      · exact absurd (no b hb) z
    · exact fun _ => hk
theorem walkG {l : PySem.W.OpenLaw} {n k : Nat} {q : Program} {loose : List Str} {XP : (Str → Option Value) → Heap → Prop} {YP : World → Heap → Prop} {d : DefRec} {K : Params → PySem.W.Frag} {CX : World → CXT} {sp : World → Sp} {x : Str}
    (hn : l.most = some n) (hn2 : n ≤ sizeLine) (hdf : d.params.defaults = []) (hr : Room k callerA) (hY : ∀ (w : World) (h : Heap), YP w h → (K w.params).In h)
    (F : ∀ (w : World) (mg : Str → Option Value) (fa : Addr) (h : Heap), (K w.params).In h → h.Ns mainGlobals mg → mg d.name = some (.ref fa) →
      ∃ fd : FuncData, (∀ (s : Shared) (u : Value), BindsTo s fd ⟨[u], []⟩ [(x, u)]) ∧ ∀ base : Heap, (K w.params).In base → base.Ns mainGlobals mg → FnG l.prog w (K w.params) mg base (CX w) k fa fd [x] (sp w))
    (hsp : ∀ (w : World) (H : Hp) (a : Addr) (ns : List Int), ns.length ≤ n → Only H → SqL (K w.params) H a (ns.map V.int) → sp w [.ref a] H (fun v _ => v = .bl true) fun _ _ _ => False)
    (hCX : ∀ (w : World) (H : Hp) (s : Shared) (e : Value) (s' : Shared), CX w [] H s (fun _ _ _ => False) e s' → False) :
    PySem.W.WalkO q loose XP YP l.row.toRowW d [] (fun f vs => PySem.call f vs) := by
  apply Att.attach_call hn hdf
  intro w s₀ s₁ mg mb fa o pm cd doc a vs ns G Y ho hd hcd hmg hobj hints hlen hg
  have KX := hY w _ Y
  obtain ⟨fd, hb, hF⟩ := F w mg fa _ KX G.T.g hmg
  exact lawG KX G.T.g G.T.b G.T.builtins G.T.nolimit hg hobj hints (Nat.le_trans hlen hn2) hr hF hb (fun H hO hS => hsp w H a ns hlen hO hS) fun H e s' => hCX w H s₁ e s'
end Ln
set_option Elab.async false
set_option linter.all false
set_option maxRecDepth 100000
set_option maxHeartbeats 4000000
namespace Ln
open PySem PySem.Spec PyProof.Rows L2
section
variable {prog : Program} {w : World} {A : Around} {E : Value → Shared → Prop} {s : Shared} {l : Addr} {xs : Array (Int × Tok)} {its : List Value} {ns : List Int}
theorem sum_tupG {Q : Value → Shared → Prop} (hh : A.handled = none) (hl : s.heap.IsTuple l (intItems xs))
    (h : ∀ h' tk t', (∀ b o, s.heap.get? b = some o → h'.get? b = some o) → Q (.int (preSum (numAt xs) xs.size) t') { s with heap := h', toks := tk }) :
    wpAny (model prog w) A (call (.builtin "sum") [.ref l]) Q E s := by
  have hlt : l < s.heap.objs.size := by obtain ⟨_, e, _⟩ := hl; exact Heap.lt_size e
  apply call_sum_walkG
  apply wpAny_pyIter_tuple hl
  refine ⟨_, _, _, _, _, _, numAt xs, rfl, Walks.tuple (A := A.in1) hh s.heap.objs.size l (Nat.ne_of_lt hlt) (intItems xs), ⟨⟨_, Heap.get?_push_size _ rfl, rfl, rfl⟩, hl.push _⟩, ?_, (fun _ _ => intItems_at), ?_⟩
  · intro b hb
    show b < (s.heap.push _).objs.size
    rw [Heap.size_push]
    have hb' : b = s.heap.objs.size ∨ b = l := by simpa using hb
    rcases hb' with e | e
    · rw [e]; exact Nat.lt_succ_self _
    · rw [e]; exact Nat.lt_succ_of_lt hlt
  · intro h' tk t' hk
    have old : ∀ b o, s.heap.get? b = some o → h'.get? b = some o := by
      intro b o e
      refine hk b o ?_ (Heap.get?_push_of_some _ e)
      intro hm
      have hb := Heap.lt_size e
      have e1 : b = s.heap.objs.size := by simpa using hm
      rw [e1] at hb
      exact absurd hb (Nat.lt_irrefl _)
    have := h h' tk t' old
    simpa [intItems] using this
theorem sum_rawT (hh : A.handled = none) (hl : s.heap.IsTuple l its.toArray) (hi : IntsAre its ns) {Q : Value → Shared → Prop}
    (h : ∀ h' tk t', (∀ b o, s.heap.get? b = some o → h'.get? b = some o) → Q (.int ns.sum t') { s with heap := h', toks := tk }) : wpAny (model prog w) A (call (.builtin "sum") [.ref l]) Q E s := by
  obtain ⟨xs, e⟩ := hi.allInts.items
  have hn : numsOf (intItems xs).toList = ns := by rw [← e]; exact hi.numsOf
  rw [nums_intItems] at hn
  rw [e] at hl
  apply sum_tupG hh hl
  intro h' tk t' hk
  have := h h' tk t' hk
  rw [preSum_eq, List.take_of_length_le (by simp), hn]
  exact this
end
section
variable {X : Cx}
/-- sum(t) of a tuple of ints -/
def rSumT (K : PySem.W.Frag) : List V → Hp → VK → Prop := fun vs H Q => ∃ (a : Addr) (ns : List Int), vs = [V.ref a] ∧ SqT K H a (ns.map V.int) ∧ Q (.int ns.sum) H
theorem cr_sumT (hc : X.calm = true) : CallR X (.builtin "sum") (rSumT X.K) := by
  intro pins s σ H vs us Q I r h
  obtain ⟨a, ns, rfl, hs, q⟩ := h
  obtain ⟨its, rv, hl, _⟩ := I.tuple hs
  obtain ⟨u, rfl, ru⟩ := vals1 r
  obtain rfl : u = Value.ref a := ru
  exact sum_rawT (I.ok.hd hc) hl rv.ints fun h' tk t' hk => ⟨.int _, H, I.kept hk, ⟨_, rfl⟩, q⟩
end
end Ln
set_option Elab.async false
set_option linter.all false
set_option maxRecDepth 100000
set_option maxHeartbeats 4000000
namespace Ln
open PySem PySem.Spec PyProof.Rows L2
/-! ## plain values and what isinstance says of them -/
section
variable {K : PySem.W.Frag} {H H' : Hp} {x : V}
inductive Plain (K : PySem.W.Frag) (H : Hp) : V → Prop where
  | non : Plain K H .non
  | bl (b : Bool) : Plain K H (.bl b)
  | int (i : Int) : Plain K H (.int i)
  | str (s : Str) : Plain K H (.str s)
  | tup {a : Addr} {xs : List V} (h : SqT K H a xs) : Plain K H (.ref a)
def isI : V → Bool | .int _ => true | _ => false
def isB : V → Bool | .bl _ => true | _ => false
def isS : V → Bool | .str _ => true | _ => false
def isR : V → Bool | .ref _ => true | _ => false
theorem tyx_tup {a : Addr} {xs : List V} (h : SqT K H a xs) : TyX K H (.ref a) (.type "tuple") := by
  rcases h with h | h
  · rcases h with h | ⟨o, h⟩
    · exact .base (.tup h)
    · exact .fTuple h
  · obtain ⟨o, _, _, hk, hc, _⟩ := h
    exact .kTuple hk hc
theorem Plain.kit (h : Plain K H x) : ∃ t, TyX K H x t ∧ PySem.W.kitOne K t (.type "int") = some (isI x || isB x) ∧ PySem.W.kitOne K t (.type "bool") = some (isB x) ∧
    PySem.W.kitOne K t (.type "str") = some (isS x) ∧ PySem.W.kitOne K t (.type "tuple") = some (isR x) := by
  cases h with
  | non => exact ⟨_, .base .non, kit_ty (r := false) (by decide +kernel), kit_ty (r := false) (by decide +kernel), kit_ty (r := false) (by decide +kernel), kit_ty (r := false) (by decide +kernel)⟩
  | bl b => exact ⟨_, .base (.bl b), kit_ty (r := true) (by decide +kernel), kit_ty (r := true) (by decide +kernel), kit_ty (r := false) (by decide +kernel), kit_ty (r := false) (by decide +kernel)⟩
  | int i => exact ⟨_, .base (.int i), kit_ty (r := true) (by decide +kernel), kit_ty (r := false) (by decide +kernel), kit_ty (r := false) (by decide +kernel), kit_ty (r := false) (by decide +kernel)⟩
  | str s => exact ⟨_, .base (.str s), kit_ty (r := false) (by decide +kernel), kit_ty (r := false) (by decide +kernel), kit_ty (r := true) (by decide +kernel), kit_ty (r := false) (by decide +kernel)⟩
  | tup hs => exact ⟨_, tyx_tup hs, kit_ty (r := false) (by decide +kernel), kit_ty (r := false) (by decide +kernel), kit_ty (r := false) (by decide +kernel), kit_ty (r := true) (by decide +kernel)⟩
theorem Same.tup {a : Addr} {xs : List V} (e : Same H H') (h : SqT K H a xs) : SqT K H' a xs := by
  rcases h with (h | ⟨o, h⟩) | h
  · exact .inl (.inl (e _ _ h))
  · exact .inl (.inr ⟨o, e _ _ h⟩)
  · exact .inr h
theorem Plain.same (e : Same H H') (h : Plain K H x) : Plain K H' x := by
  cases h with
  | non => exact .non
  | bl b => exact .bl b
  | int i => exact .int i
  | str s => exact .str s
  | tup h => exact .tup (Same.tup e h)
end
theorem same_upd {H : Hp} {p : Addr} {o : HO} (h : H p = none) : Same H (upd H p o) := by
  intro b x e
  rw [upd_ne (ne_of_none e h)]
  exact e
/-- all that stands but at one place stays -/
def But (at_ : Addr) (H H' : Hp) : Prop := ∀ b o, b ≠ at_ → H b = some o → H' b = some o
theorem But.refl (a : Addr) (H : Hp) : But a H H := fun _ _ _ h => h
theorem But.trans {a : Addr} {H H1 H2 : Hp} (h : But a H H1) (k : But a H1 H2) : But a H H2 := fun b o n e => k b o n (h b o n e)
theorem Same.but {a : Addr} {H H' : Hp} (h : Same H H') : But a H H' := fun b o _ e => h b o e
theorem But.upd (a : Addr) (H : Hp) (o : HO) : But a H (upd H a o) := fun b x n e => by rw [upd_ne n]; exact e
theorem But.new {a p : Addr} {H : Hp} {o : HO} (h : H p = none) : But a H (L2.upd H p o) := Same.but (same_upd h)
theorem But.tup {K : PySem.W.Frag} {a b : Addr} {H H' : Hp} {xs ys : List V} (h : But a H H') (ha : H a = some (.lst ys)) (t : SqT K H b xs) : SqT K H' b xs := by
  rcases t with (t | ⟨o, t⟩) | t
  · exact .inl (.inl (h b _ (fun z => by subst z; rw [ha] at t; cases t) t))
  · exact .inl (.inr ⟨o, h b _ (fun z => by subst z; rw [ha] at t; cases t) t⟩)
  · exact .inr t
theorem same_at {H H' : Hp} {p : Addr} {o : HO} (h : Same H H') (n : H p = none) : Same H (upd H' p o) := by
  intro b x e
  rw [upd_ne (ne_of_none e n)]
  exact h b x e
theorem small1 {n : Nat} (h : n ≤ 100000) : n < sizeLine := Nat.lt_of_le_of_lt h (by decide)
theorem small2 {n : Nat} (h : n ≤ 100000) : n ≤ sizeLine := Nat.le_of_lt (small1 h)
theorem getI {ms : List Int} {i : Nat} {x : V} (h : (ms.map V.int)[i]? = some x) : ∃ z, ms[i]? = some z ∧ x = .int z := by
  rw [List.getElem?_map] at h
  cases e : ms[i]? with
  | none => rw [e] at h; cases h
  | some z => rw [e] at h; exact ⟨z, rfl, (Option.some.inj h).symm⟩
theorem app1 (ds : List Int) (d : Int) : ds.map V.int ++ [V.int d] = (ds ++ [d]).map V.int := by rw [List.map_append]; rfl
theorem atInt {ds : List Int} {j : Nat} (h : j < ds.length) : atI (ds.map V.int) (j : Int) = some (.int ds[j]) := atI_nat (by rw [List.getElem?_map, List.getElem?_eq_getElem h]; rfl)
theorem modIx (x : Int) {n : Nat} (h : 0 < n) : ∃ j : Nat, j < n ∧ x % (n : Int) = (j : Int) := by
  have a := Int.emod_nonneg x (show (n : Int) ≠ 0 by omega)
  have b := Int.emod_lt_of_pos x (show (0 : Int) < n by omega)
  exact ⟨(x % (n : Int)).toNat, by omega, by omega⟩
/-! ## lists of pairs of ints -/
def Tp (H H' : Hp) : Prop := ∀ t xs, H t = some (.tup xs) → H' t = some (.tup xs)
theorem Same.tp {H H' : Hp} (h : Same H H') : Tp H H' := fun t xs e => h t _ e
theorem Tp.trans {H H1 H2 : Hp} (a : Tp H H1) (b : Tp H1 H2) : Tp H H2 := fun t xs e => b t xs (a t xs e)
theorem Tp.lst {H : Hp} {D : Addr} {xs ys : List V} (h : H D = some (.lst xs)) : Tp H (upd H D (.lst ys)) := fun t zs e => by
  rw [upd_ne (fun z => by subst z; rw [h] at e; cases e)]
  exact e
theorem Tp.new {H : Hp} {D : Addr} {o : HO} (h : H D = none) : Tp H (upd H D o) := Same.tp (same_upd h)
abbrev PairL (H : Hp) (xs : List V) (L : List (Int × Int)) : Prop := Paired (fun (x : V) (p : Int × Int) => ∃ t, x = V.ref t ∧ H t = some (.tup [.int p.1, .int p.2])) xs L
theorem PairL.mono {H H' : Hp} {xs : List V} {L : List (Int × Int)} (h : PairL H xs L) (k : Tp H H') : PairL H' xs L := Paired.mono (fun _ _ ⟨t, e, q⟩ => ⟨t, e, k t _ q⟩) h
theorem PairL.get {H : Hp} : ∀ {xs : List V} {L : List (Int × Int)} (h : PairL H xs L) {i : Nat} {x : V}, xs[i]? = some x → ∃ t p, L[i]? = some p ∧ x = V.ref t ∧ H t = some (.tup [.int p.1, .int p.2])
  | _, _, .nil, _, _, e => by simp at e
  | _, _, .cons ⟨t, r, q⟩ _, 0, x, e => by
    have e' := Option.some.inj e
    exact ⟨t, _, rfl, by rw [← e']; exact r, q⟩
  | _, _, .cons _ s, i + 1, x, e => PairL.get (i := i) s (by simpa using e)
theorem PairL.len {H : Hp} {xs : List V} {L : List (Int × Int)} (h : PairL H xs L) : xs.length = L.length := Paired.length h
/-- what stands in such a pair -/
def keyOf (H : Hp) : V → Int × Int
  | .ref t => match H t with
    | some (.tup [.int a, .int b]) => (a, b)
    | _ => (0, 0)
  | _ => (0, 0)
theorem PairL.keys {H : Hp} : ∀ {xs : List V} {L : List (Int × Int)}, PairL H xs L → xs.map (keyOf H) = L ∧ ∀ x ∈ xs, ∃ t, x = V.ref t ∧ H t = some (.tup [.int (keyOf H x).1, .int (keyOf H x).2])
  | _, _, .nil => ⟨rfl, by simp⟩
  | _, _, .cons (a := x) (b := p) ⟨t, r, q⟩ s => by
    obtain ⟨h1, h2⟩ := PairL.keys s
    have e : keyOf H x = p := by
      subst r
      show (match H t with | some (.tup [.int a, .int b]) => (a, b) | _ => (0, 0)) = p
      rw [q]
    refine ⟨by rw [List.map_cons, e, h1], fun y hy => ?_⟩
    rcases List.mem_cons.mp hy with z | hy
    · subst z
      exact ⟨t, r, by rw [e]; exact q⟩
    · exact h2 y hy
theorem takeS {α : Type} {l : List α} {i : Nat} {x : α} (h : l[i]? = some x) : l.take (i + 1) = l.take i ++ [x] := by rw [List.take_add_one, h]; rfl
section
variable {X : Cx}
/-- a module's constant -/
theorem pe_gl {x : Str} {pos : Pos} {v : V} (hg : Gl X x) (h : ∃ u, X.mg x = some u ∧ RelV v u) (hd : (x == ("__debug__" : Str)) = false := by decide) : PE X (.Name x pos) (tC v) := by
  obtain ⟨u, hu, r⟩ := h
  exact pe_glob hg hu r hd
end
section
variable {X : Cx}
def rLen (K : PySem.W.Frag) : List V → Hp → VK → Prop := fun xs H Q => ∃ x n, xs = [x] ∧ LenV K x H n ∧ Q (.int (n : Nat)) H
theorem c_len : CallR X (.builtin "len") (rLen X.K) := call_len
def rTupOf (K : PySem.W.Frag) : List V → Hp → VK → Prop := fun xs H Q => ∃ p ys, xs = [.ref p] ∧ ((SqL K H p ys ∧ ∀ l, H l = none → Q (.ref l) (upd H l (.tup ys))) ∨ (SqT K H p ys ∧ Q (.ref p) H))
theorem c_tuple : CallR X (.type "tuple") (rTupOf X.K) := call_tuple_of
def rListOf (K : PySem.W.Frag) : List V → Hp → VK → Prop := fun xs H Q => ∃ p ys, xs = [.ref p] ∧ (SqL K H p ys ∨ SqT K H p ys) ∧ ∀ l, H l = none → Q (.ref l) (upd H l (.lst ys))
theorem c_list : CallR X (.type "list") (rListOf X.K) := call_list_of
def rReprD (K : PySem.W.Frag) : List V → Hp → VK → Prop := fun xs H Q => ∃ x d, xs = [x] ∧ Dp K H x d ∧ Shw d ∧ Q (.str d.shown) H
theorem c_repr (hG : X.A.guards = some []) (hu : X.A.units + 64 < cLine) : CallR X (.builtin "repr") (rReprD X.K) := call_reprD hG hu
def tTruK (K : PySem.W.Frag) (ta : TE) : TT := fun σ H Q => ta σ H fun x H' => ∃ k, TruV K x H' k ∧ Q k H'
theorem pt_truthK {a : Expr} {ta : TE} (ha : PE X a ta) (he : ∀ whole, isTrue a X.env whole = (do let v ← whole; standAt a.pos; holding [v] (truthy v))) : PT X a (tTruK X.K ta) := pt_truth ha he
end
section
variable {X : Cx}
/-- t + u of tuples, told by what stands there behind it -/
def rCatS (K : PySem.W.Frag) : R2 := fun x y H Q => ∃ a b xs ys, x = .ref a ∧ y = .ref b ∧ SqT K H a xs ∧ SqT K H b ys ∧ xs.length + ys.length ≤ sizeLine ∧ ∀ c H', Same H H' → SqT K H' c (xs ++ ys) → Q (.ref c) H'
theorem op_catS : OpR X (binaryOp .Add) (rCatS X.K) := by
  intro pins s σ H x y v u Q I rx ry h
  obtain ⟨a, b, xs, ys, e1, e2, ha, hb, hz, q⟩ := h
  refine op_catA pins s σ H x y v u Q I rx ry ⟨a, b, xs, ys, e1, e2, ha, hb, hz, fun e => ?_, fun _ e => ?_, fun _ _ p np => q p _ (same_upd np) (SqT.of upd_same)⟩
  · exact q b H (Same.refl H) (by rw [e, List.nil_append]; exact hb)
  · exact q a H (Same.refl H) (by rw [e, List.append_nil]; exact ha)
def rSlS (K : PySem.W.Frag) : V → Option Int → Option Int → Hp → VK → Prop := fun x lo hi H Q => ∃ a xs, x = .ref a ∧ SqT K H a xs ∧ ∀ c H', Same H H' → SqT K H' c (cutV xs lo hi) → Q (.ref c) H'
theorem sl_tupS : SlR X (rSlS X.K) := by
  intro pins s σ H x v vl vu lo hi sl Q I rx hs pl pu h
  obtain ⟨a, xs, e, ha, q⟩ := h
  refine sl_tupA pins s σ H x v vl vu lo hi sl Q I rx hs pl pu ⟨a, xs, e, ha, fun w => ?_, fun _ p np => q p _ (same_upd np) (SqT.of upd_same)⟩
  refine q a H (Same.refl H) ?_
  have e : cutV xs lo hi = xs := by
    unfold cutV
    rw [w.1, w.2, List.drop_zero, Nat.sub_zero, List.take_length]
  rw [e]
  exact ha
end
end Ln
set_option Elab.async false
set_option linter.all false
set_option maxRecDepth 100000
set_option maxHeartbeats 4000000
namespace Ln
open PySem PySem.Spec PyProof.Rows L2
/-! ## small data can be shown -/
structure Sm (d : PyData) (k m : Nat) : Prop where
  sh : d.showable = true
  dp : d.depth ≤ k
  lv : d.leavesShort 13 = true
  wt : d.weight ≤ m
  cl : d.canLay0 = true
theorem Sm.shw {d : PyData} {k m : Nat} (h : Sm d k m) (hk : k ≤ 60) (hm : m ≤ 1000000) : Shw d :=
  ⟨h.sh, Nat.le_trans h.dp hk, PyData.shown_fits (B := 13) (by decide) (by decide) h.lv (Nat.le_trans h.wt (Nat.le_trans hm (by decide)))⟩
theorem Sm.mono {d : PyData} {k m k' m' : Nat} (h : Sm d k m) (hk : k ≤ k') (hm : m ≤ m') : Sm d k' m' := ⟨h.sh, Nat.le_trans h.dp hk, h.lv, Nat.le_trans h.wt hm, h.cl⟩
theorem log2_small {n : Nat} (h : n < 10 ^ 12) : n.log2 < 40 := by
  by_cases h0 : n = 0
  · subst h0
    decide
  · exact (Nat.log2_lt h0).mpr (Nat.lt_of_lt_of_le h (by decide))
theorem Sm.int {i : Int} (h : i.natAbs < 10 ^ 12) : Sm (.int i) 0 41 := by
  have hl := log2_small h
  refine ⟨?_, ?_, ?_, ?_, rfl⟩
  · simp only [PyData.showable, decide_eq_true_eq]
    omega
  · simp only [PyData.depth]
    exact Nat.le_refl _
  · simp only [PyData.leavesShort, decide_eq_true_eq]
    exact PyData.shown_int_le h
  · simp only [PyData.weight]
    split <;> omega
theorem Sm.none : Sm .none 0 0 := ⟨by simp only [PyData.showable], by simp only [PyData.depth]; exact Nat.le_refl _, by simp only [PyData.leavesShort], by simp only [PyData.weight]; exact Nat.le_refl _, rfl⟩
theorem Sm.bool (b : Bool) : Sm (.bool b) 0 0 := ⟨by simp only [PyData.showable], by simp only [PyData.depth]; exact Nat.le_refl _, by simp only [PyData.leavesShort], by simp only [PyData.weight]; exact Nat.le_refl _, rfl⟩
theorem Sm.str {x : Str} {m : Nat} (h : x.length ≤ m) (ha : (x.cps.toList.all fun c => decide (c < 16 ^ 8)) = true) (hk : PyData.canLay0 (.str x) = true) : Sm (.str x) 0 m :=
  ⟨by simp only [PyData.showable], by simp only [PyData.depth]; exact Nat.zero_le _, by simp only [PyData.leavesShort]; exact ha, by simp only [PyData.weight]; exact h, hk⟩
theorem Sm.all {k m : Nat} : ∀ {ds : List PyData}, (∀ d ∈ ds, Sm d k m) → PyData.showableAll ds = true ∧ PyData.depthAll ds ≤ k ∧ PyData.leavesShortAll 13 ds = true ∧ PyData.weightAll ds ≤ (m + 1) * ds.length ∧ PyData.canLayAll0 ds = true
  | [], _ => ⟨by simp only [PyData.showableAll], by simp only [PyData.depthAll]; exact Nat.zero_le _, by simp only [PyData.leavesShortAll], by simp only [PyData.weightAll]; exact Nat.zero_le _, rfl⟩
  | d :: ds, h => by
    obtain ⟨a1, a2, a3, a4, a5⟩ := h d List.mem_cons_self
    obtain ⟨b1, b2, b3, b4, b5⟩ := Sm.all (ds := ds) fun x hx => h x (List.mem_cons_of_mem _ hx)
    refine ⟨?_, ?_, ?_, ?_, by simp only [PyData.canLayAll0, a5, b5, Bool.and_self]⟩
    · simp only [PyData.showableAll, a1, b1, Bool.and_self]
    · simp only [PyData.depthAll]
      exact Nat.max_le.mpr ⟨a2, b2⟩
    · simp only [PyData.leavesShortAll, a3, b3, Bool.and_self]
    · simp only [PyData.weightAll, List.length_cons]
      rw [Nat.mul_succ]
      omega
theorem Sm.tup {k m n : Nat} {ds : List PyData} (h : ∀ d ∈ ds, Sm d k m) (hn : ds.length ≤ n) : Sm (.tuple ds) (k + 1) ((m + 1) * n) := by
  obtain ⟨b1, b2, b3, b4, b5⟩ := Sm.all h
  exact ⟨by simp only [PyData.showable]; exact b1, by simp only [PyData.depth]; omega, by simp only [PyData.leavesShort]; exact b3, by simp only [PyData.weight]; exact Nat.le_trans b4 (Nat.mul_le_mul_left _ hn), by simp only [PyData.canLay0]; exact b5⟩
theorem Sm.lst {k m n : Nat} {ds : List PyData} (h : ∀ d ∈ ds, Sm d k m) (hn : ds.length ≤ n) : Sm (.list ds) (k + 1) ((m + 1) * n) := by
  obtain ⟨b1, b2, b3, b4, b5⟩ := Sm.all h
  exact ⟨by simp only [PyData.showable]; exact b1, by simp only [PyData.depth]; omega, by simp only [PyData.leavesShort]; exact b3, by simp only [PyData.weight]; exact Nat.le_trans b4 (Nat.mul_le_mul_left _ hn), by simp only [PyData.canLay0]; exact b5⟩
/-! ## a tuple of ints as data -/
theorem dp_ints {K : PySem.W.Frag} {H : Hp} : ∀ (ns : List Int), DpAll K H (ns.map V.int) (ns.map PyData.int)
  | [] => .nil
  | n :: r => .cons (.int n) (dp_ints r)
theorem Sm.shaped {d : PyData} {k m : Nat} (h : Sm d k m) (hk : k ≤ 60) : SeqAt.shaped d = true := by
  unfold SeqAt.shaped
  rw [h.cl, Bool.true_and, decide_eq_true_eq]
  exact Nat.le_trans h.dp (Nat.le_trans hk (by decide))
theorem Sm.eqv {d : PyData} {k m : Nat} (h : Sm d k m) : PyData.eqv d d = true := SeqAt.eqv_refl d h.cl
theorem Sm.ints {ns : List Int} {n : Nat} (h : ∀ i ∈ ns, i.natAbs < 10 ^ 12) (hn : ns.length ≤ n) : Sm (.tuple (ns.map PyData.int)) 1 (42 * n) := by
  apply Sm.tup (k := 0) (m := 41)
  · intro d hd
    obtain ⟨i, hi, rfl⟩ := List.mem_map.mp hd
    exact Sm.int (h i hi)
  · rw [List.length_map]
    exact hn
end Ln
set_option Elab.async false
set_option linter.all false
set_option maxRecDepth 100000
set_option maxHeartbeats 4000000
namespace Mine
open PySem PySem.Spec PyProof.Rows L2 Ln
def topS (i : Nat) : Stmt := PySem.Challenge.pw_interline_k20_whole_shares.main.body.getD i (.Pass ⟨0, 0, 0, 0⟩)
abbrev s_ArgumentErrorD_initD : Stmt := inClass (topS 2) 0
abbrev N_ArgumentErrorD_initD : List Str := ["self", "reason"]
theorem sc_ArgumentErrorD_initD : FnScope N_ArgumentErrorD_initD ["self", "reason"] (defScope s_ArgumentErrorD_initD) := ⟨rfl, rfl, rfl, by decide +kernel, rfl, by decide +kernel, by decide +kernel⟩
-- slots: 0 self, 1 reason
abbrev s_is_integer : Stmt := topS 4
abbrev N_is_integer : List Str := ["value"]
theorem sc_is_integer : FnScope N_is_integer ["value"] (defScope s_is_integer) := ⟨rfl, rfl, rfl, by decide +kernel, rfl, by decide +kernel, by decide +kernel⟩
-- slots: 0 value
abbrev s_is_within : Stmt := topS 5
abbrev N_is_within : List Str := ["value", "low", "high"]
theorem sc_is_within : FnScope N_is_within ["value", "low", "high"] (defScope s_is_within) := ⟨rfl, rfl, rfl, by decide +kernel, rfl, by decide +kernel, by decide +kernel⟩
-- slots: 0 value, 1 low, 2 high
abbrev s_require : Stmt := topS 7
abbrev N_require : List Str := ["holds", "reason"]
theorem sc_require : FnScope N_require ["holds", "reason"] (defScope s_require) := ⟨rfl, rfl, rfl, by decide +kernel, rfl, by decide +kernel, by decide +kernel⟩
-- slots: 0 holds, 1 reason
abbrev s_shares : Stmt := topS 10
abbrev N_shares : List Str := ["price", "weights", "parts", "weight", "told", "share", "_", "order", "place", "rest", "left"]
theorem sc_shares : FnScope N_shares ["price", "weights"] (defScope s_shares) := ⟨rfl, rfl, rfl, by decide +kernel, rfl, by decide +kernel, by decide +kernel⟩
-- slots: 0 price*, 1 weights*, 2 parts, 3 weight, 4 told, 5 share, 6 _, 7 order, 8 place, 9 rest, 10 left
abbrev s_are_weights : Stmt := topS 11
abbrev N_are_weights : List Str := ["value", "weight"]
theorem sc_are_weights : FnScope N_are_weights ["value"] (defScope s_are_weights) := ⟨rfl, rfl, rfl, by decide +kernel, rfl, by decide +kernel, by decide +kernel⟩
-- slots: 0 value, 1 weight
abbrev s_law_draws : Stmt := topS 13
abbrev N_law_draws : List Str := ["script", "draws", "cell", "rest", "k", "mixed"]
theorem sc_law_draws : FnScope N_law_draws ["script"] (defScope s_law_draws) := ⟨rfl, rfl, rfl, by decide +kernel, rfl, by decide +kernel, by decide +kernel⟩
-- slots: 0 script, 1 draws, 2 cell, 3 rest, 4 k, 5 mixed
abbrev s_law_more : Stmt := topS 14
abbrev N_law_more : List Str := ["draws", "place", "mixed", "k"]
theorem sc_law_more : FnScope N_law_more ["draws", "place"] (defScope s_law_more) := ⟨rfl, rfl, rfl, by decide +kernel, rfl, by decide +kernel, by decide +kernel⟩
-- slots: 0 draws, 1 place, 2 mixed, 3 k
abbrev s_law_take : Stmt := topS 15
abbrev N_law_take : List Str := ["draws", "at", "many", "place"]
theorem sc_law_take : FnScope N_law_take ["draws", "at", "many"] (defScope s_law_take) := ⟨rfl, rfl, rfl, by decide +kernel, rfl, by decide +kernel, by decide +kernel⟩
-- slots: 0 draws, 1 at, 2 many, 3 place
abbrev s_law_same_as : Stmt := topS 16
abbrev N_law_same_as : List Str := ["actual", "due"]
theorem sc_law_same_as : FnScope N_law_same_as ["actual", "due"] (defScope s_law_same_as) := ⟨rfl, rfl, rfl, by decide +kernel, rfl, by decide +kernel, by decide +kernel⟩
-- slots: 0 actual, 1 due
abbrev s_law_one : Stmt := topS 17
abbrev N_law_one : List Str := ["rows", "draws", "at"]
theorem sc_law_one : FnScope N_law_one ["rows", "draws", "at"] (defScope s_law_one) := ⟨rfl, rfl, rfl, by decide +kernel, rfl, by decide +kernel, by decide +kernel⟩
-- slots: 0 rows, 1 draws, 2 at
abbrev s_law_due : Stmt := topS 18
abbrev N_law_due : List Str := ["price", "weights", "whole", "parts", "weight", "rests", "k", "rest"]
theorem sc_law_due : FnScope N_law_due ["price", "weights"] (defScope s_law_due) := ⟨rfl, rfl, rfl, by decide +kernel, rfl, by decide +kernel, by decide +kernel⟩
-- slots: 0 price*, 1 weights*, 2 whole*, 3 parts, 4 weight, 5 rests, 6 k, 7 rest
abbrev s_law_told : Stmt := topS 19
abbrev N_law_told : List Str := ["price", "weights", "e"]
theorem sc_law_told : FnScope N_law_told ["price", "weights"] (defScope s_law_told) := ⟨rfl, rfl, rfl, by decide +kernel, rfl, by decide +kernel, by decide +kernel⟩
-- slots: 0 price, 1 weights, 2 e
abbrev s_law : Stmt := topS 20
abbrev N_law : List Str := ["script", "draws", "at", "turn", "far", "weights", "k", "price", "due", "bad", "odd"]
theorem sc_law : FnScope N_law ["script"] (defScope s_law) := ⟨rfl, rfl, rfl, by decide +kernel, rfl, by decide +kernel, by decide +kernel⟩
-- slots: 0 script, 1 draws*, 2 at*, 3 turn, 4 far*, 5 weights, 6 k, 7 price, 8 due, 9 bad, 10 odd
structure Txt (K : PySem.W.Frag) (mg : Str → Option Value) (C fI : Addr) : Prop where
  z_len : mg "len" = none
  z_abs : mg "abs" = none
  z_int : mg "int" = none
  z_bool : mg "bool" = none
  z_tuple : mg "tuple" = none
  z_range : mg "range" = none
  z_isinstance : mg "isinstance" = none
  z_all : mg "all" = none
  z_sum : mg "sum" = none
  z_min : mg "min" = none
  z_sorted : mg "sorted" = none
  z_divmod : mg "divmod" = none
  z_enumerate : mg "enumerate" = none
  z_repr : mg "repr" = none
  g_MAX_COIN : ∃ u, mg "MAX_COIN" = some u ∧ RelV (.int 1000000) u
  m_ArgumentError : mg "ArgumentError" = some (.ref C)
  o_ArgumentError : OexC K C
  x_ArgumentError : XfC K C
  n_ArgumentError_reason : PySem.W.findIn K (.ref C) "reason" = some none
  i_ArgumentError : PySem.W.findIn K (.ref C) "__init__" = some (some (.ref fI))
  t_ArgumentError : PySem.W.typeIn K (.ref fI) = some (.type "function")
  e_ArgumentError : PySem.W.exmOne K (.ref C) (.ref C) = some true
section
variable {P : Program} {w : World} {K : PySem.W.Frag} {mg : Str → Option Value} {base : Heap} {C fI : Addr}
/-! ## the draws -/
def Good (ds : List Int) : Prop := ds.length ≤ 3780 ∧ ∀ d ∈ ds, 0 ≤ d ∧ d < 4294967296
def spDraws (K : PySem.W.Frag) : Sp := fun vs H Q _ => ∃ (a : Addr) (ns : List Int), vs = [.ref a] ∧ SqL K H a (ns.map V.int) ∧ ns.length ≤ 63 ∧
  ∀ H' p ds, Same H H' → H p = none → H' p = some (.lst (ds.map V.int)) → Good ds → Q (.ref p) H'
theorem cut63 (ns : List Int) : ∃ ms : List Int, cutV (ns.map V.int) none (some 63) = ms.map V.int ∧ ms.length ≤ 63 := by
  refine ⟨(ns.drop 0).take (HT.sIx ns.length ns.length (some 63) - 0), ?_, ?_⟩
  · unfold cutV
    rw [List.length_map, List.map_take, List.map_drop]
    rfl
  · rw [List.length_take]
    have e : HT.sIx ns.length ns.length (some ((63 : Nat) : Int)) = min 63 ns.length := HT.sIx_nat ns.length ns.length 63
    have e' : HT.sIx ns.length ns.length (some 63) = min 63 ns.length := e
    rw [e']
    omega
theorem good_app {ds : List Int} {d : Int} (h : ∀ x ∈ ds, 0 ≤ x ∧ x < 4294967296) (h1 : 0 ≤ d) (h2 : d < 4294967296) : ∀ x ∈ ds ++ [d], 0 ≤ x ∧ x < 4294967296 := by
  intro x hx
  rcases List.mem_append.mp hx with hx | hx
  · exact h x hx
  · have e : x = d := by simpa using hx
    subst e
    exact ⟨h1, h2⟩
theorem ok_draws {f : Addr} {fd : FuncData} (F : Fun K "_law_draws" "_law_draws" s_law_draws f fd) (T : Txt K mg C fI) : FnG P w K mg base CX0 1 f fd ["script"] (spDraws K) := by
  refine okG F sc_law_draws (fun vs H Q E h => ?_) (fun cdv A outer s H vs Q E hG hr h => ?_)
  · obtain ⟨a, ns, rfl, _⟩ := h
    rfl
  · obtain ⟨a, ns, rfl, hS, hlen, q⟩ := h
    refine ⟨_, (pss_cons (ps_set (i := 1) sc_law_draws.nd rfl (.inl rfl) (pe_lst pa_nil))
    (pss_cons (ps_for PassesOwn.never rfl (pi_list (pe_slice (r := rSlL K) sl_list (pv 0) po_none (po_some pe_int))) (pg_name (i := 2) sc_law_draws.nd rfl (.inl rfl))
    (pss_cons (ps_set (i := 3) sc_law_draws.nd rfl (.inl rfl) (pe_callB (id := "abs") call_abs (by rfl) T.z_abs (by decide +kernel) (pa_cons (pv 2) pa_nil)))
    (pss_one (ps_if (pt_cmpR op_ge (pv 3) (pe_op op_pow pe_int pe_int) (nomark _))
    (pss_one (ps_for PassesOwn.never rfl (pi_range1 (by rfl) T.z_range (pa_cons pe_int pa_nil)) (pg_name (i := 4) sc_law_draws.nd rfl (.inl rfl))
    (pss_one (ps_if (pt_cmpR op_gt (pv 3) pe_int (nomark _))
    (pss_cons (ps_expr (pe_bm PySem.F.plainAttrs_list PySem.F.slot_list_append PySem.F.type_list_append mt_append (pv 1) (pa_cons (pe_op op_mod (pe_callTy (T := "int") call_int1 (by rfl) T.z_int (by decide +kernel) (pa_cons (pv 3) pa_nil)) pe_int) pa_nil)))
    (pss_one (ps_set (i := 3) sc_law_draws.nd rfl (.inl rfl) (pe_op op_fdiv (pv 3) pe_int))))
    pss_nil))))
    (pss_cons (ps_set (i := 5) sc_law_draws.nd rfl (.inl rfl) (pe_op op_mod (pe_callTy (T := "int") call_int1 (by rfl) T.z_int (by decide +kernel) (pa_cons (pe_op op_add (pe_op op_mul (pv 3) pe_int) pe_int) pa_nil)) pe_int))
    (pss_one (ps_for PassesOwn.never rfl (pi_range1 (by rfl) T.z_range (pa_cons pe_int pa_nil)) (pg_name (i := 4) sc_law_draws.nd rfl (.inl rfl))
    (pss_cons (ps_set (i := 5) sc_law_draws.nd rfl (.inl rfl) (pe_op op_mod (pe_callTy (T := "int") call_int1 (by rfl) T.z_int (by decide +kernel) (pa_cons (pe_op op_add (pe_op op_add (pe_op op_mul (pv 5) pe_int) (pe_op op_mul pe_int (pv 4))) pe_int) pa_nil)) pe_int))
    (pss_one (ps_expr (pe_bm PySem.F.plainAttrs_list PySem.F.slot_list_append PySem.F.type_list_append mt_append (pv 1) (pa_cons (pe_op op_fdiv (pv 5) pe_int) pa_nil))))))))))))
    (pss_one (ps_ret (pv 1))))), ?_⟩
    refine ⟨Nat.zero_le _, fun D nD => ?_⟩
    have s1 : Same H (upd H D (.lst [])) := Ln.same_upd nD
    refine ⟨_, rfl, 63, rfl, a, ns.map V.int, rfl, s1.seq hS, fun c nc => ?_⟩
    obtain ⟨ms, ems, hms⟩ := cut63 ns
    rw [ems]
    have ncD : c ≠ D := fun e => by rw [e, upd_same] at nc; cases nc
    refine ⟨c, rfl, ⟨_, SqL.of upd_same⟩, for_list (K := K) (a := c) (xs := ms.map V.int) (fun i σ H' => ∃ (v2 v3 v4 v5 : Option V) (ds : List Int), σ = [some (.ref a), some (.ref D), v2, v3, v4, v5] ∧ Same H H' ∧ H' c = some (.lst (ms.map V.int)) ∧
        H' D = some (.lst (ds.map V.int)) ∧ ds.length ≤ 60 * i ∧ ∀ d ∈ ds, 0 ≤ d ∧ d < 4294967296) ?_ ?_ ?_ ?_⟩
    · refine ⟨none, none, none, none, [], rfl, s1.trans (Ln.same_upd nc), upd_same, ?_, Nat.zero_le _, by simp⟩
      rw [upd_ne ncD.symm]
      exact upd_same
    · rintro i σ H' hi ⟨_, _, _, _, _, _, _, hc, _⟩
      exact SqL.of hc
    · rintro i x σ H1 hx ⟨v2, v3, v4, v5, ds, rfl, sm, hc, hD, hl, hb⟩
      obtain ⟨z, hz, rfl⟩ := getI hx
      have hi : i < ms.length := (List.getElem?_eq_some_iff.mp hz).1
      -- rest = abs(cell)
      refine ⟨_, rfl, z, rfl, ?_⟩
      -- if rest >= 10 ** 18
      refine ⟨_, rfl, 10, 18, rfl, rfl, ⟨by decide, by decide, by decide⟩, _, _, rfl, rfl, _, rfl, ?_⟩
      have hnn : (0 : Int) ≤ (if z < 0 then -z else z) := by split <;> omega
      generalize (if z < 0 then -z else z) = r0 at hnn ⊢
      refine ite2 (fun _ => ?_) (fun _ => ?_)
      · -- the great ones
        refine ⟨60, rfl, by decide, by decide, for_range (lo := 0) (n := 60) (fun k σ H' => ∃ (r : Int) (v4 : Option V) (ds : List Int), σ = [some (.ref a), some (.ref D), some (.int z), some (.int r), v4, v5] ∧ 0 ≤ r ∧ Same H H' ∧ H' c = some (.lst (ms.map V.int)) ∧
          H' D = some (.lst (ds.map V.int)) ∧ ds.length ≤ 60 * i + k ∧ ∀ d ∈ ds, 0 ≤ d ∧ d < 4294967296) ?_ ?_ ?_⟩
        · exact ⟨r0, v4, ds, rfl, hnn, sm, hc, hD, by omega, hb⟩
        · rintro k σ H' hk ⟨r, u4, ds, rfl, hr0, sm, hc, hD, hl, hb⟩
          refine ⟨_, rfl, _, _, rfl, rfl, _, rfl, ite2 (fun _ => ?_) (fun _ => ?_)⟩
          · refine ⟨.ref D, rfl, .inl ⟨rfl, _, SqL.of hD⟩, _, rfl, .inl ⟨r, rfl, _, _, rfl, rfl, by show (0 : Int) < 1009; decide, D, _, _, rfl, rfl, hD, ?_, ?_⟩⟩
            · rw [List.length_map]; exact small1 (by omega)
            · rw [app1]
              refine ⟨_, rfl, _, _, rfl, rfl, ⟨by decide, by decide⟩, r / 1009, _, ds ++ [r % 1009], rfl, by omega, same_at sm nD, ?_, upd_same, by rw [List.length_append, List.length_singleton]; omega, good_app hb (by omega) (by omega)⟩
              rw [upd_ne ncD]
              exact hc
          · exact ⟨r, _, ds, rfl, hr0, sm, hc, hD, by omega, hb⟩
        · rintro σ H' ⟨r, u4, ds, rfl, hr0, sm, hc, hD, hl, hb⟩
          exact ⟨_, _, _, _, ds, rfl, sm, hc, hD, by omega, hb⟩
      · -- the small ones
        refine ⟨_, rfl, _, _, rfl, rfl, .inr ⟨by decide, by decide⟩, _, _, rfl, rfl, .inl ⟨_, rfl, _, _, rfl, rfl, by show (0 : Int) < 2147483647; decide, ?_⟩⟩
        refine ⟨12, rfl, by decide, by decide, for_range (lo := 0) (n := 12) (fun k σ H' => ∃ (m : Int) (v4 : Option V) (ds : List Int), σ = [some (.ref a), some (.ref D), some (.int z), some (.int r0), v4, some (.int m)] ∧ Same H H' ∧ H' c = some (.lst (ms.map V.int)) ∧
          H' D = some (.lst (ds.map V.int)) ∧ ds.length ≤ 60 * i + k ∧ ∀ d ∈ ds, 0 ≤ d ∧ d < 4294967296) ?_ ?_ ?_⟩
        · exact ⟨_, v4, ds, rfl, sm, hc, hD, by omega, hb⟩
        · rintro k σ H' hk ⟨m, u4, ds, rfl, sm, hc, hD, hl, hb⟩
          refine ⟨_, rfl, _, _, rfl, rfl, .inr ⟨by decide, by decide⟩, _, rfl, _, _, rfl, rfl, .inl ⟨by decide, by decide⟩, _, _, rfl, rfl, _, _, rfl, rfl, .inl ⟨_, rfl, _, _, rfl, rfl, by show (0 : Int) < 2147483629; decide, ?_⟩⟩
          have b0 := Int.emod_nonneg (m * 16807 + 69621 * (0 + (k : Int)) + 5) (show (2147483629 : Int) ≠ 0 by decide)
          have b1 := Int.emod_lt_of_pos (m * 16807 + 69621 * (0 + (k : Int)) + 5) (show (0 : Int) < 2147483629 by decide)
          refine ⟨.ref D, rfl, .inl ⟨rfl, _, SqL.of hD⟩, _, rfl, _, _, rfl, rfl, ⟨by decide, by decide⟩, D, _, _, rfl, rfl, hD, ?_, ?_⟩
          · rw [List.length_map]; exact small1 (by omega)
          · rw [app1]
            refine ⟨_, _, ds ++ [(m * 16807 + 69621 * (0 + (k : Int)) + 5) % 2147483629 / 1009], rfl, same_at sm nD, ?_, upd_same, by rw [List.length_append, List.length_singleton]; omega, good_app hb (by omega) (by omega)⟩
            rw [upd_ne ncD]
            exact hc
        · rintro σ H' ⟨r, u4, ds, rfl, sm, hc, hD, hl, hb⟩
          exact ⟨_, _, _, _, ds, rfl, sm, hc, hD, by omega, hb⟩
    · rintro σ H' ⟨v2, v3, v4, v5, ds, rfl, sm, hc, hD, hl, hb⟩
      rw [List.length_map] at hl
      exact ⟨_, rfl, q H' D ds sm nD hD ⟨by omega, hb⟩⟩
/-- where the draws stand -/
def Drw (dr at_ : Addr) (H : Hp) : Prop := ∃ (ds : List Int) (p : Int), H dr = some (.lst (ds.map V.int)) ∧ H at_ = some (.lst [.int p]) ∧ dr ≠ at_ ∧ Good ds ∧ 0 ≤ p
def spMore (K : PySem.W.Frag) : Sp := fun vs H Q _ => ∃ (dr : Addr) (ds : List Int) (p : Int), vs = [.ref dr, .int p] ∧ H dr = some (.lst (ds.map V.int)) ∧ Good ds ∧ ∀ v, Q (.int v) H
theorem ok_more {f : Addr} {fd : FuncData} (F : Fun K "_law_more" "_law_more" s_law_more f fd) (T : Txt K mg C fI) : FnG P w K mg base CX0 1 f fd ["draws", "place"] (spMore K) := by
  refine okG F sc_law_more (fun vs H Q E h => ?_) (fun cdv A outer s H vs Q E hG hr h => ?_)
  · obtain ⟨a, ds, p, rfl, _⟩ := h
    rfl
  · obtain ⟨a, ds, p, rfl, hd, ⟨hl, hb⟩, q⟩ := h
    refine ⟨_, (pss_cons (ps_set (i := 2) sc_law_more.nd rfl (.inl rfl) (pe_op op_mod (pe_callTy (T := "int") call_int1 (by rfl) T.z_int (by decide +kernel) (pa_cons (pe_op op_add (pe_op op_add (pe_op op_mul (pv 1) pe_int) (pe_callB (r := Ln.rLen K) (id := "len") c_len (by rfl) T.z_len (by decide +kernel) (pa_cons (pv 0) pa_nil))) pe_int) pa_nil)) pe_int))
    (pss_cons (ps_for PassesOwn.never rfl (pi_range1 (by rfl) T.z_range (pa_cons pe_int pa_nil)) (pg_name (i := 3) sc_law_more.nd rfl (.inl rfl))
    (pss_cons (ps_if (pt_truthK (pv 0) (by intro _; rfl))
    (pss_one (ps_set (i := 2) sc_law_more.nd rfl (.inl rfl) (pe_op op_add (pv 2) (pe_ix (r := rIxL K) ix_list (pv 0) (pe_op op_mod (pe_callTy (T := "int") call_int1 (by rfl) T.z_int (by decide +kernel) (pa_cons (pe_op op_add (pe_op op_mul (pv 1) (pe_op op_add (pv 3) pe_int)) (pv 3)) pa_nil)) (pe_callB (r := Ln.rLen K) (id := "len") c_len (by rfl) T.z_len (by decide +kernel) (pa_cons (pv 0) pa_nil))) (fun _ _ => rfl)))))
    pss_nil)
    (pss_one (ps_set (i := 2) sc_law_more.nd rfl (.inl rfl) (pe_op op_mod (pe_callTy (T := "int") call_int1 (by rfl) T.z_int (by decide +kernel) (pa_cons (pe_op op_add (pe_op op_add (pe_op op_mul (pv 2) pe_int) (pe_op op_mul pe_int (pv 3))) pe_int) pa_nil)) pe_int)))))
    (pss_one (ps_ret (pe_op op_fdiv (pv 2) pe_int))))), ?_⟩
    have hS : SqL K H a (ds.map V.int) := SqL.of hd
    refine ⟨_, rfl, _, _, rfl, rfl, .inr ⟨by decide, by decide⟩, .ref a, rfl, .ref a, ds.length, rfl, .inl ⟨_, hS, by rw [List.length_map]⟩, _, _, rfl, rfl, _, _, rfl, rfl, .inl ⟨_, rfl, _, _, rfl, rfl, by show (0 : Int) < 2147483629; decide, ?_⟩⟩
    refine ⟨3, rfl, by decide, by decide, for_range (lo := 0) (n := 3) (fun k σ H' => ∃ (m : Int) (v3 : Option V), σ = [some (.ref a), some (.int p), some (.int m), v3] ∧ H' = H) ?_ ?_ ?_⟩
    · exact ⟨_, none, rfl, rfl⟩
    · rintro k σ H' hk ⟨m, v3, rfl, rfl⟩
      have fin : ∀ m2 : Int, (fun σ' H'' => ∃ (m : Int) (v3 : Option V), σ' = [some (.ref a), some (.int p), some (.int m), v3] ∧ H'' = H') [some (.ref a), some (.int p), some (.int m2), some (.int (0 + (k : Int)))] H' := fun m2 => ⟨m2, _, rfl, rfl⟩
      refine ⟨.ref a, rfl, !ds.isEmpty, .inl ⟨_, hS, by rw [List.isEmpty_map]⟩, ite2 (fun hne => ?_) (fun _ => ?_)⟩
      · have hpos : 0 < ds.length := by
          cases ds with
          | nil => cases hne
          | cons x r => exact Nat.succ_pos _
        refine ⟨_, rfl, .ref a, rfl, _, rfl, _, rfl, _, _, rfl, rfl, _, _, rfl, rfl, .inr ⟨by omega, by omega⟩, _, rfl, _, _, rfl, rfl, .inl ⟨_, rfl, .ref a, rfl, .ref a, ds.length, rfl, .inl ⟨_, hS, by rw [List.length_map]⟩, _, _, rfl, rfl, by omega, ?_⟩⟩
        obtain ⟨j', hj, he⟩ := modIx (p * (0 + (k : Int) + 5) + (0 + (k : Int))) hpos
        refine ⟨a, _, _, .int ds[j'], rfl, rfl, hS, by rw [he]; exact atInt hj, _, _, rfl, rfl, ?_⟩
        refine ⟨_, rfl, _, _, rfl, rfl, .inr ⟨by decide, by decide⟩, _, rfl, _, _, rfl, rfl, .inl ⟨by decide, by decide⟩, _, _, rfl, rfl, _, _, rfl, rfl, .inl ⟨_, rfl, _, _, rfl, rfl, by show (0 : Int) < 2147483629; decide, ?_⟩⟩
        exact fin _
      · refine ⟨_, rfl, _, _, rfl, rfl, .inr ⟨by decide, by decide⟩, _, rfl, _, _, rfl, rfl, .inl ⟨by decide, by decide⟩, _, _, rfl, rfl, _, _, rfl, rfl, .inl ⟨_, rfl, _, _, rfl, rfl, by show (0 : Int) < 2147483629; decide, ?_⟩⟩
        exact fin _
    · rintro σ H' ⟨m, v3, rfl, rfl⟩
      exact ⟨_, rfl, _, _, rfl, rfl, ⟨by decide, by decide⟩, q _⟩
def spTake (K : PySem.W.Frag) : Sp := fun vs H Q _ => ∃ (dr at_ : Addr) (m : Int), vs = [.ref dr, .ref at_, .int m] ∧ Drw dr at_ H ∧ 0 < m ∧ ∀ v H', 0 ≤ v → v < m → But at_ H H' → Drw dr at_ H' → Q (.int v) H'
theorem ok_take {f : Addr} {fd : FuncData} (F : Fun K "_law_take" "_law_take" s_law_take f fd) (T : Txt K mg C fI) (c__law_more : Cg P w K mg base CX0 1 "_law_more" (spMore K)) : FnG P w K mg base CX0 2 f fd ["draws", "at", "many"] (spTake K) := by
  refine okG F sc_law_take (fun vs H Q E h => ?_) (fun cdv A outer s H vs Q E hG hr h => ?_)
  · obtain ⟨a, b, m, rfl, _⟩ := h
    rfl
  · obtain ⟨dr, at_, m, rfl, ⟨ds, p, hd, ha, ne, hgood, hp⟩, hm, q⟩ := h
    refine ⟨_, (pss_cons (ps_set (i := 3) sc_law_take.nd rfl (.inl rfl) (pe_ix (r := rIxL K) ix_list (pv 1) pe_int (fun _ _ => rfl)))
    (pss_cons (ps_asg (pe_op op_add (pv 3) pe_int) (pg_sub (pv 1) pe_int set_list))
    (pss_one (ps_ret (pe_op op_mod (pe_callTy (T := "int") call_int1 (by rfl) T.z_int (by decide +kernel) (pa_cons (pe_ifExp (pt_cmpR op_lt (pv 3) (pe_callB (r := Ln.rLen K) (id := "len") c_len (by rfl) T.z_len (by decide +kernel) (pa_cons (pv 0) pa_nil)) (nomark _)) (pe_ix (r := rIxL K) ix_list (pv 0) (pv 3) (fun _ _ => rfl)) (pe_cg c__law_more hr (by decide) hG (by rfl) (pa_cons (pv 0) (pa_cons (pv 3) pa_nil)))) pa_nil)) (pv 2)))))), ?_⟩
    refine ⟨_, rfl, at_, _, 0, .int p, rfl, rfl, SqL.of ha, atI_nat (j := 0) rfl, ?_⟩
    refine ⟨_, rfl, _, _, rfl, rfl, .ref at_, rfl, at_, _, 0, 0, rfl, rfl, ha, rfl, ?_⟩
    have hd' : (upd H at_ (.lst [.int (p + 1)])) dr = some (.lst (ds.map V.int)) := by rw [upd_ne ne]; exact hd
    have hS := SqL.of (K := K) hd'
    have fin : ∀ x : Int, Q (.int (x % m)) (upd H at_ (.lst [.int (p + 1)])) := fun x =>
      q _ _ (Int.emod_nonneg _ (by omega)) (Int.emod_lt_of_pos _ hm) (But.upd _ _ _) ⟨ds, p + 1, hd', upd_same, ne, hgood, by omega⟩
    refine ⟨_, rfl, .ref dr, rfl, .ref dr, ds.length, rfl, .inl ⟨_, hS, by rw [List.length_map]⟩, _, _, rfl, rfl, _, rfl, ite2 (fun hlt => ?_) (fun _ => ?_)⟩
    · have hlt' := of_decide_eq_true hlt
      obtain ⟨j, rfl⟩ : ∃ j : Nat, p = j := ⟨p.toNat, by omega⟩
      have hj : j < ds.length := by omega
      exact ⟨_, rfl, _, rfl, dr, _, _, .int ds[j], rfl, rfl, hS, atInt hj, .inl ⟨_, rfl, _, rfl, _, _, rfl, rfl, hm, fin _⟩⟩
    · exact ⟨_, rfl, _, rfl, dr, ds, p, rfl, hd', hgood, fun v => .inl ⟨_, rfl, _, rfl, _, _, rfl, rfl, hm, fin _⟩⟩
/-- one of a list's items -/
def spOne (K : PySem.W.Frag) : Sp := fun vs H Q _ => ∃ (r dr at_ : Addr) (xs : List V), vs = [.ref r, .ref dr, .ref at_] ∧ (∀ H', But at_ H H' → SqL K H' r xs) ∧ Drw dr at_ H ∧ 0 < xs.length ∧ ∀ x ∈ xs, ∀ H', But at_ H H' → Drw dr at_ H' → Q x H'
theorem ok_one {f : Addr} {fd : FuncData} (F : Fun K "_law_one" "_law_one" s_law_one f fd) (T : Txt K mg C fI) (c__law_take : Cg P w K mg base CX0 2 "_law_take" (spTake K)) : FnG P w K mg base CX0 3 f fd ["rows", "draws", "at"] (spOne K) := by
  refine okG F sc_law_one (fun vs H Q E h => ?_) (fun cdv A outer s H vs Q E hG hr h => ?_)
  · obtain ⟨a, b, m, xs, rfl, _⟩ := h
    rfl
  · obtain ⟨r, dr, at_, xs, rfl, hS, hD, hpos, q⟩ := h
    refine ⟨_, (pss_one (ps_ret (pe_ix (r := rIxL K) ix_list (pv 0) (pe_cg c__law_take hr (by decide) hG (by rfl) (pa_cons (pv 1) (pa_cons (pv 2) (pa_cons (pe_callB (r := Ln.rLen K) (id := "len") c_len (by rfl) T.z_len (by decide +kernel) (pa_cons (pv 0) pa_nil)) pa_nil)))) (fun _ _ => rfl)))), ?_⟩
    refine ⟨.ref r, rfl, .ref dr, rfl, .ref at_, rfl, .ref r, rfl, .ref r, xs.length, rfl, .inl ⟨_, hS _ (But.refl _ _), rfl⟩, dr, at_, _, rfl, hD, by omega, fun v H' v0 v1 hB hD' => ?_⟩
    obtain ⟨j, rfl⟩ : ∃ j : Nat, v = j := ⟨v.toNat, by omega⟩
    have hj : j < xs.length := by omega
    exact ⟨r, xs, _, xs[j], rfl, rfl, hS _ hB, atI_nat (List.getElem?_eq_getElem hj), q _ (List.getElem_mem hj) _ hB hD'⟩
end
end Mine
set_option Elab.async false
set_option linter.all false
set_option maxRecDepth 100000
set_option maxHeartbeats 4000000
namespace Mine
open PySem PySem.Spec PyProof.Rows L2 Ln
/-! ## the arithmetic of shares -/
def qs (p : Int) (ws : List Int) : List Int := ws.map fun w => p * w / ws.sum
def rs (p : Int) (ws : List Int) : List Int := ws.map fun w => p * w % ws.sum
def keys (p : Int) (ws : List Int) : List (Int × Int) := (List.range ws.length).map fun i => (-((rs p ws).getD i 0), (i : Int))
def cutG {α : Type} (xs : List α) (l : Int) : List α := (xs.drop 0).take (HT.sIx xs.length xs.length (some l) - 0)
def bump (l : List Int) (q : Int × Int) : List Int := l.set q.2.toNat (l.getD q.2.toNat 0 + 1)
def Out (p : Int) (ws out : List Int) : Prop := ∃ O : List (Int × Int), SrtO.Srtd SrtO.lexB O ∧ SrtO.Stb SrtO.lexB O (keys p ws) ∧ out = (cutG O (p - (qs p ws).sum)).foldl bump (qs p ws)
theorem lex_swo : SrtO.Swo SrtO.lexB := by
  refine ⟨fun x y h => ?_, fun x y z h1 h2 => ?_⟩
  · have a := SrtO.lexB_iff.mp h
    refine SrtO.lexB_no.mpr ?_
    omega
  · have a := SrtO.lexB_no.mp h1
    have b := SrtO.lexB_no.mp h2
    refine SrtO.lexB_no.mpr ?_
    omega
theorem Out.uniq {p : Int} {ws a b : List Int} (ha : Out p ws a) (hb : Out p ws b) : a = b := by
  obtain ⟨O, h1, h2, rfl⟩ := ha
  obtain ⟨O', k1, k2, rfl⟩ := hb
  have e : O = O' := SrtO.stb_uniq lex_swo h1 k1 (h2.trans ⟨k2.perm.symm, fun x => (k2.cls x).symm⟩)
  rw [e]
theorem bump_len (l : List Int) (q : Int × Int) : (bump l q).length = l.length := by
  unfold bump
  rw [List.length_set]
theorem bumps_len : ∀ (L : List (Int × Int)) (l : List Int), (L.foldl bump l).length = l.length
  | [], _ => rfl
  | q :: L, l => by
    show (L.foldl bump (bump l q)).length = l.length
    rw [bumps_len L, bump_len]
theorem sum_set1 : ∀ (l : List Int) (j : Nat), j < l.length → (l.set j (l.getD j 0 + 1)).sum = l.sum + 1
  | [], j, h => by cases h
  | a :: r, 0, _ => by
    show ((a + 1) :: r).sum = (a :: r).sum + 1
    rw [List.sum_cons, List.sum_cons]
    omega
  | a :: r, j + 1, h => by
    have ih := sum_set1 r j (Nat.lt_of_succ_lt_succ h)
    show (a :: r.set j (r.getD j 0 + 1)).sum = (a :: r).sum + 1
    rw [List.sum_cons, List.sum_cons, ih]
    omega
theorem bumps_sum : ∀ (L : List (Int × Int)) (l : List Int), (∀ q ∈ L, q.2.toNat < l.length) → (L.foldl bump l).sum = l.sum + L.length
  | [], l, _ => by simp
  | q :: L, l, h => by
    show (L.foldl bump (bump l q)).sum = _
    rw [bumps_sum L (bump l q) fun x hx => by rw [bump_len]; exact h x (List.mem_cons_of_mem _ hx)]
    have e : (bump l q).sum = l.sum + 1 := sum_set1 l _ (h q List.mem_cons_self)
    rw [e, List.length_cons]
    omega
theorem bump_bd {l : List Int} {B : Int} (q : Int × Int) (h : ∀ x ∈ l, 0 ≤ x ∧ x ≤ B) : ∀ x ∈ bump l q, 0 ≤ x ∧ x ≤ B + 1 := by
  intro x hx
  rcases List.mem_or_eq_of_mem_set hx with hm | e
  · have := h x hm
    omega
  · subst e
    by_cases hj : q.2.toNat < l.length
    · have := h (l.getD q.2.toNat 0) (by rw [List.getD_eq_getElem?_getD, List.getElem?_eq_getElem hj]; exact List.getElem_mem hj)
      omega
    · unfold bump at hx
      rw [List.set_eq_of_length_le (by omega)] at hx
      have := h _ hx
      omega
theorem bumps_bd : ∀ (L : List (Int × Int)) {l : List Int} {B : Int}, (∀ x ∈ l, 0 ≤ x ∧ x ≤ B) → ∀ x ∈ L.foldl bump l, 0 ≤ x ∧ x ≤ B + L.length
  | [], l, B, h => by simpa using h
  | q :: L, l, B, h => by
    intro x hx
    have := bumps_bd L (bump_bd q h) x hx
    rw [List.length_cons]
    omega
theorem sums (p W : Int) (hW : 0 < W) : ∀ l : List Int, p * l.sum = W * (l.map fun w => p * w / W).sum + (l.map fun w => p * w % W).sum ∧ 0 ≤ (l.map fun w => p * w % W).sum ∧ (l.map fun w => p * w % W).sum ≤ (W - 1) * l.length
  | [] => by simp
  | w :: r => by
    obtain ⟨h1, h2, h3⟩ := sums p W hW r
    have a := Int.emod_nonneg (p * w) (show W ≠ 0 by omega)
    have b := Int.emod_lt_of_pos (p * w) hW
    have c := Int.mul_ediv_add_emod (p * w) W
    simp only [List.map_cons, List.sum_cons, List.length_cons]
    rw [Int.mul_add, Int.mul_add, h1]
    have e : (W - 1) * ((r.length + 1 : Nat) : Int) = (W - 1) * (r.length : Int) + (W - 1) := by
      rw [Int.natCast_add, Int.mul_add]
      simp
    rw [e]
    omega
structure Wts (ws : List Int) : Prop where
  pos : 1 ≤ ws.length
  four : ws.length ≤ 4
  bd : ∀ w ∈ ws, 1 ≤ w ∧ w ≤ 20000
theorem sum_ge : ∀ {l : List Int}, (∀ w ∈ l, 1 ≤ w ∧ w ≤ 20000) → (l.length : Int) ≤ l.sum ∧ l.sum ≤ 20000 * l.length ∧ ∀ w ∈ l, w ≤ l.sum
  | [], _ => by simp
  | a :: r, h => by
    obtain ⟨h1, h2, h3⟩ := sum_ge (l := r) fun w hw => h w (List.mem_cons_of_mem _ hw)
    have ha := h a List.mem_cons_self
    simp only [List.sum_cons, List.length_cons]
    refine ⟨by omega, by omega, fun w hw => ?_⟩
    rcases List.mem_cons.mp hw with e | hw
    · subst e
      omega
    · have := h3 w hw
      omega
theorem Wts.sum_pos {ws : List Int} (h : Wts ws) : 0 < ws.sum ∧ ws.sum ≤ 80000 := by
  obtain ⟨h1, h2, _⟩ := sum_ge h.bd
  have := h.pos
  have := h.four
  omega
theorem left_bd {p : Int} {ws : List Int} (h : Wts ws) : 0 ≤ p - (qs p ws).sum ∧ p - (qs p ws).sum < ws.length := by
  obtain ⟨hW, _⟩ := h.sum_pos
  obtain ⟨h1, h2, h3⟩ := sums p ws.sum hW ws
  have e : ws.sum * (p - (qs p ws).sum) = (ws.map fun w => p * w % ws.sum).sum := by
    rw [Int.mul_sub, Int.mul_comm ws.sum p, h1]
    unfold qs
    omega
  generalize p - (qs p ws).sum = d at e
  constructor
  · rcases Int.lt_or_le d 0 with hd | hd
    · have : ws.sum * d < 0 := Int.mul_neg_of_pos_of_neg hW hd
      omega
    · exact hd
  · rcases Int.lt_or_le d ws.length with hd | hd
    · exact hd
    · have a : ws.sum * (ws.length : Int) ≤ ws.sum * d := Int.mul_le_mul_of_nonneg_left hd (by omega)
      have b : (ws.sum - 1) * (ws.length : Int) = ws.sum * (ws.length : Int) - ws.length := by rw [Int.sub_mul, Int.one_mul]
      have c := h.pos
      omega
theorem keys_mem {p : Int} {ws : List Int} {q : Int × Int} (h : q ∈ keys p ws) : ∃ j : Nat, j < ws.length ∧ q.2 = (j : Int) := by
  obtain ⟨i, hi, rfl⟩ := List.mem_map.mp h
  exact ⟨i, List.mem_range.mp hi, rfl⟩
theorem keys_len (p : Int) (ws : List Int) : (keys p ws).length = ws.length := by
  unfold keys
  rw [List.length_map, List.length_range]
theorem cutG_take {α : Type} (xs : List α) (k : Nat) : cutG xs (k : Int) = xs.take k := by
  unfold cutG
  rw [HT.sIx_nat xs.length xs.length k, List.drop_zero, Nat.sub_zero]
  rcases Nat.le_total k xs.length with h | h
  · rw [Nat.min_eq_left h]
  · rw [Nat.min_eq_right h, List.take_length, List.take_of_length_le h]
theorem qs_bd {p : Int} {ws : List Int} (h : Wts ws) (h0 : 0 ≤ p) : ∀ x ∈ qs p ws, 0 ≤ x ∧ x ≤ p := by
  intro x hx
  obtain ⟨w, hw, rfl⟩ := List.mem_map.mp hx
  obtain ⟨hW, _⟩ := h.sum_pos
  have hb := h.bd w hw
  have hle := (sum_ge h.bd).2.2 w hw
  constructor
  · exact Int.ediv_nonneg (Int.mul_nonneg h0 (by omega)) (by omega)
  · apply Int.ediv_le_of_le_mul hW
    exact Int.mul_le_mul_of_nonneg_left hle h0
theorem Out.facts {p : Int} {ws out : List Int} (ho : Out p ws out) (h : Wts ws) (h0 : 0 ≤ p) (h1 : p ≤ 4000000) : out.sum = p ∧ out.length = ws.length ∧ ∀ x ∈ out, 0 ≤ x ∧ x ≤ 4000010 := by
  obtain ⟨O, s1, s2, rfl⟩ := ho
  obtain ⟨l0, l1⟩ := left_bd (p := p) h
  obtain ⟨k, hk⟩ : ∃ k : Nat, p - (qs p ws).sum = (k : Int) := ⟨(p - (qs p ws).sum).toNat, by omega⟩
  rw [hk, cutG_take]
  have hO : O.length = ws.length := by rw [s2.len, keys_len]
  have hm : ∀ q ∈ O.take k, ∃ j : Nat, j < ws.length ∧ q.2 = (j : Int) := fun q hq => keys_mem (s2.perm.mem_iff.mp (List.mem_of_mem_take hq))
  have hq : (qs p ws).length = ws.length := by unfold qs; rw [List.length_map]
  have hkl : (O.take k).length = k := by rw [List.length_take]; omega
  refine ⟨?_, ?_, ?_⟩
  · rw [bumps_sum _ _ fun q hq' => by obtain ⟨j, hj, e⟩ := hm q hq'; rw [e, hq]; omega]
    rw [hkl]
    omega
  · rw [bumps_len, hq]
  · intro x hx
    have := bumps_bd _ (qs_bd h h0) x hx
    have := h.four
    omega
end Mine
set_option Elab.async false
set_option linter.all false
set_option maxRecDepth 100000
set_option maxHeartbeats 4000000
namespace Mine
open PySem PySem.Spec PyProof.Rows L2 Ln
section
variable {P : Program} {w : World} {K : PySem.W.Frag} {mg : Str → Option Value} {base : Heap} {C fI : Addr}
/-! ## kinds -/
def spIsInt (K : PySem.W.Frag) : Sp := fun vs H Q _ => ∃ x, vs = [x] ∧ Plain K H x ∧ Q (.bl (isI x)) H
theorem ok_isint {f : Addr} {fd : FuncData} (F : Fun K "is_integer" "is_integer" s_is_integer f fd) (T : Txt K mg C fI) : FnG P w K mg base CX0 1 f fd ["value"] (spIsInt K) := by
  refine okG F sc_is_integer (fun vs H Q E h => ?_) (fun cdv A outer s H vs Q E hG hr h => ?_)
  · obtain ⟨x, rfl, _⟩ := h
    rfl
  · obtain ⟨x, rfl, hp, q⟩ := h
    refine ⟨_, (pss_one (ps_ret (pe_and (pe_callB (r := rIsi K) (id := "isinstance") call_isi (by rfl) T.z_isinstance (by decide +kernel) (pa_cons (pv 0) (pa_cons (pe_bltn (v := .ty "int") (u := .type "int") (by rfl) T.z_int (by decide +kernel) rfl) pa_nil))) (pe_one (pe_not (pe_callB (r := rIsi K) (id := "isinstance") call_isi (by rfl) T.z_isinstance (by decide +kernel) (pa_cons (pv 0) (pa_cons (pe_bltn (v := .ty "bool") (u := .type "bool") (by rfl) T.z_bool (by decide +kernel) rfl) pa_nil)))))))), ?_⟩
    obtain ⟨t, ty, k1, k2, _, _⟩ := hp.kit
    refine ⟨x, rfl, x, _, t, _, _, rfl, .ty "int", ty, k1, _, rfl, ?_⟩
    cases x with
    | int i => exact iteT ⟨_, rfl, _, _, t, _, _, rfl, .ty "bool", ty, k2, _, rfl, q⟩
    | bl b => exact iteT ⟨_, rfl, _, _, t, _, _, rfl, .ty "bool", ty, k2, _, rfl, q⟩
    | _ => exact iteF q
def inV2 (x : V) (lo hi : Int) : Bool := match x with | .int i => decide (lo ≤ i) && decide (i ≤ hi) | _ => false
def spWithin (K : PySem.W.Frag) : Sp := fun vs H Q _ => ∃ x lo hi, vs = [x, .int lo, .int hi] ∧ Plain K H x ∧ Q (.bl (inV2 x lo hi)) H
theorem ok_within {f : Addr} {fd : FuncData} (F : Fun K "is_within" "is_within" s_is_within f fd) (T : Txt K mg C fI) (c_is_integer : Cg P w K mg base CX0 1 "is_integer" (spIsInt K)) : FnG P w K mg base CX0 2 f fd ["value", "low", "high"] (spWithin K) := by
  refine okG F sc_is_within (fun vs H Q E h => ?_) (fun cdv A outer s H vs Q E hG hr h => ?_)
  · obtain ⟨x, lo, hi, rfl, _⟩ := h
    rfl
  · obtain ⟨x, lo, hi, rfl, hp, q⟩ := h
    refine ⟨_, (pss_one (ps_ret (pe_and (pe_cg c_is_integer hr (by decide) hG (by rfl) (pa_cons (pv 0) pa_nil)) (pe_one (pe_chain op_le op_le (pv 1) (pv 0) (pv 2)))))), ?_⟩
    refine ⟨x, rfl, x, rfl, hp, _, rfl, ?_⟩
    cases x with
    | int i =>
      refine iteT ⟨_, rfl, _, rfl, _, _, rfl, rfl, _, rfl, ite2 (fun h1 => ?_) (fun h1 => ?_)⟩
      · refine ⟨_, rfl, _, _, rfl, rfl, ?_⟩
        have e : inV2 (.int i) lo hi = decide (i ≤ hi) := by
          show (decide (lo ≤ i) && decide (i ≤ hi)) = _
          rw [h1, Bool.true_and]
        rw [e] at q
        exact q
      · have e : inV2 (.int i) lo hi = false := by
          show (decide (lo ≤ i) && decide (i ≤ hi)) = _
          rw [Bool.eq_false_iff.mpr h1, Bool.false_and]
        rw [e] at q
        exact q
    | _ => exact iteF q
/-! ## the error -/
def spInit (C : Addr) : Sp := fun vs H Q _ => ∃ (a : Addr) (v : V), vs = [.ref a, v] ∧ H a = some (exo a C none) ∧ ∀ dx, H dx = none → dx ≠ a → Q .non (upd (upd H dx (exd dx [("reason", v)])) a (exo a C (some dx)))
theorem ok_init {f : Addr} {fd : FuncData} (F : Fun K "__init__" "ArgumentError.__init__" s_ArgumentErrorD_initD f fd) (T : Txt K mg C fI) : FnOk P w K mg base CX0 1 f fd ["self", "reason"] (spInit C) := by
  refine F.ok sc_ArgumentErrorD_initD (fun vs H Q E h => ?_) (fun cdv A outer s H vs Q E hr h => ?_)
  · obtain ⟨a, v, rfl, _⟩ := h
    rfl
  · obtain ⟨a, v, rfl, ha, q⟩ := h
    refine ⟨_, (pss_one (ps_ost (pv 0) (pv 1))), ?_⟩
    exact ⟨v, rfl, .ref a, rfl, a, C, rfl, T.o_ArgumentError, T.n_ArgumentError_reason, .inl ⟨ha, fun dx n1 n2 => q dx n1 n2⟩⟩
/-- an ArgumentError with this reason leaves -/
def Rz (C : Addr) (x : Str) (H : Hp) (E : XK) : Prop := ∀ d H', Same H H' → H d = none → H' d = some (.xd [("reason", .str x)]) → E (.ref C) (some d) H'
theorem Rz.later {x : Str} {H H1 : Hp} {E : XK} (h : Rz C x H E) (s : Same H H1) : Rz C x H1 E := fun d H' s' n e => h d H' (s.trans s') (s.free n) e
def spRequire (C : Addr) : Sp := fun vs H Q E => ∃ (b : Bool) (x : Str), vs = [.bl b, .str x] ∧ (b = true → Q .non H) ∧ (b = false → Rz C x H E)
theorem ok_require {f : Addr} {fd fdI : FuncData} (F : Fun K "require" "require" s_require f fd) (T : Txt K mg C fI) (fi_ArgumentError : FnOk P w K mg base CX0 1 fI fdI ["self", "reason"] (spInit C)) (fb_ArgumentError : Binds K fdI ["self", "reason"] []) :
    FnG P w K mg base (L2.CX P w) 3 f fd ["holds", "reason"] (spRequire C) := by
  refine okX F sc_require (fun vs H Q E h => ?_) (fun cdv A outer s H vs Q E hG hr h => ?_)
  · obtain ⟨b, x, rfl, _⟩ := h
    rfl
  · obtain ⟨b, x, rfl, qt, qf⟩ := h
    have tk0 : Takes (cxOf (L2.CX P w) P w K mg base N_require "require" (defScope s_require) f cdv A outer s H E) (fun cls d _ H => E cls d H) := takes_of rfl rfl rfl rfl
    refine ⟨_, (pss_one (ps_if (pt_not (pt_val (pv 0)))
    (pss_one (ps_raise rfl tk0 (pmk_oex T.o_ArgumentError T.i_ArgumentError T.t_ArgumentError fi_ArgumentError (hr.mono (by decide)) fb_ArgumentError .nil pass0 (by rfl) T.m_ArgumentError (pa_cons (pv 1) pa_nil))))
    pss_nil)), ?_⟩
    refine ⟨_, rfl, b, rfl, ?_⟩
    cases b with
    | true => exact iteF (qt rfl)
    | false =>
      refine iteT ?_
      refine ⟨_, rfl, by show 1 ≤ 1000; decide, fun a na => ⟨a, _, rfl, upd_same, fun dx n1 n2 => ⟨rfl, dx, [("reason", .str x)], upd_same, ?_, ?_, ?_⟩⟩⟩
      · rw [upd_ne n2]
        exact upd_same
      · rw [upd_ne n2] at n1
        exact n1
      · have nd : H dx = none := by rw [upd_ne n2] at n1; exact n1
        refine qf rfl dx _ ?_ nd upd_same
        intro b o e
        have b1 : b ≠ dx := ne_of_none e nd
        have b2 : b ≠ a := ne_of_none e na
        rw [upd_ne b1, del_ne b2, upd_ne b2, upd_ne b1, upd_ne b2]
        exact e
/-! ## weights -/
def wOk (xs : List V) : Bool := (decide (1 ≤ (xs.length : Int)) && decide ((xs.length : Int) ≤ 4)) && xs.all fun x => inV2 x 1 20000
def spWeights (K : PySem.W.Frag) : Sp := fun vs H Q _ => ∃ x, vs = [x] ∧ ((Plain K H x ∧ isR x = false ∧ Q (.bl false) H) ∨ ∃ a xs, x = .ref a ∧ SqT K H a xs ∧ (∀ y ∈ xs, Plain K H y) ∧ ∀ H', Same H H' → Q (.bl (wOk xs)) H')
theorem ok_weights {f : Addr} {fd : FuncData} (F : Fun K "are_weights" "are_weights" s_are_weights f fd) (T : Txt K mg C fI) (c_is_within : Cg P w K mg base CX0 2 "is_within" (spWithin K)) : FnG P w K mg base CX0 3 f fd ["value"] (spWeights K) := by
  refine okG F sc_are_weights (fun vs H Q E h => ?_) (fun cdv A outer s H vs Q E hG hr h => ?_)
  · obtain ⟨x, rfl, _⟩ := h
    rfl
  · obtain ⟨x, rfl, h⟩ := h
    refine ⟨_, (pss_cons (ps_if (PW.pt (pw_or (pt_not (pt_val (pe_callB (r := rIsi K) (id := "isinstance") call_isi (by rfl) T.z_isinstance (by decide +kernel) (pa_cons (pv 0) (pa_cons (pe_bltn (v := .ty "tuple") (u := .type "tuple") (by rfl) T.z_tuple (by decide +kernel) rfl) pa_nil))))) (pw_or1 (pt_not (pt_chain op_le op_le pe_int (pe_callB (r := Ln.rLen K) (id := "len") c_len (by rfl) T.z_len (by decide +kernel) (pa_cons (pv 0) pa_nil)) pe_int)))))
    (pss_one (ps_ret pe_bl))
    pss_nil)
    (pss_one (ps_ret (pe_callB (r := rAll K) (id := "all") (cr_all rfl) (by rfl) T.z_all (by decide +kernel) (pa_cons (pe_lc (own := [("weight", 1)]) rfl sc_are_weights.nd (pi_tup (pv 0)) (blkOk_by (own := [("weight", 1)]) (N := N_are_weights) (sc := defScope s_are_weights) (by decide +kernel)) (fun _ _ _ _ _ => (pg_name (i := 1) sc_are_weights.nd rfl (.inl rfl))) (fun _ _ _ _ _ => pts_nil) (fun _ _ _ _ _ => (pe_cg c_is_within hr (by decide) hG (by rfl) (pa_cons (pv 1) (pa_cons pe_int (pa_cons pe_int pa_nil)))))) pa_nil))))), ?_⟩
    rcases h with ⟨hp, nr, q⟩ | ⟨a, xs, rfl, hS, hxs, q⟩
    · obtain ⟨t, ty, _, _, _, k4⟩ := hp.kit
      rw [nr] at k4
      exact ⟨x, rfl, x, _, t, _, _, rfl, .ty "tuple", ty, k4, _, rfl, iteT (iteT q)⟩
    · obtain ⟨t, ty, _, _, _, k4⟩ := (Plain.tup hS).kit
      refine ⟨.ref a, rfl, _, _, t, _, _, rfl, .ty "tuple", ty, k4, _, rfl, iteF ?_⟩
      have hw : wOk xs = ((decide (1 ≤ (xs.length : Int)) && decide ((xs.length : Int) ≤ 4)) && xs.all fun x => inV2 x 1 20000) := rfl
      -- 1 <= len(value) <= 4
      refine ⟨.ref a, rfl, .ref a, xs.length, rfl, .inr ⟨_, hS, rfl⟩, _, _, rfl, rfl, _, rfl, ite2 (fun h1 => ?_) (fun h1 => ?_)⟩
      · refine ⟨_, _, rfl, rfl, _, rfl, ?_⟩
        rw [h1, Bool.true_and] at hw
        by_cases h2 : ((xs.length : Int) ≤ 4)
        · rw [decide_eq_true h2] at hw ⊢
          refine iteF ?_
          -- all of them
          refine ⟨.ref a, rfl, a, rfl, ⟨_, hS⟩, fun D nD => lc_tup (K := K) (a := a) (xs := xs) (fun i H' => Same H H' ∧ H' D = some (.lst (((xs.take i).map fun x => inV2 x 1 20000).map V.bl))) ?_ ?_ ?_ ?_⟩
          · exact ⟨Ln.same_upd nD, upd_same⟩
          · rintro i H' hi ⟨sm, _⟩
            exact Same.tup sm hS
          · rintro i x H' hx ⟨sm, hD⟩
            have hm : x ∈ xs := List.mem_of_getElem? hx
            refine ⟨rfl, ?_⟩
            refine ⟨_, rfl, _, _, _, rfl, (hxs x hm).same sm, _, hD, ?_, same_at sm nD, ?_⟩
            · rw [List.length_map, List.length_map, List.length_take]
              exact small1 (by omega)
            · rw [upd_same, List.take_add_one, hx]
              simp only [List.map_append, Option.toList_some, List.map_cons, List.map_nil]
          · rintro H' ⟨sm, hD⟩
            rw [List.take_length] at hD
            refine ⟨_, _, rfl, SqL.of hD, ?_⟩
            have e : (xs.map fun x => inV2 x 1 20000).all id = xs.all fun x => inV2 x 1 20000 := by rw [List.all_map]; rfl
            rw [e, ← Bool.true_and (xs.all fun x => inV2 x 1 20000), ← hw]
            exact q H' sm
        · rw [decide_eq_false h2] at hw ⊢
          refine iteT ?_
          rw [Bool.false_and] at hw
          rw [← hw]
          exact q H (Same.refl H)
      · have h1' := Bool.eq_false_iff.mpr h1
        rw [h1', Bool.false_and, Bool.false_and] at hw
        refine ⟨_, rfl, iteT ?_⟩
        rw [← hw]
        exact q H (Same.refl H)
end
end Mine
set_option Elab.async false
set_option linter.all false
set_option maxRecDepth 100000
set_option maxHeartbeats 8000000
namespace Mine
open PySem PySem.Spec PyProof.Rows L2 Ln
section
variable {P : Program} {w : World} {K : PySem.W.Frag} {mg : Str → Option Value} {base : Heap} {C fI : Addr}
theorem wOk_of {ws : List Int} (h : Wts ws) : wOk (ws.map V.int) = true := by
  have a := h.pos
  have b := h.four
  unfold wOk
  rw [List.length_map, decide_eq_true (show (1 : Int) ≤ ws.length by omega), decide_eq_true (show (ws.length : Int) ≤ 4 by omega), Bool.true_and, Bool.true_and, List.all_eq_true]
  intro x hx
  obtain ⟨i, hi, rfl⟩ := List.mem_map.mp hx
  have c := h.bd i hi
  show (decide (1 ≤ i) && decide (i ≤ 20000)) = true
  rw [decide_eq_true c.1, decide_eq_true c.2, Bool.and_self]
theorem plains {H : Hp} {ws : List Int} : ∀ y ∈ ws.map V.int, Plain K H y := by
  intro y hy
  obtain ⟨i, _, rfl⟩ := List.mem_map.mp hy
  exact .int i
def badW (K : PySem.W.Frag) (H : Hp) (y : V) : Prop := (Plain K H y ∧ isR y = false) ∨ ∃ a xs, y = .ref a ∧ SqT K H a xs ∧ (∀ z ∈ xs, Plain K H z) ∧ wOk xs = false
/-- what shares asks of its arguments and gives -/
def ShSp (K : PySem.W.Frag) (H : Hp) (x y : V) (PE WE : Prop) (Q : VK) : Prop := Plain K H x ∧ ((inV2 x 0 4000000 = false ∧ PE) ∨ (inV2 x 0 4000000 = true ∧ badW K H y ∧ WE) ∨
  ∃ p a ws, x = .int p ∧ y = .ref a ∧ 0 ≤ p ∧ p ≤ 4000000 ∧ SqT K H a (ws.map V.int) ∧ Wts ws ∧ ∀ H' o out, Same H H' → H o = none → H' o = some (.tup (out.map V.int)) → Out p ws out → Q (.ref o) H')
def spShares (K : PySem.W.Frag) (C : Addr) : Sp := fun vs H Q E => ∃ x y, vs = [x, y] ∧ ShSp K H x y (Rz C "price" H E) (Rz C "weights" H E) Q
def qr (p : Int) (ws : List Int) : List (Int × Int) := ws.map fun v => (p * v / ws.sum, p * v % ws.sum)
theorem qr_get {p : Int} {ws : List Int} {i : Nat} {v : Int} (h : ws[i]? = some v) : (qr p ws)[i]? = some (p * v / ws.sum, p * v % ws.sum) := by
  unfold qr
  rw [List.getElem?_map, h]
  rfl
theorem qs_get {p : Int} {ws : List Int} {i : Nat} {v : Int} (h : ws[i]? = some v) : (qs p ws)[i]? = some (p * v / ws.sum) := by
  unfold qs
  rw [List.getElem?_map, h]
  rfl
theorem keys_get {p : Int} {ws : List Int} {i : Nat} {v : Int} (h : ws[i]? = some v) : (keys p ws)[i]? = some (-(p * v % ws.sum), (i : Int)) := by
  have hi : i < ws.length := (List.getElem?_eq_some_iff.mp h).1
  unfold keys
  rw [List.getElem?_map, List.getElem?_range hi]
  show some (-((rs p ws).getD i 0), (i : Int)) = _
  have e : (rs p ws)[i]? = some (p * v % ws.sum) := by
    unfold rs
    rw [List.getElem?_map, h]
    rfl
  rw [List.getD_eq_getElem?_getD, e]
  rfl
theorem at_ws {ws : List Int} {i : Nat} (h : i < ws.length) : ∃ v, ws[i]? = some v := ⟨ws[i], List.getElem?_eq_getElem h⟩
/-- the last loop: each place of the cut gets one coin -/
theorem cut_map {H : Hp} {ys : List V} {l : Int} {O : List (Int × Int)} (h : ys.map (keyOf H) = O) : (cutV ys none (some l)).map (keyOf H) = cutG O l := by
  subst h
  unfold cutV cutG
  rw [List.map_take, List.map_drop, List.length_map]
  rfl
theorem ok_shares {f : Addr} {fd : FuncData} (F : Fun K "shares" "shares" s_shares f fd) (T : Txt K mg C fI) (c_is_within : Cg P w K mg base CX0 2 "is_within" (spWithin K))
    (c_require : Cg P w K mg base (L2.CX P w) 3 "require" (spRequire C)) (c_are_weights : Cg P w K mg base CX0 3 "are_weights" (spWeights K)) : FnG P w K mg base (L2.CX P w) 4 f fd ["price", "weights"] (spShares K C) := by
  refine okX F sc_shares (fun vs H Q E h => ?_) (fun cdv A outer s H vs Q E hG hr h => ?_)
  · obtain ⟨x, y, rfl, _⟩ := h
    rfl
  · obtain ⟨x, y, rfl, hp, h⟩ := h
    have tk0 : Takes (cxOf (L2.CX P w) P w K mg base N_shares "shares" (defScope s_shares) f cdv A outer s H E) (fun cls d _ H => E cls d H) := takes_of rfl rfl rfl rfl
    refine ⟨_, (pss_cons (ps_expr (pe_cgS c_require hr (by decide) hG (fun _ => passE tk0) (by rfl) (pa_cons (pe_cg c_is_within hr (by decide) hG (by rfl) (pa_cons (pv 0) (pa_cons pe_int (pa_cons (pe_op op_mul pe_int (pe_gl (by rfl) T.g_MAX_COIN)) pa_nil)))) (pa_cons pe_str pa_nil))))
    (pss_cons (ps_expr (pe_cgS c_require hr (by decide) hG (fun _ => passE tk0) (by rfl) (pa_cons (pe_cg c_are_weights hr (by decide) hG (by rfl) (pa_cons (pv 1) pa_nil)) (pa_cons pe_str pa_nil))))
    (pss_cons (ps_setLc (i := 2) (own := [("weight", 3)]) rfl sc_shares.nd rfl rfl (sw_true rfl rfl rfl (by decide +kernel)) (pi_tup (pv 1)) (blkOk_by (own := [("weight", 3)]) (N := N_shares) (sc := defScope s_shares) (by decide +kernel)) (fun _ _ _ _ _ => (pg_name (i := 3) sc_shares.nd rfl (.inl rfl))) (fun _ _ _ _ _ => pts_nil) (fun _ _ _ _ _ => (pe_callB (id := "divmod") call_divmod (by rfl) T.z_divmod (by decide +kernel) (pa_cons (pe_op op_mul (pv 0) (pv 3)) (pa_cons (pe_callB (r := rSumT K) (id := "sum") (cr_sumT rfl) (by rfl) T.z_sum (by decide +kernel) (pa_cons (pv 1) pa_nil)) pa_nil)))))
    (pss_cons (ps_setLc (i := 4) (own := [("share", 5), ("_", 6)]) (g := (gTup K 2 (gCons (gName 5) (gCons (gName 6) gNil)))) rfl sc_shares.nd rfl rfl (sw_true rfl rfl rfl (by decide +kernel)) (pi_list (pv 2)) (blkOk_by (own := [("share", 5), ("_", 6)]) (N := N_shares) (sc := defScope s_shares) (by decide +kernel)) (fun _ _ _ _ _ => (pg_tup (by rfl) (pgs_cons (pg_name (i := 5) sc_shares.nd rfl (.inl rfl)) (pgs_cons (pg_name (i := 6) sc_shares.nd rfl (.inl rfl)) pgs_nil)))) (fun _ _ _ _ _ => pts_nil) (fun _ _ _ _ _ => (pv 5)))
    (pss_cons (ps_set (i := 7) sc_shares.nd rfl (.inl rfl) (pe_callB (r := rSortedPO K) (id := "sorted") cr_sortedPO (by rfl) T.z_sorted (by decide +kernel) (pa_cons (pe_lc (own := [("place", 8), ("_", 6), ("rest", 9)]) (g := (gTup K 2 (gCons (gName 8) (gCons (gTup K 2 (gCons (gName 6) (gCons (gName 9) gNil))) gNil)))) rfl sc_shares.nd (pi_enum (by rfl) T.z_enumerate (pa_cons (pv 2) pa_nil)) (blkOk_by (own := [("place", 8), ("_", 6), ("rest", 9)]) (N := N_shares) (sc := defScope s_shares) (by decide +kernel)) (fun _ _ _ _ _ => (pg_tup (by rfl) (pgs_cons (pg_name (i := 8) sc_shares.nd rfl (.inl rfl)) (pgs_cons (pg_tup (by rfl) (pgs_cons (pg_name (i := 6) sc_shares.nd rfl (.inl rfl)) (pgs_cons (pg_name (i := 9) sc_shares.nd rfl (.inl rfl)) pgs_nil))) pgs_nil)))) (fun _ _ _ _ _ => pts_nil) (fun _ _ _ _ _ => (pe_tup (pa_cons (pe_un un_neg (pv 9)) (pa_cons (pv 8) pa_nil))))) pa_nil)))
    (pss_cons (ps_set (i := 10) sc_shares.nd rfl (.inl rfl) (pe_op op_sub (pv 0) (pe_callB (r := rSum K) (id := "sum") (cr_sum rfl) (by rfl) T.z_sum (by decide +kernel) (pa_cons (pv 4) pa_nil))))
    (pss_cons (ps_for (passes_of rfl) rfl (pi_list (pe_slice (r := rSlL K) sl_list (pv 7) po_none (po_some (pv 10)))) (pg_tup (by rfl) (pgs_cons (pg_name (i := 6) sc_shares.nd rfl (.inl rfl)) (pgs_cons (pg_name (i := 8) sc_shares.nd rfl (.inl rfl)) pgs_nil)))
    (pss_one (ps_augS (pv 4) (pv 8) get_list pe_int ip_add set_list)))
    (pss_one (ps_ret (pe_callTy (r := Ln.rTupOf K) (T := "tuple") c_tuple (by rfl) T.z_tuple (by decide +kernel) (pa_cons (pv 4) pa_nil))))))))))), ?_⟩
    refine ⟨x, rfl, _, _, rfl, rfl, .inr ⟨by decide, by decide⟩, x, 0, 4 * 1000000, rfl, hp, inV2 x 0 (4 * 1000000), "price", rfl, fun hok => ?_, fun hno => ?_⟩
    rotate_left
    · rcases h with ⟨_, e⟩ | ⟨h1, _⟩ | ⟨p, a, ws, rfl, _, h0, h1, _⟩
      · exact e
      · exact absurd (h1.symm.trans hno) (by decide)
      · have : inV2 (.int p) 0 (4 * 1000000) = true := by
          show (decide (0 ≤ p) && decide (p ≤ 4 * 1000000)) = true
          rw [decide_eq_true h0, decide_eq_true (by omega), Bool.and_self]
        exact absurd (this.symm.trans hno) (by decide)
    rcases h with ⟨h1, _⟩ | ⟨_, hb, e⟩ | ⟨p, a, ws, rfl, rfl, h0, h1, hS, hw, q⟩
    · exact absurd (hok.symm.trans h1) (by decide)
    · rcases hb with ⟨hy, hr'⟩ | ⟨a, xs, rfl, hS, hxs, hbad⟩
      · refine ⟨y, rfl, y, rfl, .inl ⟨hy, hr', false, "weights", rfl, ?_, ?_⟩⟩
        · intro z
          cases z
        · intro _
          exact e
      · refine ⟨_, rfl, _, rfl, .inr ⟨a, xs, rfl, hS, hxs, fun H1 sm => ⟨_, "weights", rfl, ?_, ?_⟩⟩⟩
        · intro z
          exact absurd (z.symm.trans hbad) (by decide)
        · intro _
          exact e.later sm
    · refine ⟨_, rfl, _, rfl, .inr ⟨a, _, rfl, hS, plains, fun H1 sm1 => ⟨_, "weights", rfl, fun _ => ?_, ?_⟩⟩⟩
      rotate_left
      · intro z
        exact absurd (z.symm.trans (wOk_of hw)) (by decide)
      obtain ⟨hW, hW2⟩ := hw.sum_pos
      have hw4 := hw.four
      -- parts
      refine ⟨.ref a, rfl, a, rfl, ⟨_, Same.tup sm1 hS⟩, fun D nD => lc_tup (K := K) (a := a) (xs := ws.map V.int) (fun i H' => Same H H' ∧ ∃ xs, H' D = some (.lst xs) ∧ PairL H' xs ((qr p ws).take i)) ?_ ?_ ?_ ?_⟩
      · exact ⟨sm1.trans (Ln.same_upd nD), [], upd_same, .nil⟩
      · rintro i H' _ ⟨sm, _⟩
        exact Same.tup sm hS
      · rintro i v H' hv ⟨sm, xs, hD, hP⟩
        obtain ⟨z, hz, rfl⟩ := getI hv
        have hi : i < ws.length := (List.getElem?_eq_some_iff.mp hz).1
        refine ⟨rfl, ?_⟩
        refine ⟨_, rfl, _, rfl, _, _, rfl, rfl, .inl ⟨by omega, by omega⟩, .ref a, rfl, a, ws, rfl, Same.tup sm hS, p * z, ws.sum, rfl, ⟨hW, by omega⟩, fun t nt => ⟨xs, ?_, ?_, ?_, xs ++ [.ref t], upd_same, ?_⟩⟩
        · rw [upd_ne (ne_of_none hD nt)]
          exact hD
        · rw [hP.len, List.length_take]
          exact small1 (by omega)
        · exact same_at (sm.trans (Ln.same_upd nt)) (sm1.free nD)
        · rw [takeS (qr_get hz)]
          have ntD : t ≠ D := fun e => by rw [e, hD] at nt; cases nt
          refine Paired.snoc (PairL.mono hP ((Tp.new nt).trans (Tp.lst (xs := xs) ?_))) ⟨t, rfl, ?_⟩
          · rw [upd_ne ntD.symm]
            exact hD
          · rw [upd_ne ntD]
            exact upd_same
      · rintro H2 ⟨sm2, xs, hD, hP⟩
        have eqn : (qr p ws).take (ws.map V.int).length = qr p ws := List.take_of_length_le (by unfold qr; rw [List.length_map, List.length_map]; exact Nat.le_refl _)
        rw [eqn] at hP
        have nD' := sm1.free nD
        have lenq : xs.length = ws.length := by rw [hP.len]; unfold qr; rw [List.length_map]
        -- told
        refine ⟨.ref D, rfl, D, rfl, ⟨_, SqL.of hD⟩, fun Tl nT => lc_list (K := K) (a := D) (xs := xs) (fun i H' => Same H2 H' ∧ H' Tl = some (.lst (((qs p ws).take i).map V.int))) ?_ ?_ ?_ ?_⟩
        · exact ⟨Ln.same_upd nT, upd_same⟩
        · rintro i H' _ ⟨sm, _⟩
          exact SqL.of (sm _ _ hD)
        · rintro i v H' hv ⟨sm, hT⟩
          have hi : i < ws.length := by have := (List.getElem?_eq_some_iff.mp hv).1; omega
          obtain ⟨z, hz⟩ := at_ws hi
          obtain ⟨t, pr, hpr, rfl, ht⟩ := hP.get hv
          have e : pr = (p * z / ws.sum, p * z % ws.sum) := Option.some.inj (hpr.symm.trans (qr_get hz))
          subst e
          refine ⟨t, _, rfl, SqT.of (sm _ _ ht), rfl, _, _, rfl, _, _, rfl, rfl, rfl, ?_⟩
          refine ⟨_, rfl, _, hT, ?_, same_at sm nT, ?_⟩
          · rw [List.length_map, List.length_take]
            exact small1 (by omega)
          · rw [upd_same, takeS (qs_get hz), List.map_append]
            rfl
        · rintro H3 ⟨sm3, hT⟩
          have hlq : (qs p ws).length = ws.length := by unfold qs; rw [List.length_map]
          rw [List.take_of_length_le (by omega)] at hT
          have hD3 := sm3 _ _ hD
          have hP3 : PairL H3 xs (qr p ws) := hP.mono (Same.tp sm3)
          have neDT : D ≠ Tl := ne_of_none hD nT
          -- order
          refine ⟨.ref D, rfl, D, xs, rfl, SqL.of hD3, fun R nR => lc_it (walk_enum (K := K) (a := D) (xs := xs)) (fun i H' => Same H3 H' ∧ ∃ zs, H' R = some (.lst zs) ∧ PairL H' zs ((keys p ws).take i)) ?_ ?_ ?_ ?_⟩
          · exact ⟨Ln.same_upd nR, [], upd_same, .nil⟩
          · rintro i H' _ ⟨sm, _⟩
            exact SqL.of (sm _ _ hD3)
          · rintro i v H4 H5 hi ⟨sm, zs, hR, hZ⟩ ⟨u, i', y, rfl, nu, rfl, e1, e2⟩
            have hi' : i < ws.length := by omega
            obtain ⟨z, hz⟩ := at_ws hi'
            obtain ⟨t, pr, hpr, rfl, ht⟩ := hP3.get e2
            have e : pr = (p * z / ws.sum, p * z % ws.sum) := Option.some.inj (hpr.symm.trans (qr_get hz))
            subst e
            have e3 : i' = V.int (i : Nat) := (Option.some.inj e1).symm
            subst e3
            have smu : Same H3 (upd H4 u (.tup [.int (i : Nat), .ref t])) := sm.trans (Ln.same_upd nu)
            refine ⟨u, _, rfl, SqT.of upd_same, rfl, _, _, rfl, _, _, rfl, ⟨t, _, rfl, SqT.of (smu _ _ ht), rfl, _, _, rfl, _, _, rfl, rfl, rfl, rfl, ?_⟩⟩
            have nuR : u ≠ R := fun e => by rw [e, hR] at nu; cases nu
            refine ⟨_, rfl, _, rfl, _, rfl, by show 2 ≤ sizeLine; decide, fun t2 n2 => ⟨zs, ?_, ?_, ?_, _, upd_same, ?_⟩⟩
            · rw [upd_ne (fun e => by rw [← e, upd_ne nuR.symm, hR] at n2; cases n2), upd_ne nuR.symm]
              exact hR
            · rw [hZ.len, List.length_take]
              have := keys_len p ws
              exact small1 (by omega)
            · exact same_at (smu.trans (Ln.same_upd n2)) nR
            · rw [takeS (keys_get hz)]
              have n2R : t2 ≠ R := fun e => by rw [e, upd_ne nuR.symm, hR] at n2; cases n2
              have hR' : (upd (upd H4 u (.tup [.int (i : Nat), .ref t])) t2 (.tup [.int (-(p * z % ws.sum)), .int (i : Nat)])) R = some (.lst zs) := by
                rw [upd_ne n2R.symm, upd_ne nuR.symm]
                exact hR
              refine Paired.snoc (PairL.mono hZ ((Tp.new nu).trans ((Tp.new n2).trans (Tp.lst (xs := zs) hR')))) ⟨t2, rfl, ?_⟩
              rw [upd_ne n2R]
              exact upd_same
          · rintro H4 ⟨sm4, zs, hR, hZ⟩
            rw [List.take_of_length_le (by rw [keys_len]; omega)] at hZ
            obtain ⟨k1, k2⟩ := hZ.keys
            refine ⟨R, zs, keyOf H4, rfl, SqL.of hR, k2, fun ys Y s1 s2 nY => ?_⟩
            have hO1 : SrtO.Srtd SrtO.lexB (ys.map (keyOf H4)) := SrtO.srtd_map s1
            have hO2 : SrtO.Stb SrtO.lexB (ys.map (keyOf H4)) (keys p ws) := by
              rw [← k1]
              exact SrtO.Stb.map lex_swo (keyOf H4) s2
            have hys : ∀ x ∈ ys, ∃ t, x = V.ref t ∧ H4 t = some (.tup [.int (keyOf H4 x).1, .int (keyOf H4 x).2]) ∧ ∃ j : Nat, j < ws.length ∧ (keyOf H4 x).2 = (j : Int) := by
              intro x hx
              have hm : x ∈ zs := s2.perm.mem_iff.mp hx
              obtain ⟨t, e, ht⟩ := k2 x hm
              exact ⟨t, e, ht, keys_mem (by rw [← k1]; exact List.mem_map_of_mem hm)⟩
            have smY : Same H4 (upd H4 Y (.lst ys)) := Ln.same_upd nY
            have hT4 := smY _ _ (sm4 _ _ hT)
            -- left
            refine ⟨_, rfl, .ref Tl, rfl, Tl, qs p ws, rfl, SqL.of hT4, p, (qs p ws).sum, rfl, rfl, ?_⟩
            -- the loop
            refine ⟨.ref Y, rfl, .int (p - (qs p ws).sum), rfl, p - (qs p ws).sum, rfl, Y, ys, rfl, SqL.of upd_same, fun Cc nC => ?_⟩
            have smC : Same (upd H4 Y (.lst ys)) (upd (upd H4 Y (.lst ys)) Cc (.lst (cutV ys none (some (p - (qs p ws).sum))))) := Ln.same_upd nC
            have hT5 := smC _ _ hT4
            have hcut := cut_map (H := H4) (ys := ys) (l := p - (qs p ws).sum) rfl
            have neCT : Cc ≠ Tl := fun e => by rw [e, hT4] at nC; cases nC
            have smAll : Same H (upd (upd H4 Y (.lst ys)) Cc (.lst (cutV ys none (some (p - (qs p ws).sum))))) := ((((sm2.trans sm3).trans sm4).trans smY).trans smC)
            have nT0 : H Tl = none := sm2.free nT
            refine ⟨Cc, rfl, ⟨_, SqL.of upd_same⟩, for_list (K := K) (a := Cc) (xs := cutV ys none (some (p - (qs p ws).sum))) (fun i σ H' => ∃ v6 v8, σ = [some (.int p), some (.ref a), some (.ref D), none, some (.ref Tl), none, v6, some (.ref Y), v8, none, some (.int (p - (qs p ws).sum))] ∧ Same H H' ∧
              H' Cc = some (.lst (cutV ys none (some (p - (qs p ws).sum)))) ∧ Tp H4 H' ∧ H' Tl = some (.lst ((((cutG (ys.map (keyOf H4)) (p - (qs p ws).sum)).take i).foldl bump (qs p ws)).map V.int))) ?_ ?_ ?_ ?_⟩
            · exact ⟨none, none, rfl, smAll, upd_same, (Same.tp smY).trans (Same.tp smC), hT5⟩
            · rintro i σ H' _ ⟨_, _, _, _, hC, _⟩
              exact SqL.of hC
            · rintro i x σ H' hx ⟨v6, v8, rfl, sm, hC, htp, hT'⟩
              have hmem : x ∈ ys := by
                have := List.mem_of_getElem? hx
                unfold cutV at this
                exact List.mem_of_mem_drop (List.mem_of_mem_take this)
              obtain ⟨t, rfl, ht, j, hj, ej⟩ := hys x hmem
              have hk : (cutG (ys.map (keyOf H4)) (p - (qs p ws).sum))[i]? = some (keyOf H4 (.ref t)) := by
                rw [← hcut, List.getElem?_map, hx]
                rfl
              refine ⟨t, _, rfl, SqT.of (htp _ _ ht), rfl, _, _, rfl, _, _, rfl, rfl, ?_⟩
              generalize hl : ((cutG (ys.map (keyOf H4)) (p - (qs p ws).sum)).take i).foldl bump (qs p ws) = l at hT'
              have hll : l.length = ws.length := by rw [← hl, bumps_len, hlq]
              have hjl : j < l.length := by omega
              refine ⟨.ref Tl, rfl, _, rfl, Tl, _, j, .int l[j], rfl, congrArg V.int ej, SqL.of hT', ?_, _, _, rfl, rfl, Tl, _, _, j, rfl, rfl, hT', ?_, ?_⟩
              · rw [List.getElem?_map, List.getElem?_eq_getElem hjl]
                rfl
              · rw [List.length_map, ej]
                unfold ixN
                rw [if_pos (by omega), if_pos (by omega)]
                simp
              · refine ⟨_, _, rfl, same_at sm nT0, ?_, htp.trans (Tp.lst hT'), ?_⟩
                · rw [upd_ne neCT]
                  exact hC
                · rw [upd_same, takeS hk, List.foldl_append, hl]
                  show some (HO.lst ((l.map V.int).set j (.int (l[j] + 1)))) = some (HO.lst ((bump l (keyOf H4 (.ref t))).map V.int))
                  unfold bump
                  rw [ej, Int.toNat_natCast, List.getD_eq_getElem?_getD, List.getElem?_eq_getElem hjl, List.map_set]
                  rfl
            · rintro σ H' ⟨v6, v8, rfl, sm, hC, htp, hT'⟩
              have hlen : (cutV ys none (some (p - (qs p ws).sum))).length = (cutG (ys.map (keyOf H4)) (p - (qs p ws).sum)).length := by rw [← hcut, List.length_map]
              rw [hlen, List.take_length] at hT'
              refine ⟨.ref Tl, rfl, Tl, _, rfl, .inl ⟨SqL.of hT', fun o no => ?_⟩⟩
              exact q _ o _ (sm.trans (Ln.same_upd no)) (sm.free no) upd_same ⟨_, hO1, hO2, rfl⟩
end
end Mine
set_option Elab.async false
set_option linter.all false
set_option maxRecDepth 100000
set_option maxHeartbeats 8000000
namespace Mine
open PySem PySem.Spec PyProof.Rows L2 Ln
section
variable {P : Program} {w : World} {K : PySem.W.Frag} {mg : Str → Option Value} {base : Heap} {C fI : Addr}
def spDue (K : PySem.W.Frag) : Sp := fun vs H Q _ => ∃ p a ws, vs = [.int p, .ref a] ∧ 0 ≤ p ∧ p ≤ 4000000 ∧ SqT K H a (ws.map V.int) ∧ Wts ws ∧ ∀ H' o out, Same H H' → H o = none → H' o = some (.tup (out.map V.int)) → Out p ws out → Q (.ref o) H'
theorem ok_due {f : Addr} {fd : FuncData} (F : Fun K "_law_due" "_law_due" s_law_due f fd) (T : Txt K mg C fI) : FnG P w K mg base CX0 1 f fd ["price", "weights"] (spDue K) := by
  refine okG F sc_law_due (fun vs H Q E h => ?_) (fun cdv A outer s H vs Q E hG hr h => ?_)
  · obtain ⟨x, y, _, rfl, _⟩ := h
    rfl
  · obtain ⟨p, a, ws, rfl, h0, h1, hS, hw, q⟩ := h
    refine ⟨_, (pss_cons (ps_set (i := 2) sc_law_due.nd rfl (.inr rfl) (pe_callB (r := rSumT K) (id := "sum") (cr_sumT rfl) (by rfl) T.z_sum (by decide +kernel) (pa_cons (pv 1) pa_nil)))
    (pss_cons (ps_setLc (i := 3) (own := [("weight", 4)]) rfl sc_law_due.nd rfl rfl (sw_true rfl rfl rfl (by decide +kernel)) (pi_tup (pv 1)) (blkOk_by (own := [("weight", 4)]) (N := N_law_due) (sc := defScope s_law_due) (by decide +kernel)) (fun _ _ _ _ _ => (pg_name (i := 4) sc_law_due.nd rfl (.inl rfl))) (fun _ _ _ _ _ => pts_nil) (fun _ _ _ _ _ => (pe_op op_fdiv (pe_op op_mul (pv 0) (pv 4)) (pv 2))))
    (pss_cons (ps_set (i := 5) sc_law_due.nd rfl (.inl rfl) (pe_callB (r := rSortedPO K) (id := "sorted") cr_sortedPO (by rfl) T.z_sorted (by decide +kernel) (pa_cons (pe_lc (own := [("k", 6)]) rfl sc_law_due.nd (pi_range1 (by rfl) T.z_range (pa_cons (pe_callB (r := Ln.rLen K) (id := "len") c_len (by rfl) T.z_len (by decide +kernel) (pa_cons (pv 1) pa_nil)) pa_nil)) (blkOk_by (own := [("k", 6)]) (N := N_law_due) (sc := defScope s_law_due) (by decide +kernel)) (fun _ _ _ _ _ => (pg_name (i := 6) sc_law_due.nd rfl (.inl rfl))) (fun _ _ _ _ _ => pts_nil) (fun _ _ _ _ _ => (pe_tup (pa_cons (pe_op op_sub pe_int (pe_op op_mod (pe_callTy (T := "int") call_int1 (by rfl) T.z_int (by decide +kernel) (pa_cons (pe_op op_mul (pv 0) (pe_ix (r := rIxT K) ix_tup (pv 1) (pv 6) (fun _ _ => rfl))) pa_nil)) (pv 2))) (pa_cons (pv 6) pa_nil))))) pa_nil)))
    (pss_cons (ps_for PassesOwn.never rfl (pi_list (pe_slice (r := rSlL K) sl_list (pv 5) po_none (po_some (pe_op op_sub (pv 0) (pe_callB (r := rSum K) (id := "sum") (cr_sum rfl) (by rfl) T.z_sum (by decide +kernel) (pa_cons (pv 3) pa_nil)))))) (pg_tup (by rfl) (pgs_cons (pg_name (i := 7) sc_law_due.nd rfl (.inl rfl)) (pgs_cons (pg_name (i := 6) sc_law_due.nd rfl (.inl rfl)) pgs_nil)))
    (pss_one (ps_asg (pe_op op_add (pe_ix (r := rIxL K) ix_list (pv 3) (pv 6) (fun _ _ => rfl)) pe_int) (pg_sub (pv 3) (pv 6) set_list))))
    (pss_one (ps_ret (pe_callTy (r := Ln.rTupOf K) (T := "tuple") c_tuple (by rfl) T.z_tuple (by decide +kernel) (pa_cons (pv 3) pa_nil)))))))), ?_⟩
    obtain ⟨hW, hW2⟩ := hw.sum_pos
    have hw4 := hw.four
    have hlq : (qs p ws).length = ws.length := by unfold qs; rw [List.length_map]
    refine ⟨.ref a, rfl, a, ws, rfl, hS, ?_⟩
    refine ⟨.ref a, rfl, a, rfl, ⟨_, hS⟩, fun Tl nT => lc_tup (K := K) (a := a) (xs := ws.map V.int) (fun i H' => Same H H' ∧ H' Tl = some (.lst (((qs p ws).take i).map V.int))) ?_ ?_ ?_ ?_⟩
    · exact ⟨Ln.same_upd nT, upd_same⟩
    · rintro i H' _ ⟨sm, _⟩
      exact Same.tup sm hS
    · rintro i v H' hv ⟨sm, hT⟩
      obtain ⟨z, hz, rfl⟩ := getI hv
      have hi : i < ws.length := (List.getElem?_eq_some_iff.mp hz).1
      refine ⟨rfl, ?_⟩
      refine ⟨_, rfl, _, rfl, _, _, rfl, rfl, .inl ⟨by omega, by omega⟩, _, rfl, _, _, rfl, rfl, ⟨hW, by omega⟩, _, hT, ?_, same_at sm nT, ?_⟩
      · rw [List.length_map, List.length_take]
        exact small1 (by omega)
      · rw [upd_same, takeS (qs_get hz), List.map_append]
        rfl
    · rintro H1 ⟨sm1, hT⟩
      rw [List.take_of_length_le (by rw [List.length_map]; omega)] at hT
      have hS1 := Same.tup sm1 hS
      refine ⟨.ref a, rfl, .ref a, ws.length, rfl, .inr ⟨_, hS1, by rw [List.length_map]⟩, _, rfl, by omega, by omega, fun R nR => ?_⟩
      have en : ((ws.length : Nat) : Int).toNat = ws.length := by omega
      rw [en]
      refine lc_range (lo := 0) (n := ws.length) (fun i H' => Same H1 H' ∧ ∃ zs, H' R = some (.lst zs) ∧ PairL H' zs ((keys p ws).take i)) ?_ ?_ ?_
      · exact ⟨Ln.same_upd nR, [], upd_same, .nil⟩
      · rintro i H' hi ⟨sm, zs, hR, hZ⟩
        obtain ⟨z, hz⟩ := at_ws hi
        have hzi : (ws.map V.int)[i]? = some (.int z) := by rw [List.getElem?_map, hz]; rfl
        refine ⟨rfl, ?_⟩
        refine ⟨_, rfl, .ref a, rfl, _, rfl, a, _, 0 + (i : Int), .int z, rfl, rfl, Same.tup sm hS1, ?_, ?_⟩
        · rw [Int.zero_add]
          exact atI_nat hzi
        have zb := hw.bd z (List.mem_of_getElem? hz)
        refine ⟨_, _, rfl, rfl, .inl ⟨by omega, by omega⟩, .inl ⟨_, rfl, _, rfl, _, _, rfl, rfl, hW, _, _, rfl, rfl, _, rfl, by show 2 ≤ sizeLine; decide, fun t2 n2 => ⟨zs, ?_, ?_, ?_, _, upd_same, ?_⟩⟩⟩
        · rw [upd_ne (ne_of_none hR n2)]
          exact hR
        · rw [hZ.len, List.length_take]
          exact small1 (by omega)
        · exact same_at (sm.trans (Ln.same_upd n2)) nR
        · rw [takeS (keys_get hz)]
          have n2R : R ≠ t2 := ne_of_none hR n2
          refine Paired.snoc (PairL.mono hZ ((Tp.new n2).trans (Tp.lst (xs := zs) ?_))) ⟨t2, rfl, ?_⟩
          · rw [upd_ne n2R]
            exact hR
          · rw [upd_ne n2R.symm, upd_same]
            show some (HO.tup [V.int (0 - p * z % ws.sum), V.int (0 + (i : Int))]) = some (HO.tup [V.int (-(p * z % ws.sum)), V.int (i : Int)])
            have e1 : (0 : Int) - p * z % ws.sum = -(p * z % ws.sum) := by omega
            have e2 : (0 : Int) + (i : Int) = (i : Int) := by omega
            rw [e1, e2]
      · rintro H4 ⟨sm4, zs, hR, hZ⟩
        rw [List.take_of_length_le (by rw [keys_len]; omega)] at hZ
        obtain ⟨k1, k2⟩ := hZ.keys
        refine ⟨R, zs, keyOf H4, rfl, SqL.of hR, k2, fun ys Y s1 s2 nY => ?_⟩
        have hO1 : SrtO.Srtd SrtO.lexB (ys.map (keyOf H4)) := SrtO.srtd_map s1
        have hO2 : SrtO.Stb SrtO.lexB (ys.map (keyOf H4)) (keys p ws) := by
          rw [← k1]
          exact SrtO.Stb.map lex_swo (keyOf H4) s2
        have hys : ∀ x ∈ ys, ∃ t, x = V.ref t ∧ H4 t = some (.tup [.int (keyOf H4 x).1, .int (keyOf H4 x).2]) ∧ ∃ j : Nat, j < ws.length ∧ (keyOf H4 x).2 = (j : Int) := by
          intro x hx
          have hm : x ∈ zs := s2.perm.mem_iff.mp hx
          obtain ⟨t, e, ht⟩ := k2 x hm
          exact ⟨t, e, ht, keys_mem (by rw [← k1]; exact List.mem_map_of_mem hm)⟩
        have smY : Same H4 (upd H4 Y (.lst ys)) := Ln.same_upd nY
        have hT4 := smY _ _ (sm4 _ _ hT)
        refine ⟨.ref Y, rfl, _, rfl, .ref Tl, rfl, Tl, qs p ws, rfl, SqL.of hT4, p, (qs p ws).sum, rfl, rfl, p - (qs p ws).sum, rfl, Y, ys, rfl, SqL.of upd_same, fun Cc nC => ?_⟩
        have smC : Same (upd H4 Y (.lst ys)) (upd (upd H4 Y (.lst ys)) Cc (.lst (cutV ys none (some (p - (qs p ws).sum))))) := Ln.same_upd nC
        have hT5 := smC _ _ hT4
        have hcut := cut_map (H := H4) (ys := ys) (l := p - (qs p ws).sum) rfl
        have neCT : Cc ≠ Tl := fun e => by rw [e, hT4] at nC; cases nC
        have smAll : Same H (upd (upd H4 Y (.lst ys)) Cc (.lst (cutV ys none (some (p - (qs p ws).sum))))) := (((sm1.trans sm4).trans smY).trans smC)
        refine ⟨Cc, rfl, ⟨_, SqL.of upd_same⟩, for_list (K := K) (a := Cc) (xs := cutV ys none (some (p - (qs p ws).sum))) (fun i σ H' => ∃ v6 v7, σ = [some (.int p), some (.ref a), some (.int ws.sum), some (.ref Tl), none, some (.ref Y), v6, v7] ∧ Same H H' ∧
          H' Cc = some (.lst (cutV ys none (some (p - (qs p ws).sum)))) ∧ Tp H4 H' ∧ H' Tl = some (.lst ((((cutG (ys.map (keyOf H4)) (p - (qs p ws).sum)).take i).foldl bump (qs p ws)).map V.int))) ?_ ?_ ?_ ?_⟩
        · exact ⟨none, none, rfl, smAll, upd_same, (Same.tp smY).trans (Same.tp smC), hT5⟩
        · rintro i σ H' _ ⟨_, _, _, _, hC, _⟩
          exact SqL.of hC
        · rintro i x σ H' hx ⟨v6, v8, rfl, sm, hC, htp, hT'⟩
          have hmem : x ∈ ys := by
            have := List.mem_of_getElem? hx
            unfold cutV at this
            exact List.mem_of_mem_drop (List.mem_of_mem_take this)
          obtain ⟨t, rfl, ht, j, hj, ej⟩ := hys x hmem
          have hk : (cutG (ys.map (keyOf H4)) (p - (qs p ws).sum))[i]? = some (keyOf H4 (.ref t)) := by
            rw [← hcut, List.getElem?_map, hx]
            rfl
          refine ⟨t, _, rfl, SqT.of (htp _ _ ht), rfl, _, _, rfl, _, _, rfl, rfl, ?_⟩
          generalize hl : ((cutG (ys.map (keyOf H4)) (p - (qs p ws).sum)).take i).foldl bump (qs p ws) = l at hT'
          have hll : l.length = ws.length := by rw [← hl, bumps_len, hlq]
          have hjl : j < l.length := by omega
          have hat : atI (l.map V.int) (keyOf H4 (.ref t)).2 = some (.int l[j]) := by rw [ej]; exact atInt hjl
          refine ⟨.ref Tl, rfl, _, rfl, Tl, _, _, .int l[j], rfl, rfl, SqL.of hT', hat, _, _, rfl, rfl, .ref Tl, rfl, _, rfl, Tl, _, _, j, rfl, rfl, hT', ?_, ?_⟩
          · rw [List.length_map, ej]
            unfold ixN
            rw [if_pos (by omega), if_pos (by omega)]
            simp
          · refine ⟨_, _, rfl, same_at sm nT, ?_, htp.trans (Tp.lst hT'), ?_⟩
            · rw [upd_ne neCT]
              exact hC
            · rw [upd_same, takeS hk, List.foldl_append, hl]
              show some (HO.lst ((l.map V.int).set j (.int (l[j] + 1)))) = some (HO.lst ((bump l (keyOf H4 (.ref t))).map V.int))
              unfold bump
              rw [ej, Int.toNat_natCast, List.getD_eq_getElem?_getD, List.getElem?_eq_getElem hjl, List.map_set]
              rfl
        · rintro σ H' ⟨v6, v8, rfl, sm, hC, htp, hT'⟩
          have hlen : (cutV ys none (some (p - (qs p ws).sum))).length = (cutG (ys.map (keyOf H4)) (p - (qs p ws).sum)).length := by rw [← hcut, List.length_map]
          rw [hlen, List.take_length] at hT'
          refine ⟨.ref Tl, rfl, Tl, _, rfl, .inl ⟨SqL.of hT', fun o no => ?_⟩⟩
          exact q _ o _ (sm.trans (Ln.same_upd no)) (sm.free no) upd_same ⟨_, hO1, hO2, rfl⟩
def spTold (K : PySem.W.Frag) : Sp := fun vs H Q _ => ∃ x y, vs = [x, y] ∧ ShSp K H x y (∀ H', Same H H' → Q (.str "price") H') (∀ H', Same H H' → Q (.str "weights") H') Q
theorem ok_told {f : Addr} {fd : FuncData} (F : Fun K "_law_told" "_law_told" s_law_told f fd) (T : Txt K mg C fI) (c_shares : Cg P w K mg base (L2.CX P w) 4 "shares" (spShares K C)) : FnG P w K mg base CX0 5 f fd ["price", "weights"] (spTold K) := by
  refine okG F sc_law_told (fun vs H Q E h => ?_) (fun cdv A outer s H vs Q E hG hr h => ?_)
  · obtain ⟨x, y, rfl, _⟩ := h
    rfl
  · obtain ⟨x, y, rfl, hp, h⟩ := h
    refine ⟨_, (pss_one (ps_try_as (i := 2) (Wout := fun _ _ _ _ => False) rfl rfl sc_law_told.nd rfl rfl ⟨rfl, by decide, .inl T.m_ArgumentError⟩ takes0 (fun W pn xe tk _ => (pss_one (ps_ret (pe_cgS c_shares hr (by decide) hG (fun σ => passAt tk σ) (by rfl) (pa_cons (pv 0) (pa_cons (pv 1) pa_nil))))))
    (fun a oe cls d pn hz hf => (pss_one (ps_ret (pe_xf T.x_ArgumentError T.n_ArgumentError_reason hz hf (pv 2))))))), ?_⟩
    refine ⟨x, rfl, y, rfl, x, y, rfl, hp, ?_⟩
    have hx : ∀ (m : Str), (∀ H', Same H H' → Q (.str m) H') → ∀ (d : Addr) (H' : Hp), Same H H' → H d = none → H' d = some (.xd [("reason", .str m)]) →
        ∃ b, PySem.W.exmOne K (.ref C) (.ref C) = some b ∧ (b = true → ∀ a, H' a = none → ∃ v, ([some x, some y, some (V.ref a)] : L2.St)[2]? = some (some v) ∧ v = .ref a ∧ Value.ref C = Value.ref C ∧ ∃ (dd : Addr) (fs : List (Str × V)) (v : V), some d = some dd ∧ H' dd = some (.xd fs) ∧ fs.lookup ("reason" : Str) = some v ∧ Q v H') ∧ (b = false → False) := by
      intro m hm d H' sm nd hd
      exact ⟨true, T.e_ArgumentError, fun _ a na => ⟨_, rfl, rfl, rfl, d, _, .str m, rfl, hd, by simp [List.lookup], hm H' sm⟩, fun z => nomatch z⟩
    rcases h with ⟨h1, e⟩ | ⟨h1, hb, e⟩ | h
    · exact .inl ⟨h1, fun d H' sm nd hd => hx _ e d H' sm nd hd⟩
    · exact .inr (.inl ⟨h1, hb, fun d H' sm nd hd => hx _ e d H' sm nd hd⟩)
    · exact .inr (.inr h)
def spSame (K : PySem.W.Frag) : Sp := fun vs H Q _ => ∃ (a b : Addr) (ns : List Int), vs = [.ref a, .ref b] ∧ SqT K H a (ns.map V.int) ∧ SqT K H b (ns.map V.int) ∧ ns.length ≤ 4 ∧ (∀ i ∈ ns, i.natAbs < 10 ^ 12) ∧ Q (.bl true) H
theorem ok_same {f : Addr} {fd : FuncData} (F : Fun K "_law_same_as" "_law_same_as" s_law_same_as f fd) (T : Txt K mg C fI) : FnG P w K mg base CX0 1 f fd ["actual", "due"] (spSame K) := by
  refine okG F sc_law_same_as (fun vs H Q E h => ?_) (fun cdv A outer s H vs Q E hG hr h => ?_)
  · obtain ⟨x, y, _, rfl, _⟩ := h
    rfl
  · obtain ⟨a, b, ns, rfl, ha, hb, hl, hs, q⟩ := h
    refine ⟨_, (pss_one (ps_ret (pe_and (pe_cmpR (r := rEqD K) (op_eqD hr.units) (pv 0) (pv 1) (nomark _)) (pe_one (pe_cmpR op_eq (pe_callB (r := Ln.rReprD K) (id := "repr") (c_repr hG hr.units) (by rfl) T.z_repr (by decide +kernel) (pa_cons (pv 0) pa_nil)) (pe_callB (r := Ln.rReprD K) (id := "repr") (c_repr hG hr.units) (by rfl) T.z_repr (by decide +kernel) (pa_cons (pv 1) pa_nil)) (nomark _)))))), ?_⟩
    have sm := Sm.ints hs hl
    have da : Dp K H (.ref a) (.tuple (ns.map PyData.int)) := .tup ha (dp_ints ns)
    have db : Dp K H (.ref b) (.tuple (ns.map PyData.int)) := .tup hb (dp_ints ns)
    have shw := sm.shw (by decide) (by decide)
    refine ⟨_, rfl, _, rfl, _, _, da, db, sm.shaped (by decide), sm.shaped (by decide), _, rfl, ?_⟩
    rw [sm.eqv]
    refine iteT ?_
    refine ⟨.ref a, rfl, _, _, rfl, da, shw, .ref b, rfl, _, _, rfl, db, shw, rfl, ?_⟩
    rw [decide_eq_true rfl]
    exact q
end
end Mine
set_option Elab.async false
set_option linter.all false
set_option maxRecDepth 100000
set_option maxHeartbeats 8000000
namespace Mine
open PySem PySem.Spec PyProof.Rows L2 Ln
section
variable {P : Program} {w : World} {K : PySem.W.Frag} {mg : Str → Option Value} {base : Heap} {C fI : Addr}
theorem Drw.same {dr at_ : Addr} {H H' : Hp} (h : Drw dr at_ H) (s : Same H H') : Drw dr at_ H' := by
  obtain ⟨ds, p, h1, h2, h3, h4, h5⟩ := h
  exact ⟨ds, p, s _ _ h1, s _ _ h2, h3, h4, h5⟩
theorem Drw.at {dr at_ : Addr} {H : Hp} (h : Drw dr at_ H) : ∃ p, H at_ = some (.lst [.int p]) := by
  obtain ⟨ds, p, h1, h2, h3, h4, h5⟩ := h
  exact ⟨p, h2⟩
theorem Drw.ne {dr at_ r : Addr} {H : Hp} (h : Drw dr at_ H) (n : H r = none) : r ≠ at_ := fun e => by
  obtain ⟨p, q⟩ := h.at
  rw [e, q] at n
  cases n
theorem Drw.new {dr at_ r : Addr} {H : Hp} {xs : List V} (h : Drw dr at_ H) (n : H r = none) : ∀ H', But at_ (upd H r (.lst xs)) H' → SqL K H' r xs := fun H' b => SqL.of (b r _ (h.ne n) upd_same)
theorem But.tupD {dr at_ b : Addr} {H H' : Hp} {xs : List V} (h : But at_ H H') (d : Drw dr at_ H) (t : SqT K H b xs) : SqT K H' b xs := by
  obtain ⟨p, q⟩ := d.at
  exact h.tup q t
theorem But.plainD {dr at_ : Addr} {H H' : Hp} {x : V} (h : But at_ H H') (d : Drw dr at_ H) (t : Plain K H x) : Plain K H' x := by
  cases t with
  | non => exact .non
  | bl b => exact .bl b
  | int i => exact .int i
  | str s => exact .str s
  | tup t => exact .tup (But.tupD h d t)
theorem But.badD {dr at_ : Addr} {H H' : Hp} {x : V} (h : But at_ H H') (d : Drw dr at_ H) (t : badW K H x) : badW K H' x := by
  rcases t with ⟨p, e⟩ | ⟨a, xs, e, s, q, z⟩
  · exact .inl ⟨But.plainD h d p, e⟩
  · exact .inr ⟨a, xs, e, But.tupD h d s, fun y hy => But.plainD h d (q y hy), z⟩
/-- a tuple of flat things that is no weights -/
theorem bad_flat {H : Hp} {a : Addr} {xs : List V} (h : SqT K H a xs) (f : ∀ y ∈ xs, (∃ i, y = .int i) ∨ (∃ b, y = .bl b) ∨ ∃ s, y = .str s) (z : wOk xs = false) : badW K H (.ref a) := by
  refine .inr ⟨a, xs, rfl, h, fun y hy => ?_, z⟩
  rcases f y hy with ⟨i, e⟩ | ⟨b, e⟩ | ⟨s, e⟩
  · rw [e]; exact .int i
  · rw [e]; exact .bl b
  · rw [e]; exact .str s
theorem wOk_no {xs : List V} {x : V} (h : x ∈ xs) (e : inV2 x 1 20000 = false) : wOk xs = false := by
  unfold wOk
  have : (xs.all fun x => inV2 x 1 20000) = false := by
    rw [List.all_eq_false]
    exact ⟨x, h, by rw [e]; decide⟩
  rw [this, Bool.and_false]
theorem flatInts {ws : List Int} : ∀ y ∈ ws.map V.int, (∃ i, y = .int i) ∨ (∃ b, y = .bl b) ∨ ∃ s, y = V.str s := by
  intro y hy
  obtain ⟨i, _, e⟩ := List.mem_map.mp hy
  exact .inl ⟨i, e.symm⟩
theorem flatApp {xs : List V} {y : V} (h : ∀ y ∈ xs, (∃ i, y = .int i) ∨ (∃ b, y = .bl b) ∨ ∃ s, y = V.str s) (k : (∃ i, y = .int i) ∨ (∃ b, y = .bl b) ∨ ∃ s, y = V.str s) : ∀ z ∈ xs ++ [y], (∃ i, z = .int i) ∨ (∃ b, z = .bl b) ∨ ∃ s, z = V.str s := by
  intro z hz
  rcases List.mem_append.mp hz with hz | hz
  · exact h z hz
  · have e : z = y := by simpa using hz
    rw [e]
    exact k
theorem ones5 : ∀ y ∈ (List.replicate (5 : Int).toNat [V.int 1]).flatten, (∃ i, y = .int i) ∨ (∃ b, y = .bl b) ∨ ∃ s, y = V.str s := by
  have z : (List.replicate (5 : Int).toNat [V.int 1]).flatten = [V.int 1, .int 1, .int 1, .int 1, .int 1] := rfl
  rw [z]
  intro y hy
  simp only [List.mem_cons, List.not_mem_nil, or_false] at hy
  rcases hy with e | e | e | e | e <;> exact .inl ⟨1, e⟩
def spLaw (K : PySem.W.Frag) : Sp := fun vs H Q _ => ∃ (a : Addr) (ns : List Int), vs = [.ref a] ∧ SqL K H a (ns.map V.int) ∧ ns.length ≤ 63 ∧ ∀ H', Q (.bl true) H'
theorem ok_law {f : Addr} {fd : FuncData} (F : Fun K "law" "law" s_law f fd) (T : Txt K mg C fI) (c__law_draws : Cg P w K mg base CX0 1 "_law_draws" (spDraws K)) (c__law_take : Cg P w K mg base CX0 2 "_law_take" (spTake K))
    (c__law_one : Cg P w K mg base CX0 3 "_law_one" (spOne K)) (c__law_due : Cg P w K mg base CX0 1 "_law_due" (spDue K)) (c__law_told : Cg P w K mg base CX0 5 "_law_told" (spTold K)) (c__law_same_as : Cg P w K mg base CX0 1 "_law_same_as" (spSame K)) :
    FnG P w K mg base CX0 6 f fd ["script"] (spLaw K) := by
  refine okG F sc_law (fun vs H Q E h => ?_) (fun cdv A outer s H vs Q E hG hr h => ?_)
  · obtain ⟨a, ns, rfl, _⟩ := h
    rfl
  · obtain ⟨a, ns, rfl, hS, hlen, q⟩ := h
    refine ⟨_, (pss_cons (ps_set (i := 1) sc_law.nd rfl (.inr rfl) (pe_cg c__law_draws hr (by decide) hG (by rfl) (pa_cons (pv 0) pa_nil)))
    (pss_cons (ps_set (i := 2) sc_law.nd rfl (.inr rfl) (pe_lst (pa_cons pe_int pa_nil)))
    (pss_cons (ps_for PassesOwn.never rfl (pi_range1 (by rfl) T.z_range (pa_cons pe_int pa_nil)) (pg_name (i := 3) sc_law.nd rfl (.inl rfl))
    (pss_cons (ps_set (i := 4) sc_law.nd rfl (.inr rfl) (pe_cg c__law_one hr (by decide) hG (by rfl) (pa_cons (pe_lst (pa_cons pe_int (pa_cons pe_int (pa_cons pe_int (pa_cons pe_int (pa_cons pe_int pa_nil)))))) (pa_cons (pv 1) (pa_cons (pv 2) pa_nil)))))
    (pss_cons (ps_set (i := 5) sc_law.nd rfl (.inl rfl) (pe_callTy (r := Ln.rTupOf K) (T := "tuple") c_tuple (by rfl) T.z_tuple (by decide +kernel) (pa_cons (pe_lc (own := [("k", 6)]) rfl sc_law.nd (pi_range1 (by rfl) T.z_range (pa_cons (pe_op op_add pe_int (pe_cg c__law_take hr (by decide) hG (by rfl) (pa_cons (pv 1) (pa_cons (pv 2) (pa_cons pe_int pa_nil))))) pa_nil)) (blkOk_by (own := [("k", 6)]) (N := N_law) (sc := defScope s_law) (by decide +kernel)) (fun _ _ _ _ _ => (pg_name (i := 6) sc_law.nd rfl (.inl rfl))) (fun _ _ _ _ _ => pts_nil) (fun _ _ _ _ _ => (pe_op op_add pe_int (pe_op op_mod (pe_callTy (T := "int") call_int1 (by rfl) T.z_int (by decide +kernel) (pa_cons (pe_cg c__law_take hr (by decide) hG (by rfl) (pa_cons (pv 1) (pa_cons (pv 2) (pa_cons (pe_op op_mul pe_int pe_int) pa_nil)))) pa_nil)) (pv 4))))) pa_nil)))
    (pss_cons (ps_set (i := 7) sc_law.nd rfl (.inl rfl) (pe_cg c__law_one hr (by decide) hG (by rfl) (pa_cons (pe_lst (pa_cons pe_int (pa_cons pe_int (pa_cons pe_int (pa_cons pe_int (pa_cons pe_int (pa_cons (pe_op op_mul (pe_cg c__law_take hr (by decide) hG (by rfl) (pa_cons (pv 1) (pa_cons (pv 2) (pa_cons pe_int pa_nil)))) pe_int) (pa_cons (pe_op op_mul (pe_callB (r := rSumT K) (id := "sum") (cr_sumT rfl) (by rfl) T.z_sum (by decide +kernel) (pa_cons (pv 5) pa_nil)) pe_int) pa_nil)))))))) (pa_cons (pv 1) (pa_cons (pv 2) pa_nil)))))
    (pss_cons (ps_set (i := 7) sc_law.nd rfl (.inl rfl) (pe_callB (id := "min") (call_min2 rfl) (by rfl) T.z_min (by decide +kernel) (pa_cons (pv 7) (pa_cons pe_int pa_nil))))
    (pss_cons (ps_set (i := 8) sc_law.nd rfl (.inl rfl) (pe_cg c__law_due hr (by decide) hG (by rfl) (pa_cons (pv 7) (pa_cons (pv 5) pa_nil))))
    (pss_cons (ps_if (PW.pt (pw_or (pt_not (pt_val (pe_cg c__law_same_as hr (by decide) hG (by rfl) (pa_cons (pe_cg c__law_told hr (by decide) hG (by rfl) (pa_cons (pv 7) (pa_cons (pv 5) pa_nil))) (pa_cons (pv 8) pa_nil))))) (pw_or1 (pt_cmpR op_ne (pe_callB (r := rSumT K) (id := "sum") (cr_sumT rfl) (by rfl) T.z_sum (by decide +kernel) (pa_cons (pv 8) pa_nil)) (pv 7) (nomark _)))))
    (pss_one (ps_ret pe_bl))
    pss_nil)
    (pss_cons (ps_set (i := 9) sc_law.nd rfl (.inl rfl) (pe_cg c__law_one hr (by decide) hG (by rfl) (pa_cons (pe_lst (pa_cons (pe_un un_neg pe_int) (pa_cons pe_int (pa_cons pe_non (pa_cons pe_bl (pa_cons pe_str pa_nil)))))) (pa_cons (pv 1) (pa_cons (pv 2) pa_nil)))))
    (pss_cons (ps_set (i := 10) sc_law.nd rfl (.inl rfl) (pe_cg c__law_one hr (by decide) hG (by rfl) (pa_cons (pe_lst (pa_cons (pe_tup pa_nil) (pa_cons pe_non (pa_cons (pe_op (r := rCatS K) op_catS (pv 5) (pe_tup (pa_cons pe_int pa_nil))) (pa_cons (pe_op (r := rRepT K) op_repT (pe_tup (pa_cons pe_int pa_nil)) pe_int) (pa_cons (pe_op (r := rCatS K) op_catS (pe_slice (r := Ln.rSlS K) sl_tupS (pv 5) po_none (po_some pe_int)) (pe_tup (pa_cons pe_bl pa_nil))) (pa_cons (pe_tup (pa_cons pe_str pa_nil)) (pa_cons (pe_tup (pa_cons pe_int pa_nil)) (pa_cons pe_int pa_nil))))))))) (pa_cons (pv 1) (pa_cons (pv 2) pa_nil)))))
    (pss_one (ps_if (PW.pt (pw_or (pt_cmpR op_ne (pe_cg c__law_told hr (by decide) hG (by rfl) (pa_cons (pv 9) (pa_cons (pe_cg c__law_one hr (by decide) hG (by rfl) (pa_cons (pe_lst (pa_cons (pv 10) (pa_cons (pv 5) pa_nil))) (pa_cons (pv 1) (pa_cons (pv 2) pa_nil)))) pa_nil))) pe_str (nomark _)) (pw_or1 (pt_cmpR op_ne (pe_cg c__law_told hr (by decide) hG (by rfl) (pa_cons (pv 7) (pa_cons (pv 10) pa_nil))) pe_str (nomark _)))))
    (pss_one (ps_ret pe_bl))
    pss_nil)))))))))))
    (pss_one (ps_ret pe_bl))))), ?_⟩
    refine ⟨.ref a, rfl, a, ns, rfl, hS, hlen, fun H1 dr ds sm1 ndr hdr hgood => ?_⟩
    refine ⟨by show 1 ≤ sizeLine; decide, fun at_ nat => ?_⟩
    have hDrw : Drw dr at_ (upd H1 at_ (.lst [.int 0])) := ⟨ds, 0, by rw [upd_ne (ne_of_none hdr nat)]; exact hdr, upd_same, ne_of_none hdr nat, hgood, by decide⟩
    refine ⟨6, rfl, by decide, by decide, for_range (lo := 0) (n := 6) (fun i σ H' => Drw dr at_ H' ∧ ∃ v3 v4 v5 v6 v7 v8 v9 v10, σ = [some (.ref a), some (.ref dr), some (.ref at_), v3, v4, v5, v6, v7, v8, v9, v10]) ?_ ?_ ?_⟩
    · exact ⟨hDrw, _, _, _, _, _, _, _, _, rfl⟩
    · rintro i σ H' hi ⟨hD, v3, v4, v5, v6, v7, v8, v9, v10, rfl⟩
      -- far
      refine ⟨by show 5 ≤ sizeLine; decide, fun r nr => ⟨.ref dr, rfl, .ref at_, rfl, r, dr, at_, _, rfl, hD.new nr, hD.same (Ln.same_upd nr), by decide, fun x hx H2 hB2 hD2 => ?_⟩⟩
      obtain ⟨fr, rfl, f0, f1⟩ : ∃ fr : Int, x = .int fr ∧ 1 ≤ fr ∧ fr ≤ 20000 := by
        simp only [List.mem_cons, List.not_mem_nil, or_false] at hx
        rcases hx with e | e | e | e | e <;> exact ⟨_, e, by decide, by decide⟩
      -- weights
      refine ⟨.ref dr, rfl, .ref at_, rfl, dr, at_, 4, rfl, hD2, by decide, fun n H3 n0 n1 hB3 hD3 => ⟨_, _, rfl, rfl, _, rfl, by omega, by omega, fun D nD => ?_⟩⟩
      refine lc_range (lo := 0) (n := (1 + n).toNat) (fun i H' => Drw dr at_ H' ∧ ∃ ws : List Int, ws.length = i ∧ (∀ w ∈ ws, 1 ≤ w ∧ w ≤ 20000) ∧ H' D = some (.lst (ws.map V.int))) ?_ ?_ ?_
      · exact ⟨hD3.same (Ln.same_upd nD), [], rfl, by simp, upd_same⟩
      · rintro i H4 hi' ⟨hD4, ws, hl, hw, hDl⟩
        have neD : D ≠ at_ := hD3.ne nD
        refine ⟨rfl, ?_⟩
        refine ⟨.ref dr, rfl, .ref at_, rfl, _, _, rfl, rfl, .inl ⟨by decide, by decide⟩, dr, at_, _, rfl, hD4, by decide, fun v H5 v0 v1 hB5 hD5 => .inl ⟨v, rfl, _, rfl, _, _, rfl, rfl, by omega, _, _, rfl, rfl, _, hB5 D _ neD hDl, ?_, ?_, ?_⟩⟩
        · rw [List.length_map]
          exact small1 (by omega)
        · obtain ⟨ds', p', k1, k2, k3, k4, k5⟩ := hD5
          have hDl5 := hB5 D _ neD hDl
          have neDr : dr ≠ D := fun e => by
            obtain ⟨ds3, p3, q1, _⟩ := hD3
            rw [e, nD] at q1
            cases q1
          exact ⟨ds', p', by rw [upd_ne neDr]; exact k1, by rw [upd_ne neD.symm]; exact k2, k3, k4, k5⟩
        · refine ⟨ws ++ [1 + v % fr], by rw [List.length_append, hl]; rfl, fun w hw' => ?_, ?_⟩
          · rcases List.mem_append.mp hw' with hw' | hw'
            · exact hw w hw'
            · have e : w = 1 + v % fr := by simpa using hw'
              have b0 := Int.emod_nonneg v (show fr ≠ 0 by omega)
              have b1 := Int.emod_lt_of_pos v (show (0 : Int) < fr by omega)
              omega
          · rw [upd_same, app1]
      rintro H4 ⟨hD4, ws, hl, hw, hDl⟩
      have hW : Wts ws := ⟨by omega, by omega, hw⟩
      refine ⟨D, _, rfl, .inl ⟨SqL.of hDl, fun wt nwt => ?_⟩⟩
      have hD5 := hD4.same (Ln.same_upd (o := .tup (ws.map V.int)) nwt)
      have hT5 : SqT K (upd H4 wt (.tup (ws.map V.int))) wt (ws.map V.int) := SqT.of upd_same
      -- price
      refine ⟨.ref dr, rfl, .ref at_, rfl, dr, at_, _, rfl, hD5, by decide, fun v H6 v0 v1 hB6 hD6 => ⟨_, _, rfl, rfl, .inr ⟨by decide, by decide⟩, .ref wt, rfl, wt, ws, rfl, But.tupD hB6 hD5 hT5, _, _, rfl, rfl, .inr ⟨by decide, by decide⟩, by show 7 ≤ sizeLine; decide, fun r2 nr2 => ?_⟩⟩
      have hT6 := But.tupD hB6 hD5 hT5
      have hT7 := Same.tup (Ln.same_upd nr2 (o := .lst [.int 0, .int 1, .int 7, .int 100, .int 4000000, .int (v * 991), .int (ws.sum * 5)])) hT6
      refine ⟨.ref dr, rfl, .ref at_, rfl, r2, dr, at_, _, rfl, hD6.new nr2, hD6.same (Ln.same_upd nr2), Nat.succ_pos _, fun x hx H8 hB8 hD8 => ?_⟩
      have hT8 := But.tupD hB8 (hD6.same (Ln.same_upd nr2)) hT7
      obtain ⟨hs1, hs2⟩ := hW.sum_pos
      obtain ⟨pr, rfl, p0⟩ : ∃ pr : Int, x = .int pr ∧ 0 ≤ pr := by
        simp only [List.mem_cons, List.not_mem_nil, or_false] at hx
        rcases hx with e | e | e | e | e | e | e <;> exact ⟨_, e, by omega⟩
      refine ⟨_, rfl, pr, 4000000, rfl, ?_⟩
      have hq0 : (0 : Int) ≤ (if (4000000 : Int) < pr then 4000000 else pr) ∧ (if (4000000 : Int) < pr then 4000000 else pr) ≤ 4000000 := by split <;> omega
      have hin : inV2 (.int (if (4000000 : Int) < pr then 4000000 else pr)) 0 4000000 = true := by
        show (decide (0 ≤ (if (4000000 : Int) < pr then 4000000 else pr)) && decide ((if (4000000 : Int) < pr then 4000000 else pr) ≤ 4000000)) = true
        rw [decide_eq_true hq0.1, decide_eq_true hq0.2, Bool.and_self]
      -- due
      refine ⟨_, rfl, .ref wt, rfl, _, wt, ws, rfl, hq0.1, hq0.2, hT8, hW, fun H9 o out sm9 no ho hout => ?_⟩
      have hD9 := hD8.same sm9
      have hT9 := Same.tup sm9 hT8
      obtain ⟨hsum, hol, hob⟩ := hout.facts hW hq0.1 hq0.2
      -- if not same_as(told, due)
      refine ⟨_, rfl, .ref wt, rfl, _, _, rfl, .int _, .inr (.inr ⟨_, wt, ws, rfl, rfl, hq0.1, hq0.2, hT9, hW, fun H10 o2 out2 sm10 no2 ho2 hout2 => ?_⟩)⟩
      obtain rfl : out2 = out := hout2.uniq hout
      have ho10 := sm10 _ _ ho
      refine ⟨.ref o, rfl, o2, o, out2, rfl, SqT.of ho2, SqT.of ho10, by have := hW.four; omega, fun i hi => by have := hob i hi; omega, true, rfl, ?_⟩
      refine iteF ?_
      refine ⟨.ref o, rfl, o, out2, rfl, SqT.of ho10, _, rfl, rfl, _, rfl, ?_⟩
      rw [hsum, decide_eq_true rfl]
      refine iteF ?_
      have hD10 := hD9.same sm10
      have hT10 := Same.tup sm10 hT9
      -- bad
      refine ⟨_, rfl, by show 5 ≤ sizeLine; decide, fun r3 nr3 => ⟨.ref dr, rfl, .ref at_, rfl, r3, dr, at_, _, rfl, hD10.new nr3, hD10.same (Ln.same_upd nr3), Nat.succ_pos _, fun x hx H11 hB11 hD11 => ?_⟩⟩
      have hbad : (∀ H : Hp, Plain K H x) ∧ inV2 x 0 4000000 = false := by
        simp only [List.mem_cons, List.not_mem_nil, or_false] at hx
        rcases hx with e | e | e | e | e
        · rw [e]; exact ⟨fun _ => .int _, by decide⟩
        · rw [e]; exact ⟨fun _ => .int _, by decide⟩
        · rw [e]; exact ⟨fun _ => .non, rfl⟩
        · rw [e]; exact ⟨fun _ => .bl _, rfl⟩
        · rw [e]; exact ⟨fun _ => .str _, rfl⟩
      have hT11 := But.tupD hB11 (hD10.same (Ln.same_upd nr3)) (Same.tup (Ln.same_upd nr3) hT10)
      -- odd
      refine ⟨by show 0 ≤ sizeLine; decide, fun t0 n0 => ?_⟩
      have a0 : Same H11 (upd H11 t0 (.tup [])) := Ln.same_upd n0
      refine ⟨.ref wt, rfl, by show 1 ≤ sizeLine; decide, fun t1 n1 => ?_⟩
      have a1 : Same (upd H11 t0 (.tup [])) (upd (upd H11 t0 (.tup [])) t1 (.tup [.int 0])) := Ln.same_upd n1
      refine ⟨wt, t1, _, _, rfl, rfl, Same.tup a1 (Same.tup a0 hT11), SqT.of upd_same, ?_, fun t2 H12 a2 h2 => ?_⟩
      · rw [List.length_map]
        have := hW.four
        exact small2 (by show ws.length + 1 ≤ _; omega)
      refine ⟨by show 1 ≤ sizeLine; decide, fun t3 n3 => ?_⟩
      have a3 : Same H12 (upd H12 t3 (.tup [.int 1])) := Ln.same_upd n3
      refine ⟨t3, 5, _, rfl, rfl, SqT.of upd_same, List.cons_ne_nil _ _, by decide, by decide, by decide, fun t4 n4 => ?_⟩
      have a4 := Ln.same_upd (o := .tup (List.replicate (5 : Int).toNat [V.int 1]).flatten) n4
      have sA := ((a0.trans a1).trans a2).trans (a3.trans a4)
      refine ⟨.ref wt, rfl, 3, rfl, wt, _, rfl, Same.tup sA hT11, fun t5 H13 a5 h5 => ?_⟩
      refine ⟨by show 1 ≤ sizeLine; decide, fun t6 n6 => ?_⟩
      have a6 := Ln.same_upd (o := .tup [V.bl true]) n6
      have hcl := cutV_length (ws.map V.int) none (some 3)
      have hcm : ∀ y ∈ cutV (ws.map V.int) none (some 3), y ∈ ws.map V.int := fun y hy => by
        unfold cutV at hy
        exact List.mem_of_mem_drop (List.mem_of_mem_take hy)
      refine ⟨t5, t6, _, _, rfl, rfl, Same.tup a6 h5, SqT.of upd_same, ?_, fun t7 H14 a7 h7 => ?_⟩
      · rw [List.length_map] at hcl
        have := hW.four
        exact small2 (by show (cutV (ws.map V.int) none (some 3)).length + 1 ≤ _; omega)
      refine ⟨by show 1 ≤ sizeLine; decide, fun t8 n8 => ?_⟩
      have a8 := Ln.same_upd (o := .tup [V.str "1"]) n8
      refine ⟨by show 1 ≤ sizeLine; decide, fun t9 n9 => ?_⟩
      have a9 := Ln.same_upd (o := .tup [V.int 20001]) n9
      refine ⟨by show 8 ≤ sizeLine; decide, fun r4 nr4 => ?_⟩
      have a10 := Ln.same_upd (o := .lst [V.ref t0, .non, .ref t2, .ref t4, .ref t7, .ref t8, .ref t9, .int 5]) nr4
      have s14 := ((a8.trans a9).trans a10)
      have s13 := (a6.trans a7).trans s14
      have sAll := (sA.trans a5).trans s13
      have hD15 := hD11.same sAll
      have bads : ∀ x ∈ [V.ref t0, .non, .ref t2, .ref t4, .ref t7, .ref t8, .ref t9, .int 5], badW K (upd (upd (upd H14 t8 (.tup [V.str "1"])) t9 (.tup [V.int 20001])) r4 (.lst [V.ref t0, .non, .ref t2, .ref t4, .ref t7, .ref t8, .ref t9, .int 5])) x := by
        intro x hx
        simp only [List.mem_cons, List.not_mem_nil, or_false] at hx
        rcases hx with e | e | e | e | e | e | e | e
        · rw [e]
          exact bad_flat (Same.tup ((((a1.trans a2).trans (a3.trans a4)).trans a5).trans s13) (SqT.of upd_same)) (by simp) (by decide)
        · rw [e]
          exact .inl ⟨.non, rfl⟩
        · rw [e]
          exact bad_flat (Same.tup (((a3.trans a4).trans a5).trans s13) h2) (flatApp flatInts (.inl ⟨0, rfl⟩)) (wOk_no (x := .int 0) (List.mem_append_right _ (by simp)) (by decide))
        · rw [e]
          exact bad_flat (Same.tup (a5.trans s13) (SqT.of upd_same)) (ones5) (by decide)
        · rw [e]
          exact bad_flat (Same.tup s14 h7) (flatApp (fun y hy => flatInts y (hcm y hy)) (.inr (.inl ⟨true, rfl⟩))) (wOk_no (x := .bl true) (List.mem_append_right _ (by simp)) rfl)
        · rw [e]
          exact bad_flat (Same.tup (a9.trans a10) (SqT.of upd_same)) (by intro y hy; have e : y = .str "1" := (by simpa using hy); rw [e]; exact .inr (.inr ⟨_, rfl⟩)) rfl
        · rw [e]
          exact bad_flat (Same.tup a10 (SqT.of upd_same)) (by intro y hy; have e : y = .int 20001 := (by simpa using hy); rw [e]; exact .inl ⟨_, rfl⟩) (by decide)
        · rw [e]
          exact .inl ⟨.int _, rfl⟩
      refine ⟨.ref dr, rfl, .ref at_, rfl, r4, dr, at_, _, rfl, (hD11.same (((sA.trans a5).trans (a6.trans a7)).trans (a8.trans a9))).new nr4, hD15, Nat.succ_pos _, fun x2 hx2 H16 hB16 hD16 => ?_⟩
      have hb16 := But.badD hB16 hD15 (bads x2 hx2)
      -- the last test
      refine ⟨x, rfl, x2, rfl, .ref wt, rfl, by show 2 ≤ sizeLine; decide, fun r5 nr5 => ⟨.ref dr, rfl, .ref at_, rfl, r5, dr, at_, _, rfl, hD16.new nr5, hD16.same (Ln.same_upd nr5), Nat.succ_pos _, fun y hy H17 hB17 hD17 => ?_⟩⟩
      have hb17 : badW K H17 x2 := But.badD hB17 (hD16.same (Ln.same_upd nr5)) (by
        rcases hb16 with ⟨p, e⟩ | ⟨a, xs, e, s, q, z⟩
        · exact .inl ⟨p.same (Ln.same_upd nr5), e⟩
        · exact .inr ⟨a, xs, e, Same.tup (Ln.same_upd nr5) s, fun y hy => (q y hy).same (Ln.same_upd nr5), z⟩)
      refine ⟨x, y, rfl, hbad.1 _, .inl ⟨hbad.2, fun H18 sm18 => ?_⟩⟩
      refine ⟨rfl, _, rfl, ?_⟩
      rw [decide_eq_true rfl]
      refine iteF ?_
      have hb18 : badW K H18 x2 := by
        rcases hb17 with ⟨p, e⟩ | ⟨a, xs, e, s, q, z⟩
        · exact .inl ⟨p.same sm18, e⟩
        · exact .inr ⟨a, xs, e, Same.tup sm18 s, fun y hy => (q y hy).same sm18, z⟩
      refine ⟨_, rfl, x2, rfl, _, x2, rfl, .int _, .inr (.inl ⟨hin, hb18, fun H19 sm19 => ?_⟩)⟩
      refine ⟨rfl, _, rfl, ?_⟩
      rw [decide_eq_true rfl]
      refine iteF ?_
      exact ⟨(hD17.same sm18).same sm19, _, _, _, _, _, _, _, _, rfl⟩
    · rintro σ H' ⟨hD, v3, v4, v5, v6, v7, v8, v9, v10, rfl⟩
      exact q _
end
end Mine
set_option Elab.async false
set_option linter.all false
set_option maxRecDepth 100000
set_option maxHeartbeats 8000000
namespace Mine
open PySem PySem.Spec PyProof.Rows L2 Ln
theorem exm_self {K : PySem.W.Frag} {S : Addr} (h1 : PySem.W.subIn K (.ref S) (.type "BaseException") = some true) (h2 : PySem.W.isClsIn K S = true) (h3 : PySem.W.typeIn K (.ref S) = some (.type "type"))
    (h4 : PySem.W.subIn K (.ref S) (.ref S) = some true) : PySem.W.exmOne K (.ref S) (.ref S) = some true := by
  have e2 : ((PySem.W.clsIn K S).isSome && PySem.W.typeIn K (.ref S) == some (.type "type")) = true := by
    have h2' : (PySem.W.clsIn K S).isSome = true := h2
    rw [h2', h3] <;> rfl
  have e1 : (PySem.W.subIn K (.ref S) (.type "BaseException") == some true) = true := by rw [h1] <;> rfl
  show ite ((PySem.W.subIn K (.ref S) (.type "BaseException") == some true) = true) (ite (((PySem.W.clsIn K S).isSome && PySem.W.typeIn K (.ref S) == some (.type "type")) = true) (PySem.W.subIn K (.ref S) (.ref S)) none) none = some true
  rw [if_pos e1, if_pos e2]
  exact h4
theorem all_mk {l : PySem.W.OpenLaw} {w : World} {K : PySem.W.Frag} {h : Heap} {mg : Str → Option Value} {fa : Addr} (X : K.In h) (G : h.Ns mainGlobals mg) (hfa : mg "law" = some (.ref fa))
    {C_ArgumentError fI_ArgumentError N_ArgumentError : Addr} {nm_ArgumentError q_ArgumentError : Str} {bs_ArgumentError : List Value} {sn_ArgumentError : List Str} {sub_ArgumentError : List Value} {ab_ArgumentError : Bool} {col_ArgumentError : Option Bool} {dd_ArgumentError : Option Addr} {m0_ArgumentError m1_ArgumentError m2_ArgumentError m3_ArgumentError m5_ArgumentError : Option Value}
    {B0_ArgumentError : Addr}
    {oc_ArgumentError kV_ArgumentError dc_ArgumentError pm_ArgumentError cd_ArgumentError ct_ArgumentError : Value} {od_ArgumentError an_ArgumentError : Option Addr} {sl_ArgumentError : Array (Option Value)}
    {f_is_integer : Addr} {oc_is_integer kV_is_integer dc_is_integer pm_is_integer cd_is_integer ct_is_integer : Value} {od_is_integer an_is_integer : Option Addr} {sl_is_integer : Array (Option Value)}
    {f_is_within : Addr} {oc_is_within kV_is_within dc_is_within pm_is_within cd_is_within ct_is_within : Value} {od_is_within an_is_within : Option Addr} {sl_is_within : Array (Option Value)}
    {f_require : Addr} {oc_require kV_require dc_require pm_require cd_require ct_require : Value} {od_require an_require : Option Addr} {sl_require : Array (Option Value)}
    {f_are_weights : Addr} {oc_are_weights kV_are_weights dc_are_weights pm_are_weights cd_are_weights ct_are_weights : Value} {od_are_weights an_are_weights : Option Addr} {sl_are_weights : Array (Option Value)}
    {f_shares : Addr} {oc_shares kV_shares dc_shares pm_shares cd_shares ct_shares : Value} {od_shares an_shares : Option Addr} {sl_shares : Array (Option Value)}
    {f__law_draws : Addr} {oc__law_draws kV__law_draws dc__law_draws pm__law_draws cd__law_draws ct__law_draws : Value} {od__law_draws an__law_draws : Option Addr} {sl__law_draws : Array (Option Value)}
    {f__law_more : Addr} {oc__law_more kV__law_more dc__law_more pm__law_more cd__law_more ct__law_more : Value} {od__law_more an__law_more : Option Addr} {sl__law_more : Array (Option Value)}
    {f__law_take : Addr} {oc__law_take kV__law_take dc__law_take pm__law_take cd__law_take ct__law_take : Value} {od__law_take an__law_take : Option Addr} {sl__law_take : Array (Option Value)}
    {f__law_same_as : Addr} {oc__law_same_as kV__law_same_as dc__law_same_as pm__law_same_as cd__law_same_as ct__law_same_as : Value} {od__law_same_as an__law_same_as : Option Addr} {sl__law_same_as : Array (Option Value)}
    {f__law_one : Addr} {oc__law_one kV__law_one dc__law_one pm__law_one cd__law_one ct__law_one : Value} {od__law_one an__law_one : Option Addr} {sl__law_one : Array (Option Value)}
    {f__law_due : Addr} {oc__law_due kV__law_due dc__law_due pm__law_due cd__law_due ct__law_due : Value} {od__law_due an__law_due : Option Addr} {sl__law_due : Array (Option Value)}
    {f__law_told : Addr} {oc__law_told kV__law_told dc__law_told pm__law_told cd__law_told ct__law_told : Value} {od__law_told an__law_told : Option Addr} {sl__law_told : Array (Option Value)}
    {f_law : Addr} {oc_law kV_law dc_law pm_law cd_law ct_law : Value} {od_law an_law : Option Addr} {sl_law : Array (Option Value)}
    {tMAX_COIN : Tok}
    (aC_ArgumentError : PySem.W.nsIn K mainGlobals "ArgumentError" = some (some (.ref C_ArgumentError)))
    (xC_ArgumentError : K.lookup C_ArgumentError = some (excClassObj nm_ArgumentError q_ArgumentError C_ArgumentError N_ArgumentError bs_ArgumentError [.ref B0_ArgumentError, .type "ValueError", .type "Exception", .type "BaseException", .type "object"] true sn_ArgumentError sub_ArgumentError ab_ArgumentError col_ArgumentError dd_ArgumentError m0_ArgumentError m1_ArgumentError m2_ArgumentError m3_ArgumentError m5_ArgumentError "ValueError.__new__"))
    (sa_ArgumentError : PySem.W.findIn K (.ref C_ArgumentError) "__setattr__" = some (some (.builtin "object.__setattr__")))
    (ga_ArgumentError : PySem.W.findIn K (.ref C_ArgumentError) "__getattribute__" = some (some (.builtin "BaseException.__getattribute__")))
    (gg_ArgumentError : PySem.W.findIn K (.ref C_ArgumentError) "__getattr__" = some none)
    (no_ArgumentError_reason : PySem.W.findIn K (.ref C_ArgumentError) "reason" = some none)
    (kC_ArgumentError : PySem.W.keepIn K (.ref C_ArgumentError) = true)
    (eC_ArgumentError : PySem.W.subIn K (.ref C_ArgumentError) (.type "BaseException") = some true)
    (tC_ArgumentError : PySem.W.typeIn K (.ref C_ArgumentError) = some (.type "type"))
    (hC_ArgumentError : PySem.W.hasDictIn K C_ArgumentError = true)
    (iC_ArgumentError : PySem.W.isClsIn K C_ArgumentError = true)
    (sC_ArgumentError : PySem.W.subIn K (.ref C_ArgumentError) (.ref C_ArgumentError) = some true)
    (ai_ArgumentError : PySem.W.findIn K (.ref C_ArgumentError) "__init__" = some (some (.ref fI_ArgumentError)))
    (ti_ArgumentError : PySem.W.typeIn K (.ref fI_ArgumentError) = some (.type "function"))
    (li_ArgumentError : K.lookup fI_ArgumentError = some ⟨oc_ArgumentError, od_ArgumentError, .func (PySem.W.fnOf "__init__" "ArgumentError.__init__" (defArgs s_ArgumentErrorD_initD) (defBody s_ArgumentErrorD_initD) (defScope s_ArgumentErrorD_initD) .none kV_ArgumentError dc_ArgumentError pm_ArgumentError an_ArgumentError cd_ArgumentError ct_ArgumentError), sl_ArgumentError⟩)
    (ci_ArgumentError : PySem.W.codeIn K cd_ArgumentError "ArgumentError.__init__" = true)
    (ki_ArgumentError : PySem.W.keepIn K (.ref fI_ArgumentError) = true)
    (gMAX_COIN : PySem.W.nsIn K mainGlobals "MAX_COIN" = some (some (.int 1000000 tMAX_COIN)))
    (a_is_integer : PySem.W.nsIn K mainGlobals "is_integer" = some (some (.ref f_is_integer)))
    (l_is_integer : K.lookup f_is_integer = some ⟨oc_is_integer, od_is_integer, .func (PySem.W.fnOf "is_integer" "is_integer" (defArgs s_is_integer) (defBody s_is_integer) (defScope s_is_integer) .none kV_is_integer dc_is_integer pm_is_integer an_is_integer cd_is_integer ct_is_integer), sl_is_integer⟩)
    (c_is_integer : PySem.W.codeIn K cd_is_integer "is_integer" = true)
    (k_is_integer : PySem.W.keepIn K (.ref f_is_integer) = true)
    (a_is_within : PySem.W.nsIn K mainGlobals "is_within" = some (some (.ref f_is_within)))
    (l_is_within : K.lookup f_is_within = some ⟨oc_is_within, od_is_within, .func (PySem.W.fnOf "is_within" "is_within" (defArgs s_is_within) (defBody s_is_within) (defScope s_is_within) .none kV_is_within dc_is_within pm_is_within an_is_within cd_is_within ct_is_within), sl_is_within⟩)
    (c_is_within : PySem.W.codeIn K cd_is_within "is_within" = true)
    (k_is_within : PySem.W.keepIn K (.ref f_is_within) = true)
    (a_require : PySem.W.nsIn K mainGlobals "require" = some (some (.ref f_require)))
    (l_require : K.lookup f_require = some ⟨oc_require, od_require, .func (PySem.W.fnOf "require" "require" (defArgs s_require) (defBody s_require) (defScope s_require) .none kV_require dc_require pm_require an_require cd_require ct_require), sl_require⟩)
    (c_require : PySem.W.codeIn K cd_require "require" = true)
    (k_require : PySem.W.keepIn K (.ref f_require) = true)
    (a_are_weights : PySem.W.nsIn K mainGlobals "are_weights" = some (some (.ref f_are_weights)))
    (l_are_weights : K.lookup f_are_weights = some ⟨oc_are_weights, od_are_weights, .func (PySem.W.fnOf "are_weights" "are_weights" (defArgs s_are_weights) (defBody s_are_weights) (defScope s_are_weights) .none kV_are_weights dc_are_weights pm_are_weights an_are_weights cd_are_weights ct_are_weights), sl_are_weights⟩)
    (c_are_weights : PySem.W.codeIn K cd_are_weights "are_weights" = true)
    (k_are_weights : PySem.W.keepIn K (.ref f_are_weights) = true)
    (a_shares : PySem.W.nsIn K mainGlobals "shares" = some (some (.ref f_shares)))
    (l_shares : K.lookup f_shares = some ⟨oc_shares, od_shares, .func (PySem.W.fnOf "shares" "shares" (defArgs s_shares) (defBody s_shares) (defScope s_shares) .none kV_shares dc_shares pm_shares an_shares cd_shares ct_shares), sl_shares⟩)
    (c_shares : PySem.W.codeIn K cd_shares "shares" = true)
    (k_shares : PySem.W.keepIn K (.ref f_shares) = true)
    (a__law_draws : PySem.W.nsIn K mainGlobals "_law_draws" = some (some (.ref f__law_draws)))
    (l__law_draws : K.lookup f__law_draws = some ⟨oc__law_draws, od__law_draws, .func (PySem.W.fnOf "_law_draws" "_law_draws" (defArgs s_law_draws) (defBody s_law_draws) (defScope s_law_draws) .none kV__law_draws dc__law_draws pm__law_draws an__law_draws cd__law_draws ct__law_draws), sl__law_draws⟩)
    (c__law_draws : PySem.W.codeIn K cd__law_draws "_law_draws" = true)
    (k__law_draws : PySem.W.keepIn K (.ref f__law_draws) = true)
    (a__law_more : PySem.W.nsIn K mainGlobals "_law_more" = some (some (.ref f__law_more)))
    (l__law_more : K.lookup f__law_more = some ⟨oc__law_more, od__law_more, .func (PySem.W.fnOf "_law_more" "_law_more" (defArgs s_law_more) (defBody s_law_more) (defScope s_law_more) .none kV__law_more dc__law_more pm__law_more an__law_more cd__law_more ct__law_more), sl__law_more⟩)
    (c__law_more : PySem.W.codeIn K cd__law_more "_law_more" = true)
    (k__law_more : PySem.W.keepIn K (.ref f__law_more) = true)
    (a__law_take : PySem.W.nsIn K mainGlobals "_law_take" = some (some (.ref f__law_take)))
    (l__law_take : K.lookup f__law_take = some ⟨oc__law_take, od__law_take, .func (PySem.W.fnOf "_law_take" "_law_take" (defArgs s_law_take) (defBody s_law_take) (defScope s_law_take) .none kV__law_take dc__law_take pm__law_take an__law_take cd__law_take ct__law_take), sl__law_take⟩)
    (c__law_take : PySem.W.codeIn K cd__law_take "_law_take" = true)
    (k__law_take : PySem.W.keepIn K (.ref f__law_take) = true)
    (a__law_same_as : PySem.W.nsIn K mainGlobals "_law_same_as" = some (some (.ref f__law_same_as)))
    (l__law_same_as : K.lookup f__law_same_as = some ⟨oc__law_same_as, od__law_same_as, .func (PySem.W.fnOf "_law_same_as" "_law_same_as" (defArgs s_law_same_as) (defBody s_law_same_as) (defScope s_law_same_as) .none kV__law_same_as dc__law_same_as pm__law_same_as an__law_same_as cd__law_same_as ct__law_same_as), sl__law_same_as⟩)
    (c__law_same_as : PySem.W.codeIn K cd__law_same_as "_law_same_as" = true)
    (k__law_same_as : PySem.W.keepIn K (.ref f__law_same_as) = true)
    (a__law_one : PySem.W.nsIn K mainGlobals "_law_one" = some (some (.ref f__law_one)))
    (l__law_one : K.lookup f__law_one = some ⟨oc__law_one, od__law_one, .func (PySem.W.fnOf "_law_one" "_law_one" (defArgs s_law_one) (defBody s_law_one) (defScope s_law_one) .none kV__law_one dc__law_one pm__law_one an__law_one cd__law_one ct__law_one), sl__law_one⟩)
    (c__law_one : PySem.W.codeIn K cd__law_one "_law_one" = true)
    (k__law_one : PySem.W.keepIn K (.ref f__law_one) = true)
    (a__law_due : PySem.W.nsIn K mainGlobals "_law_due" = some (some (.ref f__law_due)))
    (l__law_due : K.lookup f__law_due = some ⟨oc__law_due, od__law_due, .func (PySem.W.fnOf "_law_due" "_law_due" (defArgs s_law_due) (defBody s_law_due) (defScope s_law_due) .none kV__law_due dc__law_due pm__law_due an__law_due cd__law_due ct__law_due), sl__law_due⟩)
    (c__law_due : PySem.W.codeIn K cd__law_due "_law_due" = true)
    (k__law_due : PySem.W.keepIn K (.ref f__law_due) = true)
    (a__law_told : PySem.W.nsIn K mainGlobals "_law_told" = some (some (.ref f__law_told)))
    (l__law_told : K.lookup f__law_told = some ⟨oc__law_told, od__law_told, .func (PySem.W.fnOf "_law_told" "_law_told" (defArgs s_law_told) (defBody s_law_told) (defScope s_law_told) .none kV__law_told dc__law_told pm__law_told an__law_told cd__law_told ct__law_told), sl__law_told⟩)
    (c__law_told : PySem.W.codeIn K cd__law_told "_law_told" = true)
    (k__law_told : PySem.W.keepIn K (.ref f__law_told) = true)
    (a_law : PySem.W.nsIn K mainGlobals "law" = some (some (.ref f_law)))
    (l_law : K.lookup f_law = some ⟨oc_law, od_law, .func (PySem.W.fnOf "law" "law" (defArgs s_law) (defBody s_law) (defScope s_law) .none kV_law dc_law pm_law an_law cd_law ct_law), sl_law⟩)
    (c_law : PySem.W.codeIn K cd_law "law" = true)
    (k_law : PySem.W.keepIn K (.ref f_law) = true)
    (z_len : PySem.W.nsIn K mainGlobals "len" = some none)
    (z_abs : PySem.W.nsIn K mainGlobals "abs" = some none)
    (z_int : PySem.W.nsIn K mainGlobals "int" = some none)
    (z_bool : PySem.W.nsIn K mainGlobals "bool" = some none)
    (z_tuple : PySem.W.nsIn K mainGlobals "tuple" = some none)
    (z_range : PySem.W.nsIn K mainGlobals "range" = some none)
    (z_isinstance : PySem.W.nsIn K mainGlobals "isinstance" = some none)
    (z_all : PySem.W.nsIn K mainGlobals "all" = some none)
    (z_sum : PySem.W.nsIn K mainGlobals "sum" = some none)
    (z_min : PySem.W.nsIn K mainGlobals "min" = some none)
    (z_sorted : PySem.W.nsIn K mainGlobals "sorted" = some none)
    (z_divmod : PySem.W.nsIn K mainGlobals "divmod" = some none)
    (z_enumerate : PySem.W.nsIn K mainGlobals "enumerate" = some none)
    (z_repr : PySem.W.nsIn K mainGlobals "repr" = some none)
    : ∃ fd : FuncData, (∀ (s : Shared) (v : Value), BindsTo s fd ⟨[v], []⟩ [("script", v)]) ∧ ∀ base : Heap, K.In base → base.Ns mainGlobals mg → FnG l.prog w K mg base CX0 6 fa fd ["script"] (spLaw K) := by
  have e := hfa.symm.trans (PySem.W.mg_of X G a_law)
  cases e
  have T : Txt K mg C_ArgumentError fI_ArgumentError := { z_len := PySem.W.mg_none_of X G z_len, z_abs := PySem.W.mg_none_of X G z_abs, z_int := PySem.W.mg_none_of X G z_int, z_bool := PySem.W.mg_none_of X G z_bool, z_tuple := PySem.W.mg_none_of X G z_tuple, z_range := PySem.W.mg_none_of X G z_range, z_isinstance := PySem.W.mg_none_of X G z_isinstance, z_all := PySem.W.mg_none_of X G z_all, z_sum := PySem.W.mg_none_of X G z_sum, z_min := PySem.W.mg_none_of X G z_min, z_sorted := PySem.W.mg_none_of X G z_sorted, z_divmod := PySem.W.mg_none_of X G z_divmod, z_enumerate := PySem.W.mg_none_of X G z_enumerate, z_repr := PySem.W.mg_none_of X G z_repr, g_MAX_COIN := ⟨_, PySem.W.mg_of X G gMAX_COIN, ⟨_, rfl⟩⟩, m_ArgumentError := PySem.W.mg_of X G aC_ArgumentError, o_ArgumentError := ⟨⟨_, _, _, _, _, _, _, _, _, _, _, _, _, _, _, xC_ArgumentError, rfl⟩, sa_ArgumentError, eC_ArgumentError, tC_ArgumentError, kC_ArgumentError⟩, x_ArgumentError := ⟨ga_ArgumentError, gg_ArgumentError, eC_ArgumentError, hC_ArgumentError⟩, n_ArgumentError_reason := no_ArgumentError_reason, i_ArgumentError := ai_ArgumentError, t_ArgumentError := ti_ArgumentError, e_ArgumentError := exm_self eC_ArgumentError iC_ArgumentError tC_ArgumentError sC_ArgumentError }
  have F_ArgumentErrorI := fun_mk (st := s_ArgumentErrorD_initD) li_ArgumentError ci_ArgumentError ki_ArgumentError
  have fb_ArgumentError := F_ArgumentErrorI.binds (ps := ["self", "reason"]) fun _ _ _ _ _ _ us hl => match us, hl with | [_, _], _ => rfl
  have F_is_integer := fun_mk (st := s_is_integer) l_is_integer c_is_integer k_is_integer
  have b_is_integer := F_is_integer.binds (ps := ["value"]) fun _ _ _ _ _ _ us hl => match us, hl with | [_], _ => rfl
  have F_is_within := fun_mk (st := s_is_within) l_is_within c_is_within k_is_within
  have b_is_within := F_is_within.binds (ps := ["value", "low", "high"]) fun _ _ _ _ _ _ us hl => match us, hl with | [_, _, _], _ => rfl
  have F_require := fun_mk (st := s_require) l_require c_require k_require
  have b_require := F_require.binds (ps := ["holds", "reason"]) fun _ _ _ _ _ _ us hl => match us, hl with | [_, _], _ => rfl
  have F_are_weights := fun_mk (st := s_are_weights) l_are_weights c_are_weights k_are_weights
  have b_are_weights := F_are_weights.binds (ps := ["value"]) fun _ _ _ _ _ _ us hl => match us, hl with | [_], _ => rfl
  have F_shares := fun_mk (st := s_shares) l_shares c_shares k_shares
  have b_shares := F_shares.binds (ps := ["price", "weights"]) fun _ _ _ _ _ _ us hl => match us, hl with | [_, _], _ => rfl
  have F__law_draws := fun_mk (st := s_law_draws) l__law_draws c__law_draws k__law_draws
  have b__law_draws := F__law_draws.binds (ps := ["script"]) fun _ _ _ _ _ _ us hl => match us, hl with | [_], _ => rfl
  have F__law_more := fun_mk (st := s_law_more) l__law_more c__law_more k__law_more
  have b__law_more := F__law_more.binds (ps := ["draws", "place"]) fun _ _ _ _ _ _ us hl => match us, hl with | [_, _], _ => rfl
  have F__law_take := fun_mk (st := s_law_take) l__law_take c__law_take k__law_take
  have b__law_take := F__law_take.binds (ps := ["draws", "at", "many"]) fun _ _ _ _ _ _ us hl => match us, hl with | [_, _, _], _ => rfl
  have F__law_same_as := fun_mk (st := s_law_same_as) l__law_same_as c__law_same_as k__law_same_as
  have b__law_same_as := F__law_same_as.binds (ps := ["actual", "due"]) fun _ _ _ _ _ _ us hl => match us, hl with | [_, _], _ => rfl
  have F__law_one := fun_mk (st := s_law_one) l__law_one c__law_one k__law_one
  have b__law_one := F__law_one.binds (ps := ["rows", "draws", "at"]) fun _ _ _ _ _ _ us hl => match us, hl with | [_, _, _], _ => rfl
  have F__law_due := fun_mk (st := s_law_due) l__law_due c__law_due k__law_due
  have b__law_due := F__law_due.binds (ps := ["price", "weights"]) fun _ _ _ _ _ _ us hl => match us, hl with | [_, _], _ => rfl
  have F__law_told := fun_mk (st := s_law_told) l__law_told c__law_told k__law_told
  have b__law_told := F__law_told.binds (ps := ["price", "weights"]) fun _ _ _ _ _ _ us hl => match us, hl with | [_, _], _ => rfl
  have F_law := fun_mk (st := s_law) l_law c_law k_law
  refine ⟨PySem.W.fnOf "law" "law" (defArgs s_law) (defBody s_law) (defScope s_law) .none kV_law dc_law pm_law an_law cd_law ct_law, fun s v => .of_eq rfl, fun base _ _ => ?_⟩
  have fi_ArgumentError := ok_init (P := l.prog) (w := w) (base := base) F_ArgumentErrorI T
  have C_is_integer : Cg l.prog w K mg base CX0 1 "is_integer" (spIsInt K) := ⟨_, _, _, ok_isint F_is_integer T, PySem.W.mg_of X G a_is_integer, k_is_integer, b_is_integer⟩
  have C_is_within : Cg l.prog w K mg base CX0 2 "is_within" (spWithin K) := ⟨_, _, _, ok_within F_is_within T C_is_integer, PySem.W.mg_of X G a_is_within, k_is_within, b_is_within⟩
  have C_require : Cg l.prog w K mg base (L2.CX l.prog w) 3 "require" (spRequire C_ArgumentError) := ⟨_, _, _, ok_require F_require T fi_ArgumentError fb_ArgumentError, PySem.W.mg_of X G a_require, k_require, b_require⟩
  have C_are_weights : Cg l.prog w K mg base CX0 3 "are_weights" (spWeights K) := ⟨_, _, _, ok_weights F_are_weights T C_is_within, PySem.W.mg_of X G a_are_weights, k_are_weights, b_are_weights⟩
  have C_shares : Cg l.prog w K mg base (L2.CX l.prog w) 4 "shares" (spShares K C_ArgumentError) := ⟨_, _, _, ok_shares F_shares T C_is_within C_require C_are_weights, PySem.W.mg_of X G a_shares, k_shares, b_shares⟩
  have C__law_draws : Cg l.prog w K mg base CX0 1 "_law_draws" (spDraws K) := ⟨_, _, _, ok_draws F__law_draws T, PySem.W.mg_of X G a__law_draws, k__law_draws, b__law_draws⟩
  have C__law_more : Cg l.prog w K mg base CX0 1 "_law_more" (spMore K) := ⟨_, _, _, ok_more F__law_more T, PySem.W.mg_of X G a__law_more, k__law_more, b__law_more⟩
  have C__law_take : Cg l.prog w K mg base CX0 2 "_law_take" (spTake K) := ⟨_, _, _, ok_take F__law_take T C__law_more, PySem.W.mg_of X G a__law_take, k__law_take, b__law_take⟩
  have C__law_same_as : Cg l.prog w K mg base CX0 1 "_law_same_as" (spSame K) := ⟨_, _, _, ok_same F__law_same_as T, PySem.W.mg_of X G a__law_same_as, k__law_same_as, b__law_same_as⟩
  have C__law_one : Cg l.prog w K mg base CX0 3 "_law_one" (spOne K) := ⟨_, _, _, ok_one F__law_one T C__law_take, PySem.W.mg_of X G a__law_one, k__law_one, b__law_one⟩
  have C__law_due : Cg l.prog w K mg base CX0 1 "_law_due" (spDue K) := ⟨_, _, _, ok_due F__law_due T, PySem.W.mg_of X G a__law_due, k__law_due, b__law_due⟩
  have C__law_told : Cg l.prog w K mg base CX0 5 "_law_told" (spTold K) := ⟨_, _, _, ok_told F__law_told T C_shares, PySem.W.mg_of X G a__law_told, k__law_told, b__law_told⟩
  exact ok_law F_law T C__law_draws C__law_take C__law_one C__law_due C__law_told C__law_same_as
end Mine
open PySem PySem.W PyProof.Rows
set_option maxHeartbeats 0 in
theorem PySem.Challenge.cw_interline_k20_whole_shares_holds : PySem.Challenge.rw_interline_k20_whole_shares.Holds := by
  w_on; o_law; k_head; (case hw => w_witness2)
  k_fill
  refine Ln.walkG (l := PySem.Challenge.rw_interline_k20_whole_shares) (n := 63) (k := 6) (x := "script") (CX := fun _ => L2.CX0) (sp := fun w => Mine.spLaw _) rfl (by decide) rfl ⟨rfl, by decide, by decide⟩ (fun w h Y => PySem.W.kIn_of Y) ?F (fun _ _ a ns hl _ hS => ⟨a, ns, rfl, hS, hl, fun _ => rfl⟩) (fun _ _ _ _ _ h => h)
  case F =>
    intro w mg fa h KX G hmg
    refine' Mine.all_mk KX G hmg ?aC_ArgumentError ?xC_ArgumentError ?sa_ArgumentError ?ga_ArgumentError ?gg_ArgumentError ?no_ArgumentError_reason ?kC_ArgumentError ?eC_ArgumentError ?tC_ArgumentError ?hC_ArgumentError ?iC_ArgumentError ?sC_ArgumentError ?ai_ArgumentError ?ti_ArgumentError ?li_ArgumentError ?ci_ArgumentError ?ki_ArgumentError ?gMAX_COIN ?a_is_integer ?l_is_integer ?c_is_integer ?k_is_integer ?a_is_within ?l_is_within ?c_is_within ?k_is_within ?a_require ?l_require ?c_require ?k_require ?a_are_weights ?l_are_weights ?c_are_weights ?k_are_weights ?a_shares ?l_shares ?c_shares ?k_shares ?a__law_draws ?l__law_draws ?c__law_draws ?k__law_draws ?a__law_more ?l__law_more ?c__law_more ?k__law_more ?a__law_take ?l__law_take ?c__law_take ?k__law_take ?a__law_same_as ?l__law_same_as ?c__law_same_as ?k__law_same_as ?a__law_one ?l__law_one ?c__law_one ?k__law_one ?a__law_due ?l__law_due ?c__law_due ?k__law_due ?a__law_told ?l__law_told ?c__law_told ?k__law_told ?a_law ?l_law ?c_law ?k_law ?z_len ?z_abs ?z_int ?z_bool ?z_tuple ?z_range ?z_isinstance ?z_all ?z_sum ?z_min ?z_sorted ?z_divmod ?z_enumerate ?z_repr
    (case aC_ArgumentError => k_is)
    (case xC_ArgumentError => k_is)
    (case sa_ArgumentError => k_is)
    (case ga_ArgumentError => k_is)
    (case gg_ArgumentError => k_is)
    (case no_ArgumentError_reason => k_is)
    (case kC_ArgumentError => k_is)
    (case eC_ArgumentError => k_is)
    (case tC_ArgumentError => k_is)
    (case hC_ArgumentError => k_is)
    (case iC_ArgumentError => k_is)
    (case sC_ArgumentError => first | rfl | k_is)
    (case ai_ArgumentError => k_is)
    (case ti_ArgumentError => k_is)
    (case li_ArgumentError => k_is)
    (case ci_ArgumentError => k_is)
    (case ki_ArgumentError => k_is)
    (case gMAX_COIN => k_is)
    (case a_is_integer => k_is)
    (case l_is_integer => k_is)
    (case c_is_integer => k_is)
    (case k_is_integer => k_is)
    (case a_is_within => k_is)
    (case l_is_within => k_is)
    (case c_is_within => k_is)
    (case k_is_within => k_is)
    (case a_require => k_is)
    (case l_require => k_is)
    (case c_require => k_is)
    (case k_require => k_is)
    (case a_are_weights => k_is)
    (case l_are_weights => k_is)
    (case c_are_weights => k_is)
    (case k_are_weights => k_is)
    (case a_shares => k_is)
    (case l_shares => k_is)
    (case c_shares => k_is)
    (case k_shares => k_is)
    (case a__law_draws => k_is)
    (case l__law_draws => k_is)
    (case c__law_draws => k_is)
    (case k__law_draws => k_is)
    (case a__law_more => k_is)
    (case l__law_more => k_is)
    (case c__law_more => k_is)
    (case k__law_more => k_is)
    (case a__law_take => k_is)
    (case l__law_take => k_is)
    (case c__law_take => k_is)
    (case k__law_take => k_is)
    (case a__law_same_as => k_is)
    (case l__law_same_as => k_is)
    (case c__law_same_as => k_is)
    (case k__law_same_as => k_is)
    (case a__law_one => k_is)
    (case l__law_one => k_is)
    (case c__law_one => k_is)
    (case k__law_one => k_is)
    (case a__law_due => k_is)
    (case l__law_due => k_is)
    (case c__law_due => k_is)
    (case k__law_due => k_is)
    (case a__law_told => k_is)
    (case l__law_told => k_is)
    (case c__law_told => k_is)
    (case k__law_told => k_is)
    (case a_law => k_is)
    (case l_law => k_is)
    (case c_law => k_is)
    (case k_law => k_is)
    (case z_len => k_is)
    (case z_abs => k_is)
    (case z_int => k_is)
    (case z_bool => k_is)
    (case z_tuple => k_is)
    (case z_range => k_is)
    (case z_isinstance => k_is)
    (case z_all => k_is)
    (case z_sum => k_is)
    (case z_min => k_is)
    (case z_sorted => k_is)
    (case z_divmod => k_is)
    (case z_enumerate => k_is)
    (case z_repr => k_is)
#print axioms PySem.Challenge.cw_interline_k20_whole_shares_holds
