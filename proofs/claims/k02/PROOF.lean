import PyProof.Rows.All
import Wide.All
import OpenK.AllK
import Wide.FinOn
import HandS.Base
import HandS.Call
import HandS.List
import HandS.Ends
import HandS.Words
import HandS.Comp
import HandS.Dict
import HandS.Iter
import HandS.Text
import HandS.WordsList
import HandS.WordsDict
import HandS.IsInst
import HandS.Wide
import HandS.Strs
import HandS.StrMore
import HandS.Gcd
import HandS.Walk
import KE.IntTextLaws
import PySem.Challenge.RW_termstream_k02_numbers_in_texts
set_option Elab.async false
set_option linter.all false
set_option maxRecDepth 100000
set_option maxHeartbeats 4000000
namespace Vg
open PySem PySem.Spec PyProof.Rows L2
/-- the same promise as the layer's, for calls within which no text of a list is being made -/
structure FnG (P : Program) (w : World) (K : PySem.W.Frag) (mg : Str → Option Value) (base : Heap) (CX : CXT)
    (k : Nat) (f : Addr) (fd : FuncData) (ps : List Str) (sp : Sp) : Prop where
  len : ∀ vs H Q E, sp vs H Q E → vs.length = ps.length
  run : ∀ (A : Around) (outer : List Env) (s : Shared) (H : Hp) (args : Args) (us : List Value) (vs : List V) (Q : VK) (E : XK),
    A.guards = some [] → Room k A → Env0 P w K mg base A outer s H → BindsTo s fd args (ps.zip us) → Vals vs us → sp vs H Q E →
      codeAny (model P w) A (.call (.ref f) args) (CR CX outer P w H s Q E) s
section
variable {P : Program} {w : World} {K : PySem.W.Frag} {mg : Str → Option Value} {base : Heap} {CX : CXT}
  {k : Nat} {f : Addr} {fd : FuncData} {ps : List Str} {sp : Sp}
theorem FnG.of (F : FnOk P w K mg base CX k f fd ps sp) : FnG P w K mg base CX k f fd ps sp :=
  ⟨F.len, fun A outer s H args us vs Q E _ hr e0 hb r h =>
    F.run A outer s H args us vs Q E hr e0 hb r h⟩
theorem deeper_guards (A : Around) (env : Env) : (A.deeper env).guards = A.guards := rfl
/-- a def by its body, where the guards are known -/
theorem fng_of {name qual : Str} {params : Arguments} {body : List Stmt} {scope : Scope} {dV kV doc pm cdv ct oc : Value} {an od : Option Addr}
    {osl : Array (Option Value)} {N : List Str}
    (lk : K.lookup f = some ⟨oc, od, .func (PySem.W.fnOf name qual params body scope dV kV doc pm an cdv ct), osl⟩)
    (hcd : PySem.W.codeIn K cdv qual = true) (S : FnScope N ps scope)
    (len : ∀ vs H Q E, sp vs H Q E → vs.length = ps.length)
    (hbody : ∀ (A : Around) (outer : List Env) (s : Shared) (H : Hp) (vs : List V) (Q : VK) (E : XK),
      (cxOf CX P w K mg base N qual scope f cdv A outer s H E).A.guards = some [] →
      Room k (A.deeper (envOfC qual scope s.heap.objs.size f cdv)) → sp vs H Q E →
      ∃ t, PSs (cxOf CX P w K mg base N qual scope f cdv A outer s H E) body t ∧
        t { nx := fun _ H' => Q .non H', rt := Q } (start N vs) H) :
    FnG P w K mg base CX (k + 1) f (PySem.W.fnOf name qual params body scope dV kV doc pm an cdv ct) ps sp := by
  refine ⟨len, fun A outer s H args us vs Q E hg hr e0 hb r hsp => ?_⟩
  have hl := len _ _ _ _ hsp
  have inK : K.In s.heap := e0.mod.kin.keeps fun b o e => (e0.bs b o e).1
  have noLim : s.heap.NoLimit := e0.mod.nolimit.keeps fun b o e => (e0.bs b o e).1
  have kinds : ∀ y ∈ ps.zip us, scope.names.lookup y.1 = some .local ∨
      (scope.names.lookup y.1 = some .cell ∧ ((cellsFrom (s.heap.objs.size + 1) scope.names []).lookup y.1).isSome = true) := by
    rintro ⟨n, v⟩ hy
    have hn : n ∈ ps := (List.of_mem_zip hy).1
    cases S.par n hn with
    | inl q => exact Or.inl q
    | inr q => exact Or.inr (And.intro q (PySem.W.cellsFrom_some _ _ _ (Or.inl q)))
  refine codeAny_call_function hr.depth (inK _ _ lk) rfl S.co S.gen rfl (PySem.W.codeRec_of inK hcd) (hb _ _ _ _ ?_)
  refine wpAny_newFunctionEnv_cells S.kind kinds fun env he s1 x => ?_
  subst he
  refine ⟨noLim.keeps x.toInCall.keep, codeAny_func ?_⟩
  obtain ⟨t, ht, hq⟩ := hbody A outer s H vs Q E hg (hr.deeper _) hsp
  have I := inv_start (CX := CX) (P := P) (w := w) (K := K) (mg := mg) (base := base) (E := E) S hr.hd e0 hl r x
  refine wpAny_mono (ht.run [] s1 (start N vs) H _ I hq) (fun fl s' hs => ?_) fun e s' hs => hs
  match fl, hs with
  | .ret u, ⟨v, σ', H', J, rv, q⟩ => exact ⟨v, H', J.os, J.bare, J.base, J.hok, rv, q⟩
  | .next, ⟨σ', H', J, q⟩ => exact ⟨V.non, H', J.os, J.bare, J.base, J.hok, rfl, q⟩
  | .brk, ⟨_, _, _, q⟩ => exact q.elim
  | .cont, ⟨_, _, _, q⟩ => exact q.elim
end
section
variable {X : Cx} {CX : CXT} {k : Nat} {f : Addr} {fd : FuncData} {ps : List Str} {sp : Sp} {dvs : List V} {ds : List Value}
  {E : XK} {x : Str} {p pos : Pos} {e : Expr} {es : List Expr} {t : TA}
theorem run_fng {pins : List (Addr × Obj)} {σ : L2.St} {H : Hp} {s : Shared} {Q : VK} {us : List Value} {vs : List V}
    (F : FnG X.prog X.w X.K X.mg X.base CX k f fd ps sp) (hg : X.A.guards = some []) (hr : Room k X.A) (hb : Binds X.K fd ps ds) (hd : Vals dvs ds)
    (hx : Passes CX X E) (I : Inv X pins σ H s) (r : Vals vs us) (h : sp (vs ++ dvs) H Q E) :
    wpAny (model X.prog X.w) X.A (call (.ref f) us) (EP X pins σ Q) X.xe s := by
  have both : Vals (vs ++ dvs) (us ++ ds) := r.append hd
  have hl : (us ++ ds).length = ps.length := both.length ▸ F.len _ _ _ _ h
  have C := F.run X.A X.stack s H ⟨us, []⟩ (us ++ ds) (vs ++ dvs) Q E hg hr I.env0 (hb s us I.kIn hl) both h
  refine wpAny_call (codeAny_mono C fun r s' hq => ?_)
  match r, hq with
  | .error e, hq => exact hx pins σ H s e s' I hq
  | .ok (.ret u), hq => exact I.after hq
  | .ok .next, hq => exact False.elim hq
  | .ok .brk, hq => exact False.elim hq
  | .ok .cont, hq => exact False.elim hq
/-- f(e, ..) of such a def -/
theorem pe_callG (F : FnG X.prog X.w X.K X.mg X.base CX k f fd ps sp) (hgd : X.A.guards = some []) (hr : Room k X.A) (hg : Gl X x)
    (hm : X.mg x = some (.ref f)) (hk : PySem.W.keepIn X.K (.ref f) = true) (hb : Binds X.K fd ps ds) (hd : Vals dvs ds) (hx : Passes CX X E)
    (ha : PA X (e :: es) t) (hdb : (x == ("__debug__" : Str)) = false := by decide)
    (he : starEach (e :: es) X.env = (false, eval e X.env) :: starEach es X.env := by rfl)
    (hpl : (backTo pos (starEach es X.env)).any (·.1) = false := by rfl) :
    PE X (.Call (.Name x p) (e :: es) [] pos) (tCall sp dvs E t) := by
  constructor
  intro pins s σ H Q I h
  apply wpAny_Call_Name_kw
  apply ld_glob I hg hm ?_ hdb
  refine PySem.W.callWith_K (h₀ := X.base) I.ok.mod.kin hk ?_ he hpl
  refine thn (ha.run pos pins s σ H _ I h) ?_
  rintro us s1 ⟨vs, H1, I1, r, q⟩
  exact ⟨I1.kIn, run_fng F hgd hr hb hd hx I1 r q⟩
end
section
variable {X : Cx}
theorem one_val {P : V → Value → Prop} {x : V} {us : List Value} (h : Paired P [x] us) : ∃ u, us = [u] ∧ P x u := by
  cases h with
  | cons a b => cases b; exact ⟨_, rfl, a⟩
mutual
theorem noDict {K : PySem.W.Frag} {H : Hp} : ∀ (d : PyData) (v : V), Dp K H v d → d.hasDict = false
  | .none, _, _ => by simp only [PyData.hasDict]
  | .bool _, _, _ => by simp only [PyData.hasDict]
  | .int _, _, _ => by simp only [PyData.hasDict]
  | .str _, _, _ => by simp only [PyData.hasDict]
  | .list ds, _, h => by
    cases h with
    | lst _ ha => simp only [PyData.hasDict]; exact noDictAll ds _ ha
  | .tuple ds, _, h => by
    cases h with
    | tup _ ha => simp only [PyData.hasDict]; exact noDictAll ds _ ha
  | .dict _, _, h => by cases h
theorem noDictAll {K : PySem.W.Frag} {H : Hp} : ∀ (ds : List PyData) (vs : List V), DpAll K H vs ds → PyData.hasDictAll ds = false
  | [], _, _ => by simp only [PyData.hasDictAll]
  | d :: ds, _, h => by
    cases h with
    | cons a b => simp only [PyData.hasDictAll, noDict d _ a, noDictAll ds _ b, Bool.or_self]
end
/-- repr(x) of data at any depth -/
theorem cr_repr (hg : X.A.guards = some []) (hu : X.A.units + 64 < cLine) :
    CallR X (.builtin "repr") (fun xs H Q => ∃ x d, xs = [x] ∧ Dp X.K H x d ∧ d.showable = true ∧ d.depth ≤ 50 ∧ d.shown.length ≤ sizeLine ∧ Q (.str d.shown) H) := by
  intro pins s σ H xs us Q I r h
  obtain ⟨x, d, rfl, hd, hs, hdep, hz, q⟩ := h
  obtain ⟨u, rfl, ru⟩ := one_val r
  have hn := noDict d x hd
  cases hd with
  | non =>
    cases ru
    exact PySem.P.repr_of_none ⟨.str _, H, I.tok _, ⟨_, rfl⟩, q⟩
  | bl b =>
    cases ru
    refine PySem.P.repr_of_bool ⟨.str _, H, I.tok _, ⟨_, rfl⟩, ?_⟩
    cases b <;> exact q
  | int i =>
    obtain ⟨t, rfl⟩ := ru
    refine PySem.P.repr_of_int ?_ ⟨.str _, H, I.tok _, ⟨_, rfl⟩, q⟩
    simpa [PyData.showable] using hs
  | str z =>
    obtain ⟨t, rfl⟩ := ru
    exact PySem.P.repr_of_str ⟨.str _, H, I.tok _, ⟨_, rfl⟩, q⟩ (hsz := hz)
  | lst hl ha =>
    cases ru
    obtain ⟨as, rd⟩ := Dp.reads I _ _ _ (Dp.lst hl ha) rfl
    exact repr_of_reads' rd hs (PyData.noDict_hsm hn) hg (by omega) (fun b o e => e) (fun h' u tk hk => ⟨.str _, H, I.kept hk, ⟨_, rfl⟩, q⟩) (hsz := hz)
  | tup hl ha =>
    cases ru
    obtain ⟨as, rd⟩ := Dp.reads I _ _ _ (Dp.tup hl ha) rfl
    exact repr_of_reads' rd hs (PyData.noDict_hsm hn) hg (by omega) (fun b o e => e) (fun h' u tk hk => ⟨.str _, H, I.kept hk, ⟨_, rfl⟩, q⟩) (hsz := hz)
end
/-- the law's call, by such a promise -/
theorem law_callG {P : Program} {w : World} {K : PySem.W.Frag} {mg mb : Str → Option Value} {k : Nat} {fa a : Addr}
    {fd : FuncData} {x : Str} {sp : Sp} {s1 : Shared} {vs : List Value} {ns : List Int}
    (inK : K.In s1.heap) (hns : s1.heap.Ns mainGlobals mg) (hb : s1.heap.Ns builtinsNs mb) (hbb : ∀ x : Str, x ≠ "__name__" → mb x = bootBuiltins x)
    (noLim : s1.heap.NoLimit) (hgen : s1.gens = #[])
    (ha : s1.heap.get? a = some { cls := .type "list", data := .seq vs.toArray }) (hi : IntsAre vs ns) (hl : ns.length ≤ sizeLine) (hr : Room k callerA)
    (F : ∀ base : Heap, K.In base → base.Ns mainGlobals mg → FnG P w K mg base CX0 k fa fd [x] sp)
    (hbind : ∀ (s : Shared) (u : Value), BindsTo s fd ⟨[u], []⟩ [(x, u)])
    (hsp : ∀ H : Hp, SqL K H a (ns.map V.int) → sp [.ref a] H (fun v _ => v = .bl true) fun _ _ _ => False) :
    codeAny (model P w) callerA (.call (.ref fa) ⟨[.ref a], []⟩)
      (fun r s' => r = .ok (.ret (.bool true)) ∧ OldK s1.heap s'.heap ∧ s'.os = s1.os ∧ AllBare s'.gens) s1 := by
  have rv := vals_ints hi
  have lenV := hi.length
  let scr : Obj := { cls := .type "list", data := .seq vs.toArray }
  have main : ∀ H : Hp, (∀ b, H b = none ∨ H b = some (.frz scr (.lst (ns.map V.int)))) → SqL K H a (ns.map V.int) → HOk P w H s1.heap →
      (∀ b, H b ≠ none → b = a) → (H a ≠ none → K.lookup a = none) →
      codeAny (model P w) callerA (.call (.ref fa) ⟨[.ref a], []⟩)
        (fun r s' => r = .ok (.ret (.bool true)) ∧ OldK s1.heap s'.heap ∧ s'.os = s1.os ∧ AllBare s'.gens) s1 := by
    intro H hO hS hok only notK
    have untracked : ∀ {b : Addr} {o : Obj} {es : Array DictEntry} {ep : Nat}, s1.heap.get? b = some o → o.data = .dict es ep → H b = none := by
      intro b o es ep e d
      refine Classical.byContradiction fun q => ?_
      have : b = a := only b q
      subst this
      rw [ha] at e
      cases e
      exact nomatch (show Data.seq vs.toArray _ = Data.dict es ep from d)
    have hide : ∀ {b : Addr} {o : Obj}, s1.heap.get? b = some o → H b = none → (hidT s1.heap H).get? b = some o := fun e n => hidT_get e n
    have nsHid : ∀ {b : Addr} {m : Str → Option Value}, s1.heap.Ns b m → (hidT s1.heap H).Ns b m := by
      rintro b m ⟨o, es, ep, e, d, r⟩
      exact ⟨o, es, ep, hide e (untracked e d), d, r⟩
    have kHid : K.In (hidT s1.heap H) := by
      intro b o e
      refine hide (inK b o e) (Classical.byContradiction fun q => ?_)
      have : b = a := only b q
      subst this
      rw [notK q] at e
      cases e
    obtain ⟨mc, lim1, lim2⟩ := noLim
    have hM : Mod K mg (hidT s1.heap H) := ⟨kHid, nsHid hns, ⟨mb, nsHid hb, hbb⟩, ⟨mc, nsHid lim1, lim2⟩⟩
    have e0 : Env0 P w K mg (hidT s1.heap H) callerA [] s1 H :=
      ⟨rfl, hM, fun b o e => of_hidT e, Nat.le_of_eq (hidT_size _ _), trivial, fun b hb => (nomatch (show b ∈ ([] : List Addr) from hb)), hok, AllBare.of_eq hgen⟩
    refine codeAny_mono ((F _ kHid (nsHid hns)).run callerA [] s1 H ⟨[.ref a], []⟩ [.ref a] [.ref a] _ _ rfl hr e0 (hbind s1 (.ref a)) (.cons rfl .nil) (hsp H hS)) fun r s' h => ?_
    match r, h with
    | .error e, h => exact h.elim
    | .ok .next, h => exact False.elim h
    | .ok .brk, h => exact False.elim h
    | .ok .cont, h => exact False.elim h
    | .ok (.ret u), ⟨v, H', os, bare, un, hok', r', q⟩ =>
      have q' : v = .bl true := q
      subst q'
      obtain rfl : u = Value.bool true := r'
      refine ⟨rfl, OldK.of_keep fun b o e => ?_, os, bare⟩
      rcases hO b with z | z
      · exact un.keep b o e z (by intro y; exact (nomatch (show b ∈ ([] : List Addr) from y))) (by simp)
      · have z2 := un.frzs b scr _ z
        obtain ⟨e1, _⟩ := hok b _ z
        obtain ⟨e2, _⟩ := hok' b _ z2
        rw [e] at e1
        cases e1
        exact e2
  have absent : (none : Option HO) ≠ none → False := fun z => z rfl
  match hk : K.lookup a with
  | some o =>
    have e := inK a o hk
    rw [ha] at e
    cases e
    exact main (fun _ => none) (fun _ => Or.inl rfl)
      (Or.inr ⟨_, vs.toArray, _, hk, rfl, rfl, rfl, by rw [List.size_toArray, lenV]; exact hl, by simpa using rv⟩)
      (fun b u z => nomatch (show (none : Option HO) = some u from z)) (fun b z => (absent z).elim) fun z => (absent z).elim
  | none =>
    refine main (fun b => if b = a then some (.frz scr (.lst (ns.map V.int))) else none) (fun b => ?_) (Or.inl (Or.inr ⟨scr, if_pos rfl⟩)) (fun b u z => ?_) (fun b z => ?_) fun _ => hk
    · by_cases hb : b = a
      · exact Or.inr (if_pos hb)
      · exact Or.inl (if_neg hb)
    · by_cases hb : b = a
      · have z' := (if_pos hb).symm.trans z
        cases z'
        subst hb
        exact ⟨ha, by rw [List.length_map]; exact hl, vs, _, rv, ha⟩
      · exact nomatch (if_neg hb).symm.trans z
    · by_cases hb : b = a
      · exact hb
      · exact absurd (if_neg hb) z
/-- what the head leaves, from such a promise of the law -/
theorem walk_ofG {l : PySem.W.OpenLaw} {n k : Nat} {q : Program} {loose : List Str} {XP : (Str → Option Value) → Heap → Prop} {YP : World → Heap → Prop}
    {d : DefRec} {K : Params → PySem.W.Frag} {sp : World → Sp} {x : Str}
    (hn : l.most = some n) (hn2 : n ≤ sizeLine) (hdf : d.params.defaults = []) (hr : Room k callerA)
    (hY : ∀ (w : World) (h : Heap), YP w h → (K w.params).In h)
    (F : ∀ (w : World) (mg : Str → Option Value) (fa : Addr) (h : Heap), (K w.params).In h → h.Ns mainGlobals mg → mg d.name = some (.ref fa) →
      ∃ fd : FuncData, (∀ (s : Shared) (u : Value), BindsTo s fd ⟨[u], []⟩ [(x, u)]) ∧
        ∀ base : Heap, (K w.params).In base → base.Ns mainGlobals mg → FnG l.prog w (K w.params) mg base CX0 k fa fd [x] (sp w))
    (hsp : ∀ (w : World) (H : Hp) (a : Addr) (ns : List Int), ns.length ≤ n → SqL (K w.params) H a (ns.map V.int) → sp w [.ref a] H (fun v _ => v = .bl true) fun _ _ _ => False) :
    PySem.W.WalkO q loose XP YP l.row.toRowW d [] (fun f vs => PySem.call f vs) := by
  refine Att.attach_call hn hdf ?_
  intro w s0 s1 mg mb fa o pm cd doc a vs ns G Y ho hd hcd hmg hobj hints hlen hgen
  have inK := hY w _ Y
  obtain ⟨fd, hb, hF⟩ := F w mg fa _ inK G.T.g hmg
  exact law_callG inK G.T.g G.T.b G.T.builtins G.T.nolimit hgen hobj hints (Nat.le_trans hlen hn2) hr hF hb fun H hS => hsp w H a ns hlen hS
end Vg
namespace Vg
open PySem PySem.Spec PyProof.Rows L2
/-- a def of the module, as its callers know it -/
structure Fn (P : Program) (w : World) (K : PySem.W.Frag) (mg : Str → Option Value) (base : Heap) (k : Nat) (x : Str) (ps : List Str) (sp : Sp) : Prop where
  ex : ∃ (f : Addr) (fd : FuncData), mg x = some (.ref f) ∧ PySem.W.keepIn K (.ref f) = true ∧ Binds K fd ps [] ∧ FnOk P w K mg base CX0 k f fd ps sp
/-- where a def of the module stands -/
structure At (K : PySem.W.Frag) (mg : Str → Option Value) (x : Str) (st : Stmt) : Prop where
  ex : ∃ (f : Addr) (fd : FuncData), mg x = some (.ref f) ∧ Fun K x x st f fd
section
variable {P : Program} {w : World} {K : PySem.W.Frag} {mg : Str → Option Value} {base : Heap} {k : Nat} {x : Str} {st : Stmt} {N ps : List Str} {sp : Sp}
/-- a def by its body -/
theorem At.fn (D : At K mg x st) (S : FnScope N ps (defScope st))
    (hb : ∀ (kV doc pm : Value) (an : Option Addr) (cdv ct : Value) (us : List Value), us.length = ps.length →
      bindArgs (PySem.W.fnOf x x (defArgs st) (defBody st) (defScope st) .none kV doc pm an cdv ct) ⟨us, []⟩ = pure (ps.zip us))
    (len : ∀ vs H Q E, sp vs H Q E → vs.length = ps.length)
    (body : ∀ (f : Addr) (cdv : Value) (A : Around) (outer : List Env) (s : Shared) (H : Hp) (vs : List V) (Q : VK) (E : XK),
      Room k (A.deeper (envOfC x (defScope st) s.heap.objs.size f cdv)) → sp vs H Q E →
      ∃ t, PSs (cxOf CX0 P w K mg base N x (defScope st) f cdv A outer s H E).nox (defBody st) t ∧ t { nx := fun _ H' => Q .non H', rt := Q } (start N vs) H) :
    Fn P w K mg base (k + 1) x ps sp := by
  obtain ⟨f, fd, hm, F⟩ := D.ex
  exact ⟨f, fd, hm, F.kp, F.binds hb, F.ok S len fun cdv A outer s H vs Q E hr h => body f cdv A outer s H vs Q E hr h⟩
end
section
variable {X : Cx} {k : Nat} {ps : List Str} {sp : Sp} {E : XK} {x : Str} {p pos : Pos} {e : Expr} {es : List Expr} {t : TA}
theorem pe_fn (F : Fn X.prog X.w X.K X.mg X.base k x ps sp) (hr : Room k X.A) (hg : Gl X x) (hx : Passes CX0 X E) (ha : PA X (e :: es) t)
    (hdb : (x == ("__debug__" : Str)) = false := by decide) (he : starEach (e :: es) X.env = (false, eval e X.env) :: starEach es X.env := by rfl)
    (hpl : (backTo pos (starEach es X.env)).any (·.1) = false := by rfl) : PE X (.Call (.Name x p) (e :: es) [] pos) (tCall sp [] E t) := by
  obtain ⟨f, fd, hm, hk, hb, F⟩ := F.ex
  exact pe_call F hr hg hm hk hb .nil hx ha hdb he hpl
end
/-- the built-in class of a value -/
inductive Tn (K : PySem.W.Frag) (H : Hp) : V → String → Prop
  | non : Tn K H .non "NoneType"
  | bl (b : Bool) : Tn K H (.bl b) "bool"
  | int (i : Int) : Tn K H (.int i) "int"
  | str (z : Str) : Tn K H (.str z) "str"
  | lst {a : Addr} {xs : List V} (h : H a = some (.lst xs)) : Tn K H (.ref a) "list"
  | tup {a : Addr} {xs : List V} (h : H a = some (.tup xs)) : Tn K H (.ref a) "tuple"
  | dct {a : Addr} {kvs : List (Key × V)} (h : H a = some (.dK kvs)) : Tn K H (.ref a) "dict"
theorem Tn.tyx {K : PySem.W.Frag} {H : Hp} {v : V} {n : String} (h : Tn K H v n) : TyX K H v (.type n) := by
  cases h with
  | non => exact .base .non
  | bl b => exact .base (.bl b)
  | int i => exact .base (.int i)
  | str z => exact .base (.str z)
  | lst h => exact .base (.lst h)
  | tup h => exact .base (.tup h)
  | dct h => exact .base (.dK h)
section
variable {X : Cx}
theorem cr_isi : CallR X (.builtin "isinstance") (fun xs H Q => ∃ x n c b, xs = [x, .ty c] ∧ Tn X.K H x n ∧ kitB n c = some b ∧ Q (.bl b) H) := by
  intro pins s σ H xs us Q I r h
  obtain ⟨x, n, c, b, rfl, ht, hk, q⟩ := h
  exact call_isi pins s σ H _ us Q I r ⟨x, .ty c, .type n, .type c, b, rfl, .ty c, ht.tyx, kit_ty hk, q⟩
end
end Vg
namespace Vg
open PySem PySem.Spec PyProof.Rows L2
/-- what a purse's list holds, with n draws left at least -/
def Pu (l : List V) (n : Nat) : Prop :=
  ∃ a b c : Int, l = [.int a, .int b, .int c] ∧ 0 ≤ a ∧ 0 ≤ b ∧ b < 2147483629 ∧ 0 ≤ c ∧ c + n ≤ 100000
def Pz (H : Hp) (p : Addr) (n : Nat) : Prop := ∃ l, H p = some (.lst l) ∧ Pu l n
theorem Pz.mono {H : Hp} {p : Addr} {n m : Nat} (h : Pz H p n) (hm : m ≤ n) : Pz H p m := by
  obtain ⟨l, h1, a, b, c, h2, h3, h4, h5, h6, h7⟩ := h
  exact ⟨l, h1, a, b, c, h2, h3, h4, h5, h6, by omega⟩
theorem Pz.upd {H : Hp} {p : Addr} {n : Nat} {l : List V} (h : Pu l n) : Pz (upd H p (.lst l)) p n := ⟨l, upd_same, h⟩
theorem Pz.same {H H' : Hp} {p : Addr} {n : Nat} (h : Pz H p n) (s : Same H H') : Pz H' p n := by
  obtain ⟨l, h1, h2⟩ := h
  exact ⟨l, s _ _ h1, h2⟩
/-- all but the object at p is as it was -/
def But (p : Addr) (H H' : Hp) : Prop := ∀ b o, b ≠ p → H b = some o → H' b = some o
theorem But.refl (p : Addr) (H : Hp) : But p H H := fun _ _ _ h => h
theorem But.trans {p : Addr} {H H1 H2 : Hp} (a : But p H H1) (b : But p H1 H2) : But p H H2 := fun c o n h => b c o n (a c o n h)
theorem But.of {p : Addr} {H H' : Hp} (s : Same H H') : But p H H' := fun b o _ h => s b o h
theorem But.upd {p : Addr} {H : Hp} {o : HO} : But p H (upd H p o) := fun b u n h => by rw [upd_ne n]; exact h
theorem But.new {p q : Addr} {H : Hp} {o : HO} (h : H q = none) : But p H (L2.upd H q o) := fun b u n e => by rw [upd_ne (ne_of_none e h)]; exact e
theorem Same.new {q : Addr} {H : Hp} {o : HO} (h : H q = none) : Same H (L2.upd H q o) := fun b u e => by rw [upd_ne (ne_of_none e h)]; exact e
theorem But.free {p q : Addr} {H H' : Hp} (s : But p H H') (h : H' q = none) (n : q ≠ p) : H q = none := by
  cases e : H q with
  | none => rfl
  | some o => rw [s q o n e] at h; cases h
/-- one draw -/
def spTake : Sp := fun vs H Q _ => ∃ (p : Addr) (m : Int) (n : Nat), vs = [.ref p, .int m] ∧ 0 < m ∧ m.natAbs < 2 ^ 200 ∧ Pz H p (n + 1) ∧
  ∀ (r : Int) (l : List V), 0 ≤ r → r < m → Pu l n → Q (.int r) (upd H p (.lst l))
theorem take_pow {i : Int} {e : Int} (h0 : 0 ≤ i) (h : i < 18446744073709551616) (he : 0 ≤ e) (he2 : e ≤ 1000000) : 0 ≤ e ∧ e ≤ 1000000 ∧ i.natAbs < 2 ^ 64 := ⟨he, he2, by omega⟩
end Vg
namespace Vg
open PySem PySem.Spec PyProof.Rows L2
/-- a cell of the script, whatever it holds -/
def spCell (K : PySem.W.Frag) : Sp := fun vs H Q _ => ∃ (a : Addr) (ns : List Int) (k : Int), vs = [.ref a, .int k] ∧ SqL K H a (ns.map V.int) ∧ 0 ≤ k ∧ k < 1000000 ∧
  ∀ z : Int, Q (.int z) H
/-- a new purse -/
def spPurse : Sp := fun vs H Q _ => ∃ z : Int, vs = [.int z] ∧ ∀ (p : Addr) (l : List V), H p = none → Pu l 90000 → Q (.ref p) (upd H p (.lst l))
/-- the greatest number that divides both -/
def gcdI (a b : Int) : Int := ((Nat.gcd a.natAbs b.natAbs : Nat) : Int)
def spCommon : Sp := fun vs H Q _ => ∃ a b : Int, vs = [.int a, .int b] ∧ Q (.int (gcdI a b)) H
theorem gcd_step {a b : Int} (ha : 0 ≤ a) (hb : 0 < b) : gcdI b (a % b) = gcdI a b := by
  unfold gcdI
  have e : (a % b).natAbs = a.natAbs % b.natAbs := by
    have h1 : (a % b) = ((a.natAbs % b.natAbs : Nat) : Int) := by
      rw [Int.natCast_emod, Int.natAbs_of_nonneg ha, Int.natAbs_of_nonneg (Int.le_of_lt hb)]
    rw [h1]; rfl
  rw [e, Nat.gcd_comm b.natAbs, ← Nat.gcd_rec, Nat.gcd_comm]
theorem gcd_abs (a b : Int) : gcdI (if a < 0 then -a else a) (if b < 0 then -b else b) = gcdI a b := by
  unfold gcdI
  have h : ∀ z : Int, (if z < 0 then -z else z).natAbs = z.natAbs := fun z => by split <;> simp
  rw [h, h]
theorem gcd_zero {a : Int} (ha : 0 ≤ a) : gcdI a 0 = a := by
  unfold gcdI
  simp [Int.natAbs_of_nonneg ha]
/-- whether a value is a whole number -/
def isNum : V → Bool
  | .int _ => true
  | _ => false
def spNum (K : PySem.W.Frag) : Sp := fun vs H Q _ => ∃ (v : V) (n : String), vs = [v] ∧ Tn K H v n ∧ Q (.bl (isNum v)) H
theorem kit_int {K : PySem.W.Frag} {H : Hp} {v : V} {n : String} (h : Tn K H v n) : ∃ b c, kitB n "int" = some b ∧ (b = true → kitB n "bool" = some c) ∧ (b && !c) = isNum v := by
  cases h with
  | non => exact ⟨false, false, by decide +kernel, fun z => Bool.noConfusion z, rfl⟩
  | bl b => exact ⟨true, true, by decide +kernel, fun _ => by decide +kernel, rfl⟩
  | int i => exact ⟨true, false, by decide +kernel, fun _ => by decide +kernel, rfl⟩
  | str z => exact ⟨false, false, by decide +kernel, fun z => Bool.noConfusion z, rfl⟩
  | lst h => exact ⟨false, false, by decide +kernel, fun z => Bool.noConfusion z, rfl⟩
  | tup h => exact ⟨false, false, by decide +kernel, fun z => Bool.noConfusion z, rfl⟩
  | dct h => exact ⟨false, false, by decide +kernel, fun z => Bool.noConfusion z, rfl⟩
end Vg
namespace Vg
open PySem PySem.Spec PyProof.Rows L2
def kD : Key → PyData
  | .inl i => .int i
  | .inr x => .str x
/-! what a value tells as data, whose objects stand at addresses of a kind -/
mutual
inductive Dq (ok : Addr → Prop) (H : Hp) : V → PyData → Prop
  | non : Dq ok H .non .none
  | bl (b : Bool) : Dq ok H (.bl b) (.bool b)
  | int (i : Int) : Dq ok H (.int i) (.int i)
  | str (x : Str) : Dq ok H (.str x) (.str x)
  | lst {a : Addr} {xs : List V} {ds : List PyData} (o : ok a) (h : H a = some (.lst xs)) (r : DqL ok H xs ds) : Dq ok H (.ref a) (.list ds)
  | tup {a : Addr} {xs : List V} {ds : List PyData} (o : ok a) (h : H a = some (.tup xs)) (r : DqL ok H xs ds) : Dq ok H (.ref a) (.tuple ds)
  | dct {a : Addr} {kvs : List (Key × V)} {es : List (PyData × PyData)} (o : ok a) (h : H a = some (.dK kvs)) (k : kvs.map (fun kv => kD kv.1) = es.map (·.1))
      (r : DqL ok H (kvs.map (·.2)) (es.map (·.2))) : Dq ok H (.ref a) (.dict es)
inductive DqL (ok : Addr → Prop) (H : Hp) : List V → List PyData → Prop
  | nil : DqL ok H [] []
  | cons {v : V} {vs : List V} {d : PyData} {ds : List PyData} (h : Dq ok H v d) (r : DqL ok H vs ds) : DqL ok H (v :: vs) (d :: ds)
end
mutual
theorem Dq.mono {ok ok' : Addr → Prop} {H H' : Hp} (s : ∀ a o, ok a → H a = some o → H' a = some o) (w : ∀ a o, ok a → H a = some o → ok' a) : ∀ {v : V} {d : PyData}, Dq ok H v d → Dq ok' H' v d
  | _, _, .non => .non
  | _, _, .bl b => .bl b
  | _, _, .int i => .int i
  | _, _, .str x => .str x
  | _, _, .lst o h r => .lst (w _ _ o h) (s _ _ o h) (DqL.mono s w r)
  | _, _, .tup o h r => .tup (w _ _ o h) (s _ _ o h) (DqL.mono s w r)
  | _, _, .dct o h k r => .dct (w _ _ o h) (s _ _ o h) k (DqL.mono s w r)
theorem DqL.mono {ok ok' : Addr → Prop} {H H' : Hp} (s : ∀ a o, ok a → H a = some o → H' a = some o) (w : ∀ a o, ok a → H a = some o → ok' a) : ∀ {vs : List V} {ds : List PyData}, DqL ok H vs ds → DqL ok' H' vs ds
  | _, _, .nil => .nil
  | _, _, .cons h r => .cons (Dq.mono s w h) (DqL.mono s w r)
end
theorem DqL.len {ok : Addr → Prop} {H : Hp} : ∀ {vs : List V} {ds : List PyData}, DqL ok H vs ds → vs.length = ds.length
  | _, _, .nil => rfl
  | _, _, .cons _ r => congrArg Nat.succ (DqL.len r)
theorem DqL.app {ok : Addr → Prop} {H : Hp} : ∀ {vs ws : List V} {ds es : List PyData}, DqL ok H vs ds → DqL ok H ws es → DqL ok H (vs ++ ws) (ds ++ es)
  | _, _, _, _, .nil, b => b
  | _, _, _, _, .cons h r, b => .cons h (DqL.app r b)
theorem DqL.get {ok : Addr → Prop} {H : Hp} : ∀ {vs : List V} {ds : List PyData} {i : Nat} {d : PyData}, DqL ok H vs ds → ds[i]? = some d → ∃ v, vs[i]? = some v ∧ Dq ok H v d
  | _, _, i, _, .nil, e => by simp at e
  | _, _, 0, _, .cons h _, e => by
    simp at e
    subst e
    exact ⟨_, rfl, h⟩
  | _, _, i + 1, d, .cons _ r, e => by
    obtain ⟨v, h1, h2⟩ := DqL.get (i := i) (d := d) r (by simpa using e)
    exact ⟨v, by simpa using h1, h2⟩
theorem Dq.tn {ok : Addr → Prop} {K : PySem.W.Frag} {H : Hp} {v : V} {d : PyData} (h : Dq ok H v d) : ∃ n, Tn K H v n := by
  cases h with
  | non => exact ⟨_, .non⟩
  | bl b => exact ⟨_, .bl b⟩
  | int i => exact ⟨_, .int i⟩
  | str x => exact ⟨_, .str x⟩
  | lst o h r => exact ⟨_, .lst h⟩
  | tup o h r => exact ⟨_, .tup h⟩
  | dct o h k r => exact ⟨_, .dct h⟩
/-- an expression that makes such data of new objects -/
def Mk1 (t : TE) (d : PyData) : Prop := ∀ (σ : L2.St) (H : Hp) (Q : VK), (∀ v H', Same H H' → Dq (fun a => H a = none) H' v d → Q v H') → t σ H Q
def MkL (t : TA) (ds : List PyData) : Prop := ∀ (σ : L2.St) (H : Hp) (Q : List V → Hp → Prop), (∀ vs H', Same H H' → DqL (fun a => H a = none) H' vs ds → Q vs H') → t σ H Q
theorem mk_non : Mk1 (tC .non) .none := fun _ H _ q => q _ _ (Same.refl H) .non
theorem mk_bl (b : Bool) : Mk1 (tC (.bl b)) (.bool b) := fun _ H _ q => q _ _ (Same.refl H) (.bl b)
theorem mk_int (i : Int) : Mk1 (tC (.int i)) (.int i) := fun _ H _ q => q _ _ (Same.refl H) (.int i)
theorem mk_str (x : Str) : Mk1 (tC (.str x)) (.str x) := fun _ H _ q => q _ _ (Same.refl H) (.str x)
/-- one that gives a number without making anything -/
def MkI (t : TE) (i : Int) : Prop := ∀ (σ : L2.St) (H : Hp) (Q : VK), Q (.int i) H → t σ H Q
theorem mki_c (i : Int) : MkI (tC (.int i)) i := fun _ _ _ q => q
theorem mki_neg {t : TE} {i : Int} (h : MkI t i) : MkI (tUn (rU fun i => .int (-i)) t) (-i) := fun σ H Q q => h σ H _ ⟨i, rfl, q⟩
theorem mki_pow {t u : TE} {i j : Int} (h : MkI t i) (k : MkI u j) (hc : 0 ≤ j ∧ j ≤ 1000000 ∧ i.natAbs < 2 ^ 64 := by decide) : MkI (tOp (rI CPow fun i j => .int (i ^ j.toNat)) t u) (i ^ j.toNat) :=
  fun σ H Q q => h σ H _ (k σ H _ ⟨i, j, rfl, rfl, hc, q⟩)
theorem mk_of {t : TE} {i : Int} (h : MkI t i) : Mk1 t (.int i) := fun σ H Q q => h σ H _ (q _ _ (Same.refl H) (.int i))
theorem mkl_nil : MkL tNil [] := fun _ H _ q => q _ _ (Same.refl H) .nil
theorem mkl_cons {t : TE} {u : TA} {d : PyData} {ds : List PyData} (h : Mk1 t d) (k : MkL u ds) : MkL (tCons t u) (d :: ds) := by
  intro σ H Q q
  refine h σ H _ fun v H1 s1 r1 => ?_
  refine k σ H1 _ fun vs H2 s2 r2 => ?_
  exact q _ _ (s1.trans s2) (.cons (r1.mono (fun a o _ e => s2 a o e) fun a o h _ => h) (r2.mono (fun a o _ e => e) fun a o h _ => s1.free h))
theorem mk_lst {t : TA} {ds : List PyData} (h : MkL t ds) (hz : ds.length ≤ 1000 := by decide) : Mk1 (tLst t) (.list ds) := by
  intro σ H Q q
  refine h σ H _ fun vs H1 s1 r => ⟨?_, fun p hp => ?_⟩
  · rw [r.len]
    exact Nat.le_trans hz (by decide)
  · exact q _ _ (s1.trans (Same.new hp)) (.lst (s1.free hp) upd_same (r.mono (fun a o _ e => Same.new hp a o e) fun a o h _ => h))
theorem mk_tup {t : TA} {ds : List PyData} (h : MkL t ds) (hz : ds.length ≤ 1000 := by decide) : Mk1 (tTup t) (.tuple ds) := by
  intro σ H Q q
  refine h σ H _ fun vs H1 s1 r => ⟨?_, fun p hp => ?_⟩
  · rw [r.len]
    exact Nat.le_trans hz (by decide)
  · exact q _ _ (s1.trans (Same.new hp)) (.tup (s1.free hp) upd_same (r.mono (fun a o _ e => Same.new hp a o e) fun a o h _ => h))
theorem mk_dct0 : Mk1 tDNewK (.dict []) := fun σ H Q q p hp => q _ _ (Same.new hp) (.dct hp upd_same rfl .nil)
theorem mk_dct1 {t : TE} {d : PyData} (k : Key) (h : Mk1 t d) : Mk1 (tDisp [(tC (kV k), t)]) (.dict [(kD k, d)]) := by
  intro σ H Q q p hp
  refine h σ _ _ fun v H1 s1 r => ?_
  have e1 : H1 p = some (.dK []) := s1 _ _ upd_same
  refine ⟨e1, [(k, v)], rfl, (by show 1 ≤ 15; decide), ?_⟩
  have sH : Same H (L2.upd H1 p (.dK (mergeK [] [(k, v)]))) := fun b o e => by
    have n := ne_of_none e hp
    rw [upd_ne n]
    exact s1 _ _ (by rw [upd_ne n]; exact e)
  refine q _ _ sH (.dct (kvs := [(k, v)]) (es := [(kD k, d)]) hp upd_same rfl (.cons (r.mono (fun a o ho e => ?_) fun a o ho e => ?_) .nil))
  · have n : a ≠ p := fun z => by rw [z, upd_same] at ho; cases ho
    rw [upd_ne n]
    exact e
  · have n : a ≠ p := fun z => by rw [z, upd_same] at ho; cases ho
    rw [upd_ne n] at ho
    exact ho
/-- name = such an expression -/
theorem sq_set {te : TE} {i : Nat} {u : TS} {D : Ends} {σ : L2.St} {H : Hp} {d : PyData} (h : Mk1 te d)
    (k : ∀ v H', Same H H' → Dq (fun a => H a = none) H' v d → u D (σ.set i (some v)) H') : tSeq (tAsg te (gName i)) u D σ H := h σ H _ k
/-- a list's name + such a list -/
theorem mk_cat {i : Nat} {te : TE} {σ : L2.St} {H : Hp} {Q : VK} {a : Addr} {xs : List V} {ds es : List PyData} {ok : Addr → Prop} (h : Mk1 te (.list es)) (hi : σ[i]? = some (some (.ref a))) (ha : H a = some (.lst xs)) (hd : DqL ok H xs ds)
    (hz : ds.length + es.length ≤ 1000) (ho : ∀ b, H b = none → ok b)
    (k : ∀ (p : Addr) (ys : List V) (H' : Hp), Same H H' → H p = none → H' p = some (.lst (xs ++ ys)) → DqL ok H' (xs ++ ys) (ds ++ es) → Q (.ref p) H') : tOp rCat (tVar i) te σ H Q := by
  refine ⟨_, hi, h σ H _ fun v H1 s1 r => ?_⟩
  cases r with
  | @lst b ys _ ob hb rb =>
  refine ⟨a, b, xs, ys, rfl, rfl, s1 _ _ ha, hb, ?_, fun p hp => ?_⟩
  · rw [hd.len, rb.len]
    exact Nat.le_trans hz (by decide)
  · have s2 : Same H1 (L2.upd H1 p (.lst (xs ++ ys))) := Same.new hp
    refine k p ys _ (s1.trans s2) (s1.free hp) upd_same (DqL.app (hd.mono (fun c o _ e => s2 _ _ (s1 _ _ e)) fun c o hc _ => hc) (rb.mono (fun c o _ e => s2 _ _ e) fun c o hc _ => ho c hc))
end Vg
namespace Vg
open PySem PySem.Spec PyProof.Rows L2
theorem pickV {xs : List V} {r : Int} (h0 : 0 ≤ r) (h1 : r < xs.length) : ∃ v, v ∈ xs ∧ atI xs r = some v := by
  obtain ⟨j, rfl⟩ : ∃ j : Nat, r = (j : Int) := ⟨r.toNat, by omega⟩
  have hj : j < xs.length := by omega
  exact ⟨xs[j], List.getElem_mem hj, atI_nat (List.getElem?_eq_getElem hj)⟩
theorem pickI {zs : List Int} {r : Int} (h0 : 0 ≤ r) (h1 : r < zs.length) : ∃ z, z ∈ zs ∧ atI (zs.map V.int) r = some (.int z) := by
  obtain ⟨v, h2, h3⟩ := pickV (xs := zs.map V.int) h0 (by rw [List.length_map]; exact h1)
  obtain ⟨z, h4, rfl⟩ := List.mem_map.mp h2
  exact ⟨z, h4, h3⟩
theorem Pz.new {H : Hp} {p q : Addr} {n : Nat} {o : HO} (h : Pz H p n) (hq : H q = none) : Pz (L2.upd H q o) p n := h.same (Same.new hq)
theorem Pz.ne {H : Hp} {p q : Addr} {n : Nat} (h : Pz H p n) (hq : H q = none) : q ≠ p := by
  obtain ⟨l, h1, _⟩ := h
  exact (ne_of_none h1 hq).symm
/-- a whole number of at most thirty figures -/
def spWhole : Sp := fun vs H Q _ => ∃ (p : Addr) (n : Nat), vs = [.ref p] ∧ Pz H p (n + 6) ∧
  ∀ (z : Int) (H' : Hp), z.natAbs < 10 ^ 30 → But p H H' → Pz H' p n → Q (.int z) H'
end Vg
namespace Vg
open PySem PySem.Spec PyProof.Rows L2
/-- some data that a value tells -/
def Dk (H : Hp) (v : V) (d : PyData) : Prop := ∃ ok, Dq ok H v d
theorem Dk.tn {K : PySem.W.Frag} {H : Hp} {v : V} {d : PyData} (h : Dk H v d) : ∃ n, Tn K H v n := by
  obtain ⟨_, h⟩ := h
  exact h.tn
theorem Dk.same {H H' : Hp} {v : V} {d : PyData} (h : Dk H v d) (s : Same H H') : Dk H' v d := by
  obtain ⟨ok, h⟩ := h
  exact ⟨ok, h.mono (fun a o _ e => s _ _ e) fun a o k _ => k⟩
def numD : PyData → Bool
  | .int _ => true
  | _ => false
theorem isNum_of {ok : Addr → Prop} {H : Hp} {v : V} {d : PyData} (h : Dq ok H v d) : isNum v = numD d := by
  cases h <;> rfl
/-- a whole number from lo to hi -/
def wholeV (lo hi : Int) : V → Bool
  | .int i => decide (lo ≤ i ∧ i ≤ hi)
  | _ => false
def spWholeIn (K : PySem.W.Frag) : Sp := fun vs H Q _ => ∃ (v : V) (n : String) (lo hi : Int), vs = [v, .int lo, .int hi] ∧ Tn K H v n ∧ Q (.bl (wholeV lo hi v)) H
theorem num_int {v : V} (h : isNum v = true) : ∃ i, v = .int i := by
  cases v with
  | int i => exact ⟨i, rfl⟩
  | _ => cases h
theorem whole_no {lo hi : Int} {v : V} (h : isNum v = false) : wholeV lo hi v = false := by
  cases v with
  | int i => cases h
  | _ => rfl
/-- a tuple of two -/
def pairD : PyData → Bool
  | .tuple ds => decide (ds.length = 2)
  | _ => false
def spPair : Sp := fun vs H Q _ => ∃ (v : V) (d : PyData), vs = [v] ∧ Dk H v d ∧ Q (.bl (pairD d)) H
def fracD : PyData → Bool
  | .tuple [.int a, .int b] => decide (1 ≤ b) && decide (gcdI a b = 1)
  | _ => false
def spFrac : Sp := fun vs H Q _ => ∃ (v : V) (d : PyData), vs = [v] ∧ Dk H v d ∧ Q (.bl (fracD d)) H
theorem Dk.two {H : Hp} {v : V} {d : PyData} (h : Dk H v d) (hp : pairD d = true) : ∃ a x y dx dy, v = .ref a ∧ H a = some (.tup [x, y]) ∧ d = .tuple [dx, dy] ∧ Dk H x dx ∧ Dk H y dy := by
  obtain ⟨ok, h⟩ := h
  cases h with
  | @tup a xs ds o h r =>
    have hl : ds.length = 2 := of_decide_eq_true hp
    match ds, hl with
    | [dx, dy], _ =>
      match r with
      | .cons r1 (.cons r2 .nil) => exact ⟨a, _, _, dx, dy, rfl, h, rfl, ⟨ok, r1⟩, ⟨ok, r2⟩⟩
  | _ => cases hp
theorem frac_nopair {d : PyData} (h : pairD d = false) : fracD d = false := by
  unfold fracD
  split
  · cases h
  · rfl
theorem frac_nonum {dx dy : PyData} (h : (numD dx && numD dy) = false) : fracD (.tuple [dx, dy]) = false := by
  unfold fracD
  split
  · rename_i a b e
    injection e with e
    injection e with e1 e2
    injection e2 with e2 _
    subst e1 e2
    cases h
  · rfl
/-- one sign from a to z, as both looks ask for it -/
def smallC (c : Nat) : Bool := if (!decide ((⟨#[c]⟩ : Str).cps.toList < ("a" : Str).cps.toList)) = true then !decide (("z" : Str).cps.toList < (⟨#[c]⟩ : Str).cps.toList) else false
def nameV : V → Bool
  | .str z => decide (1 ≤ z.length ∧ z.length ≤ 6) && z.cps.toList.all smallC
  | _ => false
def spName (K : PySem.W.Frag) : Sp := fun vs H Q _ => ∃ (v : V) (n : String), vs = [v] ∧ Tn K H v n ∧ (∀ z, v = .str z → z.length ≤ 100000 ∧ PyData.strOk z = true) ∧ ∀ H', Same H H' → Q (.bl (nameV v)) H'
theorem kit_str {K : PySem.W.Frag} {H : Hp} {v : V} {n : String} (h : Tn K H v n) : ∃ b, kitB n "str" = some b ∧ (b = true → ∃ z, v = .str z) ∧ (b = false → nameV v = false) := by
  cases h with
  | str z => exact ⟨true, by decide +kernel, fun _ => ⟨z, rfl⟩, fun z => Bool.noConfusion z⟩
  | non => exact ⟨false, by decide +kernel, fun z => Bool.noConfusion z, fun _ => rfl⟩
  | bl b => exact ⟨false, by decide +kernel, fun z => Bool.noConfusion z, fun _ => rfl⟩
  | int i => exact ⟨false, by decide +kernel, fun z => Bool.noConfusion z, fun _ => rfl⟩
  | lst h => exact ⟨false, by decide +kernel, fun z => Bool.noConfusion z, fun _ => rfl⟩
  | tup h => exact ⟨false, by decide +kernel, fun z => Bool.noConfusion z, fun _ => rfl⟩
  | dct h => exact ⟨false, by decide +kernel, fun z => Bool.noConfusion z, fun _ => rfl⟩
theorem kit_tuple {K : PySem.W.Frag} {H : Hp} {v : V} {d : PyData} (h : Dk H v d) : ∃ n b, Tn K H v n ∧ kitB n "tuple" = some b ∧ (b = true → ∃ a xs ds, v = .ref a ∧ H a = some (.tup xs) ∧ d = .tuple ds ∧ xs.length = ds.length) ∧ (b = false → pairD d = false) := by
  obtain ⟨ok, h⟩ := h
  cases h with
  | tup o h r => exact ⟨_, true, .tup h, by decide +kernel, fun _ => ⟨_, _, _, rfl, h, rfl, r.len⟩, fun z => Bool.noConfusion z⟩
  | non => exact ⟨_, false, .non, by decide +kernel, fun z => Bool.noConfusion z, fun _ => rfl⟩
  | bl b => exact ⟨_, false, .bl b, by decide +kernel, fun z => Bool.noConfusion z, fun _ => rfl⟩
  | int i => exact ⟨_, false, .int i, by decide +kernel, fun z => Bool.noConfusion z, fun _ => rfl⟩
  | str z => exact ⟨_, false, .str z, by decide +kernel, fun z => Bool.noConfusion z, fun _ => rfl⟩
  | lst o h r => exact ⟨_, false, .lst h, by decide +kernel, fun z => Bool.noConfusion z, fun _ => rfl⟩
  | dct o h k r => exact ⟨_, false, .dct h, by decide +kernel, fun z => Bool.noConfusion z, fun _ => rfl⟩
end Vg
namespace Vg
open PySem PySem.Spec PyProof.Rows L2
theorem take_sign {z : Str} {i c : Nat} (h : z.cps[i]? = some c) : z.cps.toList.take (i + 1) = z.cps.toList.take i ++ [c] := by
  have e : z.cps.toList[i]? = some c := by rw [Array.getElem?_toList]; exact h
  obtain ⟨h1, h2⟩ := List.getElem?_eq_some_iff.mp e
  rw [List.take_succ, e]
  rfl
theorem take_signs {z : Str} : z.cps.toList.take z.cps.size = z.cps.toList := by
  rw [List.take_of_length_le]
  simp
theorem size_sign {z : Str} {i c : Nat} (h : z.cps[i]? = some c) : i < z.cps.size := by
  obtain ⟨h1, _⟩ := Array.getElem?_eq_some_iff.mp h
  exact h1
theorem upd_in {H : Hp} {a b : Addr} {o u : HO} (h : H b = some u) (hn : a ≠ b) : L2.upd H a o b = some u := by
  rw [upd_ne hn.symm]
  exact h
/-- a change at an address that was free keeps all that was -/
theorem Same.mut {H H' : Hp} {p : Addr} {o : HO} (s : Same H H') (h : H p = none) : Same H (L2.upd H' p o) := fun b u e => by
  rw [upd_ne (ne_of_none e h)]
  exact s b u e
theorem bools_all {xs : List Nat} : (xs.map smallC).all id = xs.all smallC := by
  induction xs with
  | nil => rfl
  | cons x xs ih => simp [List.all_cons]
theorem name_of {z : Str} (h : 1 ≤ z.length ∧ z.length ≤ 6) : nameV (.str z) = z.cps.toList.all smallC := by
  unfold nameV
  simp [h]
theorem name_no {z : Str} (h : ¬ (1 ≤ z.length ∧ z.length ≤ 6)) : nameV (.str z) = false := by
  show (decide (1 ≤ z.length ∧ z.length ≤ 6) && z.cps.toList.all smallC) = false
  rw [decide_eq_false h]
  rfl
/-- the data of some signs, each a text -/
def signsD (xs : List Nat) : List PyData := xs.map fun c => .str ⟨#[c]⟩
theorem dp_signs {K : PySem.W.Frag} {H : Hp} : ∀ xs : List Nat, DpAll K H (xs.map fun c => V.str ⟨#[c]⟩) (signsD xs)
  | [] => .nil
  | x :: xs => .cons (.str _) (dp_signs xs)
theorem eqv_signs (xs : List Nat) : PyData.eqv (.list (signsD xs)) (.list []) = xs.isEmpty := by
  cases xs with
  | nil => simp [signsD, PyData.eqv, PyData.eqvAll]
  | cons x xs => simp [signsD, PyData.eqv, PyData.eqvAll]
theorem strOk_mem {z : Str} (h : PyData.strOk z = true) : ∀ c ∈ z.cps.toList, c < 1114112 := by
  intro c hc
  unfold PyData.strOk at h
  rw [← Array.all_toList, List.all_eq_true] at h
  exact of_decide_eq_true (h c hc)
theorem lay_signs (xs : List Nat) (hx : ∀ c ∈ xs, c < 1114112) : SeqAt.shaped (.list (signsD xs)) = true := by
  have h : ∀ xs : List Nat, (∀ c ∈ xs, c < 1114112) → PyData.canLayAll0 (signsD xs) = true ∧ PyData.depthAll (signsD xs) ≤ 0 := by
    intro xs
    induction xs with
    | nil => exact fun _ => ⟨by simp [signsD, PyData.canLayAll0], by simp [signsD, PyData.depthAll]⟩
    | cons x xs ih =>
      intro hx
      obtain ⟨h1, h2⟩ := ih fun c hc => hx c (List.mem_cons_of_mem _ hc)
      have h0 := hx x (List.mem_cons_self ..)
      refine ⟨?_, ?_⟩
      · simp only [signsD, List.map_cons, PyData.canLayAll0, PyData.canLay0, Bool.and_eq_true]
        refine ⟨?_, h1⟩
        unfold PyData.strOk
        simp [h0]
      · simp only [signsD, List.map_cons, PyData.depthAll, PyData.depth]
        have h2' : PyData.depthAll (List.map (fun c => PyData.str ⟨#[c]⟩) xs) ≤ 0 := h2
        simp only [Nat.le_zero] at h2' ⊢
        rw [h2']
        rfl
  obtain ⟨h1, h2⟩ := h xs hx
  unfold SeqAt.shaped
  have h3 : PyData.depthAll (signsD xs) = 0 := Nat.le_zero.mp h2
  have h4 : (PyData.list (signsD xs)).depth ≤ 64 := by
    simp only [PyData.depth]
    omega
  rw [decide_eq_true h4]
  simp only [PyData.canLay0, Bool.and_true]
  exact h1
theorem filter_empty {p : Nat → Bool} {xs : List Nat} : (xs.filter fun c => !p c).isEmpty = xs.all p := by
  induction xs with
  | nil => rfl
  | cons x xs ih =>
    cases e : p x with
    | true => simp [List.filter_cons, e, ih]
    | false => simp [List.filter_cons, e]
/-- a turn of a comprehension without a test -/
theorem lc_keep {te : TE} {σ : L2.St} {H : Hp} {R : VK} {L : Hp → Prop} (h : te σ H R) :
    tYes σ H (fun b H3 => if b = true then te σ H3 R else L H3) := by
  show (if true = true then te σ H R else L H)
  rw [if_pos rfl]
  exact h
end Vg
namespace Vg
open PySem PySem.Spec PyProof.Rows L2
/-- a text of at most n signs, each one that there is -/
structure Tx (n : Nat) (z : Str) : Prop where
  len : z.cps.toList.length ≤ n
  ok : ∀ c ∈ z.cps.toList, c < 1114112
theorem Tx.strOk {n : Nat} {z : Str} (h : Tx n z) : PyData.strOk z = true := by
  unfold PyData.strOk
  rw [← Array.all_toList, List.all_eq_true]
  exact fun c hc => decide_eq_true (h.ok c hc)
theorem Tx.length {n : Nat} {z : Str} (h : Tx n z) : z.length ≤ n := by
  have e : z.length = z.cps.toList.length := by simp [Str.length]
  rw [e]
  exact h.len
theorem Tx.mono {n m : Nat} {z : Str} (h : Tx n z) (hm : n ≤ m) : Tx m z := ⟨Nat.le_trans h.len hm, h.ok⟩
theorem toList_app (x y : Str) : (x ++ y).cps.toList = x.cps.toList ++ y.cps.toList := by
  show (x.cps ++ y.cps).toList = _
  simp
theorem Tx.app {n m : Nat} {x y : Str} (h : Tx n x) (k : Tx m y) : Tx (n + m) (x ++ y) := by
  refine ⟨?_, fun c hc => ?_⟩
  · rw [toList_app, List.length_append]
    have := h.len
    have := k.len
    omega
  · rw [toList_app] at hc
    rcases List.mem_append.mp hc with hc | hc
    · exact h.ok c hc
    · exact k.ok c hc
theorem Tx.cut {n : Nat} {z : Str} (h : Tx n z) (lo hi : Option Int) : Tx n (cutS z lo hi) := by
  refine ⟨?_, fun c hc => ?_⟩
  · show (((z.cps.toList.drop _).take _).toArray).toList.length ≤ n
    have := h.len
    simp only [List.length_take, List.length_drop]
    omega
  · have hc' : c ∈ ((z.cps.toList.drop (HT.sIx z.length 0 lo)).take (HT.sIx z.length z.length hi - HT.sIx z.length 0 lo)) := by
      simpa [cutS] using hc
    exact h.ok c (List.mem_of_mem_drop (List.mem_of_mem_take hc'))
theorem Tx.one {c : Nat} (h : c < 1114112) : Tx 1 ⟨#[c]⟩ := ⟨by simp, fun d hd => by simp at hd; omega⟩
theorem Tx.join : ∀ {ys : List Str}, (∀ y ∈ ys, Tx 1 y) → Tx ys.length (Txt.join "" ys) := by
  intro ys
  rw [TL.join_eq]
  induction ys with
  | nil => intro _; exact ⟨by decide, fun c hc => by simp [Str.join] at hc; exact absurd hc (by decide +revert)⟩
  | cons y ys ih =>
    intro h
    cases ys with
    | nil => exact h y (List.mem_cons_self ..)
    | cons z zs =>
      have h1 := h y (List.mem_cons_self ..)
      have h2 := ih fun x hx => h x (List.mem_cons_of_mem _ hx)
      have e : Str.join "" (y :: z :: zs) = y ++ "" ++ Str.join "" (z :: zs) := rfl
      have h3 : Tx 0 ("" : Str) := ⟨by decide, fun c hc => by exact absurd hc (by decide +revert)⟩
      rw [e]
      exact ((h1.app h3).app h2).mono (by simp only [List.length_cons]; omega)
/-- a sign of a written text -/
theorem pickS {z : Str} {r : Int} (h0 : 0 ≤ r) (h1 : r < z.cps.toList.length) (ok : z.cps.toList.all (fun c => decide (c < 1114112)) = true) : ∃ c, c < 1114112 ∧ atI z.cps.toList r = some c := by
  obtain ⟨j, rfl⟩ : ∃ j : Nat, r = (j : Int) := ⟨r.toNat, by omega⟩
  have hj : j < z.cps.toList.length := by omega
  refine ⟨z.cps.toList[j], ?_, atI_nat (List.getElem?_eq_getElem hj)⟩
  rw [List.all_eq_true] at ok
  exact of_decide_eq_true (ok _ (List.getElem_mem hj))
def spText : Sp := fun vs H Q _ => ∃ (p : Addr) (n : Nat), vs = [.ref p] ∧ Pz H p (n + 14) ∧ ∀ (z : Str) (H' : Hp), Tx 20 z → But p H H' → Pz H' p n → Q (.str z) H'
theorem sum_ones {ys : List Str} (h : ∀ y ∈ ys, Tx 1 y) : (ys.map (·.length)).sum ≤ ys.length := by
  induction ys with
  | nil => simp
  | cons y ys ih =>
    have h1 := (h y (List.mem_cons_self ..)).length
    have h2 := ih fun x hx => h x (List.mem_cons_of_mem _ hx)
    simp only [List.map_cons, List.sum_cons, List.length_cons]
    omega
theorem But.mut {p D : Addr} {H H' : Hp} {o : HO} (s : But p H H') (h : H D = none) : But p H (L2.upd H' D o) := fun b u n e => by
  rw [upd_ne (ne_of_none e h)]
  exact s b u n e
theorem Pz.mut {p D : Addr} {H : Hp} {n : Nat} {o : HO} (h : Pz H p n) (hn : D ≠ p) : Pz (L2.upd H D o) p n := by
  obtain ⟨l, h1, h2⟩ := h
  exact ⟨l, upd_in h1 hn, h2⟩
end Vg
namespace Vg
open PySem PySem.Spec PyProof.Rows L2
/-- a def of the module that asks for texts of lists, as its callers know it -/
structure Fg (P : Program) (w : World) (K : PySem.W.Frag) (mg : Str → Option Value) (base : Heap) (k : Nat) (x : Str) (ps : List Str) (sp : Sp) : Prop where
  ex : ∃ (f : Addr) (fd : FuncData), mg x = some (.ref f) ∧ PySem.W.keepIn K (.ref f) = true ∧ Binds K fd ps [] ∧ FnG P w K mg base CX0 k f fd ps sp
/-- such a def by its body -/
theorem fng_fun {P : Program} {w : World} {K : PySem.W.Frag} {mg : Str → Option Value} {base : Heap} {k : Nat} {x : Str} {st : Stmt} {N ps : List Str} {sp : Sp} {f : Addr} {fd : FuncData} (F : Fun K x x st f fd) (S : FnScope N ps (defScope st))
    (len : ∀ vs H Q E, sp vs H Q E → vs.length = ps.length)
    (body : ∀ (cdv : Value) (A : Around) (outer : List Env) (s : Shared) (H : Hp) (vs : List V) (Q : VK) (E : XK),
      (cxOf CX0 P w K mg base N x (defScope st) f cdv A outer s H E).nox.A.guards = some [] →
      Room k (A.deeper (envOfC x (defScope st) s.heap.objs.size f cdv)) → sp vs H Q E →
      ∃ t, PSs (cxOf CX0 P w K mg base N x (defScope st) f cdv A outer s H E).nox (defBody st) t ∧ t { nx := fun _ H' => Q .non H', rt := Q } (start N vs) H) :
    FnG P w K mg base CX0 (k + 1) f fd ps sp := by
  obtain ⟨oc, od, kV, doc, pm, an, cdv, ct, osl, rfl, lk, hcd⟩ := F.ex
  refine fng_of lk hcd S len fun A outer s H vs Q E hg hr hsp => ?_
  obtain ⟨t, h, q⟩ := body cdv A outer s H vs Q E hg hr hsp
  exact ⟨t, h.nox, q⟩
theorem At.fng {P : Program} {w : World} {K : PySem.W.Frag} {mg : Str → Option Value} {base : Heap} {k : Nat} {x : Str} {st : Stmt} {N ps : List Str} {sp : Sp} (D : At K mg x st) (S : FnScope N ps (defScope st))
    (hb : ∀ (kV doc pm : Value) (an : Option Addr) (cdv ct : Value) (us : List Value), us.length = ps.length →
      bindArgs (PySem.W.fnOf x x (defArgs st) (defBody st) (defScope st) .none kV doc pm an cdv ct) ⟨us, []⟩ = pure (ps.zip us))
    (len : ∀ vs H Q E, sp vs H Q E → vs.length = ps.length)
    (body : ∀ (f : Addr) (cdv : Value) (A : Around) (outer : List Env) (s : Shared) (H : Hp) (vs : List V) (Q : VK) (E : XK),
      (cxOf CX0 P w K mg base N x (defScope st) f cdv A outer s H E).nox.A.guards = some [] →
      Room k (A.deeper (envOfC x (defScope st) s.heap.objs.size f cdv)) → sp vs H Q E →
      ∃ t, PSs (cxOf CX0 P w K mg base N x (defScope st) f cdv A outer s H E).nox (defBody st) t ∧ t { nx := fun _ H' => Q .non H', rt := Q } (start N vs) H) :
    Fg P w K mg base (k + 1) x ps sp := by
  obtain ⟨f, fd, hm, F⟩ := D.ex
  exact ⟨f, fd, hm, F.kp, F.binds hb, fng_fun F S len fun cdv A outer s H vs Q E hg hr h => body f cdv A outer s H vs Q E hg hr h⟩
/-- a def as the head tells it -/
structure DefIn (K : PySem.W.Frag) (x : Str) (st : Stmt) : Prop where
  ex : ∃ (f : Addr) (oc : Value) (od an : Option Addr) (sl : Array (Option Value)) (kV dc pm cd ct : Value), PySem.W.nsIn K mainGlobals x = some (some (.ref f)) ∧
    K.lookup f = some ⟨oc, od, .func (PySem.W.fnOf x x (defArgs st) (defBody st) (defScope st) .none kV dc pm an cd ct), sl⟩ ∧
    PySem.W.codeIn K cd x = true ∧ PySem.W.keepIn K (.ref f) = true
theorem DefIn.at {K : PySem.W.Frag} {h : Heap} {mg : Str → Option Value} {x : Str} {st : Stmt} (D : DefIn K x st) (X : K.In h) (G : h.Ns mainGlobals mg) : At K mg x st := by
  obtain ⟨f, oc, od, an, sl, kV, dc, pm, cd, ct, a, l, c, k⟩ := D.ex
  exact ⟨f, _, PySem.W.mg_of X G a, fun_mk l c k⟩
theorem pe_fg {X : Cx} {k : Nat} {ps : List Str} {sp : Sp} {E : XK} {x : Str} {p pos : Pos} {e : Expr} {es : List Expr} {t : TA} (F : Fg X.prog X.w X.K X.mg X.base k x ps sp) (hgd : X.A.guards = some []) (hr : Room k X.A) (hg : Gl X x) (hx : Passes CX0 X E) (ha : PA X (e :: es) t)
    (hdb : (x == ("__debug__" : Str)) = false := by decide) (he : starEach (e :: es) X.env = (false, eval e X.env) :: starEach es X.env := by rfl)
    (hpl : (backTo pos (starEach es X.env)).any (·.1) = false := by rfl) : PE X (.Call (.Name x p) (e :: es) [] pos) (tCall sp [] E t) := by
  obtain ⟨f, fd, hm, hk, hb, F⟩ := F.ex
  exact pe_callG F hgd hr hg hm hk hb .nil hx ha hdb he hpl
/-- what a law promises -/
def spLaw (K : PySem.W.Frag) : Sp := fun vs H Q _ => ∃ (a : Addr) (ns : List Int), vs = [.ref a] ∧ SqL K H a (ns.map V.int) ∧ ns.length ≤ 63 ∧ ∀ H', Q (.bl true) H'
theorem Same.but {p : Addr} {H H1 H2 : Hp} (s : Same H H1) (h : H p = none) (b : But p H1 H2) : Same H H2 := fun c o e => b c o (ne_of_none e h) (s c o e)
/-- a thing that may be handed in: data, its texts in bounds -/
def Good (H : Hp) (v : V) : Prop := (∃ d, Dk H v d) ∧ ∀ z, v = .str z → z.length ≤ 100000 ∧ PyData.strOk z = true
theorem Good.same {H H' : Hp} {v : V} (h : Good H v) (s : Same H H') : Good H' v := by
  obtain ⟨⟨d, hd⟩, hz⟩ := h
  exact ⟨⟨d, hd.same s⟩, hz⟩
theorem good_int {H : Hp} (i : Int) : Good H (.int i) := ⟨⟨_, fun _ => True, .int i⟩, fun z e => by cases e⟩
theorem good_str {H : Hp} {n : Nat} {z : Str} (h : Tx n z) (hn : n ≤ 100000) : Good H (.str z) :=
  ⟨⟨_, fun _ => True, .str z⟩, fun y e => by
    cases e
    exact ⟨Nat.le_trans h.length hn, h.strOk⟩⟩
/-- a tuple, a list of two numbers -/
theorem good_tup {H : Hp} {a : Addr} {i j : Int} (h : H a = some (.tup [.int i, .int j])) : Good H (.ref a) :=
  ⟨⟨_, fun _ => True, .tup trivial h (.cons (.int i) (.cons (.int j) .nil))⟩, fun y e => by cases e⟩
theorem good_lst {H : Hp} {a : Addr} {i j : Int} (h : H a = some (.lst [.int i, .int j])) : Good H (.ref a) :=
  ⟨⟨_, fun _ => True, .lst trivial h (.cons (.int i) (.cons (.int j) .nil))⟩, fun y e => by cases e⟩
def textOk : PyData → Bool
  | .str z => decide (z.length ≤ 100000) && PyData.strOk z
  | _ => true
theorem good_of {ok : Addr → Prop} {H : Hp} {v : V} {d : PyData} (h : Dq ok H v d) (ht : textOk d = true) : Good H v := by
  refine ⟨⟨d, ok, h⟩, fun z e => ?_⟩
  subst e
  cases h
  have h2 := Bool.and_eq_true_iff.mp (show (decide (z.length ≤ 100000) && PyData.strOk z) = true from ht)
  exact ⟨of_decide_eq_true h2.1, h2.2⟩
/-- the data of a list of three truths -/
def boolsD (a b c : Bool) : PyData := .list [.bool a, .bool b, .bool c]
theorem bools_text (a b c : Bool) : (boolsD a b c).showable = true ∧ (boolsD a b c).depth ≤ 50 ∧ (boolsD a b c).shown.length ≤ sizeLine := by
  cases a <;> cases b <;> cases c <;> decide +kernel
theorem bool_text (a : Bool) : (PyData.bool a).showable = true ∧ (PyData.bool a).depth ≤ 50 ∧ (PyData.bool a).shown.length ≤ sizeLine := by
  cases a <;> decide +kernel
theorem dp_bools {K : PySem.W.Frag} {H : Hp} {p : Addr} {a b c : Bool} (h : H p = some (.lst [.bl a, .bl b, .bl c])) : Dp K H (.ref p) (boolsD a b c) :=
  .lst (SqL.of h) (.cons (.bl a) (.cons (.bl b) (.cons (.bl c) .nil)))
theorem Tn.same {K : PySem.W.Frag} {H H' : Hp} {v : V} {n : String} (h : Tn K H v n) (s : Same H H') : Tn K H' v n := by
  cases h with
  | non => exact .non
  | bl b => exact .bl b
  | int i => exact .int i
  | str z => exact .str z
  | lst h => exact .lst (s _ _ h)
  | tup h => exact .tup (s _ _ h)
  | dct h => exact .dct (s _ _ h)
/-- a number, and from lo to hi -/
theorem in_range {tn ta tb tc : TE} {σ : L2.St} {H : Hp} {Q : VK} {x : V} {lo hi : Int} (hn : ∀ R : VK, R (.bl (isNum x)) H → tn σ H R) (ha : ∀ R : VK, R (.int lo) H → ta σ H R) (hb : ∀ R : VK, R x H → tb σ H R)
    (hc : ∀ R : VK, R (.int hi) H → tc σ H R) (q : Q (.bl (wholeV lo hi x)) H) :
    tAndV tn (tChain (rI0 fun i j => V.bl (decide (i ≤ j))) (rI0 fun i j => V.bl (decide (i ≤ j))) ta tb tc) σ H Q := by
  refine hn _ ⟨_, rfl, ?_⟩
  cases e : isNum x with
  | true =>
    obtain ⟨i, rfl⟩ := num_int e
    refine iteT (ha _ (hb _ ⟨_, _, rfl, rfl, _, rfl, ?_⟩))
    by_cases h : lo ≤ i
    · rw [decide_eq_true h]
      refine iteT (hc _ ⟨_, _, rfl, rfl, ?_⟩)
      have e2 : wholeV lo hi (.int i) = decide (i ≤ hi) := by simp [wholeV, h]
      rw [e2] at q
      exact q
    · rw [decide_eq_false h]
      have e2 : wholeV lo hi (.int i) = false := by simp [wholeV, h]
      rw [e2] at q
      exact iteF q
  | false =>
    rw [whole_no e] at q
    exact iteF q
/-- a new list, a new tuple, a new list of two joined -/
theorem new_lst {H : Hp} {xs : List V} {R : V → Hp → Prop} (hz : xs.length ≤ sizeLine) (k : ∀ p H', H p = none → Same H H' → H' p = some (.lst xs) → R (.ref p) H') :
    xs.length ≤ sizeLine ∧ ∀ p, H p = none → R (.ref p) (L2.upd H p (.lst xs)) := ⟨hz, fun p hp => k p _ hp (Same.new hp) upd_same⟩
theorem new_tup {H : Hp} {xs : List V} {R : V → Hp → Prop} (hz : xs.length ≤ sizeLine) (k : ∀ p H', H p = none → Same H H' → H' p = some (.tup xs) → R (.ref p) H') :
    xs.length ≤ sizeLine ∧ ∀ p, H p = none → R (.ref p) (L2.upd H p (.tup xs)) := ⟨hz, fun p hp => k p _ hp (Same.new hp) upd_same⟩
theorem new_cat {H : Hp} {xs zs : List V} {R : V → Hp → Prop} (hz : xs.length + zs.length ≤ sizeLine) (k : ∀ p H', H p = none → Same H H' → H' p = some (.lst (xs ++ zs)) → R (.ref p) H') :
    xs.length + zs.length ≤ sizeLine ∧ ∀ p, H p = none → R (.ref p) (L2.upd H p (.lst (xs ++ zs))) := ⟨hz, fun p hp => k p _ hp (Same.new hp) upd_same⟩
/-- what stands at a new address -/
theorem at_new {H : Hp} {p : Addr} (_ : H p = none) (o : HO) : L2.upd H p o p = some o := upd_same
theorem same_new {H : Hp} {p : Addr} (h : H p = none) (o : HO) : Same H (L2.upd H p o) := Same.new h
theorem of_gen {H H' : Hp} {p : Addr} {o : HO} (h : L2.upd H p o = H') : H' p = some o := h ▸ upd_same
theorem same_gen {H H' : Hp} {p : Addr} {o : HO} (hp : H p = none) (h : L2.upd H p o = H') : Same H H' := h ▸ Same.new hp
/-- the law's own promise, as the head's end wants it -/
theorem law_end {P : Program} {w : World} {K : PySem.W.Frag} {h : Heap} {mg : Str → Option Value} {fa : Addr} {st : Stmt} {x : Str} {k : Nat} (X : K.In h) (G : h.Ns mainGlobals mg) (hfa : mg "law" = some (.ref fa)) (D : DefIn K "law" st)
    (hb : ∀ (kV doc pm : Value) (an : Option Addr) (cdv ct u : Value), bindArgs (PySem.W.fnOf "law" "law" (defArgs st) (defBody st) (defScope st) .none kV doc pm an cdv ct) ⟨[u], []⟩ = pure [(x, u)])
    (F : ∀ (f : Addr) (fd : FuncData) (base : Heap), Fun K "law" "law" st f fd → FnG P w K mg base CX0 k f fd [x] (spLaw K)) :
    ∃ fd : FuncData, (∀ (s : Shared) (u : Value), BindsTo s fd ⟨[u], []⟩ [(x, u)]) ∧ ∀ base : Heap, K.In base → base.Ns mainGlobals mg → FnG P w K mg base CX0 k fa fd [x] (spLaw K) := by
  obtain ⟨f, oc, od, an, sl, kV, dc, pm, cd, ct, a, l, c, kp⟩ := D.ex
  have e := hfa.symm.trans (PySem.W.mg_of X G a)
  cases e
  exact ⟨_, fun s u => .of_eq (hb _ _ _ _ _ _ u), fun base _ _ => F _ _ base (fun_mk l c kp)⟩
theorem DefIn.by {K : PySem.W.Frag} {x : Str} {st : Stmt} {f : Addr} {oc : Value} {od an : Option Addr} {sl : Array (Option Value)} {kV dc pm cd ct : Value} (a : PySem.W.nsIn K mainGlobals x = some (some (.ref f)))
    (l : K.lookup f = some ⟨oc, od, .func (PySem.W.fnOf x x (defArgs st) (defBody st) (defScope st) .none kV dc pm an cd ct), sl⟩) (c : PySem.W.codeIn K cd x = true) (k : PySem.W.keepIn K (.ref f) = true) : DefIn K x st :=
  ⟨f, oc, od, an, sl, kV, dc, pm, cd, ct, a, l, c, k⟩
theorem con_in {K : PySem.W.Frag} {x : Str} {n : Int} {t : Tok} (h : PySem.W.nsIn K mainGlobals x = some (some (.int n t))) : ∃ t, PySem.W.nsIn K mainGlobals x = some (some (.int n t)) := ⟨t, h⟩
/-- a thing of another kind, new, one of those told -/
def spOdd (ds : List PyData) : Sp := fun vs H Q _ => ∃ (p : Addr) (n : Nat), vs = [.ref p] ∧ Pz H p (n + 1) ∧
  ∀ (v : V) (d : PyData) (H' : Hp), d ∈ ds → But p H H' → Pz H' p n → Dq (fun a => H a = none) H' v d → Q v H'
end Vg
set_option exponentiation.threshold 3000
namespace Vg
open PySem PySem.Spec PyProof.Rows L2
theorem takes_no {X : Cx} : Takes X (fun _ _ _ _ => False) := by
  rintro u s' ⟨a, B, sI, pins, σ, H, cls, d, e, I, nb, up, sky, na, os, ag, w⟩
  exact w.elim
/-- one figure, as both looks ask for it -/
def digQ (c : Nat) : Bool := if (!decide ((⟨#[c]⟩ : Str).cps.toList < ("0" : Str).cps.toList)) = true then !decide (("9" : Str).cps.toList < (⟨#[c]⟩ : Str).cps.toList) else false
theorem one_lt {a b : Nat} : ([a] : List Nat) < [b] ↔ a < b := by
  constructor
  · intro h
    cases h with
    | rel h => exact h
    | cons h => cases h
  · exact fun h => List.Lex.rel h
theorem digQ_iff {c : Nat} : digQ c = true ↔ 48 ≤ c ∧ c ≤ 57 := by
  have h0 : ("0" : Str).cps.toList = [48] := by decide +kernel
  have h9 : ("9" : Str).cps.toList = [57] := by decide +kernel
  unfold digQ
  rw [h0, h9]
  by_cases a : c < 48
  · rw [decide_eq_true (one_lt.mpr a)]
    simp
    omega
  · rw [decide_eq_false (fun z => a (one_lt.mp z))]
    by_cases b : 57 < c
    · rw [decide_eq_true (one_lt.mpr b)]
      simp
      omega
    · rw [decide_eq_false (fun z => b (one_lt.mp z))]
      simp
      omega
theorem all_digits {cs : List Nat} (h : cs.all digQ = true) : NumText.AllDigits cs := fun c hc => digQ_iff.mp (List.all_eq_true.mp h c hc)
/-- the figures of a text, behind a sign that may stand there -/
def figL (cs : List Nat) : List Nat := if cs.take 1 = [45] then cs.drop 1 else cs
/-- the whole number that a text writes -/
def numT (cs : List Nat) : Option Int :=
  if 1 ≤ (figL cs).length ∧ (figL cs).length ≤ 30 then
    if (figL cs).all digQ = true then
      if (figL cs).take 1 = [48] ∧ cs ≠ [48] then none
      else some (if cs.take 1 = [45] then -((NumText.digitsVal (figL cs) : Nat) : Int) else ((NumText.digitsVal (figL cs) : Nat) : Int))
    else none
  else none
def optV : Option Int → V
  | some n => .int n
  | none => .non
def resV : V → V
  | .str z => optV (numT z.cps.toList)
  | _ => .non
def spNumOf (K : PySem.W.Frag) : Sp := fun vs H Q _ => ∃ (v : V) (n : String), vs = [v] ∧ Tn K H v n ∧ (∀ z, v = .str z → z.length ≤ 100000 ∧ PyData.strOk z = true) ∧ ∀ H', Same H H' → Q (resV v) H'
theorem str_len (z : Str) : z.length = z.cps.toList.length := by simp [Str.length]
theorem str_ext {x y : Str} (h : x.cps.toList = y.cps.toList) : x = y := TL.ext_tl h
theorem str_eq_iff {x : Str} {y : Str} {l : List Nat} (h : y.cps.toList = l) : (V.str x = V.str y) ↔ x.cps.toList = l := by
  constructor
  · intro e
    injection e with e
    rw [e, h]
  · intro e
    rw [str_ext (e.trans h.symm)]
theorem cut_from {z : Str} : (cutS z (some 1) none).cps.toList = z.cps.toList.drop 1 := by
  show (((z.cps.toList.drop (HT.sIx z.length 0 (some ((1 : Nat) : Int)))).take (HT.sIx z.length z.length none - HT.sIx z.length 0 (some ((1 : Nat) : Int)))).toArray).toList = _
  rw [HT.sIx_nat, HT.sIx_none, str_len]
  simp only [List.toList_toArray]
  cases z.cps.toList with
  | nil => rfl
  | cons a r =>
    simp
theorem cut_to {z : Str} : (cutS z none (some 1)).cps.toList = z.cps.toList.take 1 := by
  show (((z.cps.toList.drop (HT.sIx z.length 0 none)).take (HT.sIx z.length z.length (some ((1 : Nat) : Int)) - HT.sIx z.length 0 none)).toArray).toList = _
  rw [HT.sIx_nat, HT.sIx_none, str_len]
  simp only [List.toList_toArray, List.drop_zero, Nat.sub_zero]
  cases z.cps.toList with
  | nil => rfl
  | cons a r => simp
theorem prefix_off {z : Str} : (Txt.removeprefix z "-").cps.toList = figL z.cps.toList := by
  rw [StrLaws.removeprefix_eq, StrLaws.subAt_eq]
  have h1 : ("-" : Str).length = 1 := by decide +kernel
  have h2 : ("-" : Str).cps.toList = [45] := by decide +kernel
  rw [h1, h2, List.drop_zero]
  unfold figL
  by_cases h : z.cps.toList.take 1 = [45]
  · rw [if_pos h, h]
    have hl : 0 + 1 ≤ z.length := by
      rw [str_len]
      cases e : z.cps.toList with
      | nil => rw [e] at h; cases h
      | cons a r => simp
    rw [decide_eq_true hl]
    simp only [BEq.rfl, Bool.and_self, if_true, List.toList_toArray]
    rw [List.take_of_length_le]
    rw [List.length_drop, str_len]
    exact Nat.le_refl _
  · rw [if_neg h]
    rw [if_neg]
    intro e
    have e2 := (Bool.and_eq_true_iff.mp e).2
    exact h (eq_of_beq e2)
theorem figL_neg {cs : List Nat} (h : cs.take 1 = [45]) : cs = 45 :: figL cs := by
  unfold figL
  rw [if_pos h]
  cases cs with
  | nil => cases h
  | cons a r =>
    simp at h
    subst h
    rfl
theorem figL_pos {cs : List Nat} (h : ¬ cs.take 1 = [45]) : figL cs = cs := by
  unfold figL
  rw [if_neg h]
/-- int(text) of such a text -/
theorem int_of {z : Str} {n : Int} (h : numT z.cps.toList = some n) : PySem.intText? z = some n ∧ z.length ≤ 640 := by
  unfold numT at h
  split at h
  · rename_i hl
    split at h
    · rename_i hd
      split at h
      · cases h
      · injection h with h
        have hd' := all_digits hd
        have hne : figL z.cps.toList ≠ [] := fun e => by rw [e] at hl; simp at hl
        by_cases hs : z.cps.toList.take 1 = [45]
        · rw [if_pos hs] at h
          have e := figL_neg hs
          have hz : z.length ≤ 640 := by
            rw [str_len, e, List.length_cons]
            omega
          exact ⟨h ▸ PySem.intText_neg e hd' hne (by omega), hz⟩
        · rw [if_neg hs] at h
          have e := figL_pos hs
          have hz : z.length ≤ 640 := by
            rw [str_len, ← e]
            omega
          rw [e] at hd' hne h
          exact ⟨h ▸ PySem.intText_digits hd' hne (by omega), hz⟩
    · cases h
  · cases h
theorem digits_lt {cs : List Nat} (h : NumText.AllDigits cs) : NumText.digitsVal cs < 10 ^ cs.length := by
  have g : ∀ (cs : List Nat) (a : Nat), NumText.AllDigits cs → cs.foldl (fun acc c => acc * 10 + (c - 48)) a < (a + 1) * 10 ^ cs.length := by
    intro cs
    induction cs with
    | nil => intro a _; simp
    | cons c cs ih =>
      intro a h
      have hc := h.head
      have := ih (a * 10 + (c - 48)) h.tail
      simp only [List.foldl_cons, List.length_cons, Nat.pow_succ]
      refine Nat.lt_of_lt_of_le this ?_
      have h1 : a * 10 + (c - 48) + 1 ≤ (a + 1) * 10 := by omega
      calc (a * 10 + (c - 48) + 1) * 10 ^ cs.length ≤ ((a + 1) * 10) * 10 ^ cs.length := Nat.mul_le_mul_right _ h1
        _ = (a + 1) * (10 ^ cs.length * 10) := by rw [Nat.mul_assoc, Nat.mul_comm 10]
  have := g cs 0 h
  simpa [NumText.digitsVal] using this
theorem index_digit {c : Nat} (h : 48 ≤ c ∧ c ≤ 57) : Txt.index0 "0123456789" ⟨#[c]⟩ = some (c - 48) := by
  have hc : c = 48 ∨ c = 49 ∨ c = 50 ∨ c = 51 ∨ c = 52 ∨ c = 53 ∨ c = 54 ∨ c = 55 ∨ c = 56 ∨ c = 57 := by omega
  rcases hc with rfl | rfl | rfl | rfl | rfl | rfl | rfl | rfl | rfl | rfl <;> decide +kernel
theorem digitsVal_snoc {cs : List Nat} {c : Nat} : NumText.digitsVal (cs ++ [c]) = NumText.digitsVal cs * 10 + (c - 48) := by
  unfold NumText.digitsVal
  rw [List.foldl_append]
  rfl
theorem kit_strV {K : PySem.W.Frag} {H : Hp} {v : V} {n : String} (h : Tn K H v n) : ∃ b, kitB n "str" = some b ∧ (b = true → ∃ z, v = .str z) ∧ (b = false → resV v = .non) := by
  cases h with
  | str z => exact ⟨true, by decide +kernel, fun _ => ⟨z, rfl⟩, fun z => Bool.noConfusion z⟩
  | non => exact ⟨false, by decide +kernel, fun z => Bool.noConfusion z, fun _ => rfl⟩
  | bl b => exact ⟨false, by decide +kernel, fun z => Bool.noConfusion z, fun _ => rfl⟩
  | int i => exact ⟨false, by decide +kernel, fun z => Bool.noConfusion z, fun _ => rfl⟩
  | lst h => exact ⟨false, by decide +kernel, fun z => Bool.noConfusion z, fun _ => rfl⟩
  | tup h => exact ⟨false, by decide +kernel, fun z => Bool.noConfusion z, fun _ => rfl⟩
  | dct h => exact ⟨false, by decide +kernel, fun z => Bool.noConfusion z, fun _ => rfl⟩
theorem bools_dig {xs : List Nat} : (xs.map digQ).all id = xs.all digQ := by
  induction xs with
  | nil => rfl
  | cons x xs ih => simp [List.all_cons]
theorem num_short {z : Str} (h : ¬ (1 ≤ (figL z.cps.toList).length ∧ (figL z.cps.toList).length ≤ 30)) : resV (.str z) = .non := by
  show optV (numT z.cps.toList) = .non
  unfold numT
  rw [if_neg h]
  rfl
theorem num_sign {z : Str} (h : (figL z.cps.toList).all digQ = false) : resV (.str z) = .non := by
  show optV (numT z.cps.toList) = .non
  unfold numT
  split
  · rw [if_neg (by rw [h]; exact Bool.false_ne_true)]
    rfl
  · rfl
theorem num_zero {z : Str} (h : (figL z.cps.toList).take 1 = [48] ∧ z.cps.toList ≠ [48]) : resV (.str z) = .non := by
  show optV (numT z.cps.toList) = .non
  unfold numT
  rw [if_pos h]
  split
  · split <;> rfl
  · rfl
theorem num_is {z : Str} (hl : 1 ≤ (figL z.cps.toList).length ∧ (figL z.cps.toList).length ≤ 30) (hd : (figL z.cps.toList).all digQ = true) (h0 : ¬ ((figL z.cps.toList).take 1 = [48] ∧ z.cps.toList ≠ [48])) :
    numT z.cps.toList = some (if z.cps.toList.take 1 = [45] then -((NumText.digitsVal (figL z.cps.toList) : Nat) : Int) else ((NumText.digitsVal (figL z.cps.toList) : Nat) : Int)) := by
  unfold numT
  rw [if_pos hl, if_pos hd, if_neg h0]
theorem first_sign {z : Str} (h : 1 ≤ z.cps.toList.length) : ∃ c, atI z.cps.toList 0 = some c ∧ z.cps.toList.take 1 = [c] := by
  cases e : z.cps.toList with
  | nil => rw [e] at h; simp at h
  | cons a r => exact ⟨a, (show atI (a :: r) ((0 : Nat) : Int) = some a from atI_nat rfl), by simp⟩
/-- a text with a sign or two otherwise -/
def spNear : Sp := fun vs H Q _ => ∃ (p : Addr) (z : Str) (m n : Nat), vs = [.ref p, .str z] ∧ Tx m z ∧ m ≤ 1000 ∧ Pz H p (n + 7) ∧
  ∀ (y : Str) (H' : Hp), Tx (m + 2) y → But p H H' → Pz H' p n → Q (.str y) H'
theorem Tx.fits {n : Nat} {z : Str} (h : Tx n z) (hn : n ≤ 100000) : z.length ≤ sizeLine := Nat.le_trans h.length (Nat.le_trans hn (by decide))
theorem Tx.fits2 {n m : Nat} {x y : Str} (h : Tx n x) (k : Tx m y) (hn : n + m ≤ 100000) : x.length + y.length ≤ sizeLine := by
  have h1 := h.length
  have h2 := k.length
  exact Nat.le_trans (show _ ≤ 100000 by omega) (by decide)
/-- the cut pieces of a text, as long together as it is -/
theorem cut_two {n : Nat} {z : Str} (h : Tx n z) {k : Int} (h0 : 0 ≤ k) (d : Nat) : Tx n (cutS z none (some k) ++ cutS z (some (k + (d : Int))) none) := by
  refine ⟨?_, fun c hc => ?_⟩
  · rw [toList_app, List.length_append]
    obtain ⟨j, rfl⟩ : ∃ j : Nat, k = (j : Int) := ⟨k.toNat, by omega⟩
    have e1 : (cutS z none (some ((j : Nat) : Int))).cps.toList = (z.cps.toList.drop (HT.sIx z.length 0 none)).take (HT.sIx z.length z.length (some ((j : Nat) : Int)) - HT.sIx z.length 0 none) := by simp [cutS]
    have e2 : (cutS z (some ((j : Int) + (d : Int))) none).cps.toList = (z.cps.toList.drop (HT.sIx z.length 0 (some ((j + d : Nat) : Int)))).take (HT.sIx z.length z.length none - HT.sIx z.length 0 (some ((j + d : Nat) : Int))) := by
      simp [cutS]
    rw [e1, e2, HT.sIx_nat, HT.sIx_nat, HT.sIx_none, HT.sIx_none, str_len]
    have := h.len
    simp only [List.length_take, List.length_drop]
    omega
  · rw [toList_app] at hc
    rcases List.mem_append.mp hc with hc | hc
    · exact (h.cut _ _).ok c hc
    · exact (h.cut _ _).ok c hc
theorem cut_three {n : Nat} {z s : Str} (h : Tx n z) (hs : Tx 1 s) {k : Int} (h0 : 0 ≤ k) (d : Nat) : Tx (n + 1) (cutS z none (some k) ++ s ++ cutS z (some (k + (d : Int))) none) := by
  have h2 := cut_two h h0 d
  have l2 := h2.len
  have ls := hs.len
  refine ⟨?_, fun c hc => ?_⟩
  · rw [toList_app, List.length_append] at l2
    rw [toList_app, toList_app, List.length_append, List.length_append]
    omega
  · rw [toList_app, toList_app] at hc
    rcases List.mem_append.mp hc with hc | hc
    · rcases List.mem_append.mp hc with hc | hc
      · exact (h.cut _ _).ok c hc
      · exact hs.ok c hc
    · exact (h.cut _ _).ok c hc
/-- name = an expression that gives one of some values, making nothing -/
theorem sq_val {te : TE} {i : Nat} {u : TS} {D : Ends} {σ : L2.St} {H : Hp} (Pr : V → Prop) (h : ∀ R : VK, (∀ v, Pr v → R v H) → te σ H R) (k : ∀ v, Pr v → u D (σ.set i (some v)) H) : tSeq (tAsg te (gName i)) u D σ H := h _ k
theorem filter_dig {xs : List Nat} : (xs.filter fun c => !digQ c).isEmpty = xs.all digQ := filter_empty
theorem nxt {D : Ends} {σ : L2.St} {H : Hp} (h : D.nx σ H) : tNext D σ H := h
theorem pow_lt {a b : Nat} {m : Nat} (h : a < 10 ^ b) (hb : b ≤ m) : a < 10 ^ m := Nat.lt_of_lt_of_le h (Nat.pow_le_pow_right (by decide) hb)
/-- if c: .. and what stands behind it, the test's answer known -/
theorem sq_if {c : TT} {t r : TS} {D : Ends} {σ : L2.St} {H : Hp} (b : Bool) (h : ∀ R : Bool → Hp → Prop, R b H → c σ H R) (ht : b = true → t { D with nx := r D } σ H) (hu : b = false → r D σ H) : tSeq (tIfS c t tNext) r D σ H := by
  refine h _ ?_
  cases b with
  | true => exact iteT (ht rfl)
  | false => exact iteF (hu rfl)
theorem numT_lt {cs : List Nat} {n : Int} (h : numT cs = some n) : n.natAbs < 10 ^ 30 := by
  unfold numT at h
  split at h
  · rename_i hl
    split at h
    · rename_i hd
      split at h
      · cases h
      · injection h with h
        have := pow_lt (digits_lt (all_digits hd)) hl.2
        split at h <;> omega
    · cases h
  · cases h
theorem log_lt {n : Nat} (h : n < 10 ^ 30) : n.log2 < 1920 := by
  by_cases h0 : n = 0
  · subst h0
    decide
  · have : n < 2 ^ 1920 := Nat.lt_of_lt_of_le h (by decide)
    exact (Nat.log2_lt h0).mpr this
theorem res_text (v : V) : ∃ d : PyData, (∀ (K : PySem.W.Frag) (H : Hp), Dp K H (resV v) d) ∧ d.showable = true ∧ d.depth ≤ 50 ∧ d.shown.length ≤ sizeLine := by
  have none' : ∃ d : PyData, (∀ (K : PySem.W.Frag) (H : Hp), Dp K H .non d) ∧ d.showable = true ∧ d.depth ≤ 50 ∧ d.shown.length ≤ sizeLine := ⟨.none, fun _ _ => .non, by decide +kernel, by decide +kernel, by decide +kernel⟩
  cases v with
  | str z =>
    show ∃ d : PyData, (∀ (K : PySem.W.Frag) (H : Hp), Dp K H (optV (numT z.cps.toList)) d) ∧ _
    cases e : numT z.cps.toList with
    | none => exact none'
    | some n =>
      have hb := log_lt (numT_lt e)
      refine ⟨.int n, fun _ _ => .int n, ?_, by simp [PyData.depth], ?_⟩
      · simp only [PyData.showable]
        exact decide_eq_true hb
      · simp only [PyData.shown]
        exact int_text_fits hb
  | _ => exact none'
theorem char_lt (c : Char) : c.toNat < 1114112 := by
  have h := c.valid
  have e : c.toNat = c.val.toNat := rfl
  rw [e]
  rcases h with h | ⟨_, h⟩
  · have h' : c.val.toNat < 55296 := h
    omega
  · exact h
theorem tx_of (s : String) : Tx s.length (Str.ofString s) := by
  refine ⟨?_, fun c hc => ?_⟩
  · rw [← str_len, PySem.ofString_length]
    exact Nat.le_refl _
  · rw [Str.ofString_eq_toList] at hc
    simp only [List.toList_toArray] at hc
    obtain ⟨d, _, rfl⟩ := List.mem_map.mp hc
    exact char_lt d
theorem tx_int {i : Int} (h : i.natAbs < 10 ^ 30) : Tx 31 (Str.ofString (toString i)) := (tx_of _).mono (int_text_length_le10 (by decide) h)
end Vg
namespace My
open PySem PySem.Spec PyProof.Rows L2 Vg
def top (i : Nat) : Stmt := PySem.Challenge.pw_termstream_k02_numbers_in_texts.main.body.getD i (.Pass ⟨0, 0, 0, 0⟩)
abbrev s_number_of : Stmt := top 2
abbrev s_law_cell : Stmt := top 4
abbrev s_law_purse : Stmt := top 5
abbrev s_law_take : Stmt := top 6
abbrev s_law_odd : Stmt := top 7
abbrev s_law_near : Stmt := top 8
abbrev s_law_whole : Stmt := top 9
abbrev s_law_common : Stmt := top 10
abbrev s_law_due : Stmt := top 11
abbrev s_law : Stmt := top 12
abbrev N_number_of : List Str := ["text", "figures", "sign"]
theorem sc_number_of : FnScope N_number_of ["text"] (defScope s_number_of) := ⟨rfl, rfl, rfl, by decide +kernel, rfl, by decide +kernel, by decide +kernel⟩
abbrev N_law_cell : List Str := ["_law_script", "_law_k"]
theorem sc_law_cell : FnScope N_law_cell ["_law_script", "_law_k"] (defScope s_law_cell) := ⟨rfl, rfl, rfl, by decide +kernel, rfl, by decide +kernel, by decide +kernel⟩
abbrev N_law_purse : List Str := ["_law_cell_here"]
theorem sc_law_purse : FnScope N_law_purse ["_law_cell_here"] (defScope s_law_purse) := ⟨rfl, rfl, rfl, by decide +kernel, rfl, by decide +kernel, by decide +kernel⟩
abbrev N_law_take : List Str := ["_law_purse_here", "_law_many", "_law_digit", "_law_one", "_law_other"]
theorem sc_law_take : FnScope N_law_take ["_law_purse_here", "_law_many"] (defScope s_law_take) := ⟨rfl, rfl, rfl, by decide +kernel, rfl, by decide +kernel, by decide +kernel⟩
abbrev N_law_odd : List Str := ["_law_purse_here", "_law_some"]
theorem sc_law_odd : FnScope N_law_odd ["_law_purse_here"] (defScope s_law_odd) := ⟨rfl, rfl, rfl, by decide +kernel, rfl, by decide +kernel, by decide +kernel⟩
abbrev N_law_near : List Str := ["_law_purse_here", "_law_text", "_law_signs", "_law_turn", "_law_at", "_law_way", "_law_sign"]
theorem sc_law_near : FnScope N_law_near ["_law_purse_here", "_law_text"] (defScope s_law_near) := ⟨rfl, rfl, rfl, by decide +kernel, rfl, by decide +kernel, by decide +kernel⟩
abbrev N_law_whole : List Str := ["_law_purse_here", "_law_some", "_law_found"]
theorem sc_law_whole : FnScope N_law_whole ["_law_purse_here"] (defScope s_law_whole) := ⟨rfl, rfl, rfl, by decide +kernel, rfl, by decide +kernel, by decide +kernel⟩
abbrev N_law_common : List Str := ["_law_one", "_law_other"]
theorem sc_law_common : FnScope N_law_common ["_law_one", "_law_other"] (defScope s_law_common) := ⟨rfl, rfl, rfl, by decide +kernel, rfl, by decide +kernel, by decide +kernel⟩
abbrev N_law_due : List Str := ["_law_thing", "_law_text", "_law_total", "_law_sign"]
theorem sc_law_due : FnScope N_law_due ["_law_thing"] (defScope s_law_due) := ⟨rfl, rfl, rfl, by decide +kernel, rfl, by decide +kernel, by decide +kernel⟩
abbrev N_law : List Str := ["_law_script", "_law_k", "_law_purse_here", "_law_text", "_law_long", "_law_ahead", "_law_thing"]
theorem sc_law : FnScope N_law ["_law_script"] (defScope s_law) := ⟨rfl, rfl, rfl, by decide +kernel, rfl, by decide +kernel, by decide +kernel⟩
structure Txt (K : PySem.W.Frag) (mg : Str → Option Value) : Prop where
  d_number_of : At K mg "number_of" s_number_of
  d_law_cell : At K mg "_law_cell" s_law_cell
  d_law_purse : At K mg "_law_purse" s_law_purse
  d_law_take : At K mg "_law_take" s_law_take
  d_law_odd : At K mg "_law_odd" s_law_odd
  d_law_near : At K mg "_law_near" s_law_near
  d_law_whole : At K mg "_law_whole" s_law_whole
  d_law_common : At K mg "_law_common" s_law_common
  d_law_due : At K mg "_law_due" s_law_due
  d_law : At K mg "law" s_law
  n_int : mg "int" = none
  n_isinstance : mg "isinstance" = none
  n_str : mg "str" = none
  n_all : mg "all" = none
  n_len : mg "len" = none
  n_max : mg "max" = none
  n_range : mg "range" = none
  n_abs : mg "abs" = none
  n_min : mg "min" = none
  n_repr : mg "repr" = none
  c_MOST_FIGURES : ∃ t, mg "MOST_FIGURES" = some (.int 30 t)
/-- the things of other kinds, one of which is drawn -/
def oddD : List PyData := [.none, .bool true, .bool false, .int (0), .int (-1), .int (7), .int (100000000000000000000000000000), .int (-100000000000000000000000000000), .str "", .str "a", .str "7", .str "-3/7", .str "3;7", .str "floor", .list [], .list [.int (1)], .list [.str "a"], .tuple [], .tuple [.int (1)], .tuple [.int (3), .int (7)], .tuple [.int (4), .int (2)], .tuple [.int (3), .int (0)], .tuple [.int (3), .int (-7)], .tuple [.bool true, .int (2)], .list [.int (3), .int (7)], .tuple [.int (3), .int (7), .int (1)], .dict [], .dict [(.str "a", .int (1))], .dict [(.int (7), .none)], .list [.list [.list [.list [.list [.str "a"]]]]], .tuple [.tuple [.int (1), .int (0)], .tuple [.int (0), .int (1)]]]
section
variable {P : Program} {w : World} {K : PySem.W.Frag} {mg : Str → Option Value} {base : Heap}
theorem ok_take (T : Txt K mg) : Fn P w K mg base 1 "_law_take" ["_law_purse_here", "_law_many"] spTake := by
  refine T.d_law_take.fn sc_law_take (fun _ _ _ _ _ _ us hl => match us, hl with | [_, _], _ => rfl) ?_ ?_
  · rintro vs H Q E ⟨p, m, n, rfl, _⟩
    rfl
  · rintro f cdv A outer s H vs Q E hr ⟨p, m, n, rfl, hm, hm2, ⟨l, hp, a, b, c, rfl, ha, hb, hb2, hc, hcn⟩, k⟩
    refine ⟨_, (pss_cons (ps_if (pt_cmpR op_gt (pe_ix ix_list (pv 0) pe_int (fun _ _ => rfl)) pe_int (nomark _)) (pss_cons (ps_set (i := 2) sc_law_take.nd rfl (Or.inl rfl) (pe_op op_mod (pe_ix ix_list (pv 0) pe_int (fun _ _ => rfl)) (pv 1)))
 (pss_cons (ps_asg (pe_op op_fdivW (pe_ix ix_list (pv 0) pe_int (fun _ _ => rfl)) (pv 1)) (pg_sub (pv 0) pe_int set_list))
 (pss_one (ps_ret (pv 2))))) pss_nil)
 (pss_cons (ps_asg (pe_op op_add (pe_ix ix_list (pv 0) pe_int (fun _ _ => rfl)) pe_int) (pg_sub (pv 0) pe_int set_list))
 (pss_cons (ps_set (i := 3) sc_law_take.nd rfl (Or.inl rfl) (pe_op op_mod (pe_op op_pow (pe_op op_add (pe_op op_add (pe_ix ix_list (pv 0) pe_int (fun _ _ => rfl)) (pe_op op_mulW pe_int (pe_ix ix_list (pv 0) pe_int (fun _ _ => rfl)))) pe_int) pe_int) pe_int))
 (pss_cons (ps_set (i := 4) sc_law_take.nd rfl (Or.inl rfl) (pe_op op_mod (pe_op op_pow (pe_op op_add (pe_op op_add (pe_op op_fdivW (pv 3) pe_int) (pe_op op_mulW (pe_op op_mulW pe_int (pe_ix ix_list (pv 0) pe_int (fun _ _ => rfl))) (pe_ix ix_list (pv 0) pe_int (fun _ _ => rfl)))) pe_int) pe_int) pe_int))
 (pss_one (ps_ret (pe_op op_mod (pe_op op_add (pe_op op_fdivW (pv 3) pe_int) (pe_op op_mulW pe_int (pe_op op_fdivW (pv 4) pe_int))) (pv 1)))))))), ?_⟩
    refine ⟨_, rfl, p, _, _, _, rfl, rfl, SqL.of hp, rfl, _, _, rfl, rfl, _, rfl, ?_⟩
    by_cases h0 : 0 < a
    · rw [decide_eq_true h0]
      refine iteT ?_
      refine ⟨_, rfl, p, _, _, _, rfl, rfl, SqL.of hp, rfl, _, rfl, _, _, rfl, rfl, hm, ?_⟩
      refine ⟨_, rfl, p, _, _, _, rfl, rfl, SqL.of hp, rfl, _, rfl, _, _, rfl, rfl, wide_div hm hm2 (by decide) (by decide), ?_⟩
      refine ⟨_, rfl, p, _, _, 0, rfl, rfl, hp, rfl, ?_⟩
      refine ⟨_, rfl, ?_⟩
      exact k _ _ (Int.emod_nonneg _ (by omega)) (Int.emod_lt_of_pos _ hm) ⟨a / m, b, c, rfl, Int.ediv_nonneg ha (by omega), hb, hb2, hc, by omega⟩
    · rw [decide_eq_false h0]
      refine iteF ?_
      refine ⟨_, rfl, p, _, _, _, rfl, rfl, SqL.of hp, rfl, _, _, rfl, rfl, ?_⟩
      refine ⟨_, rfl, p, _, _, 2, rfl, rfl, hp, rfl, ?_⟩
      refine ⟨_, rfl, p, _, _, _, rfl, rfl, SqL.of upd_same, rfl, _, rfl, p, _, _, _, rfl, rfl, SqL.of upd_same, rfl, _, _, rfl, rfl, ?_, ?_⟩
      · exact wide_mul (a := 64) (b := 64) (by decide) (by omega) (by decide) (by decide) (by decide)
      refine ⟨_, _, rfl, rfl, _, _, rfl, rfl, _, _, rfl, rfl, ?_, ?_⟩
      · exact take_pow (by omega) (by omega) (by decide) (by decide)
      refine ⟨_, _, rfl, rfl, (by show (0 : Int) < 2147483647; decide), ?_⟩
      have y0 := Int.emod_nonneg ((b + 7919 * (c + 1) + 13) ^ Int.toNat 5) (show (2147483647 : Int) ≠ 0 by decide)
      have y1 := Int.emod_lt_of_pos ((b + 7919 * (c + 1) + 13) ^ Int.toNat 5) (show (0 : Int) < 2147483647 by decide)
      refine ⟨_, rfl, _, _, rfl, rfl, ?_, ?_⟩
      · exact wide_div (b := 64) (by decide) (by decide) (by decide) (by decide)
      refine ⟨_, rfl, p, _, _, _, rfl, rfl, SqL.of upd_same, rfl, _, _, rfl, rfl, ?_, ?_⟩
      · exact wide_mul (a := 64) (b := 64) (by decide) (by omega) (by decide) (by decide) (by decide)
      refine ⟨_, rfl, p, _, _, _, rfl, rfl, SqL.of upd_same, rfl, _, _, rfl, rfl, ?_, ?_⟩
      · exact wide_mul (a := 64) (b := 64) (by show (104729 * (c + 1)).natAbs < 2 ^ 64; omega) (by omega) (by decide) (by decide) (by decide)
      refine ⟨_, _, rfl, rfl, _, _, rfl, rfl, _, _, rfl, rfl, ?_, ?_⟩
      · have z1 : 104729 * (c + 1) * (c + 1) ≤ 104729 * 100000 * 100000 := Int.mul_le_mul (by omega) (by omega) (by omega) (by omega)
        have z0 : 0 ≤ 104729 * (c + 1) * (c + 1) := Int.mul_nonneg (by omega) (by omega)
        refine take_pow ?_ ?_ (by decide) (by decide)
        · show 0 ≤ (b + 7919 * (c + 1) + 13) ^ Int.toNat 5 % 2147483647 / 8 + 104729 * (c + 1) * (c + 1) + 3
          omega
        · show (b + 7919 * (c + 1) + 13) ^ Int.toNat 5 % 2147483647 / 8 + 104729 * (c + 1) * (c + 1) + 3 < 18446744073709551616
          omega
      refine ⟨_, _, rfl, rfl, (by show (0 : Int) < 2147483587; decide), ?_⟩
      refine ⟨_, rfl, _, _, rfl, rfl, ?_, ?_⟩
      · exact wide_div (b := 64) (by decide) (by decide) (by decide) (by decide)
      refine ⟨_, rfl, _, _, rfl, rfl, ?_, ?_⟩
      · exact wide_div (b := 64) (by decide) (by decide) (by decide) (by decide)
      refine ⟨_, _, rfl, rfl, ?_, _, _, rfl, rfl, _, rfl, _, _, rfl, rfl, hm, ?_⟩
      · generalize hg : ((b + 7919 * (c + 1) + 13) ^ Int.toNat 5 % 2147483647 / 8 + 104729 * (c + 1) * (c + 1) + 3) ^ Int.toNat 3 = g
        have v0 := Int.emod_nonneg g (show (2147483587 : Int) ≠ 0 by decide)
        have v1 := Int.emod_lt_of_pos g (show (0 : Int) < 2147483587 by decide)
        refine wide_mul (a := 64) (b := 64) (by decide) ?_ (by decide) (by decide) (by decide)
        omega
      exact k _ _ (Int.emod_nonneg _ (by omega)) (Int.emod_lt_of_pos _ hm) ⟨a, b, c + 1, rfl, ha, hb, hb2, by omega, by omega⟩
theorem ok_cell (T : Txt K mg) : Fn P w K mg base 1 "_law_cell" ["_law_script", "_law_k"] (spCell K) := by
  refine T.d_law_cell.fn sc_law_cell (fun _ _ _ _ _ _ us hl => match us, hl with | [_, _], _ => rfl) ?_ ?_
  · rintro vs H Q E ⟨a, ns, k, rfl, _⟩
    rfl
  · rintro f cdv A outer s H vs Q E hr ⟨a, ns, k, rfl, hS, hk0, hk1, q⟩
    refine ⟨_, (pss_cons (ps_if (pt_cmpR op_lt (pv 1) (pe_callB call_len_seq (by rfl) T.n_len PySem.boot_len (pa_cons (pv 0) pa_nil)) (nomark _)) (pss_one (ps_ret (pe_ix ix_list (pv 0) (pv 1) (fun _ _ => rfl)))) pss_nil)
 (pss_one (ps_ret (pe_op op_add (pe_op op_mulW pe_int (pv 1)) pe_int)))), ?_⟩
    refine ⟨_, rfl, _, rfl, a, _, rfl, .inl hS, _, _, rfl, rfl, _, rfl, ?_⟩
    by_cases h : k < (ns.map V.int).length
    · rw [decide_eq_true h]
      refine iteT ?_
      obtain ⟨j, rfl⟩ : ∃ j : Nat, k = (j : Int) := ⟨k.toNat, by omega⟩
      have hj : j < ns.length := by rw [List.length_map] at h; omega
      refine ⟨_, rfl, _, rfl, a, _, _, _, rfl, rfl, hS, atI_nat (v := .int ns[j]) (by rw [List.getElem?_map, List.getElem?_eq_getElem hj]; rfl), ?_⟩
      exact q _
    · rw [decide_eq_false h]
      refine iteF ?_
      refine ⟨_, rfl, _, _, rfl, rfl, wide_mul (a := 64) (b := 64) (by decide) (by omega) (by decide) (by decide) (by decide), _, _, rfl, rfl, ?_⟩
      exact q _
theorem ok_purse (T : Txt K mg) : Fn P w K mg base 1 "_law_purse" ["_law_cell_here"] spPurse := by
  refine T.d_law_purse.fn sc_law_purse (fun _ _ _ _ _ _ us hl => match us, hl with | [_], _ => rfl) ?_ ?_
  · rintro vs H Q E ⟨z, rfl, _⟩
    rfl
  · rintro f cdv A outer s H vs Q E hr ⟨z, rfl, q⟩
    refine ⟨_, (pss_one (ps_ret (pe_lst (pa_cons (pe_callB (call_max2 rfl) (by rfl) T.n_max (by decide +kernel) (pa_cons pe_int (pa_cons (pe_op op_sub (pv 0) (pe_op op_pow pe_int pe_int)) pa_nil))) (pa_cons (pe_op op_mod (pv 0) pe_int) (pa_cons pe_int pa_nil)))))), ?_⟩
    refine ⟨_, rfl, _, _, rfl, rfl, (by show (0 : Int) ≤ 18 ∧ (18 : Int) ≤ 1000000 ∧ (10 : Int).natAbs < 2 ^ 64; decide), _, _, rfl, rfl, _, _, rfl, _, rfl, _, _, rfl, rfl, (by show (0 : Int) < 2147483629; decide), (by show 3 ≤ sizeLine; decide), ?_⟩
    intro p hp
    refine q p _ hp ⟨_, _, _, rfl, ?_, Int.emod_nonneg _ (by decide), Int.emod_lt_of_pos _ (by decide), by decide, by decide⟩
    split <;> omega
theorem ok_odd (T : Txt K mg) : Fn P w K mg base 2 "_law_odd" ["_law_purse_here"] (spOdd oddD) := by
  refine T.d_law_odd.fn sc_law_odd (fun _ _ _ _ _ _ us hl => match us, hl with | [_], _ => rfl) ?_ ?_
  · rintro vs H Q E ⟨p, n, rfl, _⟩
    rfl
  · rintro f cdv A outer s H vs Q E hr ⟨p, n, rfl, hp, q⟩
    have F_law_take : Fn P w K mg base 1 "_law_take" ["_law_purse_here", "_law_many"] spTake := ok_take T
    refine ⟨_, (pss_cons (ps_set (i := 1) sc_law_odd.nd rfl (Or.inl rfl) (pe_lst (pa_cons pe_non (pa_cons pe_bl (pa_cons pe_bl (pa_cons pe_int (pa_cons (pe_un un_neg pe_int) (pa_cons pe_int (pa_cons (pe_op op_pow pe_int pe_int) (pa_cons (pe_un un_neg (pe_op op_pow pe_int pe_int)) (pa_cons pe_str (pa_cons pe_str (pa_cons pe_str (pa_cons pe_str (pa_cons pe_str (pa_cons pe_str (pa_cons (pe_lst pa_nil) (pa_cons (pe_lst (pa_cons pe_int pa_nil)) (pa_cons (pe_lst (pa_cons pe_str pa_nil)) pa_nil)))))))))))))))))))
 (pss_cons (ps_set (i := 1) sc_law_odd.nd rfl (Or.inl rfl) (pe_op op_cat (pv 1) (pe_lst (pa_cons (pe_tup pa_nil) (pa_cons (pe_tup (pa_cons pe_int pa_nil)) (pa_cons (pe_tup (pa_cons pe_int (pa_cons pe_int pa_nil))) (pa_cons (pe_tup (pa_cons pe_int (pa_cons pe_int pa_nil))) (pa_cons (pe_tup (pa_cons pe_int (pa_cons pe_int pa_nil))) (pa_cons (pe_tup (pa_cons pe_int (pa_cons (pe_un un_neg pe_int) pa_nil))) (pa_cons (pe_tup (pa_cons pe_bl (pa_cons pe_int pa_nil))) (pa_cons (pe_lst (pa_cons pe_int (pa_cons pe_int pa_nil))) (pa_cons (pe_tup (pa_cons pe_int (pa_cons pe_int (pa_cons pe_int pa_nil)))) (pa_cons pe_dnewK (pa_cons (pe_disp (pps_cons pe_str pe_int pps_nil) (by rfl) (by rfl) (fun z => by cases z) (by decide)) (pa_cons (pe_disp (pps_cons pe_int pe_non pps_nil) (by rfl) (by rfl) (fun z => by cases z) (by decide)) pa_nil)))))))))))))))
 (pss_one (ps_ret (pe_ix ix_list (pe_op op_cat (pv 1) (pe_lst (pa_cons (pe_lst (pa_cons (pe_lst (pa_cons (pe_lst (pa_cons (pe_lst (pa_cons (pe_lst (pa_cons pe_str pa_nil)) pa_nil)) pa_nil)) pa_nil)) pa_nil)) (pa_cons (pe_tup (pa_cons (pe_tup (pa_cons pe_int (pa_cons pe_int pa_nil))) (pa_cons (pe_tup (pa_cons pe_int (pa_cons pe_int pa_nil))) pa_nil))) pa_nil)))) (pe_fn F_law_take (hr.mono (by decide)) rfl pass0 (pa_cons (pv 0) (pa_cons pe_int pa_nil))) (fun _ _ => rfl)))))), ?_⟩
    refine sq_set (mk_lst (mkl_cons mk_non (mkl_cons (mk_bl _) (mkl_cons (mk_bl _) (mkl_cons (mk_int _) (mkl_cons (mk_of (mki_neg (mki_c _))) (mkl_cons (mk_int _) (mkl_cons (mk_of (mki_pow (mki_c _) (mki_c _))) (mkl_cons (mk_of (mki_neg (mki_pow (mki_c _) (mki_c _)))) (mkl_cons (mk_str _) (mkl_cons (mk_str _) (mkl_cons (mk_str _) (mkl_cons (mk_str _) (mkl_cons (mk_str _) (mkl_cons (mk_str _) (mkl_cons (mk_lst mkl_nil) (mkl_cons (mk_lst (mkl_cons (mk_int _) mkl_nil)) (mkl_cons (mk_lst (mkl_cons (mk_str _) mkl_nil)) mkl_nil)))))))))))))))))) ?_
    intro v1 H1 s1 r1
    cases r1 with
    | @lst a1 xs1 _ o1 h1 d1 =>
    refine mk_cat (mk_lst (mkl_cons (mk_tup mkl_nil) (mkl_cons (mk_tup (mkl_cons (mk_int _) mkl_nil)) (mkl_cons (mk_tup (mkl_cons (mk_int _) (mkl_cons (mk_int _) mkl_nil))) (mkl_cons (mk_tup (mkl_cons (mk_int _) (mkl_cons (mk_int _) mkl_nil))) (mkl_cons (mk_tup (mkl_cons (mk_int _) (mkl_cons (mk_int _) mkl_nil))) (mkl_cons (mk_tup (mkl_cons (mk_int _) (mkl_cons (mk_of (mki_neg (mki_c _))) mkl_nil))) (mkl_cons (mk_tup (mkl_cons (mk_bl _) (mkl_cons (mk_int _) mkl_nil))) (mkl_cons (mk_lst (mkl_cons (mk_int _) (mkl_cons (mk_int _) mkl_nil))) (mkl_cons (mk_tup (mkl_cons (mk_int _) (mkl_cons (mk_int _) (mkl_cons (mk_int _) mkl_nil)))) (mkl_cons mk_dct0 (mkl_cons (mk_dct1 (.inr "a") (mk_int _)) (mkl_cons (mk_dct1 (.inl 7) mk_non) mkl_nil))))))))))))) rfl h1 d1 (by decide) (fun b hb => s1.free hb) ?_
    intro a3 ys3 H3 s3 n3 h3 d3
    refine mk_cat (mk_lst (mkl_cons (mk_lst (mkl_cons (mk_lst (mkl_cons (mk_lst (mkl_cons (mk_lst (mkl_cons (mk_lst (mkl_cons (mk_str _) mkl_nil)) mkl_nil)) mkl_nil)) mkl_nil)) mkl_nil)) (mkl_cons (mk_tup (mkl_cons (mk_tup (mkl_cons (mk_int _) (mkl_cons (mk_int _) mkl_nil))) (mkl_cons (mk_tup (mkl_cons (mk_int _) (mkl_cons (mk_int _) mkl_nil))) mkl_nil))) mkl_nil))) rfl h3 d3 (by decide) (fun b hb => s1.free (s3.free hb)) ?_
    intro a5 ys5 H5 s5 n5 h5 all
    have t5 : Same H H5 := (s1.trans s3).trans s5
    obtain ⟨l0, hp0, hl0⟩ := id hp
    refine ⟨_, rfl, p, 31, n, rfl, by decide, by decide, hp.same t5, fun r l r0 r1 hl => ?_⟩
    obtain ⟨j, rfl⟩ : ∃ j : Nat, r = (j : Int) := ⟨r.toNat, by omega⟩
    have hj : j < oddD.length := by show j < 31; omega
    obtain ⟨v, hv, dv⟩ := all.get (List.getElem?_eq_getElem hj)
    have n5p : a5 ≠ p := (ne_of_none ((s1.trans s3) _ _ hp0) n5).symm
    refine ⟨a5, _, _, v, rfl, rfl, SqL.of (by rw [upd_ne n5p]; exact h5), atI_nat hv, ?_⟩
    refine q v _ _ (List.getElem_mem hj) ?_ (Pz.upd hl) (dv.mono (fun a o ho e => ?_) fun a o ho _ => ho)
    · exact (But.of t5).trans But.upd
    · have na : a ≠ p := fun z => by rw [z, hp0] at ho; cases ho
      rw [upd_ne na]
      exact e
theorem ok_whole (T : Txt K mg) : Fn P w K mg base 2 "_law_whole" ["_law_purse_here"] spWhole := by
  refine T.d_law_whole.fn sc_law_whole (fun _ _ _ _ _ _ us hl => match us, hl with | [_], _ => rfl) ?_ ?_
  · rintro vs H Q E ⟨p, n, rfl, _⟩
    rfl
  · rintro f cdv A outer s H vs Q E hr ⟨p, n, rfl, hp, q⟩
    have F_law_take : Fn P w K mg base 1 "_law_take" ["_law_purse_here", "_law_many"] spTake := ok_take T
    have pw : ∀ {a b : Int}, 0 ≤ b ∧ b ≤ 1000000 ∧ a.natAbs < 2 ^ 64 → CPow a b := fun h => h
    refine ⟨_, (pss_cons (ps_set (i := 1) sc_law_whole.nd rfl (Or.inl rfl) (pe_lst (pa_cons (pe_fn F_law_take (hr.mono (by decide)) rfl pass0 (pa_cons (pv 0) (pa_cons pe_int pa_nil))) (pa_cons (pe_fn F_law_take (hr.mono (by decide)) rfl pass0 (pa_cons (pv 0) (pa_cons pe_int pa_nil))) (pa_cons (pe_fn F_law_take (hr.mono (by decide)) rfl pass0 (pa_cons (pv 0) (pa_cons (pe_op op_pow pe_int pe_int) pa_nil))) pa_nil)))))
 (pss_cons (ps_set (i := 2) sc_law_whole.nd rfl (Or.inl rfl) (pe_ix ix_list (pe_op op_cat (pv 1) (pe_lst (pa_cons (pe_op op_sub (pe_op op_sub (pe_op op_pow pe_int pe_int) pe_int) (pe_fn F_law_take (hr.mono (by decide)) rfl pass0 (pa_cons (pv 0) (pa_cons pe_int pa_nil)))) pa_nil))) (pe_fn F_law_take (hr.mono (by decide)) rfl pass0 (pa_cons (pv 0) (pa_cons pe_int pa_nil))) (fun _ _ => rfl)))
 (pss_one (ps_ret (pe_ix ix_list (pe_lst (pa_cons (pv 2) (pa_cons (pe_un un_neg (pv 2)) pa_nil))) (pe_fn F_law_take (hr.mono (by decide)) rfl pass0 (pa_cons (pv 0) (pa_cons pe_int pa_nil))) (fun _ _ => rfl)))))), ?_⟩
    refine ⟨_, rfl, p, 12, _, rfl, by decide, by decide, hp, fun r1 l1 a1 b1 u1 => ?_⟩
    refine ⟨_, rfl, p, 1000, _, rfl, by decide, by decide, Pz.upd u1, fun r2 l2 a2 b2 u2 => ?_⟩
    refine ⟨_, rfl, _, _, rfl, rfl, pw (by decide), p, 10 ^ 15, _, rfl, by decide, by decide, Pz.upd u2, fun r3 l3 a3 b3 u3 => ?_⟩
    have c3 : But p H (upd (upd (upd H p (.lst l1)) p (.lst l2)) p (.lst l3)) := (But.upd.trans But.upd).trans But.upd
    have z3 := Pz.upd (H := upd (upd H p (.lst l1)) p (.lst l2)) (p := p) u3
    generalize upd (upd (upd H p (.lst l1)) p (.lst l2)) p (.lst l3) = H3 at c3 z3 ⊢
    refine ⟨(by show 3 ≤ sizeLine; decide), fun q1 n1 => ?_⟩
    have np1 := z3.ne n1
    refine ⟨_, rfl, _, _, rfl, rfl, pw (by decide), _, _, rfl, rfl, _, rfl, p, 9, _, rfl, by decide, by decide, z3.new n1, fun r4 l4 a4 b4 u4 => ?_⟩
    refine ⟨_, _, rfl, rfl, (by show 1 ≤ sizeLine; decide), fun q2 n2 => ?_⟩
    have c4 : But p H (upd (upd H3 q1 (.lst [V.int r1, V.int r2, V.int r3])) p (.lst l4)) := (c3.trans (But.new n1)).trans But.upd
    have z4 := Pz.upd (H := upd H3 q1 (.lst [V.int r1, V.int r2, V.int r3])) (p := p) u4
    have e4 : upd (upd H3 q1 (.lst [V.int r1, V.int r2, V.int r3])) p (.lst l4) q1 = some (.lst [V.int r1, V.int r2, V.int r3]) := by rw [upd_ne np1, upd_same]
    have n2' : upd (upd H3 q1 (.lst [V.int r1, V.int r2, V.int r3])) p (.lst l4) q2 = none := n2
    refine ⟨q1, q2, _, _, rfl, rfl, (by rw [upd_ne (ne_of_none e4 n2')]; exact e4), upd_same, (by show 3 + 1 ≤ sizeLine; decide), fun q3 n3 => ?_⟩
    have z5 : Pz (upd (upd (upd H3 q1 (.lst [V.int r1, V.int r2, V.int r3])) p (.lst l4)) q2 (.lst [V.int (10 ^ Int.toNat 30 - 1 - r4)])) p _ := z4.new n2'
    have c5 : But p H (upd (upd (upd H3 q1 (.lst [V.int r1, V.int r2, V.int r3])) p (.lst l4)) q2 (.lst [V.int (10 ^ Int.toNat 30 - 1 - r4)])) := c4.trans (But.new n2')
    have n3' : upd (upd (upd H3 q1 (.lst [V.int r1, V.int r2, V.int r3])) p (.lst l4)) q2 (.lst [V.int (10 ^ Int.toNat 30 - 1 - r4)]) q3 = none := n3
    refine ⟨_, rfl, p, 4, _, rfl, by decide, by decide, z5.new n3', fun r5 l5 a5 b5 u5 => ?_⟩
    have np3 := z5.ne n3'
    obtain ⟨z, hz, hat⟩ := pickI (zs := [r1, r2, r3, 10 ^ Int.toNat 30 - 1 - r4]) a5 b5
    have hb : z.natAbs < 10 ^ 30 := by
      have e30 : (10 : Int) ^ Int.toNat 30 = 1000000000000000000000000000000 := by decide
      have b3' : r3 < 1000000000000000 := b3
      rw [e30] at hz
      simp only [List.mem_cons, List.not_mem_nil, or_false] at hz
      rcases hz with rfl | rfl | rfl | rfl <;> omega
    refine ⟨q3, _, _, _, rfl, rfl, SqL.of (by rw [upd_ne np3]; exact upd_same), hat, ?_⟩
    refine ⟨_, rfl, _, rfl, _, rfl, (by show 2 ≤ sizeLine; decide), fun q4 n4 => ?_⟩
    have z6 := Pz.upd (H := upd (upd (upd (upd H3 q1 (.lst [V.int r1, V.int r2, V.int r3])) p (.lst l4)) q2 (.lst [V.int (10 ^ Int.toNat 30 - 1 - r4)])) q3 (.lst ([V.int r1, V.int r2, V.int r3] ++ [V.int (10 ^ Int.toNat 30 - 1 - r4)]))) (p := p) u5
    have c6 : But p H (upd (upd (upd (upd (upd H3 q1 (.lst [V.int r1, V.int r2, V.int r3])) p (.lst l4)) q2 (.lst [V.int (10 ^ Int.toNat 30 - 1 - r4)])) q3 (.lst ([V.int r1, V.int r2, V.int r3] ++ [V.int (10 ^ Int.toNat 30 - 1 - r4)]))) p (.lst l5)) := (c5.trans (But.new n3')).trans But.upd
    have np4 := z6.ne n4
    refine ⟨_, rfl, p, 2, n, rfl, by decide, by decide, (z6.new n4).mono (by omega), fun r6 l6 a6 b6 u6 => ?_⟩
    obtain ⟨y, hy, hat2⟩ := pickI (zs := [z, -z]) a6 b6
    refine ⟨q4, _, _, _, rfl, rfl, SqL.of (by rw [upd_ne np4]; exact upd_same), hat2, ?_⟩
    refine q y _ ?_ ((c6.trans (But.new n4)).trans But.upd) (Pz.upd u6)
    simp only [List.mem_cons, List.not_mem_nil, or_false] at hy
    rcases hy with rfl | rfl <;> omega
end
end My
namespace My
open PySem PySem.Spec PyProof.Rows L2 Vg
section
variable {P : Program} {w : World} {K : PySem.W.Frag} {mg : Str → Option Value} {base : Heap}
theorem ok_number_of (T : Txt K mg) : Fn P w K mg base 1 "number_of" ["text"] (spNumOf K) := by
  refine T.d_number_of.fn sc_number_of (fun _ _ _ _ _ _ us hl => match us, hl with | [_], _ => rfl) ?_ ?_
  · rintro vs H Q E ⟨v, n, rfl, _⟩
    rfl
  · rintro f cdv A outer s H vs Q E hr ⟨v, n, rfl, tn, hz, q⟩
    refine ⟨_, (pss_cons (ps_if (pt_not (pt_val (pe_callB cr_isi (by rfl) T.n_isinstance (by decide +kernel) (pa_cons (pv 0) (pa_cons (pe_bltn (v := .ty "str") (by rfl) T.n_str (by decide +kernel) rfl) pa_nil))))) (pss_one (ps_ret pe_non)) pss_nil)
 (pss_cons (ps_set (i := 1) sc_number_of.nd rfl (Or.inl rfl) (pe_m1 PySem.F.slot_str_removeprefix PySem.F.type_str_removeprefix mt_removeprefix (pv 0) pe_str))
 (pss_cons (ps_if (pt_not (pt_chain op_le op_le pe_int (pe_callB call_len_str (by rfl) T.n_len PySem.boot_len (pa_cons (pv 1) pa_nil)) (pe_glob (v := .int 30) rfl T.c_MOST_FIGURES.choose_spec ⟨_, rfl⟩))) (pss_one (ps_ret pe_non)) pss_nil)
 (pss_cons (ps_if (pt_not (pt_val (pe_callB (cr_all rfl) (by rfl) T.n_all (by decide +kernel) (pa_cons (pe_lc (own := [("sign", 2)]) (g := gName 2) (by rfl) sc_number_of.nd (pi_str (pv 1)) (blkOk_by (own := [("sign", 2)]) (N := N_number_of) (sc := defScope s_number_of) (by decide +kernel)) (fun _ _ _ _ _ => pg_name (i := 2) sc_number_of.nd rfl (Or.inl rfl)) (fun _ _ _ _ _ => pts_nil) (fun _ _ _ _ _ => (pe_chain op_le_str op_le_str pe_str (pv 2) pe_str))) pa_nil)))) (pss_one (ps_ret pe_non)) pss_nil)
 (pss_cons (ps_if (PW.pt (pw_and (pt_cmpR op_eq (pe_ix ix_str (pv 1) pe_int (fun _ _ => rfl)) pe_str (nomark _)) (pw_and1 (pt_cmpR op_ne (pv 0) pe_str (nomark _))))) (pss_one (ps_ret pe_non)) pss_nil)
 (pss_one (ps_ret (pe_callTy call_int_str (by rfl) T.n_int (by decide +kernel) (pa_cons (pv 0) pa_nil))))))))), ?_⟩
    obtain ⟨b, h1, h2, h3⟩ := kit_strV tn
    refine ⟨_, rfl, v, n, _, b, rfl, tn, h1, b, rfl, ?_⟩
    cases b with
    | false =>
      have q' := q H (Same.refl H)
      rw [h3 rfl] at q'
      exact iteT q'
    | true =>
      obtain ⟨z, rfl⟩ := h2 rfl
      obtain ⟨hz1, hz2⟩ := hz z rfl
      have hzs : z.length ≤ sizeLine := Nat.le_trans hz1 (by decide)
      refine iteF ⟨_, rfl, ⟨_, rfl⟩, z, _, rfl, rfl, hzs, ?_⟩
      have eF := prefix_off (z := z)
      generalize Txt.removeprefix z "-" = F at eF ⊢
      have lF : F.length = (figL z.cps.toList).length := by rw [str_len, eF]
      have lz : (figL z.cps.toList).length ≤ z.length := by
        rw [str_len]
        unfold figL
        split
        · rw [List.length_drop]; omega
        · exact Nat.le_refl _
      have hFs : F.length ≤ sizeLine := by rw [lF]; exact Nat.le_trans lz hzs
      have q0 := q H (Same.refl H)
      refine ⟨_, rfl, F, rfl, hFs, _, _, rfl, rfl, _, rfl, ?_⟩
      by_cases ha : (1 : Int) ≤ (F.length : Int)
      · rw [decide_eq_true ha]
        refine iteT ⟨_, _, rfl, rfl, _, rfl, ?_⟩
        by_cases hb : (F.length : Int) ≤ 30
        · rw [decide_eq_true hb]
          have hn : 1 ≤ (figL z.cps.toList).length ∧ (figL z.cps.toList).length ≤ 30 := by omega
          refine iteF ⟨_, rfl, F, rfl, fun D hD => ?_⟩
          refine lc_it walk_str (fun i H' => Same H H' ∧ H' D = some (.lst (((F.cps.toList.take i).map digQ).map V.bl))) ⟨Same.new hD, upd_same⟩ (fun _ _ _ _ => trivial) ?_ ?_
          · rintro i x H1 H2 hi ⟨s1, e1⟩ ⟨rfl, c, hc, rfl⟩
            refine ⟨rfl, lc_keep ?_⟩
            refine ⟨_, rfl, _, _, rfl, rfl, _, rfl, ?_⟩
            have step : ∀ b, b = digQ c → ∃ acc, H2 D = some (.lst acc) ∧ acc.length < sizeLine ∧
                (Same H (upd H2 D (.lst (acc ++ [V.bl b]))) ∧ upd H2 D (.lst (acc ++ [V.bl b])) D = some (.lst (((F.cps.toList.take (i + 1)).map digQ).map V.bl))) := by
              rintro b rfl
              refine ⟨_, e1, ?_, Same.mut s1 hD, ?_⟩
              · rw [List.length_map, List.length_map, List.length_take]
                have h6 : F.cps.size ≤ 30 := by
                  have : F.cps.size = F.length := rfl
                  omega
                exact Nat.lt_of_le_of_lt (Nat.le_trans (Nat.min_le_left _ _) (Nat.le_trans (Nat.le_of_lt hi) h6)) (by decide)
              · rw [upd_same, take_sign hc, List.map_append, List.map_append]
                all_goals rfl
            by_cases h48 : (⟨#[c]⟩ : Str).cps.toList < ("0" : Str).cps.toList
            · rw [decide_eq_true h48]
              refine iteF (step _ ?_)
              unfold digQ
              rw [decide_eq_true h48]
              rfl
            · rw [decide_eq_false h48]
              refine iteT ⟨_, _, rfl, rfl, ?_⟩
              refine step _ ?_
              unfold digQ
              rw [decide_eq_false h48]
              rfl
          · rintro H1 ⟨s1, e1⟩
            rw [take_signs, eF] at e1
            have q1 := q H1 s1
            refine ⟨D, (figL z.cps.toList).map digQ, rfl, SqL.of e1, _, rfl, ?_⟩
            rw [bools_dig]
            cases hd : (figL z.cps.toList).all digQ with
            | false =>
              rw [num_sign hd] at q1
              exact iteT q1
            | true =>
              obtain ⟨c0, hc0, ht⟩ := first_sign (z := F) (by rw [eF]; exact hn.1)
              rw [eF] at ht
              refine iteF ⟨_, rfl, F, _, c0, rfl, rfl, hFs, hc0, rfl, _, rfl, ?_⟩
              have e48 : decide (V.str ⟨#[c0]⟩ = V.str "0") = decide ((figL z.cps.toList).take 1 = [48]) := by
                rw [ht]
                exact decide_eq_decide.mpr (str_eq_iff (by decide +kernel))
              have ez : (!decide (V.str z = V.str "0")) = !decide (z.cps.toList = [48]) := by
                exact congrArg _ (decide_eq_decide.mpr (str_eq_iff (by decide +kernel)))
              have last : ¬ ((figL z.cps.toList).take 1 = [48] ∧ z.cps.toList ≠ [48]) → ∃ a n, [V.str z] = [.str a] ∧ PySem.intText? a = some n ∧ a.length ≤ 640 ∧ Q (.int n) H1 := fun h0 => by
                have hnum := num_is hn hd h0
                obtain ⟨i1, i2⟩ := int_of hnum
                refine ⟨z, _, rfl, i1, i2, ?_⟩
                have er : resV (.str z) = .int (if z.cps.toList.take 1 = [45] then -((NumText.digitsVal (figL z.cps.toList) : Nat) : Int) else ((NumText.digitsVal (figL z.cps.toList) : Nat) : Int)) := by
                  show optV (numT z.cps.toList) = _
                  rw [hnum]
                  rfl
                rw [er] at q1
                exact q1
              rw [e48]
              by_cases h0 : (figL z.cps.toList).take 1 = [48]
              · rw [decide_eq_true h0]
                refine iteT ⟨_, rfl, rfl, _, rfl, ?_⟩
                rw [ez]
                by_cases hz0 : z.cps.toList = [48]
                · rw [decide_eq_true hz0]
                  exact iteF ⟨_, rfl, last fun h => h.2 hz0⟩
                · rw [decide_eq_false hz0]
                  rw [num_zero ⟨h0, hz0⟩] at q1
                  exact iteT q1
              · rw [decide_eq_false h0]
                exact iteF (iteF ⟨_, rfl, last fun h => h0 h.1⟩)
        · rw [decide_eq_false hb]
          rw [num_short (by omega)] at q0
          exact iteT q0
      · rw [decide_eq_false ha]
        rw [num_short (by omega)] at q0
        exact iteF ⟨_, rfl, iteT q0⟩
end
end My
namespace My
open PySem PySem.Spec PyProof.Rows L2 Vg
/-- the signs, one of which is put in -/
def signsS : Str := " !\"#$&'()*+,-./0123456789:;<=>?@ABCZ[\\]^_`abcdefghijklmnopqrstuvwxyz{|}~\n"
theorem signs_len : signsS.length = 73 ∧ (signsS ++ ("0123456789-;,/" : Str)).length = 73 + 14 := by decide +kernel
section
variable {P : Program} {w : World} {K : PySem.W.Frag} {mg : Str → Option Value} {base : Heap}
theorem ok_near (T : Txt K mg) : Fn P w K mg base 2 "_law_near" ["_law_purse_here", "_law_text"] spNear := by
  refine T.d_law_near.fn sc_law_near (fun _ _ _ _ _ _ us hl => match us, hl with | [_, _], _ => rfl) ?_ ?_
  · rintro vs H Q E ⟨p, z, m, n, rfl, _⟩
    rfl
  · rintro f cdv A outer s H vs Q E hr ⟨p, z, m, n, rfl, tx, hm, hp, q⟩
    have F_law_take : Fn P w K mg base 1 "_law_take" ["_law_purse_here", "_law_many"] spTake := ok_take T
    refine ⟨_, (pss_cons (ps_set (i := 2) sc_law_near.nd rfl (Or.inl rfl) pe_str)
 (pss_cons (ps_for PassesOwn.never rfl (pi_range1 (by rfl) T.n_range (pa_cons (pe_op op_add pe_int (pe_fn F_law_take (hr.mono (by decide)) rfl pass0 (pa_cons (pv 0) (pa_cons pe_int pa_nil)))) pa_nil)) (pg_name (i := 3) sc_law_near.nd rfl (Or.inl rfl)) (pss_cons (ps_set (i := 4) sc_law_near.nd rfl (Or.inl rfl) (pe_fn F_law_take (hr.mono (by decide)) rfl pass0 (pa_cons (pv 0) (pa_cons (pe_op op_add (pe_callB call_len_str (by rfl) T.n_len PySem.boot_len (pa_cons (pv 1) pa_nil)) pe_int) pa_nil))))
 (pss_cons (ps_set (i := 5) sc_law_near.nd rfl (Or.inl rfl) (pe_fn F_law_take (hr.mono (by decide)) rfl pass0 (pa_cons (pv 0) (pa_cons pe_int pa_nil))))
 (pss_cons (ps_set (i := 6) sc_law_near.nd rfl (Or.inl rfl) (pe_ix ix_str (pe_op op_add_str (pv 2) pe_str) (pe_fn F_law_take (hr.mono (by decide)) rfl pass0 (pa_cons (pv 0) (pa_cons (pe_op op_add (pe_callB call_len_str (by rfl) T.n_len PySem.boot_len (pa_cons (pv 2) pa_nil)) pe_int) pa_nil))) (fun _ _ => rfl)))
 (pss_cons (ps_if (pt_cmpR op_eq (pv 5) pe_int (nomark _)) (pss_one (ps_set (i := 1) sc_law_near.nd rfl (Or.inl rfl) (pe_op op_add_str (pe_op op_add_str (pe_slice sl_str (pv 1) po_none (po_some (pv 4))) (pv 6)) (pe_slice sl_str (pv 1) (po_some (pv 4)) po_none)))) pss_nil)
 (pss_cons (ps_if (pt_cmpR op_eq (pv 5) pe_int (nomark _)) (pss_one (ps_set (i := 1) sc_law_near.nd rfl (Or.inl rfl) (pe_op op_add_str (pe_slice sl_str (pv 1) po_none (po_some (pv 4))) (pe_slice sl_str (pv 1) (po_some (pe_op op_add (pv 4) pe_int)) po_none)))) pss_nil)
 (pss_one (ps_if (pt_cmpR op_gt (pv 5) pe_int (nomark _)) (pss_one (ps_set (i := 1) sc_law_near.nd rfl (Or.inl rfl) (pe_op op_add_str (pe_op op_add_str (pe_slice sl_str (pv 1) po_none (po_some (pv 4))) (pv 6)) (pe_slice sl_str (pv 1) (po_some (pe_op op_add (pv 4) pe_int)) po_none)))) pss_nil))))))))
 (pss_one (ps_ret (pv 1))))), ?_⟩
    refine ⟨_, rfl, p, 2, _, rfl, by decide, by decide, hp, fun r0 l0 a0 b0 u0 => ?_⟩
    refine ⟨_, _, rfl, rfl, _, rfl, by omega, by omega, ?_⟩
    have z0 := Pz.upd (H := H) (p := p) u0
    have c0 : But p H (upd H p (.lst l0)) := But.upd
    generalize upd H p (.lst l0) = H0 at z0 c0 ⊢
    refine for_range (fun i σ H' => (∃ (y : Str) (w3 w4 w5 w6 : Option V), σ = [some (.ref p), some (.str y), some (.str signsS), w3, w4, w5, w6] ∧ Tx (m + i) y) ∧ But p H H' ∧ Pz H' p (n + 6 - 3 * i)) ?_ ?_ ?_
    · exact ⟨⟨z, none, none, none, none, rfl, tx⟩, c0, z0⟩
    · rintro i σ H1 hi ⟨⟨y, w3, w4, w5, w6, rfl, ty⟩, c1, z1⟩
      have hi2 : i < 2 := by omega
      have ly := ty.length
      have sy := ty.fits (by omega)
      refine ⟨_, rfl, _, rfl, y, rfl, sy, _, _, rfl, rfl, p, (y.length : Int) + 1, n + 6 - 3 * i - 1, rfl, by omega, by omega, z1.mono (by omega), fun r1 l1 a1 b1 u1 => ?_⟩
      refine ⟨_, rfl, p, 4, n + 6 - 3 * i - 2, rfl, by decide, by decide, (Pz.upd u1).mono (by omega), fun r2 l2 a2 b2 u2 => ?_⟩
      have c2 : But p H (upd (upd H1 p (.lst l1)) p (.lst l2)) := (c1.trans But.upd).trans But.upd
      have z2 := Pz.upd (H := upd H1 p (.lst l1)) (p := p) u2
      generalize upd (upd H1 p (.lst l1)) p (.lst l2) = H2 at c2 z2 ⊢
      refine ⟨_, rfl, _, _, rfl, rfl, (by decide +kernel), _, rfl, _, rfl, _, rfl, (by decide +kernel), _, _, rfl, rfl, p, _, n + 6 - 3 * (i + 1), rfl, (by decide +kernel), (by decide +kernel), z2.mono (by omega), fun r3 l3 a3 b3 u3 => ?_⟩
      have c3 : But p H (upd H2 p (.lst l3)) := c2.trans But.upd
      have z3 := Pz.upd (H := H2) (p := p) u3
      generalize upd H2 p (.lst l3) = H3 at c3 z3 ⊢
      obtain ⟨c, hc, hat⟩ := pickS (z := signsS ++ "0123456789-;,/") a3 (by refine Int.lt_of_lt_of_le b3 ?_; decide +kernel) (by decide +kernel)
      refine ⟨_, _, c, rfl, rfl, (by decide +kernel), hat, ?_⟩
      have t1 := Tx.one hc
      have tc : ∀ lo hi, Tx (m + i) (cutS y lo hi) := fun lo hi => ty.cut lo hi
      have ins := cut_three ty t1 a1 0
      have out := cut_two ty a1 1
      have put := cut_three ty t1 a1 1
      have e0 : r1 + ((0 : Nat) : Int) = r1 := by omega
      rw [e0] at ins
      have done : ∀ (x : Str), Tx (m + i + 1) x → ∀ w3 w4 w5 w6, (∃ (y : Str) (w3' w4' w5' w6' : Option V), ([some (.ref p), some (.str x), some (.str signsS), w3, w4, w5, w6] : List (Option V)) = [some (.ref p), some (.str y), some (.str signsS), w3', w4', w5', w6'] ∧ Tx (m + (i + 1)) y) ∧ But p H H3 ∧ Pz H3 p (n + 6 - 3 * (i + 1)) := fun x hx w3 w4 w5 w6 =>
        ⟨⟨x, _, _, _, _, rfl, hx⟩, c3, z3⟩
      have no : ∀ {a b : Int}, a ≠ b → decide (V.int a = V.int b) = false := fun h => decide_eq_false fun e => by injection e with e; exact h e
      have hw : r2 = 0 ∨ r2 = 1 ∨ (r2 ≠ 0 ∧ r2 ≠ 1 ∧ 1 < r2) := by omega
      have f1 := (tc none (some r1)).fits2 t1 (by omega)
      rcases hw with rfl | rfl | ⟨n0, n1, n2⟩
      · refine ⟨_, rfl, rfl, _, rfl, ?_⟩
        rw [decide_eq_true rfl]
        refine iteT ?_
        refine ⟨_, rfl, _, rfl, r1, rfl, y, rfl, sy, _, rfl, _, _, rfl, rfl, f1, _, rfl, _, rfl, r1, rfl, y, rfl, sy, _, _, rfl, rfl, ((tc none (some r1)).app t1).fits2 (tc (some r1) none) (by omega), ?_⟩
        refine ⟨_, rfl, rfl, _, rfl, ?_⟩
        rw [no (by decide)]
        refine iteF ⟨_, rfl, _, _, rfl, rfl, _, rfl, ?_⟩
        rw [decide_eq_false (by decide)]
        exact iteF (done _ ins _ _ _ _)
      · refine ⟨_, rfl, rfl, _, rfl, ?_⟩
        rw [no (by decide)]
        refine iteF ⟨_, rfl, rfl, _, rfl, ?_⟩
        rw [decide_eq_true rfl]
        refine iteT ?_
        refine ⟨_, rfl, _, rfl, r1, rfl, y, rfl, sy, _, rfl, _, rfl, _, _, rfl, rfl, _, rfl, y, rfl, sy, _, _, rfl, rfl, (tc none (some r1)).fits2 (tc (some (r1 + 1)) none) (by omega), ?_⟩
        refine ⟨_, rfl, _, _, rfl, rfl, _, rfl, ?_⟩
        rw [decide_eq_false (by decide)]
        exact iteF (done _ (out.mono (by omega)) _ _ _ _)
      · refine ⟨_, rfl, rfl, _, rfl, ?_⟩
        rw [no n0]
        refine iteF ⟨_, rfl, rfl, _, rfl, ?_⟩
        rw [no n1]
        refine iteF ⟨_, rfl, _, _, rfl, rfl, _, rfl, ?_⟩
        rw [decide_eq_true n2]
        refine iteT ?_
        refine ⟨_, rfl, _, rfl, r1, rfl, y, rfl, sy, _, rfl, _, _, rfl, rfl, f1, _, rfl, _, rfl, _, _, rfl, rfl, _, rfl, y, rfl, sy, _, _, rfl, rfl, ((tc none (some r1)).app t1).fits2 (tc (some (r1 + 1)) none) (by omega), ?_⟩
        exact done _ put _ _ _ _
    · rintro σ H1 ⟨⟨y, w3, w4, w5, w6, rfl, ty⟩, c1, z1⟩
      refine ⟨_, rfl, q y H1 (ty.mono (by omega)) c1 (z1.mono (by omega))⟩
end
end My
namespace My
open PySem PySem.Spec PyProof.Rows L2 Vg
section
variable {P : Program} {w : World} {K : PySem.W.Frag} {mg : Str → Option Value} {base : Heap}
theorem ok_due (T : Txt K mg) : Fn P w K mg base 1 "_law_due" ["_law_thing"] (spNumOf K) := by
  refine T.d_law_due.fn sc_law_due (fun _ _ _ _ _ _ us hl => match us, hl with | [_], _ => rfl) ?_ ?_
  · rintro vs H Q E ⟨v, n, rfl, _⟩
    rfl
  · rintro f cdv A outer s H vs Q E hr ⟨v, n, rfl, tn, hz, q⟩
    refine ⟨_, (pss_cons (ps_if (pt_not (pt_val (pe_callB cr_isi (by rfl) T.n_isinstance (by decide +kernel) (pa_cons (pv 0) (pa_cons (pe_bltn (v := .ty "str") (by rfl) T.n_str (by decide +kernel) rfl) pa_nil))))) (pss_one (ps_ret pe_non)) pss_nil)
 (pss_cons (ps_set (i := 1) sc_law_due.nd rfl (Or.inl rfl) (pe_ifExp (pt_cmpR op_eq (pe_slice sl_str (pv 0) po_none (po_some pe_int)) pe_str (nomark _)) (pe_slice sl_str (pv 0) (po_some pe_int) po_none) (pv 0)))
 (pss_cons (ps_if (PW.pt (pw_or (pt_not (pt_chain op_lt op_lt pe_int (pe_callB call_len_str (by rfl) T.n_len PySem.boot_len (pa_cons (pv 1) pa_nil)) pe_int)) (pw_or1 (pt_cmpR (op_neD hr.units) (pe_lc (own := [("_law_sign", 3)]) (g := gName 3) (by rfl) sc_law_due.nd (pi_str (pv 1)) (blkOk_by (own := [("_law_sign", 3)]) (N := N_law_due) (sc := defScope s_law_due) (by decide +kernel)) (fun _ _ _ _ _ => pg_name (i := 3) sc_law_due.nd rfl (Or.inl rfl)) (fun _ _ _ _ _ => (pts_one (pt_not (pt_chain op_le_str op_le_str pe_str (pv 3) pe_str)))) (fun _ _ _ _ _ => (pv 3))) (pe_lst pa_nil) (nomark _))))) (pss_one (ps_ret pe_non)) pss_nil)
 (pss_cons (ps_if (PW.pt (pw_and (pt_cmpR op_eq (pe_ix ix_str (pv 1) pe_int (fun _ _ => rfl)) pe_str (nomark _)) (pw_and1 (pt_cmpR op_ne (pv 0) pe_str (nomark _))))) (pss_one (ps_ret pe_non)) pss_nil)
 (pss_cons (ps_set (i := 2) sc_law_due.nd rfl (Or.inl rfl) pe_int)
 (pss_cons (ps_for PassesOwn.never rfl (pi_str (pv 1)) (pg_name (i := 3) sc_law_due.nd rfl (Or.inl rfl)) (pss_one (ps_set (i := 2) sc_law_due.nd rfl (Or.inl rfl) (pe_op op_add (pe_op op_mulW pe_int (pv 2)) (pe_bmS PySem.F.plainAttrs_str PySem.F.slot_str_index PySem.F.type_str_index (mt_indexX rfl takes_no) pe_str (pa_cons (pv 3) pa_nil))))))
 (pss_one (ps_ret (pe_ix ix_list (pe_lst (pa_cons (pv 2) (pa_cons (pe_un un_neg (pv 2)) pa_nil))) (pe_callTy call_int1 (by rfl) T.n_int (by decide +kernel) (pa_cons (pe_cmpR op_eq (pe_slice sl_str (pv 0) po_none (po_some pe_int)) pe_str (nomark _)) pa_nil)) (fun _ _ => rfl)))))))))), ?_⟩
    obtain ⟨b, h1, h2, h3⟩ := kit_strV tn
    refine ⟨_, rfl, v, n, _, b, rfl, tn, h1, b, rfl, ?_⟩
    cases b with
    | false =>
      have q' := q H (Same.refl H)
      rw [h3 rfl] at q'
      exact iteT q'
    | true =>
      obtain ⟨z, rfl⟩ := h2 rfl
      obtain ⟨hz1, hz2⟩ := hz z rfl
      have hzs : z.length ≤ sizeLine := Nat.le_trans hz1 (by decide)
      have neg : decide (V.str (cutS z none (some 1)) = V.str "-") = decide (z.cps.toList.take 1 = [45]) :=
        decide_eq_decide.mpr ((str_eq_iff (l := [45]) (by decide +kernel)).trans (by rw [cut_to]))
      refine iteF ?_
      refine nxt ?_
      dsimp only
      refine sq_val (fun v => ∃ F : Str, v = .str F ∧ F.cps.toList = figL z.cps.toList) ?_ ?_
      · intro R hR
        refine ⟨_, rfl, 1, rfl, z, rfl, hzs, rfl, _, rfl, ?_⟩
        rw [neg]
        by_cases hs : z.cps.toList.take 1 = [45]
        · rw [decide_eq_true hs]
          refine iteT ⟨_, rfl, 1, rfl, z, rfl, hzs, hR _ ⟨_, rfl, ?_⟩⟩
          rw [cut_from]
          unfold figL
          rw [if_pos hs]
        · rw [decide_eq_false hs]
          exact iteF ⟨_, rfl, hR _ ⟨z, rfl, (figL_pos hs).symm⟩⟩
      rintro _ ⟨F, rfl, eF⟩
      have lF : F.length = (figL z.cps.toList).length := by rw [str_len, eF]
      have lz : (figL z.cps.toList).length ≤ z.length := by
        rw [str_len]
        unfold figL
        split
        · rw [List.length_drop]; omega
        · exact Nat.le_refl _
      have hFs : F.length ≤ sizeLine := by rw [lF]; exact Nat.le_trans lz hzs
      have okF : ∀ c ∈ F.cps.toList, c < 1114112 := by
        intro c hc
        rw [eF] at hc
        refine strOk_mem hz2 c ?_
        unfold figL at hc
        split at hc
        · exact List.mem_of_mem_drop hc
        · exact hc
      have q0 := q H (Same.refl H)
      refine ⟨_, rfl, F, rfl, hFs, _, _, rfl, rfl, _, rfl, ?_⟩
      by_cases ha : (0 : Int) < (F.length : Int)
      · rw [decide_eq_true ha]
        refine iteT ⟨_, _, rfl, rfl, _, rfl, ?_⟩
        by_cases hb : (F.length : Int) < 31
        · rw [decide_eq_true hb]
          have hn : 1 ≤ (figL z.cps.toList).length ∧ (figL z.cps.toList).length ≤ 30 := by omega
          have hsz : F.cps.size ≤ 30 := by
            have : F.cps.size = F.length := rfl
            omega
          refine iteF ⟨_, rfl, F, rfl, fun D hD => ?_⟩
          refine lc_it walk_str (fun i H' => Same H H' ∧ H' D = some (.lst (((F.cps.toList.take i).filter fun c => !digQ c).map fun c => V.str ⟨#[c]⟩))) ⟨Same.new hD, upd_same⟩ (fun _ _ _ _ => trivial) ?_ ?_
          · rintro i x H1 H2 hi ⟨s1, e1⟩ ⟨rfl, c, hc, rfl⟩
            refine ⟨rfl, ?_⟩
            have keep : digQ c = false → ∃ acc, H2 D = some (.lst acc) ∧ acc.length < sizeLine ∧
                (Same H (upd H2 D (.lst (acc ++ [V.str ⟨#[c]⟩]))) ∧ upd H2 D (.lst (acc ++ [V.str ⟨#[c]⟩])) D = some (.lst (((F.cps.toList.take (i + 1)).filter fun c => !digQ c).map fun c => V.str ⟨#[c]⟩))) := fun hk => by
              refine ⟨_, e1, ?_, Same.mut s1 hD, ?_⟩
              · rw [List.length_map]
                refine Nat.lt_of_le_of_lt (Nat.le_trans (List.length_filter_le ..) ?_) (show 30 < sizeLine by decide)
                rw [List.length_take]
                exact Nat.le_trans (Nat.min_le_left _ _) (Nat.le_trans (Nat.le_of_lt hi) hsz)
              · rw [upd_same, take_sign hc, List.filter_append, List.map_append]
                simp [hk]
            have drop : digQ c = true → Same H H2 ∧ H2 D = some (.lst (((F.cps.toList.take (i + 1)).filter fun c => !digQ c).map fun c => V.str ⟨#[c]⟩)) := fun hk => by
              refine ⟨s1, ?_⟩
              rw [e1, take_sign hc, List.filter_append]
              simp [hk]
            refine ⟨_, rfl, _, _, rfl, rfl, _, rfl, ?_⟩
            by_cases h48 : (⟨#[c]⟩ : Str).cps.toList < ("0" : Str).cps.toList
            · rw [decide_eq_true h48]
              refine iteF ⟨_, rfl, iteT ⟨_, rfl, keep ?_⟩⟩
              unfold digQ
              rw [decide_eq_true h48]
              rfl
            · rw [decide_eq_false h48]
              refine iteT ⟨_, _, rfl, rfl, _, rfl, ?_⟩
              by_cases h57 : ("9" : Str).cps.toList < (⟨#[c]⟩ : Str).cps.toList
              · rw [decide_eq_true h57]
                refine iteT ⟨_, rfl, keep ?_⟩
                unfold digQ
                rw [decide_eq_false h48, decide_eq_true h57]
                rfl
              · rw [decide_eq_false h57]
                refine iteF (drop ?_)
                unfold digQ
                rw [decide_eq_false h48, decide_eq_false h57]
                rfl
          · rintro H1 ⟨s1, e1⟩
            rw [take_signs] at e1
            refine ⟨(by show 0 ≤ sizeLine; decide), fun p hp => ?_⟩
            have s2 : Same H1 (upd H1 p (.lst [])) := Same.new hp
            have e2 := s2 _ _ e1
            refine ⟨.list (signsD (F.cps.toList.filter fun c => !digQ c)), .list [], .lst (SqL.of e2) (dp_signs _), .lst (SqL.of upd_same) .nil,
              lay_signs _ (fun c hc => okF c (List.mem_filter.mp hc).1), by decide +kernel, _, rfl, ?_⟩
            rw [eqv_signs, filter_dig, eF]
            have q1 := q _ (s1.trans s2)
            have qq : ∀ H', Same (upd H1 p (.lst [])) H' → Q (resV (.str z)) H' := fun H' s' => q H' ((s1.trans s2).trans s')
            generalize upd H1 p (.lst []) = H2 at q1 qq ⊢
            cases hd : (figL z.cps.toList).all digQ with
            | false =>
              rw [num_sign hd] at q1
              exact iteT q1
            | true =>
              obtain ⟨c0, hc0, ht⟩ := first_sign (z := F) (by rw [eF]; exact hn.1)
              rw [eF] at ht
              have e48 : decide (V.str ⟨#[c0]⟩ = V.str "0") = decide ((figL z.cps.toList).take 1 = [48]) := by
                rw [ht]
                exact decide_eq_decide.mpr (str_eq_iff (by decide +kernel))
              have ez : (!decide (V.str z = V.str "0")) = !decide (z.cps.toList = [48]) := by
                exact congrArg _ (decide_eq_decide.mpr (str_eq_iff (by decide +kernel)))
              refine iteF ?_
              refine nxt ?_
              dsimp only
              refine sq_if (decide ((figL z.cps.toList).take 1 = [48]) && !decide (z.cps.toList = [48])) ?_ ?_ ?_
              · intro R r
                refine ⟨_, rfl, F, _, c0, rfl, rfl, hFs, hc0, rfl, _, rfl, ?_⟩
                rw [e48]
                by_cases h0 : (figL z.cps.toList).take 1 = [48]
                · rw [decide_eq_true h0] at r ⊢
                  refine iteT ⟨_, rfl, rfl, _, rfl, ?_⟩
                  rw [ez]
                  simpa using r
                · rw [decide_eq_false h0] at r ⊢
                  exact iteF (by simpa using r)
              · intro hb
                have hb' := Bool.and_eq_true_iff.mp hb
                have hz0 : z.cps.toList ≠ [48] := by
                  have := hb'.2
                  simpa using this
                rw [num_zero ⟨of_decide_eq_true hb'.1, hz0⟩] at q1
                exact q1
              · intro hb
                have h0 : ¬ ((figL z.cps.toList).take 1 = [48] ∧ z.cps.toList ≠ [48]) := by
                  rintro ⟨x, y⟩
                  rw [decide_eq_true x, decide_eq_false y] at hb
                  cases hb
                have hnum := num_is hn hd h0
                have hdd := all_digits hd
                have er : resV (.str z) = .int (if z.cps.toList.take 1 = [45] then -((NumText.digitsVal (figL z.cps.toList) : Nat) : Int) else ((NumText.digitsVal (figL z.cps.toList) : Nat) : Int)) := by
                  show optV (numT z.cps.toList) = _
                  rw [hnum]
                  rfl
                rw [er] at q1 qq
                refine ⟨_, rfl, F, rfl, ?_⟩
                refine for_it walk_str (fun i σ H' => (∃ w3 : Option V, σ = [some (.str z), some (.str F), some (.int ((NumText.digitsVal (F.cps.toList.take i) : Nat) : Int)), w3]) ∧ H' = H2) ⟨⟨none, rfl⟩, rfl⟩ (fun _ _ _ _ _ => trivial) ?_ ?_
                · rintro i x σ H3 H4 hi ⟨⟨w3, rfl⟩, rfl⟩ ⟨rfl, c, hc, rfl⟩
                  have hcm : c ∈ F.cps.toList := by
                    have e := List.getElem?_eq_some_iff.mp (show F.cps.toList[i]? = some c by rw [Array.getElem?_toList]; exact hc)
                    obtain ⟨h1, h2⟩ := e
                    rw [← h2]
                    exact List.getElem_mem h1
                  have hdc : 48 ≤ c ∧ c ≤ 57 := hdd c (by rw [← eF]; exact hcm)
                  have hlt : NumText.digitsVal (F.cps.toList.take i) < 10 ^ 30 := by
                    refine pow_lt (digits_lt fun d hd => hdd d ?_) ?_
                    · rw [← eF]
                      exact List.mem_of_mem_take hd
                    · rw [List.length_take]
                      omega
                  refine ⟨_, rfl, _, _, rfl, rfl, wide_mul (a := 64) (b := 128) (by decide) (by omega) (by decide) (by decide) (by decide), rfl, _, rfl, _, _, rfl, rfl, ?_, ?_⟩
                  · intro k hk
                    rw [index_digit hdc] at hk
                    cases hk
                    refine ⟨_, _, rfl, rfl, ⟨some (.str ⟨#[c]⟩), ?_⟩, rfl⟩
                    rw [take_sign hc, digitsVal_snoc]
                    have e1 : (10 : Int) * ((NumText.digitsVal (F.cps.toList.take i) : Nat) : Int) + ((c - 48 : Nat) : Int) = ((NumText.digitsVal (F.cps.toList.take i) * 10 + (c - 48) : Nat) : Int) := by omega
                    rw [← e1]
                    rfl
                  · intro hk
                    rw [index_digit hdc] at hk
                    cases hk
                · rintro σ H3 ⟨⟨w3, rfl⟩, rfl⟩
                  rw [take_signs, eF]
                  generalize NumText.digitsVal (figL z.cps.toList) = m at q1 qq ⊢
                  refine ⟨_, rfl, _, rfl, _, rfl, (by show 2 ≤ sizeLine; decide), fun L hL => ?_⟩
                  refine ⟨_, rfl, 1, rfl, z, rfl, hzs, rfl, .inr ⟨_, rfl, ?_⟩⟩
                  rw [neg]
                  by_cases hs : z.cps.toList.take 1 = [45]
                  · rw [decide_eq_true hs, if_pos rfl]
                    have q2 := qq _ (Same.new hL (o := .lst [V.int (m : Int), V.int (-(m : Int))]))
                    rw [if_pos hs] at q2
                    exact ⟨L, _, 1, .int (-(m : Int)), rfl, rfl, SqL.of upd_same, (show atI [V.int (m : Int), V.int (-(m : Int))] ((1 : Nat) : Int) = _ from atI_nat rfl), q2⟩
                  · rw [decide_eq_false hs, if_neg Bool.false_ne_true]
                    have q2 := qq _ (Same.new hL (o := .lst [V.int (m : Int), V.int (-(m : Int))]))
                    rw [if_neg hs] at q2
                    exact ⟨L, _, 0, .int (m : Int), rfl, rfl, SqL.of upd_same, (show atI [V.int (m : Int), V.int (-(m : Int))] ((0 : Nat) : Int) = _ from atI_nat rfl), q2⟩
        · rw [decide_eq_false hb]
          rw [num_short (by omega)] at q0
          exact iteT (iteT q0)
      · rw [decide_eq_false ha]
        rw [num_short (by omega)] at q0
        exact iteF ⟨_, rfl, iteT (iteT q0)⟩
end
end My
namespace My
open PySem PySem.Spec PyProof.Rows L2 Vg
theorem odd_texts : ∀ d ∈ oddD, textOk d = true := by
  have h : oddD.all textOk = true := by decide +kernel
  rw [List.all_eq_true] at h
  exact h
section
variable {P : Program} {w : World} {K : PySem.W.Frag} {mg : Str → Option Value} {base : Heap}
theorem ok_law (T : Txt K mg) {f : Addr} {fd : FuncData} (F : Fun K "law" "law" s_law f fd) : FnG P w K mg base CX0 3 f fd ["_law_script"] (spLaw K) := by
  refine fng_fun F sc_law ?_ ?_
  · rintro vs H Q E ⟨a, ns, rfl, _⟩
    rfl
  · rintro cdv A outer s H vs Q E hgd hr ⟨a, ns, rfl, hS, hlen, q⟩
    have F_law_take : Fn P w K mg base 1 "_law_take" ["_law_purse_here", "_law_many"] spTake := ok_take T
    have F_law_cell : Fn P w K mg base 1 "_law_cell" ["_law_script", "_law_k"] (spCell K) := ok_cell T
    have F_law_purse : Fn P w K mg base 1 "_law_purse" ["_law_cell_here"] spPurse := ok_purse T
    have F_law_whole : Fn P w K mg base 2 "_law_whole" ["_law_purse_here"] spWhole := ok_whole T
    have F_law_odd : Fn P w K mg base 2 "_law_odd" ["_law_purse_here"] (spOdd oddD) := ok_odd T
    have F_law_near : Fn P w K mg base 2 "_law_near" ["_law_purse_here", "_law_text"] spNear := ok_near T
    have F_number_of : Fn P w K mg base 1 "number_of" ["text"] (spNumOf K) := ok_number_of T
    have F_law_due : Fn P w K mg base 1 "_law_due" ["_law_thing"] (spNumOf K) := ok_due T
    have hl63 : (ns.map V.int).length ≤ 63 := by rw [List.length_map]; exact hlen
    refine ⟨_, (pss_cons (ps_for PassesOwn.never rfl (pi_range1 (by rfl) T.n_range (pa_cons (pe_callB (call_max2 rfl) (by rfl) T.n_max (by decide +kernel) (pa_cons pe_int (pa_cons (pe_callB (call_min2 rfl) (by rfl) T.n_min (by decide +kernel) (pa_cons pe_int (pa_cons (pe_callB call_len_seq (by rfl) T.n_len PySem.boot_len (pa_cons (pv 0) pa_nil)) pa_nil))) pa_nil))) pa_nil)) (pg_name (i := 1) sc_law.nd rfl (Or.inl rfl)) (pss_cons (ps_set (i := 2) sc_law.nd rfl (Or.inr rfl) (pe_fn F_law_purse (hr.mono (by decide)) rfl pass0 (pa_cons (pe_fn F_law_cell (hr.mono (by decide)) rfl pass0 (pa_cons (pv 0) (pa_cons (pv 1) pa_nil))) pa_nil)))
 (pss_cons (ps_set (i := 3) sc_law.nd rfl (Or.inl rfl) (pe_callTy call_str_int (by rfl) T.n_str (by decide +kernel) (pa_cons (pe_fn F_law_whole (hr.mono (by decide)) rfl pass0 (pa_cons (pv 2) pa_nil)) pa_nil)))
 (pss_cons (ps_set (i := 4) sc_law.nd rfl (Or.inl rfl) (pe_join pe_str (pe_lc (own := [("_law_k", 1)]) (g := gName 1) (by rfl) sc_law.nd (pi_range1 (by rfl) T.n_range (pa_cons (pe_op op_add pe_int (pe_fn F_law_take (hr.mono (by decide)) rfl pass0 (pa_cons (pv 2) (pa_cons pe_int pa_nil)))) pa_nil)) (blkOk_by (own := [("_law_k", 1)]) (N := N_law) (sc := defScope s_law) (by decide +kernel)) (fun _ _ _ _ _ => pg_name (i := 1) sc_law.nd rfl (Or.inl rfl)) (fun _ _ _ _ _ => pts_nil) (fun _ _ _ _ _ => (pe_ix ix_str pe_str (pe_fn F_law_take (hr.mono (by decide)) rfl pass0 (pa_cons (pv 2) (pa_cons pe_int pa_nil))) (fun _ _ => rfl))))))
 (pss_cons (ps_set (i := 5) sc_law.nd rfl (Or.inl rfl) (pe_ix ix_list (pe_lst (pa_cons pe_str (pa_cons pe_str (pa_cons pe_str (pa_cons pe_str (pa_cons pe_str (pa_cons pe_str pa_nil))))))) (pe_fn F_law_take (hr.mono (by decide)) rfl pass0 (pa_cons (pv 2) (pa_cons pe_int pa_nil))) (fun _ _ => rfl)))
 (pss_one (ps_for PassesOwn.never rfl (pi_list (pe_lst (pa_cons (pv 3) (pa_cons (pe_fn F_law_near (hr.mono (by decide)) rfl pass0 (pa_cons (pv 2) (pa_cons (pv 3) pa_nil))) (pa_cons (pe_op op_add_str (pv 5) (pv 3)) (pa_cons (pv 4) (pa_cons (pe_op op_add_str pe_str (pv 4)) (pa_cons (pe_fn F_law_odd (hr.mono (by decide)) rfl pass0 (pa_cons (pv 2) pa_nil)) (pa_cons (pe_op op_add_str (pv 3) pe_str) (pa_cons (pv 3) pa_nil)))))))))) (pg_name (i := 6) sc_law.nd rfl (Or.inl rfl)) (pss_one (ps_if (pt_cmpR op_ne (pe_callB (cr_repr hgd hr.units) (by rfl) T.n_repr (by decide +kernel) (pa_cons (pe_fn F_number_of (hr.mono (by decide)) rfl pass0 (pa_cons (pv 6) pa_nil)) pa_nil)) (pe_callB (cr_repr hgd hr.units) (by rfl) T.n_repr (by decide +kernel) (pa_cons (pe_fn F_law_due (hr.mono (by decide)) rfl pass0 (pa_cons (pv 6) pa_nil)) pa_nil)) (nomark _)) (pss_one (ps_ret pe_bl)) pss_nil)))))))))
 (pss_one (ps_ret pe_bl))), ?_⟩
    refine ⟨_, rfl, a, _, rfl, .inl hS, _, _, rfl, _, _, rfl, _, rfl, ?_, ?_, ?_⟩
    · split <;> split <;> omega
    · split <;> split <;> omega
    refine for_range (fun i σ H' => (∃ v1 v2 v3 v4 v5 v6 : Option V, σ = [some (.ref a), v1, v2, v3, v4, v5, v6]) ∧ SqL K H' a (ns.map V.int)) ?_ ?_ ?_
    · exact ⟨⟨none, none, none, none, none, none, rfl⟩, hS⟩
    · rintro i σ H0 hi ⟨⟨v1, v2, v3, v4, v5, v6, rfl⟩, hS0⟩
      have hi63 : i < 64 := by
        refine Nat.lt_of_lt_of_le hi ?_
        split <;> split <;> omega
      refine ⟨_, rfl, _, rfl, a, ns, _, rfl, hS0, by omega, by omega, fun z => ?_⟩
      refine ⟨z, rfl, fun p l hp hl => ?_⟩
      have s1 : Same H0 (upd H0 p (.lst l)) := Same.new hp
      have z1 : Pz (upd H0 p (.lst l)) p 90000 := Pz.upd hl
      generalize upd H0 p (.lst l) = H1 at s1 z1 ⊢
      -- text = str(whole)
      refine ⟨_, rfl, p, 80000, rfl, z1.mono (by decide), fun x H2 bx c2 z2 => ?_⟩
      have s2 : Same H0 H2 := Same.but s1 hp c2
      refine ⟨x, rfl, log_lt bx, ?_⟩
      have tx := tx_int bx
      generalize Str.ofString (toString x) = t at tx ⊢
      -- long
      refine ⟨⟨_, rfl⟩, _, rfl, p, 5, 79999, rfl, by decide, by decide, z2, fun r3 l3 a3 b3 u3 => ?_⟩
      refine ⟨_, _, rfl, rfl, 28 + r3, rfl, by omega, by omega, fun D hD => ?_⟩
      have z3 := Pz.upd (H := H2) (p := p) u3
      have s3 : Same H0 _ := Same.but s2 hp (But.upd (o := .lst l3))
      generalize upd H2 p (.lst l3) = H3 at z3 s3 hD ⊢
      have nD := z3.ne hD
      have hD0 : H0 D = none := s3.free hD
      refine lc_range (fun i H' => Same H0 H' ∧ Pz H' p (79999 - i) ∧ ∃ ys : List Str, ys.length = i ∧ (∀ y ∈ ys, Tx 1 y) ∧ H' D = some (.lst (ys.map V.str))) ?_ ?_ ?_
      · exact ⟨s3.trans (Same.new hD), z3.new hD, [], rfl, (fun y hy => by cases hy), upd_same⟩
      · rintro i H4 hi4 ⟨s4, z4, ys, hl4, hy, e4⟩
        refine ⟨rfl, lc_keep ?_⟩
        have hi40 : i < 40 := by omega
        refine ⟨_, rfl, p, 10, 79999 - (i + 1), rfl, by decide, by decide, z4.mono (by omega), fun r l' a5 b5 u5 => ?_⟩
        obtain ⟨c, hc, hat⟩ := pickS (z := "0123456789") a5 b5 (by decide +kernel)
        refine ⟨_, _, c, rfl, rfl, (by decide +kernel), hat, ?_⟩
        have e5 : upd H4 p (.lst l') D = some (.lst (ys.map V.str)) := upd_in e4 nD.symm
        refine ⟨_, e5, ?_, Same.mut (Same.but s4 hp (But.upd (o := .lst l'))) hD0, Pz.mut (Pz.upd u5) nD, ys ++ [⟨#[c]⟩], ?_, ?_, ?_⟩
        · rw [List.length_map, hl4]
          exact Nat.lt_trans hi40 (by decide)
        · rw [List.length_append, hl4]
          all_goals rfl
        · intro y hy'
          rcases List.mem_append.mp hy' with h | h
          · exact hy y h
          · rw [List.mem_singleton.mp h]
            exact Tx.one hc
        · rw [upd_same, List.map_append]
          all_goals rfl
      · rintro H4 ⟨s4, z4, ys, hl4, hy, e4⟩
        refine ⟨_, D, ys, rfl, rfl, .inl (SqL.of e4), ?_, ?_⟩
        · have := sum_ones hy
          have e0 : ("" : Str).length = 0 := by decide
          rw [e0]
          omega
        have tl' : Tx 40 (Txt.join "" ys) := (Tx.join hy).mono (by omega)
        generalize Txt.join "" ys = lg at tl' ⊢
        have z4' : Pz H4 p 70000 := z4.mono (by omega)
        -- ahead
        refine ⟨(by show 6 ≤ sizeLine; decide), fun L hL => ?_⟩
        generalize hXL : upd H4 L _ = H5
        have eL := of_gen hXL
        have sL := same_gen hL hXL
        have nL := z4'.ne hL
        refine ⟨_, rfl, p, 6, 60000, rfl, by decide, by decide, (z4'.same sL).mono (by decide), fun r6 l6 a6 b6 u6 => ?_⟩
        obtain ⟨v, hv, hat6⟩ := pickV (xs := [V.str "0", V.str "+", V.str "-", V.str " ", V.str "00", V.str "--"]) a6 b6
        obtain ⟨ah, rfl, ta⟩ : ∃ ah, v = V.str ah ∧ Tx 2 ah := by
          simp only [List.mem_cons, List.not_mem_nil, or_false] at hv
          rcases hv with rfl | rfl | rfl | rfl | rfl | rfl <;> exact ⟨_, rfl, (tx_of _).mono (by decide)⟩
        refine ⟨L, _, _, _, rfl, rfl, SqL.of (upd_in eL nL.symm), hat6, ?_⟩
        have z6 := Pz.upd (H := H5) (p := p) u6
        have s6 : Same H0 _ := Same.but (s4.trans sL) hp (But.upd (o := .lst l6))
        generalize upd H5 p (.lst l6) = H6 at z6 s6 ⊢
        -- the things
        refine ⟨_, rfl, _, rfl, _, rfl, p, t, 31, 50000, rfl, tx, by decide, z6.mono (by decide), fun y H7 ty c7 z7 => ?_⟩
        have s7 : Same H0 H7 := Same.but s6 hp c7
        have tm : Tx 1 ("-" : Str) := tx_of "-"
        have tn : Tx 1 ("\n" : Str) := tx_of "\n"
        refine ⟨_, rfl, _, rfl, _, _, rfl, rfl, ta.fits2 tx (by decide), _, rfl, _, rfl, _, _, rfl, rfl, tm.fits2 tl' (by decide), ?_⟩
        refine ⟨_, rfl, p, 40000, rfl, z7.mono (by decide), fun v d H8 hd c8 z8 dq => ?_⟩
        have s8 : Same H0 H8 := Same.but s7 hp c8
        refine ⟨_, rfl, _, _, rfl, rfl, tx.fits2 tn (by decide), _, rfl, (by show 8 ≤ sizeLine; decide), fun B hB => ?_⟩
        generalize hXB : upd H8 B _ = H9
        have eB := of_gen hXB
        have sB := same_gen hB hXB
        have s9 := s8.trans sB
        refine ⟨B, rfl, ⟨_, SqL.of eB⟩, ?_⟩
        refine for_list (K := K) (a := B) (xs := [V.str t, V.str y, V.str (ah ++ t), V.str lg, V.str ("-" ++ lg), v, V.str (t ++ "\n"), V.str t])
          (fun j σ H' => (∃ v1 v2 v3 v4 v5 v6 : Option V, σ = [some (.ref a), v1, v2, v3, v4, v5, v6]) ∧ Same H9 H')
          ⟨⟨_, _, _, _, _, _, rfl⟩, Same.refl _⟩ (fun j σ H' _ h => h.2.seq (SqL.of eB)) ?_ ?_
        · rintro j x σ H10 hx ⟨⟨w1, w2, w3, w4, w5, w6, rfl⟩, s10⟩
          have g8 : Good H8 x := by
            have hm := List.mem_of_getElem? hx
            simp only [List.mem_cons, List.not_mem_nil, or_false] at hm
            rcases hm with rfl | rfl | rfl | rfl | rfl | rfl | rfl | rfl
            · exact good_str tx (by decide)
            · exact good_str ty (by decide)
            · exact good_str (ta.app tx) (by decide)
            · exact good_str tl' (by decide)
            · exact good_str (tm.app tl') (by decide)
            · exact good_of dq (odd_texts d hd)
            · exact good_str (tx.app tn) (by decide)
            · exact good_str tx (by decide)
          obtain ⟨⟨dx, hdx⟩, hzx⟩ := g8.same (sB.trans s10)
          obtain ⟨nx, tn⟩ := hdx.tn (K := K)
          obtain ⟨dd, hdd, k1, k2, k3⟩ := res_text x
          refine ⟨_, rfl, x, nx, rfl, tn, hzx, fun H11 s11 => ?_⟩
          refine ⟨_, dd, rfl, hdd _ _, k1, k2, k3, ?_⟩
          refine ⟨_, rfl, x, nx, rfl, tn.same s11, hzx, fun H12 s12 => ?_⟩
          refine ⟨_, dd, rfl, hdd _ _, k1, k2, k3, rfl, _, rfl, ?_⟩
          refine iteNS rfl ?_
          exact ⟨⟨_, _, _, _, _, _, rfl⟩, (s10.trans s11).trans s12⟩
        · rintro σ H10 ⟨⟨w1, w2, w3, w4, w5, w6, rfl⟩, s10⟩
          exact ⟨⟨_, _, _, _, _, _, rfl⟩, (s9.trans s10).seq hS0⟩
    · rintro σ H' ⟨⟨v1, v2, v3, v4, v5, v6, rfl⟩, hS'⟩
      exact q _
end
theorem all_mk {P : Program} {w : World} {K : PySem.W.Frag} {h : Heap} {mg : Str → Option Value} {fa : Addr} (X : K.In h) (G : h.Ns mainGlobals mg) (hfa : mg "law" = some (.ref fa))
    (h_d_number_of : DefIn K "number_of" s_number_of)
    (h_d_law_cell : DefIn K "_law_cell" s_law_cell)
    (h_d_law_purse : DefIn K "_law_purse" s_law_purse)
    (h_d_law_take : DefIn K "_law_take" s_law_take)
    (h_d_law_odd : DefIn K "_law_odd" s_law_odd)
    (h_d_law_near : DefIn K "_law_near" s_law_near)
    (h_d_law_whole : DefIn K "_law_whole" s_law_whole)
    (h_d_law_common : DefIn K "_law_common" s_law_common)
    (h_d_law_due : DefIn K "_law_due" s_law_due)
    (h_d_law : DefIn K "law" s_law)
    (h_n_int : PySem.W.nsIn K mainGlobals "int" = some none)
    (h_n_isinstance : PySem.W.nsIn K mainGlobals "isinstance" = some none)
    (h_n_str : PySem.W.nsIn K mainGlobals "str" = some none)
    (h_n_all : PySem.W.nsIn K mainGlobals "all" = some none)
    (h_n_len : PySem.W.nsIn K mainGlobals "len" = some none)
    (h_n_max : PySem.W.nsIn K mainGlobals "max" = some none)
    (h_n_range : PySem.W.nsIn K mainGlobals "range" = some none)
    (h_n_abs : PySem.W.nsIn K mainGlobals "abs" = some none)
    (h_n_min : PySem.W.nsIn K mainGlobals "min" = some none)
    (h_n_repr : PySem.W.nsIn K mainGlobals "repr" = some none)
    (h_c_MOST_FIGURES : ∃ t, PySem.W.nsIn K mainGlobals "MOST_FIGURES" = some (some (.int 30 t))) :
    ∃ fd : FuncData, (∀ (s : Shared) (u : Value), BindsTo s fd ⟨[u], []⟩ [("_law_script", u)]) ∧ ∀ base : Heap, K.In base → base.Ns mainGlobals mg → FnG P w K mg base CX0 3 fa fd ["_law_script"] (spLaw K) := by
  have T : Txt K mg := ⟨(h_d_number_of.at X G), (h_d_law_cell.at X G), (h_d_law_purse.at X G), (h_d_law_take.at X G), (h_d_law_odd.at X G), (h_d_law_near.at X G), (h_d_law_whole.at X G), (h_d_law_common.at X G), (h_d_law_due.at X G), (h_d_law.at X G), (PySem.W.mg_none_of X G h_n_int), (PySem.W.mg_none_of X G h_n_isinstance), (PySem.W.mg_none_of X G h_n_str), (PySem.W.mg_none_of X G h_n_all), (PySem.W.mg_none_of X G h_n_len), (PySem.W.mg_none_of X G h_n_max), (PySem.W.mg_none_of X G h_n_range), (PySem.W.mg_none_of X G h_n_abs), (PySem.W.mg_none_of X G h_n_min), (PySem.W.mg_none_of X G h_n_repr), (h_c_MOST_FIGURES.imp fun _ e => PySem.W.mg_of X G e)⟩
  exact law_end X G hfa h_d_law (fun _ _ _ _ _ _ _ => rfl) fun f fd base F => ok_law T F
end My
open PySem PySem.W PyProof.Rows
set_option maxRecDepth 100000 in
set_option maxHeartbeats 0 in
theorem PySem.Challenge.cw_termstream_k02_numbers_in_texts_holds : PySem.Challenge.rw_termstream_k02_numbers_in_texts.Holds := by
  w_on; o_law; k_head; (case hw => w_witness2)
  k_fill
  refine Vg.walk_ofG (l := PySem.Challenge.rw_termstream_k02_numbers_in_texts) (n := 63) (k := 3) (x := "_law_script") (K := _) (sp := fun w => Vg.spLaw _) rfl (by decide) rfl ⟨rfl, by decide, by decide⟩ (fun w h Y => PySem.W.kIn_of Y) ?F (fun w H a ns hl hS => ⟨a, ns, rfl, hS, hl, fun _ => rfl⟩)
  case F =>
    intro w mg fa h KX G hmg
    refine' My.all_mk KX G hmg ?d_number_of ?d_law_cell ?d_law_purse ?d_law_take ?d_law_odd ?d_law_near ?d_law_whole ?d_law_common ?d_law_due ?d_law ?n_int ?n_isinstance ?n_str ?n_all ?n_len ?n_max ?n_range ?n_abs ?n_min ?n_repr ?c_MOST_FIGURES
    case d_number_of => (refine' Vg.DefIn.by ?a ?l ?c ?k; (case a => k_is); (case l => k_is); (case c => k_is); (case k => k_is))
    case d_law_cell => (refine' Vg.DefIn.by ?a ?l ?c ?k; (case a => k_is); (case l => k_is); (case c => k_is); (case k => k_is))
    case d_law_purse => (refine' Vg.DefIn.by ?a ?l ?c ?k; (case a => k_is); (case l => k_is); (case c => k_is); (case k => k_is))
    case d_law_take => (refine' Vg.DefIn.by ?a ?l ?c ?k; (case a => k_is); (case l => k_is); (case c => k_is); (case k => k_is))
    case d_law_odd => (refine' Vg.DefIn.by ?a ?l ?c ?k; (case a => k_is); (case l => k_is); (case c => k_is); (case k => k_is))
    case d_law_near => (refine' Vg.DefIn.by ?a ?l ?c ?k; (case a => k_is); (case l => k_is); (case c => k_is); (case k => k_is))
    case d_law_whole => (refine' Vg.DefIn.by ?a ?l ?c ?k; (case a => k_is); (case l => k_is); (case c => k_is); (case k => k_is))
    case d_law_common => (refine' Vg.DefIn.by ?a ?l ?c ?k; (case a => k_is); (case l => k_is); (case c => k_is); (case k => k_is))
    case d_law_due => (refine' Vg.DefIn.by ?a ?l ?c ?k; (case a => k_is); (case l => k_is); (case c => k_is); (case k => k_is))
    case d_law => (refine' Vg.DefIn.by ?a ?l ?c ?k; (case a => k_is); (case l => k_is); (case c => k_is); (case k => k_is))
    case n_int => k_is
    case n_isinstance => k_is
    case n_str => k_is
    case n_all => k_is
    case n_len => k_is
    case n_max => k_is
    case n_range => k_is
    case n_abs => k_is
    case n_min => k_is
    case n_repr => k_is
    case c_MOST_FIGURES => (refine' Vg.con_in ?a; (case a => k_is))
