import PyProof.Rows.All
import Wide.All
import OpenK.AllK
import Wide.FinOn
import HandS.Base
import HandS.Call
import HandS.List
import HandS.Ends
import HandS.Words
import HandS.Comp
import HandS.Dict
import HandS.Iter
import HandS.Text
import HandS.WordsList
import HandS.WordsDict
import HandS.IsInst
import HandS.Wide
import HandS.Strs
import HandS.StrMore
import HandS.Gcd
import HandS.Walk
import HandS.Exc
import HandS.ExcInit
import HandS.ExcField
import HandS.ExcIs
import HandS.TryMany
import HandS.WordsExc
import HandS.Star
import KE.KExcIs
import HandS.ExcOwn
import PyProof.ReprLen
import PySem.Challenge.RW_termstream_k14_neighbours_told
set_option Elab.async false
set_option linter.all false
set_option maxRecDepth 100000
set_option maxHeartbeats 4000000
namespace Vg
open PySem PySem.Spec PyProof.Rows L2
/-- the same promise as the layer's, for calls within which no text of a list is being made -/
structure FnG (P : Program) (w : World) (K : PySem.W.Frag) (mg : Str → Option Value) (base : Heap) (CX : CXT)
    (k : Nat) (f : Addr) (fd : FuncData) (ps : List Str) (sp : Sp) : Prop where
  len : ∀ vs H Q E, sp vs H Q E → vs.length = ps.length
  run : ∀ (A : Around) (outer : List Env) (s : Shared) (H : Hp) (args : Args) (us : List Value) (vs : List V) (Q : VK) (E : XK),
    A.guards = some [] → Room k A → Env0 P w K mg base A outer s H → BindsTo s fd args (ps.zip us) → Vals vs us → sp vs H Q E →
      codeAny (model P w) A (.call (.ref f) args) (CR CX outer P w H s Q E) s
section
variable {P : Program} {w : World} {K : PySem.W.Frag} {mg : Str → Option Value} {base : Heap} {CX : CXT}
  {k : Nat} {f : Addr} {fd : FuncData} {ps : List Str} {sp : Sp}
theorem FnG.of (F : FnOk P w K mg base CX k f fd ps sp) : FnG P w K mg base CX k f fd ps sp :=
  ⟨F.len, fun A outer s H args us vs Q E _ hr e0 hb r h =>
    F.run A outer s H args us vs Q E hr e0 hb r h⟩
theorem deeper_guards (A : Around) (env : Env) : (A.deeper env).guards = A.guards := rfl
/-- a def by its body, where the guards are known -/
theorem fng_of {name qual : Str} {params : Arguments} {body : List Stmt} {scope : Scope} {dV kV doc pm cdv ct oc : Value} {an od : Option Addr}
    {osl : Array (Option Value)} {N : List Str}
    (lk : K.lookup f = some ⟨oc, od, .func (PySem.W.fnOf name qual params body scope dV kV doc pm an cdv ct), osl⟩)
    (hcd : PySem.W.codeIn K cdv qual = true) (S : FnScope N ps scope)
    (len : ∀ vs H Q E, sp vs H Q E → vs.length = ps.length)
    (hbody : ∀ (A : Around) (outer : List Env) (s : Shared) (H : Hp) (vs : List V) (Q : VK) (E : XK),
      (cxOf CX P w K mg base N qual scope f cdv A outer s H E).A.guards = some [] →
      Room k (A.deeper (envOfC qual scope s.heap.objs.size f cdv)) → sp vs H Q E →
      ∃ t, PSs (cxOf CX P w K mg base N qual scope f cdv A outer s H E) body t ∧
        t { nx := fun _ H' => Q .non H', rt := Q } (start N vs) H) :
    FnG P w K mg base CX (k + 1) f (PySem.W.fnOf name qual params body scope dV kV doc pm an cdv ct) ps sp := by
  refine ⟨len, fun A outer s H args us vs Q E hg hr e0 hb r hsp => ?_⟩
  have hl := len _ _ _ _ hsp
  have inK : K.In s.heap := e0.mod.kin.keeps fun b o e => (e0.bs b o e).1
  have noLim : s.heap.NoLimit := e0.mod.nolimit.keeps fun b o e => (e0.bs b o e).1
  have kinds : ∀ y ∈ ps.zip us, scope.names.lookup y.1 = some .local ∨
      (scope.names.lookup y.1 = some .cell ∧ ((cellsFrom (s.heap.objs.size + 1) scope.names []).lookup y.1).isSome = true) := by
    rintro ⟨n, v⟩ hy
    have hn : n ∈ ps := (List.of_mem_zip hy).1
    cases S.par n hn with
    | inl q => exact Or.inl q
    | inr q => exact Or.inr (And.intro q (PySem.W.cellsFrom_some _ _ _ (Or.inl q)))
  refine codeAny_call_function hr.depth (inK _ _ lk) rfl S.co S.gen rfl (PySem.W.codeRec_of inK hcd) (hb _ _ _ _ ?_)
  refine wpAny_newFunctionEnv_cells S.kind kinds fun env he s1 x => ?_
  subst he
  refine ⟨noLim.keeps x.toInCall.keep, codeAny_func ?_⟩
  obtain ⟨t, ht, hq⟩ := hbody A outer s H vs Q E hg (hr.deeper _) hsp
  have I := inv_start (CX := CX) (P := P) (w := w) (K := K) (mg := mg) (base := base) (E := E) S hr.hd e0 hl r x
  refine wpAny_mono (ht.run [] s1 (start N vs) H _ I hq) (fun fl s' hs => ?_) fun e s' hs => hs
  match fl, hs with
  | .ret u, ⟨v, σ', H', J, rv, q⟩ => exact ⟨v, H', J.os, J.bare, J.base, J.hok, rv, q⟩
  | .next, ⟨σ', H', J, q⟩ => exact ⟨V.non, H', J.os, J.bare, J.base, J.hok, rfl, q⟩
  | .brk, ⟨_, _, _, q⟩ => exact q.elim
  | .cont, ⟨_, _, _, q⟩ => exact q.elim
end
section
variable {X : Cx} {CX : CXT} {k : Nat} {f : Addr} {fd : FuncData} {ps : List Str} {sp : Sp} {dvs : List V} {ds : List Value}
  {E : XK} {x : Str} {p pos : Pos} {e : Expr} {es : List Expr} {t : TA}
theorem run_fng {pins : List (Addr × Obj)} {σ : L2.St} {H : Hp} {s : Shared} {Q : VK} {us : List Value} {vs : List V}
    (F : FnG X.prog X.w X.K X.mg X.base CX k f fd ps sp) (hg : X.A.guards = some []) (hr : Room k X.A) (hb : Binds X.K fd ps ds) (hd : Vals dvs ds)
    (hx : Passes CX X E) (I : Inv X pins σ H s) (r : Vals vs us) (h : sp (vs ++ dvs) H Q E) :
    wpAny (model X.prog X.w) X.A (call (.ref f) us) (EP X pins σ Q) X.xe s := by
  have both : Vals (vs ++ dvs) (us ++ ds) := r.append hd
  have hl : (us ++ ds).length = ps.length := both.length ▸ F.len _ _ _ _ h
  have C := F.run X.A X.stack s H ⟨us, []⟩ (us ++ ds) (vs ++ dvs) Q E hg hr I.env0 (hb s us I.kIn hl) both h
  refine wpAny_call (codeAny_mono C fun r s' hq => ?_)
  match r, hq with
  | .error e, hq => exact hx pins σ H s e s' I hq
  | .ok (.ret u), hq => exact I.after hq
  | .ok .next, hq => exact False.elim hq
  | .ok .brk, hq => exact False.elim hq
  | .ok .cont, hq => exact False.elim hq
/-- f(e, ..) of such a def -/
theorem pe_callG (F : FnG X.prog X.w X.K X.mg X.base CX k f fd ps sp) (hgd : X.A.guards = some []) (hr : Room k X.A) (hg : Gl X x)
    (hm : X.mg x = some (.ref f)) (hk : PySem.W.keepIn X.K (.ref f) = true) (hb : Binds X.K fd ps ds) (hd : Vals dvs ds) (hx : Passes CX X E)
    (ha : PA X (e :: es) t) (hdb : (x == ("__debug__" : Str)) = false := by decide)
    (he : starEach (e :: es) X.env = (false, eval e X.env) :: starEach es X.env := by rfl)
    (hpl : (backTo pos (starEach es X.env)).any (·.1) = false := by rfl) :
    PE X (.Call (.Name x p) (e :: es) [] pos) (tCall sp dvs E t) := by
  constructor
  intro pins s σ H Q I h
  apply wpAny_Call_Name_kw
  apply ld_glob I hg hm ?_ hdb
  refine PySem.W.callWith_K (h₀ := X.base) I.ok.mod.kin hk ?_ he hpl
  refine thn (ha.run pos pins s σ H _ I h) ?_
  rintro us s1 ⟨vs, H1, I1, r, q⟩
  exact ⟨I1.kIn, run_fng F hgd hr hb hd hx I1 r q⟩
end
section
variable {X : Cx}
theorem one_val {P : V → Value → Prop} {x : V} {us : List Value} (h : Paired P [x] us) : ∃ u, us = [u] ∧ P x u := by
  cases h with
  | cons a b => cases b; exact ⟨_, rfl, a⟩
mutual
theorem noDict {K : PySem.W.Frag} {H : Hp} : ∀ (d : PyData) (v : V), Dp K H v d → d.hasDict = false
  | .none, _, _ => by simp only [PyData.hasDict]
  | .bool _, _, _ => by simp only [PyData.hasDict]
  | .int _, _, _ => by simp only [PyData.hasDict]
  | .str _, _, _ => by simp only [PyData.hasDict]
  | .list ds, _, h => by
    cases h with
    | lst _ ha => simp only [PyData.hasDict]; exact noDictAll ds _ ha
  | .tuple ds, _, h => by
    cases h with
    | tup _ ha => simp only [PyData.hasDict]; exact noDictAll ds _ ha
  | .dict _, _, h => by cases h
theorem noDictAll {K : PySem.W.Frag} {H : Hp} : ∀ (ds : List PyData) (vs : List V), DpAll K H vs ds → PyData.hasDictAll ds = false
  | [], _, _ => by simp only [PyData.hasDictAll]
  | d :: ds, _, h => by
    cases h with
    | cons a b => simp only [PyData.hasDictAll, noDict d _ a, noDictAll ds _ b, Bool.or_self]
end
/-- repr(x) of data at any depth -/
theorem cr_repr (hg : X.A.guards = some []) (hu : X.A.units + 64 < cLine) :
    CallR X (.builtin "repr") (fun xs H Q => ∃ x d, xs = [x] ∧ Dp X.K H x d ∧ d.showable = true ∧ d.depth ≤ 50 ∧ d.shown.length ≤ sizeLine ∧ Q (.str d.shown) H) := by
  intro pins s σ H xs us Q I r h
  obtain ⟨x, d, rfl, hd, hs, hdep, hz, q⟩ := h
  obtain ⟨u, rfl, ru⟩ := one_val r
  have hn := noDict d x hd
  cases hd with
  | non =>
    cases ru
    exact PySem.P.repr_of_none ⟨.str _, H, I.tok _, ⟨_, rfl⟩, q⟩
  | bl b =>
    cases ru
    refine PySem.P.repr_of_bool ⟨.str _, H, I.tok _, ⟨_, rfl⟩, ?_⟩
    cases b <;> exact q
  | int i =>
    obtain ⟨t, rfl⟩ := ru
    refine PySem.P.repr_of_int ?_ ⟨.str _, H, I.tok _, ⟨_, rfl⟩, q⟩
    simpa [PyData.showable] using hs
  | str z =>
    obtain ⟨t, rfl⟩ := ru
    exact PySem.P.repr_of_str ⟨.str _, H, I.tok _, ⟨_, rfl⟩, q⟩ (hsz := hz)
  | lst hl ha =>
    cases ru
    obtain ⟨as, rd⟩ := Dp.reads I _ _ _ (Dp.lst hl ha) rfl
    exact repr_of_reads' rd hs (PyData.noDict_hsm hn) hg (by omega) (fun b o e => e) (fun h' u tk hk => ⟨.str _, H, I.kept hk, ⟨_, rfl⟩, q⟩) (hsz := hz)
  | tup hl ha =>
    cases ru
    obtain ⟨as, rd⟩ := Dp.reads I _ _ _ (Dp.tup hl ha) rfl
    exact repr_of_reads' rd hs (PyData.noDict_hsm hn) hg (by omega) (fun b o e => e) (fun h' u tk hk => ⟨.str _, H, I.kept hk, ⟨_, rfl⟩, q⟩) (hsz := hz)
end
/-- the law's call, by such a promise -/
theorem law_callG {P : Program} {w : World} {K : PySem.W.Frag} {mg mb : Str → Option Value} {k : Nat} {fa a : Addr}
    {fd : FuncData} {x : Str} {sp : Sp} {s1 : Shared} {vs : List Value} {ns : List Int}
    (inK : K.In s1.heap) (hns : s1.heap.Ns mainGlobals mg) (hb : s1.heap.Ns builtinsNs mb) (hbb : ∀ x : Str, x ≠ "__name__" → mb x = bootBuiltins x)
    (noLim : s1.heap.NoLimit) (hgen : s1.gens = #[])
    (ha : s1.heap.get? a = some { cls := .type "list", data := .seq vs.toArray }) (hi : IntsAre vs ns) (hl : ns.length ≤ sizeLine) (hr : Room k callerA)
    (F : ∀ base : Heap, K.In base → base.Ns mainGlobals mg → FnG P w K mg base CX0 k fa fd [x] sp)
    (hbind : ∀ (s : Shared) (u : Value), BindsTo s fd ⟨[u], []⟩ [(x, u)])
    (hsp : ∀ H : Hp, SqL K H a (ns.map V.int) → sp [.ref a] H (fun v _ => v = .bl true) fun _ _ _ => False) :
    codeAny (model P w) callerA (.call (.ref fa) ⟨[.ref a], []⟩)
      (fun r s' => r = .ok (.ret (.bool true)) ∧ OldK s1.heap s'.heap ∧ s'.os = s1.os ∧ AllBare s'.gens) s1 := by
  have rv := vals_ints hi
  have lenV := hi.length
  let scr : Obj := { cls := .type "list", data := .seq vs.toArray }
  have main : ∀ H : Hp, (∀ b, H b = none ∨ H b = some (.frz scr (.lst (ns.map V.int)))) → SqL K H a (ns.map V.int) → HOk P w H s1.heap →
      (∀ b, H b ≠ none → b = a) → (H a ≠ none → K.lookup a = none) →
      codeAny (model P w) callerA (.call (.ref fa) ⟨[.ref a], []⟩)
        (fun r s' => r = .ok (.ret (.bool true)) ∧ OldK s1.heap s'.heap ∧ s'.os = s1.os ∧ AllBare s'.gens) s1 := by
    intro H hO hS hok only notK
    have untracked : ∀ {b : Addr} {o : Obj} {es : Array DictEntry} {ep : Nat}, s1.heap.get? b = some o → o.data = .dict es ep → H b = none := by
      intro b o es ep e d
      refine Classical.byContradiction fun q => ?_
      have : b = a := only b q
      subst this
      rw [ha] at e
      cases e
      exact nomatch (show Data.seq vs.toArray _ = Data.dict es ep from d)
    have hide : ∀ {b : Addr} {o : Obj}, s1.heap.get? b = some o → H b = none → (hidT s1.heap H).get? b = some o := fun e n => hidT_get e n
    have nsHid : ∀ {b : Addr} {m : Str → Option Value}, s1.heap.Ns b m → (hidT s1.heap H).Ns b m := by
      rintro b m ⟨o, es, ep, e, d, r⟩
      exact ⟨o, es, ep, hide e (untracked e d), d, r⟩
    have kHid : K.In (hidT s1.heap H) := by
      intro b o e
      refine hide (inK b o e) (Classical.byContradiction fun q => ?_)
      have : b = a := only b q
      subst this
      rw [notK q] at e
      cases e
    obtain ⟨mc, lim1, lim2⟩ := noLim
    have hM : Mod K mg (hidT s1.heap H) := ⟨kHid, nsHid hns, ⟨mb, nsHid hb, hbb⟩, ⟨mc, nsHid lim1, lim2⟩⟩
    have e0 : Env0 P w K mg (hidT s1.heap H) callerA [] s1 H :=
      ⟨rfl, hM, fun b o e => of_hidT e, Nat.le_of_eq (hidT_size _ _), trivial, fun b hb => (nomatch (show b ∈ ([] : List Addr) from hb)), hok, AllBare.of_eq hgen⟩
    refine codeAny_mono ((F _ kHid (nsHid hns)).run callerA [] s1 H ⟨[.ref a], []⟩ [.ref a] [.ref a] _ _ rfl hr e0 (hbind s1 (.ref a)) (.cons rfl .nil) (hsp H hS)) fun r s' h => ?_
    match r, h with
    | .error e, h => exact h.elim
    | .ok .next, h => exact False.elim h
    | .ok .brk, h => exact False.elim h
    | .ok .cont, h => exact False.elim h
    | .ok (.ret u), ⟨v, H', os, bare, un, hok', r', q⟩ =>
      have q' : v = .bl true := q
      subst q'
      obtain rfl : u = Value.bool true := r'
      refine ⟨rfl, OldK.of_keep fun b o e => ?_, os, bare⟩
      rcases hO b with z | z
      · exact un.keep b o e z (by intro y; exact (nomatch (show b ∈ ([] : List Addr) from y))) (by simp)
      · have z2 := un.frzs b scr _ z
        obtain ⟨e1, _⟩ := hok b _ z
        obtain ⟨e2, _⟩ := hok' b _ z2
        rw [e] at e1
        cases e1
        exact e2
  have absent : (none : Option HO) ≠ none → False := fun z => z rfl
  match hk : K.lookup a with
  | some o =>
    have e := inK a o hk
    rw [ha] at e
    cases e
    exact main (fun _ => none) (fun _ => Or.inl rfl)
      (Or.inr ⟨_, vs.toArray, _, hk, rfl, rfl, rfl, by rw [List.size_toArray, lenV]; exact hl, by simpa using rv⟩)
      (fun b u z => nomatch (show (none : Option HO) = some u from z)) (fun b z => (absent z).elim) fun z => (absent z).elim
  | none =>
    refine main (fun b => if b = a then some (.frz scr (.lst (ns.map V.int))) else none) (fun b => ?_) (Or.inl (Or.inr ⟨scr, if_pos rfl⟩)) (fun b u z => ?_) (fun b z => ?_) fun _ => hk
    · by_cases hb : b = a
      · exact Or.inr (if_pos hb)
      · exact Or.inl (if_neg hb)
    · by_cases hb : b = a
      · have z' := (if_pos hb).symm.trans z
        cases z'
        subst hb
        exact ⟨ha, by rw [List.length_map]; exact hl, vs, _, rv, ha⟩
      · exact nomatch (if_neg hb).symm.trans z
    · by_cases hb : b = a
      · exact hb
      · exact absurd (if_neg hb) z
/-- what the head leaves, from such a promise of the law -/
theorem walk_ofG {l : PySem.W.OpenLaw} {n k : Nat} {q : Program} {loose : List Str} {XP : (Str → Option Value) → Heap → Prop} {YP : World → Heap → Prop}
    {d : DefRec} {K : Params → PySem.W.Frag} {sp : World → Sp} {x : Str}
    (hn : l.most = some n) (hn2 : n ≤ sizeLine) (hdf : d.params.defaults = []) (hr : Room k callerA)
    (hY : ∀ (w : World) (h : Heap), YP w h → (K w.params).In h)
    (F : ∀ (w : World) (mg : Str → Option Value) (fa : Addr) (h : Heap), (K w.params).In h → h.Ns mainGlobals mg → mg d.name = some (.ref fa) →
      ∃ fd : FuncData, (∀ (s : Shared) (u : Value), BindsTo s fd ⟨[u], []⟩ [(x, u)]) ∧
        ∀ base : Heap, (K w.params).In base → base.Ns mainGlobals mg → FnG l.prog w (K w.params) mg base CX0 k fa fd [x] (sp w))
    (hsp : ∀ (w : World) (H : Hp) (a : Addr) (ns : List Int), ns.length ≤ n → SqL (K w.params) H a (ns.map V.int) → sp w [.ref a] H (fun v _ => v = .bl true) fun _ _ _ => False) :
    PySem.W.WalkO q loose XP YP l.row.toRowW d [] (fun f vs => PySem.call f vs) := by
  refine Att.attach_call hn hdf ?_
  intro w s0 s1 mg mb fa o pm cd doc a vs ns G Y ho hd hcd hmg hobj hints hlen hgen
  have inK := hY w _ Y
  obtain ⟨fd, hb, hF⟩ := F w mg fa _ inK G.T.g hmg
  exact law_callG inK G.T.g G.T.b G.T.builtins G.T.nolimit hgen hobj hints (Nat.le_trans hlen hn2) hr hF hb fun H hS => hsp w H a ns hlen hS
end Vg
namespace Vg
open PySem PySem.Spec PyProof.Rows L2
/-- a def of the module, as its callers know it -/
structure Fn (P : Program) (w : World) (K : PySem.W.Frag) (mg : Str → Option Value) (base : Heap) (k : Nat) (x : Str) (ps : List Str) (sp : Sp) : Prop where
  ex : ∃ (f : Addr) (fd : FuncData), mg x = some (.ref f) ∧ PySem.W.keepIn K (.ref f) = true ∧ Binds K fd ps [] ∧ FnOk P w K mg base CX0 k f fd ps sp
/-- where a def of the module stands -/
structure At (K : PySem.W.Frag) (mg : Str → Option Value) (x : Str) (st : Stmt) : Prop where
  ex : ∃ (f : Addr) (fd : FuncData), mg x = some (.ref f) ∧ Fun K x x st f fd
section
variable {P : Program} {w : World} {K : PySem.W.Frag} {mg : Str → Option Value} {base : Heap} {k : Nat} {x : Str} {st : Stmt} {N ps : List Str} {sp : Sp}
/-- a def by its body -/
theorem At.fn (D : At K mg x st) (S : FnScope N ps (defScope st))
    (hb : ∀ (kV doc pm : Value) (an : Option Addr) (cdv ct : Value) (us : List Value), us.length = ps.length →
      bindArgs (PySem.W.fnOf x x (defArgs st) (defBody st) (defScope st) .none kV doc pm an cdv ct) ⟨us, []⟩ = pure (ps.zip us))
    (len : ∀ vs H Q E, sp vs H Q E → vs.length = ps.length)
    (body : ∀ (f : Addr) (cdv : Value) (A : Around) (outer : List Env) (s : Shared) (H : Hp) (vs : List V) (Q : VK) (E : XK),
      Room k (A.deeper (envOfC x (defScope st) s.heap.objs.size f cdv)) → sp vs H Q E →
      ∃ t, PSs (cxOf CX0 P w K mg base N x (defScope st) f cdv A outer s H E).nox (defBody st) t ∧ t { nx := fun _ H' => Q .non H', rt := Q } (start N vs) H) :
    Fn P w K mg base (k + 1) x ps sp := by
  obtain ⟨f, fd, hm, F⟩ := D.ex
  exact ⟨f, fd, hm, F.kp, F.binds hb, F.ok S len fun cdv A outer s H vs Q E hr h => body f cdv A outer s H vs Q E hr h⟩
end
section
variable {X : Cx} {k : Nat} {ps : List Str} {sp : Sp} {E : XK} {x : Str} {p pos : Pos} {e : Expr} {es : List Expr} {t : TA}
theorem pe_fn (F : Fn X.prog X.w X.K X.mg X.base k x ps sp) (hr : Room k X.A) (hg : Gl X x) (hx : Passes CX0 X E) (ha : PA X (e :: es) t)
    (hdb : (x == ("__debug__" : Str)) = false := by decide) (he : starEach (e :: es) X.env = (false, eval e X.env) :: starEach es X.env := by rfl)
    (hpl : (backTo pos (starEach es X.env)).any (·.1) = false := by rfl) : PE X (.Call (.Name x p) (e :: es) [] pos) (tCall sp [] E t) := by
  obtain ⟨f, fd, hm, hk, hb, F⟩ := F.ex
  exact pe_call F hr hg hm hk hb .nil hx ha hdb he hpl
end
/-- the built-in class of a value -/
inductive Tn (K : PySem.W.Frag) (H : Hp) : V → String → Prop
  | non : Tn K H .non "NoneType"
  | bl (b : Bool) : Tn K H (.bl b) "bool"
  | int (i : Int) : Tn K H (.int i) "int"
  | str (z : Str) : Tn K H (.str z) "str"
  | lst {a : Addr} {xs : List V} (h : H a = some (.lst xs)) : Tn K H (.ref a) "list"
  | tup {a : Addr} {xs : List V} (h : H a = some (.tup xs)) : Tn K H (.ref a) "tuple"
  | dct {a : Addr} {kvs : List (Key × V)} (h : H a = some (.dK kvs)) : Tn K H (.ref a) "dict"
theorem Tn.tyx {K : PySem.W.Frag} {H : Hp} {v : V} {n : String} (h : Tn K H v n) : TyX K H v (.type n) := by
  cases h with
  | non => exact .base .non
  | bl b => exact .base (.bl b)
  | int i => exact .base (.int i)
  | str z => exact .base (.str z)
  | lst h => exact .base (.lst h)
  | tup h => exact .base (.tup h)
  | dct h => exact .base (.dK h)
section
variable {X : Cx}
theorem cr_isi : CallR X (.builtin "isinstance") (fun xs H Q => ∃ x n c b, xs = [x, .ty c] ∧ Tn X.K H x n ∧ kitB n c = some b ∧ Q (.bl b) H) := by
  intro pins s σ H xs us Q I r h
  obtain ⟨x, n, c, b, rfl, ht, hk, q⟩ := h
  exact call_isi pins s σ H _ us Q I r ⟨x, .ty c, .type n, .type c, b, rfl, .ty c, ht.tyx, kit_ty hk, q⟩
end
end Vg
namespace Vg
open PySem PySem.Spec PyProof.Rows L2
/-- what a purse's list holds, with n draws left at least -/
def Pu (l : List V) (n : Nat) : Prop :=
  ∃ a b c : Int, l = [.int a, .int b, .int c] ∧ 0 ≤ a ∧ 0 ≤ b ∧ b < 2147483629 ∧ 0 ≤ c ∧ c + n ≤ 100000
def Pz (H : Hp) (p : Addr) (n : Nat) : Prop := ∃ l, H p = some (.lst l) ∧ Pu l n
theorem Pz.mono {H : Hp} {p : Addr} {n m : Nat} (h : Pz H p n) (hm : m ≤ n) : Pz H p m := by
  obtain ⟨l, h1, a, b, c, h2, h3, h4, h5, h6, h7⟩ := h
  exact ⟨l, h1, a, b, c, h2, h3, h4, h5, h6, by omega⟩
theorem Pz.upd {H : Hp} {p : Addr} {n : Nat} {l : List V} (h : Pu l n) : Pz (upd H p (.lst l)) p n := ⟨l, upd_same, h⟩
theorem Pz.same {H H' : Hp} {p : Addr} {n : Nat} (h : Pz H p n) (s : Same H H') : Pz H' p n := by
  obtain ⟨l, h1, h2⟩ := h
  exact ⟨l, s _ _ h1, h2⟩
/-- all but the object at p is as it was -/
def But (p : Addr) (H H' : Hp) : Prop := ∀ b o, b ≠ p → H b = some o → H' b = some o
theorem But.refl (p : Addr) (H : Hp) : But p H H := fun _ _ _ h => h
theorem But.trans {p : Addr} {H H1 H2 : Hp} (a : But p H H1) (b : But p H1 H2) : But p H H2 := fun c o n h => b c o n (a c o n h)
theorem But.of {p : Addr} {H H' : Hp} (s : Same H H') : But p H H' := fun b o _ h => s b o h
theorem But.upd {p : Addr} {H : Hp} {o : HO} : But p H (upd H p o) := fun b u n h => by rw [upd_ne n]; exact h
theorem But.new {p q : Addr} {H : Hp} {o : HO} (h : H q = none) : But p H (L2.upd H q o) := fun b u n e => by rw [upd_ne (ne_of_none e h)]; exact e
theorem Same.new {q : Addr} {H : Hp} {o : HO} (h : H q = none) : Same H (L2.upd H q o) := fun b u e => by rw [upd_ne (ne_of_none e h)]; exact e
theorem But.free {p q : Addr} {H H' : Hp} (s : But p H H') (h : H' q = none) (n : q ≠ p) : H q = none := by
  cases e : H q with
  | none => rfl
  | some o => rw [s q o n e] at h; cases h
/-- one draw -/
def spTake : Sp := fun vs H Q _ => ∃ (p : Addr) (m : Int) (n : Nat), vs = [.ref p, .int m] ∧ 0 < m ∧ m.natAbs < 2 ^ 200 ∧ Pz H p (n + 1) ∧
  ∀ (r : Int) (l : List V), 0 ≤ r → r < m → Pu l n → Q (.int r) (upd H p (.lst l))
theorem take_pow {i : Int} {e : Int} (h0 : 0 ≤ i) (h : i < 18446744073709551616) (he : 0 ≤ e) (he2 : e ≤ 1000000) : 0 ≤ e ∧ e ≤ 1000000 ∧ i.natAbs < 2 ^ 64 := ⟨he, he2, by omega⟩
end Vg
namespace Vg
open PySem PySem.Spec PyProof.Rows L2
/-- a cell of the script, whatever it holds -/
def spCell (K : PySem.W.Frag) : Sp := fun vs H Q _ => ∃ (a : Addr) (ns : List Int) (k : Int), vs = [.ref a, .int k] ∧ SqL K H a (ns.map V.int) ∧ 0 ≤ k ∧ k < 1000000 ∧
  ∀ z : Int, Q (.int z) H
/-- a new purse -/
def spPurse : Sp := fun vs H Q _ => ∃ z : Int, vs = [.int z] ∧ ∀ (p : Addr) (l : List V), H p = none → Pu l 90000 → Q (.ref p) (upd H p (.lst l))
/-- the greatest number that divides both -/
def gcdI (a b : Int) : Int := ((Nat.gcd a.natAbs b.natAbs : Nat) : Int)
def spCommon : Sp := fun vs H Q _ => ∃ a b : Int, vs = [.int a, .int b] ∧ Q (.int (gcdI a b)) H
theorem gcd_step {a b : Int} (ha : 0 ≤ a) (hb : 0 < b) : gcdI b (a % b) = gcdI a b := by
  unfold gcdI
  have e : (a % b).natAbs = a.natAbs % b.natAbs := by
    have h1 : (a % b) = ((a.natAbs % b.natAbs : Nat) : Int) := by
      rw [Int.natCast_emod, Int.natAbs_of_nonneg ha, Int.natAbs_of_nonneg (Int.le_of_lt hb)]
    rw [h1]; rfl
  rw [e, Nat.gcd_comm b.natAbs, ← Nat.gcd_rec, Nat.gcd_comm]
theorem gcd_abs (a b : Int) : gcdI (if a < 0 then -a else a) (if b < 0 then -b else b) = gcdI a b := by
  unfold gcdI
  have h : ∀ z : Int, (if z < 0 then -z else z).natAbs = z.natAbs := fun z => by split <;> simp
  rw [h, h]
theorem gcd_zero {a : Int} (ha : 0 ≤ a) : gcdI a 0 = a := by
  unfold gcdI
  simp [Int.natAbs_of_nonneg ha]
/-- whether a value is a whole number -/
def isNum : V → Bool
  | .int _ => true
  | _ => false
def spNum (K : PySem.W.Frag) : Sp := fun vs H Q _ => ∃ (v : V) (n : String), vs = [v] ∧ Tn K H v n ∧ Q (.bl (isNum v)) H
theorem kit_int {K : PySem.W.Frag} {H : Hp} {v : V} {n : String} (h : Tn K H v n) : ∃ b c, kitB n "int" = some b ∧ (b = true → kitB n "bool" = some c) ∧ (b && !c) = isNum v := by
  cases h with
  | non => exact ⟨false, false, by decide +kernel, fun z => Bool.noConfusion z, rfl⟩
  | bl b => exact ⟨true, true, by decide +kernel, fun _ => by decide +kernel, rfl⟩
  | int i => exact ⟨true, false, by decide +kernel, fun _ => by decide +kernel, rfl⟩
  | str z => exact ⟨false, false, by decide +kernel, fun z => Bool.noConfusion z, rfl⟩
  | lst h => exact ⟨false, false, by decide +kernel, fun z => Bool.noConfusion z, rfl⟩
  | tup h => exact ⟨false, false, by decide +kernel, fun z => Bool.noConfusion z, rfl⟩
  | dct h => exact ⟨false, false, by decide +kernel, fun z => Bool.noConfusion z, rfl⟩
end Vg
namespace Vg
open PySem PySem.Spec PyProof.Rows L2
def kD : Key → PyData
  | .inl i => .int i
  | .inr x => .str x
/-! what a value tells as data, whose objects stand at addresses of a kind -/
mutual
inductive Dq (ok : Addr → Prop) (H : Hp) : V → PyData → Prop
  | non : Dq ok H .non .none
  | bl (b : Bool) : Dq ok H (.bl b) (.bool b)
  | int (i : Int) : Dq ok H (.int i) (.int i)
  | str (x : Str) : Dq ok H (.str x) (.str x)
  | lst {a : Addr} {xs : List V} {ds : List PyData} (o : ok a) (h : H a = some (.lst xs)) (r : DqL ok H xs ds) : Dq ok H (.ref a) (.list ds)
  | tup {a : Addr} {xs : List V} {ds : List PyData} (o : ok a) (h : H a = some (.tup xs)) (r : DqL ok H xs ds) : Dq ok H (.ref a) (.tuple ds)
  | dct {a : Addr} {kvs : List (Key × V)} {es : List (PyData × PyData)} (o : ok a) (h : H a = some (.dK kvs)) (k : kvs.map (fun kv => kD kv.1) = es.map (·.1))
      (r : DqL ok H (kvs.map (·.2)) (es.map (·.2))) : Dq ok H (.ref a) (.dict es)
inductive DqL (ok : Addr → Prop) (H : Hp) : List V → List PyData → Prop
  | nil : DqL ok H [] []
  | cons {v : V} {vs : List V} {d : PyData} {ds : List PyData} (h : Dq ok H v d) (r : DqL ok H vs ds) : DqL ok H (v :: vs) (d :: ds)
end
mutual
theorem Dq.mono {ok ok' : Addr → Prop} {H H' : Hp} (s : ∀ a o, ok a → H a = some o → H' a = some o) (w : ∀ a o, ok a → H a = some o → ok' a) : ∀ {v : V} {d : PyData}, Dq ok H v d → Dq ok' H' v d
  | _, _, .non => .non
  | _, _, .bl b => .bl b
  | _, _, .int i => .int i
  | _, _, .str x => .str x
  | _, _, .lst o h r => .lst (w _ _ o h) (s _ _ o h) (DqL.mono s w r)
  | _, _, .tup o h r => .tup (w _ _ o h) (s _ _ o h) (DqL.mono s w r)
  | _, _, .dct o h k r => .dct (w _ _ o h) (s _ _ o h) k (DqL.mono s w r)
theorem DqL.mono {ok ok' : Addr → Prop} {H H' : Hp} (s : ∀ a o, ok a → H a = some o → H' a = some o) (w : ∀ a o, ok a → H a = some o → ok' a) : ∀ {vs : List V} {ds : List PyData}, DqL ok H vs ds → DqL ok' H' vs ds
  | _, _, .nil => .nil
  | _, _, .cons h r => .cons (Dq.mono s w h) (DqL.mono s w r)
end
theorem DqL.len {ok : Addr → Prop} {H : Hp} : ∀ {vs : List V} {ds : List PyData}, DqL ok H vs ds → vs.length = ds.length
  | _, _, .nil => rfl
  | _, _, .cons _ r => congrArg Nat.succ (DqL.len r)
theorem DqL.app {ok : Addr → Prop} {H : Hp} : ∀ {vs ws : List V} {ds es : List PyData}, DqL ok H vs ds → DqL ok H ws es → DqL ok H (vs ++ ws) (ds ++ es)
  | _, _, _, _, .nil, b => b
  | _, _, _, _, .cons h r, b => .cons h (DqL.app r b)
theorem DqL.get {ok : Addr → Prop} {H : Hp} : ∀ {vs : List V} {ds : List PyData} {i : Nat} {d : PyData}, DqL ok H vs ds → ds[i]? = some d → ∃ v, vs[i]? = some v ∧ Dq ok H v d
  | _, _, i, _, .nil, e => by simp at e
  | _, _, 0, _, .cons h _, e => by
    simp at e
    subst e
    exact ⟨_, rfl, h⟩
  | _, _, i + 1, d, .cons _ r, e => by
    obtain ⟨v, h1, h2⟩ := DqL.get (i := i) (d := d) r (by simpa using e)
    exact ⟨v, by simpa using h1, h2⟩
theorem Dq.tn {ok : Addr → Prop} {K : PySem.W.Frag} {H : Hp} {v : V} {d : PyData} (h : Dq ok H v d) : ∃ n, Tn K H v n := by
  cases h with
  | non => exact ⟨_, .non⟩
  | bl b => exact ⟨_, .bl b⟩
  | int i => exact ⟨_, .int i⟩
  | str x => exact ⟨_, .str x⟩
  | lst o h r => exact ⟨_, .lst h⟩
  | tup o h r => exact ⟨_, .tup h⟩
  | dct o h k r => exact ⟨_, .dct h⟩
/-- an expression that makes such data of new objects -/
def Mk1 (t : TE) (d : PyData) : Prop := ∀ (σ : L2.St) (H : Hp) (Q : VK), (∀ v H', Same H H' → Dq (fun a => H a = none) H' v d → Q v H') → t σ H Q
def MkL (t : TA) (ds : List PyData) : Prop := ∀ (σ : L2.St) (H : Hp) (Q : List V → Hp → Prop), (∀ vs H', Same H H' → DqL (fun a => H a = none) H' vs ds → Q vs H') → t σ H Q
theorem mk_non : Mk1 (tC .non) .none := fun _ H _ q => q _ _ (Same.refl H) .non
theorem mk_bl (b : Bool) : Mk1 (tC (.bl b)) (.bool b) := fun _ H _ q => q _ _ (Same.refl H) (.bl b)
theorem mk_int (i : Int) : Mk1 (tC (.int i)) (.int i) := fun _ H _ q => q _ _ (Same.refl H) (.int i)
theorem mk_str (x : Str) : Mk1 (tC (.str x)) (.str x) := fun _ H _ q => q _ _ (Same.refl H) (.str x)
/-- one that gives a number without making anything -/
def MkI (t : TE) (i : Int) : Prop := ∀ (σ : L2.St) (H : Hp) (Q : VK), Q (.int i) H → t σ H Q
theorem mki_c (i : Int) : MkI (tC (.int i)) i := fun _ _ _ q => q
theorem mki_neg {t : TE} {i : Int} (h : MkI t i) : MkI (tUn (rU fun i => .int (-i)) t) (-i) := fun σ H Q q => h σ H _ ⟨i, rfl, q⟩
theorem mki_pow {t u : TE} {i j : Int} (h : MkI t i) (k : MkI u j) (hc : 0 ≤ j ∧ j ≤ 1000000 ∧ i.natAbs < 2 ^ 64 := by decide) : MkI (tOp (rI CPow fun i j => .int (i ^ j.toNat)) t u) (i ^ j.toNat) :=
  fun σ H Q q => h σ H _ (k σ H _ ⟨i, j, rfl, rfl, hc, q⟩)
theorem mk_of {t : TE} {i : Int} (h : MkI t i) : Mk1 t (.int i) := fun σ H Q q => h σ H _ (q _ _ (Same.refl H) (.int i))
theorem mkl_nil : MkL tNil [] := fun _ H _ q => q _ _ (Same.refl H) .nil
theorem mkl_cons {t : TE} {u : TA} {d : PyData} {ds : List PyData} (h : Mk1 t d) (k : MkL u ds) : MkL (tCons t u) (d :: ds) := by
  intro σ H Q q
  refine h σ H _ fun v H1 s1 r1 => ?_
  refine k σ H1 _ fun vs H2 s2 r2 => ?_
  exact q _ _ (s1.trans s2) (.cons (r1.mono (fun a o _ e => s2 a o e) fun a o h _ => h) (r2.mono (fun a o _ e => e) fun a o h _ => s1.free h))
theorem mk_lst {t : TA} {ds : List PyData} (h : MkL t ds) (hz : ds.length ≤ 1000 := by decide) : Mk1 (tLst t) (.list ds) := by
  intro σ H Q q
  refine h σ H _ fun vs H1 s1 r => ⟨?_, fun p hp => ?_⟩
  · rw [r.len]
    exact Nat.le_trans hz (by decide)
  · exact q _ _ (s1.trans (Same.new hp)) (.lst (s1.free hp) upd_same (r.mono (fun a o _ e => Same.new hp a o e) fun a o h _ => h))
theorem mk_tup {t : TA} {ds : List PyData} (h : MkL t ds) (hz : ds.length ≤ 1000 := by decide) : Mk1 (tTup t) (.tuple ds) := by
  intro σ H Q q
  refine h σ H _ fun vs H1 s1 r => ⟨?_, fun p hp => ?_⟩
  · rw [r.len]
    exact Nat.le_trans hz (by decide)
  · exact q _ _ (s1.trans (Same.new hp)) (.tup (s1.free hp) upd_same (r.mono (fun a o _ e => Same.new hp a o e) fun a o h _ => h))
theorem mk_dct0 : Mk1 tDNewK (.dict []) := fun σ H Q q p hp => q _ _ (Same.new hp) (.dct hp upd_same rfl .nil)
theorem mk_dct1 {t : TE} {d : PyData} (k : Key) (h : Mk1 t d) : Mk1 (tDisp [(tC (kV k), t)]) (.dict [(kD k, d)]) := by
  intro σ H Q q p hp
  refine h σ _ _ fun v H1 s1 r => ?_
  have e1 : H1 p = some (.dK []) := s1 _ _ upd_same
  refine ⟨e1, [(k, v)], rfl, (by show 1 ≤ 15; decide), ?_⟩
  have sH : Same H (L2.upd H1 p (.dK (mergeK [] [(k, v)]))) := fun b o e => by
    have n := ne_of_none e hp
    rw [upd_ne n]
    exact s1 _ _ (by rw [upd_ne n]; exact e)
  refine q _ _ sH (.dct (kvs := [(k, v)]) (es := [(kD k, d)]) hp upd_same rfl (.cons (r.mono (fun a o ho e => ?_) fun a o ho e => ?_) .nil))
  · have n : a ≠ p := fun z => by rw [z, upd_same] at ho; cases ho
    rw [upd_ne n]
    exact e
  · have n : a ≠ p := fun z => by rw [z, upd_same] at ho; cases ho
    rw [upd_ne n] at ho
    exact ho
/-- name = such an expression -/
theorem sq_set {te : TE} {i : Nat} {u : TS} {D : Ends} {σ : L2.St} {H : Hp} {d : PyData} (h : Mk1 te d)
    (k : ∀ v H', Same H H' → Dq (fun a => H a = none) H' v d → u D (σ.set i (some v)) H') : tSeq (tAsg te (gName i)) u D σ H := h σ H _ k
/-- a list's name + such a list -/
theorem mk_cat {i : Nat} {te : TE} {σ : L2.St} {H : Hp} {Q : VK} {a : Addr} {xs : List V} {ds es : List PyData} {ok : Addr → Prop} (h : Mk1 te (.list es)) (hi : σ[i]? = some (some (.ref a))) (ha : H a = some (.lst xs)) (hd : DqL ok H xs ds)
    (hz : ds.length + es.length ≤ 1000) (ho : ∀ b, H b = none → ok b)
    (k : ∀ (p : Addr) (ys : List V) (H' : Hp), Same H H' → H p = none → H' p = some (.lst (xs ++ ys)) → DqL ok H' (xs ++ ys) (ds ++ es) → Q (.ref p) H') : tOp rCat (tVar i) te σ H Q := by
  refine ⟨_, hi, h σ H _ fun v H1 s1 r => ?_⟩
  cases r with
  | @lst b ys _ ob hb rb =>
  refine ⟨a, b, xs, ys, rfl, rfl, s1 _ _ ha, hb, ?_, fun p hp => ?_⟩
  · rw [hd.len, rb.len]
    exact Nat.le_trans hz (by decide)
  · have s2 : Same H1 (L2.upd H1 p (.lst (xs ++ ys))) := Same.new hp
    refine k p ys _ (s1.trans s2) (s1.free hp) upd_same (DqL.app (hd.mono (fun c o _ e => s2 _ _ (s1 _ _ e)) fun c o hc _ => hc) (rb.mono (fun c o _ e => s2 _ _ e) fun c o hc _ => ho c hc))
end Vg
namespace Vg
open PySem PySem.Spec PyProof.Rows L2
theorem pickV {xs : List V} {r : Int} (h0 : 0 ≤ r) (h1 : r < xs.length) : ∃ v, v ∈ xs ∧ atI xs r = some v := by
  obtain ⟨j, rfl⟩ : ∃ j : Nat, r = (j : Int) := ⟨r.toNat, by omega⟩
  have hj : j < xs.length := by omega
  exact ⟨xs[j], List.getElem_mem hj, atI_nat (List.getElem?_eq_getElem hj)⟩
theorem pickI {zs : List Int} {r : Int} (h0 : 0 ≤ r) (h1 : r < zs.length) : ∃ z, z ∈ zs ∧ atI (zs.map V.int) r = some (.int z) := by
  obtain ⟨v, h2, h3⟩ := pickV (xs := zs.map V.int) h0 (by rw [List.length_map]; exact h1)
  obtain ⟨z, h4, rfl⟩ := List.mem_map.mp h2
  exact ⟨z, h4, h3⟩
theorem Pz.new {H : Hp} {p q : Addr} {n : Nat} {o : HO} (h : Pz H p n) (hq : H q = none) : Pz (L2.upd H q o) p n := h.same (Same.new hq)
theorem Pz.ne {H : Hp} {p q : Addr} {n : Nat} (h : Pz H p n) (hq : H q = none) : q ≠ p := by
  obtain ⟨l, h1, _⟩ := h
  exact (ne_of_none h1 hq).symm
/-- a whole number of at most thirty figures -/
def spWhole : Sp := fun vs H Q _ => ∃ (p : Addr) (n : Nat), vs = [.ref p] ∧ Pz H p (n + 6) ∧
  ∀ (z : Int) (H' : Hp), z.natAbs < 10 ^ 30 → But p H H' → Pz H' p n → Q (.int z) H'
end Vg
namespace Vg
open PySem PySem.Spec PyProof.Rows L2
/-- some data that a value tells -/
def Dk (H : Hp) (v : V) (d : PyData) : Prop := ∃ ok, Dq ok H v d
theorem Dk.tn {K : PySem.W.Frag} {H : Hp} {v : V} {d : PyData} (h : Dk H v d) : ∃ n, Tn K H v n := by
  obtain ⟨_, h⟩ := h
  exact h.tn
theorem Dk.same {H H' : Hp} {v : V} {d : PyData} (h : Dk H v d) (s : Same H H') : Dk H' v d := by
  obtain ⟨ok, h⟩ := h
  exact ⟨ok, h.mono (fun a o _ e => s _ _ e) fun a o k _ => k⟩
def numD : PyData → Bool
  | .int _ => true
  | _ => false
theorem isNum_of {ok : Addr → Prop} {H : Hp} {v : V} {d : PyData} (h : Dq ok H v d) : isNum v = numD d := by
  cases h <;> rfl
/-- a whole number from lo to hi -/
def wholeV (lo hi : Int) : V → Bool
  | .int i => decide (lo ≤ i ∧ i ≤ hi)
  | _ => false
def spWholeIn (K : PySem.W.Frag) : Sp := fun vs H Q _ => ∃ (v : V) (n : String) (lo hi : Int), vs = [v, .int lo, .int hi] ∧ Tn K H v n ∧ Q (.bl (wholeV lo hi v)) H
theorem num_int {v : V} (h : isNum v = true) : ∃ i, v = .int i := by
  cases v with
  | int i => exact ⟨i, rfl⟩
  | _ => cases h
theorem whole_no {lo hi : Int} {v : V} (h : isNum v = false) : wholeV lo hi v = false := by
  cases v with
  | int i => cases h
  | _ => rfl
/-- a tuple of two -/
def pairD : PyData → Bool
  | .tuple ds => decide (ds.length = 2)
  | _ => false
def spPair : Sp := fun vs H Q _ => ∃ (v : V) (d : PyData), vs = [v] ∧ Dk H v d ∧ Q (.bl (pairD d)) H
def fracD : PyData → Bool
  | .tuple [.int a, .int b] => decide (1 ≤ b) && decide (gcdI a b = 1)
  | _ => false
def spFrac : Sp := fun vs H Q _ => ∃ (v : V) (d : PyData), vs = [v] ∧ Dk H v d ∧ Q (.bl (fracD d)) H
theorem Dk.two {H : Hp} {v : V} {d : PyData} (h : Dk H v d) (hp : pairD d = true) : ∃ a x y dx dy, v = .ref a ∧ H a = some (.tup [x, y]) ∧ d = .tuple [dx, dy] ∧ Dk H x dx ∧ Dk H y dy := by
  obtain ⟨ok, h⟩ := h
  cases h with
  | @tup a xs ds o h r =>
    have hl : ds.length = 2 := of_decide_eq_true hp
    match ds, hl with
    | [dx, dy], _ =>
      match r with
      | .cons r1 (.cons r2 .nil) => exact ⟨a, _, _, dx, dy, rfl, h, rfl, ⟨ok, r1⟩, ⟨ok, r2⟩⟩
  | _ => cases hp
theorem frac_nopair {d : PyData} (h : pairD d = false) : fracD d = false := by
  unfold fracD
  split
  · cases h
  · rfl
theorem frac_nonum {dx dy : PyData} (h : (numD dx && numD dy) = false) : fracD (.tuple [dx, dy]) = false := by
  unfold fracD
  split
  · rename_i a b e
    injection e with e
    injection e with e1 e2
    injection e2 with e2 _
    subst e1 e2
    cases h
  · rfl
/-- one sign from a to z, as both looks ask for it -/
def smallC (c : Nat) : Bool := if (!decide ((⟨#[c]⟩ : Str).cps.toList < ("a" : Str).cps.toList)) = true then !decide (("z" : Str).cps.toList < (⟨#[c]⟩ : Str).cps.toList) else false
def nameV : V → Bool
  | .str z => decide (1 ≤ z.length ∧ z.length ≤ 6) && z.cps.toList.all smallC
  | _ => false
def spName (K : PySem.W.Frag) : Sp := fun vs H Q _ => ∃ (v : V) (n : String), vs = [v] ∧ Tn K H v n ∧ (∀ z, v = .str z → z.length ≤ 100000 ∧ PyData.strOk z = true) ∧ ∀ H', Same H H' → Q (.bl (nameV v)) H'
theorem kit_str {K : PySem.W.Frag} {H : Hp} {v : V} {n : String} (h : Tn K H v n) : ∃ b, kitB n "str" = some b ∧ (b = true → ∃ z, v = .str z) ∧ (b = false → nameV v = false) := by
  cases h with
  | str z => exact ⟨true, by decide +kernel, fun _ => ⟨z, rfl⟩, fun z => Bool.noConfusion z⟩
  | non => exact ⟨false, by decide +kernel, fun z => Bool.noConfusion z, fun _ => rfl⟩
  | bl b => exact ⟨false, by decide +kernel, fun z => Bool.noConfusion z, fun _ => rfl⟩
  | int i => exact ⟨false, by decide +kernel, fun z => Bool.noConfusion z, fun _ => rfl⟩
  | lst h => exact ⟨false, by decide +kernel, fun z => Bool.noConfusion z, fun _ => rfl⟩
  | tup h => exact ⟨false, by decide +kernel, fun z => Bool.noConfusion z, fun _ => rfl⟩
  | dct h => exact ⟨false, by decide +kernel, fun z => Bool.noConfusion z, fun _ => rfl⟩
theorem kit_tuple {K : PySem.W.Frag} {H : Hp} {v : V} {d : PyData} (h : Dk H v d) : ∃ n b, Tn K H v n ∧ kitB n "tuple" = some b ∧ (b = true → ∃ a xs ds, v = .ref a ∧ H a = some (.tup xs) ∧ d = .tuple ds ∧ xs.length = ds.length) ∧ (b = false → pairD d = false) := by
  obtain ⟨ok, h⟩ := h
  cases h with
  | tup o h r => exact ⟨_, true, .tup h, by decide +kernel, fun _ => ⟨_, _, _, rfl, h, rfl, r.len⟩, fun z => Bool.noConfusion z⟩
  | non => exact ⟨_, false, .non, by decide +kernel, fun z => Bool.noConfusion z, fun _ => rfl⟩
  | bl b => exact ⟨_, false, .bl b, by decide +kernel, fun z => Bool.noConfusion z, fun _ => rfl⟩
  | int i => exact ⟨_, false, .int i, by decide +kernel, fun z => Bool.noConfusion z, fun _ => rfl⟩
  | str z => exact ⟨_, false, .str z, by decide +kernel, fun z => Bool.noConfusion z, fun _ => rfl⟩
  | lst o h r => exact ⟨_, false, .lst h, by decide +kernel, fun z => Bool.noConfusion z, fun _ => rfl⟩
  | dct o h k r => exact ⟨_, false, .dct h, by decide +kernel, fun z => Bool.noConfusion z, fun _ => rfl⟩
end Vg
namespace Vg
open PySem PySem.Spec PyProof.Rows L2
theorem take_sign {z : Str} {i c : Nat} (h : z.cps[i]? = some c) : z.cps.toList.take (i + 1) = z.cps.toList.take i ++ [c] := by
  have e : z.cps.toList[i]? = some c := by rw [Array.getElem?_toList]; exact h
  obtain ⟨h1, h2⟩ := List.getElem?_eq_some_iff.mp e
  rw [List.take_succ, e]
  rfl
theorem take_signs {z : Str} : z.cps.toList.take z.cps.size = z.cps.toList := by
  rw [List.take_of_length_le]
  simp
theorem size_sign {z : Str} {i c : Nat} (h : z.cps[i]? = some c) : i < z.cps.size := by
  obtain ⟨h1, _⟩ := Array.getElem?_eq_some_iff.mp h
  exact h1
theorem upd_in {H : Hp} {a b : Addr} {o u : HO} (h : H b = some u) (hn : a ≠ b) : L2.upd H a o b = some u := by
  rw [upd_ne hn.symm]
  exact h
/-- a change at an address that was free keeps all that was -/
theorem Same.mut {H H' : Hp} {p : Addr} {o : HO} (s : Same H H') (h : H p = none) : Same H (L2.upd H' p o) := fun b u e => by
  rw [upd_ne (ne_of_none e h)]
  exact s b u e
theorem bools_all {xs : List Nat} : (xs.map smallC).all id = xs.all smallC := by
  induction xs with
  | nil => rfl
  | cons x xs ih => simp [List.all_cons]
theorem name_of {z : Str} (h : 1 ≤ z.length ∧ z.length ≤ 6) : nameV (.str z) = z.cps.toList.all smallC := by
  unfold nameV
  simp [h]
theorem name_no {z : Str} (h : ¬ (1 ≤ z.length ∧ z.length ≤ 6)) : nameV (.str z) = false := by
  show (decide (1 ≤ z.length ∧ z.length ≤ 6) && z.cps.toList.all smallC) = false
  rw [decide_eq_false h]
  rfl
/-- the data of some signs, each a text -/
def signsD (xs : List Nat) : List PyData := xs.map fun c => .str ⟨#[c]⟩
theorem dp_signs {K : PySem.W.Frag} {H : Hp} : ∀ xs : List Nat, DpAll K H (xs.map fun c => V.str ⟨#[c]⟩) (signsD xs)
  | [] => .nil
  | x :: xs => .cons (.str _) (dp_signs xs)
theorem eqv_signs (xs : List Nat) : PyData.eqv (.list (signsD xs)) (.list []) = xs.isEmpty := by
  cases xs with
  | nil => simp [signsD, PyData.eqv, PyData.eqvAll]
  | cons x xs => simp [signsD, PyData.eqv, PyData.eqvAll]
theorem strOk_mem {z : Str} (h : PyData.strOk z = true) : ∀ c ∈ z.cps.toList, c < 1114112 := by
  intro c hc
  unfold PyData.strOk at h
  rw [← Array.all_toList, List.all_eq_true] at h
  exact of_decide_eq_true (h c hc)
theorem lay_signs (xs : List Nat) (hx : ∀ c ∈ xs, c < 1114112) : SeqAt.shaped (.list (signsD xs)) = true := by
  have h : ∀ xs : List Nat, (∀ c ∈ xs, c < 1114112) → PyData.canLayAll0 (signsD xs) = true ∧ PyData.depthAll (signsD xs) ≤ 0 := by
    intro xs
    induction xs with
    | nil => exact fun _ => ⟨by simp [signsD, PyData.canLayAll0], by simp [signsD, PyData.depthAll]⟩
    | cons x xs ih =>
      intro hx
      obtain ⟨h1, h2⟩ := ih fun c hc => hx c (List.mem_cons_of_mem _ hc)
      have h0 := hx x (List.mem_cons_self ..)
      refine ⟨?_, ?_⟩
      · simp only [signsD, List.map_cons, PyData.canLayAll0, PyData.canLay0, Bool.and_eq_true]
        refine ⟨?_, h1⟩
        unfold PyData.strOk
        simp [h0]
      · simp only [signsD, List.map_cons, PyData.depthAll, PyData.depth]
        have h2' : PyData.depthAll (List.map (fun c => PyData.str ⟨#[c]⟩) xs) ≤ 0 := h2
        simp only [Nat.le_zero] at h2' ⊢
        rw [h2']
        rfl
  obtain ⟨h1, h2⟩ := h xs hx
  unfold SeqAt.shaped
  have h3 : PyData.depthAll (signsD xs) = 0 := Nat.le_zero.mp h2
  have h4 : (PyData.list (signsD xs)).depth ≤ 64 := by
    simp only [PyData.depth]
    omega
  rw [decide_eq_true h4]
  simp only [PyData.canLay0, Bool.and_true]
  exact h1
theorem filter_empty {p : Nat → Bool} {xs : List Nat} : (xs.filter fun c => !p c).isEmpty = xs.all p := by
  induction xs with
  | nil => rfl
  | cons x xs ih =>
    cases e : p x with
    | true => simp [List.filter_cons, e, ih]
    | false => simp [List.filter_cons, e]
/-- a turn of a comprehension without a test -/
theorem lc_keep {te : TE} {σ : L2.St} {H : Hp} {R : VK} {L : Hp → Prop} (h : te σ H R) :
    tYes σ H (fun b H3 => if b = true then te σ H3 R else L H3) := by
  show (if true = true then te σ H R else L H)
  rw [if_pos rfl]
  exact h
end Vg
namespace Vg
open PySem PySem.Spec PyProof.Rows L2
/-- a text of at most n signs, each one that there is -/
structure Tx (n : Nat) (z : Str) : Prop where
  len : z.cps.toList.length ≤ n
  ok : ∀ c ∈ z.cps.toList, c < 1114112
theorem Tx.strOk {n : Nat} {z : Str} (h : Tx n z) : PyData.strOk z = true := by
  unfold PyData.strOk
  rw [← Array.all_toList, List.all_eq_true]
  exact fun c hc => decide_eq_true (h.ok c hc)
theorem Tx.length {n : Nat} {z : Str} (h : Tx n z) : z.length ≤ n := by
  have e : z.length = z.cps.toList.length := by simp [Str.length]
  rw [e]
  exact h.len
theorem Tx.mono {n m : Nat} {z : Str} (h : Tx n z) (hm : n ≤ m) : Tx m z := ⟨Nat.le_trans h.len hm, h.ok⟩
theorem toList_app (x y : Str) : (x ++ y).cps.toList = x.cps.toList ++ y.cps.toList := by
  show (x.cps ++ y.cps).toList = _
  simp
theorem Tx.app {n m : Nat} {x y : Str} (h : Tx n x) (k : Tx m y) : Tx (n + m) (x ++ y) := by
  refine ⟨?_, fun c hc => ?_⟩
  · rw [toList_app, List.length_append]
    have := h.len
    have := k.len
    omega
  · rw [toList_app] at hc
    rcases List.mem_append.mp hc with hc | hc
    · exact h.ok c hc
    · exact k.ok c hc
theorem Tx.cut {n : Nat} {z : Str} (h : Tx n z) (lo hi : Option Int) : Tx n (cutS z lo hi) := by
  refine ⟨?_, fun c hc => ?_⟩
  · show (((z.cps.toList.drop _).take _).toArray).toList.length ≤ n
    have := h.len
    simp only [List.length_take, List.length_drop]
    omega
  · have hc' : c ∈ ((z.cps.toList.drop (HT.sIx z.length 0 lo)).take (HT.sIx z.length z.length hi - HT.sIx z.length 0 lo)) := by
      simpa [cutS] using hc
    exact h.ok c (List.mem_of_mem_drop (List.mem_of_mem_take hc'))
theorem Tx.one {c : Nat} (h : c < 1114112) : Tx 1 ⟨#[c]⟩ := ⟨by simp, fun d hd => by simp at hd; omega⟩
theorem Tx.join : ∀ {ys : List Str}, (∀ y ∈ ys, Tx 1 y) → Tx ys.length (Txt.join "" ys) := by
  intro ys
  rw [TL.join_eq]
  induction ys with
  | nil => intro _; exact ⟨by decide, fun c hc => by simp [Str.join] at hc; exact absurd hc (by decide +revert)⟩
  | cons y ys ih =>
    intro h
    cases ys with
    | nil => exact h y (List.mem_cons_self ..)
    | cons z zs =>
      have h1 := h y (List.mem_cons_self ..)
      have h2 := ih fun x hx => h x (List.mem_cons_of_mem _ hx)
      have e : Str.join "" (y :: z :: zs) = y ++ "" ++ Str.join "" (z :: zs) := rfl
      have h3 : Tx 0 ("" : Str) := ⟨by decide, fun c hc => by exact absurd hc (by decide +revert)⟩
      rw [e]
      exact ((h1.app h3).app h2).mono (by simp only [List.length_cons]; omega)
/-- a sign of a written text -/
theorem pickS {z : Str} {r : Int} (h0 : 0 ≤ r) (h1 : r < z.cps.toList.length) (ok : z.cps.toList.all (fun c => decide (c < 1114112)) = true) : ∃ c, c < 1114112 ∧ atI z.cps.toList r = some c := by
  obtain ⟨j, rfl⟩ : ∃ j : Nat, r = (j : Int) := ⟨r.toNat, by omega⟩
  have hj : j < z.cps.toList.length := by omega
  refine ⟨z.cps.toList[j], ?_, atI_nat (List.getElem?_eq_getElem hj)⟩
  rw [List.all_eq_true] at ok
  exact of_decide_eq_true (ok _ (List.getElem_mem hj))
def spText : Sp := fun vs H Q _ => ∃ (p : Addr) (n : Nat), vs = [.ref p] ∧ Pz H p (n + 14) ∧ ∀ (z : Str) (H' : Hp), Tx 20 z → But p H H' → Pz H' p n → Q (.str z) H'
theorem sum_ones {ys : List Str} (h : ∀ y ∈ ys, Tx 1 y) : (ys.map (·.length)).sum ≤ ys.length := by
  induction ys with
  | nil => simp
  | cons y ys ih =>
    have h1 := (h y (List.mem_cons_self ..)).length
    have h2 := ih fun x hx => h x (List.mem_cons_of_mem _ hx)
    simp only [List.map_cons, List.sum_cons, List.length_cons]
    omega
theorem But.mut {p D : Addr} {H H' : Hp} {o : HO} (s : But p H H') (h : H D = none) : But p H (L2.upd H' D o) := fun b u n e => by
  rw [upd_ne (ne_of_none e h)]
  exact s b u n e
theorem Pz.mut {p D : Addr} {H : Hp} {n : Nat} {o : HO} (h : Pz H p n) (hn : D ≠ p) : Pz (L2.upd H D o) p n := by
  obtain ⟨l, h1, h2⟩ := h
  exact ⟨l, upd_in h1 hn, h2⟩
end Vg
namespace Vg
open PySem PySem.Spec PyProof.Rows L2
/-- a def of the module that asks for texts of lists, as its callers know it -/
structure Fg (P : Program) (w : World) (K : PySem.W.Frag) (mg : Str → Option Value) (base : Heap) (k : Nat) (x : Str) (ps : List Str) (sp : Sp) : Prop where
  ex : ∃ (f : Addr) (fd : FuncData), mg x = some (.ref f) ∧ PySem.W.keepIn K (.ref f) = true ∧ Binds K fd ps [] ∧ FnG P w K mg base CX0 k f fd ps sp
/-- such a def by its body -/
theorem fng_fun {P : Program} {w : World} {K : PySem.W.Frag} {mg : Str → Option Value} {base : Heap} {k : Nat} {x : Str} {st : Stmt} {N ps : List Str} {sp : Sp} {f : Addr} {fd : FuncData} (F : Fun K x x st f fd) (S : FnScope N ps (defScope st))
    (len : ∀ vs H Q E, sp vs H Q E → vs.length = ps.length)
    (body : ∀ (cdv : Value) (A : Around) (outer : List Env) (s : Shared) (H : Hp) (vs : List V) (Q : VK) (E : XK),
      (cxOf CX0 P w K mg base N x (defScope st) f cdv A outer s H E).nox.A.guards = some [] →
      Room k (A.deeper (envOfC x (defScope st) s.heap.objs.size f cdv)) → sp vs H Q E →
      ∃ t, PSs (cxOf CX0 P w K mg base N x (defScope st) f cdv A outer s H E).nox (defBody st) t ∧ t { nx := fun _ H' => Q .non H', rt := Q } (start N vs) H) :
    FnG P w K mg base CX0 (k + 1) f fd ps sp := by
  obtain ⟨oc, od, kV, doc, pm, an, cdv, ct, osl, rfl, lk, hcd⟩ := F.ex
  refine fng_of lk hcd S len fun A outer s H vs Q E hg hr hsp => ?_
  obtain ⟨t, h, q⟩ := body cdv A outer s H vs Q E hg hr hsp
  exact ⟨t, h.nox, q⟩
theorem At.fng {P : Program} {w : World} {K : PySem.W.Frag} {mg : Str → Option Value} {base : Heap} {k : Nat} {x : Str} {st : Stmt} {N ps : List Str} {sp : Sp} (D : At K mg x st) (S : FnScope N ps (defScope st))
    (hb : ∀ (kV doc pm : Value) (an : Option Addr) (cdv ct : Value) (us : List Value), us.length = ps.length →
      bindArgs (PySem.W.fnOf x x (defArgs st) (defBody st) (defScope st) .none kV doc pm an cdv ct) ⟨us, []⟩ = pure (ps.zip us))
    (len : ∀ vs H Q E, sp vs H Q E → vs.length = ps.length)
    (body : ∀ (f : Addr) (cdv : Value) (A : Around) (outer : List Env) (s : Shared) (H : Hp) (vs : List V) (Q : VK) (E : XK),
      (cxOf CX0 P w K mg base N x (defScope st) f cdv A outer s H E).nox.A.guards = some [] →
      Room k (A.deeper (envOfC x (defScope st) s.heap.objs.size f cdv)) → sp vs H Q E →
      ∃ t, PSs (cxOf CX0 P w K mg base N x (defScope st) f cdv A outer s H E).nox (defBody st) t ∧ t { nx := fun _ H' => Q .non H', rt := Q } (start N vs) H) :
    Fg P w K mg base (k + 1) x ps sp := by
  obtain ⟨f, fd, hm, F⟩ := D.ex
  exact ⟨f, fd, hm, F.kp, F.binds hb, fng_fun F S len fun cdv A outer s H vs Q E hg hr h => body f cdv A outer s H vs Q E hg hr h⟩
/-- a def as the head tells it -/
structure DefIn (K : PySem.W.Frag) (x : Str) (st : Stmt) : Prop where
  ex : ∃ (f : Addr) (oc : Value) (od an : Option Addr) (sl : Array (Option Value)) (kV dc pm cd ct : Value), PySem.W.nsIn K mainGlobals x = some (some (.ref f)) ∧
    K.lookup f = some ⟨oc, od, .func (PySem.W.fnOf x x (defArgs st) (defBody st) (defScope st) .none kV dc pm an cd ct), sl⟩ ∧
    PySem.W.codeIn K cd x = true ∧ PySem.W.keepIn K (.ref f) = true
theorem DefIn.at {K : PySem.W.Frag} {h : Heap} {mg : Str → Option Value} {x : Str} {st : Stmt} (D : DefIn K x st) (X : K.In h) (G : h.Ns mainGlobals mg) : At K mg x st := by
  obtain ⟨f, oc, od, an, sl, kV, dc, pm, cd, ct, a, l, c, k⟩ := D.ex
  exact ⟨f, _, PySem.W.mg_of X G a, fun_mk l c k⟩
theorem pe_fg {X : Cx} {k : Nat} {ps : List Str} {sp : Sp} {E : XK} {x : Str} {p pos : Pos} {e : Expr} {es : List Expr} {t : TA} (F : Fg X.prog X.w X.K X.mg X.base k x ps sp) (hgd : X.A.guards = some []) (hr : Room k X.A) (hg : Gl X x) (hx : Passes CX0 X E) (ha : PA X (e :: es) t)
    (hdb : (x == ("__debug__" : Str)) = false := by decide) (he : starEach (e :: es) X.env = (false, eval e X.env) :: starEach es X.env := by rfl)
    (hpl : (backTo pos (starEach es X.env)).any (·.1) = false := by rfl) : PE X (.Call (.Name x p) (e :: es) [] pos) (tCall sp [] E t) := by
  obtain ⟨f, fd, hm, hk, hb, F⟩ := F.ex
  exact pe_callG F hgd hr hg hm hk hb .nil hx ha hdb he hpl
/-- what a law promises -/
def spLaw (K : PySem.W.Frag) : Sp := fun vs H Q _ => ∃ (a : Addr) (ns : List Int), vs = [.ref a] ∧ SqL K H a (ns.map V.int) ∧ ns.length ≤ 63 ∧ ∀ H', Q (.bl true) H'
theorem Same.but {p : Addr} {H H1 H2 : Hp} (s : Same H H1) (h : H p = none) (b : But p H1 H2) : Same H H2 := fun c o e => b c o (ne_of_none e h) (s c o e)
/-- a thing that may be handed in: data, its texts in bounds -/
def Good (H : Hp) (v : V) : Prop := (∃ d, Dk H v d) ∧ ∀ z, v = .str z → z.length ≤ 100000 ∧ PyData.strOk z = true
theorem Good.same {H H' : Hp} {v : V} (h : Good H v) (s : Same H H') : Good H' v := by
  obtain ⟨⟨d, hd⟩, hz⟩ := h
  exact ⟨⟨d, hd.same s⟩, hz⟩
theorem good_int {H : Hp} (i : Int) : Good H (.int i) := ⟨⟨_, fun _ => True, .int i⟩, fun z e => by cases e⟩
theorem good_str {H : Hp} {n : Nat} {z : Str} (h : Tx n z) (hn : n ≤ 100000) : Good H (.str z) :=
  ⟨⟨_, fun _ => True, .str z⟩, fun y e => by
    cases e
    exact ⟨Nat.le_trans h.length hn, h.strOk⟩⟩
/-- a tuple, a list of two numbers -/
theorem good_tup {H : Hp} {a : Addr} {i j : Int} (h : H a = some (.tup [.int i, .int j])) : Good H (.ref a) :=
  ⟨⟨_, fun _ => True, .tup trivial h (.cons (.int i) (.cons (.int j) .nil))⟩, fun y e => by cases e⟩
theorem good_lst {H : Hp} {a : Addr} {i j : Int} (h : H a = some (.lst [.int i, .int j])) : Good H (.ref a) :=
  ⟨⟨_, fun _ => True, .lst trivial h (.cons (.int i) (.cons (.int j) .nil))⟩, fun y e => by cases e⟩
def textOk : PyData → Bool
  | .str z => decide (z.length ≤ 100000) && PyData.strOk z
  | _ => true
theorem good_of {ok : Addr → Prop} {H : Hp} {v : V} {d : PyData} (h : Dq ok H v d) (ht : textOk d = true) : Good H v := by
  refine ⟨⟨d, ok, h⟩, fun z e => ?_⟩
  subst e
  cases h
  have h2 := Bool.and_eq_true_iff.mp (show (decide (z.length ≤ 100000) && PyData.strOk z) = true from ht)
  exact ⟨of_decide_eq_true h2.1, h2.2⟩
/-- the data of a list of three truths -/
def boolsD (a b c : Bool) : PyData := .list [.bool a, .bool b, .bool c]
theorem bools_text (a b c : Bool) : (boolsD a b c).showable = true ∧ (boolsD a b c).depth ≤ 50 ∧ (boolsD a b c).shown.length ≤ sizeLine := by
  cases a <;> cases b <;> cases c <;> decide +kernel
theorem bool_text (a : Bool) : (PyData.bool a).showable = true ∧ (PyData.bool a).depth ≤ 50 ∧ (PyData.bool a).shown.length ≤ sizeLine := by
  cases a <;> decide +kernel
theorem dp_bools {K : PySem.W.Frag} {H : Hp} {p : Addr} {a b c : Bool} (h : H p = some (.lst [.bl a, .bl b, .bl c])) : Dp K H (.ref p) (boolsD a b c) :=
  .lst (SqL.of h) (.cons (.bl a) (.cons (.bl b) (.cons (.bl c) .nil)))
theorem Tn.same {K : PySem.W.Frag} {H H' : Hp} {v : V} {n : String} (h : Tn K H v n) (s : Same H H') : Tn K H' v n := by
  cases h with
  | non => exact .non
  | bl b => exact .bl b
  | int i => exact .int i
  | str z => exact .str z
  | lst h => exact .lst (s _ _ h)
  | tup h => exact .tup (s _ _ h)
  | dct h => exact .dct (s _ _ h)
/-- a number, and from lo to hi -/
theorem in_range {tn ta tb tc : TE} {σ : L2.St} {H : Hp} {Q : VK} {x : V} {lo hi : Int} (hn : ∀ R : VK, R (.bl (isNum x)) H → tn σ H R) (ha : ∀ R : VK, R (.int lo) H → ta σ H R) (hb : ∀ R : VK, R x H → tb σ H R)
    (hc : ∀ R : VK, R (.int hi) H → tc σ H R) (q : Q (.bl (wholeV lo hi x)) H) :
    tAndV tn (tChain (rI0 fun i j => V.bl (decide (i ≤ j))) (rI0 fun i j => V.bl (decide (i ≤ j))) ta tb tc) σ H Q := by
  refine hn _ ⟨_, rfl, ?_⟩
  cases e : isNum x with
  | true =>
    obtain ⟨i, rfl⟩ := num_int e
    refine iteT (ha _ (hb _ ⟨_, _, rfl, rfl, _, rfl, ?_⟩))
    by_cases h : lo ≤ i
    · rw [decide_eq_true h]
      refine iteT (hc _ ⟨_, _, rfl, rfl, ?_⟩)
      have e2 : wholeV lo hi (.int i) = decide (i ≤ hi) := by simp [wholeV, h]
      rw [e2] at q
      exact q
    · rw [decide_eq_false h]
      have e2 : wholeV lo hi (.int i) = false := by simp [wholeV, h]
      rw [e2] at q
      exact iteF q
  | false =>
    rw [whole_no e] at q
    exact iteF q
/-- a new list, a new tuple, a new list of two joined -/
theorem new_lst {H : Hp} {xs : List V} {R : V → Hp → Prop} (hz : xs.length ≤ sizeLine) (k : ∀ p H', H p = none → Same H H' → H' p = some (.lst xs) → R (.ref p) H') :
    xs.length ≤ sizeLine ∧ ∀ p, H p = none → R (.ref p) (L2.upd H p (.lst xs)) := ⟨hz, fun p hp => k p _ hp (Same.new hp) upd_same⟩
theorem new_tup {H : Hp} {xs : List V} {R : V → Hp → Prop} (hz : xs.length ≤ sizeLine) (k : ∀ p H', H p = none → Same H H' → H' p = some (.tup xs) → R (.ref p) H') :
    xs.length ≤ sizeLine ∧ ∀ p, H p = none → R (.ref p) (L2.upd H p (.tup xs)) := ⟨hz, fun p hp => k p _ hp (Same.new hp) upd_same⟩
theorem new_cat {H : Hp} {xs zs : List V} {R : V → Hp → Prop} (hz : xs.length + zs.length ≤ sizeLine) (k : ∀ p H', H p = none → Same H H' → H' p = some (.lst (xs ++ zs)) → R (.ref p) H') :
    xs.length + zs.length ≤ sizeLine ∧ ∀ p, H p = none → R (.ref p) (L2.upd H p (.lst (xs ++ zs))) := ⟨hz, fun p hp => k p _ hp (Same.new hp) upd_same⟩
/-- what stands at a new address -/
theorem at_new {H : Hp} {p : Addr} (_ : H p = none) (o : HO) : L2.upd H p o p = some o := upd_same
theorem same_new {H : Hp} {p : Addr} (h : H p = none) (o : HO) : Same H (L2.upd H p o) := Same.new h
theorem of_gen {H H' : Hp} {p : Addr} {o : HO} (h : L2.upd H p o = H') : H' p = some o := h ▸ upd_same
theorem same_gen {H H' : Hp} {p : Addr} {o : HO} (hp : H p = none) (h : L2.upd H p o = H') : Same H H' := h ▸ Same.new hp
/-- the law's own promise, as the head's end wants it -/
theorem law_end {P : Program} {w : World} {K : PySem.W.Frag} {h : Heap} {mg : Str → Option Value} {fa : Addr} {st : Stmt} {x : Str} {k : Nat} (X : K.In h) (G : h.Ns mainGlobals mg) (hfa : mg "law" = some (.ref fa)) (D : DefIn K "law" st)
    (hb : ∀ (kV doc pm : Value) (an : Option Addr) (cdv ct u : Value), bindArgs (PySem.W.fnOf "law" "law" (defArgs st) (defBody st) (defScope st) .none kV doc pm an cdv ct) ⟨[u], []⟩ = pure [(x, u)])
    (F : ∀ (f : Addr) (fd : FuncData) (base : Heap), Fun K "law" "law" st f fd → FnG P w K mg base CX0 k f fd [x] (spLaw K)) :
    ∃ fd : FuncData, (∀ (s : Shared) (u : Value), BindsTo s fd ⟨[u], []⟩ [(x, u)]) ∧ ∀ base : Heap, K.In base → base.Ns mainGlobals mg → FnG P w K mg base CX0 k fa fd [x] (spLaw K) := by
  obtain ⟨f, oc, od, an, sl, kV, dc, pm, cd, ct, a, l, c, kp⟩ := D.ex
  have e := hfa.symm.trans (PySem.W.mg_of X G a)
  cases e
  exact ⟨_, fun s u => .of_eq (hb _ _ _ _ _ _ u), fun base _ _ => F _ _ base (fun_mk l c kp)⟩
theorem DefIn.by {K : PySem.W.Frag} {x : Str} {st : Stmt} {f : Addr} {oc : Value} {od an : Option Addr} {sl : Array (Option Value)} {kV dc pm cd ct : Value} (a : PySem.W.nsIn K mainGlobals x = some (some (.ref f)))
    (l : K.lookup f = some ⟨oc, od, .func (PySem.W.fnOf x x (defArgs st) (defBody st) (defScope st) .none kV dc pm an cd ct), sl⟩) (c : PySem.W.codeIn K cd x = true) (k : PySem.W.keepIn K (.ref f) = true) : DefIn K x st :=
  ⟨f, oc, od, an, sl, kV, dc, pm, cd, ct, a, l, c, k⟩
theorem con_in {K : PySem.W.Frag} {x : Str} {n : Int} {t : Tok} (h : PySem.W.nsIn K mainGlobals x = some (some (.int n t))) : ∃ t, PySem.W.nsIn K mainGlobals x = some (some (.int n t)) := ⟨t, h⟩
/-- a thing of another kind, new, one of those told -/
def spOdd (ds : List PyData) : Sp := fun vs H Q _ => ∃ (p : Addr) (n : Nat), vs = [.ref p] ∧ Pz H p (n + 1) ∧
  ∀ (v : V) (d : PyData) (H' : Hp), d ∈ ds → But p H H' → Pz H' p n → Dq (fun a => H a = none) H' v d → Q v H'
end Vg
namespace Vg
open PySem PySem.Spec PyProof.Rows L2
/-- the reading of a suite, by the exception, its class, its dict -/
abbrev Sut := Addr → Value → Option Addr → TS
/-- behind a suite its name is gone -/
def goneD (i : Nat) (D : Ends) : Ends :=
  { nx := fun σ H => D.nx (σ.set i none) H, rt := D.rt, bk := fun σ H => D.bk (σ.set i none) H, ct := fun σ H => D.ct (σ.set i none) H }
/-- what some named clauses wish of an exception; no other may come -/
def wNamed (K : PySem.W.Frag) (D : Ends) : List (Value × Nat × Sut) → WX
  | [] => fun _ _ _ _ => False
  | (c, i, ts) :: r => fun cls d σ H => ∃ b, PySem.W.exmOne K cls c = some b ∧
      (b = true → ∀ a, H a = none → ts a cls d (goneD i D) (σ.set i (some (.ref a))) H) ∧ (b = false → wNamed K D r cls d σ H)
/-- clauses «except x as n»; those behind the ones that are told aren't reached -/
inductive Nh (X : Cx) : List ExceptHandler → List (Value × Nat × Sut) → Prop
  | never (hs : List ExceptHandler) : Nh X hs []
  | cons {x n : Str} {c : Value} {i : Nat} {ts : Sut} {st : Stmt} {more : List Stmt} {np p : Pos} {hs : List ExceptHandler} {l : List (Value × Nat × Sut)}
      (hi : X.N[i]? = some n) (hln : X.env.kindOf n = some .local) (hc : Names X x c)
      (hsu : ∀ (a : Addr) (oe : Obj) (cls : Value) (d : Option Addr) (pn : List (Addr × Obj)), Zc cls d oe → (∃ vs, oe.data = .fields vs) → PSs (X.suite a ((a, oe) :: pn)) (st :: more) (ts a cls d))
      (r : Nh X hs l) : Nh X (.ExceptHandler (some (.Name x np)) (some n) (st :: more) p :: hs) ((c, i, ts) :: l)
theorem ps_try_named {X : Cx} {body : List Stmt} {h0 : ExceptHandler} {hds : List ExceptHandler} {l : List (Value × Nat × Sut)} {pos : Pos} {tb : WX → TS}
    (hs : X.stack = X.env :: X.outer) (hf : X.env.frame = some X.env.locals) (hN : X.N.Nodup)
    (hb : ∀ (W : WX) (pn : List (Addr × Obj)) (xe : Value → Shared → Prop), Takes (X.tr pn xe) W → PassesOwn (model X.prog X.w) X.A X.env xe → PSs (X.tr pn xe) body (tb W))
    (hh : Nh X (h0 :: hds) l) : PS X (.Try body (h0 :: hds) [] [] pos) (fun D σ H => tb (wNamed X.K D l) D σ H) := by
  constructor
  intro pins s σ H D I h
  have ok := I.ok
  have frames : X.A.frames = some (X.env :: X.outer) := hs ▸ ok.frames
  apply wpAny_Try_except
  let catch' : Value → Shared → Prop := fun e t =>
    wpAny (model X.prog X.w) X.A (noteFrame e X.env) (fun _ t2 =>
      wpAny (model X.prog X.w) X.A (setFlight e none) (fun _ t3 =>
        wpAny (model X.prog X.w) X.A (handleBy e X.env (h0 :: hds)) (SP X pins D) X.xe t3) X.xe t2) X.xe t
  have caught : Takes (X.tr (X.pn ++ pins) catch') (wNamed X.K D l) := by
    rintro u t ⟨a, B, sI, pins1, σ1, H1, cls, d, rfl, J0, nb, up, sky, na, os, ag, w⟩
    have J1 : Inv X pins σ1 H1 sI := J0.ofTry ok
    have skyF : Sky B (X.env :: X.outer) a (Zc cls d) X.env.locals t.heap := hs ▸ sky
    refine Sky.land Zc.steady frames hf skyF ?_
    intro g fl upg
    have Jg : Inv X pins σ1 H1 { t with heap := g } := J1.landed nb fl.1 (up.trans upg) os ag
    obtain ⟨oe, fv, geta, hz, hd⟩ := fl.there
    have apart : a ∉ frs (X.env :: X.outer) := by
      intro hm
      obtain ⟨_, o2, e2, nofields⟩ := fl.2.2.1.mem hm
      rw [geta] at e2
      cases e2
      exact nofields _ hd
    have noLoc : a ≠ X.env.locals := by
      rintro rfl
      exact apart (List.mem_filterMap.mpr ⟨X.env, List.mem_cons_self, hf⟩)
    have noFs : a ∉ X.fs := by
      intro hm
      obtain ⟨en, hen, q⟩ := List.mem_filterMap.mp hm
      exact apart (List.mem_filterMap.mpr ⟨en, List.mem_cons_of_mem _ hen, q⟩)
    have Sg := Jg.suite geta hd na noLoc noFs
    have walkH : ∀ {hl : List ExceptHandler} {l1 : List (Value × Nat × Sut)}, Nh X hl l1 → wNamed X.K D l1 cls d σ1 H1 →
        wpAny (model X.prog X.w) X.A (handleBy (.ref a) X.env hl) (SP X pins D) X.xe { t with heap := g } := by
      intro hl l1 nh
      induction nh with
      | never _ => exact fun w => False.elim w
      | @cons x n c i ts st more np p hs2 l2 hi hln hc hsu _ ih =>
        rintro ⟨b, exm, yes, no⟩
        refine wpAny_handleBy_cons (codeAny_handlers_test ?_) (fun q => nomatch q)
        have looks : PySem.W.Looks (model X.prog X.w) g (typeOf (.ref a)) cls := by
          intro A Q E s2 k q
          exact wpAny_typeOf_ref (k _ _ geta) (hz.1.symm ▸ q)
        have asks := PySem.W.exm_one (M := model X.prog X.w) Jg.kIn looks exm
        have name : ∀ {Q E : Value → Shared → Prop}, Q c { t with heap := g } →
            wpAny (model X.prog X.w) (X.A.mark (some (.ref a))) (eval (.Name x np) X.env) Q E { t with heap := g } := by
          intro Q E q
          obtain ⟨gl, dbg, own | ⟨free, bt, nn⟩⟩ := hc
          · exact ld_glob (X := X.suite a ((a, oe) :: (X.pn ++ pins))) Sg gl own q dbg
          · exact ld_blt (X := X.suite a ((a, oe) :: (X.pn ++ pins))) Sg gl free bt q nn dbg
        refine name (asks.here ?_)
        cases b with
        | false => exact ih (no rfl)
        | true =>
          apply codeAny_handlers_suite_as
          refine HandSPX.lands_againZ fl ?_
          intro g2 fl2 up2
          have Jg2 : Inv X pins σ1 H1 { t with heap := g2 } := J1.landed nb fl2.1 ((up.trans upg).trans up2) os ag
          obtain ⟨oe2, fv2, geta2, hz2, hd2⟩ := fl2.there
          have Sg2 := Jg2.suite geta2 hd2 na noLoc noFs
          refine store_ok (X := X.suite a ((a, oe2) :: (X.pn ++ pins))) (v := .ref a) Sg2 hN hi (Or.inl hln) rfl ?_ (Or.inr hln)
          intro s5 S5
          refine wpAny_mono ((hsu a oe2 cls d (X.pn ++ pins) hz2 ⟨_, hd2⟩).run [] s5 _ H1 _ S5 (yes rfl a na)) ?_ (fun _ _ z => False.elim z)
          intro f s6 hsp
          have leave : ∀ {σ6 : L2.St} {H6 : Hp} {Q : Shared → Prop}, Inv (X.suite a ((a, oe2) :: (X.pn ++ pins))) [] σ6 H6 s6 →
              (∀ s7, Inv X pins (σ6.set i none) H6 s7 → Q s7) →
              wpAny (model X.prog X.w) X.A (do bindName X.env n .none; unbindBehindTheSuite X.env n p) (fun _ s7 => Q s7) X.xe s6 := by
            intro σ6 H6 Q S6 hq
            exact gone_ok (S6.unsuite ok) hN hi hln hq
          match f, hsp with
          | .next, ⟨σ6, H6, S6, q6⟩ => exact leave S6 fun s7 J7 => ⟨_, _, J7, q6⟩
          | .brk, ⟨σ6, H6, S6, q6⟩ => exact leave S6 fun s7 J7 => ⟨_, _, J7, q6⟩
          | .cont, ⟨σ6, H6, S6, q6⟩ => exact leave S6 fun s7 J7 => ⟨_, _, J7, q6⟩
          | .ret u, ⟨v6, σ6, H6, S6, r6, q6⟩ => exact leave S6 fun s7 J7 => ⟨_, _, _, J7, r6, q6⟩
    exact walkH hh w
  refine wpAny_mono ((hb (wNamed X.K D l) (X.pn ++ pins) catch' caught PassesOwn.looking).run [] s σ H D (I.toTry _) h) ?_ (fun e t he => he)
  intro f t hsp
  match f, hsp with
  | .next, ⟨σ1, H1, J, q⟩ => exact wpAny_execs_nil ⟨σ1, H1, J.ofTry ok, q⟩
  | .brk, ⟨σ1, H1, J, q⟩ => exact ⟨σ1, H1, J.ofTry ok, q⟩
  | .cont, ⟨σ1, H1, J, q⟩ => exact ⟨σ1, H1, J.ofTry ok, q⟩
  | .ret u, ⟨v, σ1, H1, J, r, q⟩ => exact ⟨v, σ1, H1, J.ofTry ok, r, q⟩
/-! ## the classes of the program's own exceptions -/
/-- C.m as a function of the class at C -/
structure ClsFn (K : PySem.W.Frag) (C : Addr) (m : Str) (f : Addr) : Prop where
  ga : PySem.W.specialIn K (.ref C) "__getattribute__" = some (some (.builtin "type.__getattribute__"))
  rd : PySem.W.readsIn K C (.type "type") = true
  fc : PySem.W.findCls K (.ref C) (.type "type") m = some (.val (.ref f))
  kp : PySem.W.keepIn K (.ref f) = true
/-- C.m(e, ..), C a class of the module -/
theorem pe_clsfn {X : Cx} {CX : CXT} {k : Nat} {C f : Addr} {fd : FuncData} {ps : List Str} {sp : Sp} {E : XK} {x m : Str} {p p2 pos : Pos} {e : Expr} {es : List Expr} {t : TA} {pl : Sem Bool}
    (c : ClsFn X.K C m f) (F : FnOk X.prog X.w X.K X.mg X.base CX k f fd ps sp) (hr : Room k X.A) (hg : Gl X x) (hm : X.mg x = some (.ref C)) (hb : Binds X.K fd ps []) (hx : Passes CX X E) (ha : PA X (e :: es) t)
    (hc : eval (.Call (.Attribute (.Name x p) m p2) (e :: es) [] pos) X.env = (do
      let ov ← eval (.Name x p) X.env
      standAt p2.atName
      let (g, first) ← holding [ov] (getMethod ov m pl)
      callWith pos g first (backTo pos (starEach (e :: es) X.env)) (backToKw pos (keywordEach [] X.env))) := by rfl)
    (hdb : (x == ("__debug__" : Str)) = false := by decide) (he : starEach (e :: es) X.env = (false, eval e X.env) :: starEach es X.env := by rfl)
    (hpl : (backTo pos (starEach es X.env)).any (·.1) = false := by rfl) :
    PE X (.Call (.Attribute (.Name x p) m p2) (e :: es) [] pos) (tCall sp [] E t) := by
  constructor
  intro pins s σ H Q I h
  refine PySem.W.methodCall_KW (ld_glob I hg hm ?_ hdb) hc
  refine PySem.W.method_cls I.kIn c.ga ?_
  refine PySem.W.cls_value I.kIn c.rd c.fc rfl ?_
  refine PySem.W.callWith_K (h₀ := X.base) I.ok.mod.kin c.kp ?_ he hpl
  refine thn (ha.run pos pins _ σ H _ (I.tok _) h) ?_
  rintro us s1 ⟨vs, H1, I1, r, q⟩
  exact ⟨I1.kIn, run_fn F hr hb .nil hx I1 r q⟩
end Vg
namespace Vg
open PySem PySem.Spec PyProof.Rows L2
/-! ## isinstance of a caught exception of an own class, with its dict -/
def rIsX (K : PySem.W.Frag) (D a : Addr) (cls : Value) (d : Option Addr) : List V → Hp → VK → Prop := fun xs H Q =>
  ∃ (c : V) (cv : Value) (b : Bool) (dd : Addr) (fs : List (Str × V)), xs = [.ref a, c] ∧ (∀ u, RelV c u → u = cv) ∧ cls = .ref D ∧ d = some dd ∧ H dd = some (.xd fs) ∧ PySem.W.kitOne K (.ref D) cv = some b ∧ Q (.bl b) H
theorem call_isX {X : Cx} {a D : Addr} {cls : Value} {d : Option Addr} {oe : Obj} {pn : List (Addr × Obj)} (C : ExcC X.K D) (hz : Zc cls d oe) (hf : ∃ vs, oe.data = .fields vs) : CallR (X.suite a ((a, oe) :: pn)) (.builtin "isinstance") (rIsX X.K D a cls d) := by
  intro pins s σ H xs us Q I r h
  obtain ⟨c, cv, b, dd, fs, rfl, hcv, rfl, rfl, hdd, e, q⟩ := h
  cases r with
  | cons rx rr =>
    cases rr with
    | cons rt rr =>
      cases rr
      cases rx
      have ec := hcv _ rt
      subst ec
      obtain ⟨hget, _⟩ := I.pin (a, oe) (List.mem_append.mpr (.inl List.mem_cons_self))
      obtain ⟨vs, hv⟩ := hf
      have hx : ObjOk X.prog X.w H s.heap dd (.xd fs) := I.hok dd _ hdd
      obtain ⟨mA, hns, _⟩ := hx
      obtain ⟨od, ho, _⟩ := lookIn_ns hns
      have J : PySem.W.InstAt s.heap a oe D (some od) := ⟨hget, hz.1, by unfold PySem.W.notCls; rw [hv] <;> rfl, by rw [hz.2]; exact ho⟩
      obtain ⟨cd, hc, _⟩ := PySem.W.any_some C.hd
      exact PySem.W.kia_one (PySem.W.kitx_exc (by rw [hc]; rfl) C.hg C.hk C.hs C.ha C.hn C.ht C.hm) I.kIn J e (fun z => nomatch z) fun tk => ⟨.bl b, H, I.kept (t' := tk) fun _ _ z => z, rfl, q⟩
/-! ## the program's own classes of errors -/
/-- the class that the module's name x stands for -/
def clsA (K : PySem.W.Frag) (x : Str) : Addr := match PySem.W.nsIn K mainGlobals x with
  | some (some (.ref C)) => C
  | _ => 0
theorem clsA_of {K : PySem.W.Frag} {x : Str} {C : Addr} (h : PySem.W.nsIn K mainGlobals x = some (some (.ref C))) : clsA K x = C := by
  unfold clsA
  rw [h]
/-- the def named m within a class -/
def methOf (m : Str) : Stmt → Stmt
  | .ClassDef (body := b) .. => (b.find? fun s => match s with
    | .FunctionDef n .. => decide (n = m)
    | _ => false).getD (.Pass ⟨0, 0, 0, 0⟩)
  | s => s
/-- TermError.__init__ of an exception that is being made -/
def spTI (K : PySem.W.Frag) : Sp := fun vs H Q _ => ∃ (a C : Addr) (z : Str), vs = [.ref a, .str z] ∧ OexC K C ∧ H a = some (exo a C none) ∧ Q .non H
/-- C.__init__ of one field -/
def spXI (C : Addr) (f : Str) : Sp := fun vs H Q _ => ∃ (a : Addr) (v : V), vs = [.ref a, v] ∧ H a = some (exo a C none) ∧
  ∀ dx, H dx = none → dx ≠ a → Q .non (upd (upd H dx (exd dx [(f, v)])) a (exo a C (some dx)))
/-- a class of errors with one field, as the module knows it -/
structure Xk (P : Program) (w : World) (K : PySem.W.Frag) (mg : Str → Option Value) (base : Heap) (x f : Str) : Prop where
  hm : mg x = some (.ref (clsA K x))
  O : OexC K (clsA K x)
  E : ExcC K (clsA K x)
  xf : XfC K (clsA K x)
  no : PySem.W.findIn K (.ref (clsA K x)) f = some none
  init : ∃ (fI : Addr) (fd : FuncData) (ps : List Str), PySem.W.findIn K (.ref (clsA K x)) "__init__" = some (some (.ref fI)) ∧ PySem.W.typeIn K (.ref fI) = some (.type "function") ∧
    Binds K fd ps [] ∧ FnOk P w K mg base CX0 2 fI fd ps (spXI (clsA K x) f)
theorem pa_up {X : Cx} {es : List Expr} {t : TA} (h : PA X es t) : PA X es (fun σ H Q => ∃ R, t σ H R ∧ ∀ vs H', R vs H' → Q vs H') := by
  constructor
  intro pos pins s σ H Q I ⟨R, h1, h2⟩
  exact thn (h.run pos pins s σ H R I h1) fun us s1 ⟨vs, H1, I1, r, q⟩ => ⟨vs, H1, I1, r, h2 _ _ q⟩
theorem rais_ok {W : XK} {C : Addr} {f : Str} {H1 : Hp} {v : V} (k : ∀ d H2, Same H1 H2 → H2 d = some (.xd [(f, v)]) → W (.ref C) (some d) H2) :
    ([v] : List V).length ≤ 1000 ∧ ∀ a, H1 a = none → spXI C f (.ref a :: ([v] ++ [])) (upd H1 a (exo a C none))
      (fun u H2 => u = .non ∧ ∃ (d : Addr) (fs : List (Str × V)), H2 a = some (exo a C (some d)) ∧ H2 d = some (exd d fs) ∧ H1 d = none ∧ W (.ref C) (some d) (upd (L2.del H2 a) d (.xd fs))) (fun _ _ _ => False) := by
  refine ⟨by show 1 ≤ 1000; decide, fun a ha => ⟨a, v, rfl, upd_same, fun dx hdx hne => ⟨rfl, dx, [(f, v)], upd_same, ?_, ?_, ?_⟩⟩⟩
  · rw [upd_ne hne, upd_same]
  · rw [upd_ne hne] at hdx
    exact hdx
  · rw [upd_ne hne] at hdx
    refine k dx _ (fun b o hb => ?_) upd_same
    have b1 := ne_of_none hb ha
    have b2 := ne_of_none hb hdx
    rw [upd_ne b2, L2.del_ne b1, upd_ne b1, upd_ne b2, upd_ne b1]
    exact hb
/-- raise C(e) -/
theorem ps_rais {X : Cx} {W : WX} {x f : Str} {e : Expr} {te : TE} {p pos pos' : Pos} (R : Xk X.prog X.w X.K X.mg X.base x f) (hr : Room 3 X.A) (hc : X.calm = true) (tk : Takes X W) (hg : Gl X x) (ha : PA X [e] (tCons te tNil))
    (hdb : (x == ("__debug__" : Str)) = false := by decide) (hse : starEach [e] X.env = (false, eval e X.env) :: starEach [] X.env := by rfl) (hpl : (backTo pos (starEach [] X.env)).any (·.1) = false := by rfl) :
    PS X (.Raise (some (.Call (.Name x p) [e] [] pos)) none pos') (fun _ σ H => te σ H fun v H1 => ∀ d H2, Same H1 H2 → H2 d = some (.xd [(f, v)]) → W (.ref (clsA X.K x)) (some d) σ H2) := by
  obtain ⟨fI, fd, ps, iC, tI, hb, F⟩ := R.init
  have mk := pmk_oex (pos := pos) (p := p) R.O iC tI F hr hb .nil pass0 hg R.hm (pa_up ha) hdb hse hpl
  refine ⟨fun pins s σ H D I h => (ps_raise hc tk mk).run pins s σ H D I ?_⟩
  refine ⟨fun vs H1 => match vs with
    | [v] => ∀ d H2, Same H1 H2 → H2 d = some (.xd [(f, v)]) → W (.ref (clsA X.K x)) (some d) σ H2
    | _ => False, h, ?_⟩
  intro vs H1 k
  match vs, k with
  | [v], k => exact rais_ok (W := fun cls d H' => W cls d σ H') k
end Vg
namespace Vg
open PySem PySem.Spec PyProof.Rows L2
/-! ## neighbours of a fraction, by whole numbers alone -/
/-- low a/b and high c/d, side by side, t/m between them, bottoms at most N -/
structure Nb (t m N a b c d : Int) : Prop where
  b1 : 1 ≤ b
  d1 : 1 ≤ d
  bN : b ≤ N
  dN : d ≤ N
  g : c * b - a * d = 1
  u : 0 < t * b - a * m
  v : 0 < c * m - t * d
theorem no_frac {t m a b : Int} (hc : gcdI t m = 1) (hb : 1 ≤ b) (hm : b < m) : t * b - a * m ≠ 0 := by
  intro h
  have e : t * b = a * m := by omega
  have d1 : m ∣ t * b := ⟨a, by rw [e, Int.mul_comm]⟩
  have d2 : m.natAbs ∣ t.natAbs * b.natAbs := by
    rw [← Int.natAbs_mul]
    exact Int.natAbs_dvd_natAbs.mpr d1
  have cop : Nat.Coprime m.natAbs t.natAbs := by
    unfold gcdI at hc
    have : Nat.gcd t.natAbs m.natAbs = 1 := by exact_mod_cast hc
    rw [Nat.gcd_comm] at this
    exact this
  have d3 := cop.dvd_of_dvd_mul_left d2
  have l := Nat.le_of_dvd (by omega) d3
  omega
/-- the bottom of a number that lies between the two -/
theorem Nb.sum {t m N a b c d : Int} (h : Nb t m N a b c d) : m = (t * b - a * m) * d + (c * m - t * d) * b := by
  have g := h.g
  have e : (t * b - a * m) * d + (c * m - t * d) * b = m * (c * b - a * d) := by grind
  rw [e, g, Int.mul_one]
theorem Nb.top {t m N a b c d : Int} (h : Nb t m N a b c d) : t = (t * b - a * m) * c + (c * m - t * d) * a := by
  have g := h.g
  have e : (t * b - a * m) * c + (c * m - t * d) * a = t * (c * b - a * d) := by grind
  rw [e, g, Int.mul_one]
theorem mul_ge {x y : Int} (hx : 1 ≤ x) (hy : 0 ≤ y) : y ≤ x * y := by
  have := Int.mul_le_mul_of_nonneg_right hx hy
  omega
theorem Nb.big {t m N a b c d : Int} (h : Nb t m N a b c d) : b + d ≤ m := by
  have e := h.sum
  have x := mul_ge (x := t * b - a * m) (y := d) (by have := h.u; omega) (by have := h.d1; omega)
  have y := mul_ge (x := c * m - t * d) (y := b) (by have := h.v; omega) (by have := h.b1; omega)
  omega
/-- the other way round -/
theorem Nb.flip {t m N a b c d : Int} (h : Nb t m N a b c d) : Nb (-t) m N (-c) d (-a) b := by
  obtain ⟨h1, h2, h3, h4, h5, h6, h7⟩ := h
  refine ⟨h2, h1, h4, h3, ?_, ?_, ?_⟩ <;> grind
theorem nb_low {t m N a b c d a' b' c' d' : Int} (h : Nb t m N a b c d) (hs : N < b + d) (h' : Nb t m N a' b' c' d') : a' * b - a * b' ≤ 0 := by
  have hm : 0 < m := by have := h.big; have := h.b1; have := h.d1; omega
  have q : 0 < c * b' - a' * d := by
    have e : m * (c * b' - a' * d) = b' * (c * m - t * d) + d * (t * b' - a' * m) := by grind
    have p1 : 0 < b' * (c * m - t * d) := Int.mul_pos (by have := h'.b1; omega) h.v
    have p2 : 0 < d * (t * b' - a' * m) := Int.mul_pos (by have := h.d1; omega) h'.u
    have : 0 < m * (c * b' - a' * d) := by omega
    exact Int.pos_of_mul_pos_right this hm
  refine Int.not_lt.mp fun p => ?_
  have e : b' = (a' * b - a * b') * d + (c * b' - a' * d) * b := by
    have g := h.g
    have e : (a' * b - a * b') * d + (c * b' - a' * d) * b = b' * (c * b - a * d) := by grind
    rw [e, g, Int.mul_one]
  have x := mul_ge (x := a' * b - a * b') (y := d) (by omega) (by have := h.d1; omega)
  have y := mul_ge (x := c * b' - a' * d) (y := b) (by omega) (by have := h.b1; omega)
  have := h'.bN
  omega
theorem nb_lows {t m N a b c d a' b' c' d' : Int} (h : Nb t m N a b c d) (hs : N < b + d) (h' : Nb t m N a' b' c' d') (hs' : N < b' + d') : a' = a ∧ b' = b := by
  have p1 := nb_low h hs h'
  have p2 := nb_low h' hs' h
  have e : a' * b = a * b' := by
    have : a' * b - a * b' = -(a * b' - a' * b) := by grind
    omega
  have half : ∀ {a b c d a' b' : Int}, c * b - a * d = 1 → a' * b = a * b' → b' = (c * b' - a' * d) * b := by
    intro a b c d a' b' g e
    have z : (c * b' - a' * d) * b = b' * (c * b - a * d) + d * (a * b' - a' * b) := by grind
    rw [z, g, e]
    simp
  have e1 := half h.g e
  have e2 := half h'.g e.symm
  have b1 := h.b1
  have b1' := h'.b1
  have le1 : b ≤ b' := by
    have q : 1 ≤ c * b' - a' * d := by
      refine Int.not_lt.mp fun q => ?_
      have : (c * b' - a' * d) * b ≤ 0 := Int.mul_nonpos_of_nonpos_of_nonneg (by omega) (by omega)
      omega
    have := mul_ge q (show 0 ≤ b by omega)
    omega
  have le2 : b' ≤ b := by
    have q : 1 ≤ c' * b - a * d' := by
      refine Int.not_lt.mp fun q => ?_
      have : (c' * b - a * d') * b' ≤ 0 := Int.mul_nonpos_of_nonpos_of_nonneg (by omega) (by omega)
      omega
    have := mul_ge q (show 0 ≤ b' by omega)
    omega
  have eb : b' = b := by omega
  subst eb
  exact ⟨Int.eq_of_mul_eq_mul_right (by omega) e, rfl⟩
/-- there is just one such pair -/
theorem nb_one {t m N a b c d a' b' c' d' : Int} (h : Nb t m N a b c d) (hs : N < b + d) (h' : Nb t m N a' b' c' d') (hs' : N < b' + d') : a' = a ∧ b' = b ∧ c' = c ∧ d' = d := by
  obtain ⟨e1, e2⟩ := nb_lows h hs h' hs'
  obtain ⟨e3, e4⟩ := nb_lows h.flip (by omega) h'.flip (by omega)
  exact ⟨e1, e2, by omega, e4⟩
/-! ### the walk -/
theorem nb_start {t m N : Int} (hc : gcdI t m = 1) (hN : 1 ≤ N) (hm : N < m) : Nb t m N (t / m) 1 (t / m + 1) 1 := by
  have e := Int.mul_ediv_add_emod t m
  have r0 := Int.emod_nonneg t (show m ≠ 0 by omega)
  have r1 := Int.emod_lt_of_pos t (show 0 < m by omega)
  have z := no_frac (a := t / m) hc (show 1 ≤ 1 by omega) (show 1 < m by omega)
  have c1 : t / m * m = m * (t / m) := Int.mul_comm _ _
  have c2 : (t / m + 1) * m = m * (t / m) + m := by grind
  refine ⟨by omega, by omega, hN, hN, by grind, ?_, ?_⟩ <;> omega
/-- the low one goes on -/
theorem Nb.left {t m N a b c d s : Int} (h : Nb t m N a b c d) (hc : gcdI t m = 1) (hm : N < m) (s0 : 0 ≤ s) (s1 : s ≤ (N - b) / d) (s2 : s ≤ (t * b - a * m) / (c * m - t * d)) : Nb t m N (a + s * c) (b + s * d) c d := by
  have hd := h.d1
  have l1 : s * d ≤ N - b := Int.le_trans (Int.mul_le_mul_of_nonneg_right s1 (by omega)) (Int.ediv_mul_le _ (by omega))
  have l2 : s * (c * m - t * d) ≤ t * b - a * m := Int.le_trans (Int.mul_le_mul_of_nonneg_right s2 (by have := h.v; omega)) (Int.ediv_mul_le _ (by have := h.v; omega))
  have sd : 0 ≤ s * d := Int.mul_nonneg s0 (by omega)
  have b1 := h.b1
  have eu : t * (b + s * d) - (a + s * c) * m = (t * b - a * m) - s * (c * m - t * d) := by grind
  have nz := no_frac (a := a + s * c) hc (show 1 ≤ b + s * d by omega) (show b + s * d < m by omega)
  refine ⟨by omega, hd, by omega, h.dN, ?_, ?_, h.v⟩
  · have g := h.g
    have : c * (b + s * d) - (a + s * c) * d = c * b - a * d := by grind
    omega
  · omega
theorem Nb.right {t m N a b c d s : Int} (h : Nb t m N a b c d) (hc : gcdI t m = 1) (hm : N < m) (s0 : 0 ≤ s) (s1 : s ≤ (N - d) / b) (s2 : s ≤ (c * m - t * d) / (t * b - a * m)) : Nb t m N a b (c + s * a) (d + s * b) := by
  have hc' : gcdI (-t) m = 1 := by
    unfold gcdI at hc ⊢
    rw [Int.natAbs_neg]
    exact hc
  have e1 : -t * d - -c * m = c * m - t * d := by grind
  have e2 : -a * m - -t * b = t * b - a * m := by grind
  have k := (h.flip.left (s := s) hc' hm s0 s1 (by rw [e1, e2]; exact s2)).flip
  have e3 : - -t = t := by omega
  have e4 : - -a = a := by omega
  have e5 : -(-c + s * -a) = c + s * a := by grind
  rw [e3, e4, e5] at k
  exact k
/-- the two go on -/
theorem nb_on {t m N a b c d s r : Int} (h : Nb t m N a b c d) (hs : s = min ((N - b) / d) ((t * b - a * m) / (c * m - t * d))) (hl : b + d ≤ N)
    (hr : r = min ((N - d) / (b + s * d)) ((c * m - t * d) / (t * (b + s * d) - (a + s * c) * m))) (h1 : Nb t m N (a + s * c) (b + s * d) c d) : 0 ≤ s ∧ 0 ≤ r ∧ (0 < s ∨ 0 < r) := by
  have q0 : 0 ≤ (N - b) / d := Int.ediv_nonneg (by have := h.bN; omega) (by have := h.d1; omega)
  have q1 : 1 ≤ (N - b) / d := by
    refine (Int.le_ediv_iff_mul_le (by have := h.d1; omega)).mpr ?_
    omega
  have q2 : 0 ≤ (t * b - a * m) / (c * m - t * d) := Int.ediv_nonneg (by have := h.u; omega) (by have := h.v; omega)
  have r0 : 0 ≤ (N - d) / (b + s * d) := Int.ediv_nonneg (by have := h.dN; omega) (by have := h1.b1; omega)
  have r2 : 0 ≤ (c * m - t * d) / (t * (b + s * d) - (a + s * c) * m) := Int.ediv_nonneg (by have := h.v; omega) (by have := h1.u; omega)
  have s0 : 0 ≤ s := by omega
  refine ⟨s0, by omega, ?_⟩
  by_cases hz : 0 < s
  · exact .inl hz
  · right
    have z : s = 0 := by omega
    subst z
    have e0 : (t * b - a * m) / (c * m - t * d) = 0 := by omega
    have lt : t * b - a * m < c * m - t * d := by
      have := h.v
      have hh := Int.lt_mul_ediv_self_add (x := t * b - a * m) this
      rw [e0] at hh
      simpa using hh
    have e1 : t * (b + 0 * d) - (a + 0 * c) * m = t * b - a * m := by grind
    have e2 : b + 0 * d = b := by grind
    rw [e1, e2] at hr
    have k1 : 1 ≤ (N - d) / b := (Int.le_ediv_iff_mul_le (by have := h.b1; omega)).mpr (by omega)
    have k2 : 1 ≤ (c * m - t * d) / (t * b - a * m) := (Int.le_ediv_iff_mul_le h.u).mpr (by omega)
    omega
end Vg
namespace Vg
open PySem PySem.Spec PyProof.Rows L2
/-- a def with a star parameter, as its callers know it -/
structure Fr (P : Program) (w : World) (K : PySem.W.Frag) (mg : Str → Option Value) (base : Heap) (k : Nat) (x : Str) (sp : Sp) : Prop where
  ex : ∃ f : Addr, mg x = some (.ref f) ∧ PySem.W.keepIn K (.ref f) = true ∧ FnR P w K mg base CX0 k f sp
theorem At.fr {P : Program} {w : World} {K : PySem.W.Frag} {mg : Str → Option Value} {base : Heap} {k : Nat} {x : Str} {st : Stmt} {N : List Str} {pv : Str} {sp : Sp} (D : At K mg x st) (S : FnScope N [pv] (defScope st))
    (hb : ∀ (kV doc pm : Value) (an : Option Addr) (cdv ct : Value) (us : List Value),
      bindArgs (PySem.W.fnOf x x (defArgs st) (defBody st) (defScope st) .none kV doc pm an cdv ct) ⟨us, []⟩ = (newTuple us >>= fun t => pure [(pv, t)]))
    (body : ∀ (f : Addr) (cdv : Value) (A : Around) (outer : List Env) (s : Shared) (H : Hp) (vs : List V) (Q : VK) (E : XK),
      Room k (A.deeper (envOfC x (defScope st) s.heap.objs.size f cdv)) → sp vs H Q E →
      ∃ t, PSs (cxOf CX0 P w K mg base N x (defScope st) f cdv A outer s H E).nox (defBody st) t ∧ t { nx := fun _ H' => Q .non H', rt := Q } (start N vs) H) :
    Fr P w K mg base (k + 1) x (fun vs H Q E => vs.length ≤ sizeLine ∧ ∀ p, H p = none → sp [V.ref p] (upd H p (.tup vs)) Q E) := by
  obtain ⟨f, fd, hm, F⟩ := D.ex
  have kp := F.kp
  obtain ⟨oc, od, kV, doc, pm, an, cdv, ct, osl, rfl, lk, hcd⟩ := F.ex
  refine ⟨f, hm, kp, ?_⟩
  have Z := StX.fn_star (P := P) (w := w) (mg := mg) (base := base) (k := k) (ps := []) (pv := pv) (sp := sp) lk hcd S StX.cxUp_none (fun us rest hl => by
    have e : us = [] := List.length_eq_zero_iff.mp hl
    subst e
    exact hb kV doc pm an cdv ct rest) fun A outer s H vs Q E hr h => by
      obtain ⟨t, h1, h2⟩ := body f cdv A outer s H vs Q E hr h
      exact ⟨t, h1.nox, h2⟩
  exact Z.imp fun vs H Q E ⟨h1, h2⟩ => ⟨[], vs, rfl, rfl, h1, h2⟩
theorem pe_fr {X : Cx} {k : Nat} {sp : Sp} {E : XK} {x : Str} {p pos : Pos} {e : Expr} {es : List Expr} {t : TA} (F : Fr X.prog X.w X.K X.mg X.base k x sp) (hr : Room k X.A) (hg : Gl X x) (hx : Passes CX0 X E) (ha : PA X (e :: es) t)
    (hdb : (x == ("__debug__" : Str)) = false := by decide) (he : starEach (e :: es) X.env = (false, eval e X.env) :: starEach es X.env := by rfl)
    (hpl : (backTo pos (starEach es X.env)).any (·.1) = false := by rfl) : PE X (.Call (.Name x p) (e :: es) [] pos) (tCall sp [] E t) := by
  obtain ⟨f, hm, hk, F⟩ := F.ex
  constructor
  intro pins s σ H Q I h
  apply wpAny_Call_Name_kw
  apply ld_glob I hg hm ?_ hdb
  refine PySem.W.callWith_K (h₀ := X.base) I.ok.mod.kin hk ?_ he hpl
  refine thn (ha.run pos pins s σ H _ I h) ?_
  rintro us s1 ⟨vs, H1, I1, r, q⟩
  refine ⟨I1.kIn, ?_⟩
  have q' : sp vs H1 Q E := by
    have q0 : sp (vs ++ []) H1 Q E := q
    rw [List.append_nil] at q0
    exact q0
  refine wpAny_call (codeAny_mono (F X.A X.stack s1 H1 us vs Q E hr I1.env0 r q') fun r s' hq => ?_)
  match r, hq with
  | .error e, hq => exact hx pins σ H1 s1 e s' I1 hq
  | .ok (.ret u), hq => exact I1.after hq
  | .ok .next, hq => exact False.elim hq
  | .ok .brk, hq => exact False.elim hq
  | .ok .cont, hq => exact False.elim hq
/-! ## whole numbers of not too many figures -/
def Bd (z : Int) : Prop := -10000000000000000000000000000000000000000 ≤ z ∧ z ≤ 10000000000000000000000000000000000000000
theorem Bd.nat {z : Int} (h : Bd z) : z.natAbs < 2 ^ 140 := by
  have h' : z.natAbs ≤ 10000000000000000000000000000000000000000 := by
    unfold Bd at h
    omega
  exact Nat.lt_of_le_of_lt h' (by decide)
theorem Bd.mul {i j : Int} (hi : Bd i) (hj : Bd j) : CMulW i j := wide_mul hi.nat hj.nat (by decide) (by decide) (by decide)
theorem Bd.div {i j : Int} (h : 0 < j) (hj : Bd j) : CDivW i j := wide_div h hj.nat (by decide) (by decide)
theorem Bd.muls {i j k : Int} (hi : Bd i) (hj : Bd j) (hk : Bd k) : CMulW (i * j) k := wide_mul (wide_lt hi.nat hj.nat) hk.nat (by decide) (by decide) (by decide)
theorem mulB {a b c : Nat} {i j : Int} (hi : i.natAbs < 2 ^ a) (hj : j.natAbs < 2 ^ b) : (i * j).natAbs < 2 ^ (a + b) := wide_lt hi hj
/-- what a fraction between the two has for them -/
theorem Nb.uv {t m N a b c d : Int} (h : Nb t m N a b c d) : t * b - a * m ≤ m ∧ c * m - t * d ≤ m := by
  have e := h.sum
  have u := h.u
  have v := h.v
  have x := mul_ge (x := d) (y := t * b - a * m) h.d1 (by omega)
  have y := mul_ge (x := b) (y := c * m - t * d) h.b1 (by omega)
  have x0 : (t * b - a * m) * d = d * (t * b - a * m) := Int.mul_comm _ _
  have y0 : (c * m - t * d) * b = b * (c * m - t * d) := Int.mul_comm _ _
  omega
theorem Nb.lowB {t m N a b c d T : Int} (h : Nb t m N a b c d) (h1 : -T ≤ t) (h2 : t ≤ T) (hm : N < m) : -(T + 2) ≤ a ∧ a ≤ T := by
  have u := h.u
  have uu := h.uv.1
  have b1 := h.b1
  have bN := h.bN
  have k1 : t * b ≤ T * b := Int.mul_le_mul_of_nonneg_right h2 (by omega)
  have k2 : -T * b ≤ t * b := Int.mul_le_mul_of_nonneg_right h1 (by omega)
  have k3 : T * b ≤ T * m := Int.mul_le_mul_of_nonneg_left (by omega) (by omega)
  have k4 : -T * b = -(T * b) := Int.neg_mul _ _
  constructor
  · refine Int.not_lt.mp fun z => ?_
    have k5 : a * m ≤ (-(T + 3)) * m := Int.mul_le_mul_of_nonneg_right (by omega) (by omega)
    have k6 : (-(T + 3)) * m = -(T * m) - 3 * m := by grind
    omega
  · refine Int.not_lt.mp fun z => ?_
    have k5 : (T + 1) * m ≤ a * m := Int.mul_le_mul_of_nonneg_right (by omega) (by omega)
    have k6 : (T + 1) * m = T * m + m := by grind
    omega
theorem Nb.highB {t m N a b c d T : Int} (h : Nb t m N a b c d) (h1 : -T ≤ t) (h2 : t ≤ T) (hm : N < m) : -T ≤ c ∧ c ≤ T + 2 := by
  have z := h.flip.lowB (T := T) (by omega) (by omega) hm
  omega
/-- the number between the two -/
theorem Nb.mid0 {t m N a b c d : Int} (h : Nb t m N a b c d) (hc : gcdI t m = 1) (e : t * (b + d) - (a + c) * m = 0) : t = a + c ∧ m = b + d := by
  have big := h.big
  have b1 := h.b1
  have d1 := h.d1
  have em : m = b + d := by
    refine Int.le_antisymm (Int.not_lt.mp fun z => ?_) big
    exact no_frac (a := a + c) hc (show 1 ≤ b + d by omega) z e
  refine ⟨?_, em⟩
  rw [← em] at e
  exact Int.eq_of_mul_eq_mul_right (show m ≠ 0 by omega) (by omega)
theorem Nb.midB {t m N a b c d : Int} (h : Nb t m N a b c d) (e : t * (b + d) - (a + c) * m ≠ 0) : b + d < m := by
  have s := h.sum
  have u := h.u
  have v := h.v
  have b1 := h.b1
  have d1 := h.d1
  have ee : t * (b + d) - (a + c) * m = (t * b - a * m) - (c * m - t * d) := by grind
  generalize t * b - a * m = U at *
  generalize c * m - t * d = W at *
  have x := mul_ge (x := U) (y := d) (by omega) (by omega)
  have y := mul_ge (x := W) (y := b) (by omega) (by omega)
  by_cases hu : 2 ≤ U
  · have x2 : 2 * d ≤ U * d := Int.mul_le_mul_of_nonneg_right hu (by omega)
    omega
  · have x2 : 2 * b ≤ W * b := Int.mul_le_mul_of_nonneg_right (by omega) (by omega)
    omega
theorem Nb.midL {t m N a b c d : Int} (h : Nb t m N a b c d) (e : 0 < t * (b + d) - (a + c) * m) : Nb t m (b + d) (a + c) (b + d) c d := by
  have b1 := h.b1
  have d1 := h.d1
  have g := h.g
  exact ⟨by omega, d1, by omega, by omega, by grind, e, h.v⟩
theorem Nb.midH {t m N a b c d : Int} (h : Nb t m N a b c d) (e : t * (b + d) - (a + c) * m < 0) : Nb t m (b + d) a b (a + c) (b + d) := by
  have b1 := h.b1
  have d1 := h.d1
  have g := h.g
  exact ⟨b1, by omega, by omega, by omega, by grind, h.u, by grind⟩
theorem Nb.at {t m N N' a b c d : Int} (h : Nb t m N a b c d) (h1 : b ≤ N') (h2 : d ≤ N') : Nb t m N' a b c d := ⟨h.b1, h.d1, h1, h2, h.g, h.u, h.v⟩
/-! ## fractions, pairs of fractions on the heap -/
abbrev FrT (H : Hp) (p : Addr) (i j : Int) : Prop := H p = some (.tup [.int i, .int j])
abbrev PrT (H : Hp) (p q r : Addr) : Prop := H p = some (.tup [.ref q, .ref r])
def frD (i j : Int) : PyData := .tuple [.int i, .int j]
def prD (a b c d : Int) : PyData := .tuple [frD a b, frD c d]
theorem FrT.dk {H : Hp} {p : Addr} {i j : Int} (h : FrT H p i j) : Dk H (.ref p) (frD i j) := ⟨fun _ => True, .tup trivial h (.cons (.int i) (.cons (.int j) .nil))⟩
theorem FrT.dp {K : PySem.W.Frag} {H : Hp} {p : Addr} {i j : Int} (h : FrT H p i j) : Dp K H (.ref p) (frD i j) := .tup (SqT.of h) (.cons (.int i) (.cons (.int j) .nil))
theorem PrT.dp {K : PySem.W.Frag} {H : Hp} {p q r : Addr} {a b c d : Int} (h : PrT H p q r) (hq : FrT H q a b) (hr : FrT H r c d) : Dp K H (.ref p) (prD a b c d) := .tup (SqT.of h) (.cons (FrT.dp hq) (.cons (FrT.dp hr) .nil))
theorem fr_shaped (i j : Int) : SeqAt.shaped (frD i j) = true := by rfl
theorem pr_shaped (a b c d : Int) : SeqAt.shaped (prD a b c d) = true := by rfl
theorem fr_eqv (i j : Int) : PyData.eqv (frD i j) (frD i j) = true := by simp [frD, PyData.eqv, PyData.eqvAll]
theorem pr_eqv (a b c d : Int) : PyData.eqv (prD a b c d) (prD a b c d) = true := by simp [prD, frD, PyData.eqv, PyData.eqvAll]
end Vg
namespace Vg
open PySem PySem.Spec PyProof.Rows L2
def Sm (z : Int) : Prop := -1000000000000000000000000000000000000000 ≤ z ∧ z ≤ 1000000000000000000000000000000000000000
theorem Sm.bd {z : Int} (h : Sm z) : Bd z := by
  unfold Sm at h
  unfold Bd
  omega
/-- a fraction among those of a tuple -/
def FrV (H : Hp) (x : V) : Prop := ∃ q i j, x = .ref q ∧ FrT H q i j ∧ 1 ≤ j ∧ gcdI i j = 1
theorem FrV.same {H H' : Hp} {x : V} (h : FrV H x) (s : Same H H') : FrV H' x := by
  obtain ⟨q, i, j, e, f, r⟩ := h
  exact ⟨q, i, j, e, s _ _ f, r⟩
def spNeed0 : Sp := fun vs H Q _ => ∃ (p : Addr) (xs : List V), vs = [.ref p] ∧ H p = some (.tup xs) ∧ (∀ x ∈ xs, FrV H x) ∧ ∀ H', Same H H' → Q .non H'
def spNeed : Sp := fun vs H Q E => vs.length ≤ sizeLine ∧ ∀ p, H p = none → spNeed0 [V.ref p] (upd H p (.tup vs)) Q E
theorem need_by {vs : List V} {H : Hp} {Q : VK} {E : XK} (hl : vs.length ≤ sizeLine) (h : ∀ x ∈ vs, FrV H x) (q : ∀ H', Same H H' → Q .non H') : spNeed vs H Q E :=
  ⟨hl, fun p hp => ⟨p, vs, rfl, upd_same, fun x hx => (h x hx).same (Same.new hp), fun H' s => q H' ((Same.new hp).trans s)⟩⟩
/-- the two neighbours of t/m under N: itself twice, or those beside it -/
def NbX (t m N a b c d : Int) : Prop := (m ≤ N ∧ a = t ∧ b = m ∧ c = t ∧ d = m) ∨ (N < m ∧ Nb t m N a b c d ∧ N < b + d)
theorem NbX.one {t m N a b c d a' b' c' d' : Int} (h : NbX t m N a b c d) (h' : NbX t m N a' b' c' d') : a' = a ∧ b' = b ∧ c' = c ∧ d' = d := by
  rcases h with ⟨l, rfl, rfl, rfl, rfl⟩ | ⟨l, n, s⟩ <;> rcases h' with ⟨l', rfl, rfl, rfl, rfl⟩ | ⟨l', n', s'⟩
  · exact ⟨rfl, rfl, rfl, rfl⟩
  · omega
  · omega
  · exact nb_one n s n' s'
structure Bds (t m a b c d : Int) : Prop where
  bt : Bd t
  bm : Bd m
  ba : Bd a
  bb : Bd b
  bc : Bd c
  bd : Bd d
  u0 : 0 ≤ t * b - a * m
  u1 : Bd (t * b - a * m)
  v0 : 0 ≤ c * m - t * d
  v1 : Bd (c * m - t * d)
theorem Nb.bds {t m N a b c d : Int} (h : Nb t m N a b c d) (hm : N < m) (ht : Sm t) (hM : Sm m) : Bds t m a b c d := by
  have l := h.lowB (T := 1000000000000000000000000000000000000000) ht.1 ht.2 hm
  have g := h.highB (T := 1000000000000000000000000000000000000000) ht.1 ht.2 hm
  have uv := h.uv
  have u := h.u
  have v := h.v
  have b1 := h.b1
  have d1 := h.d1
  have bN := h.bN
  have dN := h.dN
  have m1 := hM.1
  have m2 := hM.2
  refine ⟨ht.bd, hM.bd, ?_, ?_, ?_, ?_, by omega, ?_, by omega, ?_⟩ <;> (unfold Bd; omega)
theorem NbX.bds {t m N a b c d : Int} (h : NbX t m N a b c d) (ht : Sm t) (hM : Sm m) : Bds t m a b c d := by
  rcases h with ⟨l, rfl, rfl, rfl, rfl⟩ | ⟨l, n, s⟩
  · have e : c * d - c * d = 0 := by omega
    have z : Bd 0 := by
      unfold Bd
      omega
    exact ⟨ht.bd, hM.bd, ht.bd, hM.bd, ht.bd, hM.bd, by omega, e ▸ z, by omega, e ▸ z⟩
  · exact n.bds l ht hM
theorem NbX.pos {t m N a b c d : Int} (h : NbX t m N a b c d) (hm : 1 ≤ m) : 1 ≤ b ∧ 1 ≤ d := by
  rcases h with ⟨l, rfl, rfl, rfl, rfl⟩ | ⟨l, n, s⟩
  · exact ⟨hm, hm⟩
  · exact ⟨n.b1, n.d1⟩
/-- whether the low one is the nearer one -/
def nearB (t m a b c d : Int) : Bool := if (t * b - a * m) * d = (c * m - t * d) * b then decide (b ≤ d) else decide ((t * b - a * m) * d < (c * m - t * d) * b)
def spStrict : Sp := fun vs H Q _ => ∃ (p : Addr) (t m N : Int), vs = [.ref p, .int N] ∧ FrT H p t m ∧ gcdI t m = 1 ∧ 1 ≤ N ∧ N < m ∧ Sm t ∧ Sm m ∧
  ∀ (a b c d : Int) (q r s : Addr) (H' : Hp), NbX t m N a b c d → Same H H' → FrT H' q a b → FrT H' r c d → PrT H' s q r → Q (.ref s) H'
def spNbrs : Sp := fun vs H Q _ => ∃ (p : Addr) (t m N : Int), vs = [.ref p, .int N] ∧ FrT H p t m ∧ gcdI t m = 1 ∧ 1 ≤ N ∧ 1 ≤ m ∧ Sm t ∧ Sm m ∧
  ∀ (a b c d : Int) (q r s : Addr) (H' : Hp), NbX t m N a b c d → Same H H' → FrT H' q a b → FrT H' r c d → PrT H' s q r → Q (.ref s) H'
def spNearest : Sp := fun vs H Q _ => ∃ (p : Addr) (t m N : Int), vs = [.ref p, .int N] ∧ FrT H p t m ∧ gcdI t m = 1 ∧ 1 ≤ N ∧ 1 ≤ m ∧ Sm t ∧ Sm m ∧
  ∀ (a b c d : Int) (q : Addr) (H' : Hp), NbX t m N a b c d → Same H H' → FrT H' q (if nearB t m a b c d = true then a else c) (if nearB t m a b c d = true then b else d) → Q (.ref q) H'
/-- the nearer one of a told pair -/
def spNearL : Sp := fun vs H Q _ => ∃ (p x q r : Addr) (t m a b c d : Int), vs = [.ref p, .ref x] ∧ PrT H p q r ∧ FrT H q a b ∧ FrT H r c d ∧ FrT H x t m ∧ Bds t m a b c d ∧
  ∀ (y : Addr), FrT H y (if nearB t m a b c d = true then a else c) (if nearB t m a b c d = true then b else d) → Q (.ref y) H
def spGap : Sp := fun vs H Q _ => ∃ (x y : Addr) (a b c d : Int), vs = [.ref x, .ref y] ∧ FrT H x a b ∧ FrT H y c d ∧ Bd a ∧ Bd b ∧ Bd c ∧ Bd d ∧ Q (.int (c * b - a * d)) H
theorem min_if (i j : Int) : (if j < i then j else i) = min i j := by
  split <;> omega
end Vg
namespace Vg
open PySem PySem.Spec PyProof.Rows L2
theorem gcd_of {a b c d : Int} (g : c * b - a * d = 1) : gcdI a b = 1 := by
  unfold gcdI
  have d1 : ((Nat.gcd a.natAbs b.natAbs : Nat) : Int) ∣ a := Int.ofNat_dvd_left.mpr (Nat.gcd_dvd_left _ _)
  have d2 : ((Nat.gcd a.natAbs b.natAbs : Nat) : Int) ∣ b := Int.ofNat_dvd_left.mpr (Nat.gcd_dvd_right _ _)
  have d3 : ((Nat.gcd a.natAbs b.natAbs : Nat) : Int) ∣ 1 := by
    rw [← g]
    exact Int.dvd_sub (Int.dvd_mul_of_dvd_right d2) (Int.dvd_mul_of_dvd_left d1)
  have d4 := Int.ofNat_dvd_left.mp d3
  have d5 := Nat.dvd_one.mp d4
  rw [d5]
  rfl
theorem NbX.gcds {t m N a b c d : Int} (h : NbX t m N a b c d) (hc : gcdI t m = 1) : gcdI a b = 1 ∧ gcdI c d = 1 := by
  rcases h with ⟨l, rfl, rfl, rfl, rfl⟩ | ⟨l, n, s⟩
  · exact ⟨hc, hc⟩
  · refine ⟨gcd_of n.g, ?_⟩
    have g := n.g
    have e : (-a) * d - c * (-b) = 1 := by grind
    exact gcd_of e
theorem gcd_divs {a b : Int} (hb : 1 ≤ b) : gcdI (a / gcdI a b) (b / gcdI a b) = 1 ∧ 1 ≤ gcdI a b ∧ 1 ≤ b / gcdI a b := by
  have hg : 0 < Nat.gcd a.natAbs b.natAbs := Nat.gcd_pos_of_pos_right _ (by omega)
  have d1 : ((Nat.gcd a.natAbs b.natAbs : Nat) : Int) ∣ a := Int.ofNat_dvd_left.mpr (Nat.gcd_dvd_left _ _)
  have d2 : ((Nat.gcd a.natAbs b.natAbs : Nat) : Int) ∣ b := Int.ofNat_dvd_left.mpr (Nat.gcd_dvd_right _ _)
  have e1 : (a / gcdI a b).natAbs = a.natAbs / Nat.gcd a.natAbs b.natAbs := by
    unfold gcdI
    rw [Int.natAbs_ediv_of_dvd d1]
    rfl
  have e2 : (b / gcdI a b).natAbs = b.natAbs / Nat.gcd a.natAbs b.natAbs := by
    unfold gcdI
    rw [Int.natAbs_ediv_of_dvd d2]
    rfl
  refine ⟨?_, ?_, ?_⟩
  · show ((Nat.gcd (a / gcdI a b).natAbs (b / gcdI a b).natAbs : Nat) : Int) = 1
    rw [e1, e2, Nat.coprime_div_gcd_div_gcd hg]
    rfl
  · unfold gcdI
    omega
  · refine (Int.le_ediv_iff_mul_le (by unfold gcdI; omega)).mpr ?_
    have := Int.le_of_dvd (by omega) d2
    unfold gcdI
    omega
theorem div_small {a g T : Int} (hg : 1 ≤ g) (h1 : -T ≤ a) (h2 : a ≤ T) (hT : 0 ≤ T) : -T ≤ a / g ∧ a / g ≤ T := by
  constructor
  · refine (Int.le_ediv_iff_mul_le (by omega)).mpr ?_
    have := mul_ge hg hT
    have e : -T * g = -(g * T) := by grind
    omega
  · by_cases h0 : 0 ≤ a
    · exact Int.le_trans (Int.ediv_le_self _ h0) h2
    · have : a / g < 0 := Int.ediv_neg_of_neg_of_pos (by omega) (by omega)
      omega
def spIsF : Sp := fun vs H Q _ => ∃ (p : Addr) (i j : Int), vs = [.ref p] ∧ FrT H p i j ∧ 1 ≤ j ∧ gcdI i j = 1 ∧ ∀ H', Same H H' → Q (.bl true) H'
def spShown : Sp := fun vs H Q _ => ∃ (s x q r : Addr) (t m N a b c d : Int), vs = [.ref s, .ref x, .int N] ∧ PrT H s q r ∧ FrT H q a b ∧ FrT H r c d ∧ FrT H x t m ∧ gcdI t m = 1 ∧ 1 ≤ m ∧ Sm t ∧ Sm m ∧ NbX t m N a b c d ∧
  ∀ H', Same H H' → Q (.bl true) H'
def spTurns : Sp := fun vs H Q _ => ∃ (s x q r : Addr) (t m N a b c d : Int), vs = [.ref s, .ref x] ∧ PrT H s q r ∧ FrT H q a b ∧ FrT H r c d ∧ FrT H x t m ∧ gcdI t m = 1 ∧ 1 ≤ N ∧ Sm t ∧ Sm m ∧ N < m ∧ Nb t m N a b c d ∧ N < b + d ∧
  ∀ H', Same H H' → Q (.bl true) H'
def spMade : Sp := fun vs H Q _ => ∃ (a b : Int), vs = [.int a, .int b] ∧ Sm a ∧ Sm b ∧ 1 ≤ b ∧ ∀ (q : Addr) (t m : Int) (H' : Hp), gcdI t m = 1 → 1 ≤ m → Sm t → Sm m → Same H H' → FrT H' q t m → Q (.ref q) H'
def spDigits : Sp := fun vs H Q _ => ∃ (p : Addr) (k n : Nat), vs = [.ref p, .int k] ∧ k ≤ 30 ∧ Pz H p (n + k) ∧ ∀ (z : Int) (H' : Hp), 0 ≤ z → z < 1000000000000000000000000000000 → But p H H' → Pz H' p n → Q (.int z) H'
def spFraction : Sp := fun vs H Q _ => ∃ (p : Addr) (n : Nat), vs = [.ref p] ∧ Pz H p (n + 200) ∧ ∀ (q : Addr) (t m : Int) (H' : Hp), gcdI t m = 1 → 1 ≤ m → Sm t → Sm m → But p H H' → Pz H' p n → FrT H' q t m → Q (.ref q) H'
def spBound : Sp := fun vs H Q _ => ∃ (p x : Addr) (t m : Int) (n : Nat), vs = [.ref p, .ref x] ∧ FrT H x t m ∧ Pz H p (n + 50) ∧ ∀ (N : Int) (H' : Hp), 1 ≤ N → But p H H' → Pz H' p n → Q (.int N) H'
def rIsi (K : PySem.W.Frag) : List V → Hp → VK → Prop := fun xs H Q => ∃ x n c b, xs = [x, .ty c] ∧ Tn K H x n ∧ kitB n c = some b ∧ Q (.bl b) H
theorem cr_isiB {X : Cx} {K : PySem.W.Frag} (h : X.K = K := by rfl) : CallR X (.builtin "isinstance") (rIsi K) := by
  subst h
  exact cr_isi
def yes (n : Nat) : List V := (List.replicate n true).map V.bl
theorem yes_on (n : Nat) : yes n ++ [V.bl true] = yes (n + 1) := by
  unfold yes
  rw [List.replicate_succ', List.map_append]
  rfl
theorem yes_len (n : Nat) : (yes n).length = n := by
  unfold yes
  simp
theorem yes_all (n : Nat) : (List.replicate n true).all id = true := by simp
end Vg
namespace Vg
open PySem PySem.Spec PyProof.Rows L2
/-! ## repr of a dict of plain values -/
inductive Fl : V → PyData → Prop
  | non : Fl .non .none
  | bl (b : Bool) : Fl (.bl b) (.bool b)
  | int (i : Int) : Fl (.int i) (.int i)
  | str (z : Str) : Fl (.str z) (.str z)
theorem Fl.reads {h : Heap} {v : V} {d : PyData} {u : Value} (f : Fl v d) (r : RelV v u) : Reads h u d [] := by
  cases f with
  | non => cases r; exact .none
  | bl b => cases r; exact .bool b
  | int i => obtain ⟨t, rfl⟩ := r; exact .int i t
  | str z => obtain ⟨t, rfl⟩ := r; exact .str z t
inductive FlKv : List (Key × V) → List (PyData × PyData) → Prop
  | nil : FlKv [] []
  | cons {k : Key} {v : V} {d : PyData} {r : List (Key × V)} {s : List (PyData × PyData)} (f : Fl v d) (h : FlKv r s) : FlKv ((k, v) :: r) ((kD k, d) :: s)
theorem key_reads {h : Heap} {k : Key} {u : Value} (e : keyIs k u = true) : Reads h u (kD k) [] := by
  rcases keyIs_shape e with ⟨i, t, rfl, rfl⟩ | ⟨x, t, rfl, rfl⟩
  · exact .int i t
  · exact .str x t
theorem flkv_reads {P : Program} {w : World} {h : Heap} {kvs : List (Key × V)} {es : List (PyData × PyData)} (f : FlKv kvs es) : ∀ {vs : List (Key × Value)} {ents : List DictEntry}, KV kvs vs → Pairs (mixKind P w) ents vs →
    ReadsAll h (ents.map (·.key)) (es.map (·.1)) [] ∧ ReadsAll h (ents.map (·.val)) (es.map (·.2)) [] := by
  induction f with
  | nil =>
    intro vs ents r p
    cases r
    cases p
    exact ⟨.nil, .nil⟩
  | @cons k v d r s f _ ih =>
    intro vs ents r p
    cases r with
    | @cons _ q _ qs a b =>
      cases p with
      | @cons e _ es' _ k1 k2 k3 =>
        obtain ⟨i1, i2⟩ := ih b k3
        obtain ⟨a1, a2⟩ := a
        have a1' : k = q.1 := a1
        have k1' : keyIs q.1 e.key = true := k1
        rw [← a1'] at k1'
        refine ⟨ReadsAll.cons (key_reads k1') i1, ?_⟩
        have z := f.reads (h := h) a2
        rw [← k2] at z
        exact ReadsAll.cons z i2
/-- what may be written as a text: lists, tuples of plain things; a dict of plain values -/
def Dr (K : PySem.W.Frag) (H : Hp) (x : V) (d : PyData) : Prop := Dp K H x d ∨ ∃ a kvs es, x = .ref a ∧ d = .dict es ∧ H a = some (.dK kvs) ∧ FlKv kvs es
theorem cr_reprA {X : Cx} (hg : X.A.guards = some []) (hu : X.A.units + 64 < cLine) :
    CallR X (.builtin "repr") (fun xs H Q => ∃ x d, xs = [x] ∧ Dr X.K H x d ∧ d.showable = true ∧ d.depth ≤ 50 ∧ d.shown.length ≤ sizeLine ∧ Q (.str d.shown) H) := by
  intro pins s σ H xs us Q I r h
  obtain ⟨x, d, rfl, hd | ⟨a, kvs, es, rfl, rfl, ha, f⟩, hs, hdep, hz, q⟩ := h
  · exact cr_repr hg hu pins s σ H _ us Q I r ⟨x, d, rfl, hd, hs, hdep, hz, q⟩
  · obtain ⟨u, rfl, ru⟩ := one_val r
    cases ru
    obtain ⟨_, na, vs, rv, o, ents, ep, ho, hx, hdat, _, hp, _⟩ := (show ObjOk X.prog X.w H s.heap a (.dK kvs) from I.hok a _ ha)
    obtain ⟨r1, r2⟩ := flkv_reads (h := s.heap) f rv hp
    have rd : Reads s.heap (.ref a) (.dict es) (a :: [] ++ []) := .dict ho hx.1 hdat r1 r2
    refine repr_of_reads' rd hs (fun _ => ?_) hg (by omega) (fun b o e => e) (fun h' u tk hk => ⟨.str _, H, I.kept hk, ⟨_, rfl⟩, q⟩) (hsz := hz)
    intro hm
    have e : sysModules = a := by simpa using hm
    rw [← e] at na
    simp at na
end Vg
namespace Vg
open PySem PySem.Spec PyProof.Rows L2
/-- a base of errors with its own __init__, as the head tells it -/
structure XtIn (K : PySem.W.Frag) (x q : Str) (st : Stmt) : Prop where
  ex : ∃ (C f : Addr) (oc : Value) (od an : Option Addr) (sl : Array (Option Value)) (kV dc pm cd ct : Value), PySem.W.nsIn K mainGlobals x = some (some (.ref C)) ∧ ClsFn K C "__init__" f ∧
    K.lookup f = some ⟨oc, od, .func (PySem.W.fnOf "__init__" q (defArgs st) (defBody st) (defScope st) .none kV dc pm an cd ct), sl⟩ ∧ PySem.W.codeIn K cd q = true
theorem XtIn.by {K : PySem.W.Frag} {x q : Str} {st : Stmt} {C f : Addr} {oc : Value} {od an : Option Addr} {sl : Array (Option Value)} {kV dc pm cd ct : Value} (a : PySem.W.nsIn K mainGlobals x = some (some (.ref C)))
    (ga : PySem.W.specialIn K (.ref C) "__getattribute__" = some (some (.builtin "type.__getattribute__"))) (rd : PySem.W.readsIn K C (.type "type") = true)
    (fc : PySem.W.findCls K (.ref C) (.type "type") "__init__" = some (.val (.ref f))) (kp : PySem.W.keepIn K (.ref f) = true)
    (l : K.lookup f = some ⟨oc, od, .func (PySem.W.fnOf "__init__" q (defArgs st) (defBody st) (defScope st) .none kV dc pm an cd ct), sl⟩) (c : PySem.W.codeIn K cd q = true) : XtIn K x q st :=
  ⟨C, f, oc, od, an, sl, kV, dc, pm, cd, ct, a, ⟨ga, rd, fc, kp⟩, l, c⟩
/-- the same behind the head -/
structure XtAt (K : PySem.W.Frag) (mg : Str → Option Value) (x q : Str) (st : Stmt) : Prop where
  ex : ∃ (f : Addr) (fd : FuncData), mg x = some (.ref (clsA K x)) ∧ ClsFn K (clsA K x) "__init__" f ∧ Fun K "__init__" q st f fd
theorem XtIn.at {K : PySem.W.Frag} {h : Heap} {mg : Str → Option Value} {x q : Str} {st : Stmt} (D : XtIn K x q st) (X : K.In h) (G : h.Ns mainGlobals mg) : XtAt K mg x q st := by
  obtain ⟨C, f, oc, od, an, sl, kV, dc, pm, cd, ct, a, cf, l, c⟩ := D.ex
  have e := clsA_of a
  refine ⟨f, _, ?_, ?_, fun_mk l c cf.kp⟩
  · rw [e]
    exact PySem.W.mg_of X G a
  · rw [e]
    exact cf
/-- a class of errors of one field, as the head tells it -/
structure XeIn (K : PySem.W.Frag) (x fl q : Str) (st : Stmt) : Prop where
  ex : ∃ (C f : Addr) (oc : Value) (od an : Option Addr) (sl : Array (Option Value)) (kV dc pm cd ct : Value), PySem.W.nsIn K mainGlobals x = some (some (.ref C)) ∧ OexC K C ∧ ExcC K C ∧ XfC K C ∧
    PySem.W.findIn K (.ref C) fl = some none ∧ PySem.W.findIn K (.ref C) "__init__" = some (some (.ref f)) ∧ PySem.W.typeIn K (.ref f) = some (.type "function") ∧
    K.lookup f = some ⟨oc, od, .func (PySem.W.fnOf "__init__" q (defArgs st) (defBody st) (defScope st) .none kV dc pm an cd ct), sl⟩ ∧ PySem.W.codeIn K cd q = true ∧ PySem.W.keepIn K (.ref f) = true
theorem XeIn.by {K : PySem.W.Frag} {x fl q : Str} {st : Stmt} {C f : Addr} {oc : Value} {od an : Option Addr} {sl : Array (Option Value)} {kV dc pm cd ct : Value}
    (a : PySem.W.nsIn K mainGlobals x = some (some (.ref C))) (o : OexC K C)
    (hg : PySem.W.findIn K (.ref C) "__getattribute__" = some (some (.builtin "BaseException.__getattribute__"))) (hk : PySem.W.findIn K (.ref C) "__getattr__" = some none) (hd : PySem.W.hasDictIn K C = true)
    (ha : PySem.W.findIn K (.ref C) "__class__" = some (some (.builtin "object.__class__"))) (hn : PySem.W.specialIn K (.builtin "object.__class__") "__get__" = some (some (.builtin "getset_descriptor.__get__")))
    (ht : PySem.W.takesIn K (.builtin "object.__class__") = some true) (hm : PySem.W.mroIn K C (.type "object") = some true) (no : PySem.W.findIn K (.ref C) fl = some none)
    (iC : PySem.W.findIn K (.ref C) "__init__" = some (some (.ref f))) (tI : PySem.W.typeIn K (.ref f) = some (.type "function"))
    (l : K.lookup f = some ⟨oc, od, .func (PySem.W.fnOf "__init__" q (defArgs st) (defBody st) (defScope st) .none kV dc pm an cd ct), sl⟩) (c : PySem.W.codeIn K cd q = true) (kp : PySem.W.keepIn K (.ref f) = true) : XeIn K x fl q st :=
  ⟨C, f, oc, od, an, sl, kV, dc, pm, cd, ct, a, o, ⟨hg, hk, o.exC, hd, ha, hn, ht, hm⟩, ⟨hg, hk, o.exC, hd⟩, no, iC, tI, l, c, kp⟩
structure XeAt (K : PySem.W.Frag) (mg : Str → Option Value) (x fl q : Str) (st : Stmt) : Prop where
  ex : ∃ (f : Addr) (fd : FuncData), mg x = some (.ref (clsA K x)) ∧ OexC K (clsA K x) ∧ ExcC K (clsA K x) ∧ XfC K (clsA K x) ∧ PySem.W.findIn K (.ref (clsA K x)) fl = some none ∧
    PySem.W.findIn K (.ref (clsA K x)) "__init__" = some (some (.ref f)) ∧ PySem.W.typeIn K (.ref f) = some (.type "function") ∧ Fun K "__init__" q st f fd
theorem XeIn.at {K : PySem.W.Frag} {h : Heap} {mg : Str → Option Value} {x fl q : Str} {st : Stmt} (D : XeIn K x fl q st) (X : K.In h) (G : h.Ns mainGlobals mg) : XeAt K mg x fl q st := by
  obtain ⟨C, f, oc, od, an, sl, kV, dc, pm, cd, ct, a, o, e1, xf, no, iC, tI, l, c, kp⟩ := D.ex
  have e := clsA_of a
  refine ⟨f, PySem.W.fnOf "__init__" q (defArgs st) (defBody st) (defScope st) .none kV dc pm an cd ct, ?_, ?_, ?_, ?_, ?_, ?_, tI, fun_mk l c kp⟩
  · rw [e]
    exact PySem.W.mg_of X G a
  all_goals rw [e]
  all_goals assumption
theorem oex_by {K : PySem.W.Frag} {C : Addr} {nm q N bs bm sn sub ab col dd k0 k1 k2 k3 k5} (l : K.lookup C = some (excClassObj nm q C N bs bm true sn sub ab col dd k0 k1 k2 k3 k5 "ValueError.__new__")) (b : PySem.HandSPX.refsVE bm = true)
    (sa : PySem.W.findIn K (.ref C) "__setattr__" = some (some (.builtin "object.__setattr__"))) (exC : PySem.W.subIn K (.ref C) (.type "BaseException") = some true) (tyC : PySem.W.typeIn K (.ref C) = some (.type "type")) (kC : PySem.W.keepIn K (.ref C) = true) : OexC K C :=
  ⟨⟨nm, q, N, bs, bm, sn, sub, ab, col, dd, k0, k1, k2, k3, k5, l, b⟩, sa, exC, tyC, kC⟩
/-- of two classes: whether the one stands under the other -/
structure PairIn (K : PySem.W.Frag) (x y : Str) (b : Bool) : Prop where
  is : PySem.W.kitOne K (.ref (clsA K x)) (.ref (clsA K y)) = some b
  em : PySem.W.exmOne K (.ref (clsA K x)) (.ref (clsA K y)) = some b
theorem PairIn.by {K : PySem.W.Frag} {x y : Str} {b : Bool} {C D : Addr} (h1 : PySem.W.nsIn K mainGlobals x = some (some (.ref C))) (h2 : PySem.W.nsIn K mainGlobals y = some (some (.ref D)))
    (h3 : PySem.W.kitOne K (.ref C) (.ref D) = some b) (h4 : PySem.W.exmOne K (.ref C) (.ref D) = some b) : PairIn K x y b := by
  have e1 := clsA_of h1
  have e2 := clsA_of h2
  subst e1 e2
  exact ⟨h3, h4⟩
end Vg
namespace Vg
open PySem PySem.Spec PyProof.Rows L2
/-- a def that may raise, as its callers know it -/
structure Fx (P : Program) (w : World) (K : PySem.W.Frag) (mg : Str → Option Value) (base : Heap) (k : Nat) (x : Str) (ps : List Str) (sp : Sp) : Prop where
  ex : ∃ (f : Addr) (fd : FuncData), mg x = some (.ref f) ∧ PySem.W.keepIn K (.ref f) = true ∧ Binds K fd ps [] ∧ FnOk P w K mg base (L2.CX P w) k f fd ps sp
theorem At.fx {P : Program} {w : World} {K : PySem.W.Frag} {mg : Str → Option Value} {base : Heap} {k : Nat} {x : Str} {st : Stmt} {N ps : List Str} {sp : Sp} (D : At K mg x st) (S : FnScope N ps (defScope st))
    (hb : ∀ (kV doc pm : Value) (an : Option Addr) (cdv ct : Value) (us : List Value), us.length = ps.length →
      bindArgs (PySem.W.fnOf x x (defArgs st) (defBody st) (defScope st) .none kV doc pm an cdv ct) ⟨us, []⟩ = pure (ps.zip us))
    (len : ∀ vs H Q E, sp vs H Q E → vs.length = ps.length)
    (body : ∀ (f : Addr) (cdv : Value) (A : Around) (outer : List Env) (s : Shared) (H : Hp) (vs : List V) (Q : VK) (E : XK),
      Room k (A.deeper (envOfC x (defScope st) s.heap.objs.size f cdv)) → sp vs H Q E →
      ∃ t, PSs (cxOf (L2.CX P w) P w K mg base N x (defScope st) f cdv A outer s H E) (defBody st) t ∧ t { nx := fun _ H' => Q .non H', rt := Q } (start N vs) H) :
    Fx P w K mg base (k + 1) x ps sp := by
  obtain ⟨f, fd, hm, F⟩ := D.ex
  exact ⟨f, fd, hm, F.kp, F.binds hb, F.okX S len fun cdv A outer s H vs Q E hr h => body f cdv A outer s H vs Q E hr h⟩
theorem pe_fx {X : Cx} {k : Nat} {ps : List Str} {sp : Sp} {E : XK} {x : Str} {p pos : Pos} {e : Expr} {es : List Expr} {t : TA} (F : Fx X.prog X.w X.K X.mg X.base k x ps sp) (hr : Room k X.A) (hg : Gl X x) (hx : Passes (L2.CX X.prog X.w) X E) (ha : PA X (e :: es) t)
    (hdb : (x == ("__debug__" : Str)) = false := by decide) (he : starEach (e :: es) X.env = (false, eval e X.env) :: starEach es X.env := by rfl)
    (hpl : (backTo pos (starEach es X.env)).any (·.1) = false := by rfl) : PE X (.Call (.Name x p) (e :: es) [] pos) (tCall sp [] E t) := by
  obtain ⟨f, fd, hm, hk, hb, F⟩ := F.ex
  exact pe_call F hr hg hm hk hb .nil hx ha hdb he hpl
/-- the same in a try's body -/
theorem pe_fxS {X : Cx} {W : WX} {k : Nat} {ps : List Str} {sp : Sp} {x : Str} {p pos : Pos} {e : Expr} {es : List Expr} {t : TA} (F : Fx X.prog X.w X.K X.mg X.base k x ps sp) (tk : Takes X W) (hr : Room k X.A) (hg : Gl X x) (ha : PA X (e :: es) t)
    (hdb : (x == ("__debug__" : Str)) = false := by decide) (he : starEach (e :: es) X.env = (false, eval e X.env) :: starEach es X.env := by rfl)
    (hpl : (backTo pos (starEach es X.env)).any (·.1) = false := by rfl) : PE X (.Call (.Name x p) (e :: es) [] pos) (tCallS sp (WE W) t) := by
  obtain ⟨f, fd, hm, hk, hb, F⟩ := F.ex
  exact pe_callS F hr hg hm hk hb (fun σ => passAt tk σ) ha hdb he hpl
/-- a def with a star parameter that may raise -/
structure FxR (P : Program) (w : World) (K : PySem.W.Frag) (mg : Str → Option Value) (base : Heap) (k : Nat) (x : Str) (sp : Sp) : Prop where
  ex : ∃ f : Addr, mg x = some (.ref f) ∧ PySem.W.keepIn K (.ref f) = true ∧ FnR P w K mg base (L2.CX P w) k f sp
theorem At.fxr {P : Program} {w : World} {K : PySem.W.Frag} {mg : Str → Option Value} {base : Heap} {k : Nat} {x : Str} {st : Stmt} {N : List Str} {pv : Str} {sp : Sp} (D : At K mg x st) (S : FnScope N [pv] (defScope st))
    (hb : ∀ (kV doc pm : Value) (an : Option Addr) (cdv ct : Value) (us : List Value),
      bindArgs (PySem.W.fnOf x x (defArgs st) (defBody st) (defScope st) .none kV doc pm an cdv ct) ⟨us, []⟩ = (newTuple us >>= fun t => pure [(pv, t)]))
    (body : ∀ (f : Addr) (cdv : Value) (A : Around) (outer : List Env) (s : Shared) (H : Hp) (vs : List V) (Q : VK) (E : XK),
      Room k (A.deeper (envOfC x (defScope st) s.heap.objs.size f cdv)) → sp vs H Q E →
      ∃ t, PSs (cxOf (L2.CX P w) P w K mg base N x (defScope st) f cdv A outer s H E) (defBody st) t ∧ t { nx := fun _ H' => Q .non H', rt := Q } (start N vs) H) :
    FxR P w K mg base (k + 1) x (fun vs H Q E => vs.length ≤ sizeLine ∧ ∀ p, H p = none → sp [V.ref p] (upd H p (.tup vs)) Q E) := by
  obtain ⟨f, fd, hm, F⟩ := D.ex
  have kp := F.kp
  obtain ⟨oc, od, kV, doc, pm, an, cdv, ct, osl, rfl, lk, hcd⟩ := F.ex
  refine ⟨f, hm, kp, ?_⟩
  have Z := StX.fn_star (P := P) (w := w) (mg := mg) (base := base) (k := k) (ps := []) (pv := pv) (sp := sp) lk hcd S StX.cxUp (fun us rest hl => by
    have e : us = [] := List.length_eq_zero_iff.mp hl
    subst e
    exact hb kV doc pm an cdv ct rest) fun A outer s H vs Q E hr h => body f cdv A outer s H vs Q E hr h
  exact Z.imp fun vs H Q E ⟨h1, h2⟩ => ⟨[], vs, rfl, rfl, h1, h2⟩
theorem pe_fxr {X : Cx} {k : Nat} {sp : Sp} {E : XK} {x : Str} {p pos : Pos} {e : Expr} {es : List Expr} {t : TA} (F : FxR X.prog X.w X.K X.mg X.base k x sp) (hr : Room k X.A) (hg : Gl X x) (hx : Passes (L2.CX X.prog X.w) X E) (ha : PA X (e :: es) t)
    (hdb : (x == ("__debug__" : Str)) = false := by decide) (he : starEach (e :: es) X.env = (false, eval e X.env) :: starEach es X.env := by rfl)
    (hpl : (backTo pos (starEach es X.env)).any (·.1) = false := by rfl) : PE X (.Call (.Name x p) (e :: es) [] pos) (tCall sp [] E t) := by
  obtain ⟨f, hm, hk, F⟩ := F.ex
  constructor
  intro pins s σ H Q I h
  apply wpAny_Call_Name_kw
  apply ld_glob I hg hm ?_ hdb
  refine PySem.W.callWith_K (h₀ := X.base) I.ok.mod.kin hk ?_ he hpl
  refine thn (ha.run pos pins s σ H _ I h) ?_
  rintro us s1 ⟨vs, H1, I1, r, q⟩
  refine ⟨I1.kIn, ?_⟩
  have q' : sp vs H1 Q E := by
    have q0 : sp (vs ++ []) H1 Q E := q
    rw [List.append_nil] at q0
    exact q0
  refine wpAny_call (codeAny_mono (F X.A X.stack s1 H1 us vs Q E hr I1.env0 r q') fun r s' hq => ?_)
  match r, hq with
  | .error e, hq => exact hx pins σ H1 s1 e s' I1 hq
  | .ok (.ret u), hq => exact I1.after hq
  | .ok .next, hq => exact False.elim hq
  | .ok .brk, hq => exact False.elim hq
  | .ok .cont, hq => exact False.elim hq
/-- a refusal of the class x that holds v -/
def Rf (K : PySem.W.Frag) (x : Str) (v : V) (H : Hp) (E : XK) : Prop := ∀ dd H', Same H H' → H' dd = some (.xd [("found", v)]) → E (.ref (clsA K x)) (some dd) H'
theorem Rf.same {K : PySem.W.Frag} {x : Str} {v : V} {H H1 : Hp} {E : XK} (r : Rf K x v H E) (s : Same H H1) : Rf K x v H1 E := fun dd H' s' h => r dd H' (s.trans s') h
def spNeedX0 (K : PySem.W.Frag) : Sp := fun vs H Q E => ∃ (p : Addr) (xs : List V), vs = [.ref p] ∧ H p = some (.tup xs) ∧
  (((∀ x ∈ xs, ∃ d, Dk H x d ∧ fracD d = true) ∧ ∀ H', Same H H' → Q .non H') ∨
    ∃ (i : Nat) (x : V) (d : PyData), xs[i]? = some x ∧ Dk H x d ∧ fracD d = false ∧ (∀ j y, j < i → xs[j]? = some y → ∃ e, Dk H y e ∧ fracD e = true) ∧ Rf K "NoFraction" x H E)
def spNeedX (K : PySem.W.Frag) : Sp := fun vs H Q E => vs.length ≤ sizeLine ∧ ∀ p, H p = none → spNeedX0 K [V.ref p] (upd H p (.tup vs)) Q E
theorem needX_ok {K : PySem.W.Frag} {vs : List V} {H : Hp} {Q : VK} {E : XK} (hl : vs.length ≤ sizeLine) (h : ∀ x ∈ vs, ∃ d, Dk H x d ∧ fracD d = true) (q : ∀ H', Same H H' → Q .non H') : spNeedX K vs H Q E :=
  ⟨hl, fun p hp => ⟨p, vs, rfl, upd_same, .inl ⟨fun x hx => (h x hx).imp fun d z => ⟨z.1.same (Same.new hp), z.2⟩, fun H' s => q H' ((Same.new hp).trans s)⟩⟩⟩
theorem needX_no {K : PySem.W.Frag} {vs : List V} {H : Hp} {Q : VK} {E : XK} {i : Nat} {x : V} {d : PyData} (hl : vs.length ≤ sizeLine) (hx : vs[i]? = some x) (hd : Dk H x d) (hf : fracD d = false)
    (h : ∀ j y, j < i → vs[j]? = some y → ∃ e, Dk H y e ∧ fracD e = true) (r : Rf K "NoFraction" x H E) : spNeedX K vs H Q E :=
  ⟨hl, fun p hp => ⟨p, vs, rfl, upd_same, .inr ⟨i, x, d, hx, hd.same (Same.new hp), hf, fun j y hj hy => (h j y hj hy).imp fun e z => ⟨z.1.same (Same.new hp), z.2⟩, r.same (Same.new hp)⟩⟩⟩
theorem fr_true {i j : Int} (hb : 1 ≤ j) (hg : gcdI i j = 1) : fracD (frD i j) = true := by
  show (decide (1 ≤ j) && decide (gcdI i j = 1)) = true
  rw [decide_eq_true hb, decide_eq_true hg]
  rfl
/-- what is no bound -/
def badN : V → Bool
  | .int N => decide (N < 1)
  | _ => true
def spNbrsX (K : PySem.W.Frag) : Sp := fun vs H Q E => vs.length = 2 ∧ ((∃ x n d, vs = [x, n] ∧ Dk H x d ∧ fracD d = false ∧ Rf K "NoFraction" x H E) ∨
  (∃ p t m n d, vs = [.ref p, n] ∧ FrT H p t m ∧ gcdI t m = 1 ∧ 1 ≤ m ∧ Dk H n d ∧ badN n = true ∧ Rf K "NoNumber" n H E) ∨ spNbrs vs H Q E)
def spAsked : Sp := fun vs H Q _ => vs.length = 2 ∧ ((∃ x n d, vs = [x, n] ∧ Dk H x d ∧ fracD d = false ∧ ∀ y H', Same H H' → H' y = some (.tup [.str "fraction", x]) → Q (.ref y) H') ∨
  (∃ p t m n d, vs = [.ref p, n] ∧ FrT H p t m ∧ gcdI t m = 1 ∧ 1 ≤ m ∧ Dk H n d ∧ badN n = true ∧ ∀ y H', Same H H' → H' y = some (.tup [.str "number", n]) → Q (.ref y) H') ∨
  (∃ (p : Addr) (t m N : Int), vs = [.ref p, .int N] ∧ FrT H p t m ∧ gcdI t m = 1 ∧ 1 ≤ N ∧ 1 ≤ m ∧ Sm t ∧ Sm m ∧
    ∀ (a b c d : Int) (q r s y : Addr) (H' : Hp), NbX t m N a b c d → Same H H' → FrT H' q a b → FrT H' r c d → PrT H' s q r → H' y = some (.tup [.str "told", .ref s]) → Q (.ref y) H'))
end Vg
namespace Vg
open PySem PySem.Spec PyProof.Rows L2
theorem log_lt9 {n : Nat} (h : n < 10 ^ 30) : n.log2 < 1920 := by
  by_cases h0 : n = 0
  · subst h0
    decide
  · have : n < 2 ^ 1920 := Nat.lt_of_lt_of_le h (by decide)
    exact (Nat.log2_lt h0).mpr this
/-- p/q is the greatest number of a bottom up to B that isn't above t/m, q the least bottom of it -/
structure Lo (t m B p q : Int) : Prop where
  q1 : 1 ≤ q
  qB : q ≤ B
  le : p * m ≤ t * q
  best : ∀ a b : Int, 1 ≤ b → b ≤ B → a * m ≤ t * b → a * q ≤ p * b
  least : ∀ a b : Int, 1 ≤ b → b < q → a * m ≤ t * b → a * q < p * b
theorem Lo.start {t m : Int} (hm : 1 ≤ m) : Lo t m 1 (t / m) 1 := by
  refine ⟨by decide, by decide, ?_, ?_, ?_⟩
  · have := Int.ediv_mul_le t (show m ≠ 0 by omega)
    omega
  · intro a b h1 h2 h3
    have e : b = 1 := by omega
    subst e
    have := (Int.le_ediv_iff_mul_le (show 0 < m by omega)).mpr (show a * m ≤ t by omega)
    omega
  · intro a b h1 h2
    omega
theorem Lo.new {t m B p q : Int} (h : Lo t m B p q) (hm : 1 ≤ m) (hc : p * (B + 1) < t * (B + 1) / m * q) : Lo t m (B + 1) (t * (B + 1) / m) (B + 1) := by
  have q1 := h.q1
  have qB := h.qB
  have key : ∀ a b : Int, 1 ≤ b → b ≤ B → a * m ≤ t * b → a * (B + 1) < t * (B + 1) / m * b := by
    intro a b h1 h2 h3
    have k1 := h.best a b h1 h2 h3
    generalize t * (B + 1) / m = P at *
    have k2 : a * q * (B + 1) ≤ p * b * (B + 1) := Int.mul_le_mul_of_nonneg_right k1 (by omega)
    have k3 : p * (B + 1) * b < P * q * b := Int.mul_lt_mul_of_pos_right hc (by omega)
    have k4 : (a * (B + 1)) * q < (P * b) * q := by grind
    exact Int.lt_of_mul_lt_mul_right k4 (by omega)
  refine ⟨by omega, by omega, Int.ediv_mul_le _ (by omega), ?_, ?_⟩
  · intro a b h1 h2 h3
    by_cases e : b = B + 1
    · subst e
      have := (Int.le_ediv_iff_mul_le (show 0 < m by omega)).mpr h3
      exact Int.mul_le_mul_of_nonneg_right this (by omega)
    · exact Int.le_of_lt (key a b h1 (by omega) h3)
  · intro a b h1 h2 h3
    exact key a b h1 (by omega) h3
theorem Lo.keep {t m B p q : Int} (h : Lo t m B p q) (hm : 1 ≤ m) (hc : ¬ p * (B + 1) < t * (B + 1) / m * q) : Lo t m (B + 1) p q := by
  have q1 := h.q1
  have qB := h.qB
  refine ⟨q1, by omega, h.le, ?_, h.least⟩
  intro a b h1 h2 h3
  by_cases e : b = B + 1
  · subst e
    have k := (Int.le_ediv_iff_mul_le (show 0 < m by omega)).mpr h3
    have := Int.mul_le_mul_of_nonneg_right k (show 0 ≤ q by omega)
    omega
  · exact h.best a b h1 (by omega) h3
theorem Lo.same {t m N p q a b c d : Int} (h : Lo t m N p q) (x : NbX t m N a b c d) (hm : 1 ≤ m) (hg : gcdI a b = 1) : p = a ∧ q = b := by
  have q1 := h.q1
  have qB := h.qB
  have hle := h.le
  have b1 : 1 ≤ b ∧ b ≤ N ∧ a * m ≤ t * b := by
    rcases x with ⟨l, e1, e2, e3, e4⟩ | ⟨l, n, s⟩
    · subst e1 e2
      exact ⟨hm, l, Int.le_refl _⟩
    · have := n.u
      exact ⟨n.b1, n.bN, by omega⟩
  have k1 := h.best a b b1.1 b1.2.1 b1.2.2
  have k2 : p * b ≤ a * q := by
    rcases x with ⟨l, e1, e2, e3, e4⟩ | ⟨l, n, s⟩
    · subst e1 e2
      exact hle
    · refine Int.not_lt.mp fun z => ?_
      have v := n.v
      have d1 := n.d1
      have g := n.g
      have s1 : 0 < c * q - p * d := by
        have e : m * (c * q - p * d) = q * (c * m - t * d) + d * (t * q - p * m) := by grind
        have p1 : 0 < q * (c * m - t * d) := Int.mul_pos (by omega) v
        have p2 : 0 ≤ d * (t * q - p * m) := Int.mul_nonneg (by omega) (by omega)
        have : 0 < m * (c * q - p * d) := by omega
        exact Int.pos_of_mul_pos_right this (by omega)
      have e : (p * b - a * q) * d + (c * q - p * d) * b = q * (c * b - a * d) := by grind
      rw [g, Int.mul_one] at e
      have x1 := mul_ge (x := p * b - a * q) (y := d) (by omega) (by omega)
      have x2 := mul_ge (x := c * q - p * d) (y := b) (by omega) (by omega)
      omega
  have e : a * q = p * b := by omega
  have le1 : q ≤ b := by
    refine Int.not_lt.mp fun z => ?_
    have := h.least a b b1.1 z b1.2.2
    omega
  have le2 : b ≤ q := by
    have d1 : b ∣ a * q := ⟨p, by rw [e, Int.mul_comm]⟩
    have d2 : b.natAbs ∣ a.natAbs * q.natAbs := by
      rw [← Int.natAbs_mul]
      exact Int.natAbs_dvd_natAbs.mpr d1
    have cop : Nat.Coprime b.natAbs a.natAbs := by
      unfold gcdI at hg
      have : Nat.gcd a.natAbs b.natAbs = 1 := by exact_mod_cast hg
      rw [Nat.gcd_comm] at this
      exact this
    have := Nat.le_of_dvd (by omega) (cop.dvd_of_dvd_mul_left d2)
    omega
  have eb : q = b := by omega
  subst eb
  exact ⟨(Int.eq_of_mul_eq_mul_right (by omega) e).symm, rfl⟩
theorem NbX.flip {t m N a b c d : Int} (h : NbX t m N a b c d) : NbX (-t) m N (-c) d (-a) b := by
  rcases h with ⟨l, rfl, rfl, rfl, rfl⟩ | ⟨l, n, s⟩
  · exact .inl ⟨l, rfl, rfl, rfl, rfl⟩
  · exact .inr ⟨l, n.flip, by omega⟩
def spDue : Sp := fun vs H Q _ => ∃ (x : Addr) (t m N a b c d : Int), vs = [.ref x, .int N] ∧ FrT H x t m ∧ gcdI t m = 1 ∧ 1 ≤ m ∧ m ≤ 10000 ∧ -10000 ≤ t ∧ t ≤ 10000 ∧ 1 ≤ N ∧ N ≤ 1000 ∧ NbX t m N a b c d ∧
  ∀ (q r s : Addr) (H' : Hp), Same H H' → FrT H' q a b → FrT H' r c d → PrT H' s q r → Q (.ref s) H'
def toldD (a b c d : Int) : PyData := .tuple [.str "told", prD a b c d]
theorem told_dp {K : PySem.W.Frag} {H : Hp} {y p q r : Addr} {a b c d : Int} (h : H y = some (.tup [.str "told", .ref p])) (hp : PrT H p q r) (hq : FrT H q a b) (hr : FrT H r c d) : Dp K H (.ref y) (toldD a b c d) :=
  .tup (SqT.of h) (.cons (.str _) (.cons (PrT.dp hp hq hr) .nil))
theorem int_short {i : Int} (h : -100000 ≤ i ∧ i ≤ 100000) : (PyData.int i).showable = true ∧ PyData.leavesShort 13 (.int i) = true := by
  have hn : i.natAbs < 10 ^ 12 := Nat.lt_of_le_of_lt (show i.natAbs ≤ 100000 by omega) (by decide)
  constructor
  · simp only [PyData.showable]
    exact decide_eq_true (Vg.log_lt9 (Nat.lt_trans hn (by decide)))
  · simp only [PyData.leavesShort]
    exact decide_eq_true (PyData.shown_int_le hn)
theorem told_text {a b c d : Int} (ha : -100000 ≤ a ∧ a ≤ 100000) (hb : -100000 ≤ b ∧ b ≤ 100000) (hc : -100000 ≤ c ∧ c ≤ 100000) (hd : -100000 ≤ d ∧ d ≤ 100000) :
    (toldD a b c d).showable = true ∧ (toldD a b c d).depth ≤ 50 ∧ (toldD a b c d).shown.length ≤ sizeLine := by
  obtain ⟨a1, a2⟩ := int_short ha
  obtain ⟨b1, b2⟩ := int_short hb
  obtain ⟨c1, c2⟩ := int_short hc
  obtain ⟨d1, d2⟩ := int_short hd
  refine ⟨?_, ?_, ?_⟩
  · simp [toldD, prD, frD, PyData.showable, PyData.showableAll] at a1 b1 c1 d1 ⊢
    exact ⟨⟨a1, b1⟩, c1, d1⟩
  · simp [toldD, prD, frD, PyData.depth, PyData.depthAll]
  · refine PyData.shown_fits (B := 13) (by decide) (by decide) ?_ ?_
    · simp only [PyData.leavesShort] at a2 b2 c2 d2
      simp only [toldD, prD, frD, PyData.leavesShort, PyData.leavesShortAll, a2, b2, c2, d2, Bool.and_true]
      decide +kernel
    · simp [PyData.showable] at a1 b1 c1 d1
      have hs : (Str.ofString "told").cps.size = 4 := by decide +kernel
      simp [toldD, prD, frD, PyData.weight, PyData.weightAll]
      rw [hs]
      split <;> split <;> split <;> split <;> omega
end Vg
namespace Vg
open PySem PySem.Spec PyProof.Rows L2
mutual
theorem dq_dp {K : PySem.W.Frag} {ok : Addr → Prop} {H : Hp} : ∀ {v : V} {d : PyData}, Dq ok H v d → d.hasDict = false → Dp K H v d
  | _, _, .non, _ => .non
  | _, _, .bl b, _ => .bl b
  | _, _, .int i, _ => .int i
  | _, _, .str x, _ => .str x
  | _, _, .lst o h r, e => .lst (SqL.of h) (dql_dp r (by simpa [PyData.hasDict] using e))
  | _, _, .tup o h r, e => .tup (SqT.of h) (dql_dp r (by simpa [PyData.hasDict] using e))
  | _, _, .dct o h k r, e => by simp [PyData.hasDict] at e
theorem dql_dp {K : PySem.W.Frag} {ok : Addr → Prop} {H : Hp} : ∀ {vs : List V} {ds : List PyData}, DqL ok H vs ds → PyData.hasDictAll ds = false → DpAll K H vs ds
  | _, _, .nil, _ => .nil
  | _, _, .cons h r, e => by
    have e' := Bool.or_eq_false_iff.mp (show (PyData.hasDict _ || PyData.hasDictAll _) = false by simpa [PyData.hasDictAll] using e)
    exact .cons (dq_dp h e'.1) (dql_dp r e'.2)
end
def notList : PyData → Bool
  | .list _ => false
  | _ => true
def textB (d : PyData) : Bool := d.showable && decide (d.depth ≤ 50) && decide (d.shown.length ≤ sizeLine)
def immB (d : PyData) : Bool := notList d && !d.hasDict && textB d
/-- a thing that may be handed in and put into: j sevens are put into it, if it is a list -/
inductive Th (ok : Addr → Prop) (pr : PyData → Bool) (H : Hp) : V → Nat → Prop
  | imm {v : V} {d : PyData} {j : Nat} (h : Dq ok H v d) (hi : immB d = true) (hp : pr d = true) : Th ok pr H v j
  | nums {a : Addr} {zs : List Int} {j : Nat} (o : ok a) (h : H a = some (.lst ((zs ++ List.replicate j 7).map V.int))) (hz : zs = [1, 2] ∨ zs = [5]) : Th ok pr H (.ref a) j
  | nest {a b : Addr} {j : Nat} (o : ok a) (ob : ok b) (h : H a = some (.lst (.ref b :: (List.replicate j 7).map V.int))) (hb : H b = some (.tup [.int 1, .int 2])) : Th ok pr H (.ref a) j
  | dct {a : Addr} {j : Nat} (o : ok a) (h : H a = some (.dK [])) : Th ok pr H (.ref a) j
theorem Th.mono {ok : Addr → Prop} {pr : PyData → Bool} {H H' : Hp} {v : V} {j : Nat} (h : Th ok pr H v j) (s : ∀ b o, ok b → H b = some o → H' b = some o) : Th ok pr H' v j := by
  cases h with
  | imm h hi hp => exact .imm (h.mono s fun a o k _ => k) hi hp
  | nums o h hz => exact .nums o (s _ _ o h) hz
  | nest o ob h hb => exact .nest o ob (s _ _ o h) (s _ _ ob hb)
  | dct o h => exact .dct o (s _ _ o h)
theorem dql_ints {ok : Addr → Prop} {H : Hp} : ∀ zs : List Int, DqL ok H (zs.map V.int) (zs.map PyData.int)
  | [] => .nil
  | z :: zs => .cons (.int z) (dql_ints zs)
/-- its data -/
theorem Th.dk {ok : Addr → Prop} {pr : PyData → Bool} {H : Hp} {v : V} {j : Nat} (h : Th ok pr H v j) (hj : j ≤ 3) : ∃ d, Dk H v d ∧ (∀ K : PySem.W.Frag, Dr K H v d) ∧ d.showable = true ∧ d.depth ≤ 50 ∧ d.shown.length ≤ sizeLine ∧ (fracD d = false ∨ pr d = true) := by
  have txt : ∀ d, textB d = true → d.showable = true ∧ d.depth ≤ 50 ∧ d.shown.length ≤ sizeLine := fun d e => by
    have e1 := Bool.and_eq_true_iff.mp e
    have e2 := Bool.and_eq_true_iff.mp e1.1
    exact ⟨e2.1, of_decide_eq_true e2.2, of_decide_eq_true e1.2⟩
  have jj : j = 0 ∨ j = 1 ∨ j = 2 ∨ j = 3 := by omega
  cases h with
  | @imm v d _ h hi hp =>
    have e1 := Bool.and_eq_true_iff.mp hi
    have e2 := Bool.and_eq_true_iff.mp e1.1
    obtain ⟨t1, t2, t3⟩ := txt d e1.2
    exact ⟨d, ⟨_, h⟩, fun K => .inl (dq_dp h (by simpa using e2.2)), t1, t2, t3, .inr hp⟩
  | @nums a zs _ o h hz =>
    have q : Dq ok H (.ref a) (.list ((zs ++ List.replicate j 7).map PyData.int)) := .lst o h (dql_ints _)
    have t : textB (.list ((zs ++ List.replicate j 7).map PyData.int)) = true ∧ PyData.hasDict (.list ((zs ++ List.replicate j 7).map PyData.int)) = false := by
      rcases hz with rfl | rfl <;> rcases jj with rfl | rfl | rfl | rfl <;> decide +kernel
    obtain ⟨t1, t2, t3⟩ := txt _ t.1
    exact ⟨_, ⟨_, q⟩, fun K => .inl (dq_dp q t.2), t1, t2, t3, .inl rfl⟩
  | @nest a b _ o ob h hb =>
    have q : Dq ok H (.ref a) (.list (.tuple [.int 1, .int 2] :: (List.replicate j 7).map PyData.int)) := .lst o h (.cons (.tup ob hb (.cons (.int 1) (.cons (.int 2) .nil))) (dql_ints _))
    have t : textB (.list (.tuple [.int 1, .int 2] :: (List.replicate j 7).map PyData.int)) = true ∧ PyData.hasDict (.list (.tuple [.int 1, .int 2] :: (List.replicate j 7).map PyData.int)) = false := by
      rcases jj with rfl | rfl | rfl | rfl <;> decide +kernel
    obtain ⟨t1, t2, t3⟩ := txt _ t.1
    exact ⟨_, ⟨_, q⟩, fun K => .inl (dq_dp q t.2), t1, t2, t3, .inl rfl⟩
  | @dct a _ o h =>
    obtain ⟨t1, t2, t3⟩ := txt (.dict []) (by decide +kernel)
    exact ⟨.dict [], ⟨_, .dct (es := []) o h rfl .nil⟩, fun K => .inr ⟨a, [], [], rfl, rfl, h, .nil⟩, t1, t2, t3, .inl rfl⟩
/-- whether it is a list, and what putting a seven into it makes of it -/
theorem Th.put {ok : Addr → Prop} {pr : PyData → Bool} {K : PySem.W.Frag} {H : Hp} {v : V} {j : Nat} (h : Th ok pr H v j) (hj : j ≤ 3) : ∃ n b, Tn K H v n ∧ kitB n "list" = some b ∧ (b = false → Th ok pr H v (j + 1)) ∧
    (b = true → ∃ a xs, v = .ref a ∧ ok a ∧ H a = some (.lst xs) ∧ xs.length ≤ 100 ∧ Th ok pr (upd H a (.lst (xs ++ [.int 7]))) v (j + 1)) := by
  have rep : ∀ zs : List Int, (zs ++ List.replicate j 7).map V.int ++ [V.int 7] = (zs ++ List.replicate (j + 1) 7).map V.int := fun zs => by
    rw [List.replicate_succ', ← List.append_assoc, List.map_append (l₁ := zs ++ List.replicate j 7)]
    rfl
  cases h with
  | @imm v d _ h hi hp =>
    have e1 := Bool.and_eq_true_iff.mp hi
    have e2 := Bool.and_eq_true_iff.mp e1.1
    have nl := e2.1
    cases h with
    | non => exact ⟨_, false, .non, by decide +kernel, fun _ => .imm .non hi hp, fun z => Bool.noConfusion z⟩
    | bl b => exact ⟨_, false, .bl b, by decide +kernel, fun _ => .imm (.bl b) hi hp, fun z => Bool.noConfusion z⟩
    | int b => exact ⟨_, false, .int b, by decide +kernel, fun _ => .imm (.int b) hi hp, fun z => Bool.noConfusion z⟩
    | str b => exact ⟨_, false, .str b, by decide +kernel, fun _ => .imm (.str b) hi hp, fun z => Bool.noConfusion z⟩
    | lst o h r => cases nl
    | tup o h r => exact ⟨_, false, .tup h, by decide +kernel, fun _ => .imm (.tup o h r) hi hp, fun z => Bool.noConfusion z⟩
    | dct o h k r => exact ⟨_, false, .dct h, by decide +kernel, fun _ => .imm (.dct o h k r) hi hp, fun z => Bool.noConfusion z⟩
  | @nums a zs _ o h hz =>
    refine ⟨_, true, .lst h, by decide +kernel, fun z => Bool.noConfusion z, fun _ => ⟨a, _, rfl, o, h, ?_, .nums (zs := zs) o ?_ hz⟩⟩
    · rcases hz with rfl | rfl <;> simp <;> omega
    · rw [upd_same]
      exact congrArg (fun l => some (HO.lst l)) (rep zs)
  | @nest a b _ o ob h hb =>
    have ne : b ≠ a := fun z => by
      rw [z, h] at hb
      cases hb
    refine ⟨_, true, .lst h, by decide +kernel, fun z => Bool.noConfusion z, fun _ => ⟨a, _, rfl, o, h, by simp; omega, .nest (b := b) o ob ?_ (by rw [upd_ne ne]; exact hb)⟩⟩
    rw [upd_same]
    have e := rep []
    rw [List.nil_append, List.nil_append] at e
    exact congrArg (fun l => some (HO.lst (V.ref b :: l))) e
  | @dct a _ o h => exact ⟨_, false, .dct h, by decide +kernel, fun _ => .dct o h, fun z => Bool.noConfusion z⟩
/-- what is drawn of the told things -/
def thD : PyData → Bool
  | .list [.int 1, .int 2] => true
  | .list [.int 5] => true
  | .list [.tuple [.int 1, .int 2]] => true
  | .dict [] => true
  | d => immB d
theorem th_of {ok : Addr → Prop} {pr : PyData → Bool} {H : Hp} {v : V} {d : PyData} (h : Dq ok H v d) (ht : thD d = true) (hp : pr d = true) : Th ok pr H v 0 := by
  unfold thD at ht
  split at ht
  · cases h with
    | lst o h r =>
      cases r with
      | cons r1 r =>
        cases r with
        | cons r2 r =>
          cases r
          cases r1
          cases r2
          exact .nums (zs := [1, 2]) o h (.inl rfl)
  · cases h with
    | lst o h r =>
      cases r with
      | cons r1 r =>
        cases r
        cases r1
        exact .nums (zs := [5]) o h (.inr rfl)
  · cases h with
    | lst o h r =>
      cases r with
      | cons r1 r =>
        cases r
        cases r1 with
        | tup ob hb rb =>
          cases rb with
          | cons r1 r =>
            cases r with
            | cons r2 r =>
              cases r
              cases r1
              cases r2
              exact .nest o ob h hb
  · cases h with
    | @dct a kvs es o h k r =>
      have : kvs = [] := by
        cases kvs with
        | nil => rfl
        | cons x y => simp at k
      subst this
      exact .dct o h
  · exact .imm h ht hp
def badD : PyData → Bool
  | .int i => decide (i < 1)
  | _ => true
theorem dq_bad {ok : Addr → Prop} {H : Hp} {v : V} {d : PyData} (h : Dq ok H v d) (hb : badD d = true) : badN v = true := by
  cases h <;> first | rfl | exact hb
theorem sq_ix {te ti : TE} {r : R2} {i : Nat} {u : TS} {D : Ends} {σ : L2.St} {H : Hp} {d : PyData} (h : Mk1 te d)
    (k : ∀ v H', Same H H' → Dq (fun a => H a = none) H' v d → ti σ H' fun y H2 => r v y H2 fun z H3 => u D (σ.set i (some z)) H3) : tSeq (tAsg (tOp r te ti) (gName i)) u D σ H := h σ H _ k
theorem fr_ne {H : Hp} {p y : Addr} {xs : List V} {n : Nat} (h : H y = some (.tup xs)) (z : Pz H p n) : y ≠ p := by
  rintro rfl
  obtain ⟨l, h1, _⟩ := z
  rw [h] at h1
  cases h1
def spRefR : Sp := fun vs H Q _ => ∃ (p x : Addr) (t m N : Int) (n : Nat), vs = [.ref p, .ref x, .int N] ∧ Pz H p (n + 2) ∧ FrT H x t m ∧ gcdI t m = 1 ∧ 1 ≤ m ∧ ∀ H', But p H H' → Pz H' p n → Q (.bl true) H'
end Vg
namespace My
open PySem PySem.Spec PyProof.Rows L2 Vg
def top (i : Nat) : Stmt := PySem.Challenge.pw_termstream_k14_neighbours_told.main.body.getD i (.Pass ⟨0, 0, 0, 0⟩)
abbrev s_is_number : Stmt := top 8
abbrev s_is_pair : Stmt := top 9
abbrev s_is_fraction : Stmt := top 11
abbrev s_need_fractions : Stmt := top 12
abbrev s_neighbours : Stmt := top 14
abbrev s_strict_neighbours : Stmt := top 15
abbrev s_law_cell : Stmt := top 17
abbrev s_law_purse : Stmt := top 18
abbrev s_law_take : Stmt := top 19
abbrev s_law_common : Stmt := top 20
abbrev s_law_made : Stmt := top 21
abbrev s_law_due : Stmt := top 22
abbrev s_law_asked : Stmt := top 23
abbrev s_law_refused_right : Stmt := top 24
abbrev s_law : Stmt := top 25
abbrev N_is_number : List Str := ["thing"]
theorem sc_is_number : FnScope N_is_number ["thing"] (defScope s_is_number) := ⟨rfl, rfl, rfl, by decide +kernel, rfl, by decide +kernel, by decide +kernel⟩
abbrev N_is_pair : List Str := ["thing"]
theorem sc_is_pair : FnScope N_is_pair ["thing"] (defScope s_is_pair) := ⟨rfl, rfl, rfl, by decide +kernel, rfl, by decide +kernel, by decide +kernel⟩
abbrev N_is_fraction : List Str := ["thing", "top", "bottom"]
theorem sc_is_fraction : FnScope N_is_fraction ["thing"] (defScope s_is_fraction) := ⟨rfl, rfl, rfl, by decide +kernel, rfl, by decide +kernel, by decide +kernel⟩
abbrev N_need_fractions : List Str := ["things", "thing"]
theorem sc_need_fractions : FnScope N_need_fractions ["things"] (defScope s_need_fractions) := ⟨rfl, rfl, rfl, by decide +kernel, rfl, by decide +kernel, by decide +kernel⟩
abbrev N_neighbours : List Str := ["fraction", "bound"]
theorem sc_neighbours : FnScope N_neighbours ["fraction", "bound"] (defScope s_neighbours) := ⟨rfl, rfl, rfl, by decide +kernel, rfl, by decide +kernel, by decide +kernel⟩
abbrev N_strict_neighbours : List Str := ["fraction", "bound", "top", "bottom", "a", "b", "c", "d", "steps"]
theorem sc_strict_neighbours : FnScope N_strict_neighbours ["fraction", "bound"] (defScope s_strict_neighbours) := ⟨rfl, rfl, rfl, by decide +kernel, rfl, by decide +kernel, by decide +kernel⟩
abbrev N_law_cell : List Str := ["_law_script", "_law_k"]
theorem sc_law_cell : FnScope N_law_cell ["_law_script", "_law_k"] (defScope s_law_cell) := ⟨rfl, rfl, rfl, by decide +kernel, rfl, by decide +kernel, by decide +kernel⟩
abbrev N_law_purse : List Str := ["_law_cell_here"]
theorem sc_law_purse : FnScope N_law_purse ["_law_cell_here"] (defScope s_law_purse) := ⟨rfl, rfl, rfl, by decide +kernel, rfl, by decide +kernel, by decide +kernel⟩
abbrev N_law_take : List Str := ["_law_purse_here", "_law_many", "_law_digit", "_law_one", "_law_other"]
theorem sc_law_take : FnScope N_law_take ["_law_purse_here", "_law_many"] (defScope s_law_take) := ⟨rfl, rfl, rfl, by decide +kernel, rfl, by decide +kernel, by decide +kernel⟩
abbrev N_law_common : List Str := ["_law_one", "_law_other"]
theorem sc_law_common : FnScope N_law_common ["_law_one", "_law_other"] (defScope s_law_common) := ⟨rfl, rfl, rfl, by decide +kernel, rfl, by decide +kernel, by decide +kernel⟩
abbrev N_law_made : List Str := ["_law_top", "_law_bottom", "_law_by"]
theorem sc_law_made : FnScope N_law_made ["_law_top", "_law_bottom"] (defScope s_law_made) := ⟨rfl, rfl, rfl, by decide +kernel, rfl, by decide +kernel, by decide +kernel⟩
abbrev N_law_due : List Str := ["_law_fraction", "_law_bound", "_law_top", "_law_bottom", "_law_low", "_law_high", "_law_b", "_law_below", "_law_above"]
theorem sc_law_due : FnScope N_law_due ["_law_fraction", "_law_bound"] (defScope s_law_due) := ⟨rfl, rfl, rfl, by decide +kernel, rfl, by decide +kernel, by decide +kernel⟩
abbrev N_law_asked : List Str := ["_law_fraction", "_law_bound", "e"]
theorem sc_law_asked : FnScope N_law_asked ["_law_fraction", "_law_bound"] (defScope s_law_asked) := ⟨rfl, rfl, rfl, by decide +kernel, rfl, by decide +kernel, by decide +kernel⟩
abbrev N_law_refused_right : List Str := ["_law_purse_here", "_law_fraction", "_law_bound", "_law_odd", "_law_thing", "_law_number", "_law_turn", "_law_word", "_law_found", "_law_due_here"]
theorem sc_law_refused_right : FnScope N_law_refused_right ["_law_purse_here", "_law_fraction", "_law_bound"] (defScope s_law_refused_right) := ⟨rfl, rfl, rfl, by decide +kernel, rfl, by decide +kernel, by decide +kernel⟩
abbrev N_law : List Str := ["_law_script", "_law_k", "_law_purse_here", "_law_bottom", "_law_top", "_law_fraction", "_law_bound", "_law_bounds", "_law_more"]
theorem sc_law : FnScope N_law ["_law_script"] (defScope s_law) := ⟨rfl, rfl, rfl, by decide +kernel, rfl, by decide +kernel, by decide +kernel⟩
def methAt (i j : Nat) : Stmt := match top i with
  | .ClassDef (body := b) .. => b.getD j (.Pass ⟨0, 0, 0, 0⟩)
  | s => s
abbrev m_TermError : Stmt := methAt 2 0
theorem sc_m_TermError : FnScope ["self", "text"] ["self", "text"] (defScope m_TermError) := ⟨rfl, rfl, rfl, by decide +kernel, rfl, by decide +kernel, by decide +kernel⟩
abbrev m_NoFraction : Stmt := methAt 6 0
theorem sc_m_NoFraction : FnScope ["self", "found"] ["self", "found"] (defScope m_NoFraction) := ⟨rfl, rfl, rfl, by decide +kernel, rfl, by decide +kernel, by decide +kernel⟩
abbrev m_NoNumber : Stmt := methAt 5 0
theorem sc_m_NoNumber : FnScope ["self", "found"] ["self", "found"] (defScope m_NoNumber) := ⟨rfl, rfl, rfl, by decide +kernel, rfl, by decide +kernel, by decide +kernel⟩
structure Txt (K : PySem.W.Frag) (mg : Str → Option Value) : Prop where
  v_ve : PySem.W.findCls K (.type "ValueError") (.type "type") "__init__" = some (.val (.builtin "ValueError.__init__"))
  n_ValueError : mg "ValueError" = none
  x_TermError : XtAt K mg "TermError" "TermError.__init__" m_TermError
  x_NoFraction : XeAt K mg "NoFraction" "found" "NoFraction.__init__" m_NoFraction
  x_NoNumber : XeAt K mg "NoNumber" "found" "NoNumber.__init__" m_NoNumber
  p_NoFraction_NoFraction : PairIn K "NoFraction" "NoFraction" true
  p_NoNumber_NoFraction : PairIn K "NoNumber" "NoFraction" false
  p_NoNumber_NoNumber : PairIn K "NoNumber" "NoNumber" true
  d_is_number : At K mg "is_number" s_is_number
  d_is_pair : At K mg "is_pair" s_is_pair
  d_is_fraction : At K mg "is_fraction" s_is_fraction
  d_need_fractions : At K mg "need_fractions" s_need_fractions
  d_neighbours : At K mg "neighbours" s_neighbours
  d_strict_neighbours : At K mg "strict_neighbours" s_strict_neighbours
  d_law_cell : At K mg "_law_cell" s_law_cell
  d_law_purse : At K mg "_law_purse" s_law_purse
  d_law_take : At K mg "_law_take" s_law_take
  d_law_common : At K mg "_law_common" s_law_common
  d_law_made : At K mg "_law_made" s_law_made
  d_law_due : At K mg "_law_due" s_law_due
  d_law_asked : At K mg "_law_asked" s_law_asked
  d_law_refused_right : At K mg "_law_refused_right" s_law_refused_right
  d_law : At K mg "law" s_law
  n_isinstance : mg "isinstance" = none
  n_int : mg "int" = none
  n_bool : mg "bool" = none
  n_tuple : mg "tuple" = none
  n_len : mg "len" = none
  g_gcd : mg "gcd" = some (.builtin "math.gcd")
  n_min : mg "min" = none
  n_max : mg "max" = none
  n_abs : mg "abs" = none
  n_range : mg "range" = none
  n_list : mg "list" = none
  n_repr : mg "repr" = none
section
variable {P : Program} {w : World} {K : PySem.W.Frag} {mg : Str → Option Value} {base : Heap}
theorem ok_take (T : Txt K mg) : Fn P w K mg base 1 "_law_take" ["_law_purse_here", "_law_many"] spTake := by
  refine T.d_law_take.fn sc_law_take (fun _ _ _ _ _ _ us hl => match us, hl with | [_, _], _ => rfl) ?_ ?_
  · rintro vs H Q E ⟨p, m, n, rfl, _⟩
    rfl
  · rintro f cdv A outer s H vs Q E hr ⟨p, m, n, rfl, hm, hm2, ⟨l, hp, a, b, c, rfl, ha, hb, hb2, hc, hcn⟩, k⟩
    refine ⟨_, (pss_cons (ps_if (pt_cmpR op_gt (pe_ix ix_list (pv 0) pe_int (fun _ _ => rfl)) pe_int (nomark _)) (pss_cons (ps_set (i := 2) sc_law_take.nd rfl (Or.inl rfl) (pe_op op_mod (pe_ix ix_list (pv 0) pe_int (fun _ _ => rfl)) (pv 1)))
 (pss_cons (ps_asg (pe_op op_fdivW (pe_ix ix_list (pv 0) pe_int (fun _ _ => rfl)) (pv 1)) (pg_sub (pv 0) pe_int set_list))
 (pss_one (ps_ret (pv 2))))) pss_nil)
 (pss_cons (ps_asg (pe_op op_add (pe_ix ix_list (pv 0) pe_int (fun _ _ => rfl)) pe_int) (pg_sub (pv 0) pe_int set_list))
 (pss_cons (ps_set (i := 3) sc_law_take.nd rfl (Or.inl rfl) (pe_op op_mod (pe_op op_pow (pe_op op_add (pe_op op_add (pe_ix ix_list (pv 0) pe_int (fun _ _ => rfl)) (pe_op op_mulW pe_int (pe_ix ix_list (pv 0) pe_int (fun _ _ => rfl)))) pe_int) pe_int) pe_int))
 (pss_cons (ps_set (i := 4) sc_law_take.nd rfl (Or.inl rfl) (pe_op op_mod (pe_op op_pow (pe_op op_add (pe_op op_mulW (pe_ix ix_list (pv 0) pe_int (fun _ _ => rfl)) (pe_ix ix_list (pv 0) pe_int (fun _ _ => rfl))) pe_int) pe_int) pe_int))
 (pss_one (ps_ret (pe_op op_mod (pe_op op_fdivW (pe_op op_add (pe_op op_mulW (pv 3) pe_int) (pv 4)) pe_int) (pv 1)))))))), ?_⟩
    refine ⟨_, rfl, p, _, _, _, rfl, rfl, SqL.of hp, rfl, _, _, rfl, rfl, _, rfl, ?_⟩
    by_cases h0 : 0 < a
    · rw [decide_eq_true h0]
      refine iteT ?_
      refine ⟨_, rfl, p, _, _, _, rfl, rfl, SqL.of hp, rfl, _, rfl, _, _, rfl, rfl, hm, ?_⟩
      refine ⟨_, rfl, p, _, _, _, rfl, rfl, SqL.of hp, rfl, _, rfl, _, _, rfl, rfl, wide_div hm hm2 (by decide) (by decide), ?_⟩
      refine ⟨_, rfl, p, _, _, 0, rfl, rfl, hp, rfl, ?_⟩
      refine ⟨_, rfl, ?_⟩
      exact k _ _ (Int.emod_nonneg _ (by omega)) (Int.emod_lt_of_pos _ hm) ⟨a / m, b, c, rfl, Int.ediv_nonneg ha (by omega), hb, hb2, hc, by omega⟩
    · rw [decide_eq_false h0]
      refine iteF ?_
      refine ⟨_, rfl, p, _, _, _, rfl, rfl, SqL.of hp, rfl, _, _, rfl, rfl, ?_⟩
      refine ⟨_, rfl, p, _, _, 2, rfl, rfl, hp, rfl, ?_⟩
      refine ⟨_, rfl, p, _, _, _, rfl, rfl, SqL.of upd_same, rfl, _, rfl, p, _, _, _, rfl, rfl, SqL.of upd_same, rfl, _, _, rfl, rfl, ?_, ?_⟩
      · exact wide_mul (a := 64) (b := 64) (by decide) (by omega) (by decide) (by decide) (by decide)
      refine ⟨_, _, rfl, rfl, _, _, rfl, rfl, _, _, rfl, rfl, ?_, ?_⟩
      · exact take_pow (by omega) (by omega) (by decide) (by decide)
      refine ⟨_, _, rfl, rfl, (by show (0 : Int) < 2147483647; decide), ?_⟩
      have y0 := Int.emod_nonneg ((b + 6007 * (c + 1) + 29) ^ Int.toNat 5) (show (2147483647 : Int) ≠ 0 by decide)
      have y1 := Int.emod_lt_of_pos ((b + 6007 * (c + 1) + 29) ^ Int.toNat 5) (show (0 : Int) < 2147483647 by decide)
      refine ⟨_, rfl, p, _, _, _, rfl, rfl, SqL.of upd_same, rfl, _, rfl, p, _, _, _, rfl, rfl, SqL.of upd_same, rfl, _, _, rfl, rfl, ?_, ?_⟩
      · exact wide_mul (a := 64) (b := 64) (by omega) (by omega) (by decide) (by decide) (by decide)
      have z1 : b * (c + 1) ≤ 2147483629 * 100001 := Int.mul_le_mul (by omega) (by omega) (by omega) (by omega)
      have z0 : 0 ≤ b * (c + 1) := Int.mul_nonneg (by omega) (by omega)
      refine ⟨_, _, rfl, rfl, _, _, rfl, rfl, ?_, ?_⟩
      · refine take_pow ?_ ?_ (by decide) (by decide)
        · show 0 ≤ b * (c + 1) + 91193
          omega
        · show b * (c + 1) + 91193 < 18446744073709551616
          omega
      refine ⟨_, _, rfl, rfl, (by show (0 : Int) < 2147483587; decide), ?_⟩
      refine ⟨_, rfl, _, _, rfl, rfl, ?_, ?_⟩
      · refine wide_mul (a := 64) (b := 64) ?_ (by decide) (by decide) (by decide) (by decide)
        generalize (b + 6007 * (c + 1) + 29) ^ Int.toNat 5 = g at y0 y1 ⊢
        omega
      refine ⟨_, rfl, _, _, rfl, rfl, _, _, rfl, rfl, ?_, _, rfl, _, _, rfl, rfl, hm, ?_⟩
      · exact wide_div (b := 64) (by decide) (by decide) (by decide) (by decide)
      exact k _ _ (Int.emod_nonneg _ (by omega)) (Int.emod_lt_of_pos _ hm) ⟨a, b, c + 1, rfl, ha, hb, hb2, by omega, by omega⟩
theorem ok_cell (T : Txt K mg) : Fn P w K mg base 1 "_law_cell" ["_law_script", "_law_k"] (Vg.spCell K) := by
  refine T.d_law_cell.fn sc_law_cell (fun _ _ _ _ _ _ us hl => match us, hl with | [_, _], _ => rfl) ?_ ?_
  · rintro vs H Q E ⟨a, ns, k, rfl, _⟩
    rfl
  · rintro f cdv A outer s H vs Q E hr ⟨a, ns, k, rfl, hS, hk0, hk1, q⟩
    refine ⟨_, (pss_cons (ps_if (pt_cmpR op_lt (pv 1) (pe_callB call_len_seq (by rfl) T.n_len PySem.boot_len (pa_cons (pv 0) pa_nil)) (nomark _)) (pss_one (ps_ret (pe_ix ix_list (pv 0) (pv 1) (fun _ _ => rfl)))) pss_nil)
 (pss_one (ps_ret (pe_op op_add (pe_op op_mulW pe_int (pv 1)) pe_int)))), ?_⟩
    refine ⟨_, rfl, _, rfl, a, _, rfl, .inl hS, _, _, rfl, rfl, _, rfl, ?_⟩
    by_cases h : k < (ns.map V.int).length
    · rw [decide_eq_true h]
      refine iteT ?_
      obtain ⟨j, rfl⟩ : ∃ j : Nat, k = (j : Int) := ⟨k.toNat, by omega⟩
      have hj : j < ns.length := by rw [List.length_map] at h; omega
      refine ⟨_, rfl, _, rfl, a, _, _, _, rfl, rfl, hS, atI_nat (v := .int ns[j]) (by rw [List.getElem?_map, List.getElem?_eq_getElem hj]; rfl), ?_⟩
      exact q _
    · rw [decide_eq_false h]
      refine iteF ?_
      refine ⟨_, rfl, _, _, rfl, rfl, wide_mul (a := 64) (b := 64) (by decide) (by omega) (by decide) (by decide) (by decide), _, _, rfl, rfl, ?_⟩
      exact q _
theorem ok_purse (T : Txt K mg) : Fn P w K mg base 1 "_law_purse" ["_law_cell_here"] spPurse := by
  refine T.d_law_purse.fn sc_law_purse (fun _ _ _ _ _ _ us hl => match us, hl with | [_], _ => rfl) ?_ ?_
  · rintro vs H Q E ⟨z, rfl, _⟩
    rfl
  · rintro f cdv A outer s H vs Q E hr ⟨z, rfl, q⟩
    refine ⟨_, (pss_one (ps_ret (pe_lst (pa_cons (pe_callB (call_max2 rfl) (by rfl) T.n_max (by decide +kernel) (pa_cons pe_int (pa_cons (pe_op op_sub (pv 0) (pe_op op_pow pe_int pe_int)) pa_nil))) (pa_cons (pe_op op_mod (pv 0) pe_int) (pa_cons pe_int pa_nil)))))), ?_⟩
    refine ⟨_, rfl, _, _, rfl, rfl, (by show (0 : Int) ≤ 18 ∧ (18 : Int) ≤ 1000000 ∧ (10 : Int).natAbs < 2 ^ 64; decide), _, _, rfl, rfl, _, _, rfl, _, rfl, _, _, rfl, rfl, (by show (0 : Int) < 2147483629; decide), (by show 3 ≤ sizeLine; decide), ?_⟩
    intro p hp
    refine q p _ hp ⟨_, _, _, rfl, ?_, Int.emod_nonneg _ (by decide), Int.emod_lt_of_pos _ (by decide), by decide, by decide⟩
    split <;> omega
theorem ok_common (T : Txt K mg) : Fn P w K mg base 1 "_law_common" ["_law_one", "_law_other"] spCommon := by
  refine T.d_law_common.fn sc_law_common (fun _ _ _ _ _ _ us hl => match us, hl with | [_, _], _ => rfl) ?_ ?_
  · rintro vs H Q E ⟨a, b, rfl, _⟩
    rfl
  · rintro f cdv A outer s H vs Q E hr ⟨a, b, rfl, q⟩
    refine ⟨_, (pss_cons (ps_par (i := 0) (j := 1) (by rfl) sc_law_common.nd rfl rfl (by decide) rfl rfl (pa_cons (pe_callB call_abs (by rfl) T.n_abs (by decide +kernel) (pa_cons (pv 0) pa_nil)) (pa_cons (pe_callB call_abs (by rfl) T.n_abs (by decide +kernel) (pa_cons (pv 1) pa_nil)) pa_nil)) (by rfl))
 (pss_cons (ps_while PassesOwn.never (pt_cmpR op_ne (pv 1) pe_int (nomark _)) (pss_one (ps_par (i := 0) (j := 1) (by rfl) sc_law_common.nd rfl rfl (by decide) rfl rfl (pa_cons (pv 1) (pa_cons (pe_op op_mod (pv 0) (pv 1)) pa_nil)) (by rfl))))
 (pss_one (ps_ret (pv 0))))), ?_⟩
    refine ⟨_, rfl, _, rfl, _, rfl, _, rfl, _, _, rfl, ?_⟩
    have fin : ∀ x : Int, 0 ≤ x → gcdI x 0 = gcdI a b → Q (.int x) H := fun x h0 e => by
      rw [gcd_zero h0] at e
      rw [e]
      exact q
    refine while_by (fun σ H' => H' = H ∧ ∃ x y : Int, σ = [some (.int x), some (.int y)] ∧ 0 ≤ x ∧ 0 ≤ y ∧ gcdI x y = gcdI a b)
      (fun σ _ => match σ with | [_, some (.int y)] => y.natAbs | _ => 0) ?_ ?_ ?_
    · exact ⟨rfl, _, _, rfl, by split <;> omega, by split <;> omega, gcd_abs a b⟩
    · rintro σ H' ⟨rfl, x, y, rfl, hx, hy, e⟩
      refine ⟨_, rfl, rfl, _, rfl, ?_⟩
      by_cases h : 0 < y
      · have h' : (!decide (V.int y = V.int 0)) = true := by
          rw [decide_eq_false (fun z => by injection z with z; omega)]
          rfl
        rw [h']
        refine iteT ?_
        refine ⟨_, rfl, _, rfl, _, rfl, _, _, rfl, rfl, h, _, _, rfl, ?_⟩
        have m0 := Int.emod_nonneg x (show y ≠ 0 by omega)
        have m1 := Int.emod_lt_of_pos x h
        refine ⟨⟨rfl, _, _, rfl, hy, m0, (gcd_step hx h).trans e⟩, ?_⟩
        show (x % y).natAbs < y.natAbs
        omega
      · have hy0 : y = 0 := by omega
        have h' : (!decide (V.int y = V.int 0)) = false := by
          rw [hy0]
          rfl
        rw [h']
        refine iteF ?_
        refine ⟨_, rfl, ?_⟩
        rw [hy0] at e
        exact fin x hx e
    · rintro σ H' Q1 Q2 hq ⟨v, h1, hs, z, h2, h3⟩
      exact ⟨v, h1, hs, z, h2, hq _ _ h3⟩
theorem ok_is_number (T : Txt K mg) : Fn P w K mg base 1 "is_number" ["thing"] (spNum K) := by
  refine T.d_is_number.fn sc_is_number (fun _ _ _ _ _ _ us hl => match us, hl with | [_], _ => rfl) ?_ ?_
  · rintro vs H Q E ⟨v, n, rfl, _⟩
    rfl
  · rintro f cdv A outer s H vs Q E hr ⟨v, n, rfl, tn, q⟩
    refine ⟨_, (pss_one (ps_ret (pe_and (pe_callB cr_isi (by rfl) T.n_isinstance (by decide +kernel) (pa_cons (pv 0) (pa_cons (pe_bltn (v := .ty "int") (by rfl) T.n_int (by decide +kernel) rfl) pa_nil))) (pe_one (pe_not (pe_callB cr_isi (by rfl) T.n_isinstance (by decide +kernel) (pa_cons (pv 0) (pa_cons (pe_bltn (v := .ty "bool") (by rfl) T.n_bool (by decide +kernel) rfl) pa_nil)))))))), ?_⟩
    obtain ⟨b, c, h1, h2, h3⟩ := kit_int tn
    refine ⟨_, rfl, v, n, _, b, rfl, tn, h1, b, rfl, ?_⟩
    rw [← h3] at q
    cases b with
    | true => exact iteT ⟨_, rfl, v, n, _, c, rfl, tn, h2 rfl, c, rfl, q⟩
    | false => exact iteF q
theorem ok_is_pair (T : Txt K mg) : Fn P w K mg base 1 "is_pair" ["thing"] spPair := by
  refine T.d_is_pair.fn sc_is_pair (fun _ _ _ _ _ _ us hl => match us, hl with | [_], _ => rfl) ?_ ?_
  · rintro vs H Q E ⟨v, d, rfl, _⟩
    rfl
  · rintro f cdv A outer s H vs Q E hr ⟨v, d, rfl, hd, q⟩
    refine ⟨_, (pss_one (ps_ret (pe_and (pe_callB cr_isi (by rfl) T.n_isinstance (by decide +kernel) (pa_cons (pv 0) (pa_cons (pe_bltn (v := .ty "tuple") (by rfl) T.n_tuple (by decide +kernel) rfl) pa_nil))) (pe_one (pe_cmpR op_eq (pe_callB call_len_seq (by rfl) T.n_len PySem.boot_len (pa_cons (pv 0) pa_nil)) pe_int (nomark _)))))), ?_⟩
    obtain ⟨n, b, tn, h1, h2, h3⟩ := kit_tuple (K := K) hd
    refine ⟨_, rfl, v, n, _, b, rfl, tn, h1, b, rfl, ?_⟩
    cases b with
    | true =>
      obtain ⟨a, xs, ds, rfl, ha, rfl, hl⟩ := h2 rfl
      refine iteT ⟨_, rfl, a, xs, rfl, .inr (SqT.of ha), rfl, ?_⟩
      have e : decide (V.int (xs.length : Int) = V.int 2) = decide (ds.length = 2) := by
        rw [hl]
        exact decide_eq_decide.mpr ⟨fun z => by injection z with z; omega, fun z => by rw [z]; rfl⟩
      rw [e]
      exact q
    | false =>
      rw [h3 rfl] at q
      exact iteF q
theorem ok_is_fraction (T : Txt K mg) : Fn P w K mg base 2 "is_fraction" ["thing"] spFrac := by
  refine T.d_is_fraction.fn sc_is_fraction (fun _ _ _ _ _ _ us hl => match us, hl with | [_], _ => rfl) ?_ ?_
  · rintro vs H Q E ⟨v, d, rfl, _⟩
    rfl
  · rintro f cdv A outer s H vs Q E hr ⟨v, d, rfl, hd, q⟩
    have F_is_number : Fn P w K mg base 1 "is_number" ["thing"] (spNum K) := ok_is_number T
    have F_is_pair : Fn P w K mg base 1 "is_pair" ["thing"] spPair := ok_is_pair T
    refine ⟨_, (pss_cons (ps_if (pt_not (pt_val (pe_fn F_is_pair (hr.mono (by decide)) rfl pass0 (pa_cons (pv 0) pa_nil)))) (pss_one (ps_ret pe_bl)) pss_nil)
 (pss_cons (ps_asg (pv 0) (pg_tup rfl (pgs_cons (pg_name (i := 1) sc_is_fraction.nd rfl (Or.inl rfl)) (pgs_cons (pg_name (i := 2) sc_is_fraction.nd rfl (Or.inl rfl)) pgs_nil))))
 (pss_cons (ps_if (PW.pt (pw_or (pt_not (pt_val (pe_fn F_is_number (hr.mono (by decide)) rfl pass0 (pa_cons (pv 1) pa_nil)))) (pw_or1 (pt_not (pt_val (pe_fn F_is_number (hr.mono (by decide)) rfl pass0 (pa_cons (pv 2) pa_nil))))))) (pss_one (ps_ret pe_bl)) pss_nil)
 (pss_one (ps_ret (pe_and (pe_cmpR op_ge (pv 2) pe_int (nomark _)) (pe_one (pe_cmpR op_eq (pe_callBfun cr_gcd (by rfl) T.g_gcd (pa_cons (pv 1) (pa_cons (pv 2) pa_nil))) pe_int (nomark _))))))))), ?_⟩
    refine ⟨_, rfl, v, d, rfl, hd, _, rfl, ?_⟩
    cases ep : pairD d with
    | false =>
      rw [frac_nopair ep] at q
      exact iteT q
    | true =>
      obtain ⟨a, x, y, dx, dy, rfl, ha, rfl, hx, hy⟩ := hd.two ep
      obtain ⟨nx, tx⟩ := hx.tn (K := K)
      obtain ⟨ny, ty⟩ := hy.tn (K := K)
      refine iteF ⟨_, rfl, a, _, rfl, SqT.of ha, rfl, _, _, rfl, _, _, rfl, rfl, ?_⟩
      obtain ⟨ox, qx⟩ := hx
      obtain ⟨oy, qy⟩ := hy
      refine ⟨_, rfl, x, nx, rfl, tx, _, rfl, ?_⟩
      cases ex : isNum x with
      | false =>
        rw [frac_nonum (by rw [← isNum_of qx, ex]; rfl)] at q
        exact iteT (iteT q)
      | true =>
        refine iteF ⟨_, rfl, y, ny, rfl, ty, _, rfl, ?_⟩
        cases ey : isNum y with
        | false =>
          rw [frac_nonum (by rw [← isNum_of qx, ← isNum_of qy, ex, ey]; rfl)] at q
          exact iteT q
        | true =>
          obtain ⟨i, rfl⟩ := num_int ex
          obtain ⟨j, rfl⟩ := num_int ey
          cases qx
          cases qy
          refine iteF ⟨_, rfl, _, _, rfl, rfl, _, rfl, ?_⟩
          have eq : fracD (.tuple [.int i, .int j]) = (decide (1 ≤ j) && decide (gcdI i j = 1)) := rfl
          rw [eq] at q
          by_cases h : 1 ≤ j
          · rw [decide_eq_true h]
            rw [decide_eq_true h, Bool.true_and] at q
            refine iteT ⟨_, rfl, _, rfl, i, j, rfl, rfl, ?_⟩
            have e : decide (V.int ((Nat.gcd i.natAbs j.natAbs : Nat) : Int) = V.int 1) = decide (gcdI i j = 1) :=
              decide_eq_decide.mpr ⟨fun z => by injection z, fun z => congrArg V.int z⟩
            rw [e]
            exact q
          · rw [decide_eq_false h]
            rw [decide_eq_false h, Bool.false_and] at q
            exact iteF q
theorem ok_m_TermError (T : Txt K mg) {f : Addr} {fd : FuncData} (F : Fun K "__init__" "TermError.__init__" m_TermError f fd) : FnOk P w K mg base CX0 1 f fd ["self", "text"] (spTI K) := by
  refine F.ok sc_m_TermError ?_ ?_
  · rintro vs H Q E ⟨a, C, z, rfl, _⟩
    rfl
  · rintro cdv A outer s H vs Q E hr ⟨a, C, z, rfl, O, ha, q⟩
    refine ⟨_, pss_one (ps_expr (pe_veinit (by rfl) T.n_ValueError T.v_ve (pa_cons (pv 0) (pa_cons (pv 1) pa_nil)))), ?_⟩
    exact ⟨_, rfl, _, rfl, a, C, [.str z], rfl, (by show 1 ≤ 1000; decide), O, ha, q⟩
theorem ok_x_NoFraction (T : Txt K mg) : Xk P w K mg base "NoFraction" "found" := by
  obtain ⟨fI, fd, hm, O, E, xf, no, iC, tI, F⟩ := T.x_NoFraction.ex
  obtain ⟨f0, fd0, hm0, C0, F0⟩ := T.x_TermError.ex
  have F1 : FnOk P w K mg base CX0 1 f0 fd0 ["self", "text"] (spTI K) := ok_m_TermError T F0
  refine ⟨hm, O, E, xf, no, fI, fd, ["self", "found"], iC, tI, F.binds (fun _ _ _ _ _ _ us hl => match us, hl with | [_, _], _ => rfl), F.ok sc_m_NoFraction ?_ ?_⟩
  · rintro vs H Q E ⟨a, v, rfl, _⟩
    rfl
  · rintro cdv A outer s H vs Q E hr ⟨a, v, rfl, ha, k⟩
    refine ⟨_, pss_cons (ps_expr (pe_clsfn C0 F1 (hr.mono (by decide)) (by rfl) hm0 (F0.binds (fun _ _ _ _ _ _ us hl => match us, hl with | [_, _], _ => rfl)) (E := fun _ _ _ => False) (fun _ _ _ _ _ _ _ h => h.elim) (pa_cons (pv 0) (pa_cons pe_str pa_nil)))) (pss_one (ps_ost (pv 0) (pv 1))), ?_⟩
    exact ⟨_, rfl, _, _, _, rfl, O, ha, _, rfl, _, rfl, _, _, rfl, O, no, .inl ⟨ha, fun dx n ne => k dx n ne⟩⟩
theorem ok_x_NoNumber (T : Txt K mg) : Xk P w K mg base "NoNumber" "found" := by
  obtain ⟨fI, fd, hm, O, E, xf, no, iC, tI, F⟩ := T.x_NoNumber.ex
  obtain ⟨f0, fd0, hm0, C0, F0⟩ := T.x_TermError.ex
  have F1 : FnOk P w K mg base CX0 1 f0 fd0 ["self", "text"] (spTI K) := ok_m_TermError T F0
  refine ⟨hm, O, E, xf, no, fI, fd, ["self", "found"], iC, tI, F.binds (fun _ _ _ _ _ _ us hl => match us, hl with | [_, _], _ => rfl), F.ok sc_m_NoNumber ?_ ?_⟩
  · rintro vs H Q E ⟨a, v, rfl, _⟩
    rfl
  · rintro cdv A outer s H vs Q E hr ⟨a, v, rfl, ha, k⟩
    refine ⟨_, pss_cons (ps_expr (pe_clsfn C0 F1 (hr.mono (by decide)) (by rfl) hm0 (F0.binds (fun _ _ _ _ _ _ us hl => match us, hl with | [_, _], _ => rfl)) (E := fun _ _ _ => False) (fun _ _ _ _ _ _ _ h => h.elim) (pa_cons (pv 0) (pa_cons pe_str pa_nil)))) (pss_one (ps_ost (pv 0) (pv 1))), ?_⟩
    exact ⟨_, rfl, _, _, _, rfl, O, ha, _, rfl, _, rfl, _, _, rfl, O, no, .inl ⟨ha, fun dx n ne => k dx n ne⟩⟩
end
end My
namespace My
open PySem PySem.Spec PyProof.Rows L2 Vg
theorem gcd_le {a b : Int} (hb : 1 ≤ b) : gcdI a b ≤ b := by
  have d2 : gcdI a b ∣ b := Int.ofNat_dvd_left.mpr (Nat.gcd_dvd_right _ _)
  exact Int.le_of_dvd (by omega) d2
section
variable {P : Program} {w : World} {K : PySem.W.Frag} {mg : Str → Option Value} {base : Heap}
theorem ok_strict (T : Txt K mg) : Fn P w K mg base 1 "strict_neighbours" ["fraction", "bound"] spStrict := by
  refine T.d_strict_neighbours.fn sc_strict_neighbours (fun _ _ _ _ _ _ us hl => match us, hl with | [_, _], _ => rfl) ?_ ?_
  · rintro vs H Q E ⟨p, t, m, N, rfl, _⟩
    rfl
  · rintro f cdv A outer s H vs Q E hr ⟨p, t, m, N, rfl, hp, hc, hN, hm, ht, hM, q⟩
    refine ⟨_, (pss_cons (ps_asg (pv 0) (pg_tup rfl (pgs_cons (pg_name (i := 2) sc_strict_neighbours.nd rfl (Or.inl rfl)) (pgs_cons (pg_name (i := 3) sc_strict_neighbours.nd rfl (Or.inl rfl)) pgs_nil))))
 (pss_cons (ps_par (i := 4) (j := 5) (by rfl) sc_strict_neighbours.nd rfl rfl (by decide) rfl rfl (pa_cons (pe_op op_fdivW (pv 2) (pv 3)) (pa_cons pe_int pa_nil)) (by rfl))
 (pss_cons (ps_par (i := 6) (j := 7) (by rfl) sc_strict_neighbours.nd rfl rfl (by decide) rfl rfl (pa_cons (pe_op op_add (pv 4) pe_int) (pa_cons pe_int pa_nil)) (by rfl))
 (pss_cons (ps_while PassesOwn.never (pt_cmpR op_le (pe_op op_add (pv 5) (pv 7)) (pv 1) (nomark _)) (pss_cons (ps_set (i := 8) sc_strict_neighbours.nd rfl (Or.inl rfl) (pe_callB (call_min2 rfl) (by rfl) T.n_min (by decide +kernel) (pa_cons (pe_op op_fdivW (pe_op op_sub (pv 1) (pv 5)) (pv 7)) (pa_cons (pe_op op_fdivW (pe_op op_sub (pe_op op_mulW (pv 2) (pv 5)) (pe_op op_mulW (pv 4) (pv 3))) (pe_op op_sub (pe_op op_mulW (pv 6) (pv 3)) (pe_op op_mulW (pv 2) (pv 7)))) pa_nil))))
 (pss_cons (ps_par (i := 4) (j := 5) (by rfl) sc_strict_neighbours.nd rfl rfl (by decide) rfl rfl (pa_cons (pe_op op_add (pv 4) (pe_op op_mulW (pv 8) (pv 6))) (pa_cons (pe_op op_add (pv 5) (pe_op op_mulW (pv 8) (pv 7))) pa_nil)) (by rfl))
 (pss_cons (ps_set (i := 8) sc_strict_neighbours.nd rfl (Or.inl rfl) (pe_callB (call_min2 rfl) (by rfl) T.n_min (by decide +kernel) (pa_cons (pe_op op_fdivW (pe_op op_sub (pv 1) (pv 7)) (pv 5)) (pa_cons (pe_op op_fdivW (pe_op op_sub (pe_op op_mulW (pv 6) (pv 3)) (pe_op op_mulW (pv 2) (pv 7))) (pe_op op_sub (pe_op op_mulW (pv 2) (pv 5)) (pe_op op_mulW (pv 4) (pv 3)))) pa_nil))))
 (pss_one (ps_par (i := 6) (j := 7) (by rfl) sc_strict_neighbours.nd rfl rfl (by decide) rfl rfl (pa_cons (pe_op op_add (pv 6) (pe_op op_mulW (pv 8) (pv 4))) (pa_cons (pe_op op_add (pv 7) (pe_op op_mulW (pv 8) (pv 5))) pa_nil)) (by rfl)))))))
 (pss_one (ps_ret (pe_tup (pa_cons (pe_tup (pa_cons (pv 4) (pa_cons (pv 5) pa_nil))) (pa_cons (pe_tup (pa_cons (pv 6) (pa_cons (pv 7) pa_nil))) pa_nil))))))))), ?_⟩
    refine ⟨_, rfl, p, _, rfl, SqT.of hp, rfl, _, _, rfl, _, _, rfl, rfl, ?_⟩
    refine ⟨_, rfl, _, rfl, _, _, rfl, rfl, Bd.div (by omega) hM.bd, _, _, rfl, ?_⟩
    refine ⟨_, rfl, _, _, rfl, rfl, _, _, rfl, ?_⟩
    refine while_by (fun σ H' => H' = H ∧ ∃ (a b c d : Int) (v : Option V), σ = [some (.ref p), some (.int N), some (.int t), some (.int m), some (.int a), some (.int b), some (.int c), some (.int d), v] ∧ Nb t m N a b c d)
      (fun σ _ => match σ with | [_, _, _, _, _, some (.int b), _, some (.int d), _] => (2 * N - b - d).toNat | _ => 0) ?_ ?_ ?_
    · exact ⟨rfl, _, _, _, _, _, rfl, nb_start hc hN hm⟩
    · rintro σ H' ⟨rfl, a, b, c, d, v, rfl, nb⟩
      have B := nb.bds hm ht hM
      refine ⟨_, rfl, _, rfl, _, _, rfl, rfl, _, rfl, _, _, rfl, rfl, _, rfl, ?_⟩
      by_cases h : b + d ≤ N
      · rw [decide_eq_true h]
        refine iteT ?_
        have b1 := nb.b1
        have d1 := nb.d1
        have bN := nb.bN
        have dN := nb.dN
        refine ⟨_, rfl, _, rfl, _, _, rfl, rfl, _, rfl, _, _, rfl, rfl, Bd.div (by omega) B.bd, ?_⟩
        refine ⟨_, rfl, _, rfl, _, _, rfl, rfl, Bd.mul B.bt B.bb, _, rfl, _, rfl, _, _, rfl, rfl, Bd.mul B.ba B.bm, _, _, rfl, rfl, ?_⟩
        refine ⟨_, rfl, _, rfl, _, _, rfl, rfl, Bd.mul B.bc B.bm, _, rfl, _, rfl, _, _, rfl, rfl, Bd.mul B.bt B.bd, _, _, rfl, rfl, _, _, rfl, rfl, Bd.div nb.v B.v1, _, _, rfl, ?_⟩
        rw [min_if]
        generalize hs : min ((N - b) / d) ((t * b - a * m) / (c * m - t * d)) = st
        have st0 : 0 ≤ st := by
          have k1 := Int.ediv_nonneg (show 0 ≤ N - b by omega) (show 0 ≤ d by omega)
          have k2 := Int.ediv_nonneg B.u0 B.v0
          omega
        have nb1 := nb.left (s := st) hc hm st0 (by omega) (by omega)
        have B1 := nb1.bds hm ht hM
        have stB : Bd st := by
          have k1 : (N - b) / d ≤ N - b := Int.ediv_le_self _ (by omega)
          have k3 := hM.2
          unfold Bd
          omega
        refine ⟨_, rfl, _, rfl, _, rfl, _, _, rfl, rfl, Bd.mul stB B.bc, _, _, rfl, rfl, _, rfl, _, rfl, _, rfl, _, _, rfl, rfl, Bd.mul stB B.bd, _, _, rfl, rfl, _, _, rfl, ?_⟩
        have on := fun r => nb_on (r := r) nb hs.symm h
        have q1 := nb1.b1
        refine ⟨_, rfl, _, rfl, _, _, rfl, rfl, _, rfl, _, _, rfl, rfl, Bd.div (by omega) B1.bb, ?_⟩
        refine ⟨_, rfl, _, rfl, _, _, rfl, rfl, Bd.mul B1.bc B1.bm, _, rfl, _, rfl, _, _, rfl, rfl, Bd.mul B1.bt B1.bd, _, _, rfl, rfl, ?_⟩
        refine ⟨_, rfl, _, rfl, _, _, rfl, rfl, Bd.mul B1.bt B1.bb, _, rfl, _, rfl, _, _, rfl, rfl, Bd.mul B1.ba B1.bm, _, _, rfl, rfl, _, _, rfl, rfl, Bd.div nb1.u B1.u1, _, _, rfl, ?_⟩
        rw [min_if]
        generalize hr2 : min ((N - d) / (b + st * d)) ((c * m - t * d) / (t * (b + st * d) - (a + st * c) * m)) = st2
        obtain ⟨_, st20, some1⟩ := on st2 hr2.symm nb1
        have nb2 := nb1.right (s := st2) hc hm st20 (by omega) (by omega)
        have st2B : Bd st2 := by
          have k1 : (N - d) / (b + st * d) ≤ N - d := Int.ediv_le_self _ (by omega)
          have k3 := hM.2
          unfold Bd
          omega
        refine ⟨_, rfl, _, rfl, _, rfl, _, _, rfl, rfl, Bd.mul st2B B1.ba, _, _, rfl, rfl, _, rfl, _, rfl, _, rfl, _, _, rfl, rfl, Bd.mul st2B B1.bb, _, _, rfl, rfl, _, _, rfl, ?_⟩
        refine ⟨⟨rfl, _, _, _, _, _, rfl, nb2⟩, ?_⟩
        show (2 * N - (b + st * d) - (d + st2 * (b + st * d))).toNat < (2 * N - b - d).toNat
        have m1 : 0 ≤ st * d := Int.mul_nonneg st0 (by omega)
        have m2 : 0 ≤ st2 * (b + st * d) := Int.mul_nonneg st20 (by omega)
        have m3 : 0 < st → 0 < st * d := fun z => Int.mul_pos z (by omega)
        have m4 : 0 < st2 → 0 < st2 * (b + st * d) := fun z => Int.mul_pos z (by omega)
        have q5 := nb2.dN
        have q6 := nb1.bN
        rcases some1 with z | z
        · have := m3 z
          omega
        · have := m4 z
          omega
      · rw [decide_eq_false h]
        refine iteF ?_
        refine ⟨_, rfl, _, rfl, (by show 2 ≤ sizeLine; decide), fun q1 hq1 => ?_⟩
        generalize hX1 : upd H' q1 _ = H1
        have f1 : FrT H1 q1 a b := of_gen hX1
        have s1 := same_gen hq1 hX1
        refine ⟨_, rfl, _, rfl, (by show 2 ≤ sizeLine; decide), fun q2 hq2 => ?_⟩
        generalize hX2 : upd H1 q2 _ = H2
        have f2 : FrT H2 q2 c d := of_gen hX2
        have s2 := same_gen hq2 hX2
        refine ⟨(by show 2 ≤ sizeLine; decide), fun q3 hq3 => ?_⟩
        generalize hX3 : upd H2 q3 _ = H3
        have f3 : PrT H3 q3 q1 q2 := of_gen hX3
        have s3 := same_gen hq3 hX3
        exact q a b c d q1 q2 q3 H3 (.inr ⟨hm, nb, by omega⟩) ((s1.trans s2).trans s3) (s3 _ _ (s2 _ _ f1)) (s3 _ _ f2) f3
    · rintro σ H' Q1 Q2 hq ⟨v1, h1, v2, h2, i, j, h3, h4, v3, h5, i2, j2, h6, h7, b, h8, h9⟩
      exact ⟨v1, h1, v2, h2, i, j, h3, h4, v3, h5, i2, j2, h6, h7, b, h8, hq _ _ h9⟩
theorem ok_made (T : Txt K mg) : Fn P w K mg base 2 "_law_made" ["_law_top", "_law_bottom"] spMade := by
  refine T.d_law_made.fn sc_law_made (fun _ _ _ _ _ _ us hl => match us, hl with | [_, _], _ => rfl) ?_ ?_
  · rintro vs H Q E ⟨a, b, rfl, _⟩
    rfl
  · rintro f cdv A outer s0 H vs Q E hr ⟨a, b, rfl, ha, hb, h1, k⟩
    have F_law_common : Fn P w K mg base 1 "_law_common" ["_law_one", "_law_other"] spCommon := ok_common T
    refine ⟨_, (pss_cons (ps_set (i := 2) sc_law_made.nd rfl (Or.inl rfl) (pe_fn F_law_common (hr.mono (by decide)) rfl pass0 (pa_cons (pv 0) (pa_cons (pv 1) pa_nil))))
 (pss_cons (ps_if (pt_cmpR op_lt (pv 1) pe_int (nomark _)) (pss_one (ps_set (i := 2) sc_law_made.nd rfl (Or.inl rfl) (pe_op op_sub pe_int (pv 2)))) pss_nil)
 (pss_one (ps_ret (pe_tup (pa_cons (pe_op op_fdivW (pv 0) (pv 2)) (pa_cons (pe_op op_fdivW (pv 1) (pv 2)) pa_nil))))))), ?_⟩
    refine ⟨_, rfl, _, rfl, a, b, rfl, ?_⟩
    obtain ⟨g1, g2, g3⟩ := gcd_divs (a := a) h1
    have g4 := gcd_le (a := a) h1
    have hb2 := hb.2
    have gB : Bd (gcdI a b) := by
      unfold Bd
      omega
    refine ⟨_, rfl, _, _, rfl, rfl, _, rfl, ?_⟩
    rw [decide_eq_false (show ¬ b < 0 by omega)]
    refine iteF ⟨_, rfl, _, rfl, _, _, rfl, rfl, Bd.div (by omega) gB, _, rfl, _, rfl, _, _, rfl, rfl, Bd.div (by omega) gB, (by show 2 ≤ sizeLine; decide), fun q hq => ?_⟩
    generalize hX : upd H q _ = H1
    have f1 : FrT H1 q (a / gcdI a b) (b / gcdI a b) := of_gen hX
    exact k q _ _ H1 g1 g3 (div_small g2 ha.1 ha.2 (by decide)) (div_small g2 hb.1 hb.2 (by decide)) (same_gen hq hX) f1
theorem ok_need (T : Txt K mg) : FxR P w K mg base 4 "need_fractions" (spNeedX K) := by
  refine T.d_need_fractions.fxr (sp := spNeedX0 K) sc_need_fractions (fun _ _ _ _ _ _ us => match us with | [] => rfl | _ :: _ => rfl) ?_
  rintro f cdv A outer s H vs Q E hr ⟨p, xs, rfl, hp, h⟩
  have F_is_fraction : Fn P w K mg base 2 "is_fraction" ["thing"] spFrac := ok_is_fraction T
  have X_NoFraction : Xk P w K mg base "NoFraction" "found" := ok_x_NoFraction T
  refine ⟨_, (pss_one (ps_for (passes_of rfl) rfl (pi_tup (pv 0)) (pg_name (i := 1) sc_need_fractions.nd rfl (Or.inl rfl)) (pss_one (ps_if (pt_not (pt_val (pe_fn F_is_fraction (hr.mono (by decide)) rfl pass0 (pa_cons (pv 1) pa_nil)))) (pss_one (ps_rais X_NoFraction (hr.mono (by decide)) rfl (takes_of rfl rfl rfl rfl) rfl (pa_cons (pv 1) pa_nil))) pss_nil)))), ?_⟩
  refine ⟨_, rfl, p, rfl, ⟨xs, SqT.of hp⟩, ?_⟩
  rcases h with ⟨hx, q⟩ | ⟨i0, x0, d0, hx0, hd0, hf0, hbef, r⟩
  · refine for_tup (K := K) (a := p) (xs := xs) (fun i σ H' => (∃ v, σ = [some (.ref p), v]) ∧ Same H H') ⟨⟨_, rfl⟩, Same.refl _⟩ (fun i σ H' _ h => SqT.of (h.2 _ _ hp)) ?_ ?_
    · rintro i x σ H1 hi ⟨⟨v, rfl⟩, s1⟩
      obtain ⟨d, hd, hf⟩ := hx x (List.mem_of_getElem? hi)
      refine ⟨_, rfl, _, _, rfl, hd.same s1, _, rfl, ?_⟩
      rw [hf]
      exact iteF ⟨⟨_, rfl⟩, s1⟩
    · rintro σ H1 ⟨⟨v, rfl⟩, s1⟩
      exact q H1 s1
  · refine for_tup (K := K) (a := p) (xs := xs) (fun i σ H' => (∃ v, σ = [some (.ref p), v]) ∧ Same H H' ∧ i ≤ i0) ⟨⟨_, rfl⟩, Same.refl _, Nat.zero_le _⟩ (fun i σ H' _ h => SqT.of (h.2.1 _ _ hp)) ?_ ?_
    · rintro i x σ H1 hi ⟨⟨v, rfl⟩, s1, l⟩
      by_cases e : i = i0
      · subst e
        rw [hx0] at hi
        cases hi
        refine ⟨_, rfl, _, _, rfl, hd0.same s1, _, rfl, ?_⟩
        rw [hf0]
        exact iteT ⟨_, rfl, fun dd H2 s2 h2 => r dd H2 (s1.trans s2) h2⟩
      · obtain ⟨d, hd, hf⟩ := hbef i x (by omega) hi
        refine ⟨_, rfl, _, _, rfl, hd.same s1, _, rfl, ?_⟩
        rw [hf]
        exact iteF ⟨⟨_, rfl⟩, s1, by omega⟩
    · rintro σ H1 ⟨⟨v, rfl⟩, s1, l⟩
      have := (List.getElem?_eq_some_iff.mp hx0).1
      omega
end
end My
namespace My
open PySem PySem.Spec PyProof.Rows L2 Vg
section
variable {P : Program} {w : World} {K : PySem.W.Frag} {mg : Str → Option Value} {base : Heap}
theorem ok_neighbours (T : Txt K mg) : Fx P w K mg base 5 "neighbours" ["fraction", "bound"] (spNbrsX K) := by
  refine T.d_neighbours.fx sc_neighbours (fun _ _ _ _ _ _ us hl => match us, hl with | [_, _], _ => rfl) ?_ ?_
  · rintro vs H Q E ⟨hl, _⟩
    exact hl
  · rintro f cdv A outer s H vs Q E hr ⟨_, h⟩
    have F_need_fractions : FxR P w K mg base 4 "need_fractions" (spNeedX K) := ok_need T
    have F_is_number : Fn P w K mg base 1 "is_number" ["thing"] (spNum K) := ok_is_number T
    have F_strict_neighbours : Fn P w K mg base 1 "strict_neighbours" ["fraction", "bound"] spStrict := ok_strict T
    have X_NoNumber : Xk P w K mg base "NoNumber" "found" := ok_x_NoNumber T
    refine ⟨_, (pss_cons (ps_expr (pe_fxr F_need_fractions (hr.mono (by decide)) rfl (passes_call (takes_of rfl rfl rfl rfl) (fun _ _ _ _ h => h)) (pa_cons (pv 0) pa_nil)))
 (pss_cons (ps_if (PW.pt (pw_or (pt_not (pt_val (pe_fn F_is_number (hr.mono (by decide)) rfl pass0 (pa_cons (pv 1) pa_nil)))) (pw_or1 (pt_cmpR op_lt (pv 1) pe_int (nomark _))))) (pss_one (ps_rais X_NoNumber (hr.mono (by decide)) rfl (takes_of rfl rfl rfl rfl) rfl (pa_cons (pv 1) pa_nil))) pss_nil)
 (pss_cons (ps_if (pt_cmpR op_le (pe_ix ix_tup (pv 0) pe_int (fun _ _ => rfl)) (pv 1) (nomark _)) (pss_one (ps_ret (pe_tup (pa_cons (pv 0) (pa_cons (pv 0) pa_nil))))) pss_nil)
 (pss_one (ps_ret (pe_fn F_strict_neighbours (hr.mono (by decide)) rfl pass0 (pa_cons (pv 0) (pa_cons (pv 1) pa_nil)))))))), ?_⟩
    rcases h with ⟨x, n, d, rfl, hd, hf, r⟩ | ⟨p, t, m, n, d, rfl, hp, hc, hm, hd, hb, r⟩ | ⟨p, t, m, N, rfl, hp, hc, hN, hm, ht, hM, q⟩
    · exact ⟨_, rfl, needX_no (vs := [x]) (i := 0) (by show 1 ≤ sizeLine; decide) rfl hd hf (fun j y hj => absurd hj (Nat.not_lt_zero j)) r⟩
    · refine ⟨_, rfl, needX_ok (vs := [V.ref p]) (by show 1 ≤ sizeLine; decide) (fun x hx => ?_) fun H1 s1 => ?_⟩
      · rw [List.mem_singleton.mp hx]
        exact ⟨_, FrT.dk hp, fr_true hm hc⟩
      · obtain ⟨nn, tn⟩ := (hd.same s1).tn (K := K)
        refine ⟨_, rfl, n, nn, rfl, tn, _, rfl, ?_⟩
        have fin : ∀ v, v = n → ∀ dd H2, Same H1 H2 → H2 dd = some (.xd [("found", v)]) → E (.ref (clsA K "NoNumber")) (some dd) H2 := fun v e dd H2 s2 h2 => r dd H2 (s1.trans s2) (by rw [← e]; exact h2)
        cases e : isNum n with
        | false => exact iteT (iteT ⟨_, rfl, fin n rfl⟩)
        | true =>
          obtain ⟨N, rfl⟩ := num_int e
          refine iteF ⟨_, rfl, _, _, rfl, rfl, _, rfl, ?_⟩
          have hb' : decide (N < 1) = true := hb
          rw [hb']
          exact iteT ⟨_, rfl, fin _ rfl⟩
    · refine ⟨_, rfl, needX_ok (vs := [V.ref p]) (by show 1 ≤ sizeLine; decide) (fun x hx => ?_) fun H1 s1 => ?_⟩
      · rw [List.mem_singleton.mp hx]
        exact ⟨_, FrT.dk hp, fr_true hm hc⟩
      · have hp1 := s1 _ _ hp
        refine ⟨_, rfl, _, _, rfl, .int N, _, rfl, ?_⟩
        refine iteF ⟨_, rfl, _, _, rfl, rfl, _, rfl, ?_⟩
        rw [decide_eq_false (show ¬ N < 1 by omega)]
        refine iteF ?_
        refine ⟨_, rfl, p, _, _, _, rfl, rfl, SqT.of hp1, rfl, _, rfl, _, _, rfl, rfl, _, rfl, ?_⟩
        by_cases h : m ≤ N
        · rw [decide_eq_true h]
          refine iteT ⟨_, rfl, _, rfl, (by show 2 ≤ sizeLine; decide), fun q3 hq3 => ?_⟩
          generalize hX3 : upd H1 q3 _ = H3
          have f3 : PrT H3 q3 p p := of_gen hX3
          have s3 := same_gen hq3 hX3
          exact q t m t m p p q3 H3 (.inl ⟨h, rfl, rfl, rfl, rfl⟩) (s1.trans s3) (s3 _ _ hp1) (s3 _ _ hp1) f3
        · rw [decide_eq_false h]
          refine iteF ⟨_, rfl, _, rfl, p, t, m, N, rfl, hp1, hc, hN, by omega, ht, hM, ?_⟩
          exact fun a b c d q1 q2 q3 H' nx s2 f1 f2 f3 => q a b c d q1 q2 q3 H' nx (s1.trans s2) f1 f2 f3
theorem ok_asked (T : Txt K mg) : Fn P w K mg base 6 "_law_asked" ["_law_fraction", "_law_bound"] spAsked := by
  refine T.d_law_asked.fn sc_law_asked (fun _ _ _ _ _ _ us hl => match us, hl with | [_, _], _ => rfl) ?_ ?_
  · rintro vs H Q E ⟨hl, _⟩
    exact hl
  · rintro f cdv A outer s H vs Q E hr ⟨_, h⟩
    have F_neighbours : Fx P w K mg base 5 "neighbours" ["fraction", "bound"] (spNbrsX K) := ok_neighbours T
    have X_NoNumber : Xk P w K mg base "NoNumber" "found" := ok_x_NoNumber T
    have X_NoFraction : Xk P w K mg base "NoFraction" "found" := ok_x_NoFraction T
    refine ⟨_, (pss_one (ps_try_named rfl rfl sc_law_asked.nd (fun W pn xe tk own => (pss_one (ps_ret (pe_tup (pa_cons pe_str (pa_cons (pe_fxS F_neighbours tk (hr.mono (by decide)) rfl (pa_cons (pv 0) (pa_cons (pv 1) pa_nil))) pa_nil)))))) (Nh.cons (i := 2) rfl rfl ⟨rfl, by decide, .inl X_NoFraction.hm⟩ (fun a oe cls d pn hz hf => (pss_one (ps_ret (pe_tup (pa_cons pe_str (pa_cons (pe_xf X_NoFraction.xf X_NoFraction.no hz hf (pv 2)) pa_nil)))))) (Nh.cons (i := 2) rfl rfl ⟨rfl, by decide, .inl X_NoNumber.hm⟩ (fun a oe cls d pn hz hf => (pss_one (ps_ret (pe_tup (pa_cons pe_str (pa_cons (pe_xf X_NoNumber.xf X_NoNumber.no hz hf (pv 2)) pa_nil)))))) (Nh.never _))))), ?_⟩
    rcases h with ⟨x, n, d, rfl, hd, hf, k⟩ | ⟨p, t, m, n, d, rfl, hp, hc, hm, hd, hb, k⟩ | ⟨p, t, m, N, rfl, hp, hc, hN, hm, ht, hM, k⟩
    · refine ⟨_, rfl, _, rfl, rfl, .inl ⟨x, n, d, rfl, hd, hf, fun dd H1 s1 h1 => ?_⟩⟩
      refine ⟨true, T.p_NoFraction_NoFraction.em, fun _ a ha => ?_, fun z => Bool.noConfusion z⟩
      refine ⟨_, rfl, rfl, rfl, dd, _, x, rfl, h1, rfl, (by show 2 ≤ sizeLine; decide), fun y hy => ?_⟩
      generalize hX : upd H1 y _ = H2
      exact k y H2 (s1.trans (same_gen hy hX)) (of_gen hX)
    · refine ⟨_, rfl, _, rfl, rfl, .inr (.inl ⟨p, t, m, n, d, rfl, hp, hc, hm, hd, hb, fun dd H1 s1 h1 => ?_⟩)⟩
      refine ⟨false, T.p_NoNumber_NoFraction.em, fun z => Bool.noConfusion z, fun _ => ?_⟩
      refine ⟨true, T.p_NoNumber_NoNumber.em, fun _ a ha => ?_, fun z => Bool.noConfusion z⟩
      refine ⟨_, rfl, rfl, rfl, dd, _, n, rfl, h1, rfl, (by show 2 ≤ sizeLine; decide), fun y hy => ?_⟩
      generalize hX : upd H1 y _ = H2
      exact k y H2 (s1.trans (same_gen hy hX)) (of_gen hX)
    · refine ⟨_, rfl, _, rfl, rfl, .inr (.inr ⟨p, t, m, N, rfl, hp, hc, hN, hm, ht, hM, fun a b c d q r s H1 nx s1 fq fr pr => ?_⟩)⟩
      refine ⟨(by show 2 ≤ sizeLine; decide), fun y hy => ?_⟩
      generalize hX : upd H1 y _ = H2
      have s2 := same_gen hy hX
      exact k a b c d q r s y H2 nx (s1.trans s2) (s2 _ _ fq) (s2 _ _ fr) (s2 _ _ pr) (of_gen hX)
end
end My
namespace My
open PySem PySem.Spec PyProof.Rows L2 Vg
section
variable {P : Program} {w : World} {K : PySem.W.Frag} {mg : Str → Option Value} {base : Heap}
theorem ok_due (T : Txt K mg) : Fn P w K mg base 1 "_law_due" ["_law_fraction", "_law_bound"] spDue := by
  refine T.d_law_due.fn sc_law_due (fun _ _ _ _ _ _ us hl => match us, hl with | [_, _], _ => rfl) ?_ ?_
  · rintro vs H Q E ⟨x, t, m, N, a, b, c, d, rfl, _⟩
    rfl
  · rintro f cdv A outer s0 H vs Q E hr ⟨x, t, m, N, a, b, c, d, rfl, fx, hc, hm, hm2, ht1, ht2, hN, hN2, nx, k⟩
    have mB : Bd m := by
      unfold Bd
      omega
    refine ⟨_, (pss_cons (ps_asg (pv 0) (pg_tup rfl (pgs_cons (pg_name (i := 2) sc_law_due.nd rfl (Or.inl rfl)) (pgs_cons (pg_name (i := 3) sc_law_due.nd rfl (Or.inl rfl)) pgs_nil))))
 (pss_cons (ps_par (i := 4) (j := 5) (by rfl) sc_law_due.nd rfl rfl (by decide) rfl rfl (pa_cons (pe_tup (pa_cons (pe_op op_fdivW (pv 2) (pv 3)) (pa_cons pe_int pa_nil))) (pa_cons (pe_tup (pa_cons (pe_op op_sub pe_int (pe_op op_fdivW (pe_op op_sub pe_int (pv 2)) (pv 3))) (pa_cons pe_int pa_nil))) pa_nil)) (by rfl))
 (pss_cons (ps_for PassesOwn.never rfl (pi_range2 (by rfl) T.n_range (pa_cons pe_int (pa_cons (pe_op op_add (pv 1) pe_int) pa_nil))) (pg_name (i := 6) sc_law_due.nd rfl (Or.inl rfl)) (pss_cons (ps_set (i := 7) sc_law_due.nd rfl (Or.inl rfl) (pe_tup (pa_cons (pe_op op_fdivW (pe_op op_mulW (pv 2) (pv 6)) (pv 3)) (pa_cons (pv 6) pa_nil))))
 (pss_cons (ps_set (i := 8) sc_law_due.nd rfl (Or.inl rfl) (pe_tup (pa_cons (pe_op op_sub pe_int (pe_op op_fdivW (pe_op op_sub pe_int (pe_op op_mulW (pv 2) (pv 6))) (pv 3))) (pa_cons (pv 6) pa_nil))))
 (pss_cons (ps_if (pt_cmpR op_gt (pe_op op_mulW (pe_ix ix_tup (pv 7) pe_int (fun _ _ => rfl)) (pe_ix ix_tup (pv 4) pe_int (fun _ _ => rfl))) (pe_op op_mulW (pe_ix ix_tup (pv 4) pe_int (fun _ _ => rfl)) (pv 6)) (nomark _)) (pss_one (ps_set (i := 4) sc_law_due.nd rfl (Or.inl rfl) (pv 7))) pss_nil)
 (pss_one (ps_if (pt_cmpR op_lt (pe_op op_mulW (pe_ix ix_tup (pv 8) pe_int (fun _ _ => rfl)) (pe_ix ix_tup (pv 5) pe_int (fun _ _ => rfl))) (pe_op op_mulW (pe_ix ix_tup (pv 5) pe_int (fun _ _ => rfl)) (pv 6)) (nomark _)) (pss_one (ps_set (i := 5) sc_law_due.nd rfl (Or.inl rfl) (pv 8))) pss_nil))))))
 (pss_one (ps_ret (pe_tup (pa_cons (pv 4) (pa_cons (pv 5) pa_nil)))))))), ?_⟩
    refine ⟨_, rfl, x, _, rfl, SqT.of fx, rfl, _, _, rfl, _, _, rfl, rfl, ?_⟩
    refine ⟨_, rfl, _, rfl, _, _, rfl, rfl, Bd.div (by omega) mB, (by show 2 ≤ sizeLine; decide), fun L1 hL1 => ?_⟩
    generalize hX1 : upd H L1 _ = H1
    have f1 : FrT H1 L1 (t / m) 1 := of_gen hX1
    have s1 := same_gen hL1 hX1
    refine ⟨_, rfl, _, _, rfl, rfl, _, rfl, _, _, rfl, rfl, Bd.div (by omega) mB, _, _, rfl, rfl, (by show 2 ≤ sizeLine; decide), fun L2 hL2 => ?_⟩
    generalize hX2 : upd H1 L2 _ = H2
    have f2 : FrT H2 L2 (0 - (0 - t) / m) 1 := of_gen hX2
    have s2 := same_gen hL2 hX2
    refine ⟨_, _, rfl, ?_⟩
    refine ⟨_, rfl, _, _, rfl, rfl, 2, N + 1, rfl, ⟨by omega, by omega, by omega, by omega⟩, ?_⟩
    refine for_range (fun i σ H' => ∃ (u1 u2 : Addr) (p q p2 q2 : Int) (v6 v7 v8 : Option V), σ = [some (.ref x), some (.int N), some (.int t), some (.int m), some (.ref u1), some (.ref u2), v6, v7, v8] ∧
      Same H H' ∧ FrT H' u1 p q ∧ FrT H' u2 p2 q2 ∧ Lo t m (i + 1) p q ∧ Lo (-t) m (i + 1) (-p2) q2 ∧ (-20000000 ≤ p ∧ p ≤ 20000000) ∧ (-20000000 ≤ p2 ∧ p2 ≤ 20000000)) ?_ ?_ ?_
    · refine ⟨L1, L2, _, _, _, _, none, none, none, rfl, s1.trans s2, s2 _ _ f1, f2, Lo.start hm, ?_, ?_, ?_⟩
      · have z := Lo.start (t := -t) hm
        have e : -(0 - (0 - t) / m) = -t / m := by
          have : 0 - t = -t := by omega
          rw [this]
          omega
        rw [e]
        exact z
      · exact div_small hm (by omega) (by omega) (by decide)
      · have := div_small (a := 0 - t) (T := 20000000) hm (by omega) (by omega) (by decide)
        omega
    · rintro i σ H3 hi ⟨u1, u2, p, q, p2, q2, v6, v7, v8, rfl, s3, g1, g2, lo, hi2, pb, pb2⟩
      have hi' : (i : Int) + 2 ≤ N := by omega
      have tb : -10010000 ≤ t * (2 + (i : Int)) ∧ t * (2 + (i : Int)) ≤ 10010000 := by
        have k1 : t * (2 + (i : Int)) ≤ 10000 * (2 + (i : Int)) := Int.mul_le_mul_of_nonneg_right ht2 (by omega)
        have k2 : -10000 * (2 + (i : Int)) ≤ t * (2 + (i : Int)) := Int.mul_le_mul_of_nonneg_right ht1 (by omega)
        omega
      have bB : Bd (2 + (i : Int)) := by
        unfold Bd
        omega
      have tB : Bd t := by
        unfold Bd
        omega
      have qq := lo.qB
      have qq1 := lo.q1
      have qq2 := hi2.qB
      have qq3 := hi2.q1
      have qB : Bd q := by
        unfold Bd
        omega
      have q2B : Bd q2 := by
        unfold Bd
        omega
      refine ⟨_, rfl, _, rfl, _, _, rfl, rfl, Bd.mul tB bB, _, rfl, _, _, rfl, rfl, Bd.div (by omega) mB, _, rfl, (by show 2 ≤ sizeLine; decide), fun y1 hy1 => ?_⟩
      generalize hX1 : upd H3 y1 _ = H4
      have g1y' : FrT H4 y1 (t * (2 + (i : Int)) / m) (2 + (i : Int)) := of_gen hX1
      have s4 := same_gen hy1 hX1
      refine ⟨_, rfl, _, rfl, _, _, rfl, rfl, Bd.mul tB bB, _, _, rfl, rfl, _, rfl, _, _, rfl, rfl, Bd.div (by omega) mB, _, _, rfl, rfl, _, rfl, (by show 2 ≤ sizeLine; decide), fun y2 hy2 => ?_⟩
      generalize hX2 : upd H4 y2 _ = H5
      have g2y : FrT H5 y2 (0 - (0 - t * (2 + (i : Int))) / m) (2 + (i : Int)) := of_gen hX2
      have s45 := same_gen hy2 hX2
      have g1y := s45 _ _ g1y'
      have g4 := s45 _ _ (s4 _ _ g1)
      have g5 := s45 _ _ (s4 _ _ g2)
      have s5 := s3.trans (s4.trans s45)
      have Pb := div_small (a := t * (2 + (i : Int))) (T := 10010000) hm tb.1 tb.2 (by decide)
      have Db := div_small (a := 0 - t * (2 + (i : Int))) (T := 10010000) hm (by omega) (by omega) (by decide)
      have eB : (i : Int) + 1 + 1 = 2 + (i : Int) := by omega
      have eB2 : 2 + (i : Int) = ((i + 1 : Nat) : Int) + 1 := by omega
      have et : -t * (2 + (i : Int)) = 0 - t * (2 + (i : Int)) := by grind
      have lnew := fun z => Lo.new lo hm z
      have lkeep := fun z => Lo.keep lo hm z
      have hnew0 := fun z => Lo.new hi2 hm z
      have hkeep0 := fun z => Lo.keep hi2 hm z
      rw [eB] at lnew lkeep hnew0 hkeep0
      rw [et] at hnew0 hkeep0
      generalize (0 - t * (2 + (i : Int))) / m = D at g2y Db hnew0 hkeep0 ⊢
      have n1 : -p2 * (2 + (i : Int)) = -(p2 * (2 + (i : Int))) := Int.neg_mul _ _
      have n2 : (0 - D) * q2 = -(D * q2) := by grind
      have hnew : (0 - D) * q2 < p2 * (2 + (i : Int)) → Lo (-t) m (2 + (i : Int)) (-(0 - D)) (2 + (i : Int)) := fun z => by
        have e : -(0 - D) = D := by omega
        rw [e]
        exact hnew0 (by omega)
      have hkeep : ¬ (0 - D) * q2 < p2 * (2 + (i : Int)) → Lo (-t) m (2 + (i : Int)) (-p2) q2 := fun z => hkeep0 (by omega)
      refine ⟨_, rfl, y1, _, _, _, rfl, rfl, SqT.of g1y, rfl, _, rfl, u1, _, _, _, rfl, rfl, SqT.of g4, rfl, _, _, rfl, rfl, Bd.mul (by unfold Bd; omega) qB, _, rfl, u1, _, _, _, rfl, rfl, SqT.of g4, rfl, _, rfl, _, _, rfl, rfl, Bd.mul (by unfold Bd; omega) bB, _, _, rfl, rfl, _, rfl, ?_⟩
      by_cases hc1 : p * (2 + (i : Int)) < t * (2 + (i : Int)) / m * q
      · rw [decide_eq_true hc1]
        refine iteT ⟨_, rfl, ?_⟩
        refine ⟨_, rfl, y2, _, _, _, rfl, rfl, SqT.of g2y, rfl, _, rfl, u2, _, _, _, rfl, rfl, SqT.of g5, rfl, _, _, rfl, rfl, Bd.mul (by unfold Bd; omega) q2B, _, rfl, u2, _, _, _, rfl, rfl, SqT.of g5, rfl, _, rfl, _, _, rfl, rfl, Bd.mul (by unfold Bd; omega) bB, _, _, rfl, rfl, _, rfl, ?_⟩
        by_cases hc2 : (0 - D) * q2 < p2 * (2 + (i : Int))
        · rw [decide_eq_true hc2]
          refine iteT ⟨_, rfl, ?_⟩
          exact ⟨_, y2, _, _, _, _, _, _, _, rfl, s5, g1y, g2y, eB2 ▸ lnew hc1, eB2 ▸ hnew hc2, (by omega), by omega⟩
        · rw [decide_eq_false hc2]
          refine iteF ?_
          exact ⟨_, u2, _, _, _, _, _, _, _, rfl, s5, g1y, g5, eB2 ▸ lnew hc1, eB2 ▸ hkeep hc2, (by omega), pb2⟩
      · rw [decide_eq_false hc1]
        refine iteF ?_
        refine ⟨_, rfl, y2, _, _, _, rfl, rfl, SqT.of g2y, rfl, _, rfl, u2, _, _, _, rfl, rfl, SqT.of g5, rfl, _, _, rfl, rfl, Bd.mul (by unfold Bd; omega) q2B, _, rfl, u2, _, _, _, rfl, rfl, SqT.of g5, rfl, _, rfl, _, _, rfl, rfl, Bd.mul (by unfold Bd; omega) bB, _, _, rfl, rfl, _, rfl, ?_⟩
        by_cases hc2 : (0 - D) * q2 < p2 * (2 + (i : Int))
        · rw [decide_eq_true hc2]
          refine iteT ⟨_, rfl, ?_⟩
          exact ⟨_, y2, _, _, _, _, _, _, _, rfl, s5, g4, g2y, eB2 ▸ lkeep hc1, eB2 ▸ hnew hc2, pb, by omega⟩
        · rw [decide_eq_false hc2]
          refine iteF ?_
          exact ⟨_, u2, _, _, _, _, _, _, _, rfl, s5, g4, g5, eB2 ▸ lkeep hc1, eB2 ▸ hkeep hc2, pb, pb2⟩
    · rintro σ H3 ⟨u1, u2, p, q, p2, q2, v6, v7, v8, rfl, s3, g1, g2, lo, hi2, pb, pb2⟩
      have e : ((Int.toNat (N + 1 - 2) : Nat) : Int) + 1 = N := by omega
      rw [e] at lo hi2
      obtain ⟨e1, e2⟩ := nx.gcds hc
      obtain ⟨a1, a2⟩ := lo.same nx hm e1
      have e3 : gcdI (-c) d = 1 := by
        unfold gcdI at e2 ⊢
        rw [Int.natAbs_neg]
        exact e2
      obtain ⟨a3, a4⟩ := hi2.same nx.flip hm e3
      have a5 : p2 = c := by omega
      subst a1 a2 a5 a4
      refine ⟨_, rfl, _, rfl, (by show 2 ≤ sizeLine; decide), fun y hy => ?_⟩
      generalize hX : upd H3 y _ = H4
      have s4 := same_gen hy hX
      exact k u1 u2 y H4 (s3.trans s4) (s4 _ _ g1) (s4 _ _ g2) (of_gen hX)
end
end My
namespace My
open PySem PySem.Spec PyProof.Rows L2 Vg
def oddT : List PyData := [.none, .bool true, .int (3), .str "1/2", .list [.int (1), .int (2)], .tuple [.int (2), .int (4)], .tuple [.int (1), .int (0)], .tuple [.int (1), .int (-2)], .tuple [.int (0), .int (2)], .tuple [.int (1)], .tuple [.int (1), .int (2), .int (3)], .tuple [.bool true, .int (2)], .tuple [.int (1), .bool true], .dict [], .tuple [.none, .int (2)], .tuple [.str "1", .int (2)], .list [.tuple [.int (1), .int (2)]], .str ""]
def numT : List PyData := [.none, .bool true, .int (0), .int (-1), .str "5", .list [.int (5)], .tuple [.int (5)], .dict [], .str "", .int (-100000000000000000000000000000)]
theorem odd_all : ∀ d ∈ oddT, thD d = true ∧ (!fracD d) = true := by
  have h : (oddT.all fun d => thD d && !fracD d) = true := by decide +kernel
  rw [List.all_eq_true] at h
  exact fun d hd => Bool.and_eq_true_iff.mp (h d hd)
theorem num_all : ∀ d ∈ numT, thD d = true ∧ badD d = true := by
  have h : (numT.all fun d => thD d && badD d) = true := by decide +kernel
  rw [List.all_eq_true] at h
  exact fun d hd => Bool.and_eq_true_iff.mp (h d hd)
section
variable {P : Program} {w : World} {K : PySem.W.Frag} {mg : Str → Option Value} {base : Heap}
theorem ok_refused (T : Txt K mg) : Fg P w K mg base 7 "_law_refused_right" ["_law_purse_here", "_law_fraction", "_law_bound"] spRefR := by
  refine T.d_law_refused_right.fng sc_law_refused_right (fun _ _ _ _ _ _ us hl => match us, hl with | [_, _, _], _ => rfl) ?_ ?_
  · rintro vs H Q E ⟨p, x, t, m, N, n, rfl, _⟩
    rfl
  · rintro f cdv A outer s H vs Q E hgd hr ⟨p, x, t, m, N, n, rfl, hp, fx, hc, hm, k⟩
    have F_law_take : Fn P w K mg base 1 "_law_take" ["_law_purse_here", "_law_many"] spTake := ok_take T
    have F_law_asked : Fn P w K mg base 6 "_law_asked" ["_law_fraction", "_law_bound"] spAsked := ok_asked T
    refine ⟨_, (pss_cons (ps_set (i := 3) sc_law_refused_right.nd rfl (Or.inl rfl) (pe_lst (pa_cons pe_non (pa_cons pe_bl (pa_cons pe_int (pa_cons pe_str (pa_cons (pe_lst (pa_cons pe_int (pa_cons pe_int pa_nil))) (pa_cons (pe_tup (pa_cons pe_int (pa_cons pe_int pa_nil))) (pa_cons (pe_tup (pa_cons pe_int (pa_cons pe_int pa_nil))) (pa_cons (pe_tup (pa_cons pe_int (pa_cons (pe_un un_neg pe_int) pa_nil))) (pa_cons (pe_tup (pa_cons pe_int (pa_cons pe_int pa_nil))) (pa_cons (pe_tup (pa_cons pe_int pa_nil)) (pa_cons (pe_tup (pa_cons pe_int (pa_cons pe_int (pa_cons pe_int pa_nil)))) (pa_cons (pe_tup (pa_cons pe_bl (pa_cons pe_int pa_nil))) (pa_cons (pe_tup (pa_cons pe_int (pa_cons pe_bl pa_nil))) (pa_cons pe_dnewK pa_nil))))))))))))))))
 (pss_cons (ps_set (i := 4) sc_law_refused_right.nd rfl (Or.inl rfl) (pe_ix ix_list (pe_op op_cat (pv 3) (pe_lst (pa_cons (pe_tup (pa_cons pe_non (pa_cons pe_int pa_nil))) (pa_cons (pe_tup (pa_cons pe_str (pa_cons pe_int pa_nil))) (pa_cons (pe_lst (pa_cons (pe_tup (pa_cons pe_int (pa_cons pe_int pa_nil))) pa_nil)) (pa_cons pe_str pa_nil)))))) (pe_fn F_law_take (hr.mono (by decide)) rfl pass0 (pa_cons (pv 0) (pa_cons pe_int pa_nil))) (fun _ _ => rfl)))
 (pss_cons (ps_set (i := 5) sc_law_refused_right.nd rfl (Or.inl rfl) (pe_ix ix_list (pe_lst (pa_cons pe_non (pa_cons pe_bl (pa_cons pe_int (pa_cons (pe_un un_neg pe_int) (pa_cons pe_str (pa_cons (pe_lst (pa_cons pe_int pa_nil)) (pa_cons (pe_tup (pa_cons pe_int pa_nil)) (pa_cons pe_dnewK (pa_cons pe_str (pa_cons (pe_un un_neg (pe_op op_pow pe_int pe_int)) pa_nil))))))))))) (pe_fn F_law_take (hr.mono (by decide)) rfl pass0 (pa_cons (pv 0) (pa_cons pe_int pa_nil))) (fun _ _ => rfl)))
 (pss_cons (ps_for PassesOwn.never rfl (pi_range1 (by rfl) T.n_range (pa_cons pe_int pa_nil)) (pg_name (i := 6) sc_law_refused_right.nd rfl (Or.inl rfl)) (pss_cons (ps_asg (pe_fn F_law_asked (hr.mono (by decide)) rfl pass0 (pa_cons (pe_ix ix_list (pe_lst (pa_cons (pv 4) (pa_cons (pv 4) (pa_cons (pv 1) pa_nil)))) (pv 6) (fun _ _ => rfl)) (pa_cons (pe_ix ix_list (pe_lst (pa_cons (pv 2) (pa_cons (pv 5) (pa_cons (pv 5) pa_nil)))) (pv 6) (fun _ _ => rfl)) pa_nil))) (pg_tup rfl (pgs_cons (pg_name (i := 7) sc_law_refused_right.nd rfl (Or.inl rfl)) (pgs_cons (pg_name (i := 8) sc_law_refused_right.nd rfl (Or.inl rfl)) pgs_nil))))
 (pss_cons (ps_set (i := 9) sc_law_refused_right.nd rfl (Or.inl rfl) (pe_ix ix_list (pe_lst (pa_cons (pv 4) (pa_cons (pv 4) (pa_cons (pv 5) pa_nil)))) (pv 6) (fun _ _ => rfl)))
 (pss_cons (ps_if (pt_val (pe_callB cr_isi (by rfl) T.n_isinstance (by decide +kernel) (pa_cons (pv 9) (pa_cons (pe_bltn (v := .ty "list") (by rfl) T.n_list (by decide +kernel) rfl) pa_nil)))) (pss_one (ps_expr (pe_bm PySem.F.plainAttrs_list PySem.F.slot_list_append PySem.F.type_list_append mt_append (pv 9) (pa_cons pe_int pa_nil)))) pss_nil)
 (pss_one (ps_if (PW.pt (pw_or (pt_cmpR op_ne (pv 7) (pe_ix ix_list (pe_lst (pa_cons pe_str (pa_cons pe_str (pa_cons pe_str pa_nil)))) (pv 6) (fun _ _ => rfl)) (nomark _)) (pw_or1 (pt_cmpR op_ne (pe_callB (cr_reprA hgd hr.units) (by rfl) T.n_repr (by decide +kernel) (pa_cons (pv 8) pa_nil)) (pe_callB (cr_reprA hgd hr.units) (by rfl) T.n_repr (by decide +kernel) (pa_cons (pv 9) pa_nil)) (nomark _))))) (pss_one (ps_ret pe_bl)) pss_nil))))))
 (pss_one (ps_ret pe_bl)))))), ?_⟩
    refine sq_set (mk_lst (mkl_cons mk_non (mkl_cons (mk_bl _) (mkl_cons (mk_int _) (mkl_cons (mk_str _) (mkl_cons (mk_lst (mkl_cons (mk_int _) (mkl_cons (mk_int _) mkl_nil))) (mkl_cons (mk_tup (mkl_cons (mk_int _) (mkl_cons (mk_int _) mkl_nil))) (mkl_cons (mk_tup (mkl_cons (mk_int _) (mkl_cons (mk_int _) mkl_nil))) (mkl_cons (mk_tup (mkl_cons (mk_int _) (mkl_cons (mk_of (mki_neg (mki_c _))) mkl_nil))) (mkl_cons (mk_tup (mkl_cons (mk_int _) (mkl_cons (mk_int _) mkl_nil))) (mkl_cons (mk_tup (mkl_cons (mk_int _) mkl_nil)) (mkl_cons (mk_tup (mkl_cons (mk_int _) (mkl_cons (mk_int _) (mkl_cons (mk_int _) mkl_nil)))) (mkl_cons (mk_tup (mkl_cons (mk_bl _) (mkl_cons (mk_int _) mkl_nil))) (mkl_cons (mk_tup (mkl_cons (mk_int _) (mkl_cons (mk_bl _) mkl_nil))) (mkl_cons mk_dct0 mkl_nil))))))))))))))) ?_
    intro v1 H1 s1 r1
    cases r1 with
    | @lst a1 xs1 _ o1 h1 d1 =>
    refine mk_cat (mk_lst (mkl_cons (mk_tup (mkl_cons mk_non (mkl_cons (mk_int _) mkl_nil))) (mkl_cons (mk_tup (mkl_cons (mk_str _) (mkl_cons (mk_int _) mkl_nil))) (mkl_cons (mk_lst (mkl_cons (mk_tup (mkl_cons (mk_int _) (mkl_cons (mk_int _) mkl_nil))) mkl_nil)) (mkl_cons (mk_str _) mkl_nil))))) rfl h1 d1 (by decide) (fun b hb => s1.free hb) ?_
    intro a3 ys3 H3 s3 n3 h3 d3
    have t3 : Same H H3 := s1.trans s3
    refine ⟨_, rfl, p, 18, n + 1, rfl, by decide, by decide, hp.same t3, fun r l r0 r1 hl => ?_⟩
    obtain ⟨j, rfl⟩ : ∃ j : Nat, r = (j : Int) := ⟨r.toNat, by omega⟩
    have hj : j < oddT.length := by show j < 18; omega
    obtain ⟨v, hv, dv⟩ := d3.get (List.getElem?_eq_getElem hj)
    have p3 : ∃ l0, H3 p = some (.lst l0) := by
      obtain ⟨l0, h0, _⟩ := hp
      exact ⟨l0, t3 _ _ h0⟩
    have np : H p ≠ none := by
      obtain ⟨l0, h0, _⟩ := hp
      rw [h0]
      exact fun z => by cases z
    have n3p : a3 ≠ p := fun z => by
      have := s1.free n3
      rw [z] at this
      exact np this
    refine ⟨a3, _, _, v, rfl, rfl, SqL.of (by rw [upd_ne n3p]; exact h3), atI_nat hv, ?_⟩
    have thv := th_of (pr := fun d => !fracD d) (ok := fun b => H b = none ∧ upd H3 p (.lst l) b ≠ none) (H := upd H3 p (.lst l)) (dv.mono (fun b o hb ho => by
      have : b ≠ p := fun z => by
        rw [z] at hb
        exact np hb
      rw [upd_ne this]
      exact ho) fun b o hb ho => ⟨hb, by
        have : b ≠ p := fun z => by
          rw [z] at hb
          exact np hb
        rw [upd_ne this, ho]
        exact fun z => by cases z⟩) (odd_all _ (List.getElem_mem hj)).1 (odd_all _ (List.getElem_mem hj)).2
    have z4 := Pz.upd (H := H3) (p := p) hl
    have c4 : But p H (upd H3 p (.lst l)) := (But.of t3).trans But.upd
    have fx4 := c4 _ _ (fr_ne fx hp) fx
    generalize upd H3 p (.lst l) = H4 at thv z4 c4 fx4 ⊢
    refine sq_ix (mk_lst (mkl_cons mk_non (mkl_cons (mk_bl _) (mkl_cons (mk_int _) (mkl_cons (mk_of (mki_neg (mki_c _))) (mkl_cons (mk_str _) (mkl_cons (mk_lst (mkl_cons (mk_int _) mkl_nil)) (mkl_cons (mk_tup (mkl_cons (mk_int _) mkl_nil)) (mkl_cons mk_dct0 (mkl_cons (mk_str _) (mkl_cons (mk_of (mki_neg (mki_pow (mki_c _) (mki_c _)))) mkl_nil))))))))))) ?_
    intro vN H5 s5 rN
    cases rN with
    | @lst aN xsN _ oN hN dN =>
    refine ⟨_, rfl, p, 10, n, rfl, by decide, by decide, z4.same s5, fun r' l' r0' r1' hl' => ?_⟩
    obtain ⟨j', rfl⟩ : ∃ j : Nat, r' = (j : Int) := ⟨r'.toNat, by omega⟩
    have hj' : j' < numT.length := by show j' < 10; omega
    obtain ⟨w', hw, dw⟩ := dN.get (List.getElem?_eq_getElem hj')
    have nNp : aN ≠ p := z4.ne oN
    refine ⟨aN, _, _, w', rfl, rfl, SqL.of (by rw [upd_ne nNp]; exact hN), atI_nat hw, ?_⟩
    have bad := dq_bad dw (num_all _ (List.getElem_mem hj')).2
    have thw := th_of (pr := fun _ => true) (ok := fun b => H4 b = none) (H := upd H5 p (.lst l')) (dw.mono (fun b o hb ho => by
      rw [upd_ne (z4.ne hb)]
      exact ho) fun b o hb ho => hb) (num_all _ (List.getElem_mem hj')).1 rfl
    have thv6 := thv.mono (H' := upd H5 p (.lst l')) (fun b o hb ho => by
      have : b ≠ p := fun z => by
        rw [z] at hb
        exact np hb.1
      rw [upd_ne this]
      exact s5 _ _ ho)
    have z6 := Pz.upd (H := H5) (p := p) hl'
    have c6 : But p H (upd H5 p (.lst l')) := (c4.trans (But.of s5)).trans But.upd
    clear thv
    generalize upd H5 p (.lst l') = H6 at thv6 thw z6 c6 ⊢
    have nv : ∀ {H7 : Hp} {a : Addr} {o : HO}, But p H H7 → Pz H7 p n → H a = none → But p H (upd H7 a o) ∧ Pz (upd H7 a o) p n := fun {H7 a o} b7 z7 ha => by
      refine ⟨fun c u hc hu => ?_, ?_⟩
      · have : c ≠ a := fun z => by
          rw [z, ha] at hu
          cases hu
        rw [upd_ne this]
        exact b7 _ _ hc hu
      · obtain ⟨l0, h0, h1⟩ := z7
        have : p ≠ a := fun z => by
          rw [← z] at ha
          exact np ha
        exact ⟨l0, by rw [upd_ne this]; exact h0, h1⟩
    have xp := fr_ne fx hp
    refine ⟨_, rfl, by decide, by decide, ?_⟩
    refine for_range (fun i σ H' => ∃ (w6 w7 w8 w9 : Option V) (jv jw : Nat), σ = [some (.ref p), some (.ref x), some (.int N), some (.ref a1), some v, some w', w6, w7, w8, w9] ∧
      Th (fun b => H b = none ∧ H4 b ≠ none) (fun d => !fracD d) H' v jv ∧ Th (fun b => H4 b = none) (fun _ => true) H' w' jw ∧ jv ≤ i ∧ jw ≤ i ∧ But p H H' ∧ Pz H' p n) ?_ ?_ ?_
    · exact ⟨_, _, _, _, 0, 0, rfl, thv6, thw, by decide, by decide, c6, z6⟩
    · rintro i σ H7 hi ⟨w6, w7, w8, w9, jv, jw, rfl, tv, tw, jv1, jw1, c7, z7⟩
      have hi3 : i < 3 := hi
      obtain ⟨dv7, kv7, _, _, _, _, fv7⟩ := tv.dk (by omega)
      obtain ⟨dw7, kw7, _, _, _, _, _⟩ := tw.dk (by omega)
      have nfr : fracD dv7 = false := by
        rcases fv7 with e | e
        · exact e
        · simpa using e
      have ii : i = 0 ∨ i = 1 ∨ i = 2 := by omega
      have fx7 := c7 _ _ xp fx
      rcases ii with rfl | rfl | rfl
      · refine ⟨_, rfl, _, rfl, _, rfl, (by show 3 ≤ sizeLine; decide), fun q1 hq1 => ?_⟩
        generalize hX1 : upd H7 q1 _ = HA
        have e1 := of_gen hX1
        have sA0 := same_gen hq1 hX1
        refine ⟨_, rfl, q1, _, _, _, rfl, rfl, SqL.of e1, rfl, ?_⟩
        refine ⟨_, rfl, _, rfl, _, rfl, (by show 3 ≤ sizeLine; decide), fun q2 hq2 => ?_⟩
        generalize hX2 : upd HA q2 _ = HB
        have e2 := of_gen hX2
        have sA := sA0.trans (same_gen hq2 hX2)
        refine ⟨_, rfl, q2, _, _, _, rfl, rfl, SqL.of e2, rfl, rfl, .inl ⟨v, .int N, dv7, rfl, kv7.same sA, nfr, fun y H9 s9 hy => ?_⟩⟩
        refine ⟨y, _, rfl, SqT.of hy, rfl, _, _, rfl, _, _, rfl, rfl, ?_⟩
        refine ⟨_, rfl, _, rfl, _, rfl, (by show 3 ≤ sizeLine; decide), fun q3 hq3 => ?_⟩
        generalize hX3 : upd H9 q3 _ = HC
        have e3 := of_gen hX3
        have sC := (sA.trans s9).trans (same_gen hq3 hX3)
        refine ⟨_, rfl, q3, _, _, _, rfl, rfl, SqL.of e3, rfl, ?_⟩
        have tv9 := tv.mono (H' := HC) (fun b o _ ho => sC _ _ ho)
        have tw9 := tw.mono (H' := HC) (fun b o _ ho => sC _ _ ho)
        have c9 := c7.trans (But.of sC)
        have z9 := z7.same sC
        have h4n : ∀ {b : Addr}, H4 b = none → H b = none := fun {b} hb => by
          by_cases e : b = p
          · exact absurd (e ▸ hb) (fun z => by obtain ⟨l0, h0, _⟩ := z4; rw [h0] at z; cases z)
          · exact c4.free hb e
        obtain ⟨nn, b0, tn, hb0, pf, pt⟩ := tv9.put (K := K) (by omega)
        refine ⟨_, rfl, _, nn, "list", b0, rfl, tn, hb0, _, rfl, ?_⟩
        cases b0 with
        | false =>
          refine iteF ?_
          have th1 := pf rfl
          have cF := c9
          have zF := z9
          obtain ⟨dd, _, hdr, k1, k2, k3, _⟩ := th1.dk (by omega)
          refine ⟨_, rfl, (by show 3 ≤ sizeLine; decide), fun q4 hq4 => ?_⟩
          generalize hX4 : upd HC q4 _ = HE
          have e4 := of_gen hX4
          have sE := same_gen hq4 hX4
          refine ⟨_, rfl, q4, _, _, _, rfl, rfl, SqL.of e4, rfl, rfl, _, rfl, ?_⟩
          dsimp only
          rw [decide_eq_true (rfl : V.str "fraction" = V.str "fraction")]
          refine iteF ?_
          have thE := th1.mono (H' := HE) (fun b o _ ho => sE _ _ ho)
          obtain ⟨dd, _, hdr, k1, k2, k3, _⟩ := thE.dk (by omega)
          refine ⟨_, rfl, _, dd, rfl, hdr _, k1, k2, k3, _, rfl, _, dd, rfl, hdr _, k1, k2, k3, rfl, _, rfl, ?_⟩
          refine iteNS rfl ?_
          exact ⟨_, _, _, _, jv + 1, jw, rfl, thE, tw9.mono (fun b o _ ho => sE _ _ ho), by omega, by omega, cF.trans (But.of sE), zF.same sE⟩
        | true =>
          obtain ⟨a, xs, rfl, oa, ha, hl9, th1⟩ := pt rfl
          have hza : xs.length < sizeLine := Nat.lt_of_le_of_lt hl9 (by decide)
          refine iteT ⟨_, rfl, .inl ⟨rfl, _, SqL.of ha⟩, a, xs, _, rfl, rfl, ha, hza, ?_⟩
          obtain ⟨cF, zF⟩ := nv (o := .lst (xs ++ [.int 7])) c9 z9 (oa.1)
          have oth : Th (fun b => H4 b = none) (fun _ => true) (upd HC a (.lst (xs ++ [.int 7]))) w' jw := by
            exact tw9.mono fun b o hb ho' => by
              rw [upd_ne (fun z => by rw [z] at hb; exact oa.2 hb)]
              exact ho'
          generalize upd HC a (.lst (xs ++ [.int 7])) = HD at th1 cF zF oth ⊢
          obtain ⟨dd, _, hdr, k1, k2, k3, _⟩ := th1.dk (by omega)
          refine ⟨_, rfl, (by show 3 ≤ sizeLine; decide), fun q4 hq4 => ?_⟩
          generalize hX4 : upd HD q4 _ = HE
          have e4 := of_gen hX4
          have sE := same_gen hq4 hX4
          refine ⟨_, rfl, q4, _, _, _, rfl, rfl, SqL.of e4, rfl, rfl, _, rfl, ?_⟩
          dsimp only
          rw [decide_eq_true (rfl : V.str "fraction" = V.str "fraction")]
          refine iteF ?_
          have thE := th1.mono (H' := HE) (fun b o _ ho => sE _ _ ho)
          obtain ⟨dd, _, hdr, k1, k2, k3, _⟩ := thE.dk (by omega)
          refine ⟨_, rfl, _, dd, rfl, hdr _, k1, k2, k3, _, rfl, _, dd, rfl, hdr _, k1, k2, k3, rfl, _, rfl, ?_⟩
          refine iteNS rfl ?_
          exact ⟨_, _, _, _, jv + 1, jw, rfl, thE, oth.mono (fun b o _ ho => sE _ _ ho), by omega, by omega, cF.trans (But.of sE), zF.same sE⟩
      · refine ⟨_, rfl, _, rfl, _, rfl, (by show 3 ≤ sizeLine; decide), fun q1 hq1 => ?_⟩
        generalize hX1 : upd H7 q1 _ = HA
        have e1 := of_gen hX1
        have sA0 := same_gen hq1 hX1
        refine ⟨_, rfl, q1, _, _, _, rfl, rfl, SqL.of e1, rfl, ?_⟩
        refine ⟨_, rfl, _, rfl, _, rfl, (by show 3 ≤ sizeLine; decide), fun q2 hq2 => ?_⟩
        generalize hX2 : upd HA q2 _ = HB
        have e2 := of_gen hX2
        have sA := sA0.trans (same_gen hq2 hX2)
        refine ⟨_, rfl, q2, _, _, _, rfl, rfl, SqL.of e2, rfl, rfl, .inl ⟨v, w', dv7, rfl, kv7.same sA, nfr, fun y H9 s9 hy => ?_⟩⟩
        refine ⟨y, _, rfl, SqT.of hy, rfl, _, _, rfl, _, _, rfl, rfl, ?_⟩
        refine ⟨_, rfl, _, rfl, _, rfl, (by show 3 ≤ sizeLine; decide), fun q3 hq3 => ?_⟩
        generalize hX3 : upd H9 q3 _ = HC
        have e3 := of_gen hX3
        have sC := (sA.trans s9).trans (same_gen hq3 hX3)
        refine ⟨_, rfl, q3, _, _, _, rfl, rfl, SqL.of e3, rfl, ?_⟩
        have tv9 := tv.mono (H' := HC) (fun b o _ ho => sC _ _ ho)
        have tw9 := tw.mono (H' := HC) (fun b o _ ho => sC _ _ ho)
        have c9 := c7.trans (But.of sC)
        have z9 := z7.same sC
        have h4n : ∀ {b : Addr}, H4 b = none → H b = none := fun {b} hb => by
          by_cases e : b = p
          · exact absurd (e ▸ hb) (fun z => by obtain ⟨l0, h0, _⟩ := z4; rw [h0] at z; cases z)
          · exact c4.free hb e
        obtain ⟨nn, b0, tn, hb0, pf, pt⟩ := tv9.put (K := K) (by omega)
        refine ⟨_, rfl, _, nn, "list", b0, rfl, tn, hb0, _, rfl, ?_⟩
        cases b0 with
        | false =>
          refine iteF ?_
          have th1 := pf rfl
          have cF := c9
          have zF := z9
          obtain ⟨dd, _, hdr, k1, k2, k3, _⟩ := th1.dk (by omega)
          refine ⟨_, rfl, (by show 3 ≤ sizeLine; decide), fun q4 hq4 => ?_⟩
          generalize hX4 : upd HC q4 _ = HE
          have e4 := of_gen hX4
          have sE := same_gen hq4 hX4
          refine ⟨_, rfl, q4, _, _, _, rfl, rfl, SqL.of e4, rfl, rfl, _, rfl, ?_⟩
          dsimp only
          rw [decide_eq_true (rfl : V.str "fraction" = V.str "fraction")]
          refine iteF ?_
          have thE := th1.mono (H' := HE) (fun b o _ ho => sE _ _ ho)
          obtain ⟨dd, _, hdr, k1, k2, k3, _⟩ := thE.dk (by omega)
          refine ⟨_, rfl, _, dd, rfl, hdr _, k1, k2, k3, _, rfl, _, dd, rfl, hdr _, k1, k2, k3, rfl, _, rfl, ?_⟩
          refine iteNS rfl ?_
          exact ⟨_, _, _, _, jv + 1, jw, rfl, thE, tw9.mono (fun b o _ ho => sE _ _ ho), by omega, by omega, cF.trans (But.of sE), zF.same sE⟩
        | true =>
          obtain ⟨a, xs, rfl, oa, ha, hl9, th1⟩ := pt rfl
          have hza : xs.length < sizeLine := Nat.lt_of_le_of_lt hl9 (by decide)
          refine iteT ⟨_, rfl, .inl ⟨rfl, _, SqL.of ha⟩, a, xs, _, rfl, rfl, ha, hza, ?_⟩
          obtain ⟨cF, zF⟩ := nv (o := .lst (xs ++ [.int 7])) c9 z9 (oa.1)
          have oth : Th (fun b => H4 b = none) (fun _ => true) (upd HC a (.lst (xs ++ [.int 7]))) w' jw := by
            exact tw9.mono fun b o hb ho' => by
              rw [upd_ne (fun z => by rw [z] at hb; exact oa.2 hb)]
              exact ho'
          generalize upd HC a (.lst (xs ++ [.int 7])) = HD at th1 cF zF oth ⊢
          obtain ⟨dd, _, hdr, k1, k2, k3, _⟩ := th1.dk (by omega)
          refine ⟨_, rfl, (by show 3 ≤ sizeLine; decide), fun q4 hq4 => ?_⟩
          generalize hX4 : upd HD q4 _ = HE
          have e4 := of_gen hX4
          have sE := same_gen hq4 hX4
          refine ⟨_, rfl, q4, _, _, _, rfl, rfl, SqL.of e4, rfl, rfl, _, rfl, ?_⟩
          dsimp only
          rw [decide_eq_true (rfl : V.str "fraction" = V.str "fraction")]
          refine iteF ?_
          have thE := th1.mono (H' := HE) (fun b o _ ho => sE _ _ ho)
          obtain ⟨dd, _, hdr, k1, k2, k3, _⟩ := thE.dk (by omega)
          refine ⟨_, rfl, _, dd, rfl, hdr _, k1, k2, k3, _, rfl, _, dd, rfl, hdr _, k1, k2, k3, rfl, _, rfl, ?_⟩
          refine iteNS rfl ?_
          exact ⟨_, _, _, _, jv + 1, jw, rfl, thE, oth.mono (fun b o _ ho => sE _ _ ho), by omega, by omega, cF.trans (But.of sE), zF.same sE⟩
      · refine ⟨_, rfl, _, rfl, _, rfl, (by show 3 ≤ sizeLine; decide), fun q1 hq1 => ?_⟩
        generalize hX1 : upd H7 q1 _ = HA
        have e1 := of_gen hX1
        have sA0 := same_gen hq1 hX1
        refine ⟨_, rfl, q1, _, _, _, rfl, rfl, SqL.of e1, rfl, ?_⟩
        refine ⟨_, rfl, _, rfl, _, rfl, (by show 3 ≤ sizeLine; decide), fun q2 hq2 => ?_⟩
        generalize hX2 : upd HA q2 _ = HB
        have e2 := of_gen hX2
        have sA := sA0.trans (same_gen hq2 hX2)
        refine ⟨_, rfl, q2, _, _, _, rfl, rfl, SqL.of e2, rfl, rfl, .inr (.inl ⟨x, t, m, w', dw7, rfl, sA _ _ fx7, hc, hm, kw7.same sA, bad, fun y H9 s9 hy => ?_⟩)⟩
        refine ⟨y, _, rfl, SqT.of hy, rfl, _, _, rfl, _, _, rfl, rfl, ?_⟩
        refine ⟨_, rfl, _, rfl, _, rfl, (by show 3 ≤ sizeLine; decide), fun q3 hq3 => ?_⟩
        generalize hX3 : upd H9 q3 _ = HC
        have e3 := of_gen hX3
        have sC := (sA.trans s9).trans (same_gen hq3 hX3)
        refine ⟨_, rfl, q3, _, _, _, rfl, rfl, SqL.of e3, rfl, ?_⟩
        have tv9 := tv.mono (H' := HC) (fun b o _ ho => sC _ _ ho)
        have tw9 := tw.mono (H' := HC) (fun b o _ ho => sC _ _ ho)
        have c9 := c7.trans (But.of sC)
        have z9 := z7.same sC
        have h4n : ∀ {b : Addr}, H4 b = none → H b = none := fun {b} hb => by
          by_cases e : b = p
          · exact absurd (e ▸ hb) (fun z => by obtain ⟨l0, h0, _⟩ := z4; rw [h0] at z; cases z)
          · exact c4.free hb e
        obtain ⟨nn, b0, tn, hb0, pf, pt⟩ := tw9.put (K := K) (by omega)
        refine ⟨_, rfl, _, nn, "list", b0, rfl, tn, hb0, _, rfl, ?_⟩
        cases b0 with
        | false =>
          refine iteF ?_
          have th1 := pf rfl
          have cF := c9
          have zF := z9
          obtain ⟨dd, _, hdr, k1, k2, k3, _⟩ := th1.dk (by omega)
          refine ⟨_, rfl, (by show 3 ≤ sizeLine; decide), fun q4 hq4 => ?_⟩
          generalize hX4 : upd HC q4 _ = HE
          have e4 := of_gen hX4
          have sE := same_gen hq4 hX4
          refine ⟨_, rfl, q4, _, _, _, rfl, rfl, SqL.of e4, rfl, rfl, _, rfl, ?_⟩
          dsimp only
          rw [decide_eq_true (rfl : V.str "number" = V.str "number")]
          refine iteF ?_
          have thE := th1.mono (H' := HE) (fun b o _ ho => sE _ _ ho)
          obtain ⟨dd, _, hdr, k1, k2, k3, _⟩ := thE.dk (by omega)
          refine ⟨_, rfl, _, dd, rfl, hdr _, k1, k2, k3, _, rfl, _, dd, rfl, hdr _, k1, k2, k3, rfl, _, rfl, ?_⟩
          refine iteNS rfl ?_
          exact ⟨_, _, _, _, jv, jw + 1, rfl, tv9.mono (fun b o _ ho => sE _ _ ho), thE, by omega, by omega, cF.trans (But.of sE), zF.same sE⟩
        | true =>
          obtain ⟨a, xs, rfl, oa, ha, hl9, th1⟩ := pt rfl
          have hza : xs.length < sizeLine := Nat.lt_of_le_of_lt hl9 (by decide)
          refine iteT ⟨_, rfl, .inl ⟨rfl, _, SqL.of ha⟩, a, xs, _, rfl, rfl, ha, hza, ?_⟩
          obtain ⟨cF, zF⟩ := nv (o := .lst (xs ++ [.int 7])) c9 z9 (h4n oa)
          have oth : Th (fun b => H b = none ∧ H4 b ≠ none) (fun d => !fracD d) (upd HC a (.lst (xs ++ [.int 7]))) v jv := by
            exact tv9.mono fun b o hb ho' => by
              rw [upd_ne (fun z => by rw [z] at hb; exact hb.2 oa)]
              exact ho'
          generalize upd HC a (.lst (xs ++ [.int 7])) = HD at th1 cF zF oth ⊢
          obtain ⟨dd, _, hdr, k1, k2, k3, _⟩ := th1.dk (by omega)
          refine ⟨_, rfl, (by show 3 ≤ sizeLine; decide), fun q4 hq4 => ?_⟩
          generalize hX4 : upd HD q4 _ = HE
          have e4 := of_gen hX4
          have sE := same_gen hq4 hX4
          refine ⟨_, rfl, q4, _, _, _, rfl, rfl, SqL.of e4, rfl, rfl, _, rfl, ?_⟩
          dsimp only
          rw [decide_eq_true (rfl : V.str "number" = V.str "number")]
          refine iteF ?_
          have thE := th1.mono (H' := HE) (fun b o _ ho => sE _ _ ho)
          obtain ⟨dd, _, hdr, k1, k2, k3, _⟩ := thE.dk (by omega)
          refine ⟨_, rfl, _, dd, rfl, hdr _, k1, k2, k3, _, rfl, _, dd, rfl, hdr _, k1, k2, k3, rfl, _, rfl, ?_⟩
          refine iteNS rfl ?_
          exact ⟨_, _, _, _, jv, jw + 1, rfl, oth.mono (fun b o _ ho => sE _ _ ho), thE, by omega, by omega, cF.trans (But.of sE), zF.same sE⟩
    · rintro σ H7 ⟨w6, w7, w8, w9, jv, jw, rfl, tv, tw, jv1, jw1, c7, z7⟩
      exact k H7 c7 z7
end
end My
namespace My
open PySem PySem.Spec PyProof.Rows L2 Vg
def spMadeT (TT : Int) : Sp := fun vs H Q _ => ∃ (a b : Int), vs = [.int a, .int b] ∧ 0 ≤ TT ∧ TT ≤ 100000 ∧ -TT ≤ a ∧ a ≤ TT ∧ 1 ≤ b ∧ b ≤ TT ∧
  ∀ (q : Addr) (t m : Int) (H' : Hp), gcdI t m = 1 → 1 ≤ m → m ≤ TT → -TT ≤ t → t ≤ TT → Same H H' → FrT H' q t m → Q (.ref q) H'
theorem nbx_small {t m N a b c d : Int} (x : NbX t m N a b c d) (hm : 1 ≤ m) (hm2 : m ≤ 10000) (h1 : -10000 ≤ t) (h2 : t ≤ 10000) (hN : N ≤ 1000) :
    (toldD a b c d).showable = true ∧ (toldD a b c d).depth ≤ 50 ∧ (toldD a b c d).shown.length ≤ sizeLine := by
  rcases x with ⟨l, rfl, rfl, rfl, rfl⟩ | ⟨l, n, s⟩
  · exact told_text (by omega) (by omega) (by omega) (by omega)
  · have lo := n.lowB h1 h2 l
    have hi := n.highB h1 h2 l
    have b1 := n.b1
    have d1 := n.d1
    have bN := n.bN
    have dN := n.dN
    exact told_text (by omega) (by omega) (by omega) (by omega)
section
variable {P : Program} {w : World} {K : PySem.W.Frag} {mg : Str → Option Value} {base : Heap}
theorem ok_madeT (T : Txt K mg) (TT : Int) : Fn P w K mg base 2 "_law_made" ["_law_top", "_law_bottom"] (spMadeT TT) := by
  refine T.d_law_made.fn sc_law_made (fun _ _ _ _ _ _ us hl => match us, hl with | [_, _], _ => rfl) ?_ ?_
  · rintro vs H Q E ⟨a, b, rfl, _⟩
    rfl
  · rintro f cdv A outer s0 H vs Q E hr ⟨a, b, rfl, t0, t1, ha1, ha2, h1, hb, k⟩
    have F_law_common : Fn P w K mg base 1 "_law_common" ["_law_one", "_law_other"] spCommon := ok_common T
    refine ⟨_, (pss_cons (ps_set (i := 2) sc_law_made.nd rfl (Or.inl rfl) (pe_fn F_law_common (hr.mono (by decide)) rfl pass0 (pa_cons (pv 0) (pa_cons (pv 1) pa_nil))))
 (pss_cons (ps_if (pt_cmpR op_lt (pv 1) pe_int (nomark _)) (pss_one (ps_set (i := 2) sc_law_made.nd rfl (Or.inl rfl) (pe_op op_sub pe_int (pv 2)))) pss_nil)
 (pss_one (ps_ret (pe_tup (pa_cons (pe_op op_fdivW (pv 0) (pv 2)) (pa_cons (pe_op op_fdivW (pv 1) (pv 2)) pa_nil))))))), ?_⟩
    refine ⟨_, rfl, _, rfl, a, b, rfl, ?_⟩
    obtain ⟨g1, g2, g3⟩ := gcd_divs (a := a) h1
    have g4 := gcd_le (a := a) h1
    have gB : Bd (gcdI a b) := by
      unfold Bd
      omega
    refine ⟨_, rfl, _, _, rfl, rfl, _, rfl, ?_⟩
    rw [decide_eq_false (show ¬ b < 0 by omega)]
    refine iteF ⟨_, rfl, _, rfl, _, _, rfl, rfl, Bd.div (by omega) gB, _, rfl, _, rfl, _, _, rfl, rfl, Bd.div (by omega) gB, (by show 2 ≤ sizeLine; decide), fun q hq => ?_⟩
    generalize hX : upd H q _ = H1
    have f1 : FrT H1 q (a / gcdI a b) (b / gcdI a b) := of_gen hX
    exact k q _ _ H1 g1 g3 (Int.le_trans (Int.ediv_le_self _ (by omega)) hb) (div_small g2 ha1 ha2 t0).1 (div_small g2 ha1 ha2 t0).2 (same_gen hq hX) f1
theorem ok_law (T : Txt K mg) {f : Addr} {fd : FuncData} (F : Fun K "law" "law" s_law f fd) : FnG P w K mg base CX0 8 f fd ["_law_script"] (spLaw K) := by
  refine fng_fun F sc_law ?_ ?_
  · rintro vs H Q E ⟨a, ns, rfl, _⟩
    rfl
  · rintro cdv A outer s0 H vs Q E hgd hr ⟨a, ns, rfl, hS, hlen, k⟩
    have F_law_take : Fn P w K mg base 1 "_law_take" ["_law_purse_here", "_law_many"] spTake := ok_take T
    have F_law_cell : Fn P w K mg base 1 "_law_cell" ["_law_script", "_law_k"] (Vg.spCell K) := ok_cell T
    have F_law_purse : Fn P w K mg base 1 "_law_purse" ["_law_cell_here"] spPurse := ok_purse T
    have F_law_made : Fn P w K mg base 2 "_law_made" ["_law_top", "_law_bottom"] (spMadeT 10000) := ok_madeT T 10000
    have F_law_asked : Fn P w K mg base 6 "_law_asked" ["_law_fraction", "_law_bound"] spAsked := ok_asked T
    have F_law_due : Fn P w K mg base 1 "_law_due" ["_law_fraction", "_law_bound"] spDue := ok_due T
    have F_law_refused_right : Fg P w K mg base 7 "_law_refused_right" ["_law_purse_here", "_law_fraction", "_law_bound"] spRefR := ok_refused T
    have hl63 : (ns.map V.int).length ≤ 63 := by rw [List.length_map]; exact hlen
    refine ⟨_, (pss_cons (ps_for PassesOwn.never rfl (pi_range1 (by rfl) T.n_range (pa_cons (pe_callB (call_max2 rfl) (by rfl) T.n_max (by decide +kernel) (pa_cons pe_int (pa_cons (pe_callB (call_min2 rfl) (by rfl) T.n_min (by decide +kernel) (pa_cons pe_int (pa_cons (pe_callB call_len_seq (by rfl) T.n_len PySem.boot_len (pa_cons (pv 0) pa_nil)) pa_nil))) pa_nil))) pa_nil)) (pg_name (i := 1) sc_law.nd rfl (Or.inl rfl)) (pss_cons (ps_set (i := 2) sc_law.nd rfl (Or.inl rfl) (pe_fn F_law_purse (hr.mono (by decide)) rfl pass0 (pa_cons (pe_fn F_law_cell (hr.mono (by decide)) rfl pass0 (pa_cons (pv 0) (pa_cons (pv 1) pa_nil))) pa_nil)))
 (pss_cons (ps_set (i := 3) sc_law.nd rfl (Or.inl rfl) (pe_op op_add pe_int (pe_fn F_law_take (hr.mono (by decide)) rfl pass0 (pa_cons (pv 2) (pa_cons (pe_ix ix_list (pe_lst (pa_cons pe_int (pa_cons pe_int (pa_cons pe_int pa_nil)))) (pe_fn F_law_take (hr.mono (by decide)) rfl pass0 (pa_cons (pv 2) (pa_cons pe_int pa_nil))) (fun _ _ => rfl)) pa_nil)))))
 (pss_cons (ps_set (i := 4) sc_law.nd rfl (Or.inl rfl) (pe_op op_mulW (pe_fn F_law_take (hr.mono (by decide)) rfl pass0 (pa_cons (pv 2) (pa_cons (pe_ix ix_list (pe_lst (pa_cons pe_int (pa_cons pe_int (pa_cons pe_int pa_nil)))) (pe_fn F_law_take (hr.mono (by decide)) rfl pass0 (pa_cons (pv 2) (pa_cons pe_int pa_nil))) (fun _ _ => rfl)) pa_nil))) (pe_op op_sub pe_int (pe_op op_mulW pe_int (pe_fn F_law_take (hr.mono (by decide)) rfl pass0 (pa_cons (pv 2) (pa_cons pe_int pa_nil)))))))
 (pss_cons (ps_set (i := 5) sc_law.nd rfl (Or.inl rfl) (pe_fn F_law_made (hr.mono (by decide)) rfl pass0 (pa_cons (pv 4) (pa_cons (pv 3) pa_nil))))
 (pss_cons (ps_set (i := 6) sc_law.nd rfl (Or.inl rfl) (pe_op op_add pe_int (pe_fn F_law_take (hr.mono (by decide)) rfl pass0 (pa_cons (pv 2) (pa_cons pe_int pa_nil)))))
 (pss_cons (ps_set (i := 7) sc_law.nd rfl (Or.inl rfl) (pe_lst (pa_cons (pv 6) (pa_cons pe_int (pa_cons (pe_callB (call_max2 rfl) (by rfl) T.n_max (by decide +kernel) (pa_cons pe_int (pa_cons (pe_callB (call_min2 rfl) (by rfl) T.n_min (by decide +kernel) (pa_cons pe_int (pa_cons (pe_op op_sub (pe_ix ix_tup (pv 5) pe_int (fun _ _ => rfl)) pe_int) pa_nil))) pa_nil))) (pa_cons (pe_callB (call_min2 rfl) (by rfl) T.n_min (by decide +kernel) (pa_cons pe_int (pa_cons (pe_ix ix_tup (pv 5) pe_int (fun _ _ => rfl)) pa_nil))) (pa_cons (pe_callB (call_min2 rfl) (by rfl) T.n_min (by decide +kernel) (pa_cons pe_int (pa_cons (pe_op op_add (pe_ix ix_tup (pv 5) pe_int (fun _ _ => rfl)) pe_int) pa_nil))) (pa_cons (pv 6) pa_nil))))))))
 (pss_cons (ps_for PassesOwn.never rfl (pi_list (pv 7)) (pg_name (i := 8) sc_law.nd rfl (Or.inl rfl)) (pss_one (ps_if (pt_cmpR op_ne (pe_callB (cr_reprA hgd hr.units) (by rfl) T.n_repr (by decide +kernel) (pa_cons (pe_fn F_law_asked (hr.mono (by decide)) rfl pass0 (pa_cons (pv 5) (pa_cons (pv 8) pa_nil))) pa_nil)) (pe_callB (cr_reprA hgd hr.units) (by rfl) T.n_repr (by decide +kernel) (pa_cons (pe_tup (pa_cons pe_str (pa_cons (pe_fn F_law_due (hr.mono (by decide)) rfl pass0 (pa_cons (pv 5) (pa_cons (pv 8) pa_nil))) pa_nil))) pa_nil)) (nomark _)) (pss_one (ps_ret pe_bl)) pss_nil)))
 (pss_one (ps_if (pt_not (pt_val (pe_fg F_law_refused_right hgd (hr.mono (by decide)) rfl pass0 (pa_cons (pv 2) (pa_cons (pv 5) (pa_cons (pv 6) pa_nil)))))) (pss_one (ps_ret pe_bl)) pss_nil))))))))))
 (pss_one (ps_ret pe_bl))), ?_⟩
    refine ⟨_, rfl, a, _, rfl, .inl hS, _, _, rfl, _, _, rfl, _, rfl, ?_, ?_, ?_⟩
    · split <;> split <;> omega
    · split <;> split <;> omega
    refine for_range (fun i σ H' => (∃ v1 v2 v3 v4 v5 v6 v7 v8 : Option V, σ = [some (.ref a), v1, v2, v3, v4, v5, v6, v7, v8]) ∧ SqL K H' a (ns.map V.int)) ?_ ?_ ?_
    · exact ⟨⟨none, none, none, none, none, none, none, none, rfl⟩, hS⟩
    · rintro i0 σ H0 hi ⟨⟨v1, v2, v3, v4, v5, v6, v7, v8, rfl⟩, hS0⟩
      have hi63 : i0 < 64 := by
        refine Nat.lt_of_lt_of_le hi ?_
        split <;> split <;> omega
      refine ⟨_, rfl, _, rfl, a, ns, _, rfl, hS0, by omega, by omega, fun z => ?_⟩
      refine ⟨z, rfl, fun p l hp hl => ?_⟩
      have s1 : Same H0 (upd H0 p (.lst l)) := Same.new hp
      have z1 : Pz (upd H0 p (.lst l)) p 90000 := Pz.upd hl
      generalize upd H0 p (.lst l) = H1 at s1 z1 ⊢
      -- bottom
      refine ⟨_, rfl, (by show 3 ≤ sizeLine; decide), fun q1 hq1 => ?_⟩
      generalize hX1 : upd H1 q1 _ = H2
      have e2 := of_gen hX1
      have s2 := same_gen hq1 hX1
      refine ⟨_, rfl, p, 3, 80000, rfl, by decide, by decide, (z1.same s2).mono (by decide), fun r1 l1 a1 b1 u1 => ?_⟩
      obtain ⟨m1, hm1, hat1⟩ := pickI (zs := [3, 25, 400]) a1 b1
      have m1b : 0 < m1 ∧ m1 ≤ 400 := by
        simp only [List.mem_cons, List.not_mem_nil, or_false] at hm1
        rcases hm1 with rfl | rfl | rfl <;> omega
      have z3 := Pz.upd (H := H2) (p := p) u1
      have e3 : upd H2 p (.lst l1) q1 = some (.lst [.int 3, .int 25, .int 400]) := by
        rw [upd_ne (z1.ne hq1)]
        exact e2
      have s3 : Same H0 (upd H2 p (.lst l1)) := Same.but (s1.trans s2) hp But.upd
      generalize upd H2 p (.lst l1) = H3 at z3 e3 s3 ⊢
      refine ⟨q1, _, _, _, rfl, rfl, SqL.of e3, hat1, p, m1, 79000, rfl, m1b.1, Nat.lt_of_le_of_lt (show m1.natAbs ≤ 400 by omega) (by decide), z3.mono (by decide), fun bt l2 a2 b2 u2 => ?_⟩
      have z4 := Pz.upd (H := H3) (p := p) u2
      have s4 : Same H0 (upd H3 p (.lst l2)) := Same.but s3 hp But.upd
      generalize upd H3 p (.lst l2) = H4 at z4 s4 ⊢
      refine ⟨_, _, rfl, rfl, ?_⟩
      -- top
      refine ⟨_, rfl, (by show 3 ≤ sizeLine; decide), fun q2 hq2 => ?_⟩
      generalize hX2 : upd H4 q2 _ = H5
      have e5 := of_gen hX2
      have s5 := same_gen hq2 hX2
      refine ⟨_, rfl, p, 3, 78000, rfl, by decide, by decide, (z4.same s5).mono (by decide), fun r3 l3 a3 b3 u3 => ?_⟩
      obtain ⟨m2, hm2, hat2⟩ := pickI (zs := [2, 30, 2000]) a3 b3
      have m2b : 0 < m2 ∧ m2 ≤ 2000 := by
        simp only [List.mem_cons, List.not_mem_nil, or_false] at hm2
        rcases hm2 with rfl | rfl | rfl <;> omega
      have z6 := Pz.upd (H := H5) (p := p) u3
      have e6 : upd H5 p (.lst l3) q2 = some (.lst [.int 2, .int 30, .int 2000]) := by
        rw [upd_ne (z4.ne hq2)]
        exact e5
      have s6 : Same H0 (upd H5 p (.lst l3)) := Same.but (s4.trans s5) hp But.upd
      generalize upd H5 p (.lst l3) = H6 at z6 e6 s6 ⊢
      refine ⟨q2, _, _, _, rfl, rfl, SqL.of e6, hat2, p, m2, 77000, rfl, m2b.1, Nat.lt_of_le_of_lt (show m2.natAbs ≤ 2000 by omega) (by decide), z6.mono (by decide), fun tp l4 a4 b4 u4 => ?_⟩
      have z7 := Pz.upd (H := H6) (p := p) u4
      have s7 : Same H0 (upd H6 p (.lst l4)) := Same.but s6 hp But.upd
      generalize upd H6 p (.lst l4) = H7 at z7 s7 ⊢
      refine ⟨_, rfl, p, 2, 76000, rfl, by decide, by decide, z7.mono (by decide), fun sg l5 a5 b5 u5 => ?_⟩
      have z8 := Pz.upd (H := H7) (p := p) u5
      have s8 : Same H0 (upd H7 p (.lst l5)) := Same.but s7 hp But.upd
      generalize upd H7 p (.lst l5) = H8 at z8 s8 ⊢
      have sg01 : sg = 0 ∨ sg = 1 := by omega
      have tpb : -2000 ≤ tp * (1 - 2 * sg) ∧ tp * (1 - 2 * sg) ≤ 2000 := by
        rcases sg01 with rfl | rfl <;> omega
      refine ⟨_, _, rfl, rfl, Bd.mul (by unfold Bd; decide) (by unfold Bd; omega), _, _, rfl, rfl, _, _, rfl, rfl, Bd.mul (by unfold Bd; omega) (by unfold Bd; omega), ?_⟩
      -- the fraction
      refine ⟨_, rfl, _, rfl, _, _, rfl, by decide, by decide, by omega, by omega, by omega, by omega, fun x t m H9 hc hm hmT ht1 ht2 s9 fx => ?_⟩
      have z9 := z8.same s9
      -- the bound
      refine ⟨_, rfl, p, 25, 75000, rfl, by decide, by decide, z9.mono (by decide), fun bd l6 a6 b6 u6 => ?_⟩
      have zA := Pz.upd (H := H9) (p := p) u6
      have xp : x ≠ p := fr_ne fx z9
      have fxA : FrT (upd H9 p (.lst l6)) x t m := by
        show upd H9 p (.lst l6) x = _
        rw [upd_ne xp]
        exact fx
      have sA : Same H0 (upd H9 p (.lst l6)) := Same.but (s8.trans s9) hp But.upd
      generalize upd H9 p (.lst l6) = HA at zA fxA sA ⊢
      refine ⟨_, _, rfl, rfl, ?_⟩
      -- the bounds
      refine ⟨_, rfl, _, rfl, x, _, _, _, rfl, rfl, SqT.of fxA, rfl, _, _, rfl, rfl, _, _, rfl, _, _, rfl, _, rfl, x, _, _, _, rfl, rfl, SqT.of fxA, rfl, _, _, rfl, _, rfl, x, _, _, _, rfl, rfl, SqT.of fxA, rfl, _, _, rfl, rfl, _, _, rfl, _, rfl, (by show 6 ≤ sizeLine; decide), fun L hL => ?_⟩
      generalize hXL : upd HA L _ = HB
      have eL := of_gen hXL
      have sL := same_gen hL hXL
      obtain ⟨xs, eX, hX⟩ : ∃ xs, HB L = some (.lst xs) ∧ ∀ y ∈ xs, ∃ z, y = V.int z ∧ 1 ≤ z ∧ z ≤ 25 := by
        refine ⟨_, eL, ?_⟩
        intro y hy
        simp only [List.mem_cons, List.not_mem_nil, or_false] at hy
        rcases hy with rfl | rfl | rfl | rfl | rfl | rfl
        · exact ⟨_, rfl, by omega, by omega⟩
        · exact ⟨_, rfl, by omega, by omega⟩
        · exact ⟨_, rfl, by (repeat' split) <;> omega, by (repeat' split) <;> omega⟩
        · exact ⟨_, rfl, by (repeat' split) <;> omega, by (repeat' split) <;> omega⟩
        · exact ⟨_, rfl, by (repeat' split) <;> omega, by (repeat' split) <;> omega⟩
        · exact ⟨_, rfl, by omega, by omega⟩
      have fxB := sL _ _ fxA
      refine ⟨_, rfl, L, rfl, ⟨_, SqL.of eX⟩, ?_⟩
      refine for_list (K := K) (a := L) (xs := xs) (fun j σ H' => (∃ w8, σ = [some (.ref a), some (.int (0 + (i0 : Int))), some (.ref p), some (.int (1 + bt)), some (.int (tp * (1 - 2 * sg))), some (.ref x), some (.int (1 + bd)), some (.ref L), w8]) ∧ Same HB H')
        ⟨⟨_, rfl⟩, Same.refl _⟩ (fun j σ H' _ h => h.2.seq (SqL.of eX)) ?_ ?_
      · rintro j y σ HC hy ⟨⟨w8, rfl⟩, sC⟩
        obtain ⟨z', rfl, y1, y2⟩ := hX y (List.mem_of_getElem? hy)
        have fxC := sC _ _ fxB
        refine ⟨_, rfl, _, rfl, rfl, .inr (.inr ⟨x, t, m, z', rfl, fxC, hc, y1, hm, (by unfold Sm; omega), (by unfold Sm; omega), fun a' b' c' d' q r s y' H2 nx sD fq fr pr hy' => ?_⟩)⟩
        obtain ⟨k1, k2, k3⟩ := nbx_small nx hm hmT ht1 ht2 (by omega)
        obtain ⟨dd, hD⟩ : ∃ dd, toldD a' b' c' d' = dd := ⟨_, rfl⟩
        rw [hD] at k1 k2 k3
        have dp1 : Dp K H2 (.ref y') dd := hD ▸ told_dp hy' pr fq fr
        refine ⟨_, dd, rfl, .inl dp1, k1, k2, k3, ?_⟩
        refine ⟨_, rfl, _, rfl, x, t, m, z', a', b', c', d', rfl, sD _ _ fxC, hc, hm, hmT, ht1, ht2, y1, by omega, nx, fun q' r' s' H3' sE fq' fr' pr' => ?_⟩
        refine ⟨(by show 2 ≤ sizeLine; decide), fun yy hyy => ?_⟩
        generalize hXY : upd H3' yy _ = HF
        have eY := of_gen hXY
        have sF := same_gen hyy hXY
        have dp2 : Dp K HF (.ref yy) dd := hD ▸ told_dp eY (sF _ _ pr') (sF _ _ fq') (sF _ _ fr')
        refine ⟨_, dd, rfl, .inl dp2, k1, k2, k3, rfl, _, rfl, ?_⟩
        refine iteNS rfl ?_
        exact ⟨⟨_, rfl⟩, ((sC.trans sD).trans sE).trans sF⟩
      · rintro σ HC ⟨⟨w8, rfl⟩, sC⟩
        have zC := (zA.same sL).same sC
        refine ⟨_, rfl, _, rfl, _, rfl, p, x, t, m, 1 + bd, 70000, rfl, zC.mono (by decide), sC _ _ fxB, hc, hm, fun HD cD zD => ⟨_, rfl, ?_⟩⟩
        refine iteF ?_
        exact ⟨⟨_, _, _, _, _, _, _, _, rfl⟩, (Same.but ((sA.trans sL).trans sC) hp cD).seq hS0⟩
    · rintro σ H' ⟨⟨v1, v2, v3, v4, v5, v6, v7, v8, rfl⟩, hS'⟩
      exact k _
end
theorem all_mk {P : Program} {w : World} {K : PySem.W.Frag} {h : Heap} {mg : Str → Option Value} {fa : Addr} (X : K.In h) (G : h.Ns mainGlobals mg) (hfa : mg "law" = some (.ref fa))
    (h_v_ve : PySem.W.findCls K (.type "ValueError") (.type "type") "__init__" = some (.val (.builtin "ValueError.__init__")))
    (h_n_ValueError : PySem.W.nsIn K mainGlobals "ValueError" = some none)
    (h_x_TermError : XtIn K "TermError" "TermError.__init__" m_TermError)
    (h_x_NoFraction : XeIn K "NoFraction" "found" "NoFraction.__init__" m_NoFraction)
    (h_x_NoNumber : XeIn K "NoNumber" "found" "NoNumber.__init__" m_NoNumber)
    (h_p_NoFraction_NoFraction : PairIn K "NoFraction" "NoFraction" true)
    (h_p_NoNumber_NoFraction : PairIn K "NoNumber" "NoFraction" false)
    (h_p_NoNumber_NoNumber : PairIn K "NoNumber" "NoNumber" true)
    (h_d_is_number : DefIn K "is_number" s_is_number)
    (h_d_is_pair : DefIn K "is_pair" s_is_pair)
    (h_d_is_fraction : DefIn K "is_fraction" s_is_fraction)
    (h_d_need_fractions : DefIn K "need_fractions" s_need_fractions)
    (h_d_neighbours : DefIn K "neighbours" s_neighbours)
    (h_d_strict_neighbours : DefIn K "strict_neighbours" s_strict_neighbours)
    (h_d_law_cell : DefIn K "_law_cell" s_law_cell)
    (h_d_law_purse : DefIn K "_law_purse" s_law_purse)
    (h_d_law_take : DefIn K "_law_take" s_law_take)
    (h_d_law_common : DefIn K "_law_common" s_law_common)
    (h_d_law_made : DefIn K "_law_made" s_law_made)
    (h_d_law_due : DefIn K "_law_due" s_law_due)
    (h_d_law_asked : DefIn K "_law_asked" s_law_asked)
    (h_d_law_refused_right : DefIn K "_law_refused_right" s_law_refused_right)
    (h_d_law : DefIn K "law" s_law)
    (h_n_isinstance : PySem.W.nsIn K mainGlobals "isinstance" = some none)
    (h_n_int : PySem.W.nsIn K mainGlobals "int" = some none)
    (h_n_bool : PySem.W.nsIn K mainGlobals "bool" = some none)
    (h_n_tuple : PySem.W.nsIn K mainGlobals "tuple" = some none)
    (h_n_len : PySem.W.nsIn K mainGlobals "len" = some none)
    (h_g_gcd : PySem.W.nsIn K mainGlobals "gcd" = some (some (.builtin "math.gcd")))
    (h_n_min : PySem.W.nsIn K mainGlobals "min" = some none)
    (h_n_max : PySem.W.nsIn K mainGlobals "max" = some none)
    (h_n_abs : PySem.W.nsIn K mainGlobals "abs" = some none)
    (h_n_range : PySem.W.nsIn K mainGlobals "range" = some none)
    (h_n_list : PySem.W.nsIn K mainGlobals "list" = some none)
    (h_n_repr : PySem.W.nsIn K mainGlobals "repr" = some none) :
    ∃ fd : FuncData, (∀ (s : Shared) (u : Value), BindsTo s fd ⟨[u], []⟩ [("_law_script", u)]) ∧ ∀ base : Heap, K.In base → base.Ns mainGlobals mg → FnG P w K mg base CX0 8 fa fd ["_law_script"] (spLaw K) := by
  have T : Txt K mg := ⟨h_v_ve, (PySem.W.mg_none_of X G h_n_ValueError), (h_x_TermError.at X G), (h_x_NoFraction.at X G), (h_x_NoNumber.at X G), h_p_NoFraction_NoFraction, h_p_NoNumber_NoFraction, h_p_NoNumber_NoNumber, (h_d_is_number.at X G), (h_d_is_pair.at X G), (h_d_is_fraction.at X G), (h_d_need_fractions.at X G), (h_d_neighbours.at X G), (h_d_strict_neighbours.at X G), (h_d_law_cell.at X G), (h_d_law_purse.at X G), (h_d_law_take.at X G), (h_d_law_common.at X G), (h_d_law_made.at X G), (h_d_law_due.at X G), (h_d_law_asked.at X G), (h_d_law_refused_right.at X G), (h_d_law.at X G), (PySem.W.mg_none_of X G h_n_isinstance), (PySem.W.mg_none_of X G h_n_int), (PySem.W.mg_none_of X G h_n_bool), (PySem.W.mg_none_of X G h_n_tuple), (PySem.W.mg_none_of X G h_n_len), (PySem.W.mg_of X G h_g_gcd), (PySem.W.mg_none_of X G h_n_min), (PySem.W.mg_none_of X G h_n_max), (PySem.W.mg_none_of X G h_n_abs), (PySem.W.mg_none_of X G h_n_range), (PySem.W.mg_none_of X G h_n_list), (PySem.W.mg_none_of X G h_n_repr)⟩
  exact law_end X G hfa h_d_law (fun _ _ _ _ _ _ _ => rfl) fun f fd base F => ok_law T F
end My
open PySem PySem.W PyProof.Rows
set_option maxRecDepth 100000 in
set_option maxHeartbeats 0 in
theorem PySem.Challenge.cw_termstream_k14_neighbours_told_holds : PySem.Challenge.rw_termstream_k14_neighbours_told.Holds := by
  w_on; o_law; k_head; (case hw => w_witness2)
  k_fill
  refine Vg.walk_ofG (l := PySem.Challenge.rw_termstream_k14_neighbours_told) (n := 63) (k := 8) (x := "_law_script") (K := _) (sp := fun w => Vg.spLaw _) rfl (by decide) rfl ⟨rfl, by decide, by decide⟩ (fun w h Y => PySem.W.kIn_of Y) ?F (fun w H a ns hl hS => ⟨a, ns, rfl, hS, hl, fun _ => rfl⟩)
  case F =>
    intro w mg fa h KX G hmg
    refine' My.all_mk KX G hmg ?v_ve ?n_ValueError ?x_TermError ?x_NoFraction ?x_NoNumber ?p_NoFraction_NoFraction ?p_NoNumber_NoFraction ?p_NoNumber_NoNumber ?d_is_number ?d_is_pair ?d_is_fraction ?d_need_fractions ?d_neighbours ?d_strict_neighbours ?d_law_cell ?d_law_purse ?d_law_take ?d_law_common ?d_law_made ?d_law_due ?d_law_asked ?d_law_refused_right ?d_law ?n_isinstance ?n_int ?n_bool ?n_tuple ?n_len ?g_gcd ?n_min ?n_max ?n_abs ?n_range ?n_list ?n_repr
    case v_ve => k_is
    case n_ValueError => k_is
    case x_TermError => (refine' Vg.XtIn.by ?a ?ga ?rd ?fc ?kp ?l ?c; (case a => k_is); (case ga => k_is); (case rd => k_is); (case fc => k_is); (case kp => k_is); (case l => k_is); (case c => k_is))
    case x_NoFraction => (refine' Vg.XeIn.by ?a (Vg.oex_by ?xl ?xb ?sa ?exC ?tyC ?kC) ?hg ?hk ?hd ?ha ?hn ?ht ?hm ?no ?iC ?tI ?l ?c ?kp; (case a => k_is); (case xl => k_is); (case xb => decide +kernel); (case sa => k_is); (case exC => k_is); (case tyC => k_is); (case kC => k_is); (case hg => k_is); (case hk => k_is); (case hd => k_is); (case ha => k_is); (case hn => k_is); (case ht => k_is); (case hm => k_is); (case no => k_is); (case iC => k_is); (case tI => k_is); (case l => k_is); (case c => k_is); (case kp => k_is))
    case x_NoNumber => (refine' Vg.XeIn.by ?a (Vg.oex_by ?xl ?xb ?sa ?exC ?tyC ?kC) ?hg ?hk ?hd ?ha ?hn ?ht ?hm ?no ?iC ?tI ?l ?c ?kp; (case a => k_is); (case xl => k_is); (case xb => decide +kernel); (case sa => k_is); (case exC => k_is); (case tyC => k_is); (case kC => k_is); (case hg => k_is); (case hk => k_is); (case hd => k_is); (case ha => k_is); (case hn => k_is); (case ht => k_is); (case hm => k_is); (case no => k_is); (case iC => k_is); (case tI => k_is); (case l => k_is); (case c => k_is); (case kp => k_is))
    case p_NoFraction_NoFraction => (refine' Vg.PairIn.by ?h1 ?h2 ?h3 ?h4; (case h1 => k_is); (case h2 => k_is); (case h3 => kit_is); (case h4 => kts_exm))
    case p_NoNumber_NoFraction => (refine' Vg.PairIn.by ?h1 ?h2 ?h3 ?h4; (case h1 => k_is); (case h2 => k_is); (case h3 => kit_is); (case h4 => kts_exm))
    case p_NoNumber_NoNumber => (refine' Vg.PairIn.by ?h1 ?h2 ?h3 ?h4; (case h1 => k_is); (case h2 => k_is); (case h3 => kit_is); (case h4 => kts_exm))
    case d_is_number => (refine' Vg.DefIn.by ?a ?l ?c ?k; (case a => k_is); (case l => k_is); (case c => k_is); (case k => k_is))
    case d_is_pair => (refine' Vg.DefIn.by ?a ?l ?c ?k; (case a => k_is); (case l => k_is); (case c => k_is); (case k => k_is))
    case d_is_fraction => (refine' Vg.DefIn.by ?a ?l ?c ?k; (case a => k_is); (case l => k_is); (case c => k_is); (case k => k_is))
    case d_need_fractions => (refine' Vg.DefIn.by ?a ?l ?c ?k; (case a => k_is); (case l => k_is); (case c => k_is); (case k => k_is))
    case d_neighbours => (refine' Vg.DefIn.by ?a ?l ?c ?k; (case a => k_is); (case l => k_is); (case c => k_is); (case k => k_is))
    case d_strict_neighbours => (refine' Vg.DefIn.by ?a ?l ?c ?k; (case a => k_is); (case l => k_is); (case c => k_is); (case k => k_is))
    case d_law_cell => (refine' Vg.DefIn.by ?a ?l ?c ?k; (case a => k_is); (case l => k_is); (case c => k_is); (case k => k_is))
    case d_law_purse => (refine' Vg.DefIn.by ?a ?l ?c ?k; (case a => k_is); (case l => k_is); (case c => k_is); (case k => k_is))
    case d_law_take => (refine' Vg.DefIn.by ?a ?l ?c ?k; (case a => k_is); (case l => k_is); (case c => k_is); (case k => k_is))
    case d_law_common => (refine' Vg.DefIn.by ?a ?l ?c ?k; (case a => k_is); (case l => k_is); (case c => k_is); (case k => k_is))
    case d_law_made => (refine' Vg.DefIn.by ?a ?l ?c ?k; (case a => k_is); (case l => k_is); (case c => k_is); (case k => k_is))
    case d_law_due => (refine' Vg.DefIn.by ?a ?l ?c ?k; (case a => k_is); (case l => k_is); (case c => k_is); (case k => k_is))
    case d_law_asked => (refine' Vg.DefIn.by ?a ?l ?c ?k; (case a => k_is); (case l => k_is); (case c => k_is); (case k => k_is))
    case d_law_refused_right => (refine' Vg.DefIn.by ?a ?l ?c ?k; (case a => k_is); (case l => k_is); (case c => k_is); (case k => k_is))
    case d_law => (refine' Vg.DefIn.by ?a ?l ?c ?k; (case a => k_is); (case l => k_is); (case c => k_is); (case k => k_is))
    case n_isinstance => k_is
    case n_int => k_is
    case n_bool => k_is
    case n_tuple => k_is
    case n_len => k_is
    case g_gcd => k_is
    case n_min => k_is
    case n_max => k_is
    case n_abs => k_is
    case n_range => k_is
    case n_list => k_is
    case n_repr => k_is
