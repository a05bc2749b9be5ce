import PyProof.Rows.All
import Wide.All
import OpenK.AllK
import Wide.FinOn
import HandS.Base
import HandS.Call
import HandS.List
import HandS.Ends
import HandS.Words
import HandS.Comp
import HandS.Dict
import HandS.Iter
import HandS.Text
import HandS.WordsList
import HandS.WordsDict
import HandS.IsInst
import HandS.Wide
import HandS.Strs
import HandS.StrMore
import HandS.Gcd
import HandS.Walk
import HandS.Star
import PySem.Challenge.RW_termstream_k15_whole_neighbours
set_option Elab.async false
set_option linter.all false
set_option maxRecDepth 100000
set_option maxHeartbeats 4000000
namespace Vg
open PySem PySem.Spec PyProof.Rows L2
/-- the same promise as the layer's, for calls within which no text of a list is being made -/
structure FnG (P : Program) (w : World) (K : PySem.W.Frag) (mg : Str → Option Value) (base : Heap) (CX : CXT)
    (k : Nat) (f : Addr) (fd : FuncData) (ps : List Str) (sp : Sp) : Prop where
  len : ∀ vs H Q E, sp vs H Q E → vs.length = ps.length
  run : ∀ (A : Around) (outer : List Env) (s : Shared) (H : Hp) (args : Args) (us : List Value) (vs : List V) (Q : VK) (E : XK),
    A.guards = some [] → Room k A → Env0 P w K mg base A outer s H → BindsTo s fd args (ps.zip us) → Vals vs us → sp vs H Q E →
      codeAny (model P w) A (.call (.ref f) args) (CR CX outer P w H s Q E) s
section
variable {P : Program} {w : World} {K : PySem.W.Frag} {mg : Str → Option Value} {base : Heap} {CX : CXT}
  {k : Nat} {f : Addr} {fd : FuncData} {ps : List Str} {sp : Sp}
theorem FnG.of (F : FnOk P w K mg base CX k f fd ps sp) : FnG P w K mg base CX k f fd ps sp :=
  ⟨F.len, fun A outer s H args us vs Q E _ hr e0 hb r h =>
    F.run A outer s H args us vs Q E hr e0 hb r h⟩
theorem deeper_guards (A : Around) (env : Env) : (A.deeper env).guards = A.guards := rfl
/-- a def by its body, where the guards are known -/
theorem fng_of {name qual : Str} {params : Arguments} {body : List Stmt} {scope : Scope} {dV kV doc pm cdv ct oc : Value} {an od : Option Addr}
    {osl : Array (Option Value)} {N : List Str}
    (lk : K.lookup f = some ⟨oc, od, .func (PySem.W.fnOf name qual params body scope dV kV doc pm an cdv ct), osl⟩)
    (hcd : PySem.W.codeIn K cdv qual = true) (S : FnScope N ps scope)
    (len : ∀ vs H Q E, sp vs H Q E → vs.length = ps.length)
    (hbody : ∀ (A : Around) (outer : List Env) (s : Shared) (H : Hp) (vs : List V) (Q : VK) (E : XK),
      (cxOf CX P w K mg base N qual scope f cdv A outer s H E).A.guards = some [] →
      Room k (A.deeper (envOfC qual scope s.heap.objs.size f cdv)) → sp vs H Q E →
      ∃ t, PSs (cxOf CX P w K mg base N qual scope f cdv A outer s H E) body t ∧
        t { nx := fun _ H' => Q .non H', rt := Q } (start N vs) H) :
    FnG P w K mg base CX (k + 1) f (PySem.W.fnOf name qual params body scope dV kV doc pm an cdv ct) ps sp := by
  refine ⟨len, fun A outer s H args us vs Q E hg hr e0 hb r hsp => ?_⟩
  have hl := len _ _ _ _ hsp
  have inK : K.In s.heap := e0.mod.kin.keeps fun b o e => (e0.bs b o e).1
  have noLim : s.heap.NoLimit := e0.mod.nolimit.keeps fun b o e => (e0.bs b o e).1
  have kinds : ∀ y ∈ ps.zip us, scope.names.lookup y.1 = some .local ∨
      (scope.names.lookup y.1 = some .cell ∧ ((cellsFrom (s.heap.objs.size + 1) scope.names []).lookup y.1).isSome = true) := by
    rintro ⟨n, v⟩ hy
    have hn : n ∈ ps := (List.of_mem_zip hy).1
    cases S.par n hn with
    | inl q => exact Or.inl q
    | inr q => exact Or.inr (And.intro q (PySem.W.cellsFrom_some _ _ _ (Or.inl q)))
  refine codeAny_call_function hr.depth (inK _ _ lk) rfl S.co S.gen rfl (PySem.W.codeRec_of inK hcd) (hb _ _ _ _ ?_)
  refine wpAny_newFunctionEnv_cells S.kind kinds fun env he s1 x => ?_
  subst he
  refine ⟨noLim.keeps x.toInCall.keep, codeAny_func ?_⟩
  obtain ⟨t, ht, hq⟩ := hbody A outer s H vs Q E hg (hr.deeper _) hsp
  have I := inv_start (CX := CX) (P := P) (w := w) (K := K) (mg := mg) (base := base) (E := E) S hr.hd e0 hl r x
  refine wpAny_mono (ht.run [] s1 (start N vs) H _ I hq) (fun fl s' hs => ?_) fun e s' hs => hs
  match fl, hs with
  | .ret u, ⟨v, σ', H', J, rv, q⟩ => exact ⟨v, H', J.os, J.bare, J.base, J.hok, rv, q⟩
  | .next, ⟨σ', H', J, q⟩ => exact ⟨V.non, H', J.os, J.bare, J.base, J.hok, rfl, q⟩
  | .brk, ⟨_, _, _, q⟩ => exact q.elim
  | .cont, ⟨_, _, _, q⟩ => exact q.elim
end
section
variable {X : Cx} {CX : CXT} {k : Nat} {f : Addr} {fd : FuncData} {ps : List Str} {sp : Sp} {dvs : List V} {ds : List Value}
  {E : XK} {x : Str} {p pos : Pos} {e : Expr} {es : List Expr} {t : TA}
theorem run_fng {pins : List (Addr × Obj)} {σ : L2.St} {H : Hp} {s : Shared} {Q : VK} {us : List Value} {vs : List V}
    (F : FnG X.prog X.w X.K X.mg X.base CX k f fd ps sp) (hg : X.A.guards = some []) (hr : Room k X.A) (hb : Binds X.K fd ps ds) (hd : Vals dvs ds)
    (hx : Passes CX X E) (I : Inv X pins σ H s) (r : Vals vs us) (h : sp (vs ++ dvs) H Q E) :
    wpAny (model X.prog X.w) X.A (call (.ref f) us) (EP X pins σ Q) X.xe s := by
  have both : Vals (vs ++ dvs) (us ++ ds) := r.append hd
  have hl : (us ++ ds).length = ps.length := both.length ▸ F.len _ _ _ _ h
  have C := F.run X.A X.stack s H ⟨us, []⟩ (us ++ ds) (vs ++ dvs) Q E hg hr I.env0 (hb s us I.kIn hl) both h
  refine wpAny_call (codeAny_mono C fun r s' hq => ?_)
  match r, hq with
  | .error e, hq => exact hx pins σ H s e s' I hq
  | .ok (.ret u), hq => exact I.after hq
  | .ok .next, hq => exact False.elim hq
  | .ok .brk, hq => exact False.elim hq
  | .ok .cont, hq => exact False.elim hq
/-- f(e, ..) of such a def -/
theorem pe_callG (F : FnG X.prog X.w X.K X.mg X.base CX k f fd ps sp) (hgd : X.A.guards = some []) (hr : Room k X.A) (hg : Gl X x)
    (hm : X.mg x = some (.ref f)) (hk : PySem.W.keepIn X.K (.ref f) = true) (hb : Binds X.K fd ps ds) (hd : Vals dvs ds) (hx : Passes CX X E)
    (ha : PA X (e :: es) t) (hdb : (x == ("__debug__" : Str)) = false := by decide)
    (he : starEach (e :: es) X.env = (false, eval e X.env) :: starEach es X.env := by rfl)
    (hpl : (backTo pos (starEach es X.env)).any (·.1) = false := by rfl) :
    PE X (.Call (.Name x p) (e :: es) [] pos) (tCall sp dvs E t) := by
  constructor
  intro pins s σ H Q I h
  apply wpAny_Call_Name_kw
  apply ld_glob I hg hm ?_ hdb
  refine PySem.W.callWith_K (h₀ := X.base) I.ok.mod.kin hk ?_ he hpl
  refine thn (ha.run pos pins s σ H _ I h) ?_
  rintro us s1 ⟨vs, H1, I1, r, q⟩
  exact ⟨I1.kIn, run_fng F hgd hr hb hd hx I1 r q⟩
end
section
variable {X : Cx}
theorem one_val {P : V → Value → Prop} {x : V} {us : List Value} (h : Paired P [x] us) : ∃ u, us = [u] ∧ P x u := by
  cases h with
  | cons a b => cases b; exact ⟨_, rfl, a⟩
mutual
theorem noDict {K : PySem.W.Frag} {H : Hp} : ∀ (d : PyData) (v : V), Dp K H v d → d.hasDict = false
  | .none, _, _ => by simp only [PyData.hasDict]
  | .bool _, _, _ => by simp only [PyData.hasDict]
  | .int _, _, _ => by simp only [PyData.hasDict]
  | .str _, _, _ => by simp only [PyData.hasDict]
  | .list ds, _, h => by
    cases h with
    | lst _ ha => simp only [PyData.hasDict]; exact noDictAll ds _ ha
  | .tuple ds, _, h => by
    cases h with
    | tup _ ha => simp only [PyData.hasDict]; exact noDictAll ds _ ha
  | .dict _, _, h => by cases h
theorem noDictAll {K : PySem.W.Frag} {H : Hp} : ∀ (ds : List PyData) (vs : List V), DpAll K H vs ds → PyData.hasDictAll ds = false
  | [], _, _ => by simp only [PyData.hasDictAll]
  | d :: ds, _, h => by
    cases h with
    | cons a b => simp only [PyData.hasDictAll, noDict d _ a, noDictAll ds _ b, Bool.or_self]
end
/-- repr(x) of data at any depth -/
theorem cr_repr (hg : X.A.guards = some []) (hu : X.A.units + 64 < cLine) :
    CallR X (.builtin "repr") (fun xs H Q => ∃ x d, xs = [x] ∧ Dp X.K H x d ∧ d.showable = true ∧ d.depth ≤ 50 ∧ d.shown.length ≤ sizeLine ∧ Q (.str d.shown) H) := by
  intro pins s σ H xs us Q I r h
  obtain ⟨x, d, rfl, hd, hs, hdep, hz, q⟩ := h
  obtain ⟨u, rfl, ru⟩ := one_val r
  have hn := noDict d x hd
  cases hd with
  | non =>
    cases ru
    exact PySem.P.repr_of_none ⟨.str _, H, I.tok _, ⟨_, rfl⟩, q⟩
  | bl b =>
    cases ru
    refine PySem.P.repr_of_bool ⟨.str _, H, I.tok _, ⟨_, rfl⟩, ?_⟩
    cases b <;> exact q
  | int i =>
    obtain ⟨t, rfl⟩ := ru
    refine PySem.P.repr_of_int ?_ ⟨.str _, H, I.tok _, ⟨_, rfl⟩, q⟩
    simpa [PyData.showable] using hs
  | str z =>
    obtain ⟨t, rfl⟩ := ru
    exact PySem.P.repr_of_str ⟨.str _, H, I.tok _, ⟨_, rfl⟩, q⟩ (hsz := hz)
  | lst hl ha =>
    cases ru
    obtain ⟨as, rd⟩ := Dp.reads I _ _ _ (Dp.lst hl ha) rfl
    exact repr_of_reads' rd hs (PyData.noDict_hsm hn) hg (by omega) (fun b o e => e) (fun h' u tk hk => ⟨.str _, H, I.kept hk, ⟨_, rfl⟩, q⟩) (hsz := hz)
  | tup hl ha =>
    cases ru
    obtain ⟨as, rd⟩ := Dp.reads I _ _ _ (Dp.tup hl ha) rfl
    exact repr_of_reads' rd hs (PyData.noDict_hsm hn) hg (by omega) (fun b o e => e) (fun h' u tk hk => ⟨.str _, H, I.kept hk, ⟨_, rfl⟩, q⟩) (hsz := hz)
end
/-- the law's call, by such a promise -/
theorem law_callG {P : Program} {w : World} {K : PySem.W.Frag} {mg mb : Str → Option Value} {k : Nat} {fa a : Addr}
    {fd : FuncData} {x : Str} {sp : Sp} {s1 : Shared} {vs : List Value} {ns : List Int}
    (inK : K.In s1.heap) (hns : s1.heap.Ns mainGlobals mg) (hb : s1.heap.Ns builtinsNs mb) (hbb : ∀ x : Str, x ≠ "__name__" → mb x = bootBuiltins x)
    (noLim : s1.heap.NoLimit) (hgen : s1.gens = #[])
    (ha : s1.heap.get? a = some { cls := .type "list", data := .seq vs.toArray }) (hi : IntsAre vs ns) (hl : ns.length ≤ sizeLine) (hr : Room k callerA)
    (F : ∀ base : Heap, K.In base → base.Ns mainGlobals mg → FnG P w K mg base CX0 k fa fd [x] sp)
    (hbind : ∀ (s : Shared) (u : Value), BindsTo s fd ⟨[u], []⟩ [(x, u)])
    (hsp : ∀ H : Hp, SqL K H a (ns.map V.int) → sp [.ref a] H (fun v _ => v = .bl true) fun _ _ _ => False) :
    codeAny (model P w) callerA (.call (.ref fa) ⟨[.ref a], []⟩)
      (fun r s' => r = .ok (.ret (.bool true)) ∧ OldK s1.heap s'.heap ∧ s'.os = s1.os ∧ AllBare s'.gens) s1 := by
  have rv := vals_ints hi
  have lenV := hi.length
  let scr : Obj := { cls := .type "list", data := .seq vs.toArray }
  have main : ∀ H : Hp, (∀ b, H b = none ∨ H b = some (.frz scr (.lst (ns.map V.int)))) → SqL K H a (ns.map V.int) → HOk P w H s1.heap →
      (∀ b, H b ≠ none → b = a) → (H a ≠ none → K.lookup a = none) →
      codeAny (model P w) callerA (.call (.ref fa) ⟨[.ref a], []⟩)
        (fun r s' => r = .ok (.ret (.bool true)) ∧ OldK s1.heap s'.heap ∧ s'.os = s1.os ∧ AllBare s'.gens) s1 := by
    intro H hO hS hok only notK
    have untracked : ∀ {b : Addr} {o : Obj} {es : Array DictEntry} {ep : Nat}, s1.heap.get? b = some o → o.data = .dict es ep → H b = none := by
      intro b o es ep e d
      refine Classical.byContradiction fun q => ?_
      have : b = a := only b q
      subst this
      rw [ha] at e
      cases e
      exact nomatch (show Data.seq vs.toArray _ = Data.dict es ep from d)
    have hide : ∀ {b : Addr} {o : Obj}, s1.heap.get? b = some o → H b = none → (hidT s1.heap H).get? b = some o := fun e n => hidT_get e n
    have nsHid : ∀ {b : Addr} {m : Str → Option Value}, s1.heap.Ns b m → (hidT s1.heap H).Ns b m := by
      rintro b m ⟨o, es, ep, e, d, r⟩
      exact ⟨o, es, ep, hide e (untracked e d), d, r⟩
    have kHid : K.In (hidT s1.heap H) := by
      intro b o e
      refine hide (inK b o e) (Classical.byContradiction fun q => ?_)
      have : b = a := only b q
      subst this
      rw [notK q] at e
      cases e
    obtain ⟨mc, lim1, lim2⟩ := noLim
    have hM : Mod K mg (hidT s1.heap H) := ⟨kHid, nsHid hns, ⟨mb, nsHid hb, hbb⟩, ⟨mc, nsHid lim1, lim2⟩⟩
    have e0 : Env0 P w K mg (hidT s1.heap H) callerA [] s1 H :=
      ⟨rfl, hM, fun b o e => of_hidT e, Nat.le_of_eq (hidT_size _ _), trivial, fun b hb => (nomatch (show b ∈ ([] : List Addr) from hb)), hok, AllBare.of_eq hgen⟩
    refine codeAny_mono ((F _ kHid (nsHid hns)).run callerA [] s1 H ⟨[.ref a], []⟩ [.ref a] [.ref a] _ _ rfl hr e0 (hbind s1 (.ref a)) (.cons rfl .nil) (hsp H hS)) fun r s' h => ?_
    match r, h with
    | .error e, h => exact h.elim
    | .ok .next, h => exact False.elim h
    | .ok .brk, h => exact False.elim h
    | .ok .cont, h => exact False.elim h
    | .ok (.ret u), ⟨v, H', os, bare, un, hok', r', q⟩ =>
      have q' : v = .bl true := q
      subst q'
      obtain rfl : u = Value.bool true := r'
      refine ⟨rfl, OldK.of_keep fun b o e => ?_, os, bare⟩
      rcases hO b with z | z
      · exact un.keep b o e z (by intro y; exact (nomatch (show b ∈ ([] : List Addr) from y))) (by simp)
      · have z2 := un.frzs b scr _ z
        obtain ⟨e1, _⟩ := hok b _ z
        obtain ⟨e2, _⟩ := hok' b _ z2
        rw [e] at e1
        cases e1
        exact e2
  have absent : (none : Option HO) ≠ none → False := fun z => z rfl
  match hk : K.lookup a with
  | some o =>
    have e := inK a o hk
    rw [ha] at e
    cases e
    exact main (fun _ => none) (fun _ => Or.inl rfl)
      (Or.inr ⟨_, vs.toArray, _, hk, rfl, rfl, rfl, by rw [List.size_toArray, lenV]; exact hl, by simpa using rv⟩)
      (fun b u z => nomatch (show (none : Option HO) = some u from z)) (fun b z => (absent z).elim) fun z => (absent z).elim
  | none =>
    refine main (fun b => if b = a then some (.frz scr (.lst (ns.map V.int))) else none) (fun b => ?_) (Or.inl (Or.inr ⟨scr, if_pos rfl⟩)) (fun b u z => ?_) (fun b z => ?_) fun _ => hk
    · by_cases hb : b = a
      · exact Or.inr (if_pos hb)
      · exact Or.inl (if_neg hb)
    · by_cases hb : b = a
      · have z' := (if_pos hb).symm.trans z
        cases z'
        subst hb
        exact ⟨ha, by rw [List.length_map]; exact hl, vs, _, rv, ha⟩
      · exact nomatch (if_neg hb).symm.trans z
    · by_cases hb : b = a
      · exact hb
      · exact absurd (if_neg hb) z
/-- what the head leaves, from such a promise of the law -/
theorem walk_ofG {l : PySem.W.OpenLaw} {n k : Nat} {q : Program} {loose : List Str} {XP : (Str → Option Value) → Heap → Prop} {YP : World → Heap → Prop}
    {d : DefRec} {K : Params → PySem.W.Frag} {sp : World → Sp} {x : Str}
    (hn : l.most = some n) (hn2 : n ≤ sizeLine) (hdf : d.params.defaults = []) (hr : Room k callerA)
    (hY : ∀ (w : World) (h : Heap), YP w h → (K w.params).In h)
    (F : ∀ (w : World) (mg : Str → Option Value) (fa : Addr) (h : Heap), (K w.params).In h → h.Ns mainGlobals mg → mg d.name = some (.ref fa) →
      ∃ fd : FuncData, (∀ (s : Shared) (u : Value), BindsTo s fd ⟨[u], []⟩ [(x, u)]) ∧
        ∀ base : Heap, (K w.params).In base → base.Ns mainGlobals mg → FnG l.prog w (K w.params) mg base CX0 k fa fd [x] (sp w))
    (hsp : ∀ (w : World) (H : Hp) (a : Addr) (ns : List Int), ns.length ≤ n → SqL (K w.params) H a (ns.map V.int) → sp w [.ref a] H (fun v _ => v = .bl true) fun _ _ _ => False) :
    PySem.W.WalkO q loose XP YP l.row.toRowW d [] (fun f vs => PySem.call f vs) := by
  refine Att.attach_call hn hdf ?_
  intro w s0 s1 mg mb fa o pm cd doc a vs ns G Y ho hd hcd hmg hobj hints hlen hgen
  have inK := hY w _ Y
  obtain ⟨fd, hb, hF⟩ := F w mg fa _ inK G.T.g hmg
  exact law_callG inK G.T.g G.T.b G.T.builtins G.T.nolimit hgen hobj hints (Nat.le_trans hlen hn2) hr hF hb fun H hS => hsp w H a ns hlen hS
end Vg
namespace Vg
open PySem PySem.Spec PyProof.Rows L2
/-- a def of the module, as its callers know it -/
structure Fn (P : Program) (w : World) (K : PySem.W.Frag) (mg : Str → Option Value) (base : Heap) (k : Nat) (x : Str) (ps : List Str) (sp : Sp) : Prop where
  ex : ∃ (f : Addr) (fd : FuncData), mg x = some (.ref f) ∧ PySem.W.keepIn K (.ref f) = true ∧ Binds K fd ps [] ∧ FnOk P w K mg base CX0 k f fd ps sp
/-- where a def of the module stands -/
structure At (K : PySem.W.Frag) (mg : Str → Option Value) (x : Str) (st : Stmt) : Prop where
  ex : ∃ (f : Addr) (fd : FuncData), mg x = some (.ref f) ∧ Fun K x x st f fd
section
variable {P : Program} {w : World} {K : PySem.W.Frag} {mg : Str → Option Value} {base : Heap} {k : Nat} {x : Str} {st : Stmt} {N ps : List Str} {sp : Sp}
/-- a def by its body -/
theorem At.fn (D : At K mg x st) (S : FnScope N ps (defScope st))
    (hb : ∀ (kV doc pm : Value) (an : Option Addr) (cdv ct : Value) (us : List Value), us.length = ps.length →
      bindArgs (PySem.W.fnOf x x (defArgs st) (defBody st) (defScope st) .none kV doc pm an cdv ct) ⟨us, []⟩ = pure (ps.zip us))
    (len : ∀ vs H Q E, sp vs H Q E → vs.length = ps.length)
    (body : ∀ (f : Addr) (cdv : Value) (A : Around) (outer : List Env) (s : Shared) (H : Hp) (vs : List V) (Q : VK) (E : XK),
      Room k (A.deeper (envOfC x (defScope st) s.heap.objs.size f cdv)) → sp vs H Q E →
      ∃ t, PSs (cxOf CX0 P w K mg base N x (defScope st) f cdv A outer s H E).nox (defBody st) t ∧ t { nx := fun _ H' => Q .non H', rt := Q } (start N vs) H) :
    Fn P w K mg base (k + 1) x ps sp := by
  obtain ⟨f, fd, hm, F⟩ := D.ex
  exact ⟨f, fd, hm, F.kp, F.binds hb, F.ok S len fun cdv A outer s H vs Q E hr h => body f cdv A outer s H vs Q E hr h⟩
end
section
variable {X : Cx} {k : Nat} {ps : List Str} {sp : Sp} {E : XK} {x : Str} {p pos : Pos} {e : Expr} {es : List Expr} {t : TA}
theorem pe_fn (F : Fn X.prog X.w X.K X.mg X.base k x ps sp) (hr : Room k X.A) (hg : Gl X x) (hx : Passes CX0 X E) (ha : PA X (e :: es) t)
    (hdb : (x == ("__debug__" : Str)) = false := by decide) (he : starEach (e :: es) X.env = (false, eval e X.env) :: starEach es X.env := by rfl)
    (hpl : (backTo pos (starEach es X.env)).any (·.1) = false := by rfl) : PE X (.Call (.Name x p) (e :: es) [] pos) (tCall sp [] E t) := by
  obtain ⟨f, fd, hm, hk, hb, F⟩ := F.ex
  exact pe_call F hr hg hm hk hb .nil hx ha hdb he hpl
end
/-- the built-in class of a value -/
inductive Tn (K : PySem.W.Frag) (H : Hp) : V → String → Prop
  | non : Tn K H .non "NoneType"
  | bl (b : Bool) : Tn K H (.bl b) "bool"
  | int (i : Int) : Tn K H (.int i) "int"
  | str (z : Str) : Tn K H (.str z) "str"
  | lst {a : Addr} {xs : List V} (h : H a = some (.lst xs)) : Tn K H (.ref a) "list"
  | tup {a : Addr} {xs : List V} (h : H a = some (.tup xs)) : Tn K H (.ref a) "tuple"
  | dct {a : Addr} {kvs : List (Key × V)} (h : H a = some (.dK kvs)) : Tn K H (.ref a) "dict"
theorem Tn.tyx {K : PySem.W.Frag} {H : Hp} {v : V} {n : String} (h : Tn K H v n) : TyX K H v (.type n) := by
  cases h with
  | non => exact .base .non
  | bl b => exact .base (.bl b)
  | int i => exact .base (.int i)
  | str z => exact .base (.str z)
  | lst h => exact .base (.lst h)
  | tup h => exact .base (.tup h)
  | dct h => exact .base (.dK h)
section
variable {X : Cx}
theorem cr_isi : CallR X (.builtin "isinstance") (fun xs H Q => ∃ x n c b, xs = [x, .ty c] ∧ Tn X.K H x n ∧ kitB n c = some b ∧ Q (.bl b) H) := by
  intro pins s σ H xs us Q I r h
  obtain ⟨x, n, c, b, rfl, ht, hk, q⟩ := h
  exact call_isi pins s σ H _ us Q I r ⟨x, .ty c, .type n, .type c, b, rfl, .ty c, ht.tyx, kit_ty hk, q⟩
end
end Vg
namespace Vg
open PySem PySem.Spec PyProof.Rows L2
/-- what a purse's list holds, with n draws left at least -/
def Pu (l : List V) (n : Nat) : Prop :=
  ∃ a b c : Int, l = [.int a, .int b, .int c] ∧ 0 ≤ a ∧ 0 ≤ b ∧ b < 2147483629 ∧ 0 ≤ c ∧ c + n ≤ 100000
def Pz (H : Hp) (p : Addr) (n : Nat) : Prop := ∃ l, H p = some (.lst l) ∧ Pu l n
theorem Pz.mono {H : Hp} {p : Addr} {n m : Nat} (h : Pz H p n) (hm : m ≤ n) : Pz H p m := by
  obtain ⟨l, h1, a, b, c, h2, h3, h4, h5, h6, h7⟩ := h
  exact ⟨l, h1, a, b, c, h2, h3, h4, h5, h6, by omega⟩
theorem Pz.upd {H : Hp} {p : Addr} {n : Nat} {l : List V} (h : Pu l n) : Pz (upd H p (.lst l)) p n := ⟨l, upd_same, h⟩
theorem Pz.same {H H' : Hp} {p : Addr} {n : Nat} (h : Pz H p n) (s : Same H H') : Pz H' p n := by
  obtain ⟨l, h1, h2⟩ := h
  exact ⟨l, s _ _ h1, h2⟩
/-- all but the object at p is as it was -/
def But (p : Addr) (H H' : Hp) : Prop := ∀ b o, b ≠ p → H b = some o → H' b = some o
theorem But.refl (p : Addr) (H : Hp) : But p H H := fun _ _ _ h => h
theorem But.trans {p : Addr} {H H1 H2 : Hp} (a : But p H H1) (b : But p H1 H2) : But p H H2 := fun c o n h => b c o n (a c o n h)
theorem But.of {p : Addr} {H H' : Hp} (s : Same H H') : But p H H' := fun b o _ h => s b o h
theorem But.upd {p : Addr} {H : Hp} {o : HO} : But p H (upd H p o) := fun b u n h => by rw [upd_ne n]; exact h
theorem But.new {p q : Addr} {H : Hp} {o : HO} (h : H q = none) : But p H (L2.upd H q o) := fun b u n e => by rw [upd_ne (ne_of_none e h)]; exact e
theorem Same.new {q : Addr} {H : Hp} {o : HO} (h : H q = none) : Same H (L2.upd H q o) := fun b u e => by rw [upd_ne (ne_of_none e h)]; exact e
theorem But.free {p q : Addr} {H H' : Hp} (s : But p H H') (h : H' q = none) (n : q ≠ p) : H q = none := by
  cases e : H q with
  | none => rfl
  | some o => rw [s q o n e] at h; cases h
/-- one draw -/
def spTake : Sp := fun vs H Q _ => ∃ (p : Addr) (m : Int) (n : Nat), vs = [.ref p, .int m] ∧ 0 < m ∧ m.natAbs < 2 ^ 200 ∧ Pz H p (n + 1) ∧
  ∀ (r : Int) (l : List V), 0 ≤ r → r < m → Pu l n → Q (.int r) (upd H p (.lst l))
theorem take_pow {i : Int} {e : Int} (h0 : 0 ≤ i) (h : i < 18446744073709551616) (he : 0 ≤ e) (he2 : e ≤ 1000000) : 0 ≤ e ∧ e ≤ 1000000 ∧ i.natAbs < 2 ^ 64 := ⟨he, he2, by omega⟩
end Vg
namespace Vg
open PySem PySem.Spec PyProof.Rows L2
/-- a cell of the script, whatever it holds -/
def spCell (K : PySem.W.Frag) : Sp := fun vs H Q _ => ∃ (a : Addr) (ns : List Int) (k : Int), vs = [.ref a, .int k] ∧ SqL K H a (ns.map V.int) ∧ 0 ≤ k ∧ k < 1000000 ∧
  ∀ z : Int, Q (.int z) H
/-- a new purse -/
def spPurse : Sp := fun vs H Q _ => ∃ z : Int, vs = [.int z] ∧ ∀ (p : Addr) (l : List V), H p = none → Pu l 90000 → Q (.ref p) (upd H p (.lst l))
/-- the greatest number that divides both -/
def gcdI (a b : Int) : Int := ((Nat.gcd a.natAbs b.natAbs : Nat) : Int)
def spCommon : Sp := fun vs H Q _ => ∃ a b : Int, vs = [.int a, .int b] ∧ Q (.int (gcdI a b)) H
theorem gcd_step {a b : Int} (ha : 0 ≤ a) (hb : 0 < b) : gcdI b (a % b) = gcdI a b := by
  unfold gcdI
  have e : (a % b).natAbs = a.natAbs % b.natAbs := by
    have h1 : (a % b) = ((a.natAbs % b.natAbs : Nat) : Int) := by
      rw [Int.natCast_emod, Int.natAbs_of_nonneg ha, Int.natAbs_of_nonneg (Int.le_of_lt hb)]
    rw [h1]; rfl
  rw [e, Nat.gcd_comm b.natAbs, ← Nat.gcd_rec, Nat.gcd_comm]
theorem gcd_abs (a b : Int) : gcdI (if a < 0 then -a else a) (if b < 0 then -b else b) = gcdI a b := by
  unfold gcdI
  have h : ∀ z : Int, (if z < 0 then -z else z).natAbs = z.natAbs := fun z => by split <;> simp
  rw [h, h]
theorem gcd_zero {a : Int} (ha : 0 ≤ a) : gcdI a 0 = a := by
  unfold gcdI
  simp [Int.natAbs_of_nonneg ha]
/-- whether a value is a whole number -/
def isNum : V → Bool
  | .int _ => true
  | _ => false
def spNum (K : PySem.W.Frag) : Sp := fun vs H Q _ => ∃ (v : V) (n : String), vs = [v] ∧ Tn K H v n ∧ Q (.bl (isNum v)) H
theorem kit_int {K : PySem.W.Frag} {H : Hp} {v : V} {n : String} (h : Tn K H v n) : ∃ b c, kitB n "int" = some b ∧ (b = true → kitB n "bool" = some c) ∧ (b && !c) = isNum v := by
  cases h with
  | non => exact ⟨false, false, by decide +kernel, fun z => Bool.noConfusion z, rfl⟩
  | bl b => exact ⟨true, true, by decide +kernel, fun _ => by decide +kernel, rfl⟩
  | int i => exact ⟨true, false, by decide +kernel, fun _ => by decide +kernel, rfl⟩
  | str z => exact ⟨false, false, by decide +kernel, fun z => Bool.noConfusion z, rfl⟩
  | lst h => exact ⟨false, false, by decide +kernel, fun z => Bool.noConfusion z, rfl⟩
  | tup h => exact ⟨false, false, by decide +kernel, fun z => Bool.noConfusion z, rfl⟩
  | dct h => exact ⟨false, false, by decide +kernel, fun z => Bool.noConfusion z, rfl⟩
end Vg
namespace Vg
open PySem PySem.Spec PyProof.Rows L2
def kD : Key → PyData
  | .inl i => .int i
  | .inr x => .str x
/-! what a value tells as data, whose objects stand at addresses of a kind -/
mutual
inductive Dq (ok : Addr → Prop) (H : Hp) : V → PyData → Prop
  | non : Dq ok H .non .none
  | bl (b : Bool) : Dq ok H (.bl b) (.bool b)
  | int (i : Int) : Dq ok H (.int i) (.int i)
  | str (x : Str) : Dq ok H (.str x) (.str x)
  | lst {a : Addr} {xs : List V} {ds : List PyData} (o : ok a) (h : H a = some (.lst xs)) (r : DqL ok H xs ds) : Dq ok H (.ref a) (.list ds)
  | tup {a : Addr} {xs : List V} {ds : List PyData} (o : ok a) (h : H a = some (.tup xs)) (r : DqL ok H xs ds) : Dq ok H (.ref a) (.tuple ds)
  | dct {a : Addr} {kvs : List (Key × V)} {es : List (PyData × PyData)} (o : ok a) (h : H a = some (.dK kvs)) (k : kvs.map (fun kv => kD kv.1) = es.map (·.1))
      (r : DqL ok H (kvs.map (·.2)) (es.map (·.2))) : Dq ok H (.ref a) (.dict es)
inductive DqL (ok : Addr → Prop) (H : Hp) : List V → List PyData → Prop
  | nil : DqL ok H [] []
  | cons {v : V} {vs : List V} {d : PyData} {ds : List PyData} (h : Dq ok H v d) (r : DqL ok H vs ds) : DqL ok H (v :: vs) (d :: ds)
end
mutual
theorem Dq.mono {ok ok' : Addr → Prop} {H H' : Hp} (s : ∀ a o, ok a → H a = some o → H' a = some o) (w : ∀ a o, ok a → H a = some o → ok' a) : ∀ {v : V} {d : PyData}, Dq ok H v d → Dq ok' H' v d
  | _, _, .non => .non
  | _, _, .bl b => .bl b
  | _, _, .int i => .int i
  | _, _, .str x => .str x
  | _, _, .lst o h r => .lst (w _ _ o h) (s _ _ o h) (DqL.mono s w r)
  | _, _, .tup o h r => .tup (w _ _ o h) (s _ _ o h) (DqL.mono s w r)
  | _, _, .dct o h k r => .dct (w _ _ o h) (s _ _ o h) k (DqL.mono s w r)
theorem DqL.mono {ok ok' : Addr → Prop} {H H' : Hp} (s : ∀ a o, ok a → H a = some o → H' a = some o) (w : ∀ a o, ok a → H a = some o → ok' a) : ∀ {vs : List V} {ds : List PyData}, DqL ok H vs ds → DqL ok' H' vs ds
  | _, _, .nil => .nil
  | _, _, .cons h r => .cons (Dq.mono s w h) (DqL.mono s w r)
end
theorem DqL.len {ok : Addr → Prop} {H : Hp} : ∀ {vs : List V} {ds : List PyData}, DqL ok H vs ds → vs.length = ds.length
  | _, _, .nil => rfl
  | _, _, .cons _ r => congrArg Nat.succ (DqL.len r)
theorem DqL.app {ok : Addr → Prop} {H : Hp} : ∀ {vs ws : List V} {ds es : List PyData}, DqL ok H vs ds → DqL ok H ws es → DqL ok H (vs ++ ws) (ds ++ es)
  | _, _, _, _, .nil, b => b
  | _, _, _, _, .cons h r, b => .cons h (DqL.app r b)
theorem DqL.get {ok : Addr → Prop} {H : Hp} : ∀ {vs : List V} {ds : List PyData} {i : Nat} {d : PyData}, DqL ok H vs ds → ds[i]? = some d → ∃ v, vs[i]? = some v ∧ Dq ok H v d
  | _, _, i, _, .nil, e => by simp at e
  | _, _, 0, _, .cons h _, e => by
    simp at e
    subst e
    exact ⟨_, rfl, h⟩
  | _, _, i + 1, d, .cons _ r, e => by
    obtain ⟨v, h1, h2⟩ := DqL.get (i := i) (d := d) r (by simpa using e)
    exact ⟨v, by simpa using h1, h2⟩
theorem Dq.tn {ok : Addr → Prop} {K : PySem.W.Frag} {H : Hp} {v : V} {d : PyData} (h : Dq ok H v d) : ∃ n, Tn K H v n := by
  cases h with
  | non => exact ⟨_, .non⟩
  | bl b => exact ⟨_, .bl b⟩
  | int i => exact ⟨_, .int i⟩
  | str x => exact ⟨_, .str x⟩
  | lst o h r => exact ⟨_, .lst h⟩
  | tup o h r => exact ⟨_, .tup h⟩
  | dct o h k r => exact ⟨_, .dct h⟩
/-- an expression that makes such data of new objects -/
def Mk1 (t : TE) (d : PyData) : Prop := ∀ (σ : L2.St) (H : Hp) (Q : VK), (∀ v H', Same H H' → Dq (fun a => H a = none) H' v d → Q v H') → t σ H Q
def MkL (t : TA) (ds : List PyData) : Prop := ∀ (σ : L2.St) (H : Hp) (Q : List V → Hp → Prop), (∀ vs H', Same H H' → DqL (fun a => H a = none) H' vs ds → Q vs H') → t σ H Q
theorem mk_non : Mk1 (tC .non) .none := fun _ H _ q => q _ _ (Same.refl H) .non
theorem mk_bl (b : Bool) : Mk1 (tC (.bl b)) (.bool b) := fun _ H _ q => q _ _ (Same.refl H) (.bl b)
theorem mk_int (i : Int) : Mk1 (tC (.int i)) (.int i) := fun _ H _ q => q _ _ (Same.refl H) (.int i)
theorem mk_str (x : Str) : Mk1 (tC (.str x)) (.str x) := fun _ H _ q => q _ _ (Same.refl H) (.str x)
/-- one that gives a number without making anything -/
def MkI (t : TE) (i : Int) : Prop := ∀ (σ : L2.St) (H : Hp) (Q : VK), Q (.int i) H → t σ H Q
theorem mki_c (i : Int) : MkI (tC (.int i)) i := fun _ _ _ q => q
theorem mki_neg {t : TE} {i : Int} (h : MkI t i) : MkI (tUn (rU fun i => .int (-i)) t) (-i) := fun σ H Q q => h σ H _ ⟨i, rfl, q⟩
theorem mki_pow {t u : TE} {i j : Int} (h : MkI t i) (k : MkI u j) (hc : 0 ≤ j ∧ j ≤ 1000000 ∧ i.natAbs < 2 ^ 64 := by decide) : MkI (tOp (rI CPow fun i j => .int (i ^ j.toNat)) t u) (i ^ j.toNat) :=
  fun σ H Q q => h σ H _ (k σ H _ ⟨i, j, rfl, rfl, hc, q⟩)
theorem mk_of {t : TE} {i : Int} (h : MkI t i) : Mk1 t (.int i) := fun σ H Q q => h σ H _ (q _ _ (Same.refl H) (.int i))
theorem mkl_nil : MkL tNil [] := fun _ H _ q => q _ _ (Same.refl H) .nil
theorem mkl_cons {t : TE} {u : TA} {d : PyData} {ds : List PyData} (h : Mk1 t d) (k : MkL u ds) : MkL (tCons t u) (d :: ds) := by
  intro σ H Q q
  refine h σ H _ fun v H1 s1 r1 => ?_
  refine k σ H1 _ fun vs H2 s2 r2 => ?_
  exact q _ _ (s1.trans s2) (.cons (r1.mono (fun a o _ e => s2 a o e) fun a o h _ => h) (r2.mono (fun a o _ e => e) fun a o h _ => s1.free h))
theorem mk_lst {t : TA} {ds : List PyData} (h : MkL t ds) (hz : ds.length ≤ 1000 := by decide) : Mk1 (tLst t) (.list ds) := by
  intro σ H Q q
  refine h σ H _ fun vs H1 s1 r => ⟨?_, fun p hp => ?_⟩
  · rw [r.len]
    exact Nat.le_trans hz (by decide)
  · exact q _ _ (s1.trans (Same.new hp)) (.lst (s1.free hp) upd_same (r.mono (fun a o _ e => Same.new hp a o e) fun a o h _ => h))
theorem mk_tup {t : TA} {ds : List PyData} (h : MkL t ds) (hz : ds.length ≤ 1000 := by decide) : Mk1 (tTup t) (.tuple ds) := by
  intro σ H Q q
  refine h σ H _ fun vs H1 s1 r => ⟨?_, fun p hp => ?_⟩
  · rw [r.len]
    exact Nat.le_trans hz (by decide)
  · exact q _ _ (s1.trans (Same.new hp)) (.tup (s1.free hp) upd_same (r.mono (fun a o _ e => Same.new hp a o e) fun a o h _ => h))
theorem mk_dct0 : Mk1 tDNewK (.dict []) := fun σ H Q q p hp => q _ _ (Same.new hp) (.dct hp upd_same rfl .nil)
theorem mk_dct1 {t : TE} {d : PyData} (k : Key) (h : Mk1 t d) : Mk1 (tDisp [(tC (kV k), t)]) (.dict [(kD k, d)]) := by
  intro σ H Q q p hp
  refine h σ _ _ fun v H1 s1 r => ?_
  have e1 : H1 p = some (.dK []) := s1 _ _ upd_same
  refine ⟨e1, [(k, v)], rfl, (by show 1 ≤ 15; decide), ?_⟩
  have sH : Same H (L2.upd H1 p (.dK (mergeK [] [(k, v)]))) := fun b o e => by
    have n := ne_of_none e hp
    rw [upd_ne n]
    exact s1 _ _ (by rw [upd_ne n]; exact e)
  refine q _ _ sH (.dct (kvs := [(k, v)]) (es := [(kD k, d)]) hp upd_same rfl (.cons (r.mono (fun a o ho e => ?_) fun a o ho e => ?_) .nil))
  · have n : a ≠ p := fun z => by rw [z, upd_same] at ho; cases ho
    rw [upd_ne n]
    exact e
  · have n : a ≠ p := fun z => by rw [z, upd_same] at ho; cases ho
    rw [upd_ne n] at ho
    exact ho
/-- name = such an expression -/
theorem sq_set {te : TE} {i : Nat} {u : TS} {D : Ends} {σ : L2.St} {H : Hp} {d : PyData} (h : Mk1 te d)
    (k : ∀ v H', Same H H' → Dq (fun a => H a = none) H' v d → u D (σ.set i (some v)) H') : tSeq (tAsg te (gName i)) u D σ H := h σ H _ k
/-- a list's name + such a list -/
theorem mk_cat {i : Nat} {te : TE} {σ : L2.St} {H : Hp} {Q : VK} {a : Addr} {xs : List V} {ds es : List PyData} {ok : Addr → Prop} (h : Mk1 te (.list es)) (hi : σ[i]? = some (some (.ref a))) (ha : H a = some (.lst xs)) (hd : DqL ok H xs ds)
    (hz : ds.length + es.length ≤ 1000) (ho : ∀ b, H b = none → ok b)
    (k : ∀ (p : Addr) (ys : List V) (H' : Hp), Same H H' → H p = none → H' p = some (.lst (xs ++ ys)) → DqL ok H' (xs ++ ys) (ds ++ es) → Q (.ref p) H') : tOp rCat (tVar i) te σ H Q := by
  refine ⟨_, hi, h σ H _ fun v H1 s1 r => ?_⟩
  cases r with
  | @lst b ys _ ob hb rb =>
  refine ⟨a, b, xs, ys, rfl, rfl, s1 _ _ ha, hb, ?_, fun p hp => ?_⟩
  · rw [hd.len, rb.len]
    exact Nat.le_trans hz (by decide)
  · have s2 : Same H1 (L2.upd H1 p (.lst (xs ++ ys))) := Same.new hp
    refine k p ys _ (s1.trans s2) (s1.free hp) upd_same (DqL.app (hd.mono (fun c o _ e => s2 _ _ (s1 _ _ e)) fun c o hc _ => hc) (rb.mono (fun c o _ e => s2 _ _ e) fun c o hc _ => ho c hc))
end Vg
namespace Vg
open PySem PySem.Spec PyProof.Rows L2
theorem pickV {xs : List V} {r : Int} (h0 : 0 ≤ r) (h1 : r < xs.length) : ∃ v, v ∈ xs ∧ atI xs r = some v := by
  obtain ⟨j, rfl⟩ : ∃ j : Nat, r = (j : Int) := ⟨r.toNat, by omega⟩
  have hj : j < xs.length := by omega
  exact ⟨xs[j], List.getElem_mem hj, atI_nat (List.getElem?_eq_getElem hj)⟩
theorem pickI {zs : List Int} {r : Int} (h0 : 0 ≤ r) (h1 : r < zs.length) : ∃ z, z ∈ zs ∧ atI (zs.map V.int) r = some (.int z) := by
  obtain ⟨v, h2, h3⟩ := pickV (xs := zs.map V.int) h0 (by rw [List.length_map]; exact h1)
  obtain ⟨z, h4, rfl⟩ := List.mem_map.mp h2
  exact ⟨z, h4, h3⟩
theorem Pz.new {H : Hp} {p q : Addr} {n : Nat} {o : HO} (h : Pz H p n) (hq : H q = none) : Pz (L2.upd H q o) p n := h.same (Same.new hq)
theorem Pz.ne {H : Hp} {p q : Addr} {n : Nat} (h : Pz H p n) (hq : H q = none) : q ≠ p := by
  obtain ⟨l, h1, _⟩ := h
  exact (ne_of_none h1 hq).symm
/-- a whole number of at most thirty figures -/
def spWhole : Sp := fun vs H Q _ => ∃ (p : Addr) (n : Nat), vs = [.ref p] ∧ Pz H p (n + 6) ∧
  ∀ (z : Int) (H' : Hp), z.natAbs < 10 ^ 30 → But p H H' → Pz H' p n → Q (.int z) H'
end Vg
namespace Vg
open PySem PySem.Spec PyProof.Rows L2
/-- some data that a value tells -/
def Dk (H : Hp) (v : V) (d : PyData) : Prop := ∃ ok, Dq ok H v d
theorem Dk.tn {K : PySem.W.Frag} {H : Hp} {v : V} {d : PyData} (h : Dk H v d) : ∃ n, Tn K H v n := by
  obtain ⟨_, h⟩ := h
  exact h.tn
theorem Dk.same {H H' : Hp} {v : V} {d : PyData} (h : Dk H v d) (s : Same H H') : Dk H' v d := by
  obtain ⟨ok, h⟩ := h
  exact ⟨ok, h.mono (fun a o _ e => s _ _ e) fun a o k _ => k⟩
def numD : PyData → Bool
  | .int _ => true
  | _ => false
theorem isNum_of {ok : Addr → Prop} {H : Hp} {v : V} {d : PyData} (h : Dq ok H v d) : isNum v = numD d := by
  cases h <;> rfl
/-- a whole number from lo to hi -/
def wholeV (lo hi : Int) : V → Bool
  | .int i => decide (lo ≤ i ∧ i ≤ hi)
  | _ => false
def spWholeIn (K : PySem.W.Frag) : Sp := fun vs H Q _ => ∃ (v : V) (n : String) (lo hi : Int), vs = [v, .int lo, .int hi] ∧ Tn K H v n ∧ Q (.bl (wholeV lo hi v)) H
theorem num_int {v : V} (h : isNum v = true) : ∃ i, v = .int i := by
  cases v with
  | int i => exact ⟨i, rfl⟩
  | _ => cases h
theorem whole_no {lo hi : Int} {v : V} (h : isNum v = false) : wholeV lo hi v = false := by
  cases v with
  | int i => cases h
  | _ => rfl
/-- a tuple of two -/
def pairD : PyData → Bool
  | .tuple ds => decide (ds.length = 2)
  | _ => false
def spPair : Sp := fun vs H Q _ => ∃ (v : V) (d : PyData), vs = [v] ∧ Dk H v d ∧ Q (.bl (pairD d)) H
def fracD : PyData → Bool
  | .tuple [.int a, .int b] => decide (1 ≤ b) && decide (gcdI a b = 1)
  | _ => false
def spFrac : Sp := fun vs H Q _ => ∃ (v : V) (d : PyData), vs = [v] ∧ Dk H v d ∧ Q (.bl (fracD d)) H
theorem Dk.two {H : Hp} {v : V} {d : PyData} (h : Dk H v d) (hp : pairD d = true) : ∃ a x y dx dy, v = .ref a ∧ H a = some (.tup [x, y]) ∧ d = .tuple [dx, dy] ∧ Dk H x dx ∧ Dk H y dy := by
  obtain ⟨ok, h⟩ := h
  cases h with
  | @tup a xs ds o h r =>
    have hl : ds.length = 2 := of_decide_eq_true hp
    match ds, hl with
    | [dx, dy], _ =>
      match r with
      | .cons r1 (.cons r2 .nil) => exact ⟨a, _, _, dx, dy, rfl, h, rfl, ⟨ok, r1⟩, ⟨ok, r2⟩⟩
  | _ => cases hp
theorem frac_nopair {d : PyData} (h : pairD d = false) : fracD d = false := by
  unfold fracD
  split
  · cases h
  · rfl
theorem frac_nonum {dx dy : PyData} (h : (numD dx && numD dy) = false) : fracD (.tuple [dx, dy]) = false := by
  unfold fracD
  split
  · rename_i a b e
    injection e with e
    injection e with e1 e2
    injection e2 with e2 _
    subst e1 e2
    cases h
  · rfl
/-- one sign from a to z, as both looks ask for it -/
def smallC (c : Nat) : Bool := if (!decide ((⟨#[c]⟩ : Str).cps.toList < ("a" : Str).cps.toList)) = true then !decide (("z" : Str).cps.toList < (⟨#[c]⟩ : Str).cps.toList) else false
def nameV : V → Bool
  | .str z => decide (1 ≤ z.length ∧ z.length ≤ 6) && z.cps.toList.all smallC
  | _ => false
def spName (K : PySem.W.Frag) : Sp := fun vs H Q _ => ∃ (v : V) (n : String), vs = [v] ∧ Tn K H v n ∧ (∀ z, v = .str z → z.length ≤ 100000 ∧ PyData.strOk z = true) ∧ ∀ H', Same H H' → Q (.bl (nameV v)) H'
theorem kit_str {K : PySem.W.Frag} {H : Hp} {v : V} {n : String} (h : Tn K H v n) : ∃ b, kitB n "str" = some b ∧ (b = true → ∃ z, v = .str z) ∧ (b = false → nameV v = false) := by
  cases h with
  | str z => exact ⟨true, by decide +kernel, fun _ => ⟨z, rfl⟩, fun z => Bool.noConfusion z⟩
  | non => exact ⟨false, by decide +kernel, fun z => Bool.noConfusion z, fun _ => rfl⟩
  | bl b => exact ⟨false, by decide +kernel, fun z => Bool.noConfusion z, fun _ => rfl⟩
  | int i => exact ⟨false, by decide +kernel, fun z => Bool.noConfusion z, fun _ => rfl⟩
  | lst h => exact ⟨false, by decide +kernel, fun z => Bool.noConfusion z, fun _ => rfl⟩
  | tup h => exact ⟨false, by decide +kernel, fun z => Bool.noConfusion z, fun _ => rfl⟩
  | dct h => exact ⟨false, by decide +kernel, fun z => Bool.noConfusion z, fun _ => rfl⟩
theorem kit_tuple {K : PySem.W.Frag} {H : Hp} {v : V} {d : PyData} (h : Dk H v d) : ∃ n b, Tn K H v n ∧ kitB n "tuple" = some b ∧ (b = true → ∃ a xs ds, v = .ref a ∧ H a = some (.tup xs) ∧ d = .tuple ds ∧ xs.length = ds.length) ∧ (b = false → pairD d = false) := by
  obtain ⟨ok, h⟩ := h
  cases h with
  | tup o h r => exact ⟨_, true, .tup h, by decide +kernel, fun _ => ⟨_, _, _, rfl, h, rfl, r.len⟩, fun z => Bool.noConfusion z⟩
  | non => exact ⟨_, false, .non, by decide +kernel, fun z => Bool.noConfusion z, fun _ => rfl⟩
  | bl b => exact ⟨_, false, .bl b, by decide +kernel, fun z => Bool.noConfusion z, fun _ => rfl⟩
  | int i => exact ⟨_, false, .int i, by decide +kernel, fun z => Bool.noConfusion z, fun _ => rfl⟩
  | str z => exact ⟨_, false, .str z, by decide +kernel, fun z => Bool.noConfusion z, fun _ => rfl⟩
  | lst o h r => exact ⟨_, false, .lst h, by decide +kernel, fun z => Bool.noConfusion z, fun _ => rfl⟩
  | dct o h k r => exact ⟨_, false, .dct h, by decide +kernel, fun z => Bool.noConfusion z, fun _ => rfl⟩
end Vg
namespace Vg
open PySem PySem.Spec PyProof.Rows L2
theorem take_sign {z : Str} {i c : Nat} (h : z.cps[i]? = some c) : z.cps.toList.take (i + 1) = z.cps.toList.take i ++ [c] := by
  have e : z.cps.toList[i]? = some c := by rw [Array.getElem?_toList]; exact h
  obtain ⟨h1, h2⟩ := List.getElem?_eq_some_iff.mp e
  rw [List.take_succ, e]
  rfl
theorem take_signs {z : Str} : z.cps.toList.take z.cps.size = z.cps.toList := by
  rw [List.take_of_length_le]
  simp
theorem size_sign {z : Str} {i c : Nat} (h : z.cps[i]? = some c) : i < z.cps.size := by
  obtain ⟨h1, _⟩ := Array.getElem?_eq_some_iff.mp h
  exact h1
theorem upd_in {H : Hp} {a b : Addr} {o u : HO} (h : H b = some u) (hn : a ≠ b) : L2.upd H a o b = some u := by
  rw [upd_ne hn.symm]
  exact h
/-- a change at an address that was free keeps all that was -/
theorem Same.mut {H H' : Hp} {p : Addr} {o : HO} (s : Same H H') (h : H p = none) : Same H (L2.upd H' p o) := fun b u e => by
  rw [upd_ne (ne_of_none e h)]
  exact s b u e
theorem bools_all {xs : List Nat} : (xs.map smallC).all id = xs.all smallC := by
  induction xs with
  | nil => rfl
  | cons x xs ih => simp [List.all_cons]
theorem name_of {z : Str} (h : 1 ≤ z.length ∧ z.length ≤ 6) : nameV (.str z) = z.cps.toList.all smallC := by
  unfold nameV
  simp [h]
theorem name_no {z : Str} (h : ¬ (1 ≤ z.length ∧ z.length ≤ 6)) : nameV (.str z) = false := by
  show (decide (1 ≤ z.length ∧ z.length ≤ 6) && z.cps.toList.all smallC) = false
  rw [decide_eq_false h]
  rfl
/-- the data of some signs, each a text -/
def signsD (xs : List Nat) : List PyData := xs.map fun c => .str ⟨#[c]⟩
theorem dp_signs {K : PySem.W.Frag} {H : Hp} : ∀ xs : List Nat, DpAll K H (xs.map fun c => V.str ⟨#[c]⟩) (signsD xs)
  | [] => .nil
  | x :: xs => .cons (.str _) (dp_signs xs)
theorem eqv_signs (xs : List Nat) : PyData.eqv (.list (signsD xs)) (.list []) = xs.isEmpty := by
  cases xs with
  | nil => simp [signsD, PyData.eqv, PyData.eqvAll]
  | cons x xs => simp [signsD, PyData.eqv, PyData.eqvAll]
theorem strOk_mem {z : Str} (h : PyData.strOk z = true) : ∀ c ∈ z.cps.toList, c < 1114112 := by
  intro c hc
  unfold PyData.strOk at h
  rw [← Array.all_toList, List.all_eq_true] at h
  exact of_decide_eq_true (h c hc)
theorem lay_signs (xs : List Nat) (hx : ∀ c ∈ xs, c < 1114112) : SeqAt.shaped (.list (signsD xs)) = true := by
  have h : ∀ xs : List Nat, (∀ c ∈ xs, c < 1114112) → PyData.canLayAll0 (signsD xs) = true ∧ PyData.depthAll (signsD xs) ≤ 0 := by
    intro xs
    induction xs with
    | nil => exact fun _ => ⟨by simp [signsD, PyData.canLayAll0], by simp [signsD, PyData.depthAll]⟩
    | cons x xs ih =>
      intro hx
      obtain ⟨h1, h2⟩ := ih fun c hc => hx c (List.mem_cons_of_mem _ hc)
      have h0 := hx x (List.mem_cons_self ..)
      refine ⟨?_, ?_⟩
      · simp only [signsD, List.map_cons, PyData.canLayAll0, PyData.canLay0, Bool.and_eq_true]
        refine ⟨?_, h1⟩
        unfold PyData.strOk
        simp [h0]
      · simp only [signsD, List.map_cons, PyData.depthAll, PyData.depth]
        have h2' : PyData.depthAll (List.map (fun c => PyData.str ⟨#[c]⟩) xs) ≤ 0 := h2
        simp only [Nat.le_zero] at h2' ⊢
        rw [h2']
        rfl
  obtain ⟨h1, h2⟩ := h xs hx
  unfold SeqAt.shaped
  have h3 : PyData.depthAll (signsD xs) = 0 := Nat.le_zero.mp h2
  have h4 : (PyData.list (signsD xs)).depth ≤ 64 := by
    simp only [PyData.depth]
    omega
  rw [decide_eq_true h4]
  simp only [PyData.canLay0, Bool.and_true]
  exact h1
theorem filter_empty {p : Nat → Bool} {xs : List Nat} : (xs.filter fun c => !p c).isEmpty = xs.all p := by
  induction xs with
  | nil => rfl
  | cons x xs ih =>
    cases e : p x with
    | true => simp [List.filter_cons, e, ih]
    | false => simp [List.filter_cons, e]
/-- a turn of a comprehension without a test -/
theorem lc_keep {te : TE} {σ : L2.St} {H : Hp} {R : VK} {L : Hp → Prop} (h : te σ H R) :
    tYes σ H (fun b H3 => if b = true then te σ H3 R else L H3) := by
  show (if true = true then te σ H R else L H)
  rw [if_pos rfl]
  exact h
end Vg
namespace Vg
open PySem PySem.Spec PyProof.Rows L2
/-- a text of at most n signs, each one that there is -/
structure Tx (n : Nat) (z : Str) : Prop where
  len : z.cps.toList.length ≤ n
  ok : ∀ c ∈ z.cps.toList, c < 1114112
theorem Tx.strOk {n : Nat} {z : Str} (h : Tx n z) : PyData.strOk z = true := by
  unfold PyData.strOk
  rw [← Array.all_toList, List.all_eq_true]
  exact fun c hc => decide_eq_true (h.ok c hc)
theorem Tx.length {n : Nat} {z : Str} (h : Tx n z) : z.length ≤ n := by
  have e : z.length = z.cps.toList.length := by simp [Str.length]
  rw [e]
  exact h.len
theorem Tx.mono {n m : Nat} {z : Str} (h : Tx n z) (hm : n ≤ m) : Tx m z := ⟨Nat.le_trans h.len hm, h.ok⟩
theorem toList_app (x y : Str) : (x ++ y).cps.toList = x.cps.toList ++ y.cps.toList := by
  show (x.cps ++ y.cps).toList = _
  simp
theorem Tx.app {n m : Nat} {x y : Str} (h : Tx n x) (k : Tx m y) : Tx (n + m) (x ++ y) := by
  refine ⟨?_, fun c hc => ?_⟩
  · rw [toList_app, List.length_append]
    have := h.len
    have := k.len
    omega
  · rw [toList_app] at hc
    rcases List.mem_append.mp hc with hc | hc
    · exact h.ok c hc
    · exact k.ok c hc
theorem Tx.cut {n : Nat} {z : Str} (h : Tx n z) (lo hi : Option Int) : Tx n (cutS z lo hi) := by
  refine ⟨?_, fun c hc => ?_⟩
  · show (((z.cps.toList.drop _).take _).toArray).toList.length ≤ n
    have := h.len
    simp only [List.length_take, List.length_drop]
    omega
  · have hc' : c ∈ ((z.cps.toList.drop (HT.sIx z.length 0 lo)).take (HT.sIx z.length z.length hi - HT.sIx z.length 0 lo)) := by
      simpa [cutS] using hc
    exact h.ok c (List.mem_of_mem_drop (List.mem_of_mem_take hc'))
theorem Tx.one {c : Nat} (h : c < 1114112) : Tx 1 ⟨#[c]⟩ := ⟨by simp, fun d hd => by simp at hd; omega⟩
theorem Tx.join : ∀ {ys : List Str}, (∀ y ∈ ys, Tx 1 y) → Tx ys.length (Txt.join "" ys) := by
  intro ys
  rw [TL.join_eq]
  induction ys with
  | nil => intro _; exact ⟨by decide, fun c hc => by simp [Str.join] at hc; exact absurd hc (by decide +revert)⟩
  | cons y ys ih =>
    intro h
    cases ys with
    | nil => exact h y (List.mem_cons_self ..)
    | cons z zs =>
      have h1 := h y (List.mem_cons_self ..)
      have h2 := ih fun x hx => h x (List.mem_cons_of_mem _ hx)
      have e : Str.join "" (y :: z :: zs) = y ++ "" ++ Str.join "" (z :: zs) := rfl
      have h3 : Tx 0 ("" : Str) := ⟨by decide, fun c hc => by exact absurd hc (by decide +revert)⟩
      rw [e]
      exact ((h1.app h3).app h2).mono (by simp only [List.length_cons]; omega)
/-- a sign of a written text -/
theorem pickS {z : Str} {r : Int} (h0 : 0 ≤ r) (h1 : r < z.cps.toList.length) (ok : z.cps.toList.all (fun c => decide (c < 1114112)) = true) : ∃ c, c < 1114112 ∧ atI z.cps.toList r = some c := by
  obtain ⟨j, rfl⟩ : ∃ j : Nat, r = (j : Int) := ⟨r.toNat, by omega⟩
  have hj : j < z.cps.toList.length := by omega
  refine ⟨z.cps.toList[j], ?_, atI_nat (List.getElem?_eq_getElem hj)⟩
  rw [List.all_eq_true] at ok
  exact of_decide_eq_true (ok _ (List.getElem_mem hj))
def spText : Sp := fun vs H Q _ => ∃ (p : Addr) (n : Nat), vs = [.ref p] ∧ Pz H p (n + 14) ∧ ∀ (z : Str) (H' : Hp), Tx 20 z → But p H H' → Pz H' p n → Q (.str z) H'
theorem sum_ones {ys : List Str} (h : ∀ y ∈ ys, Tx 1 y) : (ys.map (·.length)).sum ≤ ys.length := by
  induction ys with
  | nil => simp
  | cons y ys ih =>
    have h1 := (h y (List.mem_cons_self ..)).length
    have h2 := ih fun x hx => h x (List.mem_cons_of_mem _ hx)
    simp only [List.map_cons, List.sum_cons, List.length_cons]
    omega
theorem But.mut {p D : Addr} {H H' : Hp} {o : HO} (s : But p H H') (h : H D = none) : But p H (L2.upd H' D o) := fun b u n e => by
  rw [upd_ne (ne_of_none e h)]
  exact s b u n e
theorem Pz.mut {p D : Addr} {H : Hp} {n : Nat} {o : HO} (h : Pz H p n) (hn : D ≠ p) : Pz (L2.upd H D o) p n := by
  obtain ⟨l, h1, h2⟩ := h
  exact ⟨l, upd_in h1 hn, h2⟩
end Vg
namespace Vg
open PySem PySem.Spec PyProof.Rows L2
/-- a def of the module that asks for texts of lists, as its callers know it -/
structure Fg (P : Program) (w : World) (K : PySem.W.Frag) (mg : Str → Option Value) (base : Heap) (k : Nat) (x : Str) (ps : List Str) (sp : Sp) : Prop where
  ex : ∃ (f : Addr) (fd : FuncData), mg x = some (.ref f) ∧ PySem.W.keepIn K (.ref f) = true ∧ Binds K fd ps [] ∧ FnG P w K mg base CX0 k f fd ps sp
/-- such a def by its body -/
theorem fng_fun {P : Program} {w : World} {K : PySem.W.Frag} {mg : Str → Option Value} {base : Heap} {k : Nat} {x : Str} {st : Stmt} {N ps : List Str} {sp : Sp} {f : Addr} {fd : FuncData} (F : Fun K x x st f fd) (S : FnScope N ps (defScope st))
    (len : ∀ vs H Q E, sp vs H Q E → vs.length = ps.length)
    (body : ∀ (cdv : Value) (A : Around) (outer : List Env) (s : Shared) (H : Hp) (vs : List V) (Q : VK) (E : XK),
      (cxOf CX0 P w K mg base N x (defScope st) f cdv A outer s H E).nox.A.guards = some [] →
      Room k (A.deeper (envOfC x (defScope st) s.heap.objs.size f cdv)) → sp vs H Q E →
      ∃ t, PSs (cxOf CX0 P w K mg base N x (defScope st) f cdv A outer s H E).nox (defBody st) t ∧ t { nx := fun _ H' => Q .non H', rt := Q } (start N vs) H) :
    FnG P w K mg base CX0 (k + 1) f fd ps sp := by
  obtain ⟨oc, od, kV, doc, pm, an, cdv, ct, osl, rfl, lk, hcd⟩ := F.ex
  refine fng_of lk hcd S len fun A outer s H vs Q E hg hr hsp => ?_
  obtain ⟨t, h, q⟩ := body cdv A outer s H vs Q E hg hr hsp
  exact ⟨t, h.nox, q⟩
theorem At.fng {P : Program} {w : World} {K : PySem.W.Frag} {mg : Str → Option Value} {base : Heap} {k : Nat} {x : Str} {st : Stmt} {N ps : List Str} {sp : Sp} (D : At K mg x st) (S : FnScope N ps (defScope st))
    (hb : ∀ (kV doc pm : Value) (an : Option Addr) (cdv ct : Value) (us : List Value), us.length = ps.length →
      bindArgs (PySem.W.fnOf x x (defArgs st) (defBody st) (defScope st) .none kV doc pm an cdv ct) ⟨us, []⟩ = pure (ps.zip us))
    (len : ∀ vs H Q E, sp vs H Q E → vs.length = ps.length)
    (body : ∀ (f : Addr) (cdv : Value) (A : Around) (outer : List Env) (s : Shared) (H : Hp) (vs : List V) (Q : VK) (E : XK),
      (cxOf CX0 P w K mg base N x (defScope st) f cdv A outer s H E).nox.A.guards = some [] →
      Room k (A.deeper (envOfC x (defScope st) s.heap.objs.size f cdv)) → sp vs H Q E →
      ∃ t, PSs (cxOf CX0 P w K mg base N x (defScope st) f cdv A outer s H E).nox (defBody st) t ∧ t { nx := fun _ H' => Q .non H', rt := Q } (start N vs) H) :
    Fg P w K mg base (k + 1) x ps sp := by
  obtain ⟨f, fd, hm, F⟩ := D.ex
  exact ⟨f, fd, hm, F.kp, F.binds hb, fng_fun F S len fun cdv A outer s H vs Q E hg hr h => body f cdv A outer s H vs Q E hg hr h⟩
/-- a def as the head tells it -/
structure DefIn (K : PySem.W.Frag) (x : Str) (st : Stmt) : Prop where
  ex : ∃ (f : Addr) (oc : Value) (od an : Option Addr) (sl : Array (Option Value)) (kV dc pm cd ct : Value), PySem.W.nsIn K mainGlobals x = some (some (.ref f)) ∧
    K.lookup f = some ⟨oc, od, .func (PySem.W.fnOf x x (defArgs st) (defBody st) (defScope st) .none kV dc pm an cd ct), sl⟩ ∧
    PySem.W.codeIn K cd x = true ∧ PySem.W.keepIn K (.ref f) = true
theorem DefIn.at {K : PySem.W.Frag} {h : Heap} {mg : Str → Option Value} {x : Str} {st : Stmt} (D : DefIn K x st) (X : K.In h) (G : h.Ns mainGlobals mg) : At K mg x st := by
  obtain ⟨f, oc, od, an, sl, kV, dc, pm, cd, ct, a, l, c, k⟩ := D.ex
  exact ⟨f, _, PySem.W.mg_of X G a, fun_mk l c k⟩
theorem pe_fg {X : Cx} {k : Nat} {ps : List Str} {sp : Sp} {E : XK} {x : Str} {p pos : Pos} {e : Expr} {es : List Expr} {t : TA} (F : Fg X.prog X.w X.K X.mg X.base k x ps sp) (hgd : X.A.guards = some []) (hr : Room k X.A) (hg : Gl X x) (hx : Passes CX0 X E) (ha : PA X (e :: es) t)
    (hdb : (x == ("__debug__" : Str)) = false := by decide) (he : starEach (e :: es) X.env = (false, eval e X.env) :: starEach es X.env := by rfl)
    (hpl : (backTo pos (starEach es X.env)).any (·.1) = false := by rfl) : PE X (.Call (.Name x p) (e :: es) [] pos) (tCall sp [] E t) := by
  obtain ⟨f, fd, hm, hk, hb, F⟩ := F.ex
  exact pe_callG F hgd hr hg hm hk hb .nil hx ha hdb he hpl
/-- what a law promises -/
def spLaw (K : PySem.W.Frag) : Sp := fun vs H Q _ => ∃ (a : Addr) (ns : List Int), vs = [.ref a] ∧ SqL K H a (ns.map V.int) ∧ ns.length ≤ 63 ∧ ∀ H', Q (.bl true) H'
theorem Same.but {p : Addr} {H H1 H2 : Hp} (s : Same H H1) (h : H p = none) (b : But p H1 H2) : Same H H2 := fun c o e => b c o (ne_of_none e h) (s c o e)
/-- a thing that may be handed in: data, its texts in bounds -/
def Good (H : Hp) (v : V) : Prop := (∃ d, Dk H v d) ∧ ∀ z, v = .str z → z.length ≤ 100000 ∧ PyData.strOk z = true
theorem Good.same {H H' : Hp} {v : V} (h : Good H v) (s : Same H H') : Good H' v := by
  obtain ⟨⟨d, hd⟩, hz⟩ := h
  exact ⟨⟨d, hd.same s⟩, hz⟩
theorem good_int {H : Hp} (i : Int) : Good H (.int i) := ⟨⟨_, fun _ => True, .int i⟩, fun z e => by cases e⟩
theorem good_str {H : Hp} {n : Nat} {z : Str} (h : Tx n z) (hn : n ≤ 100000) : Good H (.str z) :=
  ⟨⟨_, fun _ => True, .str z⟩, fun y e => by
    cases e
    exact ⟨Nat.le_trans h.length hn, h.strOk⟩⟩
/-- a tuple, a list of two numbers -/
theorem good_tup {H : Hp} {a : Addr} {i j : Int} (h : H a = some (.tup [.int i, .int j])) : Good H (.ref a) :=
  ⟨⟨_, fun _ => True, .tup trivial h (.cons (.int i) (.cons (.int j) .nil))⟩, fun y e => by cases e⟩
theorem good_lst {H : Hp} {a : Addr} {i j : Int} (h : H a = some (.lst [.int i, .int j])) : Good H (.ref a) :=
  ⟨⟨_, fun _ => True, .lst trivial h (.cons (.int i) (.cons (.int j) .nil))⟩, fun y e => by cases e⟩
def textOk : PyData → Bool
  | .str z => decide (z.length ≤ 100000) && PyData.strOk z
  | _ => true
theorem good_of {ok : Addr → Prop} {H : Hp} {v : V} {d : PyData} (h : Dq ok H v d) (ht : textOk d = true) : Good H v := by
  refine ⟨⟨d, ok, h⟩, fun z e => ?_⟩
  subst e
  cases h
  have h2 := Bool.and_eq_true_iff.mp (show (decide (z.length ≤ 100000) && PyData.strOk z) = true from ht)
  exact ⟨of_decide_eq_true h2.1, h2.2⟩
/-- the data of a list of three truths -/
def boolsD (a b c : Bool) : PyData := .list [.bool a, .bool b, .bool c]
theorem bools_text (a b c : Bool) : (boolsD a b c).showable = true ∧ (boolsD a b c).depth ≤ 50 ∧ (boolsD a b c).shown.length ≤ sizeLine := by
  cases a <;> cases b <;> cases c <;> decide +kernel
theorem bool_text (a : Bool) : (PyData.bool a).showable = true ∧ (PyData.bool a).depth ≤ 50 ∧ (PyData.bool a).shown.length ≤ sizeLine := by
  cases a <;> decide +kernel
theorem dp_bools {K : PySem.W.Frag} {H : Hp} {p : Addr} {a b c : Bool} (h : H p = some (.lst [.bl a, .bl b, .bl c])) : Dp K H (.ref p) (boolsD a b c) :=
  .lst (SqL.of h) (.cons (.bl a) (.cons (.bl b) (.cons (.bl c) .nil)))
theorem Tn.same {K : PySem.W.Frag} {H H' : Hp} {v : V} {n : String} (h : Tn K H v n) (s : Same H H') : Tn K H' v n := by
  cases h with
  | non => exact .non
  | bl b => exact .bl b
  | int i => exact .int i
  | str z => exact .str z
  | lst h => exact .lst (s _ _ h)
  | tup h => exact .tup (s _ _ h)
  | dct h => exact .dct (s _ _ h)
/-- a number, and from lo to hi -/
theorem in_range {tn ta tb tc : TE} {σ : L2.St} {H : Hp} {Q : VK} {x : V} {lo hi : Int} (hn : ∀ R : VK, R (.bl (isNum x)) H → tn σ H R) (ha : ∀ R : VK, R (.int lo) H → ta σ H R) (hb : ∀ R : VK, R x H → tb σ H R)
    (hc : ∀ R : VK, R (.int hi) H → tc σ H R) (q : Q (.bl (wholeV lo hi x)) H) :
    tAndV tn (tChain (rI0 fun i j => V.bl (decide (i ≤ j))) (rI0 fun i j => V.bl (decide (i ≤ j))) ta tb tc) σ H Q := by
  refine hn _ ⟨_, rfl, ?_⟩
  cases e : isNum x with
  | true =>
    obtain ⟨i, rfl⟩ := num_int e
    refine iteT (ha _ (hb _ ⟨_, _, rfl, rfl, _, rfl, ?_⟩))
    by_cases h : lo ≤ i
    · rw [decide_eq_true h]
      refine iteT (hc _ ⟨_, _, rfl, rfl, ?_⟩)
      have e2 : wholeV lo hi (.int i) = decide (i ≤ hi) := by simp [wholeV, h]
      rw [e2] at q
      exact q
    · rw [decide_eq_false h]
      have e2 : wholeV lo hi (.int i) = false := by simp [wholeV, h]
      rw [e2] at q
      exact iteF q
  | false =>
    rw [whole_no e] at q
    exact iteF q
/-- a new list, a new tuple, a new list of two joined -/
theorem new_lst {H : Hp} {xs : List V} {R : V → Hp → Prop} (hz : xs.length ≤ sizeLine) (k : ∀ p H', H p = none → Same H H' → H' p = some (.lst xs) → R (.ref p) H') :
    xs.length ≤ sizeLine ∧ ∀ p, H p = none → R (.ref p) (L2.upd H p (.lst xs)) := ⟨hz, fun p hp => k p _ hp (Same.new hp) upd_same⟩
theorem new_tup {H : Hp} {xs : List V} {R : V → Hp → Prop} (hz : xs.length ≤ sizeLine) (k : ∀ p H', H p = none → Same H H' → H' p = some (.tup xs) → R (.ref p) H') :
    xs.length ≤ sizeLine ∧ ∀ p, H p = none → R (.ref p) (L2.upd H p (.tup xs)) := ⟨hz, fun p hp => k p _ hp (Same.new hp) upd_same⟩
theorem new_cat {H : Hp} {xs zs : List V} {R : V → Hp → Prop} (hz : xs.length + zs.length ≤ sizeLine) (k : ∀ p H', H p = none → Same H H' → H' p = some (.lst (xs ++ zs)) → R (.ref p) H') :
    xs.length + zs.length ≤ sizeLine ∧ ∀ p, H p = none → R (.ref p) (L2.upd H p (.lst (xs ++ zs))) := ⟨hz, fun p hp => k p _ hp (Same.new hp) upd_same⟩
/-- what stands at a new address -/
theorem at_new {H : Hp} {p : Addr} (_ : H p = none) (o : HO) : L2.upd H p o p = some o := upd_same
theorem same_new {H : Hp} {p : Addr} (h : H p = none) (o : HO) : Same H (L2.upd H p o) := Same.new h
theorem of_gen {H H' : Hp} {p : Addr} {o : HO} (h : L2.upd H p o = H') : H' p = some o := h ▸ upd_same
theorem same_gen {H H' : Hp} {p : Addr} {o : HO} (hp : H p = none) (h : L2.upd H p o = H') : Same H H' := h ▸ Same.new hp
/-- the law's own promise, as the head's end wants it -/
theorem law_end {P : Program} {w : World} {K : PySem.W.Frag} {h : Heap} {mg : Str → Option Value} {fa : Addr} {st : Stmt} {x : Str} {k : Nat} (X : K.In h) (G : h.Ns mainGlobals mg) (hfa : mg "law" = some (.ref fa)) (D : DefIn K "law" st)
    (hb : ∀ (kV doc pm : Value) (an : Option Addr) (cdv ct u : Value), bindArgs (PySem.W.fnOf "law" "law" (defArgs st) (defBody st) (defScope st) .none kV doc pm an cdv ct) ⟨[u], []⟩ = pure [(x, u)])
    (F : ∀ (f : Addr) (fd : FuncData) (base : Heap), Fun K "law" "law" st f fd → FnG P w K mg base CX0 k f fd [x] (spLaw K)) :
    ∃ fd : FuncData, (∀ (s : Shared) (u : Value), BindsTo s fd ⟨[u], []⟩ [(x, u)]) ∧ ∀ base : Heap, K.In base → base.Ns mainGlobals mg → FnG P w K mg base CX0 k fa fd [x] (spLaw K) := by
  obtain ⟨f, oc, od, an, sl, kV, dc, pm, cd, ct, a, l, c, kp⟩ := D.ex
  have e := hfa.symm.trans (PySem.W.mg_of X G a)
  cases e
  exact ⟨_, fun s u => .of_eq (hb _ _ _ _ _ _ u), fun base _ _ => F _ _ base (fun_mk l c kp)⟩
theorem DefIn.by {K : PySem.W.Frag} {x : Str} {st : Stmt} {f : Addr} {oc : Value} {od an : Option Addr} {sl : Array (Option Value)} {kV dc pm cd ct : Value} (a : PySem.W.nsIn K mainGlobals x = some (some (.ref f)))
    (l : K.lookup f = some ⟨oc, od, .func (PySem.W.fnOf x x (defArgs st) (defBody st) (defScope st) .none kV dc pm an cd ct), sl⟩) (c : PySem.W.codeIn K cd x = true) (k : PySem.W.keepIn K (.ref f) = true) : DefIn K x st :=
  ⟨f, oc, od, an, sl, kV, dc, pm, cd, ct, a, l, c, k⟩
theorem con_in {K : PySem.W.Frag} {x : Str} {n : Int} {t : Tok} (h : PySem.W.nsIn K mainGlobals x = some (some (.int n t))) : ∃ t, PySem.W.nsIn K mainGlobals x = some (some (.int n t)) := ⟨t, h⟩
/-- a thing of another kind, new, one of those told -/
def spOdd (ds : List PyData) : Sp := fun vs H Q _ => ∃ (p : Addr) (n : Nat), vs = [.ref p] ∧ Pz H p (n + 1) ∧
  ∀ (v : V) (d : PyData) (H' : Hp), d ∈ ds → But p H H' → Pz H' p n → Dq (fun a => H a = none) H' v d → Q v H'
end Vg
namespace Vg
open PySem PySem.Spec PyProof.Rows L2
/-! ## neighbours of a fraction, by whole numbers alone -/
/-- low a/b and high c/d, side by side, t/m between them, bottoms at most N -/
structure Nb (t m N a b c d : Int) : Prop where
  b1 : 1 ≤ b
  d1 : 1 ≤ d
  bN : b ≤ N
  dN : d ≤ N
  g : c * b - a * d = 1
  u : 0 < t * b - a * m
  v : 0 < c * m - t * d
theorem no_frac {t m a b : Int} (hc : gcdI t m = 1) (hb : 1 ≤ b) (hm : b < m) : t * b - a * m ≠ 0 := by
  intro h
  have e : t * b = a * m := by omega
  have d1 : m ∣ t * b := ⟨a, by rw [e, Int.mul_comm]⟩
  have d2 : m.natAbs ∣ t.natAbs * b.natAbs := by
    rw [← Int.natAbs_mul]
    exact Int.natAbs_dvd_natAbs.mpr d1
  have cop : Nat.Coprime m.natAbs t.natAbs := by
    unfold gcdI at hc
    have : Nat.gcd t.natAbs m.natAbs = 1 := by exact_mod_cast hc
    rw [Nat.gcd_comm] at this
    exact this
  have d3 := cop.dvd_of_dvd_mul_left d2
  have l := Nat.le_of_dvd (by omega) d3
  omega
/-- the bottom of a number that lies between the two -/
theorem Nb.sum {t m N a b c d : Int} (h : Nb t m N a b c d) : m = (t * b - a * m) * d + (c * m - t * d) * b := by
  have g := h.g
  have e : (t * b - a * m) * d + (c * m - t * d) * b = m * (c * b - a * d) := by grind
  rw [e, g, Int.mul_one]
theorem Nb.top {t m N a b c d : Int} (h : Nb t m N a b c d) : t = (t * b - a * m) * c + (c * m - t * d) * a := by
  have g := h.g
  have e : (t * b - a * m) * c + (c * m - t * d) * a = t * (c * b - a * d) := by grind
  rw [e, g, Int.mul_one]
theorem mul_ge {x y : Int} (hx : 1 ≤ x) (hy : 0 ≤ y) : y ≤ x * y := by
  have := Int.mul_le_mul_of_nonneg_right hx hy
  omega
theorem Nb.big {t m N a b c d : Int} (h : Nb t m N a b c d) : b + d ≤ m := by
  have e := h.sum
  have x := mul_ge (x := t * b - a * m) (y := d) (by have := h.u; omega) (by have := h.d1; omega)
  have y := mul_ge (x := c * m - t * d) (y := b) (by have := h.v; omega) (by have := h.b1; omega)
  omega
/-- the other way round -/
theorem Nb.flip {t m N a b c d : Int} (h : Nb t m N a b c d) : Nb (-t) m N (-c) d (-a) b := by
  obtain ⟨h1, h2, h3, h4, h5, h6, h7⟩ := h
  refine ⟨h2, h1, h4, h3, ?_, ?_, ?_⟩ <;> grind
theorem nb_low {t m N a b c d a' b' c' d' : Int} (h : Nb t m N a b c d) (hs : N < b + d) (h' : Nb t m N a' b' c' d') : a' * b - a * b' ≤ 0 := by
  have hm : 0 < m := by have := h.big; have := h.b1; have := h.d1; omega
  have q : 0 < c * b' - a' * d := by
    have e : m * (c * b' - a' * d) = b' * (c * m - t * d) + d * (t * b' - a' * m) := by grind
    have p1 : 0 < b' * (c * m - t * d) := Int.mul_pos (by have := h'.b1; omega) h.v
    have p2 : 0 < d * (t * b' - a' * m) := Int.mul_pos (by have := h.d1; omega) h'.u
    have : 0 < m * (c * b' - a' * d) := by omega
    exact Int.pos_of_mul_pos_right this hm
  refine Int.not_lt.mp fun p => ?_
  have e : b' = (a' * b - a * b') * d + (c * b' - a' * d) * b := by
    have g := h.g
    have e : (a' * b - a * b') * d + (c * b' - a' * d) * b = b' * (c * b - a * d) := by grind
    rw [e, g, Int.mul_one]
  have x := mul_ge (x := a' * b - a * b') (y := d) (by omega) (by have := h.d1; omega)
  have y := mul_ge (x := c * b' - a' * d) (y := b) (by omega) (by have := h.b1; omega)
  have := h'.bN
  omega
theorem nb_lows {t m N a b c d a' b' c' d' : Int} (h : Nb t m N a b c d) (hs : N < b + d) (h' : Nb t m N a' b' c' d') (hs' : N < b' + d') : a' = a ∧ b' = b := by
  have p1 := nb_low h hs h'
  have p2 := nb_low h' hs' h
  have e : a' * b = a * b' := by
    have : a' * b - a * b' = -(a * b' - a' * b) := by grind
    omega
  have half : ∀ {a b c d a' b' : Int}, c * b - a * d = 1 → a' * b = a * b' → b' = (c * b' - a' * d) * b := by
    intro a b c d a' b' g e
    have z : (c * b' - a' * d) * b = b' * (c * b - a * d) + d * (a * b' - a' * b) := by grind
    rw [z, g, e]
    simp
  have e1 := half h.g e
  have e2 := half h'.g e.symm
  have b1 := h.b1
  have b1' := h'.b1
  have le1 : b ≤ b' := by
    have q : 1 ≤ c * b' - a' * d := by
      refine Int.not_lt.mp fun q => ?_
      have : (c * b' - a' * d) * b ≤ 0 := Int.mul_nonpos_of_nonpos_of_nonneg (by omega) (by omega)
      omega
    have := mul_ge q (show 0 ≤ b by omega)
    omega
  have le2 : b' ≤ b := by
    have q : 1 ≤ c' * b - a * d' := by
      refine Int.not_lt.mp fun q => ?_
      have : (c' * b - a * d') * b' ≤ 0 := Int.mul_nonpos_of_nonpos_of_nonneg (by omega) (by omega)
      omega
    have := mul_ge q (show 0 ≤ b' by omega)
    omega
  have eb : b' = b := by omega
  subst eb
  exact ⟨Int.eq_of_mul_eq_mul_right (by omega) e, rfl⟩
/-- there is just one such pair -/
theorem nb_one {t m N a b c d a' b' c' d' : Int} (h : Nb t m N a b c d) (hs : N < b + d) (h' : Nb t m N a' b' c' d') (hs' : N < b' + d') : a' = a ∧ b' = b ∧ c' = c ∧ d' = d := by
  obtain ⟨e1, e2⟩ := nb_lows h hs h' hs'
  obtain ⟨e3, e4⟩ := nb_lows h.flip (by omega) h'.flip (by omega)
  exact ⟨e1, e2, by omega, e4⟩
/-! ### the walk -/
theorem nb_start {t m N : Int} (hc : gcdI t m = 1) (hN : 1 ≤ N) (hm : N < m) : Nb t m N (t / m) 1 (t / m + 1) 1 := by
  have e := Int.mul_ediv_add_emod t m
  have r0 := Int.emod_nonneg t (show m ≠ 0 by omega)
  have r1 := Int.emod_lt_of_pos t (show 0 < m by omega)
  have z := no_frac (a := t / m) hc (show 1 ≤ 1 by omega) (show 1 < m by omega)
  have c1 : t / m * m = m * (t / m) := Int.mul_comm _ _
  have c2 : (t / m + 1) * m = m * (t / m) + m := by grind
  refine ⟨by omega, by omega, hN, hN, by grind, ?_, ?_⟩ <;> omega
/-- the low one goes on -/
theorem Nb.left {t m N a b c d s : Int} (h : Nb t m N a b c d) (hc : gcdI t m = 1) (hm : N < m) (s0 : 0 ≤ s) (s1 : s ≤ (N - b) / d) (s2 : s ≤ (t * b - a * m) / (c * m - t * d)) : Nb t m N (a + s * c) (b + s * d) c d := by
  have hd := h.d1
  have l1 : s * d ≤ N - b := Int.le_trans (Int.mul_le_mul_of_nonneg_right s1 (by omega)) (Int.ediv_mul_le _ (by omega))
  have l2 : s * (c * m - t * d) ≤ t * b - a * m := Int.le_trans (Int.mul_le_mul_of_nonneg_right s2 (by have := h.v; omega)) (Int.ediv_mul_le _ (by have := h.v; omega))
  have sd : 0 ≤ s * d := Int.mul_nonneg s0 (by omega)
  have b1 := h.b1
  have eu : t * (b + s * d) - (a + s * c) * m = (t * b - a * m) - s * (c * m - t * d) := by grind
  have nz := no_frac (a := a + s * c) hc (show 1 ≤ b + s * d by omega) (show b + s * d < m by omega)
  refine ⟨by omega, hd, by omega, h.dN, ?_, ?_, h.v⟩
  · have g := h.g
    have : c * (b + s * d) - (a + s * c) * d = c * b - a * d := by grind
    omega
  · omega
theorem Nb.right {t m N a b c d s : Int} (h : Nb t m N a b c d) (hc : gcdI t m = 1) (hm : N < m) (s0 : 0 ≤ s) (s1 : s ≤ (N - d) / b) (s2 : s ≤ (c * m - t * d) / (t * b - a * m)) : Nb t m N a b (c + s * a) (d + s * b) := by
  have hc' : gcdI (-t) m = 1 := by
    unfold gcdI at hc ⊢
    rw [Int.natAbs_neg]
    exact hc
  have e1 : -t * d - -c * m = c * m - t * d := by grind
  have e2 : -a * m - -t * b = t * b - a * m := by grind
  have k := (h.flip.left (s := s) hc' hm s0 s1 (by rw [e1, e2]; exact s2)).flip
  have e3 : - -t = t := by omega
  have e4 : - -a = a := by omega
  have e5 : -(-c + s * -a) = c + s * a := by grind
  rw [e3, e4, e5] at k
  exact k
/-- the two go on -/
theorem nb_on {t m N a b c d s r : Int} (h : Nb t m N a b c d) (hs : s = min ((N - b) / d) ((t * b - a * m) / (c * m - t * d))) (hl : b + d ≤ N)
    (hr : r = min ((N - d) / (b + s * d)) ((c * m - t * d) / (t * (b + s * d) - (a + s * c) * m))) (h1 : Nb t m N (a + s * c) (b + s * d) c d) : 0 ≤ s ∧ 0 ≤ r ∧ (0 < s ∨ 0 < r) := by
  have q0 : 0 ≤ (N - b) / d := Int.ediv_nonneg (by have := h.bN; omega) (by have := h.d1; omega)
  have q1 : 1 ≤ (N - b) / d := by
    refine (Int.le_ediv_iff_mul_le (by have := h.d1; omega)).mpr ?_
    omega
  have q2 : 0 ≤ (t * b - a * m) / (c * m - t * d) := Int.ediv_nonneg (by have := h.u; omega) (by have := h.v; omega)
  have r0 : 0 ≤ (N - d) / (b + s * d) := Int.ediv_nonneg (by have := h.dN; omega) (by have := h1.b1; omega)
  have r2 : 0 ≤ (c * m - t * d) / (t * (b + s * d) - (a + s * c) * m) := Int.ediv_nonneg (by have := h.v; omega) (by have := h1.u; omega)
  have s0 : 0 ≤ s := by omega
  refine ⟨s0, by omega, ?_⟩
  by_cases hz : 0 < s
  · exact .inl hz
  · right
    have z : s = 0 := by omega
    subst z
    have e0 : (t * b - a * m) / (c * m - t * d) = 0 := by omega
    have lt : t * b - a * m < c * m - t * d := by
      have := h.v
      have hh := Int.lt_mul_ediv_self_add (x := t * b - a * m) this
      rw [e0] at hh
      simpa using hh
    have e1 : t * (b + 0 * d) - (a + 0 * c) * m = t * b - a * m := by grind
    have e2 : b + 0 * d = b := by grind
    rw [e1, e2] at hr
    have k1 : 1 ≤ (N - d) / b := (Int.le_ediv_iff_mul_le (by have := h.b1; omega)).mpr (by omega)
    have k2 : 1 ≤ (c * m - t * d) / (t * b - a * m) := (Int.le_ediv_iff_mul_le h.u).mpr (by omega)
    omega
end Vg
namespace Vg
open PySem PySem.Spec PyProof.Rows L2
/-- a def with a star parameter, as its callers know it -/
structure Fr (P : Program) (w : World) (K : PySem.W.Frag) (mg : Str → Option Value) (base : Heap) (k : Nat) (x : Str) (sp : Sp) : Prop where
  ex : ∃ f : Addr, mg x = some (.ref f) ∧ PySem.W.keepIn K (.ref f) = true ∧ FnR P w K mg base CX0 k f sp
theorem At.fr {P : Program} {w : World} {K : PySem.W.Frag} {mg : Str → Option Value} {base : Heap} {k : Nat} {x : Str} {st : Stmt} {N : List Str} {pv : Str} {sp : Sp} (D : At K mg x st) (S : FnScope N [pv] (defScope st))
    (hb : ∀ (kV doc pm : Value) (an : Option Addr) (cdv ct : Value) (us : List Value),
      bindArgs (PySem.W.fnOf x x (defArgs st) (defBody st) (defScope st) .none kV doc pm an cdv ct) ⟨us, []⟩ = (newTuple us >>= fun t => pure [(pv, t)]))
    (body : ∀ (f : Addr) (cdv : Value) (A : Around) (outer : List Env) (s : Shared) (H : Hp) (vs : List V) (Q : VK) (E : XK),
      Room k (A.deeper (envOfC x (defScope st) s.heap.objs.size f cdv)) → sp vs H Q E →
      ∃ t, PSs (cxOf CX0 P w K mg base N x (defScope st) f cdv A outer s H E).nox (defBody st) t ∧ t { nx := fun _ H' => Q .non H', rt := Q } (start N vs) H) :
    Fr P w K mg base (k + 1) x (fun vs H Q E => vs.length ≤ sizeLine ∧ ∀ p, H p = none → sp [V.ref p] (upd H p (.tup vs)) Q E) := by
  obtain ⟨f, fd, hm, F⟩ := D.ex
  have kp := F.kp
  obtain ⟨oc, od, kV, doc, pm, an, cdv, ct, osl, rfl, lk, hcd⟩ := F.ex
  refine ⟨f, hm, kp, ?_⟩
  have Z := StX.fn_star (P := P) (w := w) (mg := mg) (base := base) (k := k) (ps := []) (pv := pv) (sp := sp) lk hcd S StX.cxUp_none (fun us rest hl => by
    have e : us = [] := List.length_eq_zero_iff.mp hl
    subst e
    exact hb kV doc pm an cdv ct rest) fun A outer s H vs Q E hr h => by
      obtain ⟨t, h1, h2⟩ := body f cdv A outer s H vs Q E hr h
      exact ⟨t, h1.nox, h2⟩
  exact Z.imp fun vs H Q E ⟨h1, h2⟩ => ⟨[], vs, rfl, rfl, h1, h2⟩
theorem pe_fr {X : Cx} {k : Nat} {sp : Sp} {E : XK} {x : Str} {p pos : Pos} {e : Expr} {es : List Expr} {t : TA} (F : Fr X.prog X.w X.K X.mg X.base k x sp) (hr : Room k X.A) (hg : Gl X x) (hx : Passes CX0 X E) (ha : PA X (e :: es) t)
    (hdb : (x == ("__debug__" : Str)) = false := by decide) (he : starEach (e :: es) X.env = (false, eval e X.env) :: starEach es X.env := by rfl)
    (hpl : (backTo pos (starEach es X.env)).any (·.1) = false := by rfl) : PE X (.Call (.Name x p) (e :: es) [] pos) (tCall sp [] E t) := by
  obtain ⟨f, hm, hk, F⟩ := F.ex
  constructor
  intro pins s σ H Q I h
  apply wpAny_Call_Name_kw
  apply ld_glob I hg hm ?_ hdb
  refine PySem.W.callWith_K (h₀ := X.base) I.ok.mod.kin hk ?_ he hpl
  refine thn (ha.run pos pins s σ H _ I h) ?_
  rintro us s1 ⟨vs, H1, I1, r, q⟩
  refine ⟨I1.kIn, ?_⟩
  have q' : sp vs H1 Q E := by
    have q0 : sp (vs ++ []) H1 Q E := q
    rw [List.append_nil] at q0
    exact q0
  refine wpAny_call (codeAny_mono (F X.A X.stack s1 H1 us vs Q E hr I1.env0 r q') fun r s' hq => ?_)
  match r, hq with
  | .error e, hq => exact hx pins σ H1 s1 e s' I1 hq
  | .ok (.ret u), hq => exact I1.after hq
  | .ok .next, hq => exact False.elim hq
  | .ok .brk, hq => exact False.elim hq
  | .ok .cont, hq => exact False.elim hq
/-! ## whole numbers of not too many figures -/
def Bd (z : Int) : Prop := -10000000000000000000000000000000000000000 ≤ z ∧ z ≤ 10000000000000000000000000000000000000000
theorem Bd.nat {z : Int} (h : Bd z) : z.natAbs < 2 ^ 140 := by
  have h' : z.natAbs ≤ 10000000000000000000000000000000000000000 := by
    unfold Bd at h
    omega
  exact Nat.lt_of_le_of_lt h' (by decide)
theorem Bd.mul {i j : Int} (hi : Bd i) (hj : Bd j) : CMulW i j := wide_mul hi.nat hj.nat (by decide) (by decide) (by decide)
theorem Bd.div {i j : Int} (h : 0 < j) (hj : Bd j) : CDivW i j := wide_div h hj.nat (by decide) (by decide)
theorem Bd.muls {i j k : Int} (hi : Bd i) (hj : Bd j) (hk : Bd k) : CMulW (i * j) k := wide_mul (wide_lt hi.nat hj.nat) hk.nat (by decide) (by decide) (by decide)
theorem mulB {a b c : Nat} {i j : Int} (hi : i.natAbs < 2 ^ a) (hj : j.natAbs < 2 ^ b) : (i * j).natAbs < 2 ^ (a + b) := wide_lt hi hj
/-- what a fraction between the two has for them -/
theorem Nb.uv {t m N a b c d : Int} (h : Nb t m N a b c d) : t * b - a * m ≤ m ∧ c * m - t * d ≤ m := by
  have e := h.sum
  have u := h.u
  have v := h.v
  have x := mul_ge (x := d) (y := t * b - a * m) h.d1 (by omega)
  have y := mul_ge (x := b) (y := c * m - t * d) h.b1 (by omega)
  have x0 : (t * b - a * m) * d = d * (t * b - a * m) := Int.mul_comm _ _
  have y0 : (c * m - t * d) * b = b * (c * m - t * d) := Int.mul_comm _ _
  omega
theorem Nb.lowB {t m N a b c d T : Int} (h : Nb t m N a b c d) (h1 : -T ≤ t) (h2 : t ≤ T) (hm : N < m) : -(T + 2) ≤ a ∧ a ≤ T := by
  have u := h.u
  have uu := h.uv.1
  have b1 := h.b1
  have bN := h.bN
  have k1 : t * b ≤ T * b := Int.mul_le_mul_of_nonneg_right h2 (by omega)
  have k2 : -T * b ≤ t * b := Int.mul_le_mul_of_nonneg_right h1 (by omega)
  have k3 : T * b ≤ T * m := Int.mul_le_mul_of_nonneg_left (by omega) (by omega)
  have k4 : -T * b = -(T * b) := Int.neg_mul _ _
  constructor
  · refine Int.not_lt.mp fun z => ?_
    have k5 : a * m ≤ (-(T + 3)) * m := Int.mul_le_mul_of_nonneg_right (by omega) (by omega)
    have k6 : (-(T + 3)) * m = -(T * m) - 3 * m := by grind
    omega
  · refine Int.not_lt.mp fun z => ?_
    have k5 : (T + 1) * m ≤ a * m := Int.mul_le_mul_of_nonneg_right (by omega) (by omega)
    have k6 : (T + 1) * m = T * m + m := by grind
    omega
theorem Nb.highB {t m N a b c d T : Int} (h : Nb t m N a b c d) (h1 : -T ≤ t) (h2 : t ≤ T) (hm : N < m) : -T ≤ c ∧ c ≤ T + 2 := by
  have z := h.flip.lowB (T := T) (by omega) (by omega) hm
  omega
/-- the number between the two -/
theorem Nb.mid0 {t m N a b c d : Int} (h : Nb t m N a b c d) (hc : gcdI t m = 1) (e : t * (b + d) - (a + c) * m = 0) : t = a + c ∧ m = b + d := by
  have big := h.big
  have b1 := h.b1
  have d1 := h.d1
  have em : m = b + d := by
    refine Int.le_antisymm (Int.not_lt.mp fun z => ?_) big
    exact no_frac (a := a + c) hc (show 1 ≤ b + d by omega) z e
  refine ⟨?_, em⟩
  rw [← em] at e
  exact Int.eq_of_mul_eq_mul_right (show m ≠ 0 by omega) (by omega)
theorem Nb.midB {t m N a b c d : Int} (h : Nb t m N a b c d) (e : t * (b + d) - (a + c) * m ≠ 0) : b + d < m := by
  have s := h.sum
  have u := h.u
  have v := h.v
  have b1 := h.b1
  have d1 := h.d1
  have ee : t * (b + d) - (a + c) * m = (t * b - a * m) - (c * m - t * d) := by grind
  generalize t * b - a * m = U at *
  generalize c * m - t * d = W at *
  have x := mul_ge (x := U) (y := d) (by omega) (by omega)
  have y := mul_ge (x := W) (y := b) (by omega) (by omega)
  by_cases hu : 2 ≤ U
  · have x2 : 2 * d ≤ U * d := Int.mul_le_mul_of_nonneg_right hu (by omega)
    omega
  · have x2 : 2 * b ≤ W * b := Int.mul_le_mul_of_nonneg_right (by omega) (by omega)
    omega
theorem Nb.midL {t m N a b c d : Int} (h : Nb t m N a b c d) (e : 0 < t * (b + d) - (a + c) * m) : Nb t m (b + d) (a + c) (b + d) c d := by
  have b1 := h.b1
  have d1 := h.d1
  have g := h.g
  exact ⟨by omega, d1, by omega, by omega, by grind, e, h.v⟩
theorem Nb.midH {t m N a b c d : Int} (h : Nb t m N a b c d) (e : t * (b + d) - (a + c) * m < 0) : Nb t m (b + d) a b (a + c) (b + d) := by
  have b1 := h.b1
  have d1 := h.d1
  have g := h.g
  exact ⟨b1, by omega, by omega, by omega, by grind, h.u, by grind⟩
theorem Nb.at {t m N N' a b c d : Int} (h : Nb t m N a b c d) (h1 : b ≤ N') (h2 : d ≤ N') : Nb t m N' a b c d := ⟨h.b1, h.d1, h1, h2, h.g, h.u, h.v⟩
/-! ## fractions, pairs of fractions on the heap -/
abbrev FrT (H : Hp) (p : Addr) (i j : Int) : Prop := H p = some (.tup [.int i, .int j])
abbrev PrT (H : Hp) (p q r : Addr) : Prop := H p = some (.tup [.ref q, .ref r])
def frD (i j : Int) : PyData := .tuple [.int i, .int j]
def prD (a b c d : Int) : PyData := .tuple [frD a b, frD c d]
theorem FrT.dk {H : Hp} {p : Addr} {i j : Int} (h : FrT H p i j) : Dk H (.ref p) (frD i j) := ⟨fun _ => True, .tup trivial h (.cons (.int i) (.cons (.int j) .nil))⟩
theorem FrT.dp {K : PySem.W.Frag} {H : Hp} {p : Addr} {i j : Int} (h : FrT H p i j) : Dp K H (.ref p) (frD i j) := .tup (SqT.of h) (.cons (.int i) (.cons (.int j) .nil))
theorem PrT.dp {K : PySem.W.Frag} {H : Hp} {p q r : Addr} {a b c d : Int} (h : PrT H p q r) (hq : FrT H q a b) (hr : FrT H r c d) : Dp K H (.ref p) (prD a b c d) := .tup (SqT.of h) (.cons (FrT.dp hq) (.cons (FrT.dp hr) .nil))
theorem fr_shaped (i j : Int) : SeqAt.shaped (frD i j) = true := by rfl
theorem pr_shaped (a b c d : Int) : SeqAt.shaped (prD a b c d) = true := by rfl
theorem fr_eqv (i j : Int) : PyData.eqv (frD i j) (frD i j) = true := by simp [frD, PyData.eqv, PyData.eqvAll]
theorem pr_eqv (a b c d : Int) : PyData.eqv (prD a b c d) (prD a b c d) = true := by simp [prD, frD, PyData.eqv, PyData.eqvAll]
end Vg
namespace Vg
open PySem PySem.Spec PyProof.Rows L2
def Sm (z : Int) : Prop := -1000000000000000000000000000000000000000 ≤ z ∧ z ≤ 1000000000000000000000000000000000000000
theorem Sm.bd {z : Int} (h : Sm z) : Bd z := by
  unfold Sm at h
  unfold Bd
  omega
/-- a fraction among those of a tuple -/
def FrV (H : Hp) (x : V) : Prop := ∃ q i j, x = .ref q ∧ FrT H q i j ∧ 1 ≤ j ∧ gcdI i j = 1
theorem FrV.same {H H' : Hp} {x : V} (h : FrV H x) (s : Same H H') : FrV H' x := by
  obtain ⟨q, i, j, e, f, r⟩ := h
  exact ⟨q, i, j, e, s _ _ f, r⟩
def spNeed0 : Sp := fun vs H Q _ => ∃ (p : Addr) (xs : List V), vs = [.ref p] ∧ H p = some (.tup xs) ∧ (∀ x ∈ xs, FrV H x) ∧ ∀ H', Same H H' → Q .non H'
def spNeed : Sp := fun vs H Q E => vs.length ≤ sizeLine ∧ ∀ p, H p = none → spNeed0 [V.ref p] (upd H p (.tup vs)) Q E
theorem need_by {vs : List V} {H : Hp} {Q : VK} {E : XK} (hl : vs.length ≤ sizeLine) (h : ∀ x ∈ vs, FrV H x) (q : ∀ H', Same H H' → Q .non H') : spNeed vs H Q E :=
  ⟨hl, fun p hp => ⟨p, vs, rfl, upd_same, fun x hx => (h x hx).same (Same.new hp), fun H' s => q H' ((Same.new hp).trans s)⟩⟩
/-- the two neighbours of t/m under N: itself twice, or those beside it -/
def NbX (t m N a b c d : Int) : Prop := (m ≤ N ∧ a = t ∧ b = m ∧ c = t ∧ d = m) ∨ (N < m ∧ Nb t m N a b c d ∧ N < b + d)
theorem NbX.one {t m N a b c d a' b' c' d' : Int} (h : NbX t m N a b c d) (h' : NbX t m N a' b' c' d') : a' = a ∧ b' = b ∧ c' = c ∧ d' = d := by
  rcases h with ⟨l, rfl, rfl, rfl, rfl⟩ | ⟨l, n, s⟩ <;> rcases h' with ⟨l', rfl, rfl, rfl, rfl⟩ | ⟨l', n', s'⟩
  · exact ⟨rfl, rfl, rfl, rfl⟩
  · omega
  · omega
  · exact nb_one n s n' s'
structure Bds (t m a b c d : Int) : Prop where
  bt : Bd t
  bm : Bd m
  ba : Bd a
  bb : Bd b
  bc : Bd c
  bd : Bd d
  u0 : 0 ≤ t * b - a * m
  u1 : Bd (t * b - a * m)
  v0 : 0 ≤ c * m - t * d
  v1 : Bd (c * m - t * d)
theorem Nb.bds {t m N a b c d : Int} (h : Nb t m N a b c d) (hm : N < m) (ht : Sm t) (hM : Sm m) : Bds t m a b c d := by
  have l := h.lowB (T := 1000000000000000000000000000000000000000) ht.1 ht.2 hm
  have g := h.highB (T := 1000000000000000000000000000000000000000) ht.1 ht.2 hm
  have uv := h.uv
  have u := h.u
  have v := h.v
  have b1 := h.b1
  have d1 := h.d1
  have bN := h.bN
  have dN := h.dN
  have m1 := hM.1
  have m2 := hM.2
  refine ⟨ht.bd, hM.bd, ?_, ?_, ?_, ?_, by omega, ?_, by omega, ?_⟩ <;> (unfold Bd; omega)
theorem NbX.bds {t m N a b c d : Int} (h : NbX t m N a b c d) (ht : Sm t) (hM : Sm m) : Bds t m a b c d := by
  rcases h with ⟨l, rfl, rfl, rfl, rfl⟩ | ⟨l, n, s⟩
  · have e : c * d - c * d = 0 := by omega
    have z : Bd 0 := by
      unfold Bd
      omega
    exact ⟨ht.bd, hM.bd, ht.bd, hM.bd, ht.bd, hM.bd, by omega, e ▸ z, by omega, e ▸ z⟩
  · exact n.bds l ht hM
theorem NbX.pos {t m N a b c d : Int} (h : NbX t m N a b c d) (hm : 1 ≤ m) : 1 ≤ b ∧ 1 ≤ d := by
  rcases h with ⟨l, rfl, rfl, rfl, rfl⟩ | ⟨l, n, s⟩
  · exact ⟨hm, hm⟩
  · exact ⟨n.b1, n.d1⟩
/-- whether the low one is the nearer one -/
def nearB (t m a b c d : Int) : Bool := if (t * b - a * m) * d = (c * m - t * d) * b then decide (b ≤ d) else decide ((t * b - a * m) * d < (c * m - t * d) * b)
def spStrict : Sp := fun vs H Q _ => ∃ (p : Addr) (t m N : Int), vs = [.ref p, .int N] ∧ FrT H p t m ∧ gcdI t m = 1 ∧ 1 ≤ N ∧ N < m ∧ Sm t ∧ Sm m ∧
  ∀ (a b c d : Int) (q r s : Addr) (H' : Hp), NbX t m N a b c d → Same H H' → FrT H' q a b → FrT H' r c d → PrT H' s q r → Q (.ref s) H'
def spNbrs : Sp := fun vs H Q _ => ∃ (p : Addr) (t m N : Int), vs = [.ref p, .int N] ∧ FrT H p t m ∧ gcdI t m = 1 ∧ 1 ≤ N ∧ 1 ≤ m ∧ Sm t ∧ Sm m ∧
  ∀ (a b c d : Int) (q r s : Addr) (H' : Hp), NbX t m N a b c d → Same H H' → FrT H' q a b → FrT H' r c d → PrT H' s q r → Q (.ref s) H'
def spNearest : Sp := fun vs H Q _ => ∃ (p : Addr) (t m N : Int), vs = [.ref p, .int N] ∧ FrT H p t m ∧ gcdI t m = 1 ∧ 1 ≤ N ∧ 1 ≤ m ∧ Sm t ∧ Sm m ∧
  ∀ (a b c d : Int) (q : Addr) (H' : Hp), NbX t m N a b c d → Same H H' → FrT H' q (if nearB t m a b c d = true then a else c) (if nearB t m a b c d = true then b else d) → Q (.ref q) H'
/-- the nearer one of a told pair -/
def spNearL : Sp := fun vs H Q _ => ∃ (p x q r : Addr) (t m a b c d : Int), vs = [.ref p, .ref x] ∧ PrT H p q r ∧ FrT H q a b ∧ FrT H r c d ∧ FrT H x t m ∧ Bds t m a b c d ∧
  ∀ (y : Addr), FrT H y (if nearB t m a b c d = true then a else c) (if nearB t m a b c d = true then b else d) → Q (.ref y) H
def spGap : Sp := fun vs H Q _ => ∃ (x y : Addr) (a b c d : Int), vs = [.ref x, .ref y] ∧ FrT H x a b ∧ FrT H y c d ∧ Bd a ∧ Bd b ∧ Bd c ∧ Bd d ∧ Q (.int (c * b - a * d)) H
theorem min_if (i j : Int) : (if j < i then j else i) = min i j := by
  split <;> omega
end Vg
namespace Vg
open PySem PySem.Spec PyProof.Rows L2
theorem gcd_of {a b c d : Int} (g : c * b - a * d = 1) : gcdI a b = 1 := by
  unfold gcdI
  have d1 : ((Nat.gcd a.natAbs b.natAbs : Nat) : Int) ∣ a := Int.ofNat_dvd_left.mpr (Nat.gcd_dvd_left _ _)
  have d2 : ((Nat.gcd a.natAbs b.natAbs : Nat) : Int) ∣ b := Int.ofNat_dvd_left.mpr (Nat.gcd_dvd_right _ _)
  have d3 : ((Nat.gcd a.natAbs b.natAbs : Nat) : Int) ∣ 1 := by
    rw [← g]
    exact Int.dvd_sub (Int.dvd_mul_of_dvd_right d2) (Int.dvd_mul_of_dvd_left d1)
  have d4 := Int.ofNat_dvd_left.mp d3
  have d5 := Nat.dvd_one.mp d4
  rw [d5]
  rfl
theorem NbX.gcds {t m N a b c d : Int} (h : NbX t m N a b c d) (hc : gcdI t m = 1) : gcdI a b = 1 ∧ gcdI c d = 1 := by
  rcases h with ⟨l, rfl, rfl, rfl, rfl⟩ | ⟨l, n, s⟩
  · exact ⟨hc, hc⟩
  · refine ⟨gcd_of n.g, ?_⟩
    have g := n.g
    have e : (-a) * d - c * (-b) = 1 := by grind
    exact gcd_of e
theorem gcd_divs {a b : Int} (hb : 1 ≤ b) : gcdI (a / gcdI a b) (b / gcdI a b) = 1 ∧ 1 ≤ gcdI a b ∧ 1 ≤ b / gcdI a b := by
  have hg : 0 < Nat.gcd a.natAbs b.natAbs := Nat.gcd_pos_of_pos_right _ (by omega)
  have d1 : ((Nat.gcd a.natAbs b.natAbs : Nat) : Int) ∣ a := Int.ofNat_dvd_left.mpr (Nat.gcd_dvd_left _ _)
  have d2 : ((Nat.gcd a.natAbs b.natAbs : Nat) : Int) ∣ b := Int.ofNat_dvd_left.mpr (Nat.gcd_dvd_right _ _)
  have e1 : (a / gcdI a b).natAbs = a.natAbs / Nat.gcd a.natAbs b.natAbs := by
    unfold gcdI
    rw [Int.natAbs_ediv_of_dvd d1]
    rfl
  have e2 : (b / gcdI a b).natAbs = b.natAbs / Nat.gcd a.natAbs b.natAbs := by
    unfold gcdI
    rw [Int.natAbs_ediv_of_dvd d2]
    rfl
  refine ⟨?_, ?_, ?_⟩
  · show ((Nat.gcd (a / gcdI a b).natAbs (b / gcdI a b).natAbs : Nat) : Int) = 1
    rw [e1, e2, Nat.coprime_div_gcd_div_gcd hg]
    rfl
  · unfold gcdI
    omega
  · refine (Int.le_ediv_iff_mul_le (by unfold gcdI; omega)).mpr ?_
    have := Int.le_of_dvd (by omega) d2
    unfold gcdI
    omega
theorem div_small {a g T : Int} (hg : 1 ≤ g) (h1 : -T ≤ a) (h2 : a ≤ T) (hT : 0 ≤ T) : -T ≤ a / g ∧ a / g ≤ T := by
  constructor
  · refine (Int.le_ediv_iff_mul_le (by omega)).mpr ?_
    have := mul_ge hg hT
    have e : -T * g = -(g * T) := by grind
    omega
  · by_cases h0 : 0 ≤ a
    · exact Int.le_trans (Int.ediv_le_self _ h0) h2
    · have : a / g < 0 := Int.ediv_neg_of_neg_of_pos (by omega) (by omega)
      omega
def spIsF : Sp := fun vs H Q _ => ∃ (p : Addr) (i j : Int), vs = [.ref p] ∧ FrT H p i j ∧ 1 ≤ j ∧ gcdI i j = 1 ∧ ∀ H', Same H H' → Q (.bl true) H'
def spShown : Sp := fun vs H Q _ => ∃ (s x q r : Addr) (t m N a b c d : Int), vs = [.ref s, .ref x, .int N] ∧ PrT H s q r ∧ FrT H q a b ∧ FrT H r c d ∧ FrT H x t m ∧ gcdI t m = 1 ∧ 1 ≤ m ∧ Sm t ∧ Sm m ∧ NbX t m N a b c d ∧
  ∀ H', Same H H' → Q (.bl true) H'
def spTurns : Sp := fun vs H Q _ => ∃ (s x q r : Addr) (t m N a b c d : Int), vs = [.ref s, .ref x] ∧ PrT H s q r ∧ FrT H q a b ∧ FrT H r c d ∧ FrT H x t m ∧ gcdI t m = 1 ∧ 1 ≤ N ∧ Sm t ∧ Sm m ∧ N < m ∧ Nb t m N a b c d ∧ N < b + d ∧
  ∀ H', Same H H' → Q (.bl true) H'
def spMade : Sp := fun vs H Q _ => ∃ (a b : Int), vs = [.int a, .int b] ∧ Sm a ∧ Sm b ∧ 1 ≤ b ∧ ∀ (q : Addr) (t m : Int) (H' : Hp), gcdI t m = 1 → 1 ≤ m → Sm t → Sm m → Same H H' → FrT H' q t m → Q (.ref q) H'
def spDigits : Sp := fun vs H Q _ => ∃ (p : Addr) (k n : Nat), vs = [.ref p, .int k] ∧ k ≤ 30 ∧ Pz H p (n + k) ∧ ∀ (z : Int) (H' : Hp), 0 ≤ z → z < 1000000000000000000000000000000 → But p H H' → Pz H' p n → Q (.int z) H'
def spFraction : Sp := fun vs H Q _ => ∃ (p : Addr) (n : Nat), vs = [.ref p] ∧ Pz H p (n + 200) ∧ ∀ (q : Addr) (t m : Int) (H' : Hp), gcdI t m = 1 → 1 ≤ m → Sm t → Sm m → But p H H' → Pz H' p n → FrT H' q t m → Q (.ref q) H'
def spBound : Sp := fun vs H Q _ => ∃ (p x : Addr) (t m : Int) (n : Nat), vs = [.ref p, .ref x] ∧ FrT H x t m ∧ Pz H p (n + 50) ∧ ∀ (N : Int) (H' : Hp), 1 ≤ N → But p H H' → Pz H' p n → Q (.int N) H'
def rIsi (K : PySem.W.Frag) : List V → Hp → VK → Prop := fun xs H Q => ∃ x n c b, xs = [x, .ty c] ∧ Tn K H x n ∧ kitB n c = some b ∧ Q (.bl b) H
theorem cr_isiB {X : Cx} {K : PySem.W.Frag} (h : X.K = K := by rfl) : CallR X (.builtin "isinstance") (rIsi K) := by
  subst h
  exact cr_isi
def yes (n : Nat) : List V := (List.replicate n true).map V.bl
theorem yes_on (n : Nat) : yes n ++ [V.bl true] = yes (n + 1) := by
  unfold yes
  rw [List.replicate_succ', List.map_append]
  rfl
theorem yes_len (n : Nat) : (yes n).length = n := by
  unfold yes
  simp
theorem yes_all (n : Nat) : (List.replicate n true).all id = true := by simp
end Vg
namespace My
open PySem PySem.Spec PyProof.Rows L2 Vg
def top (i : Nat) : Stmt := PySem.Challenge.pw_termstream_k15_whole_neighbours.main.body.getD i (.Pass ⟨0, 0, 0, 0⟩)
abbrev s_is_number : Stmt := top 6
abbrev s_is_pair : Stmt := top 7
abbrev s_is_fraction : Stmt := top 9
abbrev s_need_fractions : Stmt := top 10
abbrev s_neighbours : Stmt := top 12
abbrev s_strict_neighbours : Stmt := top 13
abbrev s_nearest : Stmt := top 14
abbrev s_law_cell : Stmt := top 16
abbrev s_law_purse : Stmt := top 17
abbrev s_law_take : Stmt := top 18
abbrev s_law_common : Stmt := top 19
abbrev s_law_made : Stmt := top 20
abbrev s_law_digits : Stmt := top 21
abbrev s_law_fraction : Stmt := top 22
abbrev s_law_bound : Stmt := top 23
abbrev s_law_is_fraction : Stmt := top 24
abbrev s_law_gap : Stmt := top 25
abbrev s_law_shown : Stmt := top 26
abbrev s_law_near : Stmt := top 27
abbrev s_law_turns_right : Stmt := top 28
abbrev s_law : Stmt := top 29
abbrev N_is_number : List Str := ["thing"]
theorem sc_is_number : FnScope N_is_number ["thing"] (defScope s_is_number) := ⟨rfl, rfl, rfl, by decide +kernel, rfl, by decide +kernel, by decide +kernel⟩
abbrev N_is_pair : List Str := ["thing"]
theorem sc_is_pair : FnScope N_is_pair ["thing"] (defScope s_is_pair) := ⟨rfl, rfl, rfl, by decide +kernel, rfl, by decide +kernel, by decide +kernel⟩
abbrev N_is_fraction : List Str := ["thing", "top", "bottom"]
theorem sc_is_fraction : FnScope N_is_fraction ["thing"] (defScope s_is_fraction) := ⟨rfl, rfl, rfl, by decide +kernel, rfl, by decide +kernel, by decide +kernel⟩
abbrev N_need_fractions : List Str := ["things", "thing"]
theorem sc_need_fractions : FnScope N_need_fractions ["things"] (defScope s_need_fractions) := ⟨rfl, rfl, rfl, by decide +kernel, rfl, by decide +kernel, by decide +kernel⟩
abbrev N_neighbours : List Str := ["fraction", "bound"]
theorem sc_neighbours : FnScope N_neighbours ["fraction", "bound"] (defScope s_neighbours) := ⟨rfl, rfl, rfl, by decide +kernel, rfl, by decide +kernel, by decide +kernel⟩
abbrev N_strict_neighbours : List Str := ["fraction", "bound", "top", "bottom", "a", "b", "c", "d", "steps"]
theorem sc_strict_neighbours : FnScope N_strict_neighbours ["fraction", "bound"] (defScope s_strict_neighbours) := ⟨rfl, rfl, rfl, by decide +kernel, rfl, by decide +kernel, by decide +kernel⟩
abbrev N_nearest : List Str := ["fraction", "bound", "low", "high", "top", "bottom", "below", "above"]
theorem sc_nearest : FnScope N_nearest ["fraction", "bound"] (defScope s_nearest) := ⟨rfl, rfl, rfl, by decide +kernel, rfl, by decide +kernel, by decide +kernel⟩
abbrev N_law_cell : List Str := ["_law_script", "_law_k"]
theorem sc_law_cell : FnScope N_law_cell ["_law_script", "_law_k"] (defScope s_law_cell) := ⟨rfl, rfl, rfl, by decide +kernel, rfl, by decide +kernel, by decide +kernel⟩
abbrev N_law_purse : List Str := ["_law_cell_here"]
theorem sc_law_purse : FnScope N_law_purse ["_law_cell_here"] (defScope s_law_purse) := ⟨rfl, rfl, rfl, by decide +kernel, rfl, by decide +kernel, by decide +kernel⟩
abbrev N_law_take : List Str := ["_law_purse_here", "_law_many", "_law_digit", "_law_one", "_law_other"]
theorem sc_law_take : FnScope N_law_take ["_law_purse_here", "_law_many"] (defScope s_law_take) := ⟨rfl, rfl, rfl, by decide +kernel, rfl, by decide +kernel, by decide +kernel⟩
abbrev N_law_common : List Str := ["_law_one", "_law_other"]
theorem sc_law_common : FnScope N_law_common ["_law_one", "_law_other"] (defScope s_law_common) := ⟨rfl, rfl, rfl, by decide +kernel, rfl, by decide +kernel, by decide +kernel⟩
abbrev N_law_made : List Str := ["_law_top", "_law_bottom", "_law_by"]
theorem sc_law_made : FnScope N_law_made ["_law_top", "_law_bottom"] (defScope s_law_made) := ⟨rfl, rfl, rfl, by decide +kernel, rfl, by decide +kernel, by decide +kernel⟩
abbrev N_law_digits : List Str := ["_law_purse_here", "_law_figures", "_law_found", "_law_k"]
theorem sc_law_digits : FnScope N_law_digits ["_law_purse_here", "_law_figures"] (defScope s_law_digits) := ⟨rfl, rfl, rfl, by decide +kernel, rfl, by decide +kernel, by decide +kernel⟩
abbrev N_law_fraction : List Str := ["_law_purse_here", "_law_way", "_law_top", "_law_bottom", "_law_many", "_law_great", "_law_k", "_law_whole"]
theorem sc_law_fraction : FnScope N_law_fraction ["_law_purse_here"] (defScope s_law_fraction) := ⟨rfl, rfl, rfl, by decide +kernel, rfl, by decide +kernel, by decide +kernel⟩
abbrev N_law_bound : List Str := ["_law_purse_here", "_law_fraction_here", "_law_way"]
theorem sc_law_bound : FnScope N_law_bound ["_law_purse_here", "_law_fraction_here"] (defScope s_law_bound) := ⟨rfl, rfl, rfl, by decide +kernel, rfl, by decide +kernel, by decide +kernel⟩
abbrev N_law_is_fraction : List Str := ["_law_thing", "_law_part"]
theorem sc_law_is_fraction : FnScope N_law_is_fraction ["_law_thing"] (defScope s_law_is_fraction) := ⟨rfl, rfl, rfl, by decide +kernel, rfl, by decide +kernel, by decide +kernel⟩
abbrev N_law_gap : List Str := ["_law_low", "_law_high"]
theorem sc_law_gap : FnScope N_law_gap ["_law_low", "_law_high"] (defScope s_law_gap) := ⟨rfl, rfl, rfl, by decide +kernel, rfl, by decide +kernel, by decide +kernel⟩
abbrev N_law_shown : List Str := ["_law_found", "_law_fraction_here", "_law_bound_here", "_law_low", "_law_high", "_law_one"]
theorem sc_law_shown : FnScope N_law_shown ["_law_found", "_law_fraction_here", "_law_bound_here"] (defScope s_law_shown) := ⟨rfl, rfl, rfl, by decide +kernel, rfl, by decide +kernel, by decide +kernel⟩
abbrev N_law_near : List Str := ["_law_pair", "_law_fraction_here", "_law_low", "_law_high", "_law_below", "_law_above"]
theorem sc_law_near : FnScope N_law_near ["_law_pair", "_law_fraction_here"] (defScope s_law_near) := ⟨rfl, rfl, rfl, by decide +kernel, rfl, by decide +kernel, by decide +kernel⟩
abbrev N_law_turns_right : List Str := ["_law_pair", "_law_fraction_here", "_law_low", "_law_high", "_law_first", "_law_total", "_law_bound_here", "_law_amid", "_law_side", "_law_due"]
theorem sc_law_turns_right : FnScope N_law_turns_right ["_law_pair", "_law_fraction_here"] (defScope s_law_turns_right) := ⟨rfl, rfl, rfl, by decide +kernel, rfl, by decide +kernel, by decide +kernel⟩
abbrev N_law : List Str := ["_law_script", "_law_k", "_law_purse_here", "_law_fraction_here", "_law_bound_here", "_law_turn", "_law_pair", "_law_way", "_law_total"]
theorem sc_law : FnScope N_law ["_law_script"] (defScope s_law) := ⟨rfl, rfl, rfl, by decide +kernel, rfl, by decide +kernel, by decide +kernel⟩
structure Txt (K : PySem.W.Frag) (mg : Str → Option Value) : Prop where
  d_is_number : At K mg "is_number" s_is_number
  d_is_pair : At K mg "is_pair" s_is_pair
  d_is_fraction : At K mg "is_fraction" s_is_fraction
  d_need_fractions : At K mg "need_fractions" s_need_fractions
  d_neighbours : At K mg "neighbours" s_neighbours
  d_strict_neighbours : At K mg "strict_neighbours" s_strict_neighbours
  d_nearest : At K mg "nearest" s_nearest
  d_law_cell : At K mg "_law_cell" s_law_cell
  d_law_purse : At K mg "_law_purse" s_law_purse
  d_law_take : At K mg "_law_take" s_law_take
  d_law_common : At K mg "_law_common" s_law_common
  d_law_made : At K mg "_law_made" s_law_made
  d_law_digits : At K mg "_law_digits" s_law_digits
  d_law_fraction : At K mg "_law_fraction" s_law_fraction
  d_law_bound : At K mg "_law_bound" s_law_bound
  d_law_is_fraction : At K mg "_law_is_fraction" s_law_is_fraction
  d_law_gap : At K mg "_law_gap" s_law_gap
  d_law_shown : At K mg "_law_shown" s_law_shown
  d_law_near : At K mg "_law_near" s_law_near
  d_law_turns_right : At K mg "_law_turns_right" s_law_turns_right
  d_law : At K mg "law" s_law
  n_isinstance : mg "isinstance" = none
  n_int : mg "int" = none
  n_bool : mg "bool" = none
  n_tuple : mg "tuple" = none
  n_len : mg "len" = none
  g_gcd : mg "gcd" = some (.builtin "math.gcd")
  n_min : mg "min" = none
  n_max : mg "max" = none
  n_abs : mg "abs" = none
  n_range : mg "range" = none
  n_all : mg "all" = none
section
variable {P : Program} {w : World} {K : PySem.W.Frag} {mg : Str → Option Value} {base : Heap}
theorem ok_take (T : Txt K mg) : Fn P w K mg base 1 "_law_take" ["_law_purse_here", "_law_many"] spTake := by
  refine T.d_law_take.fn sc_law_take (fun _ _ _ _ _ _ us hl => match us, hl with | [_, _], _ => rfl) ?_ ?_
  · rintro vs H Q E ⟨p, m, n, rfl, _⟩
    rfl
  · rintro f cdv A outer s H vs Q E hr ⟨p, m, n, rfl, hm, hm2, ⟨l, hp, a, b, c, rfl, ha, hb, hb2, hc, hcn⟩, k⟩
    refine ⟨_, (pss_cons (ps_if (pt_cmpR op_gt (pe_ix ix_list (pv 0) pe_int (fun _ _ => rfl)) pe_int (nomark _)) (pss_cons (ps_set (i := 2) sc_law_take.nd rfl (Or.inl rfl) (pe_op op_mod (pe_ix ix_list (pv 0) pe_int (fun _ _ => rfl)) (pv 1)))
 (pss_cons (ps_asg (pe_op op_fdivW (pe_ix ix_list (pv 0) pe_int (fun _ _ => rfl)) (pv 1)) (pg_sub (pv 0) pe_int set_list))
 (pss_one (ps_ret (pv 2))))) pss_nil)
 (pss_cons (ps_asg (pe_op op_add (pe_ix ix_list (pv 0) pe_int (fun _ _ => rfl)) pe_int) (pg_sub (pv 0) pe_int set_list))
 (pss_cons (ps_set (i := 3) sc_law_take.nd rfl (Or.inl rfl) (pe_op op_mod (pe_op op_pow (pe_op op_add (pe_op op_add (pe_ix ix_list (pv 0) pe_int (fun _ _ => rfl)) (pe_op op_mulW pe_int (pe_ix ix_list (pv 0) pe_int (fun _ _ => rfl)))) pe_int) pe_int) pe_int))
 (pss_cons (ps_set (i := 4) sc_law_take.nd rfl (Or.inl rfl) (pe_op op_mod (pe_op op_pow (pe_op op_add (pe_op op_mulW (pe_ix ix_list (pv 0) pe_int (fun _ _ => rfl)) (pe_ix ix_list (pv 0) pe_int (fun _ _ => rfl))) pe_int) pe_int) pe_int))
 (pss_one (ps_ret (pe_op op_mod (pe_op op_fdivW (pe_op op_add (pe_op op_mulW (pv 3) pe_int) (pv 4)) pe_int) (pv 1)))))))), ?_⟩
    refine ⟨_, rfl, p, _, _, _, rfl, rfl, SqL.of hp, rfl, _, _, rfl, rfl, _, rfl, ?_⟩
    by_cases h0 : 0 < a
    · rw [decide_eq_true h0]
      refine iteT ?_
      refine ⟨_, rfl, p, _, _, _, rfl, rfl, SqL.of hp, rfl, _, rfl, _, _, rfl, rfl, hm, ?_⟩
      refine ⟨_, rfl, p, _, _, _, rfl, rfl, SqL.of hp, rfl, _, rfl, _, _, rfl, rfl, wide_div hm hm2 (by decide) (by decide), ?_⟩
      refine ⟨_, rfl, p, _, _, 0, rfl, rfl, hp, rfl, ?_⟩
      refine ⟨_, rfl, ?_⟩
      exact k _ _ (Int.emod_nonneg _ (by omega)) (Int.emod_lt_of_pos _ hm) ⟨a / m, b, c, rfl, Int.ediv_nonneg ha (by omega), hb, hb2, hc, by omega⟩
    · rw [decide_eq_false h0]
      refine iteF ?_
      refine ⟨_, rfl, p, _, _, _, rfl, rfl, SqL.of hp, rfl, _, _, rfl, rfl, ?_⟩
      refine ⟨_, rfl, p, _, _, 2, rfl, rfl, hp, rfl, ?_⟩
      refine ⟨_, rfl, p, _, _, _, rfl, rfl, SqL.of upd_same, rfl, _, rfl, p, _, _, _, rfl, rfl, SqL.of upd_same, rfl, _, _, rfl, rfl, ?_, ?_⟩
      · exact wide_mul (a := 64) (b := 64) (by decide) (by omega) (by decide) (by decide) (by decide)
      refine ⟨_, _, rfl, rfl, _, _, rfl, rfl, _, _, rfl, rfl, ?_, ?_⟩
      · exact take_pow (by omega) (by omega) (by decide) (by decide)
      refine ⟨_, _, rfl, rfl, (by show (0 : Int) < 2147483647; decide), ?_⟩
      have y0 := Int.emod_nonneg ((b + 6007 * (c + 1) + 29) ^ Int.toNat 5) (show (2147483647 : Int) ≠ 0 by decide)
      have y1 := Int.emod_lt_of_pos ((b + 6007 * (c + 1) + 29) ^ Int.toNat 5) (show (0 : Int) < 2147483647 by decide)
      refine ⟨_, rfl, p, _, _, _, rfl, rfl, SqL.of upd_same, rfl, _, rfl, p, _, _, _, rfl, rfl, SqL.of upd_same, rfl, _, _, rfl, rfl, ?_, ?_⟩
      · exact wide_mul (a := 64) (b := 64) (by omega) (by omega) (by decide) (by decide) (by decide)
      have z1 : b * (c + 1) ≤ 2147483629 * 100001 := Int.mul_le_mul (by omega) (by omega) (by omega) (by omega)
      have z0 : 0 ≤ b * (c + 1) := Int.mul_nonneg (by omega) (by omega)
      refine ⟨_, _, rfl, rfl, _, _, rfl, rfl, ?_, ?_⟩
      · refine take_pow ?_ ?_ (by decide) (by decide)
        · show 0 ≤ b * (c + 1) + 91193
          omega
        · show b * (c + 1) + 91193 < 18446744073709551616
          omega
      refine ⟨_, _, rfl, rfl, (by show (0 : Int) < 2147483587; decide), ?_⟩
      refine ⟨_, rfl, _, _, rfl, rfl, ?_, ?_⟩
      · refine wide_mul (a := 64) (b := 64) ?_ (by decide) (by decide) (by decide) (by decide)
        generalize (b + 6007 * (c + 1) + 29) ^ Int.toNat 5 = g at y0 y1 ⊢
        omega
      refine ⟨_, rfl, _, _, rfl, rfl, _, _, rfl, rfl, ?_, _, rfl, _, _, rfl, rfl, hm, ?_⟩
      · exact wide_div (b := 64) (by decide) (by decide) (by decide) (by decide)
      exact k _ _ (Int.emod_nonneg _ (by omega)) (Int.emod_lt_of_pos _ hm) ⟨a, b, c + 1, rfl, ha, hb, hb2, by omega, by omega⟩
theorem ok_cell (T : Txt K mg) : Fn P w K mg base 1 "_law_cell" ["_law_script", "_law_k"] (Vg.spCell K) := by
  refine T.d_law_cell.fn sc_law_cell (fun _ _ _ _ _ _ us hl => match us, hl with | [_, _], _ => rfl) ?_ ?_
  · rintro vs H Q E ⟨a, ns, k, rfl, _⟩
    rfl
  · rintro f cdv A outer s H vs Q E hr ⟨a, ns, k, rfl, hS, hk0, hk1, q⟩
    refine ⟨_, (pss_cons (ps_if (pt_cmpR op_lt (pv 1) (pe_callB call_len_seq (by rfl) T.n_len PySem.boot_len (pa_cons (pv 0) pa_nil)) (nomark _)) (pss_one (ps_ret (pe_ix ix_list (pv 0) (pv 1) (fun _ _ => rfl)))) pss_nil)
 (pss_one (ps_ret (pe_op op_add (pe_op op_mulW pe_int (pv 1)) pe_int)))), ?_⟩
    refine ⟨_, rfl, _, rfl, a, _, rfl, .inl hS, _, _, rfl, rfl, _, rfl, ?_⟩
    by_cases h : k < (ns.map V.int).length
    · rw [decide_eq_true h]
      refine iteT ?_
      obtain ⟨j, rfl⟩ : ∃ j : Nat, k = (j : Int) := ⟨k.toNat, by omega⟩
      have hj : j < ns.length := by rw [List.length_map] at h; omega
      refine ⟨_, rfl, _, rfl, a, _, _, _, rfl, rfl, hS, atI_nat (v := .int ns[j]) (by rw [List.getElem?_map, List.getElem?_eq_getElem hj]; rfl), ?_⟩
      exact q _
    · rw [decide_eq_false h]
      refine iteF ?_
      refine ⟨_, rfl, _, _, rfl, rfl, wide_mul (a := 64) (b := 64) (by decide) (by omega) (by decide) (by decide) (by decide), _, _, rfl, rfl, ?_⟩
      exact q _
theorem ok_purse (T : Txt K mg) : Fn P w K mg base 1 "_law_purse" ["_law_cell_here"] spPurse := by
  refine T.d_law_purse.fn sc_law_purse (fun _ _ _ _ _ _ us hl => match us, hl with | [_], _ => rfl) ?_ ?_
  · rintro vs H Q E ⟨z, rfl, _⟩
    rfl
  · rintro f cdv A outer s H vs Q E hr ⟨z, rfl, q⟩
    refine ⟨_, (pss_one (ps_ret (pe_lst (pa_cons (pe_callB (call_max2 rfl) (by rfl) T.n_max (by decide +kernel) (pa_cons pe_int (pa_cons (pe_op op_sub (pv 0) (pe_op op_pow pe_int pe_int)) pa_nil))) (pa_cons (pe_op op_mod (pv 0) pe_int) (pa_cons pe_int pa_nil)))))), ?_⟩
    refine ⟨_, rfl, _, _, rfl, rfl, (by show (0 : Int) ≤ 18 ∧ (18 : Int) ≤ 1000000 ∧ (10 : Int).natAbs < 2 ^ 64; decide), _, _, rfl, rfl, _, _, rfl, _, rfl, _, _, rfl, rfl, (by show (0 : Int) < 2147483629; decide), (by show 3 ≤ sizeLine; decide), ?_⟩
    intro p hp
    refine q p _ hp ⟨_, _, _, rfl, ?_, Int.emod_nonneg _ (by decide), Int.emod_lt_of_pos _ (by decide), by decide, by decide⟩
    split <;> omega
theorem ok_common (T : Txt K mg) : Fn P w K mg base 1 "_law_common" ["_law_one", "_law_other"] spCommon := by
  refine T.d_law_common.fn sc_law_common (fun _ _ _ _ _ _ us hl => match us, hl with | [_, _], _ => rfl) ?_ ?_
  · rintro vs H Q E ⟨a, b, rfl, _⟩
    rfl
  · rintro f cdv A outer s H vs Q E hr ⟨a, b, rfl, q⟩
    refine ⟨_, (pss_cons (ps_par (i := 0) (j := 1) (by rfl) sc_law_common.nd rfl rfl (by decide) rfl rfl (pa_cons (pe_callB call_abs (by rfl) T.n_abs (by decide +kernel) (pa_cons (pv 0) pa_nil)) (pa_cons (pe_callB call_abs (by rfl) T.n_abs (by decide +kernel) (pa_cons (pv 1) pa_nil)) pa_nil)) (by rfl))
 (pss_cons (ps_while PassesOwn.never (pt_cmpR op_ne (pv 1) pe_int (nomark _)) (pss_one (ps_par (i := 0) (j := 1) (by rfl) sc_law_common.nd rfl rfl (by decide) rfl rfl (pa_cons (pv 1) (pa_cons (pe_op op_mod (pv 0) (pv 1)) pa_nil)) (by rfl))))
 (pss_one (ps_ret (pv 0))))), ?_⟩
    refine ⟨_, rfl, _, rfl, _, rfl, _, rfl, _, _, rfl, ?_⟩
    have fin : ∀ x : Int, 0 ≤ x → gcdI x 0 = gcdI a b → Q (.int x) H := fun x h0 e => by
      rw [gcd_zero h0] at e
      rw [e]
      exact q
    refine while_by (fun σ H' => H' = H ∧ ∃ x y : Int, σ = [some (.int x), some (.int y)] ∧ 0 ≤ x ∧ 0 ≤ y ∧ gcdI x y = gcdI a b)
      (fun σ _ => match σ with | [_, some (.int y)] => y.natAbs | _ => 0) ?_ ?_ ?_
    · exact ⟨rfl, _, _, rfl, by split <;> omega, by split <;> omega, gcd_abs a b⟩
    · rintro σ H' ⟨rfl, x, y, rfl, hx, hy, e⟩
      refine ⟨_, rfl, rfl, _, rfl, ?_⟩
      by_cases h : 0 < y
      · have h' : (!decide (V.int y = V.int 0)) = true := by
          rw [decide_eq_false (fun z => by injection z with z; omega)]
          rfl
        rw [h']
        refine iteT ?_
        refine ⟨_, rfl, _, rfl, _, rfl, _, _, rfl, rfl, h, _, _, rfl, ?_⟩
        have m0 := Int.emod_nonneg x (show y ≠ 0 by omega)
        have m1 := Int.emod_lt_of_pos x h
        refine ⟨⟨rfl, _, _, rfl, hy, m0, (gcd_step hx h).trans e⟩, ?_⟩
        show (x % y).natAbs < y.natAbs
        omega
      · have hy0 : y = 0 := by omega
        have h' : (!decide (V.int y = V.int 0)) = false := by
          rw [hy0]
          rfl
        rw [h']
        refine iteF ?_
        refine ⟨_, rfl, ?_⟩
        rw [hy0] at e
        exact fin x hx e
    · rintro σ H' Q1 Q2 hq ⟨v, h1, hs, z, h2, h3⟩
      exact ⟨v, h1, hs, z, h2, hq _ _ h3⟩
theorem ok_is_number (T : Txt K mg) : Fn P w K mg base 1 "is_number" ["thing"] (spNum K) := by
  refine T.d_is_number.fn sc_is_number (fun _ _ _ _ _ _ us hl => match us, hl with | [_], _ => rfl) ?_ ?_
  · rintro vs H Q E ⟨v, n, rfl, _⟩
    rfl
  · rintro f cdv A outer s H vs Q E hr ⟨v, n, rfl, tn, q⟩
    refine ⟨_, (pss_one (ps_ret (pe_and (pe_callB cr_isi (by rfl) T.n_isinstance (by decide +kernel) (pa_cons (pv 0) (pa_cons (pe_bltn (v := .ty "int") (by rfl) T.n_int (by decide +kernel) rfl) pa_nil))) (pe_one (pe_not (pe_callB cr_isi (by rfl) T.n_isinstance (by decide +kernel) (pa_cons (pv 0) (pa_cons (pe_bltn (v := .ty "bool") (by rfl) T.n_bool (by decide +kernel) rfl) pa_nil)))))))), ?_⟩
    obtain ⟨b, c, h1, h2, h3⟩ := kit_int tn
    refine ⟨_, rfl, v, n, _, b, rfl, tn, h1, b, rfl, ?_⟩
    rw [← h3] at q
    cases b with
    | true => exact iteT ⟨_, rfl, v, n, _, c, rfl, tn, h2 rfl, c, rfl, q⟩
    | false => exact iteF q
theorem ok_is_pair (T : Txt K mg) : Fn P w K mg base 1 "is_pair" ["thing"] spPair := by
  refine T.d_is_pair.fn sc_is_pair (fun _ _ _ _ _ _ us hl => match us, hl with | [_], _ => rfl) ?_ ?_
  · rintro vs H Q E ⟨v, d, rfl, _⟩
    rfl
  · rintro f cdv A outer s H vs Q E hr ⟨v, d, rfl, hd, q⟩
    refine ⟨_, (pss_one (ps_ret (pe_and (pe_callB cr_isi (by rfl) T.n_isinstance (by decide +kernel) (pa_cons (pv 0) (pa_cons (pe_bltn (v := .ty "tuple") (by rfl) T.n_tuple (by decide +kernel) rfl) pa_nil))) (pe_one (pe_cmpR op_eq (pe_callB call_len_seq (by rfl) T.n_len PySem.boot_len (pa_cons (pv 0) pa_nil)) pe_int (nomark _)))))), ?_⟩
    obtain ⟨n, b, tn, h1, h2, h3⟩ := kit_tuple (K := K) hd
    refine ⟨_, rfl, v, n, _, b, rfl, tn, h1, b, rfl, ?_⟩
    cases b with
    | true =>
      obtain ⟨a, xs, ds, rfl, ha, rfl, hl⟩ := h2 rfl
      refine iteT ⟨_, rfl, a, xs, rfl, .inr (SqT.of ha), rfl, ?_⟩
      have e : decide (V.int (xs.length : Int) = V.int 2) = decide (ds.length = 2) := by
        rw [hl]
        exact decide_eq_decide.mpr ⟨fun z => by injection z with z; omega, fun z => by rw [z]; rfl⟩
      rw [e]
      exact q
    | false =>
      rw [h3 rfl] at q
      exact iteF q
theorem ok_is_fraction (T : Txt K mg) : Fn P w K mg base 2 "is_fraction" ["thing"] spFrac := by
  refine T.d_is_fraction.fn sc_is_fraction (fun _ _ _ _ _ _ us hl => match us, hl with | [_], _ => rfl) ?_ ?_
  · rintro vs H Q E ⟨v, d, rfl, _⟩
    rfl
  · rintro f cdv A outer s H vs Q E hr ⟨v, d, rfl, hd, q⟩
    have F_is_number : Fn P w K mg base 1 "is_number" ["thing"] (spNum K) := ok_is_number T
    have F_is_pair : Fn P w K mg base 1 "is_pair" ["thing"] spPair := ok_is_pair T
    refine ⟨_, (pss_cons (ps_if (pt_not (pt_val (pe_fn F_is_pair (hr.mono (by decide)) rfl pass0 (pa_cons (pv 0) pa_nil)))) (pss_one (ps_ret pe_bl)) pss_nil)
 (pss_cons (ps_asg (pv 0) (pg_tup rfl (pgs_cons (pg_name (i := 1) sc_is_fraction.nd rfl (Or.inl rfl)) (pgs_cons (pg_name (i := 2) sc_is_fraction.nd rfl (Or.inl rfl)) pgs_nil))))
 (pss_cons (ps_if (PW.pt (pw_or (pt_not (pt_val (pe_fn F_is_number (hr.mono (by decide)) rfl pass0 (pa_cons (pv 1) pa_nil)))) (pw_or1 (pt_not (pt_val (pe_fn F_is_number (hr.mono (by decide)) rfl pass0 (pa_cons (pv 2) pa_nil))))))) (pss_one (ps_ret pe_bl)) pss_nil)
 (pss_one (ps_ret (pe_and (pe_cmpR op_ge (pv 2) pe_int (nomark _)) (pe_one (pe_cmpR op_eq (pe_callBfun cr_gcd (by rfl) T.g_gcd (pa_cons (pv 1) (pa_cons (pv 2) pa_nil))) pe_int (nomark _))))))))), ?_⟩
    refine ⟨_, rfl, v, d, rfl, hd, _, rfl, ?_⟩
    cases ep : pairD d with
    | false =>
      rw [frac_nopair ep] at q
      exact iteT q
    | true =>
      obtain ⟨a, x, y, dx, dy, rfl, ha, rfl, hx, hy⟩ := hd.two ep
      obtain ⟨nx, tx⟩ := hx.tn (K := K)
      obtain ⟨ny, ty⟩ := hy.tn (K := K)
      refine iteF ⟨_, rfl, a, _, rfl, SqT.of ha, rfl, _, _, rfl, _, _, rfl, rfl, ?_⟩
      obtain ⟨ox, qx⟩ := hx
      obtain ⟨oy, qy⟩ := hy
      refine ⟨_, rfl, x, nx, rfl, tx, _, rfl, ?_⟩
      cases ex : isNum x with
      | false =>
        rw [frac_nonum (by rw [← isNum_of qx, ex]; rfl)] at q
        exact iteT (iteT q)
      | true =>
        refine iteF ⟨_, rfl, y, ny, rfl, ty, _, rfl, ?_⟩
        cases ey : isNum y with
        | false =>
          rw [frac_nonum (by rw [← isNum_of qx, ← isNum_of qy, ex, ey]; rfl)] at q
          exact iteT q
        | true =>
          obtain ⟨i, rfl⟩ := num_int ex
          obtain ⟨j, rfl⟩ := num_int ey
          cases qx
          cases qy
          refine iteF ⟨_, rfl, _, _, rfl, rfl, _, rfl, ?_⟩
          have eq : fracD (.tuple [.int i, .int j]) = (decide (1 ≤ j) && decide (gcdI i j = 1)) := rfl
          rw [eq] at q
          by_cases h : 1 ≤ j
          · rw [decide_eq_true h]
            rw [decide_eq_true h, Bool.true_and] at q
            refine iteT ⟨_, rfl, _, rfl, i, j, rfl, rfl, ?_⟩
            have e : decide (V.int ((Nat.gcd i.natAbs j.natAbs : Nat) : Int) = V.int 1) = decide (gcdI i j = 1) :=
              decide_eq_decide.mpr ⟨fun z => by injection z, fun z => congrArg V.int z⟩
            rw [e]
            exact q
          · rw [decide_eq_false h]
            rw [decide_eq_false h, Bool.false_and] at q
            exact iteF q
end
end My
namespace My
open PySem PySem.Spec PyProof.Rows L2 Vg
section
variable {P : Program} {w : World} {K : PySem.W.Frag} {mg : Str → Option Value} {base : Heap}
theorem ok_need (T : Txt K mg) : Fr P w K mg base 3 "need_fractions" spNeed := by
  refine T.d_need_fractions.fr (sp := spNeed0) sc_need_fractions (fun _ _ _ _ _ _ us => match us with | [] => rfl | _ :: _ => rfl) ?_
  rintro f cdv A outer s H vs Q E hr ⟨p, xs, rfl, hp, hx, q⟩
  have F_is_fraction : Fn P w K mg base 2 "is_fraction" ["thing"] spFrac := ok_is_fraction T
  refine ⟨_, (pss_one (ps_for PassesOwn.never rfl (pi_tup (pv 0)) (pg_name (i := 1) sc_need_fractions.nd rfl (Or.inl rfl)) (pss_one (ps_if (pt_not (pt_val (pe_fn F_is_fraction (hr.mono (by decide)) rfl pass0 (pa_cons (pv 1) pa_nil)))) (pss_one ps_never) pss_nil)))), ?_⟩
  refine ⟨_, rfl, p, rfl, ⟨xs, SqT.of hp⟩, ?_⟩
  refine for_tup (K := K) (a := p) (xs := xs) (fun i σ H' => (∃ v, σ = [some (.ref p), v]) ∧ Same H H') ⟨⟨_, rfl⟩, Same.refl _⟩ (fun i σ H' _ h => SqT.of (h.2 _ _ hp)) ?_ ?_
  · rintro i x σ H1 hi ⟨⟨v, rfl⟩, s1⟩
    obtain ⟨y, a, b, rfl, hf, hb, hg⟩ := (hx x (List.mem_of_getElem? hi)).same s1
    refine ⟨_, rfl, _, _, rfl, FrT.dk hf, _, rfl, ?_⟩
    have e : fracD (frD a b) = true := by
      show (decide (1 ≤ b) && decide (gcdI a b = 1)) = true
      rw [decide_eq_true hb, decide_eq_true hg]
      rfl
    rw [e]
    exact iteF ⟨⟨_, rfl⟩, s1⟩
  · rintro σ H1 ⟨⟨v, rfl⟩, s1⟩
    exact q H1 s1
theorem ok_strict (T : Txt K mg) : Fn P w K mg base 1 "strict_neighbours" ["fraction", "bound"] spStrict := by
  refine T.d_strict_neighbours.fn sc_strict_neighbours (fun _ _ _ _ _ _ us hl => match us, hl with | [_, _], _ => rfl) ?_ ?_
  · rintro vs H Q E ⟨p, t, m, N, rfl, _⟩
    rfl
  · rintro f cdv A outer s H vs Q E hr ⟨p, t, m, N, rfl, hp, hc, hN, hm, ht, hM, q⟩
    refine ⟨_, (pss_cons (ps_asg (pv 0) (pg_tup rfl (pgs_cons (pg_name (i := 2) sc_strict_neighbours.nd rfl (Or.inl rfl)) (pgs_cons (pg_name (i := 3) sc_strict_neighbours.nd rfl (Or.inl rfl)) pgs_nil))))
 (pss_cons (ps_par (i := 4) (j := 5) (by rfl) sc_strict_neighbours.nd rfl rfl (by decide) rfl rfl (pa_cons (pe_op op_fdivW (pv 2) (pv 3)) (pa_cons pe_int pa_nil)) (by rfl))
 (pss_cons (ps_par (i := 6) (j := 7) (by rfl) sc_strict_neighbours.nd rfl rfl (by decide) rfl rfl (pa_cons (pe_op op_add (pv 4) pe_int) (pa_cons pe_int pa_nil)) (by rfl))
 (pss_cons (ps_while PassesOwn.never (pt_cmpR op_le (pe_op op_add (pv 5) (pv 7)) (pv 1) (nomark _)) (pss_cons (ps_set (i := 8) sc_strict_neighbours.nd rfl (Or.inl rfl) (pe_callB (call_min2 rfl) (by rfl) T.n_min (by decide +kernel) (pa_cons (pe_op op_fdivW (pe_op op_sub (pv 1) (pv 5)) (pv 7)) (pa_cons (pe_op op_fdivW (pe_op op_sub (pe_op op_mulW (pv 2) (pv 5)) (pe_op op_mulW (pv 4) (pv 3))) (pe_op op_sub (pe_op op_mulW (pv 6) (pv 3)) (pe_op op_mulW (pv 2) (pv 7)))) pa_nil))))
 (pss_cons (ps_par (i := 4) (j := 5) (by rfl) sc_strict_neighbours.nd rfl rfl (by decide) rfl rfl (pa_cons (pe_op op_add (pv 4) (pe_op op_mulW (pv 8) (pv 6))) (pa_cons (pe_op op_add (pv 5) (pe_op op_mulW (pv 8) (pv 7))) pa_nil)) (by rfl))
 (pss_cons (ps_set (i := 8) sc_strict_neighbours.nd rfl (Or.inl rfl) (pe_callB (call_min2 rfl) (by rfl) T.n_min (by decide +kernel) (pa_cons (pe_op op_fdivW (pe_op op_sub (pv 1) (pv 7)) (pv 5)) (pa_cons (pe_op op_fdivW (pe_op op_sub (pe_op op_mulW (pv 6) (pv 3)) (pe_op op_mulW (pv 2) (pv 7))) (pe_op op_sub (pe_op op_mulW (pv 2) (pv 5)) (pe_op op_mulW (pv 4) (pv 3)))) pa_nil))))
 (pss_one (ps_par (i := 6) (j := 7) (by rfl) sc_strict_neighbours.nd rfl rfl (by decide) rfl rfl (pa_cons (pe_op op_add (pv 6) (pe_op op_mulW (pv 8) (pv 4))) (pa_cons (pe_op op_add (pv 7) (pe_op op_mulW (pv 8) (pv 5))) pa_nil)) (by rfl)))))))
 (pss_one (ps_ret (pe_tup (pa_cons (pe_tup (pa_cons (pv 4) (pa_cons (pv 5) pa_nil))) (pa_cons (pe_tup (pa_cons (pv 6) (pa_cons (pv 7) pa_nil))) pa_nil))))))))), ?_⟩
    refine ⟨_, rfl, p, _, rfl, SqT.of hp, rfl, _, _, rfl, _, _, rfl, rfl, ?_⟩
    refine ⟨_, rfl, _, rfl, _, _, rfl, rfl, Bd.div (by omega) hM.bd, _, _, rfl, ?_⟩
    refine ⟨_, rfl, _, _, rfl, rfl, _, _, rfl, ?_⟩
    refine while_by (fun σ H' => H' = H ∧ ∃ (a b c d : Int) (v : Option V), σ = [some (.ref p), some (.int N), some (.int t), some (.int m), some (.int a), some (.int b), some (.int c), some (.int d), v] ∧ Nb t m N a b c d)
      (fun σ _ => match σ with | [_, _, _, _, _, some (.int b), _, some (.int d), _] => (2 * N - b - d).toNat | _ => 0) ?_ ?_ ?_
    · exact ⟨rfl, _, _, _, _, _, rfl, nb_start hc hN hm⟩
    · rintro σ H' ⟨rfl, a, b, c, d, v, rfl, nb⟩
      have B := nb.bds hm ht hM
      refine ⟨_, rfl, _, rfl, _, _, rfl, rfl, _, rfl, _, _, rfl, rfl, _, rfl, ?_⟩
      by_cases h : b + d ≤ N
      · rw [decide_eq_true h]
        refine iteT ?_
        have b1 := nb.b1
        have d1 := nb.d1
        have bN := nb.bN
        have dN := nb.dN
        refine ⟨_, rfl, _, rfl, _, _, rfl, rfl, _, rfl, _, _, rfl, rfl, Bd.div (by omega) B.bd, ?_⟩
        refine ⟨_, rfl, _, rfl, _, _, rfl, rfl, Bd.mul B.bt B.bb, _, rfl, _, rfl, _, _, rfl, rfl, Bd.mul B.ba B.bm, _, _, rfl, rfl, ?_⟩
        refine ⟨_, rfl, _, rfl, _, _, rfl, rfl, Bd.mul B.bc B.bm, _, rfl, _, rfl, _, _, rfl, rfl, Bd.mul B.bt B.bd, _, _, rfl, rfl, _, _, rfl, rfl, Bd.div nb.v B.v1, _, _, rfl, ?_⟩
        rw [min_if]
        generalize hs : min ((N - b) / d) ((t * b - a * m) / (c * m - t * d)) = st
        have st0 : 0 ≤ st := by
          have k1 := Int.ediv_nonneg (show 0 ≤ N - b by omega) (show 0 ≤ d by omega)
          have k2 := Int.ediv_nonneg B.u0 B.v0
          omega
        have nb1 := nb.left (s := st) hc hm st0 (by omega) (by omega)
        have B1 := nb1.bds hm ht hM
        have stB : Bd st := by
          have k1 : (N - b) / d ≤ N - b := Int.ediv_le_self _ (by omega)
          have k3 := hM.2
          unfold Bd
          omega
        refine ⟨_, rfl, _, rfl, _, rfl, _, _, rfl, rfl, Bd.mul stB B.bc, _, _, rfl, rfl, _, rfl, _, rfl, _, rfl, _, _, rfl, rfl, Bd.mul stB B.bd, _, _, rfl, rfl, _, _, rfl, ?_⟩
        have on := fun r => nb_on (r := r) nb hs.symm h
        have q1 := nb1.b1
        refine ⟨_, rfl, _, rfl, _, _, rfl, rfl, _, rfl, _, _, rfl, rfl, Bd.div (by omega) B1.bb, ?_⟩
        refine ⟨_, rfl, _, rfl, _, _, rfl, rfl, Bd.mul B1.bc B1.bm, _, rfl, _, rfl, _, _, rfl, rfl, Bd.mul B1.bt B1.bd, _, _, rfl, rfl, ?_⟩
        refine ⟨_, rfl, _, rfl, _, _, rfl, rfl, Bd.mul B1.bt B1.bb, _, rfl, _, rfl, _, _, rfl, rfl, Bd.mul B1.ba B1.bm, _, _, rfl, rfl, _, _, rfl, rfl, Bd.div nb1.u B1.u1, _, _, rfl, ?_⟩
        rw [min_if]
        generalize hr2 : min ((N - d) / (b + st * d)) ((c * m - t * d) / (t * (b + st * d) - (a + st * c) * m)) = st2
        obtain ⟨_, st20, some1⟩ := on st2 hr2.symm nb1
        have nb2 := nb1.right (s := st2) hc hm st20 (by omega) (by omega)
        have st2B : Bd st2 := by
          have k1 : (N - d) / (b + st * d) ≤ N - d := Int.ediv_le_self _ (by omega)
          have k3 := hM.2
          unfold Bd
          omega
        refine ⟨_, rfl, _, rfl, _, rfl, _, _, rfl, rfl, Bd.mul st2B B1.ba, _, _, rfl, rfl, _, rfl, _, rfl, _, rfl, _, _, rfl, rfl, Bd.mul st2B B1.bb, _, _, rfl, rfl, _, _, rfl, ?_⟩
        refine ⟨⟨rfl, _, _, _, _, _, rfl, nb2⟩, ?_⟩
        show (2 * N - (b + st * d) - (d + st2 * (b + st * d))).toNat < (2 * N - b - d).toNat
        have m1 : 0 ≤ st * d := Int.mul_nonneg st0 (by omega)
        have m2 : 0 ≤ st2 * (b + st * d) := Int.mul_nonneg st20 (by omega)
        have m3 : 0 < st → 0 < st * d := fun z => Int.mul_pos z (by omega)
        have m4 : 0 < st2 → 0 < st2 * (b + st * d) := fun z => Int.mul_pos z (by omega)
        have q5 := nb2.dN
        have q6 := nb1.bN
        rcases some1 with z | z
        · have := m3 z
          omega
        · have := m4 z
          omega
      · rw [decide_eq_false h]
        refine iteF ?_
        refine ⟨_, rfl, _, rfl, (by show 2 ≤ sizeLine; decide), fun q1 hq1 => ?_⟩
        generalize hX1 : upd H' q1 _ = H1
        have f1 : FrT H1 q1 a b := of_gen hX1
        have s1 := same_gen hq1 hX1
        refine ⟨_, rfl, _, rfl, (by show 2 ≤ sizeLine; decide), fun q2 hq2 => ?_⟩
        generalize hX2 : upd H1 q2 _ = H2
        have f2 : FrT H2 q2 c d := of_gen hX2
        have s2 := same_gen hq2 hX2
        refine ⟨(by show 2 ≤ sizeLine; decide), fun q3 hq3 => ?_⟩
        generalize hX3 : upd H2 q3 _ = H3
        have f3 : PrT H3 q3 q1 q2 := of_gen hX3
        have s3 := same_gen hq3 hX3
        exact q a b c d q1 q2 q3 H3 (.inr ⟨hm, nb, by omega⟩) ((s1.trans s2).trans s3) (s3 _ _ (s2 _ _ f1)) (s3 _ _ f2) f3
    · rintro σ H' Q1 Q2 hq ⟨v1, h1, v2, h2, i, j, h3, h4, v3, h5, i2, j2, h6, h7, b, h8, h9⟩
      exact ⟨v1, h1, v2, h2, i, j, h3, h4, v3, h5, i2, j2, h6, h7, b, h8, hq _ _ h9⟩
end
end My
namespace My
open PySem PySem.Spec PyProof.Rows L2 Vg
section
variable {P : Program} {w : World} {K : PySem.W.Frag} {mg : Str → Option Value} {base : Heap}
theorem ok_neighbours (T : Txt K mg) : Fn P w K mg base 4 "neighbours" ["fraction", "bound"] spNbrs := by
  refine T.d_neighbours.fn sc_neighbours (fun _ _ _ _ _ _ us hl => match us, hl with | [_, _], _ => rfl) ?_ ?_
  · rintro vs H Q E ⟨p, t, m, N, rfl, _⟩
    rfl
  · rintro f cdv A outer s H vs Q E hr ⟨p, t, m, N, rfl, hp, hc, hN, hm, ht, hM, q⟩
    have F_need_fractions : Fr P w K mg base 3 "need_fractions" spNeed := ok_need T
    have F_is_number : Fn P w K mg base 1 "is_number" ["thing"] (spNum K) := ok_is_number T
    have F_strict_neighbours : Fn P w K mg base 1 "strict_neighbours" ["fraction", "bound"] spStrict := ok_strict T
    refine ⟨_, (pss_cons (ps_expr (pe_fr F_need_fractions (hr.mono (by decide)) rfl pass0 (pa_cons (pv 0) pa_nil)))
 (pss_cons (ps_if (PW.pt (pw_or (pt_not (pt_val (pe_fn F_is_number (hr.mono (by decide)) rfl pass0 (pa_cons (pv 1) pa_nil)))) (pw_or1 (pt_cmpR op_lt (pv 1) pe_int (nomark _))))) (pss_one ps_never) pss_nil)
 (pss_cons (ps_if (pt_cmpR op_le (pe_ix ix_tup (pv 0) pe_int (fun _ _ => rfl)) (pv 1) (nomark _)) (pss_one (ps_ret (pe_tup (pa_cons (pv 0) (pa_cons (pv 0) pa_nil))))) pss_nil)
 (pss_one (ps_ret (pe_fn F_strict_neighbours (hr.mono (by decide)) rfl pass0 (pa_cons (pv 0) (pa_cons (pv 1) pa_nil)))))))), ?_⟩
    refine ⟨_, rfl, need_by (vs := [V.ref p]) (by show 1 ≤ sizeLine; decide) (fun x hx => ?_) fun H1 s1 => ?_⟩
    · rw [List.mem_singleton.mp hx]
      exact ⟨p, t, m, rfl, hp, hm, hc⟩
    · have hp1 := s1 _ _ hp
      refine ⟨_, rfl, _, _, rfl, .int N, _, rfl, ?_⟩
      refine iteF ⟨_, rfl, _, _, rfl, rfl, _, rfl, ?_⟩
      rw [decide_eq_false (show ¬ N < 1 by omega)]
      refine iteF ?_
      refine ⟨_, rfl, p, _, _, _, rfl, rfl, SqT.of hp1, rfl, _, rfl, _, _, rfl, rfl, _, rfl, ?_⟩
      by_cases h : m ≤ N
      · rw [decide_eq_true h]
        refine iteT ⟨_, rfl, _, rfl, (by show 2 ≤ sizeLine; decide), fun q3 hq3 => ?_⟩
        generalize hX3 : upd H1 q3 _ = H3
        have f3 : PrT H3 q3 p p := of_gen hX3
        have s3 := same_gen hq3 hX3
        exact q t m t m p p q3 H3 (.inl ⟨h, rfl, rfl, rfl, rfl⟩) (s1.trans s3) (s3 _ _ hp1) (s3 _ _ hp1) f3
      · rw [decide_eq_false h]
        refine iteF ⟨_, rfl, _, rfl, p, t, m, N, rfl, hp1, hc, hN, by omega, ht, hM, ?_⟩
        exact fun a b c d q1 q2 q3 H' nx s2 f1 f2 f3 => q a b c d q1 q2 q3 H' nx (s1.trans s2) f1 f2 f3
theorem ok_nearest (T : Txt K mg) : Fn P w K mg base 5 "nearest" ["fraction", "bound"] spNearest := by
  refine T.d_nearest.fn sc_nearest (fun _ _ _ _ _ _ us hl => match us, hl with | [_, _], _ => rfl) ?_ ?_
  · rintro vs H Q E ⟨p, t, m, N, rfl, _⟩
    rfl
  · rintro f cdv A outer s H vs Q E hr ⟨p, t, m, N, rfl, hp, hc, hN, hm, ht, hM, k⟩
    have F_neighbours : Fn P w K mg base 4 "neighbours" ["fraction", "bound"] spNbrs := ok_neighbours T
    refine ⟨_, (pss_cons (ps_asg (pe_fn F_neighbours (hr.mono (by decide)) rfl pass0 (pa_cons (pv 0) (pa_cons (pv 1) pa_nil))) (pg_tup rfl (pgs_cons (pg_name (i := 2) sc_nearest.nd rfl (Or.inl rfl)) (pgs_cons (pg_name (i := 3) sc_nearest.nd rfl (Or.inl rfl)) pgs_nil))))
 (pss_cons (ps_asg (pv 0) (pg_tup rfl (pgs_cons (pg_name (i := 4) sc_nearest.nd rfl (Or.inl rfl)) (pgs_cons (pg_name (i := 5) sc_nearest.nd rfl (Or.inl rfl)) pgs_nil))))
 (pss_cons (ps_set (i := 6) sc_nearest.nd rfl (Or.inl rfl) (pe_op op_mulW (pe_op op_sub (pe_op op_mulW (pv 4) (pe_ix ix_tup (pv 2) pe_int (fun _ _ => rfl))) (pe_op op_mulW (pe_ix ix_tup (pv 2) pe_int (fun _ _ => rfl)) (pv 5))) (pe_ix ix_tup (pv 3) pe_int (fun _ _ => rfl))))
 (pss_cons (ps_set (i := 7) sc_nearest.nd rfl (Or.inl rfl) (pe_op op_mulW (pe_op op_sub (pe_op op_mulW (pe_ix ix_tup (pv 3) pe_int (fun _ _ => rfl)) (pv 5)) (pe_op op_mulW (pv 4) (pe_ix ix_tup (pv 3) pe_int (fun _ _ => rfl)))) (pe_ix ix_tup (pv 2) pe_int (fun _ _ => rfl))))
 (pss_cons (ps_if (pt_cmpR op_ne (pv 6) (pv 7) (nomark _)) (pss_one (ps_ret (pe_ifExp (pt_cmpR op_lt (pv 6) (pv 7) (nomark _)) (pv 2) (pv 3)))) pss_nil)
 (pss_one (ps_ret (pe_ifExp (pt_cmpR op_le (pe_ix ix_tup (pv 2) pe_int (fun _ _ => rfl)) (pe_ix ix_tup (pv 3) pe_int (fun _ _ => rfl)) (nomark _)) (pv 2) (pv 3))))))))), ?_⟩
    refine ⟨_, rfl, _, rfl, p, t, m, N, rfl, hp, hc, hN, hm, ht, hM, fun a b c d q r s H1 nx s1 fq fr pr => ?_⟩
    have B := nx.bds ht hM
    refine ⟨s, _, rfl, SqT.of pr, rfl, _, _, rfl, _, _, rfl, rfl, ?_⟩
    refine ⟨_, rfl, p, _, rfl, SqT.of (s1 _ _ hp), rfl, _, _, rfl, _, _, rfl, rfl, ?_⟩
    refine ⟨_, rfl, _, rfl, q, _, _, _, rfl, rfl, SqT.of fq, rfl, _, _, rfl, rfl, Bd.mul B.bt B.bb, _, rfl, q, _, _, _, rfl, rfl, SqT.of fq, rfl, _, rfl, _, _, rfl, rfl, Bd.mul B.ba B.bm, _, _, rfl, rfl, _, rfl, r, _, _, _, rfl, rfl, SqT.of fr, rfl, _, _, rfl, rfl, Bd.mul B.u1 B.bd, ?_⟩
    refine ⟨_, rfl, r, _, _, _, rfl, rfl, SqT.of fr, rfl, _, rfl, _, _, rfl, rfl, Bd.mul B.bc B.bm, _, rfl, _, rfl, r, _, _, _, rfl, rfl, SqT.of fr, rfl, _, _, rfl, rfl, Bd.mul B.bt B.bd, _, _, rfl, rfl, _, rfl, q, _, _, _, rfl, rfl, SqT.of fq, rfl, _, _, rfl, rfl, Bd.mul B.v1 B.bb, ?_⟩
    have fin : ∀ b0, nearB t m a b c d = b0 → Q (if b0 = true then .ref q else .ref r) H1 := fun b0 e => by
      have z := k a b c d
      rw [e] at z
      cases b0 with
      | true => exact z q H1 nx s1 fq
      | false => exact z r H1 nx s1 fr
    refine ⟨_, rfl, _, rfl, rfl, _, rfl, ?_⟩
    dsimp only
    by_cases h : (t * b - a * m) * d = (c * m - t * d) * b
    · have e1 : (!decide (V.int ((t * b - a * m) * d) = V.int ((c * m - t * d) * b))) = false := by
        rw [decide_eq_true (congrArg V.int h)]
        rfl
      rw [e1]
      refine iteF ?_
      refine ⟨_, rfl, q, _, _, _, rfl, rfl, SqT.of fq, rfl, _, rfl, r, _, _, _, rfl, rfl, SqT.of fr, rfl, _, _, rfl, rfl, _, rfl, ?_⟩
      have e2 : nearB t m a b c d = decide (b ≤ d) := if_pos h
      have z := fin _ e2
      by_cases hb : b ≤ d
      · rw [decide_eq_true hb] at z ⊢
        exact iteT ⟨_, rfl, z⟩
      · rw [decide_eq_false hb] at z ⊢
        exact iteF ⟨_, rfl, z⟩
    · have e1 : (!decide (V.int ((t * b - a * m) * d) = V.int ((c * m - t * d) * b))) = true := by
        rw [decide_eq_false (fun z => by injection z with z; exact h z)]
        rfl
      rw [e1]
      refine iteT ?_
      refine ⟨_, rfl, _, rfl, _, _, rfl, rfl, _, rfl, ?_⟩
      have e2 : nearB t m a b c d = decide ((t * b - a * m) * d < (c * m - t * d) * b) := if_neg h
      have z := fin _ e2
      by_cases hb : (t * b - a * m) * d < (c * m - t * d) * b
      · rw [decide_eq_true hb] at z ⊢
        exact iteT ⟨_, rfl, z⟩
      · rw [decide_eq_false hb] at z ⊢
        exact iteF ⟨_, rfl, z⟩
end
end My
namespace My
open PySem PySem.Spec PyProof.Rows L2 Vg
section
variable {P : Program} {w : World} {K : PySem.W.Frag} {mg : Str → Option Value} {base : Heap}
theorem ok_gap (T : Txt K mg) : Fn P w K mg base 1 "_law_gap" ["_law_low", "_law_high"] spGap := by
  refine T.d_law_gap.fn sc_law_gap (fun _ _ _ _ _ _ us hl => match us, hl with | [_, _], _ => rfl) ?_ ?_
  · rintro vs H Q E ⟨x, y, a, b, c, d, rfl, _⟩
    rfl
  · rintro f cdv A outer s H vs Q E hr ⟨x, y, a, b, c, d, rfl, fx, fy, ba, bb, bc, bd, q⟩
    refine ⟨_, (pss_one (ps_ret (pe_op op_sub (pe_op op_mulW (pe_ix ix_tup (pv 1) pe_int (fun _ _ => rfl)) (pe_ix ix_tup (pv 0) pe_int (fun _ _ => rfl))) (pe_op op_mulW (pe_ix ix_tup (pv 0) pe_int (fun _ _ => rfl)) (pe_ix ix_tup (pv 1) pe_int (fun _ _ => rfl)))))), ?_⟩
    refine ⟨_, rfl, y, _, _, _, rfl, rfl, SqT.of fy, rfl, _, rfl, x, _, _, _, rfl, rfl, SqT.of fx, rfl, _, _, rfl, rfl, Bd.mul bc bb, ?_⟩
    refine ⟨_, rfl, x, _, _, _, rfl, rfl, SqT.of fx, rfl, _, rfl, y, _, _, _, rfl, rfl, SqT.of fy, rfl, _, _, rfl, rfl, Bd.mul ba bd, ?_⟩
    exact ⟨_, _, rfl, rfl, q⟩
theorem ok_near (T : Txt K mg) : Fn P w K mg base 2 "_law_near" ["_law_pair", "_law_fraction_here"] spNearL := by
  refine T.d_law_near.fn sc_law_near (fun _ _ _ _ _ _ us hl => match us, hl with | [_, _], _ => rfl) ?_ ?_
  · rintro vs H Q E ⟨p, x, q, r, t, m, a, b, c, d, rfl, _⟩
    rfl
  · rintro f cdv A outer s H vs Q E hr ⟨p, x, q, r, t, m, a, b, c, d, rfl, pr, fq, fr, fx, B, k⟩
    have F_law_gap : Fn P w K mg base 1 "_law_gap" ["_law_low", "_law_high"] spGap := ok_gap T
    refine ⟨_, (pss_cons (ps_asg (pv 0) (pg_tup rfl (pgs_cons (pg_name (i := 2) sc_law_near.nd rfl (Or.inl rfl)) (pgs_cons (pg_name (i := 3) sc_law_near.nd rfl (Or.inl rfl)) pgs_nil))))
 (pss_cons (ps_set (i := 4) sc_law_near.nd rfl (Or.inl rfl) (pe_op op_mulW (pe_fn F_law_gap (hr.mono (by decide)) rfl pass0 (pa_cons (pv 2) (pa_cons (pv 1) pa_nil))) (pe_ix ix_tup (pv 3) pe_int (fun _ _ => rfl))))
 (pss_cons (ps_set (i := 5) sc_law_near.nd rfl (Or.inl rfl) (pe_op op_mulW (pe_fn F_law_gap (hr.mono (by decide)) rfl pass0 (pa_cons (pv 1) (pa_cons (pv 3) pa_nil))) (pe_ix ix_tup (pv 2) pe_int (fun _ _ => rfl))))
 (pss_cons (ps_if (pt_cmpR op_eq (pv 4) (pv 5) (nomark _)) (pss_one (ps_ret (pe_ifExp (pt_cmpR op_le (pe_ix ix_tup (pv 2) pe_int (fun _ _ => rfl)) (pe_ix ix_tup (pv 3) pe_int (fun _ _ => rfl)) (nomark _)) (pv 2) (pv 3)))) pss_nil)
 (pss_one (ps_ret (pe_ifExp (pt_cmpR op_lt (pv 4) (pv 5) (nomark _)) (pv 2) (pv 3)))))))), ?_⟩
    refine ⟨_, rfl, p, _, rfl, SqT.of pr, rfl, _, _, rfl, _, _, rfl, rfl, ?_⟩
    refine ⟨_, rfl, _, rfl, q, x, a, b, t, m, rfl, fq, fx, B.ba, B.bb, B.bt, B.bm, _, rfl, r, _, _, _, rfl, rfl, SqT.of fr, rfl, _, _, rfl, rfl, Bd.mul B.u1 B.bd, ?_⟩
    refine ⟨_, rfl, _, rfl, x, r, t, m, c, d, rfl, fx, fr, B.bt, B.bm, B.bc, B.bd, _, rfl, q, _, _, _, rfl, rfl, SqT.of fq, rfl, _, _, rfl, rfl, Bd.mul B.v1 B.bb, ?_⟩
    have fin : ∀ b0, nearB t m a b c d = b0 → Q (if b0 = true then .ref q else .ref r) H := fun b0 e => by
      have z := k
      rw [e] at z
      cases b0 with
      | true => exact z q fq
      | false => exact z r fr
    refine ⟨_, rfl, _, rfl, rfl, _, rfl, ?_⟩
    dsimp only
    by_cases h : (t * b - a * m) * d = (c * m - t * d) * b
    · rw [decide_eq_true (congrArg V.int h)]
      refine iteT ?_
      refine ⟨_, rfl, q, _, _, _, rfl, rfl, SqT.of fq, rfl, _, rfl, r, _, _, _, rfl, rfl, SqT.of fr, rfl, _, _, rfl, rfl, _, rfl, ?_⟩
      have e2 : nearB t m a b c d = decide (b ≤ d) := if_pos h
      have z := fin _ e2
      by_cases hb : b ≤ d
      · rw [decide_eq_true hb] at z ⊢
        exact iteT ⟨_, rfl, z⟩
      · rw [decide_eq_false hb] at z ⊢
        exact iteF ⟨_, rfl, z⟩
    · have e1 : decide (V.int ((t * b - a * m) * d) = V.int ((c * m - t * d) * b)) = false := decide_eq_false (fun z => by injection z with z; exact h z)
      rw [e1]
      refine iteF ?_
      refine ⟨_, rfl, _, rfl, _, _, rfl, rfl, _, rfl, ?_⟩
      have e2 : nearB t m a b c d = decide ((t * b - a * m) * d < (c * m - t * d) * b) := if_neg h
      have z := fin _ e2
      by_cases hb : (t * b - a * m) * d < (c * m - t * d) * b
      · rw [decide_eq_true hb] at z ⊢
        exact iteT ⟨_, rfl, z⟩
      · rw [decide_eq_false hb] at z ⊢
        exact iteF ⟨_, rfl, z⟩
theorem ok_isf (T : Txt K mg) : Fn P w K mg base 2 "_law_is_fraction" ["_law_thing"] spIsF := by
  refine T.d_law_is_fraction.fn sc_law_is_fraction (fun _ _ _ _ _ _ us hl => match us, hl with | [_], _ => rfl) ?_ ?_
  · rintro vs H Q E ⟨p, i, j, rfl, _⟩
    rfl
  · rintro f cdv A outer s H vs Q E hr ⟨p, i, j, rfl, fp, hj, hg, q⟩
    have F_law_common : Fn P w K mg base 1 "_law_common" ["_law_one", "_law_other"] spCommon := ok_common T
    refine ⟨_, (pss_cons (ps_if (PW.pt (pw_or (pt_not (pt_val (pe_callB cr_isi (by rfl) T.n_isinstance (by decide +kernel) (pa_cons (pv 0) (pa_cons (pe_bltn (v := .ty "tuple") (by rfl) T.n_tuple (by decide +kernel) rfl) pa_nil))))) (pw_or1 (pt_cmpR op_ne (pe_callB call_len_seq (by rfl) T.n_len PySem.boot_len (pa_cons (pv 0) pa_nil)) pe_int (nomark _))))) (pss_one (ps_ret pe_bl)) pss_nil)
 (pss_cons (ps_if (pt_not (pt_val (pe_callB (cr_all rfl) (by rfl) T.n_all (by decide +kernel) (pa_cons (pe_lc (own := [("_law_part", 1)]) (g := gName 1) (by rfl) sc_law_is_fraction.nd (pi_tup (pv 0)) (blkOk_by (own := [("_law_part", 1)]) (N := N_law_is_fraction) (sc := defScope s_law_is_fraction) (by decide +kernel)) (fun _ _ _ _ _ => pg_name (i := 1) sc_law_is_fraction.nd rfl (Or.inl rfl)) (fun _ _ _ _ _ => pts_nil) (fun _ _ _ _ _ => (pe_and (pe_callB (id := "isinstance") (cr_isiB (K := K)) (by rfl) T.n_isinstance (by decide +kernel) (pa_cons (pv 1) (pa_cons (pe_bltn (v := .ty "int") (by rfl) T.n_int (by decide +kernel) rfl) pa_nil))) (pe_one (pe_not (pe_callB (id := "isinstance") (cr_isiB (K := K)) (by rfl) T.n_isinstance (by decide +kernel) (pa_cons (pv 1) (pa_cons (pe_bltn (v := .ty "bool") (by rfl) T.n_bool (by decide +kernel) rfl) pa_nil)))))))) pa_nil)))) (pss_one (ps_ret pe_bl)) pss_nil)
 (pss_one (ps_ret (pe_and (pe_cmpR op_gt (pe_ix ix_tup (pv 0) pe_int (fun _ _ => rfl)) pe_int (nomark _)) (pe_one (pe_cmpR op_eq (pe_fn F_law_common (hr.mono (by decide)) rfl pass0 (pa_cons (pe_ix ix_tup (pv 0) pe_int (fun _ _ => rfl)) (pa_cons (pe_ix ix_tup (pv 0) pe_int (fun _ _ => rfl)) pa_nil))) pe_int (nomark _)))))))), ?_⟩
    refine ⟨_, rfl, _, _, "tuple", true, rfl, .tup fp, by decide +kernel, _, rfl, ?_⟩
    refine iteF ⟨_, rfl, p, _, rfl, .inr (SqT.of fp), rfl, _, rfl, ?_⟩
    refine iteF ?_
    refine ⟨_, rfl, p, rfl, ⟨_, SqT.of fp⟩, fun D hD => ?_⟩
    refine lc_tup (K := K) (a := p) (xs := [V.int i, V.int j]) (fun n H' => Same H H' ∧ H' D = some (.lst (yes n)) ∧ n ≤ 2) ⟨Same.new hD, upd_same, by decide⟩ (fun n H' _ h => SqT.of (h.1 _ _ fp)) ?_ ?_
    · rintro n x H1 hx ⟨s1, e1, n2⟩
      have hn : n < 2 := by
        have := (List.getElem?_eq_some_iff.mp hx).1
        exact this
      obtain ⟨z, rfl⟩ : ∃ z, x = V.int z := by
        have hm := List.mem_of_getElem? hx
        simp only [List.mem_cons, List.not_mem_nil, or_false] at hm
        rcases hm with rfl | rfl <;> exact ⟨_, rfl⟩
      refine ⟨rfl, lc_keep ?_⟩
      refine ⟨_, rfl, _, "int", "int", true, rfl, .int z, by decide +kernel, _, rfl, ?_⟩
      refine iteT ⟨_, rfl, _, "int", "bool", false, rfl, .int z, by decide +kernel, _, rfl, ?_⟩
      refine ⟨_, e1, ?_, Same.mut s1 hD, ?_, by omega⟩
      · rw [yes_len]
        exact Nat.lt_of_le_of_lt n2 (by decide)
      · rw [upd_same]
        exact congrArg (fun l => some (HO.lst l)) (yes_on n)
    · rintro H1 ⟨s1, e1, _⟩
      refine ⟨D, List.replicate 2 true, rfl, SqL.of e1, _, rfl, ?_⟩
      rw [yes_all]
      refine iteF ?_
      have fp1 := s1 _ _ fp
      refine ⟨_, rfl, p, _, _, _, rfl, rfl, SqT.of fp1, rfl, _, _, rfl, rfl, _, rfl, ?_⟩
      rw [decide_eq_true (show 0 < j by omega)]
      refine iteT ⟨_, rfl, p, _, _, _, rfl, rfl, SqT.of fp1, rfl, _, rfl, p, _, _, _, rfl, rfl, SqT.of fp1, rfl, i, j, rfl, rfl, ?_⟩
      rw [hg]
      exact q H1 s1
end
end My
namespace My
open PySem PySem.Spec PyProof.Rows L2 Vg
section
variable {P : Program} {w : World} {K : PySem.W.Frag} {mg : Str → Option Value} {base : Heap}
theorem ok_shown (T : Txt K mg) : Fn P w K mg base 3 "_law_shown" ["_law_found", "_law_fraction_here", "_law_bound_here"] spShown := by
  refine T.d_law_shown.fn sc_law_shown (fun _ _ _ _ _ _ us hl => match us, hl with | [_, _, _], _ => rfl) ?_ ?_
  · rintro vs H Q E ⟨s, x, q, r, t, m, N, a, b, c, d, rfl, _⟩
    rfl
  · rintro f cdv A outer s0 H vs Q E hr ⟨s, x, q, r, t, m, N, a, b, c, d, rfl, pr, fq, fr, fx, hc, hm, ht, hM, nx, k⟩
    have F_law_is_fraction : Fn P w K mg base 2 "_law_is_fraction" ["_law_thing"] spIsF := ok_isf T
    have F_law_gap : Fn P w K mg base 1 "_law_gap" ["_law_low", "_law_high"] spGap := ok_gap T
    have B := nx.bds ht hM
    obtain ⟨g1, g2⟩ := nx.gcds hc
    obtain ⟨b1, d1⟩ := nx.pos hm
    refine ⟨_, (pss_cons (ps_if (PW.pt (pw_or (pt_not (pt_val (pe_callB cr_isi (by rfl) T.n_isinstance (by decide +kernel) (pa_cons (pv 0) (pa_cons (pe_bltn (v := .ty "tuple") (by rfl) T.n_tuple (by decide +kernel) rfl) pa_nil))))) (pw_or (pt_cmpR op_ne (pe_callB call_len_seq (by rfl) T.n_len PySem.boot_len (pa_cons (pv 0) pa_nil)) pe_int (nomark _)) (pw_or1 (pt_not (pt_val (pe_callB (cr_all rfl) (by rfl) T.n_all (by decide +kernel) (pa_cons (pe_lc (own := [("_law_one", 5)]) (g := gName 5) (by rfl) sc_law_shown.nd (pi_tup (pv 0)) (blkOk_by (own := [("_law_one", 5)]) (N := N_law_shown) (sc := defScope s_law_shown) (by decide +kernel)) (fun _ _ _ _ _ => pg_name (i := 5) sc_law_shown.nd rfl (Or.inl rfl)) (fun _ _ _ _ _ => pts_nil) (fun _ _ _ _ _ => (pe_fn F_law_is_fraction (hr.mono (by decide)) rfl pass0 (pa_cons (pv 5) pa_nil)))) pa_nil)))))))) (pss_one (ps_ret pe_bl)) pss_nil)
 (pss_cons (ps_asg (pv 0) (pg_tup rfl (pgs_cons (pg_name (i := 3) sc_law_shown.nd rfl (Or.inl rfl)) (pgs_cons (pg_name (i := 4) sc_law_shown.nd rfl (Or.inl rfl)) pgs_nil))))
 (pss_cons (ps_if (pt_cmpR op_le (pe_ix ix_tup (pv 1) pe_int (fun _ _ => rfl)) (pv 2) (nomark _)) (pss_one (ps_ret (pe_and (pe_cmpR (op_eqD hr.units) (pv 3) (pv 1) (nomark _)) (pe_one (pe_cmpR (op_eqD hr.units) (pv 4) (pv 1) (nomark _)))))) pss_nil)
 (pss_cons (ps_if (PW.pt (pw_or (pt_cmpR op_gt (pe_ix ix_tup (pv 3) pe_int (fun _ _ => rfl)) (pv 2) (nomark _)) (pw_or (pt_cmpR op_gt (pe_ix ix_tup (pv 4) pe_int (fun _ _ => rfl)) (pv 2) (nomark _)) (pw_or1 (pt_cmpR op_le (pe_op op_add (pe_ix ix_tup (pv 3) pe_int (fun _ _ => rfl)) (pe_ix ix_tup (pv 4) pe_int (fun _ _ => rfl))) (pv 2) (nomark _)))))) (pss_one (ps_ret pe_bl)) pss_nil)
 (pss_one (ps_ret (pe_and (pe_cmpR op_gt (pe_fn F_law_gap (hr.mono (by decide)) rfl pass0 (pa_cons (pv 3) (pa_cons (pv 1) pa_nil))) pe_int (nomark _)) (pe_and (pe_cmpR op_gt (pe_fn F_law_gap (hr.mono (by decide)) rfl pass0 (pa_cons (pv 1) (pa_cons (pv 4) pa_nil))) pe_int (nomark _)) (pe_one (pe_cmpR op_eq (pe_fn F_law_gap (hr.mono (by decide)) rfl pass0 (pa_cons (pv 3) (pa_cons (pv 4) pa_nil))) pe_int (nomark _))))))))))), ?_⟩
    refine ⟨_, rfl, _, _, "tuple", true, rfl, .tup pr, by decide +kernel, _, rfl, ?_⟩
    refine iteF ⟨_, rfl, s, _, rfl, .inr (SqT.of pr), rfl, _, rfl, ?_⟩
    refine iteF ⟨_, rfl, s, rfl, ⟨_, SqT.of pr⟩, fun D hD => ?_⟩
    refine lc_tup (K := K) (a := s) (xs := [V.ref q, V.ref r]) (fun n H' => Same H H' ∧ H' D = some (.lst (yes n)) ∧ n ≤ 2) ⟨Same.new hD, upd_same, by decide⟩ (fun n H' _ h => SqT.of (h.1 _ _ pr)) ?_ ?_
    · rintro n y H1 hx ⟨s1, e1, n2⟩
      have hn : n < 2 := (List.getElem?_eq_some_iff.mp hx).1
      obtain ⟨z, i, j, rfl, fz, hj, hg⟩ : FrV H1 y := by
        have hm := List.mem_of_getElem? hx
        simp only [List.mem_cons, List.not_mem_nil, or_false] at hm
        rcases hm with rfl | rfl
        · exact ⟨_, _, _, rfl, s1 _ _ fq, b1, g1⟩
        · exact ⟨_, _, _, rfl, s1 _ _ fr, d1, g2⟩
      refine ⟨rfl, lc_keep ?_⟩
      refine ⟨_, rfl, z, i, j, rfl, fz, hj, hg, fun H2 s2 => ?_⟩
      refine ⟨_, s2 _ _ e1, ?_, Same.mut (s1.trans s2) hD, ?_, by omega⟩
      · rw [yes_len]
        exact Nat.lt_of_le_of_lt n2 (by decide)
      · rw [upd_same]
        exact congrArg (fun l => some (HO.lst l)) (yes_on n)
    · rintro H1 ⟨s1, e1, _⟩
      refine ⟨D, List.replicate 2 true, rfl, SqL.of e1, _, rfl, ?_⟩
      rw [yes_all]
      refine iteF ?_
      have pr1 := s1 _ _ pr
      have fq1 := s1 _ _ fq
      have fr1 := s1 _ _ fr
      have fx1 := s1 _ _ fx
      have k1 := k H1 s1
      refine ⟨_, rfl, s, _, rfl, SqT.of pr1, rfl, _, _, rfl, _, _, rfl, rfl, ?_⟩
      refine ⟨_, rfl, x, _, _, _, rfl, rfl, SqT.of fx1, rfl, _, rfl, _, _, rfl, rfl, _, rfl, ?_⟩
      by_cases h : m ≤ N
      · rw [decide_eq_true h]
        have e : a = t ∧ b = m ∧ c = t ∧ d = m := by
          rcases nx with ⟨_, e1, e2, e3, e4⟩ | ⟨l, _, _⟩
          · exact ⟨e1, e2, e3, e4⟩
          · omega
        obtain ⟨rfl, rfl, rfl, rfl⟩ := e
        refine iteT ⟨_, rfl, _, rfl, _, _, FrT.dp fq1, FrT.dp fx1, fr_shaped _ _, fr_shaped _ _, _, rfl, ?_⟩
        rw [fr_eqv]
        refine iteT ⟨_, rfl, _, rfl, _, _, FrT.dp fr1, FrT.dp fx1, fr_shaped _ _, fr_shaped _ _, ?_⟩
        rw [fr_eqv]
        exact k1
      · rw [decide_eq_false h]
        rcases nx with ⟨l, _, _, _, _⟩ | ⟨l, nb, hs⟩
        · omega
        have bN := nb.bN
        have dN := nb.dN
        refine iteF ⟨_, rfl, q, _, _, _, rfl, rfl, SqT.of fq1, rfl, _, rfl, _, _, rfl, rfl, _, rfl, ?_⟩
        rw [decide_eq_false (show ¬ N < b by omega)]
        refine iteF ⟨_, rfl, r, _, _, _, rfl, rfl, SqT.of fr1, rfl, _, rfl, _, _, rfl, rfl, _, rfl, ?_⟩
        rw [decide_eq_false (show ¬ N < d by omega)]
        refine iteF ⟨_, rfl, q, _, _, _, rfl, rfl, SqT.of fq1, rfl, _, rfl, r, _, _, _, rfl, rfl, SqT.of fr1, rfl, _, _, rfl, rfl, _, rfl, _, _, rfl, rfl, _, rfl, ?_⟩
        rw [decide_eq_false (show ¬ b + d ≤ N by omega)]
        refine iteF ?_
        refine ⟨_, rfl, _, rfl, q, x, a, b, t, m, rfl, fq1, fx1, B.ba, B.bb, B.bt, B.bm, _, _, rfl, rfl, _, rfl, ?_⟩
        rw [decide_eq_true nb.u]
        refine iteT ⟨_, rfl, _, rfl, x, r, t, m, c, d, rfl, fx1, fr1, B.bt, B.bm, B.bc, B.bd, _, _, rfl, rfl, _, rfl, ?_⟩
        rw [decide_eq_true nb.v]
        refine iteT ⟨_, rfl, _, rfl, q, r, a, b, c, d, rfl, fq1, fr1, B.ba, B.bb, B.bc, B.bd, rfl, ?_⟩
        rw [nb.g]
        exact k1
end
end My
namespace My
open PySem PySem.Spec PyProof.Rows L2 Vg
section
variable {P : Program} {w : World} {K : PySem.W.Frag} {mg : Str → Option Value} {base : Heap}
theorem ok_turns (T : Txt K mg) : Fn P w K mg base 6 "_law_turns_right" ["_law_pair", "_law_fraction_here"] spTurns := by
  refine T.d_law_turns_right.fn sc_law_turns_right (fun _ _ _ _ _ _ us hl => match us, hl with | [_, _], _ => rfl) ?_ ?_
  · rintro vs H Q E ⟨s, x, q, r, t, m, N, a, b, c, d, rfl, _⟩
    rfl
  · rintro f cdv A outer s0 H vs Q E hr ⟨s, x, q, r, t, m, N, a, b, c, d, rfl, pr, fq, fr, fx, hc, hN, ht, hM, hm, nb, hs, k⟩
    have F_neighbours : Fn P w K mg base 4 "neighbours" ["fraction", "bound"] spNbrs := ok_neighbours T
    have F_nearest : Fn P w K mg base 5 "nearest" ["fraction", "bound"] spNearest := ok_nearest T
    have F_law_near : Fn P w K mg base 2 "_law_near" ["_law_pair", "_law_fraction_here"] spNearL := ok_near T
    have F_law_gap : Fn P w K mg base 1 "_law_gap" ["_law_low", "_law_high"] spGap := ok_gap T
    have B := nb.bds hm ht hM
    have b1 := nb.b1
    have d1 := nb.d1
    have big := nb.big
    have lowB := nb.lowB ht.1 ht.2 hm
    have highB := nb.highB ht.1 ht.2 hm
    have m2 := hM.2
    refine ⟨_, (pss_cons (ps_asg (pv 0) (pg_tup rfl (pgs_cons (pg_name (i := 2) sc_law_turns_right.nd rfl (Or.inl rfl)) (pgs_cons (pg_name (i := 3) sc_law_turns_right.nd rfl (Or.inl rfl)) pgs_nil))))
 (pss_cons (ps_set (i := 4) sc_law_turns_right.nd rfl (Or.inl rfl) (pe_callB (call_max2 rfl) (by rfl) T.n_max (by decide +kernel) (pa_cons (pe_ix ix_tup (pv 2) pe_int (fun _ _ => rfl)) (pa_cons (pe_ix ix_tup (pv 3) pe_int (fun _ _ => rfl)) pa_nil))))
 (pss_cons (ps_set (i := 5) sc_law_turns_right.nd rfl (Or.inl rfl) (pe_op op_add (pe_ix ix_tup (pv 2) pe_int (fun _ _ => rfl)) (pe_ix ix_tup (pv 3) pe_int (fun _ _ => rfl))))
 (pss_cons (ps_for PassesOwn.never rfl (pi_list (pe_lst (pa_cons (pv 4) (pa_cons (pe_op op_sub (pv 5) pe_int) (pa_cons (pe_op op_fdivW (pe_op op_sub (pe_op op_add (pv 4) (pv 5)) pe_int) pe_int) pa_nil))))) (pg_name (i := 6) sc_law_turns_right.nd rfl (Or.inl rfl)) (pss_one (ps_if (PW.pt (pw_or (pt_cmpR (op_neD hr.units) (pe_fn F_neighbours (hr.mono (by decide)) rfl pass0 (pa_cons (pv 1) (pa_cons (pv 6) pa_nil))) (pv 0) (nomark _)) (pw_or1 (pt_cmpR (op_neD hr.units) (pe_fn F_nearest (hr.mono (by decide)) rfl pass0 (pa_cons (pv 1) (pa_cons (pv 6) pa_nil))) (pe_fn F_law_near (hr.mono (by decide)) rfl pass0 (pa_cons (pv 0) (pa_cons (pv 1) pa_nil))) (nomark _))))) (pss_one (ps_ret pe_bl)) pss_nil)))
 (pss_cons (ps_set (i := 7) sc_law_turns_right.nd rfl (Or.inl rfl) (pe_tup (pa_cons (pe_op op_add (pe_ix ix_tup (pv 2) pe_int (fun _ _ => rfl)) (pe_ix ix_tup (pv 3) pe_int (fun _ _ => rfl))) (pa_cons (pv 5) pa_nil))))
 (pss_cons (ps_set (i := 8) sc_law_turns_right.nd rfl (Or.inl rfl) (pe_fn F_law_gap (hr.mono (by decide)) rfl pass0 (pa_cons (pv 7) (pa_cons (pv 1) pa_nil))))
 (pss_cons (ps_set (i := 9) sc_law_turns_right.nd rfl (Or.inl rfl) (pe_ifExp (pt_cmpR op_eq (pv 8) pe_int (nomark _)) (pe_tup (pa_cons (pv 1) (pa_cons (pv 1) pa_nil))) (pe_ifExp (pt_cmpR op_gt (pv 8) pe_int (nomark _)) (pe_tup (pa_cons (pv 7) (pa_cons (pv 3) pa_nil))) (pe_tup (pa_cons (pv 2) (pa_cons (pv 7) pa_nil))))))
 (pss_one (ps_ret (pe_cmpR (op_eqD hr.units) (pe_fn F_neighbours (hr.mono (by decide)) rfl pass0 (pa_cons (pv 1) (pa_cons (pv 5) pa_nil))) (pv 9) (nomark _))))))))))), ?_⟩
    refine ⟨_, rfl, s, _, rfl, SqT.of pr, rfl, _, _, rfl, _, _, rfl, rfl, ?_⟩
    refine ⟨_, rfl, q, _, _, _, rfl, rfl, SqT.of fq, rfl, _, rfl, r, _, _, _, rfl, rfl, SqT.of fr, rfl, _, _, rfl, ?_⟩
    generalize hF : (if d > b then d else b) = F0
    have F1 : b ≤ F0 ∧ d ≤ F0 ∧ F0 < b + d := by
      rw [← hF]
      split <;> omega
    refine ⟨_, rfl, q, _, _, _, rfl, rfl, SqT.of fq, rfl, _, rfl, r, _, _, _, rfl, rfl, SqT.of fr, rfl, _, _, rfl, rfl, ?_⟩
    refine ⟨_, rfl, _, rfl, _, _, rfl, rfl, _, rfl, _, rfl, _, _, rfl, rfl, _, _, rfl, rfl, _, _, rfl, rfl, wide_div (b := 64) (by decide) (by decide) (by decide) (by decide), (by show 3 ≤ sizeLine; decide), fun L hL => ?_⟩
    generalize hXL : upd H L _ = HL
    have eL := of_gen hXL
    have sL := same_gen hL hXL
    dsimp only at eL
    refine ⟨L, rfl, ⟨_, SqL.of eL⟩, ?_⟩
    refine for_list (K := K) (a := L) (xs := [V.int F0, V.int (b + d - 1), V.int ((F0 + (b + d) - 1) / 2)])
      (fun i σ H' => (∃ v, σ = [some (.ref s), some (.ref x), some (.ref q), some (.ref r), some (.int F0), some (.int (b + d)), v, none, none, none]) ∧ Same HL H')
      ⟨⟨_, rfl⟩, Same.refl _⟩ (fun i σ H' _ h => h.2.seq (SqL.of eL)) ?_ ?_
    · rintro i y σ H1 hy ⟨⟨v, rfl⟩, s1⟩
      obtain ⟨z, rfl, z1, z2, z3⟩ : ∃ z, y = V.int z ∧ b ≤ z ∧ d ≤ z ∧ z < b + d := by
        have hm := List.mem_of_getElem? hy
        simp only [List.mem_cons, List.not_mem_nil, or_false] at hm
        rcases hm with rfl | rfl | rfl <;> exact ⟨_, rfl, by omega, by omega, by omega⟩
      have s01 := sL.trans s1
      have nz : NbX t m z a b c d := .inr ⟨by omega, nb.at z1 z2, z3⟩
      refine ⟨_, rfl, _, rfl, x, t, m, z, rfl, s01 _ _ fx, hc, by omega, by omega, ht, hM, fun a' b' c' d' q' r' s' H2 nx' s2 fq' fr' pr' => ?_⟩
      obtain ⟨rfl, rfl, rfl, rfl⟩ := nz.one nx'
      have s02 := s01.trans s2
      refine ⟨_, rfl, _, _, PrT.dp pr' fq' fr', PrT.dp (s02 _ _ pr) (s02 _ _ fq) (s02 _ _ fr), pr_shaped _ _ _ _, pr_shaped _ _ _ _, _, rfl, ?_⟩
      rw [pr_eqv]
      refine iteF ⟨_, rfl, _, rfl, x, t, m, z, rfl, s02 _ _ fx, hc, by omega, by omega, ht, hM, fun a2 b2 c2 d2 y2 H3 nx2 s3 fy => ?_⟩
      obtain ⟨rfl, rfl, rfl, rfl⟩ := nz.one nx2
      have s03 := s02.trans s3
      refine ⟨_, rfl, _, rfl, s, x, q, r, t, m, _, _, _, _, rfl, s03 _ _ pr, s03 _ _ fq, s03 _ _ fr, s03 _ _ fx, B, fun y3 fy3 => ?_⟩
      refine ⟨_, _, FrT.dp fy, FrT.dp fy3, fr_shaped _ _, fr_shaped _ _, _, rfl, ?_⟩
      rw [fr_eqv]
      exact iteF ⟨⟨_, rfl⟩, (s1.trans s2).trans s3⟩
    · rintro σ H1 ⟨⟨v, rfl⟩, s1⟩
      have s01 := sL.trans s1
      have fq1 := s01 _ _ fq
      have fr1 := s01 _ _ fr
      refine ⟨_, rfl, q, _, _, _, rfl, rfl, SqT.of fq1, rfl, _, rfl, r, _, _, _, rfl, rfl, SqT.of fr1, rfl, _, _, rfl, rfl, _, rfl, (by show 2 ≤ sizeLine; decide), fun A1 hA => ?_⟩
      generalize hXA : upd H1 A1 _ = H2
      have fA : FrT H2 A1 (a + c) (b + d) := of_gen hXA
      have sA := same_gen hA hXA
      have s02 := s01.trans sA
      have fx2 := s02 _ _ fx
      refine ⟨_, rfl, _, rfl, A1, x, a + c, b + d, t, m, rfl, fA, fx2, (by unfold Bd; omega), (by unfold Bd; omega), B.bt, B.bm, ?_⟩
      refine ⟨_, rfl, rfl, _, rfl, ?_⟩
      dsimp only
      by_cases h0 : t * (b + d) - (a + c) * m = 0
      · rw [decide_eq_true (congrArg V.int h0)]
        refine iteT ⟨_, rfl, _, rfl, (by show 2 ≤ sizeLine; decide), fun W hW => ?_⟩
        generalize hXW : upd H2 W _ = H3
        have fW : PrT H3 W x x := of_gen hXW
        have s03 := s02.trans (same_gen hW hXW)
        have fx3 := s03 _ _ fx
        obtain ⟨e1, e2⟩ := nb.mid0 hc h0
        have nz : NbX t m (b + d) t m t m := .inl ⟨by omega, rfl, rfl, rfl, rfl⟩
        refine ⟨_, rfl, _, rfl, x, t, m, b + d, rfl, fx3, hc, by omega, by omega, ht, hM, fun a' b' c' d' q' r' s' H4 nx' s4 fq' fr' pr' => ?_⟩
        obtain ⟨e5, e6, e7, e8⟩ := nz.one nx'
        subst e5 e6
        rw [e7] at fr'
        rw [e8] at fr'
        refine ⟨_, rfl, _, _, PrT.dp pr' fq' fr', PrT.dp (s4 _ _ fW) (s4 _ _ fx3) (s4 _ _ fx3), pr_shaped _ _ _ _, pr_shaped _ _ _ _, ?_⟩
        rw [pr_eqv]
        exact k _ (s03.trans s4)
      · rw [decide_eq_false (fun z => by injection z with z; exact h0 z)]
        refine iteF ⟨_, rfl, _, _, rfl, rfl, _, rfl, ?_⟩
        have hmid := nb.midB h0
        by_cases h1 : 0 < t * (b + d) - (a + c) * m
        · rw [decide_eq_true h1]
          refine iteT ⟨_, rfl, _, rfl, (by show 2 ≤ sizeLine; decide), fun W hW => ?_⟩
          generalize hXW : upd H2 W _ = H3
          have fW : PrT H3 W A1 r := of_gen hXW
          have s3 := same_gen hW hXW
          have s03 := s02.trans s3
          have nz : NbX t m (b + d) (a + c) (b + d) c d := .inr ⟨hmid, nb.midL h1, by omega⟩
          refine ⟨_, rfl, _, rfl, x, t, m, b + d, rfl, s03 _ _ fx, hc, by omega, by omega, ht, hM, fun a' b' c' d' q' r' s' H4 nx' s4 fq' fr' pr' => ?_⟩
          obtain ⟨rfl, rfl, rfl, rfl⟩ := nz.one nx'
          have s04 := s03.trans s4
          refine ⟨_, rfl, _, _, PrT.dp pr' fq' fr', PrT.dp (s4 _ _ fW) (s4 _ _ (s3 _ _ fA)) (s04 _ _ fr), pr_shaped _ _ _ _, pr_shaped _ _ _ _, ?_⟩
          rw [pr_eqv]
          exact k _ s04
        · rw [decide_eq_false h1]
          refine iteF ⟨_, rfl, _, rfl, (by show 2 ≤ sizeLine; decide), fun W hW => ?_⟩
          generalize hXW : upd H2 W _ = H3
          have fW : PrT H3 W q A1 := of_gen hXW
          have s3 := same_gen hW hXW
          have s03 := s02.trans s3
          have nz : NbX t m (b + d) a b (a + c) (b + d) := .inr ⟨hmid, nb.midH (by omega), by omega⟩
          refine ⟨_, rfl, _, rfl, x, t, m, b + d, rfl, s03 _ _ fx, hc, by omega, by omega, ht, hM, fun a' b' c' d' q' r' s' H4 nx' s4 fq' fr' pr' => ?_⟩
          obtain ⟨rfl, rfl, rfl, rfl⟩ := nz.one nx'
          have s04 := s03.trans s4
          refine ⟨_, rfl, _, _, PrT.dp pr' fq' fr', PrT.dp (s4 _ _ fW) (s04 _ _ fq) (s4 _ _ (s3 _ _ fA)), pr_shaped _ _ _ _, pr_shaped _ _ _ _, ?_⟩
          rw [pr_eqv]
          exact k _ s04
end
end My
namespace My
open PySem PySem.Spec PyProof.Rows L2 Vg
theorem pow_ok {a b : Int} (h : 0 ≤ b ∧ b ≤ 1000000 ∧ a.natAbs < 2 ^ 64) : CPow a b := h
theorem gcd_le {a b : Int} (hb : 1 ≤ b) : gcdI a b ≤ b := by
  have d2 : gcdI a b ∣ b := Int.ofNat_dvd_left.mpr (Nat.gcd_dvd_right _ _)
  exact Int.le_of_dvd (by omega) d2
theorem e30 : (10 : Int) ^ Int.toNat 30 = 1000000000000000000000000000000 := by decide
theorem e26 : (10 : Int) ^ Int.toNat 26 = 100000000000000000000000000 := by decide
section
variable {P : Program} {w : World} {K : PySem.W.Frag} {mg : Str → Option Value} {base : Heap}
theorem ok_made (T : Txt K mg) : Fn P w K mg base 2 "_law_made" ["_law_top", "_law_bottom"] spMade := by
  refine T.d_law_made.fn sc_law_made (fun _ _ _ _ _ _ us hl => match us, hl with | [_, _], _ => rfl) ?_ ?_
  · rintro vs H Q E ⟨a, b, rfl, _⟩
    rfl
  · rintro f cdv A outer s0 H vs Q E hr ⟨a, b, rfl, ha, hb, h1, k⟩
    have F_law_common : Fn P w K mg base 1 "_law_common" ["_law_one", "_law_other"] spCommon := ok_common T
    refine ⟨_, (pss_cons (ps_set (i := 2) sc_law_made.nd rfl (Or.inl rfl) (pe_fn F_law_common (hr.mono (by decide)) rfl pass0 (pa_cons (pv 0) (pa_cons (pv 1) pa_nil))))
 (pss_cons (ps_if (pt_cmpR op_lt (pv 1) pe_int (nomark _)) (pss_one (ps_set (i := 2) sc_law_made.nd rfl (Or.inl rfl) (pe_op op_sub pe_int (pv 2)))) pss_nil)
 (pss_one (ps_ret (pe_tup (pa_cons (pe_op op_fdivW (pv 0) (pv 2)) (pa_cons (pe_op op_fdivW (pv 1) (pv 2)) pa_nil))))))), ?_⟩
    refine ⟨_, rfl, _, rfl, a, b, rfl, ?_⟩
    obtain ⟨g1, g2, g3⟩ := gcd_divs (a := a) h1
    have g4 := gcd_le (a := a) h1
    have hb2 := hb.2
    have gB : Bd (gcdI a b) := by
      unfold Bd
      omega
    refine ⟨_, rfl, _, _, rfl, rfl, _, rfl, ?_⟩
    rw [decide_eq_false (show ¬ b < 0 by omega)]
    refine iteF ⟨_, rfl, _, rfl, _, _, rfl, rfl, Bd.div (by omega) gB, _, rfl, _, rfl, _, _, rfl, rfl, Bd.div (by omega) gB, (by show 2 ≤ sizeLine; decide), fun q hq => ?_⟩
    generalize hX : upd H q _ = H1
    have f1 : FrT H1 q (a / gcdI a b) (b / gcdI a b) := of_gen hX
    exact k q _ _ H1 g1 g3 (div_small g2 ha.1 ha.2 (by decide)) (div_small g2 hb.1 hb.2 (by decide)) (same_gen hq hX) f1
theorem ok_digits (T : Txt K mg) : Fn P w K mg base 2 "_law_digits" ["_law_purse_here", "_law_figures"] spDigits := by
  refine T.d_law_digits.fn sc_law_digits (fun _ _ _ _ _ _ us hl => match us, hl with | [_, _], _ => rfl) ?_ ?_
  · rintro vs H Q E ⟨p, k, n, rfl, _⟩
    rfl
  · rintro f cdv A outer s0 H vs Q E hr ⟨p, k, n, rfl, hk, hp, q⟩
    have F_law_take : Fn P w K mg base 1 "_law_take" ["_law_purse_here", "_law_many"] spTake := ok_take T
    refine ⟨_, (pss_cons (ps_set (i := 2) sc_law_digits.nd rfl (Or.inl rfl) pe_int)
 (pss_cons (ps_for PassesOwn.never rfl (pi_range1 (by rfl) T.n_range (pa_cons (pv 1) pa_nil)) (pg_name (i := 3) sc_law_digits.nd rfl (Or.inl rfl)) (pss_one (ps_set (i := 2) sc_law_digits.nd rfl (Or.inl rfl) (pe_op op_add (pe_op op_mulW pe_int (pv 2)) (pe_fn F_law_take (hr.mono (by decide)) rfl pass0 (pa_cons (pv 0) (pa_cons pe_int pa_nil)))))))
 (pss_one (ps_ret (pv 2))))), ?_⟩
    refine ⟨_, rfl, _, rfl, by omega, by omega, ?_⟩
    refine for_range (fun i σ H' => ∃ (z : Int) (v : Option V), σ = [some (.ref p), some (.int k), some (.int z), v] ∧ 0 ≤ z ∧ z < ((10 ^ i : Nat) : Int) ∧ But p H H' ∧ Pz H' p (n + (k - i))) ?_ ?_ ?_
    · exact ⟨0, none, rfl, by decide, by decide, But.refl _ _, hp⟩
    · rintro i σ H1 hi ⟨z, v, rfl, z0, z1, c1, p1⟩
      have hi' : i < k := by omega
      have hpow : 10 ^ i ≤ 10 ^ 30 := Nat.pow_le_pow_right (by decide) (by omega)
      have zB : Bd z := by
        have : ((10 ^ i : Nat) : Int) ≤ ((10 ^ 30 : Nat) : Int) := by exact_mod_cast hpow
        have e : ((10 ^ 30 : Nat) : Int) = 1000000000000000000000000000000 := by decide
        unfold Bd
        omega
      refine ⟨_, rfl, _, _, rfl, rfl, Bd.mul (by unfold Bd; decide) zB, _, rfl, p, 10, n + (k - (i + 1)), rfl, by decide, by decide, p1.mono (by omega), fun r l r0 r1 u => ?_⟩
      refine ⟨_, _, rfl, rfl, 10 * z + r, _, rfl, by omega, ?_, c1.trans But.upd, Pz.upd u⟩
      have e : (10 ^ (i + 1) : Nat) = 10 ^ i * 10 := Nat.pow_succ ..
      rw [e]
      omega
    · rintro σ H1 ⟨z, v, rfl, z0, z1, c1, p1⟩
      have hpow : 10 ^ k ≤ 10 ^ 30 := Nat.pow_le_pow_right (by decide) hk
      have e1 : ((10 ^ k : Nat) : Int) ≤ ((10 ^ 30 : Nat) : Int) := by exact_mod_cast hpow
      have e2 : ((10 ^ 30 : Nat) : Int) = 1000000000000000000000000000000 := by decide
      have e3 : Int.toNat (k : Int) = k := by omega
      rw [e3] at z1
      exact ⟨_, rfl, q z H1 z0 (by omega) c1 (p1.mono (by omega))⟩
theorem ok_fraction (T : Txt K mg) : Fn P w K mg base 3 "_law_fraction" ["_law_purse_here"] spFraction := by
  refine T.d_law_fraction.fn sc_law_fraction (fun _ _ _ _ _ _ us hl => match us, hl with | [_], _ => rfl) ?_ ?_
  · rintro vs H Q E ⟨p, n, rfl, _⟩
    rfl
  · rintro f cdv A outer s0 H vs Q E hr ⟨p, n, rfl, hp, k⟩
    have F_law_take : Fn P w K mg base 1 "_law_take" ["_law_purse_here", "_law_many"] spTake := ok_take T
    have F_law_digits : Fn P w K mg base 2 "_law_digits" ["_law_purse_here", "_law_figures"] spDigits := ok_digits T
    have F_law_made : Fn P w K mg base 2 "_law_made" ["_law_top", "_law_bottom"] spMade := ok_made T
    refine ⟨_, (pss_cons (ps_set (i := 1) sc_law_fraction.nd rfl (Or.inl rfl) (pe_fn F_law_take (hr.mono (by decide)) rfl pass0 (pa_cons (pv 0) (pa_cons pe_int pa_nil))))
 (pss_cons (ps_if (pt_cmpR op_lt (pv 1) pe_int (nomark _)) (pss_cons (ps_set (i := 2) sc_law_fraction.nd rfl (Or.inl rfl) (pe_fn F_law_digits (hr.mono (by decide)) rfl pass0 (pa_cons (pv 0) (pa_cons (pe_ix ix_list (pe_lst (pa_cons pe_int (pa_cons pe_int pa_nil))) (pv 1) (fun _ _ => rfl)) pa_nil))))
 (pss_cons (ps_set (i := 3) sc_law_fraction.nd rfl (Or.inl rfl) (pe_op op_add pe_int (pe_op op_mod (pe_fn F_law_digits (hr.mono (by decide)) rfl pass0 (pa_cons (pv 0) (pa_cons (pe_ix ix_list (pe_lst (pa_cons pe_int (pa_cons pe_int pa_nil))) (pe_fn F_law_take (hr.mono (by decide)) rfl pass0 (pa_cons (pv 0) (pa_cons pe_int pa_nil))) (fun _ _ => rfl)) pa_nil))) (pe_op op_sub (pe_op op_pow pe_int pe_int) pe_int))))
 (pss_one (ps_ret (pe_fn F_law_made (hr.mono (by decide)) rfl pass0 (pa_cons (pe_op op_mulW (pv 2) (pe_op op_sub pe_int (pe_op op_mulW pe_int (pe_fn F_law_take (hr.mono (by decide)) rfl pass0 (pa_cons (pv 0) (pa_cons pe_int pa_nil)))))) (pa_cons (pv 3) pa_nil))))))) pss_nil)
 (pss_cons (ps_asg (pe_tup (pa_cons pe_int (pa_cons pe_int pa_nil))) (pg_tup rfl (pgs_cons (pg_name (i := 2) sc_law_fraction.nd rfl (Or.inl rfl)) (pgs_cons (pg_name (i := 3) sc_law_fraction.nd rfl (Or.inl rfl)) pgs_nil))))
 (pss_cons (ps_set (i := 4) sc_law_fraction.nd rfl (Or.inl rfl) (pe_op op_add pe_int (pe_fn F_law_take (hr.mono (by decide)) rfl pass0 (pa_cons (pv 0) (pa_cons pe_int pa_nil)))))
 (pss_cons (ps_set (i := 5) sc_law_fraction.nd rfl (Or.inl rfl) (pe_ix ix_list (pe_lst (pa_cons pe_int (pa_cons pe_int (pa_cons pe_int (pa_cons pe_int pa_nil))))) (pe_fn F_law_take (hr.mono (by decide)) rfl pass0 (pa_cons (pv 0) (pa_cons pe_int pa_nil))) (fun _ _ => rfl)))
 (pss_cons (ps_for PassesOwn.never rfl (pi_range1 (by rfl) T.n_range (pa_cons (pv 4) pa_nil)) (pg_name (i := 6) sc_law_fraction.nd rfl (Or.inl rfl)) (pss_one (ps_if (pt_cmpR op_lt (pe_callB (call_max2 rfl) (by rfl) T.n_max (by decide +kernel) (pa_cons (pe_callB call_abs (by rfl) T.n_abs (by decide +kernel) (pa_cons (pv 2) pa_nil)) (pa_cons (pv 3) pa_nil))) (pe_op op_pow pe_int pe_int) (nomark _)) (pss_one (ps_par (i := 2) (j := 3) (by rfl) sc_law_fraction.nd rfl rfl (by decide) rfl rfl (pa_cons (pe_op op_add (pe_op op_mulW (pv 2) (pe_op op_add pe_int (pe_fn F_law_take (hr.mono (by decide)) rfl pass0 (pa_cons (pv 0) (pa_cons (pv 5) pa_nil))))) (pv 3)) (pa_cons (pv 2) pa_nil)) (by rfl))) pss_nil)))
 (pss_cons (ps_set (i := 7) sc_law_fraction.nd rfl (Or.inl rfl) (pe_op op_sub (pe_fn F_law_take (hr.mono (by decide)) rfl pass0 (pa_cons (pv 0) (pa_cons pe_int pa_nil))) pe_int))
 (pss_one (ps_ret (pe_fn F_law_made (hr.mono (by decide)) rfl pass0 (pa_cons (pe_op op_add (pe_op op_mulW (pv 7) (pv 2)) (pv 3)) (pa_cons (pv 2) pa_nil)))))))))))), ?_⟩
    refine ⟨_, rfl, p, 4, n + 199, rfl, by decide, by decide, hp, fun r1 l1 a1 b1 u1 => ?_⟩
    have z1 := Pz.upd (H := H) (p := p) u1
    have c1 : But p H (upd H p (.lst l1)) := But.upd
    generalize upd H p (.lst l1) = H1 at z1 c1 ⊢
    refine ⟨_, rfl, _, _, rfl, rfl, _, rfl, ?_⟩
    by_cases h : r1 < 2
    · rw [decide_eq_true h]
      refine iteT ?_
      refine ⟨_, rfl, (by show 2 ≤ sizeLine; decide), fun q1 hq1 => ?_⟩
      generalize hX1 : upd H1 q1 _ = H2
      have e2 := of_gen hX1
      have s2 := same_gen hq1 hX1
      obtain ⟨z, hz, hat⟩ := pickI (zs := [30, 12]) a1 h
      obtain ⟨k1, hk1, rfl⟩ : ∃ k1 : Nat, k1 ≤ 30 ∧ z = (k1 : Int) := by
        simp only [List.mem_cons, List.not_mem_nil, or_false] at hz
        rcases hz with rfl | rfl
        · exact ⟨30, by decide, rfl⟩
        · exact ⟨12, by decide, rfl⟩
      refine ⟨_, rfl, q1, _, _, _, rfl, rfl, SqL.of e2, hat, p, k1, n + 169, rfl, hk1, (z1.same s2).mono (by omega), fun x H3 x0 x1 c3 z3 => ?_⟩
      have c13 : But p H H3 := (c1.trans (But.of s2)).trans c3
      refine ⟨_, rfl, (by show 2 ≤ sizeLine; decide), fun q2 hq2 => ?_⟩
      generalize hX2 : upd H3 q2 _ = H4
      have e4 := of_gen hX2
      have s4 := same_gen hq2 hX2
      refine ⟨_, rfl, p, 2, n + 168, rfl, by decide, by decide, (z3.same s4).mono (by omega), fun r2 l2 a2 b2 u2 => ?_⟩
      obtain ⟨z', hz', hat'⟩ := pickI (zs := [30, 8]) a2 b2
      obtain ⟨k2, hk2, rfl⟩ : ∃ k1 : Nat, k1 ≤ 30 ∧ z' = (k1 : Int) := by
        simp only [List.mem_cons, List.not_mem_nil, or_false] at hz'
        rcases hz' with rfl | rfl
        · exact ⟨30, by decide, rfl⟩
        · exact ⟨8, by decide, rfl⟩
      have z4 := Pz.upd (H := H4) (p := p) u2
      have c14 := (c13.trans (But.of s4)).trans (But.upd (o := .lst l2))
      have nq : q2 ≠ p := z3.ne hq2
      have e5 : upd H4 p (.lst l2) q2 = some (.lst [.int 30, .int 8]) := by
        rw [upd_ne nq]
        exact e4
      generalize upd H4 p (.lst l2) = H5 at z4 c14 e5 ⊢
      refine ⟨q2, _, _, _, rfl, rfl, SqL.of e5, hat', p, k2, n + 138, rfl, hk2, z4.mono (by omega), fun y H6 y0 y1 c6 z6 => ?_⟩
      have m0 := Int.emod_nonneg y (show (999999999999999999999999999999 : Int) ≠ 0 by decide)
      have m1 := Int.emod_lt_of_pos y (show (0 : Int) < 999999999999999999999999999999 by decide)
      refine ⟨_, _, rfl, rfl, pow_ok (by decide), _, _, rfl, rfl, _, _, rfl, rfl, (by show (0 : Int) < 10 ^ Int.toNat 30 - 1; decide), _, _, rfl, rfl, ?_⟩
      refine ⟨_, rfl, _, rfl, p, 2, n, rfl, by decide, by decide, z6.mono (by omega), fun r3 l3 a3 b3 u3 => ?_⟩
      have z7 := Pz.upd (H := H6) (p := p) u3
      have c7 := (c14.trans c6).trans (But.upd (o := .lst l3))
      generalize upd H6 p (.lst l3) = H7 at z7 c7 ⊢
      have xB : Bd x := by
        unfold Bd
        omega
      refine ⟨_, _, rfl, rfl, Bd.mul (by unfold Bd; decide) (by unfold Bd; omega), _, _, rfl, rfl, _, _, rfl, rfl, Bd.mul xB (by unfold Bd; omega), _, rfl, ?_⟩
      refine ⟨_, _, rfl, ?_, ?_, ?_, fun q t m H8 g hm ht hM s8 fq => k q t m H8 g hm ht hM (c7.trans (But.of s8)) (z7.same s8) fq⟩
      · have e : r3 = 0 ∨ r3 = 1 := by omega
        unfold Sm
        rcases e with rfl | rfl <;> omega
      · show Sm (1 + y % (10 ^ Int.toNat 30 - 1))
        rw [e30]
        unfold Sm
        omega
      · show 1 ≤ 1 + y % (10 ^ Int.toNat 30 - 1)
        rw [e30]
        omega
    · rw [decide_eq_false h]
      refine iteF ⟨(by show 2 ≤ sizeLine; decide), fun q1 hq1 => ?_⟩
      generalize hX1 : upd H1 q1 _ = H2
      have e2 := of_gen hX1
      have s2 := same_gen hq1 hX1
      refine ⟨q1, _, rfl, SqT.of e2, rfl, _, _, rfl, _, _, rfl, rfl, ?_⟩
      have z2 := z1.same s2
      have c2 := c1.trans (But.of s2)
      refine ⟨_, rfl, p, 40, n + 198, rfl, by decide, by decide, z2.mono (by omega), fun r2 l2 a2 b2 u2 => ?_⟩
      have z3 := Pz.upd (H := H2) (p := p) u2
      have c3 := c2.trans (But.upd (o := .lst l2))
      generalize upd H2 p (.lst l2) = H3 at z3 c3 ⊢
      refine ⟨_, _, rfl, rfl, ?_⟩
      refine ⟨(by show 4 ≤ sizeLine; decide), fun q2 hq2 => ?_⟩
      generalize hX2 : upd H3 q2 _ = H4
      have e4 := of_gen hX2
      have s4 := same_gen hq2 hX2
      refine ⟨_, rfl, p, 4, n + 197, rfl, by decide, by decide, (z3.same s4).mono (by omega), fun r3 l3 a3 b3 u3 => ?_⟩
      obtain ⟨gr, hgr, hat⟩ := pickI (zs := [2, 3, 9, 1000]) a3 b3
      have g01 : 0 < gr ∧ gr ≤ 1000 := by
        simp only [List.mem_cons, List.not_mem_nil, or_false] at hgr
        rcases hgr with rfl | rfl | rfl | rfl <;> omega
      have z5 := Pz.upd (H := H4) (p := p) u3
      have c5 := (c3.trans (But.of s4)).trans (But.upd (o := .lst l3))
      have e5 : upd H4 p (.lst l3) q2 = some (.lst [.int 2, .int 3, .int 9, .int 1000]) := by
        rw [upd_ne (z3.ne hq2)]
        exact e4
      generalize upd H4 p (.lst l3) = H5 at z5 c5 e5 ⊢
      refine ⟨q2, _, _, _, rfl, rfl, SqL.of e5, hat, ?_⟩
      refine ⟨_, rfl, _, rfl, by omega, by omega, ?_⟩
      have many : Int.toNat (1 + r2) ≤ 40 := by omega
      refine for_range (fun i σ H' => ∃ (x y : Int) (v : Option V), σ = [some (.ref p), some (.int r1), some (.int x), some (.int y), some (.int (1 + r2)), some (.int gr), v, none] ∧
        1 ≤ x ∧ x ≤ 1000000000000000000000000000000 ∧ 0 ≤ y ∧ y ≤ 1000000000000000000000000000000 ∧ But p H H' ∧ Pz H' p (n + (100 - i))) ?_ ?_ ?_
      · exact ⟨1, 0, none, rfl, by decide, by decide, by decide, by decide, c5, z5.mono (by omega)⟩
      · rintro i σ H6 hi ⟨x, y, v, rfl, x1, x2, y1, y2, c6, z6⟩
        have hi40 : i < 40 := by
          refine Nat.lt_of_lt_of_le hi ?_
          exact many
        refine ⟨_, rfl, _, rfl, _, rfl, _, _, rfl, _, _, rfl, rfl, pow_ok (by decide), _, _, rfl, rfl, _, rfl, ?_⟩
        cases hb : decide ((if y > (if x < 0 then -x else x) then y else (if x < 0 then -x else x)) < (10 : Int) ^ Int.toNat 26) with
        | true =>
          have lt := of_decide_eq_true hb
          rw [e26] at lt
          have xy : x < 100000000000000000000000000 ∧ y < 100000000000000000000000000 := by
            rw [if_neg (show ¬ x < 0 by omega)] at lt
            split at lt <;> omega
          refine iteT ⟨_, rfl, _, rfl, _, rfl, p, gr, n + (100 - (i + 1)), rfl, g01.1, Nat.lt_of_le_of_lt (show gr.natAbs ≤ 1000 by omega) (by decide), z6.mono (by omega), fun r l r0 r9 u => ?_⟩
          have xr : x * (1 + r) ≤ 100000000000000000000000000 * 1000 := Int.mul_le_mul (by omega) (by omega) (by omega) (by omega)
          have xr0 : 1 * 1 ≤ x * (1 + r) := Int.mul_le_mul x1 (by omega) (by omega) (by omega)
          refine ⟨_, _, rfl, rfl, _, _, rfl, rfl, Bd.mul (by unfold Bd; omega) (by unfold Bd; omega), _, rfl, _, _, rfl, rfl, _, rfl, _, _, rfl, ?_⟩
          exact ⟨_, _, _, rfl, by omega, by omega, by omega, by omega, c6.trans But.upd, Pz.upd u⟩
        | false => exact iteF ⟨_, _, _, rfl, x1, x2, y1, y2, c6, z6.mono (by omega)⟩
      · rintro σ H6 ⟨x, y, v, rfl, x1, x2, y1, y2, c6, z6⟩
        refine ⟨_, rfl, p, 9, n, rfl, by decide, by decide, z6.mono (by omega), fun r l r0 r9 u => ?_⟩
        have z7 := Pz.upd (H := H6) (p := p) u
        have c7 := c6.trans (But.upd (o := .lst l))
        generalize upd H6 p (.lst l) = H7 at z7 c7 ⊢
        refine ⟨_, _, rfl, rfl, ?_⟩
        refine ⟨_, rfl, _, rfl, _, _, rfl, rfl, Bd.mul (by unfold Bd; omega) (by unfold Bd; omega), _, rfl, _, _, rfl, rfl, _, rfl, ?_⟩
        have w1 : (r - 4) * x ≤ 4 * x := Int.mul_le_mul_of_nonneg_right (by omega) (by omega)
        have w2 : (-4) * x ≤ (r - 4) * x := Int.mul_le_mul_of_nonneg_right (by omega) (by omega)
        refine ⟨_, _, rfl, (by unfold Sm; omega), (by unfold Sm; omega), x1, fun q t m H8 g hm ht hM s8 fq => k q t m H8 g hm ht hM (c7.trans (But.of s8)) (z7.same s8) fq⟩
theorem ok_bound (T : Txt K mg) : Fn P w K mg base 3 "_law_bound" ["_law_purse_here", "_law_fraction_here"] spBound := by
  refine T.d_law_bound.fn sc_law_bound (fun _ _ _ _ _ _ us hl => match us, hl with | [_, _], _ => rfl) ?_ ?_
  · rintro vs H Q E ⟨p, x, t, m, n, rfl, _⟩
    rfl
  · rintro f cdv A outer s0 H vs Q E hr ⟨p, x, t, m, n, rfl, fx, hp, k⟩
    have F_law_take : Fn P w K mg base 1 "_law_take" ["_law_purse_here", "_law_many"] spTake := ok_take T
    have F_law_digits : Fn P w K mg base 2 "_law_digits" ["_law_purse_here", "_law_figures"] spDigits := ok_digits T
    have nx : x ≠ p := by
      rintro rfl
      obtain ⟨l, h1, _⟩ := id hp
      rw [fx] at h1
      cases h1
    refine ⟨_, (pss_cons (ps_set (i := 2) sc_law_bound.nd rfl (Or.inl rfl) (pe_fn F_law_take (hr.mono (by decide)) rfl pass0 (pa_cons (pv 0) (pa_cons pe_int pa_nil))))
 (pss_cons (ps_if (pt_cmpR op_eq (pv 2) pe_int (nomark _)) (pss_one (ps_ret (pe_callB (call_max2 rfl) (by rfl) T.n_max (by decide +kernel) (pa_cons pe_int (pa_cons (pe_callB (call_min2 rfl) (by rfl) T.n_min (by decide +kernel) (pa_cons (pe_op op_sub (pe_op op_pow pe_int pe_int) pe_int) (pa_cons (pe_op op_add (pe_op op_sub (pe_ix ix_tup (pv 1) pe_int (fun _ _ => rfl)) pe_int) (pe_fn F_law_take (hr.mono (by decide)) rfl pass0 (pa_cons (pv 0) (pa_cons pe_int pa_nil)))) pa_nil))) pa_nil))))) pss_nil)
 (pss_cons (ps_if (pt_cmpR op_eq (pv 2) pe_int (nomark _)) (pss_one (ps_ret (pe_op op_add pe_int (pe_fn F_law_take (hr.mono (by decide)) rfl pass0 (pa_cons (pv 0) (pa_cons pe_int pa_nil)))))) pss_nil)
 (pss_one (ps_ret (pe_op op_add pe_int (pe_op op_mod (pe_fn F_law_digits (hr.mono (by decide)) rfl pass0 (pa_cons (pv 0) (pa_cons (pe_ix ix_list (pe_lst (pa_cons pe_int (pa_cons pe_int pa_nil))) (pe_op op_sub (pv 2) pe_int) (fun _ _ => rfl)) pa_nil))) (pe_op op_sub (pe_op op_pow pe_int pe_int) pe_int)))))))), ?_⟩
    refine ⟨_, rfl, p, 4, n + 49, rfl, by decide, by decide, hp, fun r1 l1 a1 b1 u1 => ?_⟩
    have z1 := Pz.upd (H := H) (p := p) u1
    have c1 : But p H (upd H p (.lst l1)) := But.upd
    have fx1 := c1 _ _ nx fx
    generalize upd H p (.lst l1) = H1 at z1 c1 fx1 ⊢
    refine ⟨_, rfl, rfl, _, rfl, ?_⟩
    by_cases h0 : r1 = 0
    · rw [decide_eq_true (congrArg V.int h0)]
      refine iteT ⟨_, _, rfl, rfl, pow_ok (by decide), _, _, rfl, rfl, _, rfl, x, _, _, _, rfl, rfl, SqT.of fx1, rfl, _, _, rfl, rfl, _, rfl, p, 3, n, rfl, by decide, by decide, z1.mono (by omega), fun r2 l2 a2 b2 u2 => ?_⟩
      refine ⟨_, _, rfl, rfl, _, _, rfl, _, _, rfl, ?_⟩
      refine k _ _ ?_ (c1.trans But.upd) (Pz.upd u2)
      split <;> omega
    · rw [decide_eq_false (fun z => by injection z with z; exact h0 z)]
      refine iteF ⟨_, rfl, rfl, _, rfl, ?_⟩
      by_cases h1 : r1 = 1
      · rw [decide_eq_true (congrArg V.int h1)]
        refine iteT ⟨_, rfl, p, 50, n, rfl, by decide, by decide, z1.mono (by omega), fun r2 l2 a2 b2 u2 => ?_⟩
        exact ⟨_, _, rfl, rfl, k _ _ (by omega) (c1.trans But.upd) (Pz.upd u2)⟩
      · rw [decide_eq_false (fun z => by injection z with z; exact h1 z)]
        refine iteF ⟨_, rfl, (by show 2 ≤ sizeLine; decide), fun q1 hq1 => ?_⟩
        generalize hX1 : upd H1 q1 _ = H2
        have e2 := of_gen hX1
        have s2 := same_gen hq1 hX1
        obtain ⟨z, hz, hat⟩ := pickI (zs := [30, 10]) (r := r1 - 2) (by omega) (by show r1 - 2 < 2; omega)
        obtain ⟨k1, hk1, rfl⟩ : ∃ k1 : Nat, k1 ≤ 30 ∧ z = (k1 : Int) := by
          simp only [List.mem_cons, List.not_mem_nil, or_false] at hz
          rcases hz with rfl | rfl
          · exact ⟨30, by decide, rfl⟩
          · exact ⟨10, by decide, rfl⟩
        refine ⟨_, rfl, _, _, rfl, rfl, q1, _, _, _, rfl, rfl, SqL.of e2, hat, p, k1, n, rfl, hk1, (z1.same s2).mono (by omega), fun y H3 y0 y1 c3 z3 => ?_⟩
        refine ⟨_, _, rfl, rfl, pow_ok (by decide), _, _, rfl, rfl, _, _, rfl, rfl, (by show (0 : Int) < 10 ^ Int.toNat 30 - 1; decide), _, _, rfl, rfl, ?_⟩
        refine k _ _ ?_ ((c1.trans (But.of s2)).trans c3) z3
        have := Int.emod_nonneg y (show (10 : Int) ^ Int.toNat 30 - 1 ≠ 0 by decide)
        omega
end
end My
namespace My
open PySem PySem.Spec PyProof.Rows L2 Vg
theorem fr_ne {H : Hp} {p y : Addr} {xs : List V} {n : Nat} (h : H y = some (.tup xs)) (z : Pz H p n) : y ≠ p := by
  rintro rfl
  obtain ⟨l, h1, _⟩ := z
  rw [h] at h1
  cases h1
section
variable {P : Program} {w : World} {K : PySem.W.Frag} {mg : Str → Option Value} {base : Heap}
theorem ok_law (T : Txt K mg) {f : Addr} {fd : FuncData} (F : Fun K "law" "law" s_law f fd) : FnG P w K mg base CX0 7 f fd ["_law_script"] (spLaw K) := by
  refine fng_fun F sc_law ?_ ?_
  · rintro vs H Q E ⟨a, ns, rfl, _⟩
    rfl
  · rintro cdv A outer s0 H vs Q E hgd hr ⟨a, ns, rfl, hS, hlen, k⟩
    have F_law_take : Fn P w K mg base 1 "_law_take" ["_law_purse_here", "_law_many"] spTake := ok_take T
    have F_law_cell : Fn P w K mg base 1 "_law_cell" ["_law_script", "_law_k"] (Vg.spCell K) := ok_cell T
    have F_law_purse : Fn P w K mg base 1 "_law_purse" ["_law_cell_here"] spPurse := ok_purse T
    have F_law_fraction : Fn P w K mg base 3 "_law_fraction" ["_law_purse_here"] spFraction := ok_fraction T
    have F_law_bound : Fn P w K mg base 3 "_law_bound" ["_law_purse_here", "_law_fraction_here"] spBound := ok_bound T
    have F_neighbours : Fn P w K mg base 4 "neighbours" ["fraction", "bound"] spNbrs := ok_neighbours T
    have F_nearest : Fn P w K mg base 5 "nearest" ["fraction", "bound"] spNearest := ok_nearest T
    have F_law_shown : Fn P w K mg base 3 "_law_shown" ["_law_found", "_law_fraction_here", "_law_bound_here"] spShown := ok_shown T
    have F_law_near : Fn P w K mg base 2 "_law_near" ["_law_pair", "_law_fraction_here"] spNearL := ok_near T
    have F_law_turns_right : Fn P w K mg base 6 "_law_turns_right" ["_law_pair", "_law_fraction_here"] spTurns := ok_turns T
    have hl63 : (ns.map V.int).length ≤ 63 := by rw [List.length_map]; exact hlen
    refine ⟨_, (pss_cons (ps_for PassesOwn.never rfl (pi_range1 (by rfl) T.n_range (pa_cons (pe_callB (call_max2 rfl) (by rfl) T.n_max (by decide +kernel) (pa_cons pe_int (pa_cons (pe_callB (call_min2 rfl) (by rfl) T.n_min (by decide +kernel) (pa_cons pe_int (pa_cons (pe_callB call_len_seq (by rfl) T.n_len PySem.boot_len (pa_cons (pv 0) pa_nil)) pa_nil))) pa_nil))) pa_nil)) (pg_name (i := 1) sc_law.nd rfl (Or.inl rfl)) (pss_cons (ps_set (i := 2) sc_law.nd rfl (Or.inl rfl) (pe_fn F_law_purse (hr.mono (by decide)) rfl pass0 (pa_cons (pe_fn F_law_cell (hr.mono (by decide)) rfl pass0 (pa_cons (pv 0) (pa_cons (pv 1) pa_nil))) pa_nil)))
 (pss_cons (ps_set (i := 3) sc_law.nd rfl (Or.inl rfl) (pe_fn F_law_fraction (hr.mono (by decide)) rfl pass0 (pa_cons (pv 2) pa_nil)))
 (pss_cons (ps_set (i := 4) sc_law.nd rfl (Or.inl rfl) (pe_fn F_law_bound (hr.mono (by decide)) rfl pass0 (pa_cons (pv 2) (pa_cons (pv 3) pa_nil))))
 (pss_one (ps_for PassesOwn.never rfl (pi_range1 (by rfl) T.n_range (pa_cons pe_int pa_nil)) (pg_name (i := 5) sc_law.nd rfl (Or.inl rfl)) (pss_cons (ps_set (i := 6) sc_law.nd rfl (Or.inl rfl) (pe_fn F_neighbours (hr.mono (by decide)) rfl pass0 (pa_cons (pv 3) (pa_cons (pv 4) pa_nil))))
 (pss_cons (ps_if (PW.pt (pw_or (pt_not (pt_val (pe_fn F_law_shown (hr.mono (by decide)) rfl pass0 (pa_cons (pv 6) (pa_cons (pv 3) (pa_cons (pv 4) pa_nil)))))) (pw_or1 (pt_cmpR (op_neD hr.units) (pe_fn F_nearest (hr.mono (by decide)) rfl pass0 (pa_cons (pv 3) (pa_cons (pv 4) pa_nil))) (pe_fn F_law_near (hr.mono (by decide)) rfl pass0 (pa_cons (pv 6) (pa_cons (pv 3) pa_nil))) (nomark _))))) (pss_one (ps_ret pe_bl)) pss_nil)
 (pss_cons (ps_if (PW.pt (pw_and (pt_cmpR op_gt (pe_ix ix_tup (pv 3) pe_int (fun _ _ => rfl)) (pv 4) (nomark _)) (pw_and1 (pt_not (pt_val (pe_fn F_law_turns_right (hr.mono (by decide)) rfl pass0 (pa_cons (pv 6) (pa_cons (pv 3) pa_nil)))))))) (pss_one (ps_ret pe_bl)) pss_nil)
 (pss_cons (ps_set (i := 7) sc_law.nd rfl (Or.inl rfl) (pe_fn F_law_take (hr.mono (by decide)) rfl pass0 (pa_cons (pv 2) (pa_cons pe_int pa_nil))))
 (pss_cons (ps_set (i := 8) sc_law.nd rfl (Or.inl rfl) (pe_callB (call_min2 rfl) (by rfl) T.n_min (by decide +kernel) (pa_cons (pe_op op_sub (pe_op op_pow pe_int pe_int) pe_int) (pa_cons (pe_op op_add (pe_ix ix_tup (pe_ix ix_tup (pv 6) pe_int (fun _ _ => rfl)) pe_int (fun _ _ => rfl)) (pe_ix ix_tup (pe_ix ix_tup (pv 6) pe_int (fun _ _ => rfl)) pe_int (fun _ _ => rfl))) pa_nil))))
 (pss_one (ps_set (i := 4) sc_law.nd rfl (Or.inl rfl) (pe_ix ix_list (pe_lst (pa_cons (pv 8) (pa_cons (pe_callB (call_max2 rfl) (by rfl) T.n_max (by decide +kernel) (pa_cons pe_int (pa_cons (pe_op op_fdivW (pv 4) pe_int) pa_nil))) (pa_cons (pe_op op_add pe_int (pe_fn F_law_take (hr.mono (by decide)) rfl pass0 (pa_cons (pv 2) (pa_cons (pe_op op_pow pe_int pe_int) pa_nil)))) pa_nil)))) (pv 7) (fun _ _ => rfl)))))))))))))))
 (pss_one (ps_ret pe_bl))), ?_⟩
    refine ⟨_, rfl, a, _, rfl, .inl hS, _, _, rfl, _, _, rfl, _, rfl, ?_, ?_, ?_⟩
    · split <;> split <;> omega
    · split <;> split <;> omega
    refine for_range (fun i σ H' => (∃ v1 v2 v3 v4 v5 v6 v7 v8 : Option V, σ = [some (.ref a), v1, v2, v3, v4, v5, v6, v7, v8]) ∧ SqL K H' a (ns.map V.int)) ?_ ?_ ?_
    · exact ⟨⟨none, none, none, none, none, none, none, none, rfl⟩, hS⟩
    · rintro i0 σ H0 hi ⟨⟨v1, v2, v3, v4, v5, v6, v7, v8, rfl⟩, hS0⟩
      have hi63 : i0 < 64 := by
        refine Nat.lt_of_lt_of_le hi ?_
        split <;> split <;> omega
      refine ⟨_, rfl, _, rfl, a, ns, _, rfl, hS0, by omega, by omega, fun z => ?_⟩
      refine ⟨z, rfl, fun p l hp hl => ?_⟩
      have s1 : Same H0 (upd H0 p (.lst l)) := Same.new hp
      have z1 : Pz (upd H0 p (.lst l)) p 90000 := Pz.upd hl
      generalize upd H0 p (.lst l) = H1 at s1 z1 ⊢
      refine ⟨_, rfl, p, 80000, rfl, z1.mono (by decide), fun x t m H2 hc hm ht hM c2 z2 fx2 => ?_⟩
      refine ⟨_, rfl, _, rfl, p, x, t, m, 70000, rfl, fx2, z2.mono (by decide), fun N3 H3 hN3 c3 z3 => ?_⟩
      have s3 : Same H0 H3 := Same.but s1 hp (c2.trans c3)
      have fx3 := c3 _ _ (fr_ne fx2 z2) fx2
      refine ⟨_, rfl, by decide, by decide, ?_⟩
      refine for_range (fun i σ H' => ∃ (N : Int) (w5 w6 w7 w8 : Option V), σ = [some (.ref a), some (.int (0 + (i0 : Int))), some (.ref p), some (.ref x), some (.int N), w5, w6, w7, w8] ∧
        1 ≤ N ∧ FrT H' x t m ∧ Pz H' p (60000 - 10 * i) ∧ Same H0 H') ?_ ?_ ?_
      · exact ⟨N3, _, _, _, _, rfl, hN3, fx3, z3.mono (by decide), s3⟩
      · rintro i σ H4 hi3 ⟨N, w5, w6, w7, w8, rfl, hN, fx, zz, s04⟩
        have hi3' : i < 3 := hi3
        refine ⟨_, rfl, _, rfl, x, t, m, N, rfl, fx, hc, hN, hm, ht, hM, fun a1 b c d q r s H5 nx sa fq fr pr => ?_⟩
        obtain ⟨b1, d1⟩ := nx.pos hm
        have B := nx.bds ht hM
        refine ⟨_, rfl, _, rfl, _, rfl, s, x, q, r, t, m, N, a1, b, c, d, rfl, pr, fq, fr, sa _ _ fx, hc, hm, ht, hM, nx, fun H6 sb => ⟨_, rfl, ?_⟩⟩
        have sab := sa.trans sb
        refine iteF ⟨_, rfl, _, rfl, x, t, m, N, rfl, sab _ _ fx, hc, hN, hm, ht, hM, fun a2 b2 c2 d2 y2 H7 nx2 sc fy => ?_⟩
        obtain ⟨rfl, rfl, rfl, rfl⟩ := nx2.one nx
        have sbc := sb.trans sc
        have fx4 := (sab.trans sc) _ _ fx
        have fq4 := sbc _ _ fq
        have fr4 := sbc _ _ fr
        have pr4 := sbc _ _ pr
        have z5 := zz.same (sab.trans sc)
        replace s04 := s04.trans (sab.trans sc)
        refine ⟨_, rfl, _, rfl, s, x, q, r, t, m, _, _, _, _, rfl, pr4, fq4, fr4, fx4, B, fun y3 fy3 => ?_⟩
        refine ⟨_, _, FrT.dp fy, FrT.dp fy3, fr_shaped _ _, fr_shaped _ _, _, rfl, ?_⟩
        rw [fr_eqv]
        refine iteF ⟨_, rfl, x, _, _, _, rfl, rfl, SqT.of fx4, rfl, _, rfl, _, _, rfl, rfl, _, rfl, ?_⟩
        by_cases hlt : N < m
        · rw [decide_eq_true hlt]
          rcases id nx with ⟨l, _, _, _, _⟩ | ⟨_, nb, hs⟩
          · omega
          refine iteT ⟨_, rfl, _, rfl, s, x, q, r, t, m, N, _, _, _, _, rfl, pr4, fq4, fr4, fx4, hc, hN, ht, hM, hlt, nb, hs, fun H5 s5 => ⟨_, rfl, ?_⟩⟩
          refine iteF ?_
          refine ⟨_, rfl, p, 3, 60000 - 10 * (i + 1) + 5, rfl, by decide, by decide, (z5.same s5).mono (by omega), fun r1 l1 o1 o2 u1 => ?_⟩
          have z6 := Pz.upd (H := H5) (p := p) u1
          have c6 : But p H5 (upd H5 p (.lst l1)) := But.upd
          have n5 := z5.same s5
          have fx6 := c6 _ _ (fr_ne (s5 _ _ fx4) n5) (s5 _ _ fx4)
          have fq6 := c6 _ _ (fr_ne (s5 _ _ fq4) n5) (s5 _ _ fq4)
          have fr6 := c6 _ _ (fr_ne (s5 _ _ fr4) n5) (s5 _ _ fr4)
          have pr6 := c6 _ _ (fr_ne (s5 _ _ pr4) n5) (s5 _ _ pr4)
          have s06 : Same H0 (upd H5 p (.lst l1)) := Same.but (s04.trans s5) hp c6
          generalize upd H5 p (.lst l1) = H6 at z6 c6 fx6 fq6 fr6 pr6 s06 ⊢
          refine ⟨_, _, rfl, rfl, pow_ok (by decide), _, _, rfl, rfl, _, rfl, s, _, _, _, rfl, rfl, SqT.of pr6, rfl, q, _, _, _, rfl, rfl, SqT.of fq6, rfl, _, rfl, s, _, _, _, rfl, rfl, SqT.of pr6, rfl, r, _, _, _, rfl, rfl, SqT.of fr6, rfl, _, _, rfl, rfl, _, _, rfl, ?_⟩
          have t1 : 1 ≤ (if b + d < (10 : Int) ^ Int.toNat 30 - 1 then b + d else (10 : Int) ^ Int.toNat 30 - 1) := by
            rw [e30]
            split <;> omega
          refine ⟨_, rfl, _, rfl, _, _, rfl, rfl, wide_div (b := 64) (by decide) (by decide) (by decide) (by decide), _, _, rfl, _, rfl, _, _, rfl, rfl, pow_ok (by decide), p, (10 : Int) ^ Int.toNat 9, 60000 - 10 * (i + 1), rfl, by decide, by decide, z6.mono (by omega), fun r2 l2 o3 o4 u2 => ?_⟩
          have z7 := Pz.upd (H := H6) (p := p) u2
          have c7 : But p H6 (upd H6 p (.lst l2)) := But.upd
          have fx7 := c7 _ _ (fr_ne fx6 z6) fx6
          have s07 : Same H0 (upd H6 p (.lst l2)) := Same.but s06 hp c7
          generalize upd H6 p (.lst l2) = H7 at z7 c7 fx7 s07 ⊢
          refine ⟨_, _, rfl, rfl, (by show 3 ≤ sizeLine; decide), fun L hL => ?_⟩
          generalize hXL : upd H7 L _ = H8
          have eL := of_gen hXL
          have sL := same_gen hL hXL
          obtain ⟨z, hz, hat⟩ := pickI (zs := [if b + d < (10 : Int) ^ Int.toNat 30 - 1 then b + d else (10 : Int) ^ Int.toNat 30 - 1, if N / 2 > 1 then N / 2 else 1, 1 + r2]) o1 o2
          have hz1 : 1 ≤ z := by
            simp only [List.mem_cons, List.not_mem_nil, or_false] at hz
            rcases hz with rfl | rfl | rfl
            · exact t1
            · split <;> omega
            · omega
          refine ⟨_, rfl, L, _, _, _, rfl, rfl, SqL.of eL, hat, ?_⟩
          exact ⟨z, _, _, _, _, rfl, hz1, sL _ _ fx7, (z7.same sL).mono (by omega), s07.trans sL⟩
        · rw [decide_eq_false hlt]
          refine iteF ?_
          obtain ⟨H5, hH5⟩ : ∃ H5, H5 = H7 := ⟨_, rfl⟩
          rw [← hH5]
          have s5 : Same H7 H5 := hH5 ▸ Same.refl _
          refine ⟨_, rfl, p, 3, 60000 - 10 * (i + 1) + 5, rfl, by decide, by decide, (z5.same s5).mono (by omega), fun r1 l1 o1 o2 u1 => ?_⟩
          have z6 := Pz.upd (H := H5) (p := p) u1
          have c6 : But p H5 (upd H5 p (.lst l1)) := But.upd
          have n5 := z5.same s5
          have fx6 := c6 _ _ (fr_ne (s5 _ _ fx4) n5) (s5 _ _ fx4)
          have fq6 := c6 _ _ (fr_ne (s5 _ _ fq4) n5) (s5 _ _ fq4)
          have fr6 := c6 _ _ (fr_ne (s5 _ _ fr4) n5) (s5 _ _ fr4)
          have pr6 := c6 _ _ (fr_ne (s5 _ _ pr4) n5) (s5 _ _ pr4)
          have s06 : Same H0 (upd H5 p (.lst l1)) := Same.but (s04.trans s5) hp c6
          generalize upd H5 p (.lst l1) = H6 at z6 c6 fx6 fq6 fr6 pr6 s06 ⊢
          refine ⟨_, _, rfl, rfl, pow_ok (by decide), _, _, rfl, rfl, _, rfl, s, _, _, _, rfl, rfl, SqT.of pr6, rfl, q, _, _, _, rfl, rfl, SqT.of fq6, rfl, _, rfl, s, _, _, _, rfl, rfl, SqT.of pr6, rfl, r, _, _, _, rfl, rfl, SqT.of fr6, rfl, _, _, rfl, rfl, _, _, rfl, ?_⟩
          have t1 : 1 ≤ (if b + d < (10 : Int) ^ Int.toNat 30 - 1 then b + d else (10 : Int) ^ Int.toNat 30 - 1) := by
            rw [e30]
            split <;> omega
          refine ⟨_, rfl, _, rfl, _, _, rfl, rfl, wide_div (b := 64) (by decide) (by decide) (by decide) (by decide), _, _, rfl, _, rfl, _, _, rfl, rfl, pow_ok (by decide), p, (10 : Int) ^ Int.toNat 9, 60000 - 10 * (i + 1), rfl, by decide, by decide, z6.mono (by omega), fun r2 l2 o3 o4 u2 => ?_⟩
          have z7 := Pz.upd (H := H6) (p := p) u2
          have c7 : But p H6 (upd H6 p (.lst l2)) := But.upd
          have fx7 := c7 _ _ (fr_ne fx6 z6) fx6
          have s07 : Same H0 (upd H6 p (.lst l2)) := Same.but s06 hp c7
          generalize upd H6 p (.lst l2) = H7 at z7 c7 fx7 s07 ⊢
          refine ⟨_, _, rfl, rfl, (by show 3 ≤ sizeLine; decide), fun L hL => ?_⟩
          generalize hXL : upd H7 L _ = H8
          have eL := of_gen hXL
          have sL := same_gen hL hXL
          obtain ⟨z, hz, hat⟩ := pickI (zs := [if b + d < (10 : Int) ^ Int.toNat 30 - 1 then b + d else (10 : Int) ^ Int.toNat 30 - 1, if N / 2 > 1 then N / 2 else 1, 1 + r2]) o1 o2
          have hz1 : 1 ≤ z := by
            simp only [List.mem_cons, List.not_mem_nil, or_false] at hz
            rcases hz with rfl | rfl | rfl
            · exact t1
            · split <;> omega
            · omega
          refine ⟨_, rfl, L, _, _, _, rfl, rfl, SqL.of eL, hat, ?_⟩
          exact ⟨z, _, _, _, _, rfl, hz1, sL _ _ fx7, (z7.same sL).mono (by omega), s07.trans sL⟩
      · rintro σ H4 ⟨N, w5, w6, w7, w8, rfl, hN, fx, zz, s04⟩
        exact ⟨⟨_, _, _, _, _, _, _, _, rfl⟩, s04.seq hS0⟩
    · rintro σ H' ⟨⟨v1, v2, v3, v4, v5, v6, v7, v8, rfl⟩, hS'⟩
      exact k _
end
theorem all_mk {P : Program} {w : World} {K : PySem.W.Frag} {h : Heap} {mg : Str → Option Value} {fa : Addr} (X : K.In h) (G : h.Ns mainGlobals mg) (hfa : mg "law" = some (.ref fa))
    (h_d_is_number : DefIn K "is_number" s_is_number)
    (h_d_is_pair : DefIn K "is_pair" s_is_pair)
    (h_d_is_fraction : DefIn K "is_fraction" s_is_fraction)
    (h_d_need_fractions : DefIn K "need_fractions" s_need_fractions)
    (h_d_neighbours : DefIn K "neighbours" s_neighbours)
    (h_d_strict_neighbours : DefIn K "strict_neighbours" s_strict_neighbours)
    (h_d_nearest : DefIn K "nearest" s_nearest)
    (h_d_law_cell : DefIn K "_law_cell" s_law_cell)
    (h_d_law_purse : DefIn K "_law_purse" s_law_purse)
    (h_d_law_take : DefIn K "_law_take" s_law_take)
    (h_d_law_common : DefIn K "_law_common" s_law_common)
    (h_d_law_made : DefIn K "_law_made" s_law_made)
    (h_d_law_digits : DefIn K "_law_digits" s_law_digits)
    (h_d_law_fraction : DefIn K "_law_fraction" s_law_fraction)
    (h_d_law_bound : DefIn K "_law_bound" s_law_bound)
    (h_d_law_is_fraction : DefIn K "_law_is_fraction" s_law_is_fraction)
    (h_d_law_gap : DefIn K "_law_gap" s_law_gap)
    (h_d_law_shown : DefIn K "_law_shown" s_law_shown)
    (h_d_law_near : DefIn K "_law_near" s_law_near)
    (h_d_law_turns_right : DefIn K "_law_turns_right" s_law_turns_right)
    (h_d_law : DefIn K "law" s_law)
    (h_n_isinstance : PySem.W.nsIn K mainGlobals "isinstance" = some none)
    (h_n_int : PySem.W.nsIn K mainGlobals "int" = some none)
    (h_n_bool : PySem.W.nsIn K mainGlobals "bool" = some none)
    (h_n_tuple : PySem.W.nsIn K mainGlobals "tuple" = some none)
    (h_n_len : PySem.W.nsIn K mainGlobals "len" = some none)
    (h_g_gcd : PySem.W.nsIn K mainGlobals "gcd" = some (some (.builtin "math.gcd")))
    (h_n_min : PySem.W.nsIn K mainGlobals "min" = some none)
    (h_n_max : PySem.W.nsIn K mainGlobals "max" = some none)
    (h_n_abs : PySem.W.nsIn K mainGlobals "abs" = some none)
    (h_n_range : PySem.W.nsIn K mainGlobals "range" = some none)
    (h_n_all : PySem.W.nsIn K mainGlobals "all" = some none) :
    ∃ fd : FuncData, (∀ (s : Shared) (u : Value), BindsTo s fd ⟨[u], []⟩ [("_law_script", u)]) ∧ ∀ base : Heap, K.In base → base.Ns mainGlobals mg → FnG P w K mg base CX0 7 fa fd ["_law_script"] (spLaw K) := by
  have T : Txt K mg := ⟨(h_d_is_number.at X G), (h_d_is_pair.at X G), (h_d_is_fraction.at X G), (h_d_need_fractions.at X G), (h_d_neighbours.at X G), (h_d_strict_neighbours.at X G), (h_d_nearest.at X G), (h_d_law_cell.at X G), (h_d_law_purse.at X G), (h_d_law_take.at X G), (h_d_law_common.at X G), (h_d_law_made.at X G), (h_d_law_digits.at X G), (h_d_law_fraction.at X G), (h_d_law_bound.at X G), (h_d_law_is_fraction.at X G), (h_d_law_gap.at X G), (h_d_law_shown.at X G), (h_d_law_near.at X G), (h_d_law_turns_right.at X G), (h_d_law.at X G), (PySem.W.mg_none_of X G h_n_isinstance), (PySem.W.mg_none_of X G h_n_int), (PySem.W.mg_none_of X G h_n_bool), (PySem.W.mg_none_of X G h_n_tuple), (PySem.W.mg_none_of X G h_n_len), (PySem.W.mg_of X G h_g_gcd), (PySem.W.mg_none_of X G h_n_min), (PySem.W.mg_none_of X G h_n_max), (PySem.W.mg_none_of X G h_n_abs), (PySem.W.mg_none_of X G h_n_range), (PySem.W.mg_none_of X G h_n_all)⟩
  exact law_end X G hfa h_d_law (fun _ _ _ _ _ _ _ => rfl) fun f fd base F => ok_law T F
end My
open PySem PySem.W PyProof.Rows
set_option maxRecDepth 100000 in
set_option maxHeartbeats 0 in
theorem PySem.Challenge.cw_termstream_k15_whole_neighbours_holds : PySem.Challenge.rw_termstream_k15_whole_neighbours.Holds := by
  w_on; o_law; k_head; (case hw => w_witness2)
  k_fill
  refine Vg.walk_ofG (l := PySem.Challenge.rw_termstream_k15_whole_neighbours) (n := 63) (k := 7) (x := "_law_script") (K := _) (sp := fun w => Vg.spLaw _) rfl (by decide) rfl ⟨rfl, by decide, by decide⟩ (fun w h Y => PySem.W.kIn_of Y) ?F (fun w H a ns hl hS => ⟨a, ns, rfl, hS, hl, fun _ => rfl⟩)
  case F =>
    intro w mg fa h KX G hmg
    refine' My.all_mk KX G hmg ?d_is_number ?d_is_pair ?d_is_fraction ?d_need_fractions ?d_neighbours ?d_strict_neighbours ?d_nearest ?d_law_cell ?d_law_purse ?d_law_take ?d_law_common ?d_law_made ?d_law_digits ?d_law_fraction ?d_law_bound ?d_law_is_fraction ?d_law_gap ?d_law_shown ?d_law_near ?d_law_turns_right ?d_law ?n_isinstance ?n_int ?n_bool ?n_tuple ?n_len ?g_gcd ?n_min ?n_max ?n_abs ?n_range ?n_all
    case d_is_number => (refine' Vg.DefIn.by ?a ?l ?c ?k; (case a => k_is); (case l => k_is); (case c => k_is); (case k => k_is))
    case d_is_pair => (refine' Vg.DefIn.by ?a ?l ?c ?k; (case a => k_is); (case l => k_is); (case c => k_is); (case k => k_is))
    case d_is_fraction => (refine' Vg.DefIn.by ?a ?l ?c ?k; (case a => k_is); (case l => k_is); (case c => k_is); (case k => k_is))
    case d_need_fractions => (refine' Vg.DefIn.by ?a ?l ?c ?k; (case a => k_is); (case l => k_is); (case c => k_is); (case k => k_is))
    case d_neighbours => (refine' Vg.DefIn.by ?a ?l ?c ?k; (case a => k_is); (case l => k_is); (case c => k_is); (case k => k_is))
    case d_strict_neighbours => (refine' Vg.DefIn.by ?a ?l ?c ?k; (case a => k_is); (case l => k_is); (case c => k_is); (case k => k_is))
    case d_nearest => (refine' Vg.DefIn.by ?a ?l ?c ?k; (case a => k_is); (case l => k_is); (case c => k_is); (case k => k_is))
    case d_law_cell => (refine' Vg.DefIn.by ?a ?l ?c ?k; (case a => k_is); (case l => k_is); (case c => k_is); (case k => k_is))
    case d_law_purse => (refine' Vg.DefIn.by ?a ?l ?c ?k; (case a => k_is); (case l => k_is); (case c => k_is); (case k => k_is))
    case d_law_take => (refine' Vg.DefIn.by ?a ?l ?c ?k; (case a => k_is); (case l => k_is); (case c => k_is); (case k => k_is))
    case d_law_common => (refine' Vg.DefIn.by ?a ?l ?c ?k; (case a => k_is); (case l => k_is); (case c => k_is); (case k => k_is))
    case d_law_made => (refine' Vg.DefIn.by ?a ?l ?c ?k; (case a => k_is); (case l => k_is); (case c => k_is); (case k => k_is))
    case d_law_digits => (refine' Vg.DefIn.by ?a ?l ?c ?k; (case a => k_is); (case l => k_is); (case c => k_is); (case k => k_is))
    case d_law_fraction => (refine' Vg.DefIn.by ?a ?l ?c ?k; (case a => k_is); (case l => k_is); (case c => k_is); (case k => k_is))
    case d_law_bound => (refine' Vg.DefIn.by ?a ?l ?c ?k; (case a => k_is); (case l => k_is); (case c => k_is); (case k => k_is))
    case d_law_is_fraction => (refine' Vg.DefIn.by ?a ?l ?c ?k; (case a => k_is); (case l => k_is); (case c => k_is); (case k => k_is))
    case d_law_gap => (refine' Vg.DefIn.by ?a ?l ?c ?k; (case a => k_is); (case l => k_is); (case c => k_is); (case k => k_is))
    case d_law_shown => (refine' Vg.DefIn.by ?a ?l ?c ?k; (case a => k_is); (case l => k_is); (case c => k_is); (case k => k_is))
    case d_law_near => (refine' Vg.DefIn.by ?a ?l ?c ?k; (case a => k_is); (case l => k_is); (case c => k_is); (case k => k_is))
    case d_law_turns_right => (refine' Vg.DefIn.by ?a ?l ?c ?k; (case a => k_is); (case l => k_is); (case c => k_is); (case k => k_is))
    case d_law => (refine' Vg.DefIn.by ?a ?l ?c ?k; (case a => k_is); (case l => k_is); (case c => k_is); (case k => k_is))
    case n_isinstance => k_is
    case n_int => k_is
    case n_bool => k_is
    case n_tuple => k_is
    case n_len => k_is
    case g_gcd => k_is
    case n_min => k_is
    case n_max => k_is
    case n_abs => k_is
    case n_range => k_is
    case n_all => k_is
