import PyProof.Rows.All
import Wide.All
import OpenK.AllK
import Wide.FinOn
import HandS.Base
import HandS.Call
import HandS.List
import HandS.Ends
import HandS.Words
import HandS.Comp
import HandS.Dict
import HandS.Iter
import HandS.Text
import HandS.WordsList
import HandS.WordsDict
import HandS.IsInst
import HandS.Wide
import HandS.Strs
import HandS.StrMore
import HandS.Gcd
import HandS.Walk
import KE.IntTextLaws
import HandS.Exc
import HandS.ExcInit
import HandS.ExcField
import HandS.ExcIs
import HandS.TryMany
import HandS.WordsExc
import HandS.Star
import KE.KExcIs
import HandS.ExcOwn
import PyProof.ReprLen
import HandS.Zip
import HandS.FStr
import HandS.TupAny
import HandS.Steps
import HandS.Defaults
import PyProof.EqAt
import HandS.TupLe
import HandS.TryOnly
import PyProof.Rows.EqBoolInt
import HandS.Style
import HandS.Deep
import KE.KRevSl
import HandS.Rev
import KE.GoesZip
import KE.GoesMore
import HandS.WideBits
import OpenK.KOwn
import HandS.HotCalls
import PySem.Challenge.RW_termstream_k08_rows_of_fractions
set_option Elab.async false
set_option linter.all false
set_option maxRecDepth 100000
set_option maxHeartbeats 4000000
namespace Vg
open PySem PySem.Spec PyProof.Rows L2
/-- the same promise as the layer's, for calls within which no text of a list is being made -/
structure FnG (P : Program) (w : World) (K : PySem.W.Frag) (mg : Str → Option Value) (base : Heap) (CX : CXT)
    (k : Nat) (f : Addr) (fd : FuncData) (ps : List Str) (sp : Sp) : Prop where
  len : ∀ vs H Q E, sp vs H Q E → vs.length = ps.length
  run : ∀ (A : Around) (outer : List Env) (s : Shared) (H : Hp) (args : Args) (us : List Value) (vs : List V) (Q : VK) (E : XK),
    A.guards = some [] → Room k A → Env0 P w K mg base A outer s H → BindsTo s fd args (ps.zip us) → Vals vs us → sp vs H Q E →
      codeAny (model P w) A (.call (.ref f) args) (CR CX outer P w H s Q E) s
section
variable {P : Program} {w : World} {K : PySem.W.Frag} {mg : Str → Option Value} {base : Heap} {CX : CXT}
  {k : Nat} {f : Addr} {fd : FuncData} {ps : List Str} {sp : Sp}
theorem FnG.of (F : FnOk P w K mg base CX k f fd ps sp) : FnG P w K mg base CX k f fd ps sp :=
  ⟨F.len, fun A outer s H args us vs Q E _ hr e0 hb r h =>
    F.run A outer s H args us vs Q E hr e0 hb r h⟩
theorem deeper_guards (A : Around) (env : Env) : (A.deeper env).guards = A.guards := rfl
/-- a def by its body, where the guards are known -/
theorem fng_of {name qual : Str} {params : Arguments} {body : List Stmt} {scope : Scope} {dV kV doc pm cdv ct oc : Value} {an od : Option Addr}
    {osl : Array (Option Value)} {N : List Str}
    (lk : K.lookup f = some ⟨oc, od, .func (PySem.W.fnOf name qual params body scope dV kV doc pm an cdv ct), osl⟩)
    (hcd : PySem.W.codeIn K cdv qual = true) (S : FnScope N ps scope)
    (len : ∀ vs H Q E, sp vs H Q E → vs.length = ps.length)
    (hbody : ∀ (A : Around) (outer : List Env) (s : Shared) (H : Hp) (vs : List V) (Q : VK) (E : XK),
      (cxOf CX P w K mg base N qual scope f cdv A outer s H E).A.guards = some [] →
      Room k (A.deeper (envOfC qual scope s.heap.objs.size f cdv)) → sp vs H Q E →
      ∃ t, PSs (cxOf CX P w K mg base N qual scope f cdv A outer s H E) body t ∧
        t { nx := fun _ H' => Q .non H', rt := Q } (start N vs) H) :
    FnG P w K mg base CX (k + 1) f (PySem.W.fnOf name qual params body scope dV kV doc pm an cdv ct) ps sp := by
  refine ⟨len, fun A outer s H args us vs Q E hg hr e0 hb r hsp => ?_⟩
  have hl := len _ _ _ _ hsp
  have inK : K.In s.heap := e0.mod.kin.keeps fun b o e => (e0.bs b o e).1
  have noLim : s.heap.NoLimit := e0.mod.nolimit.keeps fun b o e => (e0.bs b o e).1
  have kinds : ∀ y ∈ ps.zip us, scope.names.lookup y.1 = some .local ∨
      (scope.names.lookup y.1 = some .cell ∧ ((cellsFrom (s.heap.objs.size + 1) scope.names []).lookup y.1).isSome = true) := by
    rintro ⟨n, v⟩ hy
    have hn : n ∈ ps := (List.of_mem_zip hy).1
    cases S.par n hn with
    | inl q => exact Or.inl q
    | inr q => exact Or.inr (And.intro q (PySem.W.cellsFrom_some _ _ _ (Or.inl q)))
  refine codeAny_call_function hr.depth (inK _ _ lk) rfl S.co S.gen rfl (PySem.W.codeRec_of inK hcd) (hb _ _ _ _ ?_)
  refine wpAny_newFunctionEnv_cells S.kind kinds fun env he s1 x => ?_
  subst he
  refine ⟨noLim.keeps x.toInCall.keep, codeAny_func ?_⟩
  obtain ⟨t, ht, hq⟩ := hbody A outer s H vs Q E hg (hr.deeper _) hsp
  have I := inv_start (CX := CX) (P := P) (w := w) (K := K) (mg := mg) (base := base) (E := E) S hr.hd e0 hl r x
  refine wpAny_mono (ht.run [] s1 (start N vs) H _ I hq) (fun fl s' hs => ?_) fun e s' hs => hs
  match fl, hs with
  | .ret u, ⟨v, σ', H', J, rv, q⟩ => exact ⟨v, H', J.os, J.bare, J.base, J.hok, rv, q⟩
  | .next, ⟨σ', H', J, q⟩ => exact ⟨V.non, H', J.os, J.bare, J.base, J.hok, rfl, q⟩
  | .brk, ⟨_, _, _, q⟩ => exact q.elim
  | .cont, ⟨_, _, _, q⟩ => exact q.elim
end
section
variable {X : Cx} {CX : CXT} {k : Nat} {f : Addr} {fd : FuncData} {ps : List Str} {sp : Sp} {dvs : List V} {ds : List Value}
  {E : XK} {x : Str} {p pos : Pos} {e : Expr} {es : List Expr} {t : TA}
theorem run_fng {pins : List (Addr × Obj)} {σ : L2.St} {H : Hp} {s : Shared} {Q : VK} {us : List Value} {vs : List V}
    (F : FnG X.prog X.w X.K X.mg X.base CX k f fd ps sp) (hg : X.A.guards = some []) (hr : Room k X.A) (hb : Binds X.K fd ps ds) (hd : Vals dvs ds)
    (hx : Passes CX X E) (I : Inv X pins σ H s) (r : Vals vs us) (h : sp (vs ++ dvs) H Q E) :
    wpAny (model X.prog X.w) X.A (call (.ref f) us) (EP X pins σ Q) X.xe s := by
  have both : Vals (vs ++ dvs) (us ++ ds) := r.append hd
  have hl : (us ++ ds).length = ps.length := both.length ▸ F.len _ _ _ _ h
  have C := F.run X.A X.stack s H ⟨us, []⟩ (us ++ ds) (vs ++ dvs) Q E hg hr I.env0 (hb s us I.kIn hl) both h
  refine wpAny_call (codeAny_mono C fun r s' hq => ?_)
  match r, hq with
  | .error e, hq => exact hx pins σ H s e s' I hq
  | .ok (.ret u), hq => exact I.after hq
  | .ok .next, hq => exact False.elim hq
  | .ok .brk, hq => exact False.elim hq
  | .ok .cont, hq => exact False.elim hq
/-- f(e, ..) of such a def -/
theorem pe_callG (F : FnG X.prog X.w X.K X.mg X.base CX k f fd ps sp) (hgd : X.A.guards = some []) (hr : Room k X.A) (hg : Gl X x)
    (hm : X.mg x = some (.ref f)) (hk : PySem.W.keepIn X.K (.ref f) = true) (hb : Binds X.K fd ps ds) (hd : Vals dvs ds) (hx : Passes CX X E)
    (ha : PA X (e :: es) t) (hdb : (x == ("__debug__" : Str)) = false := by decide)
    (he : starEach (e :: es) X.env = (false, eval e X.env) :: starEach es X.env := by rfl)
    (hpl : (backTo pos (starEach es X.env)).any (·.1) = false := by rfl) :
    PE X (.Call (.Name x p) (e :: es) [] pos) (tCall sp dvs E t) := by
  constructor
  intro pins s σ H Q I h
  apply wpAny_Call_Name_kw
  apply ld_glob I hg hm ?_ hdb
  refine PySem.W.callWith_K (h₀ := X.base) I.ok.mod.kin hk ?_ he hpl
  refine thn (ha.run pos pins s σ H _ I h) ?_
  rintro us s1 ⟨vs, H1, I1, r, q⟩
  exact ⟨I1.kIn, run_fng F hgd hr hb hd hx I1 r q⟩
end
section
variable {X : Cx}
theorem one_val {P : V → Value → Prop} {x : V} {us : List Value} (h : Paired P [x] us) : ∃ u, us = [u] ∧ P x u := by
  cases h with
  | cons a b => cases b; exact ⟨_, rfl, a⟩
mutual
theorem noDict {K : PySem.W.Frag} {H : Hp} : ∀ (d : PyData) (v : V), Dp K H v d → d.hasDict = false
  | .none, _, _ => by simp only [PyData.hasDict]
  | .bool _, _, _ => by simp only [PyData.hasDict]
  | .int _, _, _ => by simp only [PyData.hasDict]
  | .str _, _, _ => by simp only [PyData.hasDict]
  | .list ds, _, h => by
    cases h with
    | lst _ ha => simp only [PyData.hasDict]; exact noDictAll ds _ ha
  | .tuple ds, _, h => by
    cases h with
    | tup _ ha => simp only [PyData.hasDict]; exact noDictAll ds _ ha
  | .dict _, _, h => by cases h
theorem noDictAll {K : PySem.W.Frag} {H : Hp} : ∀ (ds : List PyData) (vs : List V), DpAll K H vs ds → PyData.hasDictAll ds = false
  | [], _, _ => by simp only [PyData.hasDictAll]
  | d :: ds, _, h => by
    cases h with
    | cons a b => simp only [PyData.hasDictAll, noDict d _ a, noDictAll ds _ b, Bool.or_self]
end
/-- repr(x) of data at any depth -/
theorem cr_repr (hg : X.A.guards = some []) (hu : X.A.units + 64 < cLine) :
    CallR X (.builtin "repr") (fun xs H Q => ∃ x d, xs = [x] ∧ Dp X.K H x d ∧ d.showable = true ∧ d.depth ≤ 50 ∧ d.shown.length ≤ sizeLine ∧ Q (.str d.shown) H) := by
  intro pins s σ H xs us Q I r h
  obtain ⟨x, d, rfl, hd, hs, hdep, hz, q⟩ := h
  obtain ⟨u, rfl, ru⟩ := one_val r
  have hn := noDict d x hd
  cases hd with
  | non =>
    cases ru
    exact PySem.P.repr_of_none ⟨.str _, H, I.tok _, ⟨_, rfl⟩, q⟩
  | bl b =>
    cases ru
    refine PySem.P.repr_of_bool ⟨.str _, H, I.tok _, ⟨_, rfl⟩, ?_⟩
    cases b <;> exact q
  | int i =>
    obtain ⟨t, rfl⟩ := ru
    refine PySem.P.repr_of_int ?_ ⟨.str _, H, I.tok _, ⟨_, rfl⟩, q⟩
    simpa [PyData.showable] using hs
  | str z =>
    obtain ⟨t, rfl⟩ := ru
    exact PySem.P.repr_of_str ⟨.str _, H, I.tok _, ⟨_, rfl⟩, q⟩ (hsz := hz)
  | lst hl ha =>
    cases ru
    obtain ⟨as, rd⟩ := Dp.reads I _ _ _ (Dp.lst hl ha) rfl
    exact repr_of_reads' rd hs (PyData.noDict_hsm hn) hg (by omega) (fun b o e => e) (fun h' u tk hk => ⟨.str _, H, I.kept hk, ⟨_, rfl⟩, q⟩) (hsz := hz)
  | tup hl ha =>
    cases ru
    obtain ⟨as, rd⟩ := Dp.reads I _ _ _ (Dp.tup hl ha) rfl
    exact repr_of_reads' rd hs (PyData.noDict_hsm hn) hg (by omega) (fun b o e => e) (fun h' u tk hk => ⟨.str _, H, I.kept hk, ⟨_, rfl⟩, q⟩) (hsz := hz)
end
/-- the law's call, by such a promise -/
theorem law_callG {P : Program} {w : World} {K : PySem.W.Frag} {mg mb : Str → Option Value} {k : Nat} {fa a : Addr}
    {fd : FuncData} {x : Str} {sp : Sp} {s1 : Shared} {vs : List Value} {ns : List Int}
    (inK : K.In s1.heap) (hns : s1.heap.Ns mainGlobals mg) (hb : s1.heap.Ns builtinsNs mb) (hbb : ∀ x : Str, x ≠ "__name__" → mb x = bootBuiltins x)
    (noLim : s1.heap.NoLimit) (hgen : s1.gens = #[])
    (ha : s1.heap.get? a = some { cls := .type "list", data := .seq vs.toArray }) (hi : IntsAre vs ns) (hl : ns.length ≤ sizeLine) (hr : Room k callerA)
    (F : ∀ base : Heap, K.In base → base.Ns mainGlobals mg → FnG P w K mg base CX0 k fa fd [x] sp)
    (hbind : ∀ (s : Shared) (u : Value), BindsTo s fd ⟨[u], []⟩ [(x, u)])
    (hsp : ∀ H : Hp, SqL K H a (ns.map V.int) → sp [.ref a] H (fun v _ => v = .bl true) fun _ _ _ => False) :
    codeAny (model P w) callerA (.call (.ref fa) ⟨[.ref a], []⟩)
      (fun r s' => r = .ok (.ret (.bool true)) ∧ OldK s1.heap s'.heap ∧ s'.os = s1.os ∧ AllBare s'.gens) s1 := by
  have rv := vals_ints hi
  have lenV := hi.length
  let scr : Obj := { cls := .type "list", data := .seq vs.toArray }
  have main : ∀ H : Hp, (∀ b, H b = none ∨ H b = some (.frz scr (.lst (ns.map V.int)))) → SqL K H a (ns.map V.int) → HOk P w H s1.heap →
      (∀ b, H b ≠ none → b = a) → (H a ≠ none → K.lookup a = none) →
      codeAny (model P w) callerA (.call (.ref fa) ⟨[.ref a], []⟩)
        (fun r s' => r = .ok (.ret (.bool true)) ∧ OldK s1.heap s'.heap ∧ s'.os = s1.os ∧ AllBare s'.gens) s1 := by
    intro H hO hS hok only notK
    have untracked : ∀ {b : Addr} {o : Obj} {es : Array DictEntry} {ep : Nat}, s1.heap.get? b = some o → o.data = .dict es ep → H b = none := by
      intro b o es ep e d
      refine Classical.byContradiction fun q => ?_
      have : b = a := only b q
      subst this
      rw [ha] at e
      cases e
      exact nomatch (show Data.seq vs.toArray _ = Data.dict es ep from d)
    have hide : ∀ {b : Addr} {o : Obj}, s1.heap.get? b = some o → H b = none → (hidT s1.heap H).get? b = some o := fun e n => hidT_get e n
    have nsHid : ∀ {b : Addr} {m : Str → Option Value}, s1.heap.Ns b m → (hidT s1.heap H).Ns b m := by
      rintro b m ⟨o, es, ep, e, d, r⟩
      exact ⟨o, es, ep, hide e (untracked e d), d, r⟩
    have kHid : K.In (hidT s1.heap H) := by
      intro b o e
      refine hide (inK b o e) (Classical.byContradiction fun q => ?_)
      have : b = a := only b q
      subst this
      rw [notK q] at e
      cases e
    obtain ⟨mc, lim1, lim2⟩ := noLim
    have hM : Mod K mg (hidT s1.heap H) := ⟨kHid, nsHid hns, ⟨mb, nsHid hb, hbb⟩, ⟨mc, nsHid lim1, lim2⟩⟩
    have e0 : Env0 P w K mg (hidT s1.heap H) callerA [] s1 H :=
      ⟨rfl, hM, fun b o e => of_hidT e, Nat.le_of_eq (hidT_size _ _), trivial, fun b hb => (nomatch (show b ∈ ([] : List Addr) from hb)), hok, AllBare.of_eq hgen⟩
    refine codeAny_mono ((F _ kHid (nsHid hns)).run callerA [] s1 H ⟨[.ref a], []⟩ [.ref a] [.ref a] _ _ rfl hr e0 (hbind s1 (.ref a)) (.cons rfl .nil) (hsp H hS)) fun r s' h => ?_
    match r, h with
    | .error e, h => exact h.elim
    | .ok .next, h => exact False.elim h
    | .ok .brk, h => exact False.elim h
    | .ok .cont, h => exact False.elim h
    | .ok (.ret u), ⟨v, H', os, bare, un, hok', r', q⟩ =>
      have q' : v = .bl true := q
      subst q'
      obtain rfl : u = Value.bool true := r'
      refine ⟨rfl, OldK.of_keep fun b o e => ?_, os, bare⟩
      rcases hO b with z | z
      · exact un.keep b o e z (by intro y; exact (nomatch (show b ∈ ([] : List Addr) from y))) (by simp)
      · have z2 := un.frzs b scr _ z
        obtain ⟨e1, _⟩ := hok b _ z
        obtain ⟨e2, _⟩ := hok' b _ z2
        rw [e] at e1
        cases e1
        exact e2
  have absent : (none : Option HO) ≠ none → False := fun z => z rfl
  match hk : K.lookup a with
  | some o =>
    have e := inK a o hk
    rw [ha] at e
    cases e
    exact main (fun _ => none) (fun _ => Or.inl rfl)
      (Or.inr ⟨_, vs.toArray, _, hk, rfl, rfl, rfl, by rw [List.size_toArray, lenV]; exact hl, by simpa using rv⟩)
      (fun b u z => nomatch (show (none : Option HO) = some u from z)) (fun b z => (absent z).elim) fun z => (absent z).elim
  | none =>
    refine main (fun b => if b = a then some (.frz scr (.lst (ns.map V.int))) else none) (fun b => ?_) (Or.inl (Or.inr ⟨scr, if_pos rfl⟩)) (fun b u z => ?_) (fun b z => ?_) fun _ => hk
    · by_cases hb : b = a
      · exact Or.inr (if_pos hb)
      · exact Or.inl (if_neg hb)
    · by_cases hb : b = a
      · have z' := (if_pos hb).symm.trans z
        cases z'
        subst hb
        exact ⟨ha, by rw [List.length_map]; exact hl, vs, _, rv, ha⟩
      · exact nomatch (if_neg hb).symm.trans z
    · by_cases hb : b = a
      · exact hb
      · exact absurd (if_neg hb) z
/-- what the head leaves, from such a promise of the law -/
theorem walk_ofG {l : PySem.W.OpenLaw} {n k : Nat} {q : Program} {loose : List Str} {XP : (Str → Option Value) → Heap → Prop} {YP : World → Heap → Prop}
    {d : DefRec} {K : Params → PySem.W.Frag} {sp : World → Sp} {x : Str}
    (hn : l.most = some n) (hn2 : n ≤ sizeLine) (hdf : d.params.defaults = []) (hr : Room k callerA)
    (hY : ∀ (w : World) (h : Heap), YP w h → (K w.params).In h)
    (F : ∀ (w : World) (mg : Str → Option Value) (fa : Addr) (h : Heap), (K w.params).In h → h.Ns mainGlobals mg → mg d.name = some (.ref fa) →
      ∃ fd : FuncData, (∀ (s : Shared) (u : Value), BindsTo s fd ⟨[u], []⟩ [(x, u)]) ∧
        ∀ base : Heap, (K w.params).In base → base.Ns mainGlobals mg → FnG l.prog w (K w.params) mg base CX0 k fa fd [x] (sp w))
    (hsp : ∀ (w : World) (H : Hp) (a : Addr) (ns : List Int), ns.length ≤ n → SqL (K w.params) H a (ns.map V.int) → sp w [.ref a] H (fun v _ => v = .bl true) fun _ _ _ => False) :
    PySem.W.WalkO q loose XP YP l.row.toRowW d [] (fun f vs => PySem.call f vs) := by
  refine Att.attach_call hn hdf ?_
  intro w s0 s1 mg mb fa o pm cd doc a vs ns G Y ho hd hcd hmg hobj hints hlen hgen
  have inK := hY w _ Y
  obtain ⟨fd, hb, hF⟩ := F w mg fa _ inK G.T.g hmg
  exact law_callG inK G.T.g G.T.b G.T.builtins G.T.nolimit hgen hobj hints (Nat.le_trans hlen hn2) hr hF hb fun H hS => hsp w H a ns hlen hS
end Vg
namespace Vg
open PySem PySem.Spec PyProof.Rows L2
/-- a def of the module, as its callers know it -/
structure Fn (P : Program) (w : World) (K : PySem.W.Frag) (mg : Str → Option Value) (base : Heap) (k : Nat) (x : Str) (ps : List Str) (sp : Sp) : Prop where
  ex : ∃ (f : Addr) (fd : FuncData), mg x = some (.ref f) ∧ PySem.W.keepIn K (.ref f) = true ∧ Binds K fd ps [] ∧ FnOk P w K mg base CX0 k f fd ps sp
/-- where a def of the module stands -/
structure At (K : PySem.W.Frag) (mg : Str → Option Value) (x : Str) (st : Stmt) : Prop where
  ex : ∃ (f : Addr) (fd : FuncData), mg x = some (.ref f) ∧ Fun K x x st f fd
section
variable {P : Program} {w : World} {K : PySem.W.Frag} {mg : Str → Option Value} {base : Heap} {k : Nat} {x : Str} {st : Stmt} {N ps : List Str} {sp : Sp}
/-- a def by its body -/
theorem At.fn (D : At K mg x st) (S : FnScope N ps (defScope st))
    (hb : ∀ (kV doc pm : Value) (an : Option Addr) (cdv ct : Value) (us : List Value), us.length = ps.length →
      bindArgs (PySem.W.fnOf x x (defArgs st) (defBody st) (defScope st) .none kV doc pm an cdv ct) ⟨us, []⟩ = pure (ps.zip us))
    (len : ∀ vs H Q E, sp vs H Q E → vs.length = ps.length)
    (body : ∀ (f : Addr) (cdv : Value) (A : Around) (outer : List Env) (s : Shared) (H : Hp) (vs : List V) (Q : VK) (E : XK),
      Room k (A.deeper (envOfC x (defScope st) s.heap.objs.size f cdv)) → sp vs H Q E →
      ∃ t, PSs (cxOf CX0 P w K mg base N x (defScope st) f cdv A outer s H E).nox (defBody st) t ∧ t { nx := fun _ H' => Q .non H', rt := Q } (start N vs) H) :
    Fn P w K mg base (k + 1) x ps sp := by
  obtain ⟨f, fd, hm, F⟩ := D.ex
  exact ⟨f, fd, hm, F.kp, F.binds hb, F.ok S len fun cdv A outer s H vs Q E hr h => body f cdv A outer s H vs Q E hr h⟩
end
section
variable {X : Cx} {k : Nat} {ps : List Str} {sp : Sp} {E : XK} {x : Str} {p pos : Pos} {e : Expr} {es : List Expr} {t : TA}
theorem pe_fn (F : Fn X.prog X.w X.K X.mg X.base k x ps sp) (hr : Room k X.A) (hg : Gl X x) (hx : Passes CX0 X E) (ha : PA X (e :: es) t)
    (hdb : (x == ("__debug__" : Str)) = false := by decide) (he : starEach (e :: es) X.env = (false, eval e X.env) :: starEach es X.env := by rfl)
    (hpl : (backTo pos (starEach es X.env)).any (·.1) = false := by rfl) : PE X (.Call (.Name x p) (e :: es) [] pos) (tCall sp [] E t) := by
  obtain ⟨f, fd, hm, hk, hb, F⟩ := F.ex
  exact pe_call F hr hg hm hk hb .nil hx ha hdb he hpl
end
/-- the built-in class of a value -/
inductive Tn (K : PySem.W.Frag) (H : Hp) : V → String → Prop
  | non : Tn K H .non "NoneType"
  | bl (b : Bool) : Tn K H (.bl b) "bool"
  | int (i : Int) : Tn K H (.int i) "int"
  | str (z : Str) : Tn K H (.str z) "str"
  | lst {a : Addr} {xs : List V} (h : H a = some (.lst xs)) : Tn K H (.ref a) "list"
  | tup {a : Addr} {xs : List V} (h : H a = some (.tup xs)) : Tn K H (.ref a) "tuple"
  | dct {a : Addr} {kvs : List (Key × V)} (h : H a = some (.dK kvs)) : Tn K H (.ref a) "dict"
  | con {a : Addr} {o : Obj} (e : K.lookup a = some o) (c : o.cls = .type "tuple") : Tn K H (.ref a) "tuple"
theorem Tn.tyx {K : PySem.W.Frag} {H : Hp} {v : V} {n : String} (h : Tn K H v n) : TyX K H v (.type n) := by
  cases h with
  | non => exact .base .non
  | bl b => exact .base (.bl b)
  | int i => exact .base (.int i)
  | str z => exact .base (.str z)
  | lst h => exact .base (.lst h)
  | tup h => exact .base (.tup h)
  | dct h => exact .base (.dK h)
  | con e c => exact .kTuple e c
section
variable {X : Cx}
theorem cr_isi : CallR X (.builtin "isinstance") (fun xs H Q => ∃ x n c b, xs = [x, .ty c] ∧ Tn X.K H x n ∧ kitB n c = some b ∧ Q (.bl b) H) := by
  intro pins s σ H xs us Q I r h
  obtain ⟨x, n, c, b, rfl, ht, hk, q⟩ := h
  exact call_isi pins s σ H _ us Q I r ⟨x, .ty c, .type n, .type c, b, rfl, .ty c, ht.tyx, kit_ty hk, q⟩
end
end Vg
namespace Vg
open PySem PySem.Spec PyProof.Rows L2
/-- what a purse's list holds, with n draws left at least -/
def Pu (l : List V) (n : Nat) : Prop :=
  ∃ a b c : Int, l = [.int a, .int b, .int c] ∧ 0 ≤ a ∧ 0 ≤ b ∧ b < 2147483629 ∧ 0 ≤ c ∧ c + n ≤ 100000
def Pz (H : Hp) (p : Addr) (n : Nat) : Prop := ∃ l, H p = some (.lst l) ∧ Pu l n
theorem Pz.mono {H : Hp} {p : Addr} {n m : Nat} (h : Pz H p n) (hm : m ≤ n) : Pz H p m := by
  obtain ⟨l, h1, a, b, c, h2, h3, h4, h5, h6, h7⟩ := h
  exact ⟨l, h1, a, b, c, h2, h3, h4, h5, h6, by omega⟩
theorem Pz.upd {H : Hp} {p : Addr} {n : Nat} {l : List V} (h : Pu l n) : Pz (upd H p (.lst l)) p n := ⟨l, upd_same, h⟩
theorem Pz.same {H H' : Hp} {p : Addr} {n : Nat} (h : Pz H p n) (s : Same H H') : Pz H' p n := by
  obtain ⟨l, h1, h2⟩ := h
  exact ⟨l, s _ _ h1, h2⟩
/-- all but the object at p is as it was -/
def But (p : Addr) (H H' : Hp) : Prop := ∀ b o, b ≠ p → H b = some o → H' b = some o
theorem But.refl (p : Addr) (H : Hp) : But p H H := fun _ _ _ h => h
theorem But.trans {p : Addr} {H H1 H2 : Hp} (a : But p H H1) (b : But p H1 H2) : But p H H2 := fun c o n h => b c o n (a c o n h)
theorem But.of {p : Addr} {H H' : Hp} (s : Same H H') : But p H H' := fun b o _ h => s b o h
theorem But.upd {p : Addr} {H : Hp} {o : HO} : But p H (upd H p o) := fun b u n h => by rw [upd_ne n]; exact h
theorem But.new {p q : Addr} {H : Hp} {o : HO} (h : H q = none) : But p H (L2.upd H q o) := fun b u n e => by rw [upd_ne (ne_of_none e h)]; exact e
theorem Same.new {q : Addr} {H : Hp} {o : HO} (h : H q = none) : Same H (L2.upd H q o) := fun b u e => by rw [upd_ne (ne_of_none e h)]; exact e
theorem But.free {p q : Addr} {H H' : Hp} (s : But p H H') (h : H' q = none) (n : q ≠ p) : H q = none := by
  cases e : H q with
  | none => rfl
  | some o => rw [s q o n e] at h; cases h
/-- one draw -/
def spTake : Sp := fun vs H Q _ => ∃ (p : Addr) (m : Int) (n : Nat), vs = [.ref p, .int m] ∧ 0 < m ∧ m.natAbs < 2 ^ 200 ∧ Pz H p (n + 1) ∧
  ∀ (r : Int) (l : List V), 0 ≤ r → r < m → Pu l n → Q (.int r) (upd H p (.lst l))
theorem take_pow {i : Int} {e : Int} (h0 : 0 ≤ i) (h : i < 18446744073709551616) (he : 0 ≤ e) (he2 : e ≤ 1000000) : 0 ≤ e ∧ e ≤ 1000000 ∧ i.natAbs < 2 ^ 64 := ⟨he, he2, by omega⟩
end Vg
namespace Vg
open PySem PySem.Spec PyProof.Rows L2
/-- a cell of the script, whatever it holds -/
def spCell (K : PySem.W.Frag) : Sp := fun vs H Q _ => ∃ (a : Addr) (ns : List Int) (k : Int), vs = [.ref a, .int k] ∧ SqL K H a (ns.map V.int) ∧ 0 ≤ k ∧ k < 1000000 ∧
  ∀ z : Int, Q (.int z) H
/-- a new purse -/
def spPurse : Sp := fun vs H Q _ => ∃ z : Int, vs = [.int z] ∧ ∀ (p : Addr) (l : List V), H p = none → Pu l 90000 → Q (.ref p) (upd H p (.lst l))
/-- the greatest number that divides both -/
def gcdI (a b : Int) : Int := ((Nat.gcd a.natAbs b.natAbs : Nat) : Int)
def spCommon : Sp := fun vs H Q _ => ∃ a b : Int, vs = [.int a, .int b] ∧ Q (.int (gcdI a b)) H
theorem gcd_step {a b : Int} (ha : 0 ≤ a) (hb : 0 < b) : gcdI b (a % b) = gcdI a b := by
  unfold gcdI
  have e : (a % b).natAbs = a.natAbs % b.natAbs := by
    have h1 : (a % b) = ((a.natAbs % b.natAbs : Nat) : Int) := by
      rw [Int.natCast_emod, Int.natAbs_of_nonneg ha, Int.natAbs_of_nonneg (Int.le_of_lt hb)]
    rw [h1]; rfl
  rw [e, Nat.gcd_comm b.natAbs, ← Nat.gcd_rec, Nat.gcd_comm]
theorem gcd_abs (a b : Int) : gcdI (if a < 0 then -a else a) (if b < 0 then -b else b) = gcdI a b := by
  unfold gcdI
  have h : ∀ z : Int, (if z < 0 then -z else z).natAbs = z.natAbs := fun z => by split <;> simp
  rw [h, h]
theorem gcd_zero {a : Int} (ha : 0 ≤ a) : gcdI a 0 = a := by
  unfold gcdI
  simp [Int.natAbs_of_nonneg ha]
/-- whether a value is a whole number -/
def isNum : V → Bool
  | .int _ => true
  | _ => false
def spNum (K : PySem.W.Frag) : Sp := fun vs H Q _ => ∃ (v : V) (n : String), vs = [v] ∧ Tn K H v n ∧ Q (.bl (isNum v)) H
theorem kit_int {K : PySem.W.Frag} {H : Hp} {v : V} {n : String} (h : Tn K H v n) : ∃ b c, kitB n "int" = some b ∧ (b = true → kitB n "bool" = some c) ∧ (b && !c) = isNum v := by
  cases h with
  | non => exact ⟨false, false, by decide +kernel, fun z => Bool.noConfusion z, rfl⟩
  | bl b => exact ⟨true, true, by decide +kernel, fun _ => by decide +kernel, rfl⟩
  | int i => exact ⟨true, false, by decide +kernel, fun _ => by decide +kernel, rfl⟩
  | str z => exact ⟨false, false, by decide +kernel, fun z => Bool.noConfusion z, rfl⟩
  | lst h => exact ⟨false, false, by decide +kernel, fun z => Bool.noConfusion z, rfl⟩
  | tup h => exact ⟨false, false, by decide +kernel, fun z => Bool.noConfusion z, rfl⟩
  | dct h => exact ⟨false, false, by decide +kernel, fun z => Bool.noConfusion z, rfl⟩
  | con e c => exact ⟨false, false, by decide +kernel, fun z => Bool.noConfusion z, rfl⟩
end Vg
namespace Vg
open PySem PySem.Spec PyProof.Rows L2
def kD : Key → PyData
  | .inl i => .int i
  | .inr x => .str x
/-! what a value tells as data, whose objects stand at addresses of a kind -/
mutual
inductive Dq (ok : Addr → Prop) (H : Hp) : V → PyData → Prop
  | non : Dq ok H .non .none
  | bl (b : Bool) : Dq ok H (.bl b) (.bool b)
  | int (i : Int) : Dq ok H (.int i) (.int i)
  | str (x : Str) : Dq ok H (.str x) (.str x)
  | lst {a : Addr} {xs : List V} {ds : List PyData} (o : ok a) (h : H a = some (.lst xs)) (r : DqL ok H xs ds) : Dq ok H (.ref a) (.list ds)
  | tup {a : Addr} {xs : List V} {ds : List PyData} (o : ok a) (h : H a = some (.tup xs)) (r : DqL ok H xs ds) : Dq ok H (.ref a) (.tuple ds)
  | dct {a : Addr} {kvs : List (Key × V)} {es : List (PyData × PyData)} (o : ok a) (h : H a = some (.dK kvs)) (k : kvs.map (fun kv => kD kv.1) = es.map (·.1))
      (r : DqL ok H (kvs.map (·.2)) (es.map (·.2))) : Dq ok H (.ref a) (.dict es)
inductive DqL (ok : Addr → Prop) (H : Hp) : List V → List PyData → Prop
  | nil : DqL ok H [] []
  | cons {v : V} {vs : List V} {d : PyData} {ds : List PyData} (h : Dq ok H v d) (r : DqL ok H vs ds) : DqL ok H (v :: vs) (d :: ds)
end
mutual
theorem Dq.mono {ok ok' : Addr → Prop} {H H' : Hp} (s : ∀ a o, ok a → H a = some o → H' a = some o) (w : ∀ a o, ok a → H a = some o → ok' a) : ∀ {v : V} {d : PyData}, Dq ok H v d → Dq ok' H' v d
  | _, _, .non => .non
  | _, _, .bl b => .bl b
  | _, _, .int i => .int i
  | _, _, .str x => .str x
  | _, _, .lst o h r => .lst (w _ _ o h) (s _ _ o h) (DqL.mono s w r)
  | _, _, .tup o h r => .tup (w _ _ o h) (s _ _ o h) (DqL.mono s w r)
  | _, _, .dct o h k r => .dct (w _ _ o h) (s _ _ o h) k (DqL.mono s w r)
theorem DqL.mono {ok ok' : Addr → Prop} {H H' : Hp} (s : ∀ a o, ok a → H a = some o → H' a = some o) (w : ∀ a o, ok a → H a = some o → ok' a) : ∀ {vs : List V} {ds : List PyData}, DqL ok H vs ds → DqL ok' H' vs ds
  | _, _, .nil => .nil
  | _, _, .cons h r => .cons (Dq.mono s w h) (DqL.mono s w r)
end
theorem DqL.len {ok : Addr → Prop} {H : Hp} : ∀ {vs : List V} {ds : List PyData}, DqL ok H vs ds → vs.length = ds.length
  | _, _, .nil => rfl
  | _, _, .cons _ r => congrArg Nat.succ (DqL.len r)
theorem DqL.app {ok : Addr → Prop} {H : Hp} : ∀ {vs ws : List V} {ds es : List PyData}, DqL ok H vs ds → DqL ok H ws es → DqL ok H (vs ++ ws) (ds ++ es)
  | _, _, _, _, .nil, b => b
  | _, _, _, _, .cons h r, b => .cons h (DqL.app r b)
theorem DqL.get {ok : Addr → Prop} {H : Hp} : ∀ {vs : List V} {ds : List PyData} {i : Nat} {d : PyData}, DqL ok H vs ds → ds[i]? = some d → ∃ v, vs[i]? = some v ∧ Dq ok H v d
  | _, _, i, _, .nil, e => by simp at e
  | _, _, 0, _, .cons h _, e => by
    simp at e
    subst e
    exact ⟨_, rfl, h⟩
  | _, _, i + 1, d, .cons _ r, e => by
    obtain ⟨v, h1, h2⟩ := DqL.get (i := i) (d := d) r (by simpa using e)
    exact ⟨v, by simpa using h1, h2⟩
theorem Dq.tn {ok : Addr → Prop} {K : PySem.W.Frag} {H : Hp} {v : V} {d : PyData} (h : Dq ok H v d) : ∃ n, Tn K H v n := by
  cases h with
  | non => exact ⟨_, .non⟩
  | bl b => exact ⟨_, .bl b⟩
  | int i => exact ⟨_, .int i⟩
  | str x => exact ⟨_, .str x⟩
  | lst o h r => exact ⟨_, .lst h⟩
  | tup o h r => exact ⟨_, .tup h⟩
  | dct o h k r => exact ⟨_, .dct h⟩
/-- an expression that makes such data of new objects -/
def Mk1 (t : TE) (d : PyData) : Prop := ∀ (σ : L2.St) (H : Hp) (Q : VK), (∀ v H', Same H H' → Dq (fun a => H a = none) H' v d → Q v H') → t σ H Q
def MkL (t : TA) (ds : List PyData) : Prop := ∀ (σ : L2.St) (H : Hp) (Q : List V → Hp → Prop), (∀ vs H', Same H H' → DqL (fun a => H a = none) H' vs ds → Q vs H') → t σ H Q
theorem mk_non : Mk1 (tC .non) .none := fun _ H _ q => q _ _ (Same.refl H) .non
theorem mk_bl (b : Bool) : Mk1 (tC (.bl b)) (.bool b) := fun _ H _ q => q _ _ (Same.refl H) (.bl b)
theorem mk_int (i : Int) : Mk1 (tC (.int i)) (.int i) := fun _ H _ q => q _ _ (Same.refl H) (.int i)
theorem mk_str (x : Str) : Mk1 (tC (.str x)) (.str x) := fun _ H _ q => q _ _ (Same.refl H) (.str x)
/-- one that gives a number without making anything -/
def MkI (t : TE) (i : Int) : Prop := ∀ (σ : L2.St) (H : Hp) (Q : VK), Q (.int i) H → t σ H Q
theorem mki_c (i : Int) : MkI (tC (.int i)) i := fun _ _ _ q => q
theorem mki_neg {t : TE} {i : Int} (h : MkI t i) : MkI (tUn (rU fun i => .int (-i)) t) (-i) := fun σ H Q q => h σ H _ ⟨i, rfl, q⟩
theorem mki_pow {t u : TE} {i j : Int} (h : MkI t i) (k : MkI u j) (hc : 0 ≤ j ∧ j ≤ 1000000 ∧ i.natAbs < 2 ^ 64 := by decide) : MkI (tOp (rI CPow fun i j => .int (i ^ j.toNat)) t u) (i ^ j.toNat) :=
  fun σ H Q q => h σ H _ (k σ H _ ⟨i, j, rfl, rfl, hc, q⟩)
theorem mk_of {t : TE} {i : Int} (h : MkI t i) : Mk1 t (.int i) := fun σ H Q q => h σ H _ (q _ _ (Same.refl H) (.int i))
theorem mkl_nil : MkL tNil [] := fun _ H _ q => q _ _ (Same.refl H) .nil
theorem mkl_cons {t : TE} {u : TA} {d : PyData} {ds : List PyData} (h : Mk1 t d) (k : MkL u ds) : MkL (tCons t u) (d :: ds) := by
  intro σ H Q q
  refine h σ H _ fun v H1 s1 r1 => ?_
  refine k σ H1 _ fun vs H2 s2 r2 => ?_
  exact q _ _ (s1.trans s2) (.cons (r1.mono (fun a o _ e => s2 a o e) fun a o h _ => h) (r2.mono (fun a o _ e => e) fun a o h _ => s1.free h))
theorem mk_lst {t : TA} {ds : List PyData} (h : MkL t ds) (hz : ds.length ≤ 1000 := by decide) : Mk1 (tLst t) (.list ds) := by
  intro σ H Q q
  refine h σ H _ fun vs H1 s1 r => ⟨?_, fun p hp => ?_⟩
  · rw [r.len]
    exact Nat.le_trans hz (by decide)
  · exact q _ _ (s1.trans (Same.new hp)) (.lst (s1.free hp) upd_same (r.mono (fun a o _ e => Same.new hp a o e) fun a o h _ => h))
theorem mk_tup {t : TA} {ds : List PyData} (h : MkL t ds) (hz : ds.length ≤ 1000 := by decide) : Mk1 (tTup t) (.tuple ds) := by
  intro σ H Q q
  refine h σ H _ fun vs H1 s1 r => ⟨?_, fun p hp => ?_⟩
  · rw [r.len]
    exact Nat.le_trans hz (by decide)
  · exact q _ _ (s1.trans (Same.new hp)) (.tup (s1.free hp) upd_same (r.mono (fun a o _ e => Same.new hp a o e) fun a o h _ => h))
theorem mk_dct0 : Mk1 tDNewK (.dict []) := fun σ H Q q p hp => q _ _ (Same.new hp) (.dct hp upd_same rfl .nil)
theorem mk_dct1 {t : TE} {d : PyData} (k : Key) (h : Mk1 t d) : Mk1 (tDisp [(tC (kV k), t)]) (.dict [(kD k, d)]) := by
  intro σ H Q q p hp
  refine h σ _ _ fun v H1 s1 r => ?_
  have e1 : H1 p = some (.dK []) := s1 _ _ upd_same
  refine ⟨e1, [(k, v)], rfl, (by show 1 ≤ 15; decide), ?_⟩
  have sH : Same H (L2.upd H1 p (.dK (mergeK [] [(k, v)]))) := fun b o e => by
    have n := ne_of_none e hp
    rw [upd_ne n]
    exact s1 _ _ (by rw [upd_ne n]; exact e)
  refine q _ _ sH (.dct (kvs := [(k, v)]) (es := [(kD k, d)]) hp upd_same rfl (.cons (r.mono (fun a o ho e => ?_) fun a o ho e => ?_) .nil))
  · have n : a ≠ p := fun z => by rw [z, upd_same] at ho; cases ho
    rw [upd_ne n]
    exact e
  · have n : a ≠ p := fun z => by rw [z, upd_same] at ho; cases ho
    rw [upd_ne n] at ho
    exact ho
/-- name = such an expression -/
theorem sq_set {te : TE} {i : Nat} {u : TS} {D : Ends} {σ : L2.St} {H : Hp} {d : PyData} (h : Mk1 te d)
    (k : ∀ v H', Same H H' → Dq (fun a => H a = none) H' v d → u D (σ.set i (some v)) H') : tSeq (tAsg te (gName i)) u D σ H := h σ H _ k
/-- a list's name + such a list -/
theorem mk_cat {i : Nat} {te : TE} {σ : L2.St} {H : Hp} {Q : VK} {a : Addr} {xs : List V} {ds es : List PyData} {ok : Addr → Prop} (h : Mk1 te (.list es)) (hi : σ[i]? = some (some (.ref a))) (ha : H a = some (.lst xs)) (hd : DqL ok H xs ds)
    (hz : ds.length + es.length ≤ 1000) (ho : ∀ b, H b = none → ok b)
    (k : ∀ (p : Addr) (ys : List V) (H' : Hp), Same H H' → H p = none → H' p = some (.lst (xs ++ ys)) → DqL ok H' (xs ++ ys) (ds ++ es) → Q (.ref p) H') : tOp rCat (tVar i) te σ H Q := by
  refine ⟨_, hi, h σ H _ fun v H1 s1 r => ?_⟩
  cases r with
  | @lst b ys _ ob hb rb =>
  refine ⟨a, b, xs, ys, rfl, rfl, s1 _ _ ha, hb, ?_, fun p hp => ?_⟩
  · rw [hd.len, rb.len]
    exact Nat.le_trans hz (by decide)
  · have s2 : Same H1 (L2.upd H1 p (.lst (xs ++ ys))) := Same.new hp
    refine k p ys _ (s1.trans s2) (s1.free hp) upd_same (DqL.app (hd.mono (fun c o _ e => s2 _ _ (s1 _ _ e)) fun c o hc _ => hc) (rb.mono (fun c o _ e => s2 _ _ e) fun c o hc _ => ho c hc))
end Vg
namespace Vg
open PySem PySem.Spec PyProof.Rows L2
theorem pickV {xs : List V} {r : Int} (h0 : 0 ≤ r) (h1 : r < xs.length) : ∃ v, v ∈ xs ∧ atI xs r = some v := by
  obtain ⟨j, rfl⟩ : ∃ j : Nat, r = (j : Int) := ⟨r.toNat, by omega⟩
  have hj : j < xs.length := by omega
  exact ⟨xs[j], List.getElem_mem hj, atI_nat (List.getElem?_eq_getElem hj)⟩
theorem pickI {zs : List Int} {r : Int} (h0 : 0 ≤ r) (h1 : r < zs.length) : ∃ z, z ∈ zs ∧ atI (zs.map V.int) r = some (.int z) := by
  obtain ⟨v, h2, h3⟩ := pickV (xs := zs.map V.int) h0 (by rw [List.length_map]; exact h1)
  obtain ⟨z, h4, rfl⟩ := List.mem_map.mp h2
  exact ⟨z, h4, h3⟩
theorem Pz.new {H : Hp} {p q : Addr} {n : Nat} {o : HO} (h : Pz H p n) (hq : H q = none) : Pz (L2.upd H q o) p n := h.same (Same.new hq)
theorem Pz.ne {H : Hp} {p q : Addr} {n : Nat} (h : Pz H p n) (hq : H q = none) : q ≠ p := by
  obtain ⟨l, h1, _⟩ := h
  exact (ne_of_none h1 hq).symm
/-- a whole number of at most thirty figures -/
def spWhole : Sp := fun vs H Q _ => ∃ (p : Addr) (n : Nat), vs = [.ref p] ∧ Pz H p (n + 6) ∧
  ∀ (z : Int) (H' : Hp), z.natAbs < 10 ^ 30 → But p H H' → Pz H' p n → Q (.int z) H'
end Vg
namespace Vg
open PySem PySem.Spec PyProof.Rows L2
/-- some data that a value tells -/
def Dk (H : Hp) (v : V) (d : PyData) : Prop := ∃ ok, Dq ok H v d
theorem Dk.tn {K : PySem.W.Frag} {H : Hp} {v : V} {d : PyData} (h : Dk H v d) : ∃ n, Tn K H v n := by
  obtain ⟨_, h⟩ := h
  exact h.tn
theorem Dk.same {H H' : Hp} {v : V} {d : PyData} (h : Dk H v d) (s : Same H H') : Dk H' v d := by
  obtain ⟨ok, h⟩ := h
  exact ⟨ok, h.mono (fun a o _ e => s _ _ e) fun a o k _ => k⟩
def numD : PyData → Bool
  | .int _ => true
  | _ => false
theorem isNum_of {ok : Addr → Prop} {H : Hp} {v : V} {d : PyData} (h : Dq ok H v d) : isNum v = numD d := by
  cases h <;> rfl
/-- a whole number from lo to hi -/
def wholeV (lo hi : Int) : V → Bool
  | .int i => decide (lo ≤ i ∧ i ≤ hi)
  | _ => false
def spWholeIn (K : PySem.W.Frag) : Sp := fun vs H Q _ => ∃ (v : V) (n : String) (lo hi : Int), vs = [v, .int lo, .int hi] ∧ Tn K H v n ∧ Q (.bl (wholeV lo hi v)) H
theorem num_int {v : V} (h : isNum v = true) : ∃ i, v = .int i := by
  cases v with
  | int i => exact ⟨i, rfl⟩
  | _ => cases h
theorem whole_no {lo hi : Int} {v : V} (h : isNum v = false) : wholeV lo hi v = false := by
  cases v with
  | int i => cases h
  | _ => rfl
/-- a tuple of two -/
def pairD : PyData → Bool
  | .tuple ds => decide (ds.length = 2)
  | _ => false
def spPair : Sp := fun vs H Q _ => ∃ (v : V) (d : PyData), vs = [v] ∧ Dk H v d ∧ Q (.bl (pairD d)) H
def fracD : PyData → Bool
  | .tuple [.int a, .int b] => decide (1 ≤ b) && decide (gcdI a b = 1)
  | _ => false
def spFrac : Sp := fun vs H Q _ => ∃ (v : V) (d : PyData), vs = [v] ∧ Dk H v d ∧ Q (.bl (fracD d)) H
theorem Dk.two {H : Hp} {v : V} {d : PyData} (h : Dk H v d) (hp : pairD d = true) : ∃ a x y dx dy, v = .ref a ∧ H a = some (.tup [x, y]) ∧ d = .tuple [dx, dy] ∧ Dk H x dx ∧ Dk H y dy := by
  obtain ⟨ok, h⟩ := h
  cases h with
  | @tup a xs ds o h r =>
    have hl : ds.length = 2 := of_decide_eq_true hp
    match ds, hl with
    | [dx, dy], _ =>
      match r with
      | .cons r1 (.cons r2 .nil) => exact ⟨a, _, _, dx, dy, rfl, h, rfl, ⟨ok, r1⟩, ⟨ok, r2⟩⟩
  | _ => cases hp
theorem frac_nopair {d : PyData} (h : pairD d = false) : fracD d = false := by
  unfold fracD
  split
  · cases h
  · rfl
theorem frac_nonum {dx dy : PyData} (h : (numD dx && numD dy) = false) : fracD (.tuple [dx, dy]) = false := by
  unfold fracD
  split
  · rename_i a b e
    injection e with e
    injection e with e1 e2
    injection e2 with e2 _
    subst e1 e2
    cases h
  · rfl
/-- one sign from a to z, as both looks ask for it -/
def smallC (c : Nat) : Bool := if (!decide ((⟨#[c]⟩ : Str).cps.toList < ("a" : Str).cps.toList)) = true then !decide (("z" : Str).cps.toList < (⟨#[c]⟩ : Str).cps.toList) else false
def nameV : V → Bool
  | .str z => decide (1 ≤ z.length ∧ z.length ≤ 6) && z.cps.toList.all smallC
  | _ => false
def spName (K : PySem.W.Frag) : Sp := fun vs H Q _ => ∃ (v : V) (n : String), vs = [v] ∧ Tn K H v n ∧ (∀ z, v = .str z → z.length ≤ 100000 ∧ PyData.strOk z = true) ∧ ∀ H', Same H H' → Q (.bl (nameV v)) H'
theorem kit_str {K : PySem.W.Frag} {H : Hp} {v : V} {n : String} (h : Tn K H v n) : ∃ b, kitB n "str" = some b ∧ (b = true → ∃ z, v = .str z) ∧ (b = false → nameV v = false) := by
  cases h with
  | str z => exact ⟨true, by decide +kernel, fun _ => ⟨z, rfl⟩, fun z => Bool.noConfusion z⟩
  | non => exact ⟨false, by decide +kernel, fun z => Bool.noConfusion z, fun _ => rfl⟩
  | bl b => exact ⟨false, by decide +kernel, fun z => Bool.noConfusion z, fun _ => rfl⟩
  | int i => exact ⟨false, by decide +kernel, fun z => Bool.noConfusion z, fun _ => rfl⟩
  | lst h => exact ⟨false, by decide +kernel, fun z => Bool.noConfusion z, fun _ => rfl⟩
  | tup h => exact ⟨false, by decide +kernel, fun z => Bool.noConfusion z, fun _ => rfl⟩
  | dct h => exact ⟨false, by decide +kernel, fun z => Bool.noConfusion z, fun _ => rfl⟩
  | con e c => exact ⟨false, by decide +kernel, fun z => Bool.noConfusion z, fun _ => rfl⟩
theorem kit_tuple {K : PySem.W.Frag} {H : Hp} {v : V} {d : PyData} (h : Dk H v d) : ∃ n b, Tn K H v n ∧ kitB n "tuple" = some b ∧ (b = true → ∃ a xs ds, v = .ref a ∧ H a = some (.tup xs) ∧ d = .tuple ds ∧ xs.length = ds.length) ∧ (b = false → pairD d = false) := by
  obtain ⟨ok, h⟩ := h
  cases h with
  | tup o h r => exact ⟨_, true, .tup h, by decide +kernel, fun _ => ⟨_, _, _, rfl, h, rfl, r.len⟩, fun z => Bool.noConfusion z⟩
  | non => exact ⟨_, false, .non, by decide +kernel, fun z => Bool.noConfusion z, fun _ => rfl⟩
  | bl b => exact ⟨_, false, .bl b, by decide +kernel, fun z => Bool.noConfusion z, fun _ => rfl⟩
  | int i => exact ⟨_, false, .int i, by decide +kernel, fun z => Bool.noConfusion z, fun _ => rfl⟩
  | str z => exact ⟨_, false, .str z, by decide +kernel, fun z => Bool.noConfusion z, fun _ => rfl⟩
  | lst o h r => exact ⟨_, false, .lst h, by decide +kernel, fun z => Bool.noConfusion z, fun _ => rfl⟩
  | dct o h k r => exact ⟨_, false, .dct h, by decide +kernel, fun z => Bool.noConfusion z, fun _ => rfl⟩
end Vg
namespace Vg
open PySem PySem.Spec PyProof.Rows L2
theorem take_sign {z : Str} {i c : Nat} (h : z.cps[i]? = some c) : z.cps.toList.take (i + 1) = z.cps.toList.take i ++ [c] := by
  have e : z.cps.toList[i]? = some c := by rw [Array.getElem?_toList]; exact h
  obtain ⟨h1, h2⟩ := List.getElem?_eq_some_iff.mp e
  rw [List.take_succ, e]
  rfl
theorem take_signs {z : Str} : z.cps.toList.take z.cps.size = z.cps.toList := by
  rw [List.take_of_length_le]
  simp
theorem size_sign {z : Str} {i c : Nat} (h : z.cps[i]? = some c) : i < z.cps.size := by
  obtain ⟨h1, _⟩ := Array.getElem?_eq_some_iff.mp h
  exact h1
theorem upd_in {H : Hp} {a b : Addr} {o u : HO} (h : H b = some u) (hn : a ≠ b) : L2.upd H a o b = some u := by
  rw [upd_ne hn.symm]
  exact h
/-- a change at an address that was free keeps all that was -/
theorem Same.mut {H H' : Hp} {p : Addr} {o : HO} (s : Same H H') (h : H p = none) : Same H (L2.upd H' p o) := fun b u e => by
  rw [upd_ne (ne_of_none e h)]
  exact s b u e
theorem bools_all {xs : List Nat} : (xs.map smallC).all id = xs.all smallC := by
  induction xs with
  | nil => rfl
  | cons x xs ih => simp [List.all_cons]
theorem name_of {z : Str} (h : 1 ≤ z.length ∧ z.length ≤ 6) : nameV (.str z) = z.cps.toList.all smallC := by
  unfold nameV
  simp [h]
theorem name_no {z : Str} (h : ¬ (1 ≤ z.length ∧ z.length ≤ 6)) : nameV (.str z) = false := by
  show (decide (1 ≤ z.length ∧ z.length ≤ 6) && z.cps.toList.all smallC) = false
  rw [decide_eq_false h]
  rfl
/-- the data of some signs, each a text -/
def signsD (xs : List Nat) : List PyData := xs.map fun c => .str ⟨#[c]⟩
theorem dp_signs {K : PySem.W.Frag} {H : Hp} : ∀ xs : List Nat, DpAll K H (xs.map fun c => V.str ⟨#[c]⟩) (signsD xs)
  | [] => .nil
  | x :: xs => .cons (.str _) (dp_signs xs)
theorem eqv_signs (xs : List Nat) : PyData.eqv (.list (signsD xs)) (.list []) = xs.isEmpty := by
  cases xs with
  | nil => simp [signsD, PyData.eqv, PyData.eqvAll]
  | cons x xs => simp [signsD, PyData.eqv, PyData.eqvAll]
theorem strOk_mem {z : Str} (h : PyData.strOk z = true) : ∀ c ∈ z.cps.toList, c < 1114112 := by
  intro c hc
  unfold PyData.strOk at h
  rw [← Array.all_toList, List.all_eq_true] at h
  exact of_decide_eq_true (h c hc)
theorem lay_signs (xs : List Nat) (hx : ∀ c ∈ xs, c < 1114112) : SeqAt.shaped (.list (signsD xs)) = true := by
  have h : ∀ xs : List Nat, (∀ c ∈ xs, c < 1114112) → PyData.canLayAll0 (signsD xs) = true ∧ PyData.depthAll (signsD xs) ≤ 0 := by
    intro xs
    induction xs with
    | nil => exact fun _ => ⟨by simp [signsD, PyData.canLayAll0], by simp [signsD, PyData.depthAll]⟩
    | cons x xs ih =>
      intro hx
      obtain ⟨h1, h2⟩ := ih fun c hc => hx c (List.mem_cons_of_mem _ hc)
      have h0 := hx x (List.mem_cons_self ..)
      refine ⟨?_, ?_⟩
      · simp only [signsD, List.map_cons, PyData.canLayAll0, PyData.canLay0, Bool.and_eq_true]
        refine ⟨?_, h1⟩
        unfold PyData.strOk
        simp [h0]
      · simp only [signsD, List.map_cons, PyData.depthAll, PyData.depth]
        have h2' : PyData.depthAll (List.map (fun c => PyData.str ⟨#[c]⟩) xs) ≤ 0 := h2
        simp only [Nat.le_zero] at h2' ⊢
        rw [h2']
        rfl
  obtain ⟨h1, h2⟩ := h xs hx
  unfold SeqAt.shaped
  have h3 : PyData.depthAll (signsD xs) = 0 := Nat.le_zero.mp h2
  have h4 : (PyData.list (signsD xs)).depth ≤ 64 := by
    simp only [PyData.depth]
    omega
  rw [decide_eq_true h4]
  simp only [PyData.canLay0, Bool.and_true]
  exact h1
theorem filter_empty {p : Nat → Bool} {xs : List Nat} : (xs.filter fun c => !p c).isEmpty = xs.all p := by
  induction xs with
  | nil => rfl
  | cons x xs ih =>
    cases e : p x with
    | true => simp [List.filter_cons, e, ih]
    | false => simp [List.filter_cons, e]
/-- a turn of a comprehension without a test -/
theorem lc_keep {te : TE} {σ : L2.St} {H : Hp} {R : VK} {L : Hp → Prop} (h : te σ H R) :
    tYes σ H (fun b H3 => if b = true then te σ H3 R else L H3) := by
  show (if true = true then te σ H R else L H)
  rw [if_pos rfl]
  exact h
end Vg
namespace Vg
open PySem PySem.Spec PyProof.Rows L2
/-- a text of at most n signs, each one that there is -/
structure Tx (n : Nat) (z : Str) : Prop where
  len : z.cps.toList.length ≤ n
  ok : ∀ c ∈ z.cps.toList, c < 1114112
theorem Tx.strOk {n : Nat} {z : Str} (h : Tx n z) : PyData.strOk z = true := by
  unfold PyData.strOk
  rw [← Array.all_toList, List.all_eq_true]
  exact fun c hc => decide_eq_true (h.ok c hc)
theorem Tx.length {n : Nat} {z : Str} (h : Tx n z) : z.length ≤ n := by
  have e : z.length = z.cps.toList.length := by simp [Str.length]
  rw [e]
  exact h.len
theorem Tx.mono {n m : Nat} {z : Str} (h : Tx n z) (hm : n ≤ m) : Tx m z := ⟨Nat.le_trans h.len hm, h.ok⟩
theorem toList_app (x y : Str) : (x ++ y).cps.toList = x.cps.toList ++ y.cps.toList := by
  show (x.cps ++ y.cps).toList = _
  simp
theorem Tx.app {n m : Nat} {x y : Str} (h : Tx n x) (k : Tx m y) : Tx (n + m) (x ++ y) := by
  refine ⟨?_, fun c hc => ?_⟩
  · rw [toList_app, List.length_append]
    have := h.len
    have := k.len
    omega
  · rw [toList_app] at hc
    rcases List.mem_append.mp hc with hc | hc
    · exact h.ok c hc
    · exact k.ok c hc
theorem Tx.cut {n : Nat} {z : Str} (h : Tx n z) (lo hi : Option Int) : Tx n (cutS z lo hi) := by
  refine ⟨?_, fun c hc => ?_⟩
  · show (((z.cps.toList.drop _).take _).toArray).toList.length ≤ n
    have := h.len
    simp only [List.length_take, List.length_drop]
    omega
  · have hc' : c ∈ ((z.cps.toList.drop (HT.sIx z.length 0 lo)).take (HT.sIx z.length z.length hi - HT.sIx z.length 0 lo)) := by
      simpa [cutS] using hc
    exact h.ok c (List.mem_of_mem_drop (List.mem_of_mem_take hc'))
theorem Tx.one {c : Nat} (h : c < 1114112) : Tx 1 ⟨#[c]⟩ := ⟨by simp, fun d hd => by simp at hd; omega⟩
theorem Tx.join : ∀ {ys : List Str}, (∀ y ∈ ys, Tx 1 y) → Tx ys.length (Txt.join "" ys) := by
  intro ys
  rw [TL.join_eq]
  induction ys with
  | nil => intro _; exact ⟨by decide, fun c hc => by simp [Str.join] at hc; exact absurd hc (by decide +revert)⟩
  | cons y ys ih =>
    intro h
    cases ys with
    | nil => exact h y (List.mem_cons_self ..)
    | cons z zs =>
      have h1 := h y (List.mem_cons_self ..)
      have h2 := ih fun x hx => h x (List.mem_cons_of_mem _ hx)
      have e : Str.join "" (y :: z :: zs) = y ++ "" ++ Str.join "" (z :: zs) := rfl
      have h3 : Tx 0 ("" : Str) := ⟨by decide, fun c hc => by exact absurd hc (by decide +revert)⟩
      rw [e]
      exact ((h1.app h3).app h2).mono (by simp only [List.length_cons]; omega)
/-- a sign of a written text -/
theorem pickS {z : Str} {r : Int} (h0 : 0 ≤ r) (h1 : r < z.cps.toList.length) (ok : z.cps.toList.all (fun c => decide (c < 1114112)) = true) : ∃ c, c < 1114112 ∧ atI z.cps.toList r = some c := by
  obtain ⟨j, rfl⟩ : ∃ j : Nat, r = (j : Int) := ⟨r.toNat, by omega⟩
  have hj : j < z.cps.toList.length := by omega
  refine ⟨z.cps.toList[j], ?_, atI_nat (List.getElem?_eq_getElem hj)⟩
  rw [List.all_eq_true] at ok
  exact of_decide_eq_true (ok _ (List.getElem_mem hj))
def spText : Sp := fun vs H Q _ => ∃ (p : Addr) (n : Nat), vs = [.ref p] ∧ Pz H p (n + 14) ∧ ∀ (z : Str) (H' : Hp), Tx 20 z → But p H H' → Pz H' p n → Q (.str z) H'
theorem sum_ones {ys : List Str} (h : ∀ y ∈ ys, Tx 1 y) : (ys.map (·.length)).sum ≤ ys.length := by
  induction ys with
  | nil => simp
  | cons y ys ih =>
    have h1 := (h y (List.mem_cons_self ..)).length
    have h2 := ih fun x hx => h x (List.mem_cons_of_mem _ hx)
    simp only [List.map_cons, List.sum_cons, List.length_cons]
    omega
theorem But.mut {p D : Addr} {H H' : Hp} {o : HO} (s : But p H H') (h : H D = none) : But p H (L2.upd H' D o) := fun b u n e => by
  rw [upd_ne (ne_of_none e h)]
  exact s b u n e
theorem Pz.mut {p D : Addr} {H : Hp} {n : Nat} {o : HO} (h : Pz H p n) (hn : D ≠ p) : Pz (L2.upd H D o) p n := by
  obtain ⟨l, h1, h2⟩ := h
  exact ⟨l, upd_in h1 hn, h2⟩
end Vg
namespace Vg
open PySem PySem.Spec PyProof.Rows L2
/-- a def of the module that asks for texts of lists, as its callers know it -/
structure Fg (P : Program) (w : World) (K : PySem.W.Frag) (mg : Str → Option Value) (base : Heap) (k : Nat) (x : Str) (ps : List Str) (sp : Sp) : Prop where
  ex : ∃ (f : Addr) (fd : FuncData), mg x = some (.ref f) ∧ PySem.W.keepIn K (.ref f) = true ∧ Binds K fd ps [] ∧ FnG P w K mg base CX0 k f fd ps sp
/-- such a def by its body -/
theorem fng_fun {P : Program} {w : World} {K : PySem.W.Frag} {mg : Str → Option Value} {base : Heap} {k : Nat} {x : Str} {st : Stmt} {N ps : List Str} {sp : Sp} {f : Addr} {fd : FuncData} (F : Fun K x x st f fd) (S : FnScope N ps (defScope st))
    (len : ∀ vs H Q E, sp vs H Q E → vs.length = ps.length)
    (body : ∀ (cdv : Value) (A : Around) (outer : List Env) (s : Shared) (H : Hp) (vs : List V) (Q : VK) (E : XK),
      (cxOf CX0 P w K mg base N x (defScope st) f cdv A outer s H E).nox.A.guards = some [] →
      Room k (A.deeper (envOfC x (defScope st) s.heap.objs.size f cdv)) → sp vs H Q E →
      ∃ t, PSs (cxOf CX0 P w K mg base N x (defScope st) f cdv A outer s H E).nox (defBody st) t ∧ t { nx := fun _ H' => Q .non H', rt := Q } (start N vs) H) :
    FnG P w K mg base CX0 (k + 1) f fd ps sp := by
  obtain ⟨oc, od, kV, doc, pm, an, cdv, ct, osl, rfl, lk, hcd⟩ := F.ex
  refine fng_of lk hcd S len fun A outer s H vs Q E hg hr hsp => ?_
  obtain ⟨t, h, q⟩ := body cdv A outer s H vs Q E hg hr hsp
  exact ⟨t, h.nox, q⟩
theorem At.fng {P : Program} {w : World} {K : PySem.W.Frag} {mg : Str → Option Value} {base : Heap} {k : Nat} {x : Str} {st : Stmt} {N ps : List Str} {sp : Sp} (D : At K mg x st) (S : FnScope N ps (defScope st))
    (hb : ∀ (kV doc pm : Value) (an : Option Addr) (cdv ct : Value) (us : List Value), us.length = ps.length →
      bindArgs (PySem.W.fnOf x x (defArgs st) (defBody st) (defScope st) .none kV doc pm an cdv ct) ⟨us, []⟩ = pure (ps.zip us))
    (len : ∀ vs H Q E, sp vs H Q E → vs.length = ps.length)
    (body : ∀ (f : Addr) (cdv : Value) (A : Around) (outer : List Env) (s : Shared) (H : Hp) (vs : List V) (Q : VK) (E : XK),
      (cxOf CX0 P w K mg base N x (defScope st) f cdv A outer s H E).nox.A.guards = some [] →
      Room k (A.deeper (envOfC x (defScope st) s.heap.objs.size f cdv)) → sp vs H Q E →
      ∃ t, PSs (cxOf CX0 P w K mg base N x (defScope st) f cdv A outer s H E).nox (defBody st) t ∧ t { nx := fun _ H' => Q .non H', rt := Q } (start N vs) H) :
    Fg P w K mg base (k + 1) x ps sp := by
  obtain ⟨f, fd, hm, F⟩ := D.ex
  exact ⟨f, fd, hm, F.kp, F.binds hb, fng_fun F S len fun cdv A outer s H vs Q E hg hr h => body f cdv A outer s H vs Q E hg hr h⟩
/-- a def as the head tells it -/
structure DefIn (K : PySem.W.Frag) (x : Str) (st : Stmt) : Prop where
  ex : ∃ (f : Addr) (oc : Value) (od an : Option Addr) (sl : Array (Option Value)) (kV dc pm cd ct : Value), PySem.W.nsIn K mainGlobals x = some (some (.ref f)) ∧
    K.lookup f = some ⟨oc, od, .func (PySem.W.fnOf x x (defArgs st) (defBody st) (defScope st) .none kV dc pm an cd ct), sl⟩ ∧
    PySem.W.codeIn K cd x = true ∧ PySem.W.keepIn K (.ref f) = true
theorem DefIn.at {K : PySem.W.Frag} {h : Heap} {mg : Str → Option Value} {x : Str} {st : Stmt} (D : DefIn K x st) (X : K.In h) (G : h.Ns mainGlobals mg) : At K mg x st := by
  obtain ⟨f, oc, od, an, sl, kV, dc, pm, cd, ct, a, l, c, k⟩ := D.ex
  exact ⟨f, _, PySem.W.mg_of X G a, fun_mk l c k⟩
theorem pe_fg {X : Cx} {k : Nat} {ps : List Str} {sp : Sp} {E : XK} {x : Str} {p pos : Pos} {e : Expr} {es : List Expr} {t : TA} (F : Fg X.prog X.w X.K X.mg X.base k x ps sp) (hgd : X.A.guards = some []) (hr : Room k X.A) (hg : Gl X x) (hx : Passes CX0 X E) (ha : PA X (e :: es) t)
    (hdb : (x == ("__debug__" : Str)) = false := by decide) (he : starEach (e :: es) X.env = (false, eval e X.env) :: starEach es X.env := by rfl)
    (hpl : (backTo pos (starEach es X.env)).any (·.1) = false := by rfl) : PE X (.Call (.Name x p) (e :: es) [] pos) (tCall sp [] E t) := by
  obtain ⟨f, fd, hm, hk, hb, F⟩ := F.ex
  exact pe_callG F hgd hr hg hm hk hb .nil hx ha hdb he hpl
/-- what a law promises -/
def spLaw (K : PySem.W.Frag) : Sp := fun vs H Q _ => ∃ (a : Addr) (ns : List Int), vs = [.ref a] ∧ SqL K H a (ns.map V.int) ∧ ns.length ≤ 63 ∧ ∀ H', Q (.bl true) H'
theorem Same.but {p : Addr} {H H1 H2 : Hp} (s : Same H H1) (h : H p = none) (b : But p H1 H2) : Same H H2 := fun c o e => b c o (ne_of_none e h) (s c o e)
/-- a thing that may be handed in: data, its texts in bounds -/
def Good (H : Hp) (v : V) : Prop := (∃ d, Dk H v d) ∧ ∀ z, v = .str z → z.length ≤ 100000 ∧ PyData.strOk z = true
theorem Good.same {H H' : Hp} {v : V} (h : Good H v) (s : Same H H') : Good H' v := by
  obtain ⟨⟨d, hd⟩, hz⟩ := h
  exact ⟨⟨d, hd.same s⟩, hz⟩
theorem good_int {H : Hp} (i : Int) : Good H (.int i) := ⟨⟨_, fun _ => True, .int i⟩, fun z e => by cases e⟩
theorem good_str {H : Hp} {n : Nat} {z : Str} (h : Tx n z) (hn : n ≤ 100000) : Good H (.str z) :=
  ⟨⟨_, fun _ => True, .str z⟩, fun y e => by
    cases e
    exact ⟨Nat.le_trans h.length hn, h.strOk⟩⟩
/-- a tuple, a list of two numbers -/
theorem good_tup {H : Hp} {a : Addr} {i j : Int} (h : H a = some (.tup [.int i, .int j])) : Good H (.ref a) :=
  ⟨⟨_, fun _ => True, .tup trivial h (.cons (.int i) (.cons (.int j) .nil))⟩, fun y e => by cases e⟩
theorem good_lst {H : Hp} {a : Addr} {i j : Int} (h : H a = some (.lst [.int i, .int j])) : Good H (.ref a) :=
  ⟨⟨_, fun _ => True, .lst trivial h (.cons (.int i) (.cons (.int j) .nil))⟩, fun y e => by cases e⟩
def textOk : PyData → Bool
  | .str z => decide (z.length ≤ 100000) && PyData.strOk z
  | _ => true
theorem good_of {ok : Addr → Prop} {H : Hp} {v : V} {d : PyData} (h : Dq ok H v d) (ht : textOk d = true) : Good H v := by
  refine ⟨⟨d, ok, h⟩, fun z e => ?_⟩
  subst e
  cases h
  have h2 := Bool.and_eq_true_iff.mp (show (decide (z.length ≤ 100000) && PyData.strOk z) = true from ht)
  exact ⟨of_decide_eq_true h2.1, h2.2⟩
/-- the data of a list of three truths -/
def boolsD (a b c : Bool) : PyData := .list [.bool a, .bool b, .bool c]
theorem bools_text (a b c : Bool) : (boolsD a b c).showable = true ∧ (boolsD a b c).depth ≤ 50 ∧ (boolsD a b c).shown.length ≤ sizeLine := by
  cases a <;> cases b <;> cases c <;> decide +kernel
theorem bool_text (a : Bool) : (PyData.bool a).showable = true ∧ (PyData.bool a).depth ≤ 50 ∧ (PyData.bool a).shown.length ≤ sizeLine := by
  cases a <;> decide +kernel
theorem dp_bools {K : PySem.W.Frag} {H : Hp} {p : Addr} {a b c : Bool} (h : H p = some (.lst [.bl a, .bl b, .bl c])) : Dp K H (.ref p) (boolsD a b c) :=
  .lst (SqL.of h) (.cons (.bl a) (.cons (.bl b) (.cons (.bl c) .nil)))
theorem Tn.same {K : PySem.W.Frag} {H H' : Hp} {v : V} {n : String} (h : Tn K H v n) (s : Same H H') : Tn K H' v n := by
  cases h with
  | non => exact .non
  | bl b => exact .bl b
  | int i => exact .int i
  | str z => exact .str z
  | lst h => exact .lst (s _ _ h)
  | tup h => exact .tup (s _ _ h)
  | dct h => exact .dct (s _ _ h)
  | con e c => exact .con e c
/-- a number, and from lo to hi -/
theorem in_range {tn ta tb tc : TE} {σ : L2.St} {H : Hp} {Q : VK} {x : V} {lo hi : Int} (hn : ∀ R : VK, R (.bl (isNum x)) H → tn σ H R) (ha : ∀ R : VK, R (.int lo) H → ta σ H R) (hb : ∀ R : VK, R x H → tb σ H R)
    (hc : ∀ R : VK, R (.int hi) H → tc σ H R) (q : Q (.bl (wholeV lo hi x)) H) :
    tAndV tn (tChain (rI0 fun i j => V.bl (decide (i ≤ j))) (rI0 fun i j => V.bl (decide (i ≤ j))) ta tb tc) σ H Q := by
  refine hn _ ⟨_, rfl, ?_⟩
  cases e : isNum x with
  | true =>
    obtain ⟨i, rfl⟩ := num_int e
    refine iteT (ha _ (hb _ ⟨_, _, rfl, rfl, _, rfl, ?_⟩))
    by_cases h : lo ≤ i
    · rw [decide_eq_true h]
      refine iteT (hc _ ⟨_, _, rfl, rfl, ?_⟩)
      have e2 : wholeV lo hi (.int i) = decide (i ≤ hi) := by simp [wholeV, h]
      rw [e2] at q
      exact q
    · rw [decide_eq_false h]
      have e2 : wholeV lo hi (.int i) = false := by simp [wholeV, h]
      rw [e2] at q
      exact iteF q
  | false =>
    rw [whole_no e] at q
    exact iteF q
/-- a new list, a new tuple, a new list of two joined -/
theorem new_lst {H : Hp} {xs : List V} {R : V → Hp → Prop} (hz : xs.length ≤ sizeLine) (k : ∀ p H', H p = none → Same H H' → H' p = some (.lst xs) → R (.ref p) H') :
    xs.length ≤ sizeLine ∧ ∀ p, H p = none → R (.ref p) (L2.upd H p (.lst xs)) := ⟨hz, fun p hp => k p _ hp (Same.new hp) upd_same⟩
theorem new_tup {H : Hp} {xs : List V} {R : V → Hp → Prop} (hz : xs.length ≤ sizeLine) (k : ∀ p H', H p = none → Same H H' → H' p = some (.tup xs) → R (.ref p) H') :
    xs.length ≤ sizeLine ∧ ∀ p, H p = none → R (.ref p) (L2.upd H p (.tup xs)) := ⟨hz, fun p hp => k p _ hp (Same.new hp) upd_same⟩
theorem new_cat {H : Hp} {xs zs : List V} {R : V → Hp → Prop} (hz : xs.length + zs.length ≤ sizeLine) (k : ∀ p H', H p = none → Same H H' → H' p = some (.lst (xs ++ zs)) → R (.ref p) H') :
    xs.length + zs.length ≤ sizeLine ∧ ∀ p, H p = none → R (.ref p) (L2.upd H p (.lst (xs ++ zs))) := ⟨hz, fun p hp => k p _ hp (Same.new hp) upd_same⟩
/-- what stands at a new address -/
theorem at_new {H : Hp} {p : Addr} (_ : H p = none) (o : HO) : L2.upd H p o p = some o := upd_same
theorem same_new {H : Hp} {p : Addr} (h : H p = none) (o : HO) : Same H (L2.upd H p o) := Same.new h
theorem of_gen {H H' : Hp} {p : Addr} {o : HO} (h : L2.upd H p o = H') : H' p = some o := h ▸ upd_same
theorem same_gen {H H' : Hp} {p : Addr} {o : HO} (hp : H p = none) (h : L2.upd H p o = H') : Same H H' := h ▸ Same.new hp
/-- the law's own promise, as the head's end wants it -/
theorem law_end {P : Program} {w : World} {K : PySem.W.Frag} {h : Heap} {mg : Str → Option Value} {fa : Addr} {st : Stmt} {x : Str} {k : Nat} (X : K.In h) (G : h.Ns mainGlobals mg) (hfa : mg "law" = some (.ref fa)) (D : DefIn K "law" st)
    (hb : ∀ (kV doc pm : Value) (an : Option Addr) (cdv ct u : Value), bindArgs (PySem.W.fnOf "law" "law" (defArgs st) (defBody st) (defScope st) .none kV doc pm an cdv ct) ⟨[u], []⟩ = pure [(x, u)])
    (F : ∀ (f : Addr) (fd : FuncData) (base : Heap), Fun K "law" "law" st f fd → FnG P w K mg base CX0 k f fd [x] (spLaw K)) :
    ∃ fd : FuncData, (∀ (s : Shared) (u : Value), BindsTo s fd ⟨[u], []⟩ [(x, u)]) ∧ ∀ base : Heap, K.In base → base.Ns mainGlobals mg → FnG P w K mg base CX0 k fa fd [x] (spLaw K) := by
  obtain ⟨f, oc, od, an, sl, kV, dc, pm, cd, ct, a, l, c, kp⟩ := D.ex
  have e := hfa.symm.trans (PySem.W.mg_of X G a)
  cases e
  exact ⟨_, fun s u => .of_eq (hb _ _ _ _ _ _ u), fun base _ _ => F _ _ base (fun_mk l c kp)⟩
theorem DefIn.by {K : PySem.W.Frag} {x : Str} {st : Stmt} {f : Addr} {oc : Value} {od an : Option Addr} {sl : Array (Option Value)} {kV dc pm cd ct : Value} (a : PySem.W.nsIn K mainGlobals x = some (some (.ref f)))
    (l : K.lookup f = some ⟨oc, od, .func (PySem.W.fnOf x x (defArgs st) (defBody st) (defScope st) .none kV dc pm an cd ct), sl⟩) (c : PySem.W.codeIn K cd x = true) (k : PySem.W.keepIn K (.ref f) = true) : DefIn K x st :=
  ⟨f, oc, od, an, sl, kV, dc, pm, cd, ct, a, l, c, k⟩
theorem con_in {K : PySem.W.Frag} {x : Str} {n : Int} {t : Tok} (h : PySem.W.nsIn K mainGlobals x = some (some (.int n t))) : ∃ t, PySem.W.nsIn K mainGlobals x = some (some (.int n t)) := ⟨t, h⟩
/-- a thing of another kind, new, one of those told -/
def spOdd (ds : List PyData) : Sp := fun vs H Q _ => ∃ (p : Addr) (n : Nat), vs = [.ref p] ∧ Pz H p (n + 1) ∧
  ∀ (v : V) (d : PyData) (H' : Hp), d ∈ ds → But p H H' → Pz H' p n → Dq (fun a => H a = none) H' v d → Q v H'
end Vg
set_option exponentiation.threshold 3000
namespace Vg
open PySem PySem.Spec PyProof.Rows L2
theorem takes_no {X : Cx} : Takes X (fun _ _ _ _ => False) := by
  rintro u s' ⟨a, B, sI, pins, σ, H, cls, d, e, I, nb, up, sky, na, os, ag, w⟩
  exact w.elim
/-- one figure, as both looks ask for it -/
def digQ (c : Nat) : Bool := if (!decide ((⟨#[c]⟩ : Str).cps.toList < ("0" : Str).cps.toList)) = true then !decide (("9" : Str).cps.toList < (⟨#[c]⟩ : Str).cps.toList) else false
theorem one_lt {a b : Nat} : ([a] : List Nat) < [b] ↔ a < b := by
  constructor
  · intro h
    cases h with
    | rel h => exact h
    | cons h => cases h
  · exact fun h => List.Lex.rel h
theorem digQ_iff {c : Nat} : digQ c = true ↔ 48 ≤ c ∧ c ≤ 57 := by
  have h0 : ("0" : Str).cps.toList = [48] := by decide +kernel
  have h9 : ("9" : Str).cps.toList = [57] := by decide +kernel
  unfold digQ
  rw [h0, h9]
  by_cases a : c < 48
  · rw [decide_eq_true (one_lt.mpr a)]
    simp
    omega
  · rw [decide_eq_false (fun z => a (one_lt.mp z))]
    by_cases b : 57 < c
    · rw [decide_eq_true (one_lt.mpr b)]
      simp
      omega
    · rw [decide_eq_false (fun z => b (one_lt.mp z))]
      simp
      omega
theorem all_digits {cs : List Nat} (h : cs.all digQ = true) : NumText.AllDigits cs := fun c hc => digQ_iff.mp (List.all_eq_true.mp h c hc)
/-- the figures of a text, behind a sign that may stand there -/
def figL (cs : List Nat) : List Nat := if cs.take 1 = [45] then cs.drop 1 else cs
/-- the whole number that a text writes -/
def numT (cs : List Nat) : Option Int :=
  if 1 ≤ (figL cs).length ∧ (figL cs).length ≤ 30 then
    if (figL cs).all digQ = true then
      if (figL cs).take 1 = [48] ∧ cs ≠ [48] then none
      else some (if cs.take 1 = [45] then -((NumText.digitsVal (figL cs) : Nat) : Int) else ((NumText.digitsVal (figL cs) : Nat) : Int))
    else none
  else none
def optV : Option Int → V
  | some n => .int n
  | none => .non
def resV : V → V
  | .str z => optV (numT z.cps.toList)
  | _ => .non
def spNumOf (K : PySem.W.Frag) : Sp := fun vs H Q _ => ∃ (v : V) (n : String), vs = [v] ∧ Tn K H v n ∧ (∀ z, v = .str z → z.length ≤ 100000 ∧ PyData.strOk z = true) ∧ ∀ H', Same H H' → Q (resV v) H'
theorem str_len (z : Str) : z.length = z.cps.toList.length := by simp [Str.length]
theorem str_ext {x y : Str} (h : x.cps.toList = y.cps.toList) : x = y := TL.ext_tl h
theorem str_eq_iff {x : Str} {y : Str} {l : List Nat} (h : y.cps.toList = l) : (V.str x = V.str y) ↔ x.cps.toList = l := by
  constructor
  · intro e
    injection e with e
    rw [e, h]
  · intro e
    rw [str_ext (e.trans h.symm)]
theorem cut_from {z : Str} : (cutS z (some 1) none).cps.toList = z.cps.toList.drop 1 := by
  show (((z.cps.toList.drop (HT.sIx z.length 0 (some ((1 : Nat) : Int)))).take (HT.sIx z.length z.length none - HT.sIx z.length 0 (some ((1 : Nat) : Int)))).toArray).toList = _
  rw [HT.sIx_nat, HT.sIx_none, str_len]
  simp only [List.toList_toArray]
  cases z.cps.toList with
  | nil => rfl
  | cons a r =>
    simp
theorem cut_to {z : Str} : (cutS z none (some 1)).cps.toList = z.cps.toList.take 1 := by
  show (((z.cps.toList.drop (HT.sIx z.length 0 none)).take (HT.sIx z.length z.length (some ((1 : Nat) : Int)) - HT.sIx z.length 0 none)).toArray).toList = _
  rw [HT.sIx_nat, HT.sIx_none, str_len]
  simp only [List.toList_toArray, List.drop_zero, Nat.sub_zero]
  cases z.cps.toList with
  | nil => rfl
  | cons a r => simp
theorem prefix_off {z : Str} : (Txt.removeprefix z "-").cps.toList = figL z.cps.toList := by
  rw [StrLaws.removeprefix_eq, StrLaws.subAt_eq]
  have h1 : ("-" : Str).length = 1 := by decide +kernel
  have h2 : ("-" : Str).cps.toList = [45] := by decide +kernel
  rw [h1, h2, List.drop_zero]
  unfold figL
  by_cases h : z.cps.toList.take 1 = [45]
  · rw [if_pos h, h]
    have hl : 0 + 1 ≤ z.length := by
      rw [str_len]
      cases e : z.cps.toList with
      | nil => rw [e] at h; cases h
      | cons a r => simp
    rw [decide_eq_true hl]
    simp only [BEq.rfl, Bool.and_self, if_true, List.toList_toArray]
    rw [List.take_of_length_le]
    rw [List.length_drop, str_len]
    exact Nat.le_refl _
  · rw [if_neg h]
    rw [if_neg]
    intro e
    have e2 := (Bool.and_eq_true_iff.mp e).2
    exact h (eq_of_beq e2)
theorem figL_neg {cs : List Nat} (h : cs.take 1 = [45]) : cs = 45 :: figL cs := by
  unfold figL
  rw [if_pos h]
  cases cs with
  | nil => cases h
  | cons a r =>
    simp at h
    subst h
    rfl
theorem figL_pos {cs : List Nat} (h : ¬ cs.take 1 = [45]) : figL cs = cs := by
  unfold figL
  rw [if_neg h]
/-- int(text) of such a text -/
theorem int_of {z : Str} {n : Int} (h : numT z.cps.toList = some n) : PySem.intText? z = some n ∧ z.length ≤ 640 := by
  unfold numT at h
  split at h
  · rename_i hl
    split at h
    · rename_i hd
      split at h
      · cases h
      · injection h with h
        have hd' := all_digits hd
        have hne : figL z.cps.toList ≠ [] := fun e => by rw [e] at hl; simp at hl
        by_cases hs : z.cps.toList.take 1 = [45]
        · rw [if_pos hs] at h
          have e := figL_neg hs
          have hz : z.length ≤ 640 := by
            rw [str_len, e, List.length_cons]
            omega
          exact ⟨h ▸ PySem.intText_neg e hd' hne (by omega), hz⟩
        · rw [if_neg hs] at h
          have e := figL_pos hs
          have hz : z.length ≤ 640 := by
            rw [str_len, ← e]
            omega
          rw [e] at hd' hne h
          exact ⟨h ▸ PySem.intText_digits hd' hne (by omega), hz⟩
    · cases h
  · cases h
theorem digits_lt {cs : List Nat} (h : NumText.AllDigits cs) : NumText.digitsVal cs < 10 ^ cs.length := by
  have g : ∀ (cs : List Nat) (a : Nat), NumText.AllDigits cs → cs.foldl (fun acc c => acc * 10 + (c - 48)) a < (a + 1) * 10 ^ cs.length := by
    intro cs
    induction cs with
    | nil => intro a _; simp
    | cons c cs ih =>
      intro a h
      have hc := h.head
      have := ih (a * 10 + (c - 48)) h.tail
      simp only [List.foldl_cons, List.length_cons, Nat.pow_succ]
      refine Nat.lt_of_lt_of_le this ?_
      have h1 : a * 10 + (c - 48) + 1 ≤ (a + 1) * 10 := by omega
      calc (a * 10 + (c - 48) + 1) * 10 ^ cs.length ≤ ((a + 1) * 10) * 10 ^ cs.length := Nat.mul_le_mul_right _ h1
        _ = (a + 1) * (10 ^ cs.length * 10) := by rw [Nat.mul_assoc, Nat.mul_comm 10]
  have := g cs 0 h
  simpa [NumText.digitsVal] using this
theorem index_digit {c : Nat} (h : 48 ≤ c ∧ c ≤ 57) : Txt.index0 "0123456789" ⟨#[c]⟩ = some (c - 48) := by
  have hc : c = 48 ∨ c = 49 ∨ c = 50 ∨ c = 51 ∨ c = 52 ∨ c = 53 ∨ c = 54 ∨ c = 55 ∨ c = 56 ∨ c = 57 := by omega
  rcases hc with rfl | rfl | rfl | rfl | rfl | rfl | rfl | rfl | rfl | rfl <;> decide +kernel
theorem digitsVal_snoc {cs : List Nat} {c : Nat} : NumText.digitsVal (cs ++ [c]) = NumText.digitsVal cs * 10 + (c - 48) := by
  unfold NumText.digitsVal
  rw [List.foldl_append]
  rfl
theorem kit_strV {K : PySem.W.Frag} {H : Hp} {v : V} {n : String} (h : Tn K H v n) : ∃ b, kitB n "str" = some b ∧ (b = true → ∃ z, v = .str z) ∧ (b = false → resV v = .non) := by
  cases h with
  | str z => exact ⟨true, by decide +kernel, fun _ => ⟨z, rfl⟩, fun z => Bool.noConfusion z⟩
  | non => exact ⟨false, by decide +kernel, fun z => Bool.noConfusion z, fun _ => rfl⟩
  | bl b => exact ⟨false, by decide +kernel, fun z => Bool.noConfusion z, fun _ => rfl⟩
  | int i => exact ⟨false, by decide +kernel, fun z => Bool.noConfusion z, fun _ => rfl⟩
  | lst h => exact ⟨false, by decide +kernel, fun z => Bool.noConfusion z, fun _ => rfl⟩
  | tup h => exact ⟨false, by decide +kernel, fun z => Bool.noConfusion z, fun _ => rfl⟩
  | dct h => exact ⟨false, by decide +kernel, fun z => Bool.noConfusion z, fun _ => rfl⟩
  | con e c => exact ⟨false, by decide +kernel, fun z => Bool.noConfusion z, fun _ => rfl⟩
theorem bools_dig {xs : List Nat} : (xs.map digQ).all id = xs.all digQ := by
  induction xs with
  | nil => rfl
  | cons x xs ih => simp [List.all_cons]
theorem num_short {z : Str} (h : ¬ (1 ≤ (figL z.cps.toList).length ∧ (figL z.cps.toList).length ≤ 30)) : resV (.str z) = .non := by
  show optV (numT z.cps.toList) = .non
  unfold numT
  rw [if_neg h]
  rfl
theorem num_sign {z : Str} (h : (figL z.cps.toList).all digQ = false) : resV (.str z) = .non := by
  show optV (numT z.cps.toList) = .non
  unfold numT
  split
  · rw [if_neg (by rw [h]; exact Bool.false_ne_true)]
    rfl
  · rfl
theorem num_zero {z : Str} (h : (figL z.cps.toList).take 1 = [48] ∧ z.cps.toList ≠ [48]) : resV (.str z) = .non := by
  show optV (numT z.cps.toList) = .non
  unfold numT
  rw [if_pos h]
  split
  · split <;> rfl
  · rfl
theorem num_is {z : Str} (hl : 1 ≤ (figL z.cps.toList).length ∧ (figL z.cps.toList).length ≤ 30) (hd : (figL z.cps.toList).all digQ = true) (h0 : ¬ ((figL z.cps.toList).take 1 = [48] ∧ z.cps.toList ≠ [48])) :
    numT z.cps.toList = some (if z.cps.toList.take 1 = [45] then -((NumText.digitsVal (figL z.cps.toList) : Nat) : Int) else ((NumText.digitsVal (figL z.cps.toList) : Nat) : Int)) := by
  unfold numT
  rw [if_pos hl, if_pos hd, if_neg h0]
theorem first_sign {z : Str} (h : 1 ≤ z.cps.toList.length) : ∃ c, atI z.cps.toList 0 = some c ∧ z.cps.toList.take 1 = [c] := by
  cases e : z.cps.toList with
  | nil => rw [e] at h; simp at h
  | cons a r => exact ⟨a, (show atI (a :: r) ((0 : Nat) : Int) = some a from atI_nat rfl), by simp⟩
/-- a text with a sign or two otherwise -/
def spNear : Sp := fun vs H Q _ => ∃ (p : Addr) (z : Str) (m n : Nat), vs = [.ref p, .str z] ∧ Tx m z ∧ m ≤ 1000 ∧ Pz H p (n + 7) ∧
  ∀ (y : Str) (H' : Hp), Tx (m + 2) y → But p H H' → Pz H' p n → Q (.str y) H'
theorem Tx.fits {n : Nat} {z : Str} (h : Tx n z) (hn : n ≤ 100000) : z.length ≤ sizeLine := Nat.le_trans h.length (Nat.le_trans hn (by decide))
theorem Tx.fits2 {n m : Nat} {x y : Str} (h : Tx n x) (k : Tx m y) (hn : n + m ≤ 100000) : x.length + y.length ≤ sizeLine := by
  have h1 := h.length
  have h2 := k.length
  exact Nat.le_trans (show _ ≤ 100000 by omega) (by decide)
/-- the cut pieces of a text, as long together as it is -/
theorem cut_two {n : Nat} {z : Str} (h : Tx n z) {k : Int} (h0 : 0 ≤ k) (d : Nat) : Tx n (cutS z none (some k) ++ cutS z (some (k + (d : Int))) none) := by
  refine ⟨?_, fun c hc => ?_⟩
  · rw [toList_app, List.length_append]
    obtain ⟨j, rfl⟩ : ∃ j : Nat, k = (j : Int) := ⟨k.toNat, by omega⟩
    have e1 : (cutS z none (some ((j : Nat) : Int))).cps.toList = (z.cps.toList.drop (HT.sIx z.length 0 none)).take (HT.sIx z.length z.length (some ((j : Nat) : Int)) - HT.sIx z.length 0 none) := by simp [cutS]
    have e2 : (cutS z (some ((j : Int) + (d : Int))) none).cps.toList = (z.cps.toList.drop (HT.sIx z.length 0 (some ((j + d : Nat) : Int)))).take (HT.sIx z.length z.length none - HT.sIx z.length 0 (some ((j + d : Nat) : Int))) := by
      simp [cutS]
    rw [e1, e2, HT.sIx_nat, HT.sIx_nat, HT.sIx_none, HT.sIx_none, str_len]
    have := h.len
    simp only [List.length_take, List.length_drop]
    omega
  · rw [toList_app] at hc
    rcases List.mem_append.mp hc with hc | hc
    · exact (h.cut _ _).ok c hc
    · exact (h.cut _ _).ok c hc
theorem cut_three {n : Nat} {z s : Str} (h : Tx n z) (hs : Tx 1 s) {k : Int} (h0 : 0 ≤ k) (d : Nat) : Tx (n + 1) (cutS z none (some k) ++ s ++ cutS z (some (k + (d : Int))) none) := by
  have h2 := cut_two h h0 d
  have l2 := h2.len
  have ls := hs.len
  refine ⟨?_, fun c hc => ?_⟩
  · rw [toList_app, List.length_append] at l2
    rw [toList_app, toList_app, List.length_append, List.length_append]
    omega
  · rw [toList_app, toList_app] at hc
    rcases List.mem_append.mp hc with hc | hc
    · rcases List.mem_append.mp hc with hc | hc
      · exact (h.cut _ _).ok c hc
      · exact hs.ok c hc
    · exact (h.cut _ _).ok c hc
/-- name = an expression that gives one of some values, making nothing -/
theorem sq_val {te : TE} {i : Nat} {u : TS} {D : Ends} {σ : L2.St} {H : Hp} (Pr : V → Prop) (h : ∀ R : VK, (∀ v, Pr v → R v H) → te σ H R) (k : ∀ v, Pr v → u D (σ.set i (some v)) H) : tSeq (tAsg te (gName i)) u D σ H := h _ k
theorem filter_dig {xs : List Nat} : (xs.filter fun c => !digQ c).isEmpty = xs.all digQ := filter_empty
theorem nxt {D : Ends} {σ : L2.St} {H : Hp} (h : D.nx σ H) : tNext D σ H := h
theorem pow_lt {a b : Nat} {m : Nat} (h : a < 10 ^ b) (hb : b ≤ m) : a < 10 ^ m := Nat.lt_of_lt_of_le h (Nat.pow_le_pow_right (by decide) hb)
/-- if c: .. and what stands behind it, the test's answer known -/
theorem sq_if {c : TT} {t r : TS} {D : Ends} {σ : L2.St} {H : Hp} (b : Bool) (h : ∀ R : Bool → Hp → Prop, R b H → c σ H R) (ht : b = true → t { D with nx := r D } σ H) (hu : b = false → r D σ H) : tSeq (tIfS c t tNext) r D σ H := by
  refine h _ ?_
  cases b with
  | true => exact iteT (ht rfl)
  | false => exact iteF (hu rfl)
theorem numT_lt {cs : List Nat} {n : Int} (h : numT cs = some n) : n.natAbs < 10 ^ 30 := by
  unfold numT at h
  split at h
  · rename_i hl
    split at h
    · rename_i hd
      split at h
      · cases h
      · injection h with h
        have := pow_lt (digits_lt (all_digits hd)) hl.2
        split at h <;> omega
    · cases h
  · cases h
theorem log_lt {n : Nat} (h : n < 10 ^ 30) : n.log2 < 1920 := by
  by_cases h0 : n = 0
  · subst h0
    decide
  · have : n < 2 ^ 1920 := Nat.lt_of_lt_of_le h (by decide)
    exact (Nat.log2_lt h0).mpr this
theorem res_text (v : V) : ∃ d : PyData, (∀ (K : PySem.W.Frag) (H : Hp), Dp K H (resV v) d) ∧ d.showable = true ∧ d.depth ≤ 50 ∧ d.shown.length ≤ sizeLine := by
  have none' : ∃ d : PyData, (∀ (K : PySem.W.Frag) (H : Hp), Dp K H .non d) ∧ d.showable = true ∧ d.depth ≤ 50 ∧ d.shown.length ≤ sizeLine := ⟨.none, fun _ _ => .non, by decide +kernel, by decide +kernel, by decide +kernel⟩
  cases v with
  | str z =>
    show ∃ d : PyData, (∀ (K : PySem.W.Frag) (H : Hp), Dp K H (optV (numT z.cps.toList)) d) ∧ _
    cases e : numT z.cps.toList with
    | none => exact none'
    | some n =>
      have hb := log_lt (numT_lt e)
      refine ⟨.int n, fun _ _ => .int n, ?_, by simp [PyData.depth], ?_⟩
      · simp only [PyData.showable]
        exact decide_eq_true hb
      · simp only [PyData.shown]
        exact int_text_fits hb
  | _ => exact none'
theorem char_lt (c : Char) : c.toNat < 1114112 := by
  have h := c.valid
  have e : c.toNat = c.val.toNat := rfl
  rw [e]
  rcases h with h | ⟨_, h⟩
  · have h' : c.val.toNat < 55296 := h
    omega
  · exact h
theorem tx_of (s : String) : Tx s.length (Str.ofString s) := by
  refine ⟨?_, fun c hc => ?_⟩
  · rw [← str_len, PySem.ofString_length]
    exact Nat.le_refl _
  · rw [Str.ofString_eq_toList] at hc
    simp only [List.toList_toArray] at hc
    obtain ⟨d, _, rfl⟩ := List.mem_map.mp hc
    exact char_lt d
theorem tx_int {i : Int} (h : i.natAbs < 10 ^ 30) : Tx 31 (Str.ofString (toString i)) := (tx_of _).mono (int_text_length_le10 (by decide) h)
end Vg
namespace Vg
open PySem PySem.Spec PyProof.Rows L2
/-- the reading of a suite, by the exception, its class, its dict -/
abbrev Sut := Addr → Value → Option Addr → TS
/-- behind a suite its name is gone -/
def goneD (i : Nat) (D : Ends) : Ends :=
  { nx := fun σ H => D.nx (σ.set i none) H, rt := D.rt, bk := fun σ H => D.bk (σ.set i none) H, ct := fun σ H => D.ct (σ.set i none) H }
/-- what some named clauses wish of an exception; no other may come -/
def wNamed (K : PySem.W.Frag) (D : Ends) : List (Value × Nat × Sut) → WX
  | [] => fun _ _ _ _ => False
  | (c, i, ts) :: r => fun cls d σ H => ∃ b, PySem.W.exmOne K cls c = some b ∧
      (b = true → ∀ a, H a = none → ts a cls d (goneD i D) (σ.set i (some (.ref a))) H) ∧ (b = false → wNamed K D r cls d σ H)
/-- clauses «except x as n»; those behind the ones that are told aren't reached -/
inductive Nh (X : Cx) : List ExceptHandler → List (Value × Nat × Sut) → Prop
  | never (hs : List ExceptHandler) : Nh X hs []
  | cons {x n : Str} {c : Value} {i : Nat} {ts : Sut} {st : Stmt} {more : List Stmt} {np p : Pos} {hs : List ExceptHandler} {l : List (Value × Nat × Sut)}
      (hi : X.N[i]? = some n) (hln : X.env.kindOf n = some .local) (hc : Names X x c)
      (hsu : ∀ (a : Addr) (oe : Obj) (cls : Value) (d : Option Addr) (pn : List (Addr × Obj)), Zc cls d oe → (∃ vs, oe.data = .fields vs) → PSs (X.suite a ((a, oe) :: pn)) (st :: more) (ts a cls d))
      (r : Nh X hs l) : Nh X (.ExceptHandler (some (.Name x np)) (some n) (st :: more) p :: hs) ((c, i, ts) :: l)
theorem ps_try_named {X : Cx} {body : List Stmt} {h0 : ExceptHandler} {hds : List ExceptHandler} {l : List (Value × Nat × Sut)} {pos : Pos} {tb : WX → TS}
    (hs : X.stack = X.env :: X.outer) (hf : X.env.frame = some X.env.locals) (hN : X.N.Nodup)
    (hb : ∀ (W : WX) (pn : List (Addr × Obj)) (xe : Value → Shared → Prop), Takes (X.tr pn xe) W → PassesOwn (model X.prog X.w) X.A X.env xe → PSs (X.tr pn xe) body (tb W))
    (hh : Nh X (h0 :: hds) l) : PS X (.Try body (h0 :: hds) [] [] pos) (fun D σ H => tb (wNamed X.K D l) D σ H) := by
  constructor
  intro pins s σ H D I h
  have ok := I.ok
  have frames : X.A.frames = some (X.env :: X.outer) := hs ▸ ok.frames
  apply wpAny_Try_except
  let catch' : Value → Shared → Prop := fun e t =>
    wpAny (model X.prog X.w) X.A (noteFrame e X.env) (fun _ t2 =>
      wpAny (model X.prog X.w) X.A (setFlight e none) (fun _ t3 =>
        wpAny (model X.prog X.w) X.A (handleBy e X.env (h0 :: hds)) (SP X pins D) X.xe t3) X.xe t2) X.xe t
  have caught : Takes (X.tr (X.pn ++ pins) catch') (wNamed X.K D l) := by
    rintro u t ⟨a, B, sI, pins1, σ1, H1, cls, d, rfl, J0, nb, up, sky, na, os, ag, w⟩
    have J1 : Inv X pins σ1 H1 sI := J0.ofTry ok
    have skyF : Sky B (X.env :: X.outer) a (Zc cls d) X.env.locals t.heap := hs ▸ sky
    refine Sky.land Zc.steady frames hf skyF ?_
    intro g fl upg
    have Jg : Inv X pins σ1 H1 { t with heap := g } := J1.landed nb fl.1 (up.trans upg) os ag
    obtain ⟨oe, fv, geta, hz, hd⟩ := fl.there
    have apart : a ∉ frs (X.env :: X.outer) := by
      intro hm
      obtain ⟨_, o2, e2, nofields⟩ := fl.2.2.1.mem hm
      rw [geta] at e2
      cases e2
      exact nofields _ hd
    have noLoc : a ≠ X.env.locals := by
      rintro rfl
      exact apart (List.mem_filterMap.mpr ⟨X.env, List.mem_cons_self, hf⟩)
    have noFs : a ∉ X.fs := by
      intro hm
      obtain ⟨en, hen, q⟩ := List.mem_filterMap.mp hm
      exact apart (List.mem_filterMap.mpr ⟨en, List.mem_cons_of_mem _ hen, q⟩)
    have Sg := Jg.suite geta hd na noLoc noFs
    have walkH : ∀ {hl : List ExceptHandler} {l1 : List (Value × Nat × Sut)}, Nh X hl l1 → wNamed X.K D l1 cls d σ1 H1 →
        wpAny (model X.prog X.w) X.A (handleBy (.ref a) X.env hl) (SP X pins D) X.xe { t with heap := g } := by
      intro hl l1 nh
      induction nh with
      | never _ => exact fun w => False.elim w
      | @cons x n c i ts st more np p hs2 l2 hi hln hc hsu _ ih =>
        rintro ⟨b, exm, yes, no⟩
        refine wpAny_handleBy_cons (codeAny_handlers_test ?_) (fun q => nomatch q)
        have looks : PySem.W.Looks (model X.prog X.w) g (typeOf (.ref a)) cls := by
          intro A Q E s2 k q
          exact wpAny_typeOf_ref (k _ _ geta) (hz.1.symm ▸ q)
        have asks := PySem.W.exm_one (M := model X.prog X.w) Jg.kIn looks exm
        have name : ∀ {Q E : Value → Shared → Prop}, Q c { t with heap := g } →
            wpAny (model X.prog X.w) (X.A.mark (some (.ref a))) (eval (.Name x np) X.env) Q E { t with heap := g } := by
          intro Q E q
          obtain ⟨gl, dbg, own | ⟨free, bt, nn⟩⟩ := hc
          · exact ld_glob (X := X.suite a ((a, oe) :: (X.pn ++ pins))) Sg gl own q dbg
          · exact ld_blt (X := X.suite a ((a, oe) :: (X.pn ++ pins))) Sg gl free bt q nn dbg
        refine name (asks.here ?_)
        cases b with
        | false => exact ih (no rfl)
        | true =>
          apply codeAny_handlers_suite_as
          refine HandSPX.lands_againZ fl ?_
          intro g2 fl2 up2
          have Jg2 : Inv X pins σ1 H1 { t with heap := g2 } := J1.landed nb fl2.1 ((up.trans upg).trans up2) os ag
          obtain ⟨oe2, fv2, geta2, hz2, hd2⟩ := fl2.there
          have Sg2 := Jg2.suite geta2 hd2 na noLoc noFs
          refine store_ok (X := X.suite a ((a, oe2) :: (X.pn ++ pins))) (v := .ref a) Sg2 hN hi (Or.inl hln) rfl ?_ (Or.inr hln)
          intro s5 S5
          refine wpAny_mono ((hsu a oe2 cls d (X.pn ++ pins) hz2 ⟨_, hd2⟩).run [] s5 _ H1 _ S5 (yes rfl a na)) ?_ (fun _ _ z => False.elim z)
          intro f s6 hsp
          have leave : ∀ {σ6 : L2.St} {H6 : Hp} {Q : Shared → Prop}, Inv (X.suite a ((a, oe2) :: (X.pn ++ pins))) [] σ6 H6 s6 →
              (∀ s7, Inv X pins (σ6.set i none) H6 s7 → Q s7) →
              wpAny (model X.prog X.w) X.A (do bindName X.env n .none; unbindBehindTheSuite X.env n p) (fun _ s7 => Q s7) X.xe s6 := by
            intro σ6 H6 Q S6 hq
            exact gone_ok (S6.unsuite ok) hN hi hln hq
          match f, hsp with
          | .next, ⟨σ6, H6, S6, q6⟩ => exact leave S6 fun s7 J7 => ⟨_, _, J7, q6⟩
          | .brk, ⟨σ6, H6, S6, q6⟩ => exact leave S6 fun s7 J7 => ⟨_, _, J7, q6⟩
          | .cont, ⟨σ6, H6, S6, q6⟩ => exact leave S6 fun s7 J7 => ⟨_, _, J7, q6⟩
          | .ret u, ⟨v6, σ6, H6, S6, r6, q6⟩ => exact leave S6 fun s7 J7 => ⟨_, _, _, J7, r6, q6⟩
    exact walkH hh w
  refine wpAny_mono ((hb (wNamed X.K D l) (X.pn ++ pins) catch' caught PassesOwn.looking).run [] s σ H D (I.toTry _) h) ?_ (fun e t he => he)
  intro f t hsp
  match f, hsp with
  | .next, ⟨σ1, H1, J, q⟩ => exact wpAny_execs_nil ⟨σ1, H1, J.ofTry ok, q⟩
  | .brk, ⟨σ1, H1, J, q⟩ => exact ⟨σ1, H1, J.ofTry ok, q⟩
  | .cont, ⟨σ1, H1, J, q⟩ => exact ⟨σ1, H1, J.ofTry ok, q⟩
  | .ret u, ⟨v, σ1, H1, J, r, q⟩ => exact ⟨v, σ1, H1, J.ofTry ok, r, q⟩
/-! ## the classes of the program's own exceptions -/
/-- C.m as a function of the class at C -/
structure ClsFn (K : PySem.W.Frag) (C : Addr) (m : Str) (f : Addr) : Prop where
  ga : PySem.W.specialIn K (.ref C) "__getattribute__" = some (some (.builtin "type.__getattribute__"))
  rd : PySem.W.readsIn K C (.type "type") = true
  fc : PySem.W.findCls K (.ref C) (.type "type") m = some (.val (.ref f))
  kp : PySem.W.keepIn K (.ref f) = true
/-- C.m(e, ..), C a class of the module -/
theorem pe_clsfn {X : Cx} {CX : CXT} {k : Nat} {C f : Addr} {fd : FuncData} {ps : List Str} {sp : Sp} {E : XK} {x m : Str} {p p2 pos : Pos} {e : Expr} {es : List Expr} {t : TA} {pl : Sem Bool}
    (c : ClsFn X.K C m f) (F : FnOk X.prog X.w X.K X.mg X.base CX k f fd ps sp) (hr : Room k X.A) (hg : Gl X x) (hm : X.mg x = some (.ref C)) (hb : Binds X.K fd ps []) (hx : Passes CX X E) (ha : PA X (e :: es) t)
    (hc : eval (.Call (.Attribute (.Name x p) m p2) (e :: es) [] pos) X.env = (do
      let ov ← eval (.Name x p) X.env
      standAt p2.atName
      let (g, first) ← holding [ov] (getMethod ov m pl)
      callWith pos g first (backTo pos (starEach (e :: es) X.env)) (backToKw pos (keywordEach [] X.env))) := by rfl)
    (hdb : (x == ("__debug__" : Str)) = false := by decide) (he : starEach (e :: es) X.env = (false, eval e X.env) :: starEach es X.env := by rfl)
    (hpl : (backTo pos (starEach es X.env)).any (·.1) = false := by rfl) :
    PE X (.Call (.Attribute (.Name x p) m p2) (e :: es) [] pos) (tCall sp [] E t) := by
  constructor
  intro pins s σ H Q I h
  refine PySem.W.methodCall_KW (ld_glob I hg hm ?_ hdb) hc
  refine PySem.W.method_cls I.kIn c.ga ?_
  refine PySem.W.cls_value I.kIn c.rd c.fc rfl ?_
  refine PySem.W.callWith_K (h₀ := X.base) I.ok.mod.kin c.kp ?_ he hpl
  refine thn (ha.run pos pins _ σ H _ (I.tok _) h) ?_
  rintro us s1 ⟨vs, H1, I1, r, q⟩
  exact ⟨I1.kIn, run_fn F hr hb .nil hx I1 r q⟩
end Vg
namespace Vg
open PySem PySem.Spec PyProof.Rows L2
/-! ## isinstance of a caught exception of an own class, with its dict -/
def rIsX (K : PySem.W.Frag) (D a : Addr) (cls : Value) (d : Option Addr) : List V → Hp → VK → Prop := fun xs H Q =>
  ∃ (c : V) (cv : Value) (b : Bool) (dd : Addr) (fs : List (Str × V)), xs = [.ref a, c] ∧ (∀ u, RelV c u → u = cv) ∧ cls = .ref D ∧ d = some dd ∧ H dd = some (.xd fs) ∧ PySem.W.kitOne K (.ref D) cv = some b ∧ Q (.bl b) H
theorem call_isX {X : Cx} {a D : Addr} {cls : Value} {d : Option Addr} {oe : Obj} {pn : List (Addr × Obj)} (C : ExcC X.K D) (hz : Zc cls d oe) (hf : ∃ vs, oe.data = .fields vs) : CallR (X.suite a ((a, oe) :: pn)) (.builtin "isinstance") (rIsX X.K D a cls d) := by
  intro pins s σ H xs us Q I r h
  obtain ⟨c, cv, b, dd, fs, rfl, hcv, rfl, rfl, hdd, e, q⟩ := h
  cases r with
  | cons rx rr =>
    cases rr with
    | cons rt rr =>
      cases rr
      cases rx
      have ec := hcv _ rt
      subst ec
      obtain ⟨hget, _⟩ := I.pin (a, oe) (List.mem_append.mpr (.inl List.mem_cons_self))
      obtain ⟨vs, hv⟩ := hf
      have hx : ObjOk X.prog X.w H s.heap dd (.xd fs) := I.hok dd _ hdd
      obtain ⟨mA, hns, _⟩ := hx
      obtain ⟨od, ho, _⟩ := lookIn_ns hns
      have J : PySem.W.InstAt s.heap a oe D (some od) := ⟨hget, hz.1, by unfold PySem.W.notCls; rw [hv] <;> rfl, by rw [hz.2]; exact ho⟩
      obtain ⟨cd, hc, _⟩ := PySem.W.any_some C.hd
      exact PySem.W.kia_one (PySem.W.kitx_exc (by rw [hc]; rfl) C.hg C.hk C.hs C.ha C.hn C.ht C.hm) I.kIn J e (fun z => nomatch z) fun tk => ⟨.bl b, H, I.kept (t' := tk) fun _ _ z => z, rfl, q⟩
/-! ## the program's own classes of errors -/
/-- the class that the module's name x stands for -/
def clsA (K : PySem.W.Frag) (x : Str) : Addr := match PySem.W.nsIn K mainGlobals x with
  | some (some (.ref C)) => C
  | _ => 0
theorem clsA_of {K : PySem.W.Frag} {x : Str} {C : Addr} (h : PySem.W.nsIn K mainGlobals x = some (some (.ref C))) : clsA K x = C := by
  unfold clsA
  rw [h]
/-- the def named m within a class -/
def methOf (m : Str) : Stmt → Stmt
  | .ClassDef (body := b) .. => (b.find? fun s => match s with
    | .FunctionDef n .. => decide (n = m)
    | _ => false).getD (.Pass ⟨0, 0, 0, 0⟩)
  | s => s
/-- TermError.__init__ of an exception that is being made -/
def spTI (K : PySem.W.Frag) : Sp := fun vs H Q _ => ∃ (a C : Addr) (z : Str), vs = [.ref a, .str z] ∧ OexC K C ∧ H a = some (exo a C none) ∧ Q .non H
/-- C.__init__ of one field -/
def spXI (C : Addr) (f : Str) : Sp := fun vs H Q _ => ∃ (a : Addr) (v : V), vs = [.ref a, v] ∧ H a = some (exo a C none) ∧
  ∀ dx, H dx = none → dx ≠ a → Q .non (upd (upd H dx (exd dx [(f, v)])) a (exo a C (some dx)))
/-- a class of errors with one field, as the module knows it -/
structure Xk (P : Program) (w : World) (K : PySem.W.Frag) (mg : Str → Option Value) (base : Heap) (x f : Str) : Prop where
  hm : mg x = some (.ref (clsA K x))
  O : OexC K (clsA K x)
  E : ExcC K (clsA K x)
  xf : XfC K (clsA K x)
  no : PySem.W.findIn K (.ref (clsA K x)) f = some none
  init : ∃ (fI : Addr) (fd : FuncData) (ps : List Str), PySem.W.findIn K (.ref (clsA K x)) "__init__" = some (some (.ref fI)) ∧ PySem.W.typeIn K (.ref fI) = some (.type "function") ∧
    Binds K fd ps [] ∧ FnOk P w K mg base CX0 2 fI fd ps (spXI (clsA K x) f)
theorem pa_up {X : Cx} {es : List Expr} {t : TA} (h : PA X es t) : PA X es (fun σ H Q => ∃ R, t σ H R ∧ ∀ vs H', R vs H' → Q vs H') := by
  constructor
  intro pos pins s σ H Q I ⟨R, h1, h2⟩
  exact thn (h.run pos pins s σ H R I h1) fun us s1 ⟨vs, H1, I1, r, q⟩ => ⟨vs, H1, I1, r, h2 _ _ q⟩
theorem rais_ok {W : XK} {C : Addr} {f : Str} {H1 : Hp} {v : V} (k : ∀ d H2, Same H1 H2 → H2 d = some (.xd [(f, v)]) → W (.ref C) (some d) H2) :
    ([v] : List V).length ≤ 1000 ∧ ∀ a, H1 a = none → spXI C f (.ref a :: ([v] ++ [])) (upd H1 a (exo a C none))
      (fun u H2 => u = .non ∧ ∃ (d : Addr) (fs : List (Str × V)), H2 a = some (exo a C (some d)) ∧ H2 d = some (exd d fs) ∧ H1 d = none ∧ W (.ref C) (some d) (upd (L2.del H2 a) d (.xd fs))) (fun _ _ _ => False) := by
  refine ⟨by show 1 ≤ 1000; decide, fun a ha => ⟨a, v, rfl, upd_same, fun dx hdx hne => ⟨rfl, dx, [(f, v)], upd_same, ?_, ?_, ?_⟩⟩⟩
  · rw [upd_ne hne, upd_same]
  · rw [upd_ne hne] at hdx
    exact hdx
  · rw [upd_ne hne] at hdx
    refine k dx _ (fun b o hb => ?_) upd_same
    have b1 := ne_of_none hb ha
    have b2 := ne_of_none hb hdx
    rw [upd_ne b2, L2.del_ne b1, upd_ne b1, upd_ne b2, upd_ne b1]
    exact hb
/-- raise C(e) -/
theorem ps_rais {X : Cx} {W : WX} {x f : Str} {e : Expr} {te : TE} {p pos pos' : Pos} (R : Xk X.prog X.w X.K X.mg X.base x f) (hr : Room 3 X.A) (hc : X.calm = true) (tk : Takes X W) (hg : Gl X x) (ha : PA X [e] (tCons te tNil))
    (hdb : (x == ("__debug__" : Str)) = false := by decide) (hse : starEach [e] X.env = (false, eval e X.env) :: starEach [] X.env := by rfl) (hpl : (backTo pos (starEach [] X.env)).any (·.1) = false := by rfl) :
    PS X (.Raise (some (.Call (.Name x p) [e] [] pos)) none pos') (fun _ σ H => te σ H fun v H1 => ∀ d H2, Same H1 H2 → H2 d = some (.xd [(f, v)]) → W (.ref (clsA X.K x)) (some d) σ H2) := by
  obtain ⟨fI, fd, ps, iC, tI, hb, F⟩ := R.init
  have mk := pmk_oex (pos := pos) (p := p) R.O iC tI F hr hb .nil pass0 hg R.hm (pa_up ha) hdb hse hpl
  refine ⟨fun pins s σ H D I h => (ps_raise hc tk mk).run pins s σ H D I ?_⟩
  refine ⟨fun vs H1 => match vs with
    | [v] => ∀ d H2, Same H1 H2 → H2 d = some (.xd [(f, v)]) → W (.ref (clsA X.K x)) (some d) σ H2
    | _ => False, h, ?_⟩
  intro vs H1 k
  match vs, k with
  | [v], k => exact rais_ok (W := fun cls d H' => W cls d σ H') k
end Vg
namespace Vg
open PySem PySem.Spec PyProof.Rows L2
/-! ## neighbours of a fraction, by whole numbers alone -/
/-- low a/b and high c/d, side by side, t/m between them, bottoms at most N -/
structure Nb (t m N a b c d : Int) : Prop where
  b1 : 1 ≤ b
  d1 : 1 ≤ d
  bN : b ≤ N
  dN : d ≤ N
  g : c * b - a * d = 1
  u : 0 < t * b - a * m
  v : 0 < c * m - t * d
theorem no_frac {t m a b : Int} (hc : gcdI t m = 1) (hb : 1 ≤ b) (hm : b < m) : t * b - a * m ≠ 0 := by
  intro h
  have e : t * b = a * m := by omega
  have d1 : m ∣ t * b := ⟨a, by rw [e, Int.mul_comm]⟩
  have d2 : m.natAbs ∣ t.natAbs * b.natAbs := by
    rw [← Int.natAbs_mul]
    exact Int.natAbs_dvd_natAbs.mpr d1
  have cop : Nat.Coprime m.natAbs t.natAbs := by
    unfold gcdI at hc
    have : Nat.gcd t.natAbs m.natAbs = 1 := by exact_mod_cast hc
    rw [Nat.gcd_comm] at this
    exact this
  have d3 := cop.dvd_of_dvd_mul_left d2
  have l := Nat.le_of_dvd (by omega) d3
  omega
/-- the bottom of a number that lies between the two -/
theorem Nb.sum {t m N a b c d : Int} (h : Nb t m N a b c d) : m = (t * b - a * m) * d + (c * m - t * d) * b := by
  have g := h.g
  have e : (t * b - a * m) * d + (c * m - t * d) * b = m * (c * b - a * d) := by grind
  rw [e, g, Int.mul_one]
theorem Nb.top {t m N a b c d : Int} (h : Nb t m N a b c d) : t = (t * b - a * m) * c + (c * m - t * d) * a := by
  have g := h.g
  have e : (t * b - a * m) * c + (c * m - t * d) * a = t * (c * b - a * d) := by grind
  rw [e, g, Int.mul_one]
theorem mul_ge {x y : Int} (hx : 1 ≤ x) (hy : 0 ≤ y) : y ≤ x * y := by
  have := Int.mul_le_mul_of_nonneg_right hx hy
  omega
theorem Nb.big {t m N a b c d : Int} (h : Nb t m N a b c d) : b + d ≤ m := by
  have e := h.sum
  have x := mul_ge (x := t * b - a * m) (y := d) (by have := h.u; omega) (by have := h.d1; omega)
  have y := mul_ge (x := c * m - t * d) (y := b) (by have := h.v; omega) (by have := h.b1; omega)
  omega
/-- the other way round -/
theorem Nb.flip {t m N a b c d : Int} (h : Nb t m N a b c d) : Nb (-t) m N (-c) d (-a) b := by
  obtain ⟨h1, h2, h3, h4, h5, h6, h7⟩ := h
  refine ⟨h2, h1, h4, h3, ?_, ?_, ?_⟩ <;> grind
theorem nb_low {t m N a b c d a' b' c' d' : Int} (h : Nb t m N a b c d) (hs : N < b + d) (h' : Nb t m N a' b' c' d') : a' * b - a * b' ≤ 0 := by
  have hm : 0 < m := by have := h.big; have := h.b1; have := h.d1; omega
  have q : 0 < c * b' - a' * d := by
    have e : m * (c * b' - a' * d) = b' * (c * m - t * d) + d * (t * b' - a' * m) := by grind
    have p1 : 0 < b' * (c * m - t * d) := Int.mul_pos (by have := h'.b1; omega) h.v
    have p2 : 0 < d * (t * b' - a' * m) := Int.mul_pos (by have := h.d1; omega) h'.u
    have : 0 < m * (c * b' - a' * d) := by omega
    exact Int.pos_of_mul_pos_right this hm
  refine Int.not_lt.mp fun p => ?_
  have e : b' = (a' * b - a * b') * d + (c * b' - a' * d) * b := by
    have g := h.g
    have e : (a' * b - a * b') * d + (c * b' - a' * d) * b = b' * (c * b - a * d) := by grind
    rw [e, g, Int.mul_one]
  have x := mul_ge (x := a' * b - a * b') (y := d) (by omega) (by have := h.d1; omega)
  have y := mul_ge (x := c * b' - a' * d) (y := b) (by omega) (by have := h.b1; omega)
  have := h'.bN
  omega
theorem nb_lows {t m N a b c d a' b' c' d' : Int} (h : Nb t m N a b c d) (hs : N < b + d) (h' : Nb t m N a' b' c' d') (hs' : N < b' + d') : a' = a ∧ b' = b := by
  have p1 := nb_low h hs h'
  have p2 := nb_low h' hs' h
  have e : a' * b = a * b' := by
    have : a' * b - a * b' = -(a * b' - a' * b) := by grind
    omega
  have half : ∀ {a b c d a' b' : Int}, c * b - a * d = 1 → a' * b = a * b' → b' = (c * b' - a' * d) * b := by
    intro a b c d a' b' g e
    have z : (c * b' - a' * d) * b = b' * (c * b - a * d) + d * (a * b' - a' * b) := by grind
    rw [z, g, e]
    simp
  have e1 := half h.g e
  have e2 := half h'.g e.symm
  have b1 := h.b1
  have b1' := h'.b1
  have le1 : b ≤ b' := by
    have q : 1 ≤ c * b' - a' * d := by
      refine Int.not_lt.mp fun q => ?_
      have : (c * b' - a' * d) * b ≤ 0 := Int.mul_nonpos_of_nonpos_of_nonneg (by omega) (by omega)
      omega
    have := mul_ge q (show 0 ≤ b by omega)
    omega
  have le2 : b' ≤ b := by
    have q : 1 ≤ c' * b - a * d' := by
      refine Int.not_lt.mp fun q => ?_
      have : (c' * b - a * d') * b' ≤ 0 := Int.mul_nonpos_of_nonpos_of_nonneg (by omega) (by omega)
      omega
    have := mul_ge q (show 0 ≤ b' by omega)
    omega
  have eb : b' = b := by omega
  subst eb
  exact ⟨Int.eq_of_mul_eq_mul_right (by omega) e, rfl⟩
/-- there is just one such pair -/
theorem nb_one {t m N a b c d a' b' c' d' : Int} (h : Nb t m N a b c d) (hs : N < b + d) (h' : Nb t m N a' b' c' d') (hs' : N < b' + d') : a' = a ∧ b' = b ∧ c' = c ∧ d' = d := by
  obtain ⟨e1, e2⟩ := nb_lows h hs h' hs'
  obtain ⟨e3, e4⟩ := nb_lows h.flip (by omega) h'.flip (by omega)
  exact ⟨e1, e2, by omega, e4⟩
/-! ### the walk -/
theorem nb_start {t m N : Int} (hc : gcdI t m = 1) (hN : 1 ≤ N) (hm : N < m) : Nb t m N (t / m) 1 (t / m + 1) 1 := by
  have e := Int.mul_ediv_add_emod t m
  have r0 := Int.emod_nonneg t (show m ≠ 0 by omega)
  have r1 := Int.emod_lt_of_pos t (show 0 < m by omega)
  have z := no_frac (a := t / m) hc (show 1 ≤ 1 by omega) (show 1 < m by omega)
  have c1 : t / m * m = m * (t / m) := Int.mul_comm _ _
  have c2 : (t / m + 1) * m = m * (t / m) + m := by grind
  refine ⟨by omega, by omega, hN, hN, by grind, ?_, ?_⟩ <;> omega
/-- the low one goes on -/
theorem Nb.left {t m N a b c d s : Int} (h : Nb t m N a b c d) (hc : gcdI t m = 1) (hm : N < m) (s0 : 0 ≤ s) (s1 : s ≤ (N - b) / d) (s2 : s ≤ (t * b - a * m) / (c * m - t * d)) : Nb t m N (a + s * c) (b + s * d) c d := by
  have hd := h.d1
  have l1 : s * d ≤ N - b := Int.le_trans (Int.mul_le_mul_of_nonneg_right s1 (by omega)) (Int.ediv_mul_le _ (by omega))
  have l2 : s * (c * m - t * d) ≤ t * b - a * m := Int.le_trans (Int.mul_le_mul_of_nonneg_right s2 (by have := h.v; omega)) (Int.ediv_mul_le _ (by have := h.v; omega))
  have sd : 0 ≤ s * d := Int.mul_nonneg s0 (by omega)
  have b1 := h.b1
  have eu : t * (b + s * d) - (a + s * c) * m = (t * b - a * m) - s * (c * m - t * d) := by grind
  have nz := no_frac (a := a + s * c) hc (show 1 ≤ b + s * d by omega) (show b + s * d < m by omega)
  refine ⟨by omega, hd, by omega, h.dN, ?_, ?_, h.v⟩
  · have g := h.g
    have : c * (b + s * d) - (a + s * c) * d = c * b - a * d := by grind
    omega
  · omega
theorem Nb.right {t m N a b c d s : Int} (h : Nb t m N a b c d) (hc : gcdI t m = 1) (hm : N < m) (s0 : 0 ≤ s) (s1 : s ≤ (N - d) / b) (s2 : s ≤ (c * m - t * d) / (t * b - a * m)) : Nb t m N a b (c + s * a) (d + s * b) := by
  have hc' : gcdI (-t) m = 1 := by
    unfold gcdI at hc ⊢
    rw [Int.natAbs_neg]
    exact hc
  have e1 : -t * d - -c * m = c * m - t * d := by grind
  have e2 : -a * m - -t * b = t * b - a * m := by grind
  have k := (h.flip.left (s := s) hc' hm s0 s1 (by rw [e1, e2]; exact s2)).flip
  have e3 : - -t = t := by omega
  have e4 : - -a = a := by omega
  have e5 : -(-c + s * -a) = c + s * a := by grind
  rw [e3, e4, e5] at k
  exact k
/-- the two go on -/
theorem nb_on {t m N a b c d s r : Int} (h : Nb t m N a b c d) (hs : s = min ((N - b) / d) ((t * b - a * m) / (c * m - t * d))) (hl : b + d ≤ N)
    (hr : r = min ((N - d) / (b + s * d)) ((c * m - t * d) / (t * (b + s * d) - (a + s * c) * m))) (h1 : Nb t m N (a + s * c) (b + s * d) c d) : 0 ≤ s ∧ 0 ≤ r ∧ (0 < s ∨ 0 < r) := by
  have q0 : 0 ≤ (N - b) / d := Int.ediv_nonneg (by have := h.bN; omega) (by have := h.d1; omega)
  have q1 : 1 ≤ (N - b) / d := by
    refine (Int.le_ediv_iff_mul_le (by have := h.d1; omega)).mpr ?_
    omega
  have q2 : 0 ≤ (t * b - a * m) / (c * m - t * d) := Int.ediv_nonneg (by have := h.u; omega) (by have := h.v; omega)
  have r0 : 0 ≤ (N - d) / (b + s * d) := Int.ediv_nonneg (by have := h.dN; omega) (by have := h1.b1; omega)
  have r2 : 0 ≤ (c * m - t * d) / (t * (b + s * d) - (a + s * c) * m) := Int.ediv_nonneg (by have := h.v; omega) (by have := h1.u; omega)
  have s0 : 0 ≤ s := by omega
  refine ⟨s0, by omega, ?_⟩
  by_cases hz : 0 < s
  · exact .inl hz
  · right
    have z : s = 0 := by omega
    subst z
    have e0 : (t * b - a * m) / (c * m - t * d) = 0 := by omega
    have lt : t * b - a * m < c * m - t * d := by
      have := h.v
      have hh := Int.lt_mul_ediv_self_add (x := t * b - a * m) this
      rw [e0] at hh
      simpa using hh
    have e1 : t * (b + 0 * d) - (a + 0 * c) * m = t * b - a * m := by grind
    have e2 : b + 0 * d = b := by grind
    rw [e1, e2] at hr
    have k1 : 1 ≤ (N - d) / b := (Int.le_ediv_iff_mul_le (by have := h.b1; omega)).mpr (by omega)
    have k2 : 1 ≤ (c * m - t * d) / (t * b - a * m) := (Int.le_ediv_iff_mul_le h.u).mpr (by omega)
    omega
end Vg
namespace Vg
open PySem PySem.Spec PyProof.Rows L2
/-- a def with a star parameter, as its callers know it -/
structure Fr (P : Program) (w : World) (K : PySem.W.Frag) (mg : Str → Option Value) (base : Heap) (k : Nat) (x : Str) (sp : Sp) : Prop where
  ex : ∃ f : Addr, mg x = some (.ref f) ∧ PySem.W.keepIn K (.ref f) = true ∧ FnR P w K mg base CX0 k f sp
theorem At.fr {P : Program} {w : World} {K : PySem.W.Frag} {mg : Str → Option Value} {base : Heap} {k : Nat} {x : Str} {st : Stmt} {N : List Str} {pv : Str} {sp : Sp} (D : At K mg x st) (S : FnScope N [pv] (defScope st))
    (hb : ∀ (kV doc pm : Value) (an : Option Addr) (cdv ct : Value) (us : List Value),
      bindArgs (PySem.W.fnOf x x (defArgs st) (defBody st) (defScope st) .none kV doc pm an cdv ct) ⟨us, []⟩ = (newTuple us >>= fun t => pure [(pv, t)]))
    (body : ∀ (f : Addr) (cdv : Value) (A : Around) (outer : List Env) (s : Shared) (H : Hp) (vs : List V) (Q : VK) (E : XK),
      Room k (A.deeper (envOfC x (defScope st) s.heap.objs.size f cdv)) → sp vs H Q E →
      ∃ t, PSs (cxOf CX0 P w K mg base N x (defScope st) f cdv A outer s H E).nox (defBody st) t ∧ t { nx := fun _ H' => Q .non H', rt := Q } (start N vs) H) :
    Fr P w K mg base (k + 1) x (fun vs H Q E => vs.length ≤ sizeLine ∧ ∀ p, H p = none → sp [V.ref p] (upd H p (.tup vs)) Q E) := by
  obtain ⟨f, fd, hm, F⟩ := D.ex
  have kp := F.kp
  obtain ⟨oc, od, kV, doc, pm, an, cdv, ct, osl, rfl, lk, hcd⟩ := F.ex
  refine ⟨f, hm, kp, ?_⟩
  have Z := StX.fn_star (P := P) (w := w) (mg := mg) (base := base) (k := k) (ps := []) (pv := pv) (sp := sp) lk hcd S StX.cxUp_none (fun us rest hl => by
    have e : us = [] := List.length_eq_zero_iff.mp hl
    subst e
    exact hb kV doc pm an cdv ct rest) fun A outer s H vs Q E hr h => by
      obtain ⟨t, h1, h2⟩ := body f cdv A outer s H vs Q E hr h
      exact ⟨t, h1.nox, h2⟩
  exact Z.imp fun vs H Q E ⟨h1, h2⟩ => ⟨[], vs, rfl, rfl, h1, h2⟩
theorem pe_fr {X : Cx} {k : Nat} {sp : Sp} {E : XK} {x : Str} {p pos : Pos} {e : Expr} {es : List Expr} {t : TA} (F : Fr X.prog X.w X.K X.mg X.base k x sp) (hr : Room k X.A) (hg : Gl X x) (hx : Passes CX0 X E) (ha : PA X (e :: es) t)
    (hdb : (x == ("__debug__" : Str)) = false := by decide) (he : starEach (e :: es) X.env = (false, eval e X.env) :: starEach es X.env := by rfl)
    (hpl : (backTo pos (starEach es X.env)).any (·.1) = false := by rfl) : PE X (.Call (.Name x p) (e :: es) [] pos) (tCall sp [] E t) := by
  obtain ⟨f, hm, hk, F⟩ := F.ex
  constructor
  intro pins s σ H Q I h
  apply wpAny_Call_Name_kw
  apply ld_glob I hg hm ?_ hdb
  refine PySem.W.callWith_K (h₀ := X.base) I.ok.mod.kin hk ?_ he hpl
  refine thn (ha.run pos pins s σ H _ I h) ?_
  rintro us s1 ⟨vs, H1, I1, r, q⟩
  refine ⟨I1.kIn, ?_⟩
  have q' : sp vs H1 Q E := by
    have q0 : sp (vs ++ []) H1 Q E := q
    rw [List.append_nil] at q0
    exact q0
  refine wpAny_call (codeAny_mono (F X.A X.stack s1 H1 us vs Q E hr I1.env0 r q') fun r s' hq => ?_)
  match r, hq with
  | .error e, hq => exact hx pins σ H1 s1 e s' I1 hq
  | .ok (.ret u), hq => exact I1.after hq
  | .ok .next, hq => exact False.elim hq
  | .ok .brk, hq => exact False.elim hq
  | .ok .cont, hq => exact False.elim hq
/-! ## whole numbers of not too many figures -/
def Bd (z : Int) : Prop := -10000000000000000000000000000000000000000 ≤ z ∧ z ≤ 10000000000000000000000000000000000000000
theorem Bd.nat {z : Int} (h : Bd z) : z.natAbs < 2 ^ 140 := by
  have h' : z.natAbs ≤ 10000000000000000000000000000000000000000 := by
    unfold Bd at h
    omega
  exact Nat.lt_of_le_of_lt h' (by decide)
theorem Bd.mul {i j : Int} (hi : Bd i) (hj : Bd j) : CMulW i j := wide_mul hi.nat hj.nat (by decide) (by decide) (by decide)
theorem Bd.div {i j : Int} (h : 0 < j) (hj : Bd j) : CDivW i j := wide_div h hj.nat (by decide) (by decide)
theorem Bd.muls {i j k : Int} (hi : Bd i) (hj : Bd j) (hk : Bd k) : CMulW (i * j) k := wide_mul (wide_lt hi.nat hj.nat) hk.nat (by decide) (by decide) (by decide)
theorem mulB {a b c : Nat} {i j : Int} (hi : i.natAbs < 2 ^ a) (hj : j.natAbs < 2 ^ b) : (i * j).natAbs < 2 ^ (a + b) := wide_lt hi hj
/-- what a fraction between the two has for them -/
theorem Nb.uv {t m N a b c d : Int} (h : Nb t m N a b c d) : t * b - a * m ≤ m ∧ c * m - t * d ≤ m := by
  have e := h.sum
  have u := h.u
  have v := h.v
  have x := mul_ge (x := d) (y := t * b - a * m) h.d1 (by omega)
  have y := mul_ge (x := b) (y := c * m - t * d) h.b1 (by omega)
  have x0 : (t * b - a * m) * d = d * (t * b - a * m) := Int.mul_comm _ _
  have y0 : (c * m - t * d) * b = b * (c * m - t * d) := Int.mul_comm _ _
  omega
theorem Nb.lowB {t m N a b c d T : Int} (h : Nb t m N a b c d) (h1 : -T ≤ t) (h2 : t ≤ T) (hm : N < m) : -(T + 2) ≤ a ∧ a ≤ T := by
  have u := h.u
  have uu := h.uv.1
  have b1 := h.b1
  have bN := h.bN
  have k1 : t * b ≤ T * b := Int.mul_le_mul_of_nonneg_right h2 (by omega)
  have k2 : -T * b ≤ t * b := Int.mul_le_mul_of_nonneg_right h1 (by omega)
  have k3 : T * b ≤ T * m := Int.mul_le_mul_of_nonneg_left (by omega) (by omega)
  have k4 : -T * b = -(T * b) := Int.neg_mul _ _
  constructor
  · refine Int.not_lt.mp fun z => ?_
    have k5 : a * m ≤ (-(T + 3)) * m := Int.mul_le_mul_of_nonneg_right (by omega) (by omega)
    have k6 : (-(T + 3)) * m = -(T * m) - 3 * m := by grind
    omega
  · refine Int.not_lt.mp fun z => ?_
    have k5 : (T + 1) * m ≤ a * m := Int.mul_le_mul_of_nonneg_right (by omega) (by omega)
    have k6 : (T + 1) * m = T * m + m := by grind
    omega
theorem Nb.highB {t m N a b c d T : Int} (h : Nb t m N a b c d) (h1 : -T ≤ t) (h2 : t ≤ T) (hm : N < m) : -T ≤ c ∧ c ≤ T + 2 := by
  have z := h.flip.lowB (T := T) (by omega) (by omega) hm
  omega
/-- the number between the two -/
theorem Nb.mid0 {t m N a b c d : Int} (h : Nb t m N a b c d) (hc : gcdI t m = 1) (e : t * (b + d) - (a + c) * m = 0) : t = a + c ∧ m = b + d := by
  have big := h.big
  have b1 := h.b1
  have d1 := h.d1
  have em : m = b + d := by
    refine Int.le_antisymm (Int.not_lt.mp fun z => ?_) big
    exact no_frac (a := a + c) hc (show 1 ≤ b + d by omega) z e
  refine ⟨?_, em⟩
  rw [← em] at e
  exact Int.eq_of_mul_eq_mul_right (show m ≠ 0 by omega) (by omega)
theorem Nb.midB {t m N a b c d : Int} (h : Nb t m N a b c d) (e : t * (b + d) - (a + c) * m ≠ 0) : b + d < m := by
  have s := h.sum
  have u := h.u
  have v := h.v
  have b1 := h.b1
  have d1 := h.d1
  have ee : t * (b + d) - (a + c) * m = (t * b - a * m) - (c * m - t * d) := by grind
  generalize t * b - a * m = U at *
  generalize c * m - t * d = W at *
  have x := mul_ge (x := U) (y := d) (by omega) (by omega)
  have y := mul_ge (x := W) (y := b) (by omega) (by omega)
  by_cases hu : 2 ≤ U
  · have x2 : 2 * d ≤ U * d := Int.mul_le_mul_of_nonneg_right hu (by omega)
    omega
  · have x2 : 2 * b ≤ W * b := Int.mul_le_mul_of_nonneg_right (by omega) (by omega)
    omega
theorem Nb.midL {t m N a b c d : Int} (h : Nb t m N a b c d) (e : 0 < t * (b + d) - (a + c) * m) : Nb t m (b + d) (a + c) (b + d) c d := by
  have b1 := h.b1
  have d1 := h.d1
  have g := h.g
  exact ⟨by omega, d1, by omega, by omega, by grind, e, h.v⟩
theorem Nb.midH {t m N a b c d : Int} (h : Nb t m N a b c d) (e : t * (b + d) - (a + c) * m < 0) : Nb t m (b + d) a b (a + c) (b + d) := by
  have b1 := h.b1
  have d1 := h.d1
  have g := h.g
  exact ⟨b1, by omega, by omega, by omega, by grind, h.u, by grind⟩
theorem Nb.at {t m N N' a b c d : Int} (h : Nb t m N a b c d) (h1 : b ≤ N') (h2 : d ≤ N') : Nb t m N' a b c d := ⟨h.b1, h.d1, h1, h2, h.g, h.u, h.v⟩
/-! ## fractions, pairs of fractions on the heap -/
abbrev FrT (H : Hp) (p : Addr) (i j : Int) : Prop := H p = some (.tup [.int i, .int j])
abbrev PrT (H : Hp) (p q r : Addr) : Prop := H p = some (.tup [.ref q, .ref r])
def frD (i j : Int) : PyData := .tuple [.int i, .int j]
def prD (a b c d : Int) : PyData := .tuple [frD a b, frD c d]
theorem FrT.dk {H : Hp} {p : Addr} {i j : Int} (h : FrT H p i j) : Dk H (.ref p) (frD i j) := ⟨fun _ => True, .tup trivial h (.cons (.int i) (.cons (.int j) .nil))⟩
theorem FrT.dp {K : PySem.W.Frag} {H : Hp} {p : Addr} {i j : Int} (h : FrT H p i j) : Dp K H (.ref p) (frD i j) := .tup (SqT.of h) (.cons (.int i) (.cons (.int j) .nil))
theorem PrT.dp {K : PySem.W.Frag} {H : Hp} {p q r : Addr} {a b c d : Int} (h : PrT H p q r) (hq : FrT H q a b) (hr : FrT H r c d) : Dp K H (.ref p) (prD a b c d) := .tup (SqT.of h) (.cons (FrT.dp hq) (.cons (FrT.dp hr) .nil))
theorem fr_shaped (i j : Int) : SeqAt.shaped (frD i j) = true := by rfl
theorem pr_shaped (a b c d : Int) : SeqAt.shaped (prD a b c d) = true := by rfl
theorem fr_eqv (i j : Int) : PyData.eqv (frD i j) (frD i j) = true := by simp [frD, PyData.eqv, PyData.eqvAll]
theorem pr_eqv (a b c d : Int) : PyData.eqv (prD a b c d) (prD a b c d) = true := by simp [prD, frD, PyData.eqv, PyData.eqvAll]
end Vg
namespace Vg
open PySem PySem.Spec PyProof.Rows L2
def Sm (z : Int) : Prop := -1000000000000000000000000000000000000000 ≤ z ∧ z ≤ 1000000000000000000000000000000000000000
theorem Sm.bd {z : Int} (h : Sm z) : Bd z := by
  unfold Sm at h
  unfold Bd
  omega
/-- a fraction among those of a tuple -/
def FrV (H : Hp) (x : V) : Prop := ∃ q i j, x = .ref q ∧ FrT H q i j ∧ 1 ≤ j ∧ gcdI i j = 1
theorem FrV.same {H H' : Hp} {x : V} (h : FrV H x) (s : Same H H') : FrV H' x := by
  obtain ⟨q, i, j, e, f, r⟩ := h
  exact ⟨q, i, j, e, s _ _ f, r⟩
def spNeed0 : Sp := fun vs H Q _ => ∃ (p : Addr) (xs : List V), vs = [.ref p] ∧ H p = some (.tup xs) ∧ (∀ x ∈ xs, FrV H x) ∧ ∀ H', Same H H' → Q .non H'
def spNeed : Sp := fun vs H Q E => vs.length ≤ sizeLine ∧ ∀ p, H p = none → spNeed0 [V.ref p] (upd H p (.tup vs)) Q E
theorem need_by {vs : List V} {H : Hp} {Q : VK} {E : XK} (hl : vs.length ≤ sizeLine) (h : ∀ x ∈ vs, FrV H x) (q : ∀ H', Same H H' → Q .non H') : spNeed vs H Q E :=
  ⟨hl, fun p hp => ⟨p, vs, rfl, upd_same, fun x hx => (h x hx).same (Same.new hp), fun H' s => q H' ((Same.new hp).trans s)⟩⟩
/-- the two neighbours of t/m under N: itself twice, or those beside it -/
def NbX (t m N a b c d : Int) : Prop := (m ≤ N ∧ a = t ∧ b = m ∧ c = t ∧ d = m) ∨ (N < m ∧ Nb t m N a b c d ∧ N < b + d)
theorem NbX.one {t m N a b c d a' b' c' d' : Int} (h : NbX t m N a b c d) (h' : NbX t m N a' b' c' d') : a' = a ∧ b' = b ∧ c' = c ∧ d' = d := by
  rcases h with ⟨l, rfl, rfl, rfl, rfl⟩ | ⟨l, n, s⟩ <;> rcases h' with ⟨l', rfl, rfl, rfl, rfl⟩ | ⟨l', n', s'⟩
  · exact ⟨rfl, rfl, rfl, rfl⟩
  · omega
  · omega
  · exact nb_one n s n' s'
structure Bds (t m a b c d : Int) : Prop where
  bt : Bd t
  bm : Bd m
  ba : Bd a
  bb : Bd b
  bc : Bd c
  bd : Bd d
  u0 : 0 ≤ t * b - a * m
  u1 : Bd (t * b - a * m)
  v0 : 0 ≤ c * m - t * d
  v1 : Bd (c * m - t * d)
theorem Nb.bds {t m N a b c d : Int} (h : Nb t m N a b c d) (hm : N < m) (ht : Sm t) (hM : Sm m) : Bds t m a b c d := by
  have l := h.lowB (T := 1000000000000000000000000000000000000000) ht.1 ht.2 hm
  have g := h.highB (T := 1000000000000000000000000000000000000000) ht.1 ht.2 hm
  have uv := h.uv
  have u := h.u
  have v := h.v
  have b1 := h.b1
  have d1 := h.d1
  have bN := h.bN
  have dN := h.dN
  have m1 := hM.1
  have m2 := hM.2
  refine ⟨ht.bd, hM.bd, ?_, ?_, ?_, ?_, by omega, ?_, by omega, ?_⟩ <;> (unfold Bd; omega)
theorem NbX.bds {t m N a b c d : Int} (h : NbX t m N a b c d) (ht : Sm t) (hM : Sm m) : Bds t m a b c d := by
  rcases h with ⟨l, rfl, rfl, rfl, rfl⟩ | ⟨l, n, s⟩
  · have e : c * d - c * d = 0 := by omega
    have z : Bd 0 := by
      unfold Bd
      omega
    exact ⟨ht.bd, hM.bd, ht.bd, hM.bd, ht.bd, hM.bd, by omega, e ▸ z, by omega, e ▸ z⟩
  · exact n.bds l ht hM
theorem NbX.pos {t m N a b c d : Int} (h : NbX t m N a b c d) (hm : 1 ≤ m) : 1 ≤ b ∧ 1 ≤ d := by
  rcases h with ⟨l, rfl, rfl, rfl, rfl⟩ | ⟨l, n, s⟩
  · exact ⟨hm, hm⟩
  · exact ⟨n.b1, n.d1⟩
/-- whether the low one is the nearer one -/
def nearB (t m a b c d : Int) : Bool := if (t * b - a * m) * d = (c * m - t * d) * b then decide (b ≤ d) else decide ((t * b - a * m) * d < (c * m - t * d) * b)
def spStrict : Sp := fun vs H Q _ => ∃ (p : Addr) (t m N : Int), vs = [.ref p, .int N] ∧ FrT H p t m ∧ gcdI t m = 1 ∧ 1 ≤ N ∧ N < m ∧ Sm t ∧ Sm m ∧
  ∀ (a b c d : Int) (q r s : Addr) (H' : Hp), NbX t m N a b c d → Same H H' → FrT H' q a b → FrT H' r c d → PrT H' s q r → Q (.ref s) H'
def spNbrs : Sp := fun vs H Q _ => ∃ (p : Addr) (t m N : Int), vs = [.ref p, .int N] ∧ FrT H p t m ∧ gcdI t m = 1 ∧ 1 ≤ N ∧ 1 ≤ m ∧ Sm t ∧ Sm m ∧
  ∀ (a b c d : Int) (q r s : Addr) (H' : Hp), NbX t m N a b c d → Same H H' → FrT H' q a b → FrT H' r c d → PrT H' s q r → Q (.ref s) H'
def spNearest : Sp := fun vs H Q _ => ∃ (p : Addr) (t m N : Int), vs = [.ref p, .int N] ∧ FrT H p t m ∧ gcdI t m = 1 ∧ 1 ≤ N ∧ 1 ≤ m ∧ Sm t ∧ Sm m ∧
  ∀ (a b c d : Int) (q : Addr) (H' : Hp), NbX t m N a b c d → Same H H' → FrT H' q (if nearB t m a b c d = true then a else c) (if nearB t m a b c d = true then b else d) → Q (.ref q) H'
/-- the nearer one of a told pair -/
def spNearL : Sp := fun vs H Q _ => ∃ (p x q r : Addr) (t m a b c d : Int), vs = [.ref p, .ref x] ∧ PrT H p q r ∧ FrT H q a b ∧ FrT H r c d ∧ FrT H x t m ∧ Bds t m a b c d ∧
  ∀ (y : Addr), FrT H y (if nearB t m a b c d = true then a else c) (if nearB t m a b c d = true then b else d) → Q (.ref y) H
def spGap : Sp := fun vs H Q _ => ∃ (x y : Addr) (a b c d : Int), vs = [.ref x, .ref y] ∧ FrT H x a b ∧ FrT H y c d ∧ Bd a ∧ Bd b ∧ Bd c ∧ Bd d ∧ Q (.int (c * b - a * d)) H
theorem min_if (i j : Int) : (if j < i then j else i) = min i j := by
  split <;> omega
end Vg
namespace Vg
open PySem PySem.Spec PyProof.Rows L2
theorem gcd_of {a b c d : Int} (g : c * b - a * d = 1) : gcdI a b = 1 := by
  unfold gcdI
  have d1 : ((Nat.gcd a.natAbs b.natAbs : Nat) : Int) ∣ a := Int.ofNat_dvd_left.mpr (Nat.gcd_dvd_left _ _)
  have d2 : ((Nat.gcd a.natAbs b.natAbs : Nat) : Int) ∣ b := Int.ofNat_dvd_left.mpr (Nat.gcd_dvd_right _ _)
  have d3 : ((Nat.gcd a.natAbs b.natAbs : Nat) : Int) ∣ 1 := by
    rw [← g]
    exact Int.dvd_sub (Int.dvd_mul_of_dvd_right d2) (Int.dvd_mul_of_dvd_left d1)
  have d4 := Int.ofNat_dvd_left.mp d3
  have d5 := Nat.dvd_one.mp d4
  rw [d5]
  rfl
theorem NbX.gcds {t m N a b c d : Int} (h : NbX t m N a b c d) (hc : gcdI t m = 1) : gcdI a b = 1 ∧ gcdI c d = 1 := by
  rcases h with ⟨l, rfl, rfl, rfl, rfl⟩ | ⟨l, n, s⟩
  · exact ⟨hc, hc⟩
  · refine ⟨gcd_of n.g, ?_⟩
    have g := n.g
    have e : (-a) * d - c * (-b) = 1 := by grind
    exact gcd_of e
theorem gcd_divs {a b : Int} (hb : 1 ≤ b) : gcdI (a / gcdI a b) (b / gcdI a b) = 1 ∧ 1 ≤ gcdI a b ∧ 1 ≤ b / gcdI a b := by
  have hg : 0 < Nat.gcd a.natAbs b.natAbs := Nat.gcd_pos_of_pos_right _ (by omega)
  have d1 : ((Nat.gcd a.natAbs b.natAbs : Nat) : Int) ∣ a := Int.ofNat_dvd_left.mpr (Nat.gcd_dvd_left _ _)
  have d2 : ((Nat.gcd a.natAbs b.natAbs : Nat) : Int) ∣ b := Int.ofNat_dvd_left.mpr (Nat.gcd_dvd_right _ _)
  have e1 : (a / gcdI a b).natAbs = a.natAbs / Nat.gcd a.natAbs b.natAbs := by
    unfold gcdI
    rw [Int.natAbs_ediv_of_dvd d1]
    rfl
  have e2 : (b / gcdI a b).natAbs = b.natAbs / Nat.gcd a.natAbs b.natAbs := by
    unfold gcdI
    rw [Int.natAbs_ediv_of_dvd d2]
    rfl
  refine ⟨?_, ?_, ?_⟩
  · show ((Nat.gcd (a / gcdI a b).natAbs (b / gcdI a b).natAbs : Nat) : Int) = 1
    rw [e1, e2, Nat.coprime_div_gcd_div_gcd hg]
    rfl
  · unfold gcdI
    omega
  · refine (Int.le_ediv_iff_mul_le (by unfold gcdI; omega)).mpr ?_
    have := Int.le_of_dvd (by omega) d2
    unfold gcdI
    omega
theorem div_small {a g T : Int} (hg : 1 ≤ g) (h1 : -T ≤ a) (h2 : a ≤ T) (hT : 0 ≤ T) : -T ≤ a / g ∧ a / g ≤ T := by
  constructor
  · refine (Int.le_ediv_iff_mul_le (by omega)).mpr ?_
    have := mul_ge hg hT
    have e : -T * g = -(g * T) := by grind
    omega
  · by_cases h0 : 0 ≤ a
    · exact Int.le_trans (Int.ediv_le_self _ h0) h2
    · have : a / g < 0 := Int.ediv_neg_of_neg_of_pos (by omega) (by omega)
      omega
def spIsF : Sp := fun vs H Q _ => ∃ (p : Addr) (i j : Int), vs = [.ref p] ∧ FrT H p i j ∧ 1 ≤ j ∧ gcdI i j = 1 ∧ ∀ H', Same H H' → Q (.bl true) H'
def spShown : Sp := fun vs H Q _ => ∃ (s x q r : Addr) (t m N a b c d : Int), vs = [.ref s, .ref x, .int N] ∧ PrT H s q r ∧ FrT H q a b ∧ FrT H r c d ∧ FrT H x t m ∧ gcdI t m = 1 ∧ 1 ≤ m ∧ Sm t ∧ Sm m ∧ NbX t m N a b c d ∧
  ∀ H', Same H H' → Q (.bl true) H'
def spTurns : Sp := fun vs H Q _ => ∃ (s x q r : Addr) (t m N a b c d : Int), vs = [.ref s, .ref x] ∧ PrT H s q r ∧ FrT H q a b ∧ FrT H r c d ∧ FrT H x t m ∧ gcdI t m = 1 ∧ 1 ≤ N ∧ Sm t ∧ Sm m ∧ N < m ∧ Nb t m N a b c d ∧ N < b + d ∧
  ∀ H', Same H H' → Q (.bl true) H'
def spMade : Sp := fun vs H Q _ => ∃ (a b : Int), vs = [.int a, .int b] ∧ Sm a ∧ Sm b ∧ 1 ≤ b ∧ ∀ (q : Addr) (t m : Int) (H' : Hp), gcdI t m = 1 → 1 ≤ m → Sm t → Sm m → Same H H' → FrT H' q t m → Q (.ref q) H'
def spDigits : Sp := fun vs H Q _ => ∃ (p : Addr) (k n : Nat), vs = [.ref p, .int k] ∧ k ≤ 30 ∧ Pz H p (n + k) ∧ ∀ (z : Int) (H' : Hp), 0 ≤ z → z < 1000000000000000000000000000000 → But p H H' → Pz H' p n → Q (.int z) H'
def spFraction : Sp := fun vs H Q _ => ∃ (p : Addr) (n : Nat), vs = [.ref p] ∧ Pz H p (n + 200) ∧ ∀ (q : Addr) (t m : Int) (H' : Hp), gcdI t m = 1 → 1 ≤ m → Sm t → Sm m → But p H H' → Pz H' p n → FrT H' q t m → Q (.ref q) H'
def spBound : Sp := fun vs H Q _ => ∃ (p x : Addr) (t m : Int) (n : Nat), vs = [.ref p, .ref x] ∧ FrT H x t m ∧ Pz H p (n + 50) ∧ ∀ (N : Int) (H' : Hp), 1 ≤ N → But p H H' → Pz H' p n → Q (.int N) H'
def rIsi (K : PySem.W.Frag) : List V → Hp → VK → Prop := fun xs H Q => ∃ x n c b, xs = [x, .ty c] ∧ Tn K H x n ∧ kitB n c = some b ∧ Q (.bl b) H
theorem cr_isiB {X : Cx} {K : PySem.W.Frag} (h : X.K = K := by rfl) : CallR X (.builtin "isinstance") (rIsi K) := by
  subst h
  exact cr_isi
def yes (n : Nat) : List V := (List.replicate n true).map V.bl
theorem yes_on (n : Nat) : yes n ++ [V.bl true] = yes (n + 1) := by
  unfold yes
  rw [List.replicate_succ', List.map_append]
  rfl
theorem yes_len (n : Nat) : (yes n).length = n := by
  unfold yes
  simp
theorem yes_all (n : Nat) : (List.replicate n true).all id = true := by simp
end Vg
namespace Vg
open PySem PySem.Spec PyProof.Rows L2
/-! ## repr of a dict of plain values -/
inductive Fl : V → PyData → Prop
  | non : Fl .non .none
  | bl (b : Bool) : Fl (.bl b) (.bool b)
  | int (i : Int) : Fl (.int i) (.int i)
  | str (z : Str) : Fl (.str z) (.str z)
theorem Fl.reads {h : Heap} {v : V} {d : PyData} {u : Value} (f : Fl v d) (r : RelV v u) : Reads h u d [] := by
  cases f with
  | non => cases r; exact .none
  | bl b => cases r; exact .bool b
  | int i => obtain ⟨t, rfl⟩ := r; exact .int i t
  | str z => obtain ⟨t, rfl⟩ := r; exact .str z t
inductive FlKv : List (Key × V) → List (PyData × PyData) → Prop
  | nil : FlKv [] []
  | cons {k : Key} {v : V} {d : PyData} {r : List (Key × V)} {s : List (PyData × PyData)} (f : Fl v d) (h : FlKv r s) : FlKv ((k, v) :: r) ((kD k, d) :: s)
theorem key_reads {h : Heap} {k : Key} {u : Value} (e : keyIs k u = true) : Reads h u (kD k) [] := by
  rcases keyIs_shape e with ⟨i, t, rfl, rfl⟩ | ⟨x, t, rfl, rfl⟩
  · exact .int i t
  · exact .str x t
theorem flkv_reads {P : Program} {w : World} {h : Heap} {kvs : List (Key × V)} {es : List (PyData × PyData)} (f : FlKv kvs es) : ∀ {vs : List (Key × Value)} {ents : List DictEntry}, KV kvs vs → Pairs (mixKind P w) ents vs →
    ReadsAll h (ents.map (·.key)) (es.map (·.1)) [] ∧ ReadsAll h (ents.map (·.val)) (es.map (·.2)) [] := by
  induction f with
  | nil =>
    intro vs ents r p
    cases r
    cases p
    exact ⟨.nil, .nil⟩
  | @cons k v d r s f _ ih =>
    intro vs ents r p
    cases r with
    | @cons _ q _ qs a b =>
      cases p with
      | @cons e _ es' _ k1 k2 k3 =>
        obtain ⟨i1, i2⟩ := ih b k3
        obtain ⟨a1, a2⟩ := a
        have a1' : k = q.1 := a1
        have k1' : keyIs q.1 e.key = true := k1
        rw [← a1'] at k1'
        refine ⟨ReadsAll.cons (key_reads k1') i1, ?_⟩
        have z := f.reads (h := h) a2
        rw [← k2] at z
        exact ReadsAll.cons z i2
/-- what may be written as a text: lists, tuples of plain things; a dict of plain values -/
def Dr (K : PySem.W.Frag) (H : Hp) (x : V) (d : PyData) : Prop := Dp K H x d ∨ ∃ a kvs es, x = .ref a ∧ d = .dict es ∧ H a = some (.dK kvs) ∧ FlKv kvs es
theorem cr_reprA {X : Cx} (hg : X.A.guards = some []) (hu : X.A.units + 64 < cLine) :
    CallR X (.builtin "repr") (fun xs H Q => ∃ x d, xs = [x] ∧ Dr X.K H x d ∧ d.showable = true ∧ d.depth ≤ 50 ∧ d.shown.length ≤ sizeLine ∧ Q (.str d.shown) H) := by
  intro pins s σ H xs us Q I r h
  obtain ⟨x, d, rfl, hd | ⟨a, kvs, es, rfl, rfl, ha, f⟩, hs, hdep, hz, q⟩ := h
  · exact cr_repr hg hu pins s σ H _ us Q I r ⟨x, d, rfl, hd, hs, hdep, hz, q⟩
  · obtain ⟨u, rfl, ru⟩ := one_val r
    cases ru
    obtain ⟨_, na, vs, rv, o, ents, ep, ho, hx, hdat, _, hp, _⟩ := (show ObjOk X.prog X.w H s.heap a (.dK kvs) from I.hok a _ ha)
    obtain ⟨r1, r2⟩ := flkv_reads (h := s.heap) f rv hp
    have rd : Reads s.heap (.ref a) (.dict es) (a :: [] ++ []) := .dict ho hx.1 hdat r1 r2
    refine repr_of_reads' rd hs (fun _ => ?_) hg (by omega) (fun b o e => e) (fun h' u tk hk => ⟨.str _, H, I.kept hk, ⟨_, rfl⟩, q⟩) (hsz := hz)
    intro hm
    have e : sysModules = a := by simpa using hm
    rw [← e] at na
    simp at na
end Vg
namespace Vg
open PySem PySem.Spec PyProof.Rows L2
/-- a base of errors with its own __init__, as the head tells it -/
structure XtIn (K : PySem.W.Frag) (x q : Str) (st : Stmt) : Prop where
  ex : ∃ (C f : Addr) (oc : Value) (od an : Option Addr) (sl : Array (Option Value)) (kV dc pm cd ct : Value), PySem.W.nsIn K mainGlobals x = some (some (.ref C)) ∧ ClsFn K C "__init__" f ∧
    K.lookup f = some ⟨oc, od, .func (PySem.W.fnOf "__init__" q (defArgs st) (defBody st) (defScope st) .none kV dc pm an cd ct), sl⟩ ∧ PySem.W.codeIn K cd q = true
theorem XtIn.by {K : PySem.W.Frag} {x q : Str} {st : Stmt} {C f : Addr} {oc : Value} {od an : Option Addr} {sl : Array (Option Value)} {kV dc pm cd ct : Value} (a : PySem.W.nsIn K mainGlobals x = some (some (.ref C)))
    (ga : PySem.W.specialIn K (.ref C) "__getattribute__" = some (some (.builtin "type.__getattribute__"))) (rd : PySem.W.readsIn K C (.type "type") = true)
    (fc : PySem.W.findCls K (.ref C) (.type "type") "__init__" = some (.val (.ref f))) (kp : PySem.W.keepIn K (.ref f) = true)
    (l : K.lookup f = some ⟨oc, od, .func (PySem.W.fnOf "__init__" q (defArgs st) (defBody st) (defScope st) .none kV dc pm an cd ct), sl⟩) (c : PySem.W.codeIn K cd q = true) : XtIn K x q st :=
  ⟨C, f, oc, od, an, sl, kV, dc, pm, cd, ct, a, ⟨ga, rd, fc, kp⟩, l, c⟩
/-- the same behind the head -/
structure XtAt (K : PySem.W.Frag) (mg : Str → Option Value) (x q : Str) (st : Stmt) : Prop where
  ex : ∃ (f : Addr) (fd : FuncData), mg x = some (.ref (clsA K x)) ∧ ClsFn K (clsA K x) "__init__" f ∧ Fun K "__init__" q st f fd
theorem XtIn.at {K : PySem.W.Frag} {h : Heap} {mg : Str → Option Value} {x q : Str} {st : Stmt} (D : XtIn K x q st) (X : K.In h) (G : h.Ns mainGlobals mg) : XtAt K mg x q st := by
  obtain ⟨C, f, oc, od, an, sl, kV, dc, pm, cd, ct, a, cf, l, c⟩ := D.ex
  have e := clsA_of a
  refine ⟨f, _, ?_, ?_, fun_mk l c cf.kp⟩
  · rw [e]
    exact PySem.W.mg_of X G a
  · rw [e]
    exact cf
/-- a class of errors of one field, as the head tells it -/
structure XeIn (K : PySem.W.Frag) (x fl q : Str) (st : Stmt) : Prop where
  ex : ∃ (C f : Addr) (oc : Value) (od an : Option Addr) (sl : Array (Option Value)) (kV dc pm cd ct : Value), PySem.W.nsIn K mainGlobals x = some (some (.ref C)) ∧ OexC K C ∧ ExcC K C ∧ XfC K C ∧
    PySem.W.findIn K (.ref C) fl = some none ∧ PySem.W.findIn K (.ref C) "__init__" = some (some (.ref f)) ∧ PySem.W.typeIn K (.ref f) = some (.type "function") ∧
    K.lookup f = some ⟨oc, od, .func (PySem.W.fnOf "__init__" q (defArgs st) (defBody st) (defScope st) .none kV dc pm an cd ct), sl⟩ ∧ PySem.W.codeIn K cd q = true ∧ PySem.W.keepIn K (.ref f) = true
theorem XeIn.by {K : PySem.W.Frag} {x fl q : Str} {st : Stmt} {C f : Addr} {oc : Value} {od an : Option Addr} {sl : Array (Option Value)} {kV dc pm cd ct : Value}
    (a : PySem.W.nsIn K mainGlobals x = some (some (.ref C))) (o : OexC K C)
    (hg : PySem.W.findIn K (.ref C) "__getattribute__" = some (some (.builtin "BaseException.__getattribute__"))) (hk : PySem.W.findIn K (.ref C) "__getattr__" = some none) (hd : PySem.W.hasDictIn K C = true)
    (ha : PySem.W.findIn K (.ref C) "__class__" = some (some (.builtin "object.__class__"))) (hn : PySem.W.specialIn K (.builtin "object.__class__") "__get__" = some (some (.builtin "getset_descriptor.__get__")))
    (ht : PySem.W.takesIn K (.builtin "object.__class__") = some true) (hm : PySem.W.mroIn K C (.type "object") = some true) (no : PySem.W.findIn K (.ref C) fl = some none)
    (iC : PySem.W.findIn K (.ref C) "__init__" = some (some (.ref f))) (tI : PySem.W.typeIn K (.ref f) = some (.type "function"))
    (l : K.lookup f = some ⟨oc, od, .func (PySem.W.fnOf "__init__" q (defArgs st) (defBody st) (defScope st) .none kV dc pm an cd ct), sl⟩) (c : PySem.W.codeIn K cd q = true) (kp : PySem.W.keepIn K (.ref f) = true) : XeIn K x fl q st :=
  ⟨C, f, oc, od, an, sl, kV, dc, pm, cd, ct, a, o, ⟨hg, hk, o.exC, hd, ha, hn, ht, hm⟩, ⟨hg, hk, o.exC, hd⟩, no, iC, tI, l, c, kp⟩
structure XeAt (K : PySem.W.Frag) (mg : Str → Option Value) (x fl q : Str) (st : Stmt) : Prop where
  ex : ∃ (f : Addr) (fd : FuncData), mg x = some (.ref (clsA K x)) ∧ OexC K (clsA K x) ∧ ExcC K (clsA K x) ∧ XfC K (clsA K x) ∧ PySem.W.findIn K (.ref (clsA K x)) fl = some none ∧
    PySem.W.findIn K (.ref (clsA K x)) "__init__" = some (some (.ref f)) ∧ PySem.W.typeIn K (.ref f) = some (.type "function") ∧ Fun K "__init__" q st f fd
theorem XeIn.at {K : PySem.W.Frag} {h : Heap} {mg : Str → Option Value} {x fl q : Str} {st : Stmt} (D : XeIn K x fl q st) (X : K.In h) (G : h.Ns mainGlobals mg) : XeAt K mg x fl q st := by
  obtain ⟨C, f, oc, od, an, sl, kV, dc, pm, cd, ct, a, o, e1, xf, no, iC, tI, l, c, kp⟩ := D.ex
  have e := clsA_of a
  refine ⟨f, PySem.W.fnOf "__init__" q (defArgs st) (defBody st) (defScope st) .none kV dc pm an cd ct, ?_, ?_, ?_, ?_, ?_, ?_, tI, fun_mk l c kp⟩
  · rw [e]
    exact PySem.W.mg_of X G a
  all_goals rw [e]
  all_goals assumption
theorem oex_by {K : PySem.W.Frag} {C : Addr} {nm q N bs bm sn sub ab col dd k0 k1 k2 k3 k5} (l : K.lookup C = some (excClassObj nm q C N bs bm true sn sub ab col dd k0 k1 k2 k3 k5 "ValueError.__new__")) (b : PySem.HandSPX.refsVE bm = true)
    (sa : PySem.W.findIn K (.ref C) "__setattr__" = some (some (.builtin "object.__setattr__"))) (exC : PySem.W.subIn K (.ref C) (.type "BaseException") = some true) (tyC : PySem.W.typeIn K (.ref C) = some (.type "type")) (kC : PySem.W.keepIn K (.ref C) = true) : OexC K C :=
  ⟨⟨nm, q, N, bs, bm, sn, sub, ab, col, dd, k0, k1, k2, k3, k5, l, b⟩, sa, exC, tyC, kC⟩
/-- of two classes: whether the one stands under the other -/
structure PairIn (K : PySem.W.Frag) (x y : Str) (b : Bool) : Prop where
  is : PySem.W.kitOne K (.ref (clsA K x)) (.ref (clsA K y)) = some b
  em : PySem.W.exmOne K (.ref (clsA K x)) (.ref (clsA K y)) = some b
theorem PairIn.by {K : PySem.W.Frag} {x y : Str} {b : Bool} {C D : Addr} (h1 : PySem.W.nsIn K mainGlobals x = some (some (.ref C))) (h2 : PySem.W.nsIn K mainGlobals y = some (some (.ref D)))
    (h3 : PySem.W.kitOne K (.ref C) (.ref D) = some b) (h4 : PySem.W.exmOne K (.ref C) (.ref D) = some b) : PairIn K x y b := by
  have e1 := clsA_of h1
  have e2 := clsA_of h2
  subst e1 e2
  exact ⟨h3, h4⟩
end Vg
namespace Vg
open PySem PySem.Spec PyProof.Rows L2
/-- a def that may raise, as its callers know it -/
structure Fx (P : Program) (w : World) (K : PySem.W.Frag) (mg : Str → Option Value) (base : Heap) (k : Nat) (x : Str) (ps : List Str) (sp : Sp) : Prop where
  ex : ∃ (f : Addr) (fd : FuncData), mg x = some (.ref f) ∧ PySem.W.keepIn K (.ref f) = true ∧ Binds K fd ps [] ∧ FnOk P w K mg base (L2.CX P w) k f fd ps sp
theorem At.fx {P : Program} {w : World} {K : PySem.W.Frag} {mg : Str → Option Value} {base : Heap} {k : Nat} {x : Str} {st : Stmt} {N ps : List Str} {sp : Sp} (D : At K mg x st) (S : FnScope N ps (defScope st))
    (hb : ∀ (kV doc pm : Value) (an : Option Addr) (cdv ct : Value) (us : List Value), us.length = ps.length →
      bindArgs (PySem.W.fnOf x x (defArgs st) (defBody st) (defScope st) .none kV doc pm an cdv ct) ⟨us, []⟩ = pure (ps.zip us))
    (len : ∀ vs H Q E, sp vs H Q E → vs.length = ps.length)
    (body : ∀ (f : Addr) (cdv : Value) (A : Around) (outer : List Env) (s : Shared) (H : Hp) (vs : List V) (Q : VK) (E : XK),
      Room k (A.deeper (envOfC x (defScope st) s.heap.objs.size f cdv)) → sp vs H Q E →
      ∃ t, PSs (cxOf (L2.CX P w) P w K mg base N x (defScope st) f cdv A outer s H E) (defBody st) t ∧ t { nx := fun _ H' => Q .non H', rt := Q } (start N vs) H) :
    Fx P w K mg base (k + 1) x ps sp := by
  obtain ⟨f, fd, hm, F⟩ := D.ex
  exact ⟨f, fd, hm, F.kp, F.binds hb, F.okX S len fun cdv A outer s H vs Q E hr h => body f cdv A outer s H vs Q E hr h⟩
theorem pe_fx {X : Cx} {k : Nat} {ps : List Str} {sp : Sp} {E : XK} {x : Str} {p pos : Pos} {e : Expr} {es : List Expr} {t : TA} (F : Fx X.prog X.w X.K X.mg X.base k x ps sp) (hr : Room k X.A) (hg : Gl X x) (hx : Passes (L2.CX X.prog X.w) X E) (ha : PA X (e :: es) t)
    (hdb : (x == ("__debug__" : Str)) = false := by decide) (he : starEach (e :: es) X.env = (false, eval e X.env) :: starEach es X.env := by rfl)
    (hpl : (backTo pos (starEach es X.env)).any (·.1) = false := by rfl) : PE X (.Call (.Name x p) (e :: es) [] pos) (tCall sp [] E t) := by
  obtain ⟨f, fd, hm, hk, hb, F⟩ := F.ex
  exact pe_call F hr hg hm hk hb .nil hx ha hdb he hpl
/-- the same in a try's body -/
theorem pe_fxS {X : Cx} {W : WX} {k : Nat} {ps : List Str} {sp : Sp} {x : Str} {p pos : Pos} {e : Expr} {es : List Expr} {t : TA} (F : Fx X.prog X.w X.K X.mg X.base k x ps sp) (tk : Takes X W) (hr : Room k X.A) (hg : Gl X x) (ha : PA X (e :: es) t)
    (hdb : (x == ("__debug__" : Str)) = false := by decide) (he : starEach (e :: es) X.env = (false, eval e X.env) :: starEach es X.env := by rfl)
    (hpl : (backTo pos (starEach es X.env)).any (·.1) = false := by rfl) : PE X (.Call (.Name x p) (e :: es) [] pos) (tCallS sp (WE W) t) := by
  obtain ⟨f, fd, hm, hk, hb, F⟩ := F.ex
  exact pe_callS F hr hg hm hk hb (fun σ => passAt tk σ) ha hdb he hpl
/-- a def with a star parameter that may raise -/
structure FxR (P : Program) (w : World) (K : PySem.W.Frag) (mg : Str → Option Value) (base : Heap) (k : Nat) (x : Str) (sp : Sp) : Prop where
  ex : ∃ f : Addr, mg x = some (.ref f) ∧ PySem.W.keepIn K (.ref f) = true ∧ FnR P w K mg base (L2.CX P w) k f sp
theorem At.fxr {P : Program} {w : World} {K : PySem.W.Frag} {mg : Str → Option Value} {base : Heap} {k : Nat} {x : Str} {st : Stmt} {N : List Str} {pv : Str} {sp : Sp} (D : At K mg x st) (S : FnScope N [pv] (defScope st))
    (hb : ∀ (kV doc pm : Value) (an : Option Addr) (cdv ct : Value) (us : List Value),
      bindArgs (PySem.W.fnOf x x (defArgs st) (defBody st) (defScope st) .none kV doc pm an cdv ct) ⟨us, []⟩ = (newTuple us >>= fun t => pure [(pv, t)]))
    (body : ∀ (f : Addr) (cdv : Value) (A : Around) (outer : List Env) (s : Shared) (H : Hp) (vs : List V) (Q : VK) (E : XK),
      Room k (A.deeper (envOfC x (defScope st) s.heap.objs.size f cdv)) → sp vs H Q E →
      ∃ t, PSs (cxOf (L2.CX P w) P w K mg base N x (defScope st) f cdv A outer s H E) (defBody st) t ∧ t { nx := fun _ H' => Q .non H', rt := Q } (start N vs) H) :
    FxR P w K mg base (k + 1) x (fun vs H Q E => vs.length ≤ sizeLine ∧ ∀ p, H p = none → sp [V.ref p] (upd H p (.tup vs)) Q E) := by
  obtain ⟨f, fd, hm, F⟩ := D.ex
  have kp := F.kp
  obtain ⟨oc, od, kV, doc, pm, an, cdv, ct, osl, rfl, lk, hcd⟩ := F.ex
  refine ⟨f, hm, kp, ?_⟩
  have Z := StX.fn_star (P := P) (w := w) (mg := mg) (base := base) (k := k) (ps := []) (pv := pv) (sp := sp) lk hcd S StX.cxUp (fun us rest hl => by
    have e : us = [] := List.length_eq_zero_iff.mp hl
    subst e
    exact hb kV doc pm an cdv ct rest) fun A outer s H vs Q E hr h => body f cdv A outer s H vs Q E hr h
  exact Z.imp fun vs H Q E ⟨h1, h2⟩ => ⟨[], vs, rfl, rfl, h1, h2⟩
theorem pe_fxr {X : Cx} {k : Nat} {sp : Sp} {E : XK} {x : Str} {p pos : Pos} {e : Expr} {es : List Expr} {t : TA} (F : FxR X.prog X.w X.K X.mg X.base k x sp) (hr : Room k X.A) (hg : Gl X x) (hx : Passes (L2.CX X.prog X.w) X E) (ha : PA X (e :: es) t)
    (hdb : (x == ("__debug__" : Str)) = false := by decide) (he : starEach (e :: es) X.env = (false, eval e X.env) :: starEach es X.env := by rfl)
    (hpl : (backTo pos (starEach es X.env)).any (·.1) = false := by rfl) : PE X (.Call (.Name x p) (e :: es) [] pos) (tCall sp [] E t) := by
  obtain ⟨f, hm, hk, F⟩ := F.ex
  constructor
  intro pins s σ H Q I h
  apply wpAny_Call_Name_kw
  apply ld_glob I hg hm ?_ hdb
  refine PySem.W.callWith_K (h₀ := X.base) I.ok.mod.kin hk ?_ he hpl
  refine thn (ha.run pos pins s σ H _ I h) ?_
  rintro us s1 ⟨vs, H1, I1, r, q⟩
  refine ⟨I1.kIn, ?_⟩
  have q' : sp vs H1 Q E := by
    have q0 : sp (vs ++ []) H1 Q E := q
    rw [List.append_nil] at q0
    exact q0
  refine wpAny_call (codeAny_mono (F X.A X.stack s1 H1 us vs Q E hr I1.env0 r q') fun r s' hq => ?_)
  match r, hq with
  | .error e, hq => exact hx pins σ H1 s1 e s' I1 hq
  | .ok (.ret u), hq => exact I1.after hq
  | .ok .next, hq => exact False.elim hq
  | .ok .brk, hq => exact False.elim hq
  | .ok .cont, hq => exact False.elim hq
/-- a refusal of the class x that holds v -/
def Rf (K : PySem.W.Frag) (x : Str) (v : V) (H : Hp) (E : XK) : Prop := ∀ dd H', Same H H' → H' dd = some (.xd [("found", v)]) → E (.ref (clsA K x)) (some dd) H'
theorem Rf.same {K : PySem.W.Frag} {x : Str} {v : V} {H H1 : Hp} {E : XK} (r : Rf K x v H E) (s : Same H H1) : Rf K x v H1 E := fun dd H' s' h => r dd H' (s.trans s') h
def spNeedX0 (K : PySem.W.Frag) : Sp := fun vs H Q E => ∃ (p : Addr) (xs : List V), vs = [.ref p] ∧ H p = some (.tup xs) ∧
  (((∀ x ∈ xs, ∃ d, Dk H x d ∧ fracD d = true) ∧ ∀ H', Same H H' → Q .non H') ∨
    ∃ (i : Nat) (x : V) (d : PyData), xs[i]? = some x ∧ Dk H x d ∧ fracD d = false ∧ (∀ j y, j < i → xs[j]? = some y → ∃ e, Dk H y e ∧ fracD e = true) ∧ Rf K "NoFraction" x H E)
def spNeedX (K : PySem.W.Frag) : Sp := fun vs H Q E => vs.length ≤ sizeLine ∧ ∀ p, H p = none → spNeedX0 K [V.ref p] (upd H p (.tup vs)) Q E
theorem needX_ok {K : PySem.W.Frag} {vs : List V} {H : Hp} {Q : VK} {E : XK} (hl : vs.length ≤ sizeLine) (h : ∀ x ∈ vs, ∃ d, Dk H x d ∧ fracD d = true) (q : ∀ H', Same H H' → Q .non H') : spNeedX K vs H Q E :=
  ⟨hl, fun p hp => ⟨p, vs, rfl, upd_same, .inl ⟨fun x hx => (h x hx).imp fun d z => ⟨z.1.same (Same.new hp), z.2⟩, fun H' s => q H' ((Same.new hp).trans s)⟩⟩⟩
theorem needX_no {K : PySem.W.Frag} {vs : List V} {H : Hp} {Q : VK} {E : XK} {i : Nat} {x : V} {d : PyData} (hl : vs.length ≤ sizeLine) (hx : vs[i]? = some x) (hd : Dk H x d) (hf : fracD d = false)
    (h : ∀ j y, j < i → vs[j]? = some y → ∃ e, Dk H y e ∧ fracD e = true) (r : Rf K "NoFraction" x H E) : spNeedX K vs H Q E :=
  ⟨hl, fun p hp => ⟨p, vs, rfl, upd_same, .inr ⟨i, x, d, hx, hd.same (Same.new hp), hf, fun j y hj hy => (h j y hj hy).imp fun e z => ⟨z.1.same (Same.new hp), z.2⟩, r.same (Same.new hp)⟩⟩⟩
theorem fr_true {i j : Int} (hb : 1 ≤ j) (hg : gcdI i j = 1) : fracD (frD i j) = true := by
  show (decide (1 ≤ j) && decide (gcdI i j = 1)) = true
  rw [decide_eq_true hb, decide_eq_true hg]
  rfl
/-- what is no bound -/
def badN : V → Bool
  | .int N => decide (N < 1)
  | _ => true
def spNbrsX (K : PySem.W.Frag) : Sp := fun vs H Q E => vs.length = 2 ∧ ((∃ x n d, vs = [x, n] ∧ Dk H x d ∧ fracD d = false ∧ Rf K "NoFraction" x H E) ∨
  (∃ p t m n d, vs = [.ref p, n] ∧ FrT H p t m ∧ gcdI t m = 1 ∧ 1 ≤ m ∧ Dk H n d ∧ badN n = true ∧ Rf K "NoNumber" n H E) ∨ spNbrs vs H Q E)
def spAsked : Sp := fun vs H Q _ => vs.length = 2 ∧ ((∃ x n d, vs = [x, n] ∧ Dk H x d ∧ fracD d = false ∧ ∀ y H', Same H H' → H' y = some (.tup [.str "fraction", x]) → Q (.ref y) H') ∨
  (∃ p t m n d, vs = [.ref p, n] ∧ FrT H p t m ∧ gcdI t m = 1 ∧ 1 ≤ m ∧ Dk H n d ∧ badN n = true ∧ ∀ y H', Same H H' → H' y = some (.tup [.str "number", n]) → Q (.ref y) H') ∨
  (∃ (p : Addr) (t m N : Int), vs = [.ref p, .int N] ∧ FrT H p t m ∧ gcdI t m = 1 ∧ 1 ≤ N ∧ 1 ≤ m ∧ Sm t ∧ Sm m ∧
    ∀ (a b c d : Int) (q r s y : Addr) (H' : Hp), NbX t m N a b c d → Same H H' → FrT H' q a b → FrT H' r c d → PrT H' s q r → H' y = some (.tup [.str "told", .ref s]) → Q (.ref y) H'))
end Vg
namespace Vg
open PySem PySem.Spec PyProof.Rows L2
theorem log_lt9 {n : Nat} (h : n < 10 ^ 30) : n.log2 < 1920 := by
  by_cases h0 : n = 0
  · subst h0
    decide
  · have : n < 2 ^ 1920 := Nat.lt_of_lt_of_le h (by decide)
    exact (Nat.log2_lt h0).mpr this
/-- p/q is the greatest number of a bottom up to B that isn't above t/m, q the least bottom of it -/
structure Lo (t m B p q : Int) : Prop where
  q1 : 1 ≤ q
  qB : q ≤ B
  le : p * m ≤ t * q
  best : ∀ a b : Int, 1 ≤ b → b ≤ B → a * m ≤ t * b → a * q ≤ p * b
  least : ∀ a b : Int, 1 ≤ b → b < q → a * m ≤ t * b → a * q < p * b
theorem Lo.start {t m : Int} (hm : 1 ≤ m) : Lo t m 1 (t / m) 1 := by
  refine ⟨by decide, by decide, ?_, ?_, ?_⟩
  · have := Int.ediv_mul_le t (show m ≠ 0 by omega)
    omega
  · intro a b h1 h2 h3
    have e : b = 1 := by omega
    subst e
    have := (Int.le_ediv_iff_mul_le (show 0 < m by omega)).mpr (show a * m ≤ t by omega)
    omega
  · intro a b h1 h2
    omega
theorem Lo.new {t m B p q : Int} (h : Lo t m B p q) (hm : 1 ≤ m) (hc : p * (B + 1) < t * (B + 1) / m * q) : Lo t m (B + 1) (t * (B + 1) / m) (B + 1) := by
  have q1 := h.q1
  have qB := h.qB
  have key : ∀ a b : Int, 1 ≤ b → b ≤ B → a * m ≤ t * b → a * (B + 1) < t * (B + 1) / m * b := by
    intro a b h1 h2 h3
    have k1 := h.best a b h1 h2 h3
    generalize t * (B + 1) / m = P at *
    have k2 : a * q * (B + 1) ≤ p * b * (B + 1) := Int.mul_le_mul_of_nonneg_right k1 (by omega)
    have k3 : p * (B + 1) * b < P * q * b := Int.mul_lt_mul_of_pos_right hc (by omega)
    have k4 : (a * (B + 1)) * q < (P * b) * q := by grind
    exact Int.lt_of_mul_lt_mul_right k4 (by omega)
  refine ⟨by omega, by omega, Int.ediv_mul_le _ (by omega), ?_, ?_⟩
  · intro a b h1 h2 h3
    by_cases e : b = B + 1
    · subst e
      have := (Int.le_ediv_iff_mul_le (show 0 < m by omega)).mpr h3
      exact Int.mul_le_mul_of_nonneg_right this (by omega)
    · exact Int.le_of_lt (key a b h1 (by omega) h3)
  · intro a b h1 h2 h3
    exact key a b h1 (by omega) h3
theorem Lo.keep {t m B p q : Int} (h : Lo t m B p q) (hm : 1 ≤ m) (hc : ¬ p * (B + 1) < t * (B + 1) / m * q) : Lo t m (B + 1) p q := by
  have q1 := h.q1
  have qB := h.qB
  refine ⟨q1, by omega, h.le, ?_, h.least⟩
  intro a b h1 h2 h3
  by_cases e : b = B + 1
  · subst e
    have k := (Int.le_ediv_iff_mul_le (show 0 < m by omega)).mpr h3
    have := Int.mul_le_mul_of_nonneg_right k (show 0 ≤ q by omega)
    omega
  · exact h.best a b h1 (by omega) h3
theorem Lo.same {t m N p q a b c d : Int} (h : Lo t m N p q) (x : NbX t m N a b c d) (hm : 1 ≤ m) (hg : gcdI a b = 1) : p = a ∧ q = b := by
  have q1 := h.q1
  have qB := h.qB
  have hle := h.le
  have b1 : 1 ≤ b ∧ b ≤ N ∧ a * m ≤ t * b := by
    rcases x with ⟨l, e1, e2, e3, e4⟩ | ⟨l, n, s⟩
    · subst e1 e2
      exact ⟨hm, l, Int.le_refl _⟩
    · have := n.u
      exact ⟨n.b1, n.bN, by omega⟩
  have k1 := h.best a b b1.1 b1.2.1 b1.2.2
  have k2 : p * b ≤ a * q := by
    rcases x with ⟨l, e1, e2, e3, e4⟩ | ⟨l, n, s⟩
    · subst e1 e2
      exact hle
    · refine Int.not_lt.mp fun z => ?_
      have v := n.v
      have d1 := n.d1
      have g := n.g
      have s1 : 0 < c * q - p * d := by
        have e : m * (c * q - p * d) = q * (c * m - t * d) + d * (t * q - p * m) := by grind
        have p1 : 0 < q * (c * m - t * d) := Int.mul_pos (by omega) v
        have p2 : 0 ≤ d * (t * q - p * m) := Int.mul_nonneg (by omega) (by omega)
        have : 0 < m * (c * q - p * d) := by omega
        exact Int.pos_of_mul_pos_right this (by omega)
      have e : (p * b - a * q) * d + (c * q - p * d) * b = q * (c * b - a * d) := by grind
      rw [g, Int.mul_one] at e
      have x1 := mul_ge (x := p * b - a * q) (y := d) (by omega) (by omega)
      have x2 := mul_ge (x := c * q - p * d) (y := b) (by omega) (by omega)
      omega
  have e : a * q = p * b := by omega
  have le1 : q ≤ b := by
    refine Int.not_lt.mp fun z => ?_
    have := h.least a b b1.1 z b1.2.2
    omega
  have le2 : b ≤ q := by
    have d1 : b ∣ a * q := ⟨p, by rw [e, Int.mul_comm]⟩
    have d2 : b.natAbs ∣ a.natAbs * q.natAbs := by
      rw [← Int.natAbs_mul]
      exact Int.natAbs_dvd_natAbs.mpr d1
    have cop : Nat.Coprime b.natAbs a.natAbs := by
      unfold gcdI at hg
      have : Nat.gcd a.natAbs b.natAbs = 1 := by exact_mod_cast hg
      rw [Nat.gcd_comm] at this
      exact this
    have := Nat.le_of_dvd (by omega) (cop.dvd_of_dvd_mul_left d2)
    omega
  have eb : q = b := by omega
  subst eb
  exact ⟨(Int.eq_of_mul_eq_mul_right (by omega) e).symm, rfl⟩
theorem NbX.flip {t m N a b c d : Int} (h : NbX t m N a b c d) : NbX (-t) m N (-c) d (-a) b := by
  rcases h with ⟨l, rfl, rfl, rfl, rfl⟩ | ⟨l, n, s⟩
  · exact .inl ⟨l, rfl, rfl, rfl, rfl⟩
  · exact .inr ⟨l, n.flip, by omega⟩
def spDue : Sp := fun vs H Q _ => ∃ (x : Addr) (t m N a b c d : Int), vs = [.ref x, .int N] ∧ FrT H x t m ∧ gcdI t m = 1 ∧ 1 ≤ m ∧ m ≤ 10000 ∧ -10000 ≤ t ∧ t ≤ 10000 ∧ 1 ≤ N ∧ N ≤ 1000 ∧ NbX t m N a b c d ∧
  ∀ (q r s : Addr) (H' : Hp), Same H H' → FrT H' q a b → FrT H' r c d → PrT H' s q r → Q (.ref s) H'
def toldD (a b c d : Int) : PyData := .tuple [.str "told", prD a b c d]
theorem told_dp {K : PySem.W.Frag} {H : Hp} {y p q r : Addr} {a b c d : Int} (h : H y = some (.tup [.str "told", .ref p])) (hp : PrT H p q r) (hq : FrT H q a b) (hr : FrT H r c d) : Dp K H (.ref y) (toldD a b c d) :=
  .tup (SqT.of h) (.cons (.str _) (.cons (PrT.dp hp hq hr) .nil))
theorem int_short {i : Int} (h : -100000 ≤ i ∧ i ≤ 100000) : (PyData.int i).showable = true ∧ PyData.leavesShort 13 (.int i) = true := by
  have hn : i.natAbs < 10 ^ 12 := Nat.lt_of_le_of_lt (show i.natAbs ≤ 100000 by omega) (by decide)
  constructor
  · simp only [PyData.showable]
    exact decide_eq_true (Vg.log_lt9 (Nat.lt_trans hn (by decide)))
  · simp only [PyData.leavesShort]
    exact decide_eq_true (PyData.shown_int_le hn)
theorem told_text {a b c d : Int} (ha : -100000 ≤ a ∧ a ≤ 100000) (hb : -100000 ≤ b ∧ b ≤ 100000) (hc : -100000 ≤ c ∧ c ≤ 100000) (hd : -100000 ≤ d ∧ d ≤ 100000) :
    (toldD a b c d).showable = true ∧ (toldD a b c d).depth ≤ 50 ∧ (toldD a b c d).shown.length ≤ sizeLine := by
  obtain ⟨a1, a2⟩ := int_short ha
  obtain ⟨b1, b2⟩ := int_short hb
  obtain ⟨c1, c2⟩ := int_short hc
  obtain ⟨d1, d2⟩ := int_short hd
  refine ⟨?_, ?_, ?_⟩
  · simp [toldD, prD, frD, PyData.showable, PyData.showableAll] at a1 b1 c1 d1 ⊢
    exact ⟨⟨a1, b1⟩, c1, d1⟩
  · simp [toldD, prD, frD, PyData.depth, PyData.depthAll]
  · refine PyData.shown_fits (B := 13) (by decide) (by decide) ?_ ?_
    · simp only [PyData.leavesShort] at a2 b2 c2 d2
      simp only [toldD, prD, frD, PyData.leavesShort, PyData.leavesShortAll, a2, b2, c2, d2, Bool.and_true]
      decide +kernel
    · simp [PyData.showable] at a1 b1 c1 d1
      have hs : (Str.ofString "told").cps.size = 4 := by decide +kernel
      simp [toldD, prD, frD, PyData.weight, PyData.weightAll]
      rw [hs]
      split <;> split <;> split <;> split <;> omega
end Vg
namespace Vg
open PySem PySem.Spec PyProof.Rows L2
mutual
theorem dq_dp {K : PySem.W.Frag} {ok : Addr → Prop} {H : Hp} : ∀ {v : V} {d : PyData}, Dq ok H v d → d.hasDict = false → Dp K H v d
  | _, _, .non, _ => .non
  | _, _, .bl b, _ => .bl b
  | _, _, .int i, _ => .int i
  | _, _, .str x, _ => .str x
  | _, _, .lst o h r, e => .lst (SqL.of h) (dql_dp r (by simpa [PyData.hasDict] using e))
  | _, _, .tup o h r, e => .tup (SqT.of h) (dql_dp r (by simpa [PyData.hasDict] using e))
  | _, _, .dct o h k r, e => by simp [PyData.hasDict] at e
theorem dql_dp {K : PySem.W.Frag} {ok : Addr → Prop} {H : Hp} : ∀ {vs : List V} {ds : List PyData}, DqL ok H vs ds → PyData.hasDictAll ds = false → DpAll K H vs ds
  | _, _, .nil, _ => .nil
  | _, _, .cons h r, e => by
    have e' := Bool.or_eq_false_iff.mp (show (PyData.hasDict _ || PyData.hasDictAll _) = false by simpa [PyData.hasDictAll] using e)
    exact .cons (dq_dp h e'.1) (dql_dp r e'.2)
end
def notList : PyData → Bool
  | .list _ => false
  | _ => true
def textB (d : PyData) : Bool := d.showable && decide (d.depth ≤ 50) && decide (d.shown.length ≤ sizeLine)
def immB (d : PyData) : Bool := notList d && !d.hasDict && textB d
/-- a thing that may be handed in and put into: j sevens are put into it, if it is a list -/
inductive Th (ok : Addr → Prop) (pr : PyData → Bool) (H : Hp) : V → Nat → Prop
  | imm {v : V} {d : PyData} {j : Nat} (h : Dq ok H v d) (hi : immB d = true) (hp : pr d = true) : Th ok pr H v j
  | nums {a : Addr} {zs : List Int} {j : Nat} (o : ok a) (h : H a = some (.lst ((zs ++ List.replicate j 7).map V.int))) (hz : zs = [1, 2] ∨ zs = [5]) : Th ok pr H (.ref a) j
  | nest {a b : Addr} {j : Nat} (o : ok a) (ob : ok b) (h : H a = some (.lst (.ref b :: (List.replicate j 7).map V.int))) (hb : H b = some (.tup [.int 1, .int 2])) : Th ok pr H (.ref a) j
  | dct {a : Addr} {j : Nat} (o : ok a) (h : H a = some (.dK [])) : Th ok pr H (.ref a) j
theorem Th.mono {ok : Addr → Prop} {pr : PyData → Bool} {H H' : Hp} {v : V} {j : Nat} (h : Th ok pr H v j) (s : ∀ b o, ok b → H b = some o → H' b = some o) : Th ok pr H' v j := by
  cases h with
  | imm h hi hp => exact .imm (h.mono s fun a o k _ => k) hi hp
  | nums o h hz => exact .nums o (s _ _ o h) hz
  | nest o ob h hb => exact .nest o ob (s _ _ o h) (s _ _ ob hb)
  | dct o h => exact .dct o (s _ _ o h)
theorem dql_ints {ok : Addr → Prop} {H : Hp} : ∀ zs : List Int, DqL ok H (zs.map V.int) (zs.map PyData.int)
  | [] => .nil
  | z :: zs => .cons (.int z) (dql_ints zs)
/-- its data -/
theorem Th.dk {ok : Addr → Prop} {pr : PyData → Bool} {H : Hp} {v : V} {j : Nat} (h : Th ok pr H v j) (hj : j ≤ 3) : ∃ d, Dk H v d ∧ (∀ K : PySem.W.Frag, Dr K H v d) ∧ d.showable = true ∧ d.depth ≤ 50 ∧ d.shown.length ≤ sizeLine ∧ (fracD d = false ∨ pr d = true) := by
  have txt : ∀ d, textB d = true → d.showable = true ∧ d.depth ≤ 50 ∧ d.shown.length ≤ sizeLine := fun d e => by
    have e1 := Bool.and_eq_true_iff.mp e
    have e2 := Bool.and_eq_true_iff.mp e1.1
    exact ⟨e2.1, of_decide_eq_true e2.2, of_decide_eq_true e1.2⟩
  have jj : j = 0 ∨ j = 1 ∨ j = 2 ∨ j = 3 := by omega
  cases h with
  | @imm v d _ h hi hp =>
    have e1 := Bool.and_eq_true_iff.mp hi
    have e2 := Bool.and_eq_true_iff.mp e1.1
    obtain ⟨t1, t2, t3⟩ := txt d e1.2
    exact ⟨d, ⟨_, h⟩, fun K => .inl (dq_dp h (by simpa using e2.2)), t1, t2, t3, .inr hp⟩
  | @nums a zs _ o h hz =>
    have q : Dq ok H (.ref a) (.list ((zs ++ List.replicate j 7).map PyData.int)) := .lst o h (dql_ints _)
    have t : textB (.list ((zs ++ List.replicate j 7).map PyData.int)) = true ∧ PyData.hasDict (.list ((zs ++ List.replicate j 7).map PyData.int)) = false := by
      rcases hz with rfl | rfl <;> rcases jj with rfl | rfl | rfl | rfl <;> decide +kernel
    obtain ⟨t1, t2, t3⟩ := txt _ t.1
    exact ⟨_, ⟨_, q⟩, fun K => .inl (dq_dp q t.2), t1, t2, t3, .inl rfl⟩
  | @nest a b _ o ob h hb =>
    have q : Dq ok H (.ref a) (.list (.tuple [.int 1, .int 2] :: (List.replicate j 7).map PyData.int)) := .lst o h (.cons (.tup ob hb (.cons (.int 1) (.cons (.int 2) .nil))) (dql_ints _))
    have t : textB (.list (.tuple [.int 1, .int 2] :: (List.replicate j 7).map PyData.int)) = true ∧ PyData.hasDict (.list (.tuple [.int 1, .int 2] :: (List.replicate j 7).map PyData.int)) = false := by
      rcases jj with rfl | rfl | rfl | rfl <;> decide +kernel
    obtain ⟨t1, t2, t3⟩ := txt _ t.1
    exact ⟨_, ⟨_, q⟩, fun K => .inl (dq_dp q t.2), t1, t2, t3, .inl rfl⟩
  | @dct a _ o h =>
    obtain ⟨t1, t2, t3⟩ := txt (.dict []) (by decide +kernel)
    exact ⟨.dict [], ⟨_, .dct (es := []) o h rfl .nil⟩, fun K => .inr ⟨a, [], [], rfl, rfl, h, .nil⟩, t1, t2, t3, .inl rfl⟩
/-- whether it is a list, and what putting a seven into it makes of it -/
theorem Th.put {ok : Addr → Prop} {pr : PyData → Bool} {K : PySem.W.Frag} {H : Hp} {v : V} {j : Nat} (h : Th ok pr H v j) (hj : j ≤ 3) : ∃ n b, Tn K H v n ∧ kitB n "list" = some b ∧ (b = false → Th ok pr H v (j + 1)) ∧
    (b = true → ∃ a xs, v = .ref a ∧ ok a ∧ H a = some (.lst xs) ∧ xs.length ≤ 100 ∧ Th ok pr (upd H a (.lst (xs ++ [.int 7]))) v (j + 1)) := by
  have rep : ∀ zs : List Int, (zs ++ List.replicate j 7).map V.int ++ [V.int 7] = (zs ++ List.replicate (j + 1) 7).map V.int := fun zs => by
    rw [List.replicate_succ', ← List.append_assoc, List.map_append (l₁ := zs ++ List.replicate j 7)]
    rfl
  cases h with
  | @imm v d _ h hi hp =>
    have e1 := Bool.and_eq_true_iff.mp hi
    have e2 := Bool.and_eq_true_iff.mp e1.1
    have nl := e2.1
    cases h with
    | non => exact ⟨_, false, .non, by decide +kernel, fun _ => .imm .non hi hp, fun z => Bool.noConfusion z⟩
    | bl b => exact ⟨_, false, .bl b, by decide +kernel, fun _ => .imm (.bl b) hi hp, fun z => Bool.noConfusion z⟩
    | int b => exact ⟨_, false, .int b, by decide +kernel, fun _ => .imm (.int b) hi hp, fun z => Bool.noConfusion z⟩
    | str b => exact ⟨_, false, .str b, by decide +kernel, fun _ => .imm (.str b) hi hp, fun z => Bool.noConfusion z⟩
    | lst o h r => cases nl
    | tup o h r => exact ⟨_, false, .tup h, by decide +kernel, fun _ => .imm (.tup o h r) hi hp, fun z => Bool.noConfusion z⟩
    | dct o h k r => exact ⟨_, false, .dct h, by decide +kernel, fun _ => .imm (.dct o h k r) hi hp, fun z => Bool.noConfusion z⟩
  | @nums a zs _ o h hz =>
    refine ⟨_, true, .lst h, by decide +kernel, fun z => Bool.noConfusion z, fun _ => ⟨a, _, rfl, o, h, ?_, .nums (zs := zs) o ?_ hz⟩⟩
    · rcases hz with rfl | rfl <;> simp <;> omega
    · rw [upd_same]
      exact congrArg (fun l => some (HO.lst l)) (rep zs)
  | @nest a b _ o ob h hb =>
    have ne : b ≠ a := fun z => by
      rw [z, h] at hb
      cases hb
    refine ⟨_, true, .lst h, by decide +kernel, fun z => Bool.noConfusion z, fun _ => ⟨a, _, rfl, o, h, by simp; omega, .nest (b := b) o ob ?_ (by rw [upd_ne ne]; exact hb)⟩⟩
    rw [upd_same]
    have e := rep []
    rw [List.nil_append, List.nil_append] at e
    exact congrArg (fun l => some (HO.lst (V.ref b :: l))) e
  | @dct a _ o h => exact ⟨_, false, .dct h, by decide +kernel, fun _ => .dct o h, fun z => Bool.noConfusion z⟩
/-- what is drawn of the told things -/
def thD : PyData → Bool
  | .list [.int 1, .int 2] => true
  | .list [.int 5] => true
  | .list [.tuple [.int 1, .int 2]] => true
  | .dict [] => true
  | d => immB d
theorem th_of {ok : Addr → Prop} {pr : PyData → Bool} {H : Hp} {v : V} {d : PyData} (h : Dq ok H v d) (ht : thD d = true) (hp : pr d = true) : Th ok pr H v 0 := by
  unfold thD at ht
  split at ht
  · cases h with
    | lst o h r =>
      cases r with
      | cons r1 r =>
        cases r with
        | cons r2 r =>
          cases r
          cases r1
          cases r2
          exact .nums (zs := [1, 2]) o h (.inl rfl)
  · cases h with
    | lst o h r =>
      cases r with
      | cons r1 r =>
        cases r
        cases r1
        exact .nums (zs := [5]) o h (.inr rfl)
  · cases h with
    | lst o h r =>
      cases r with
      | cons r1 r =>
        cases r
        cases r1 with
        | tup ob hb rb =>
          cases rb with
          | cons r1 r =>
            cases r with
            | cons r2 r =>
              cases r
              cases r1
              cases r2
              exact .nest o ob h hb
  · cases h with
    | @dct a kvs es o h k r =>
      have : kvs = [] := by
        cases kvs with
        | nil => rfl
        | cons x y => simp at k
      subst this
      exact .dct o h
  · exact .imm h ht hp
def badD : PyData → Bool
  | .int i => decide (i < 1)
  | _ => true
theorem dq_bad {ok : Addr → Prop} {H : Hp} {v : V} {d : PyData} (h : Dq ok H v d) (hb : badD d = true) : badN v = true := by
  cases h <;> first | rfl | exact hb
theorem sq_ix {te ti : TE} {r : R2} {i : Nat} {u : TS} {D : Ends} {σ : L2.St} {H : Hp} {d : PyData} (h : Mk1 te d)
    (k : ∀ v H', Same H H' → Dq (fun a => H a = none) H' v d → ti σ H' fun y H2 => r v y H2 fun z H3 => u D (σ.set i (some z)) H3) : tSeq (tAsg (tOp r te ti) (gName i)) u D σ H := h σ H _ k
theorem fr_ne {H : Hp} {p y : Addr} {xs : List V} {n : Nat} (h : H y = some (.tup xs)) (z : Pz H p n) : y ≠ p := by
  rintro rfl
  obtain ⟨l, h1, _⟩ := z
  rw [h] at h1
  cases h1
def spRefR : Sp := fun vs H Q _ => ∃ (p x : Addr) (t m N : Int) (n : Nat), vs = [.ref p, .ref x, .int N] ∧ Pz H p (n + 2) ∧ FrT H x t m ∧ gcdI t m = 1 ∧ 1 ≤ m ∧ ∀ H', But p H H' → Pz H' p n → Q (.bl true) H'
end Vg
namespace Ab
open PySem PySem.Spec PyProof.Rows L2 Vg
/-! cells: what a value is, when heaps are left out -/
inductive Cl
  | dat (d : PyData)
  | at (a : Addr)
  | raw (v : V)
  | scr (ns : List Int)
  | lis (cs : List Cl)
  | tup (cs : List Cl)
  | exc (a dd : Addr) (f : Str) (c : Cl)
  | con (d : PyData)
/-- a constant of a module: a tuple of such, or a plain value; conC: its cell -/
def conC : PyData → Cl
  | .tuple ds => .con (.tuple ds)
  | d => .dat d
mutual
inductive Kq (K : PySem.W.Frag) : V → PyData → Prop
  | non : Kq K .non .none
  | bl (b : Bool) : Kq K (.bl b) (.bool b)
  | int (i : Int) : Kq K (.int i) (.int i)
  | str (x : Str) : Kq K (.str x) (.str x)
  | tup {a : Addr} {o : Obj} {its : Array Value} {n : Nat} {xs : List V} {ds : List PyData} (e : K.lookup a = some o) (c : o.cls = .type "tuple") (d : o.data = .seq its n) (z : its.size ≤ sizeLine) (r : Vals xs its.toList) (q : KqL K xs ds) : Kq K (.ref a) (.tuple ds)
inductive KqL (K : PySem.W.Frag) : List V → List PyData → Prop
  | nil : KqL K [] []
  | cons {v : V} {vs : List V} {d : PyData} {ds : List PyData} (h : Kq K v d) (r : KqL K vs ds) : KqL K (v :: vs) (d :: ds)
end
mutual
theorem Kq.dp {K : PySem.W.Frag} {H : Hp} : ∀ {v : V} {d : PyData}, Kq K v d → Dp K H v d
  | _, _, .non => .non
  | _, _, .bl b => .bl b
  | _, _, .int i => .int i
  | _, _, .str x => .str x
  | _, _, .tup e c d z r q => .tup (.inr ⟨_, _, _, e, c, d, z, r⟩) (KqL.dp q)
theorem KqL.dp {K : PySem.W.Frag} {H : Hp} : ∀ {vs : List V} {ds : List PyData}, KqL K vs ds → DpAll K H vs ds
  | _, _, .nil => .nil
  | _, _, .cons h r => .cons (Kq.dp h) (KqL.dp r)
end
/-- what an object that is owned holds -/
inductive Ow
  | lst (cs : List Cl)
  | dct (es : List (Key × Cl))
  | pur (n : Nat)
abbrev Ob := List (Addr × Ow)
abbrev Rho := List (Option Cl)
/-- not owned -/
def fre (O : Ob) : Addr → Prop := fun b => ∀ x ∈ O, x.1 ≠ b
mutual
inductive ClH (K : PySem.W.Frag) (ok : Addr → Prop) (H : Hp) : V → Cl → Prop
  | dat {v : V} {d : PyData} (h : Dq ok H v d) : ClH K ok H v (.dat d)
  | at (a : Addr) : ClH K ok H (.ref a) (.at a)
  | raw (v : V) : ClH K ok H v (.raw v)
  | scr {a : Addr} {ns : List Int} (h : SqL K H a (ns.map V.int)) (o : (∃ u, H a = some u ∧ ok a) ∨ ∀ H', SqL K H' a (ns.map V.int)) : ClH K ok H (.ref a) (.scr ns)
  | lis {a : Addr} {xs : List V} {cs : List Cl} (o : ok a) (h : H a = some (.lst xs)) (r : ClsH K ok H xs cs) : ClH K ok H (.ref a) (.lis cs)
  | tup {a : Addr} {xs : List V} {cs : List Cl} (o : ok a) (h : H a = some (.tup xs)) (r : ClsH K ok H xs cs) : ClH K ok H (.ref a) (.tup cs)
  | exc {a dd : Addr} {f : Str} {v : V} {c : Cl} (o : ok dd) (h : H dd = some (.xd [(f, v)])) (r : ClH K ok H v c) : ClH K ok H (.ref a) (.exc a dd f c)
  | con {v : V} {d : PyData} (h : Kq K v d) : ClH K ok H v (.con d)
inductive ClsH (K : PySem.W.Frag) (ok : Addr → Prop) (H : Hp) : List V → List Cl → Prop
  | nil : ClsH K ok H [] []
  | cons {v : V} {vs : List V} {c : Cl} {cs : List Cl} (h : ClH K ok H v c) (r : ClsH K ok H vs cs) : ClsH K ok H (v :: vs) (c :: cs)
end
theorem sql_mono {K : PySem.W.Frag} {H H' : Hp} {a : Addr} {xs : List V} (h : SqL K H a xs) (s : ∀ o, H a = some o → H' a = some o) : SqL K H' a xs := by
  rcases h with (h | ⟨o, h⟩) | h
  · exact .inl (.inl (s _ h))
  · exact .inl (.inr ⟨o, s _ h⟩)
  · exact .inr h
/-- the heap goes on: what isn't owned stays -/
structure Fr (O : Ob) (H : Hp) (O' : Ob) (H' : Hp) : Prop where
  keep : ∀ b o, fre O b → H b = some o → H' b = some o
  free : ∀ b o, fre O b → H b = some o → fre O' b
  dom : ∀ b, H' b = none → H b = none
theorem Fr.refl (O : Ob) (H : Hp) : Fr O H O H := ⟨fun _ _ _ h => h, fun _ _ h _ => h, fun _ h => h⟩
theorem Fr.trans {O O1 O2 : Ob} {H H1 H2 : Hp} (a : Fr O H O1 H1) (b : Fr O1 H1 O2 H2) : Fr O H O2 H2 :=
  ⟨fun c o f h => b.keep c o (a.free c o f h) (a.keep c o f h), fun c o f h => b.free c o (a.free c o f h) (a.keep c o f h), fun c h => a.dom c (b.dom c h)⟩
section
variable {K : PySem.W.Frag}
theorem Dq.fr {O O' : Ob} {H H' : Hp} (f : Fr O H O' H') {v : V} {d : PyData} (h : Dq (fre O) H v d) : Dq (fre O') H' v d :=
  h.mono (fun a o k e => f.keep a o k e) fun a o k e => f.free a o k e
mutual
theorem ClH.mono {ok ok' : Addr → Prop} {H H' : Hp} (s : ∀ a o, ok a → H a = some o → H' a = some o) (w : ∀ a o, ok a → H a = some o → ok' a) : ∀ {v : V} {c : Cl}, ClH K ok H v c → ClH K ok' H' v c
  | _, _, .dat h => .dat (h.mono s w)
  | _, _, .at a => .at a
  | _, _, .raw v => .raw v
  | _, _, .scr h (.inl ⟨u, e, o⟩) => .scr (sql_mono h fun u e => s _ _ o e) (.inl ⟨u, s _ _ o e, w _ _ o e⟩)
  | _, _, .scr h (.inr k) => .scr (k _) (.inr k)
  | _, _, .lis o h r => .lis (w _ _ o h) (s _ _ o h) (ClsH.mono s w r)
  | _, _, .tup o h r => .tup (w _ _ o h) (s _ _ o h) (ClsH.mono s w r)
  | _, _, .exc o h r => .exc (w _ _ o h) (s _ _ o h) (ClH.mono s w r)
  | _, _, .con h => .con h
theorem ClsH.mono {ok ok' : Addr → Prop} {H H' : Hp} (s : ∀ a o, ok a → H a = some o → H' a = some o) (w : ∀ a o, ok a → H a = some o → ok' a) : ∀ {vs : List V} {cs : List Cl}, ClsH K ok H vs cs → ClsH K ok' H' vs cs
  | _, _, .nil => .nil
  | _, _, .cons h r => .cons (ClH.mono s w h) (ClsH.mono s w r)
end
theorem ClH.fr {O O' : Ob} {H H' : Hp} (f : Fr O H O' H') {v : V} {c : Cl} (h : ClH K (fre O) H v c) : ClH K (fre O') H' v c := h.mono f.keep f.free
theorem ClsH.fr {O O' : Ob} {H H' : Hp} (f : Fr O H O' H') {vs : List V} {cs : List Cl} (h : ClsH K (fre O) H vs cs) : ClsH K (fre O') H' vs cs := h.mono f.keep f.free
theorem ClsH.len {ok : Addr → Prop} {H : Hp} : ∀ {vs : List V} {cs : List Cl}, ClsH K ok H vs cs → vs.length = cs.length
  | _, _, .nil => rfl
  | _, _, .cons _ r => congrArg Nat.succ (ClsH.len r)
theorem ClsH.get {ok : Addr → Prop} {H : Hp} : ∀ {vs : List V} {cs : List Cl} {i : Nat} {c : Cl}, ClsH K ok H vs cs → cs[i]? = some c → ∃ v, vs[i]? = some v ∧ ClH K ok H v c
  | _, _, i, _, .nil, e => by simp at e
  | _, _, 0, _, .cons h _, e => by
    simp at e
    subst e
    exact ⟨_, rfl, h⟩
  | _, _, i + 1, d, .cons _ r, e => by
    obtain ⟨v, h1, h2⟩ := ClsH.get (i := i) (c := d) r (by simpa using e)
    exact ⟨v, by simpa using h1, h2⟩
theorem ClsH.app {ok : Addr → Prop} {H : Hp} : ∀ {vs ws : List V} {cs es : List Cl}, ClsH K ok H vs cs → ClsH K ok H ws es → ClsH K ok H (vs ++ ws) (cs ++ es)
  | _, _, _, _, .nil, b => b
  | _, _, _, _, .cons h r, b => .cons h (ClsH.app r b)
theorem ClsH.dats {ok : Addr → Prop} {H : Hp} : ∀ {vs : List V} {ds : List PyData}, DqL ok H vs ds → ClsH K ok H vs (ds.map .dat)
  | _, _, .nil => .nil
  | _, _, .cons h r => .cons (.dat h) (ClsH.dats r)
theorem Kq.cl {ok : Addr → Prop} {H : Hp} : ∀ {v : V} {d : PyData}, Kq K v d → ClH K ok H v (conC d)
  | _, _, .non => .dat .non
  | _, _, .bl b => .dat (.bl b)
  | _, _, .int i => .dat (.int i)
  | _, _, .str x => .dat (.str x)
  | _, _, .tup e c d z r q => .con (.tup e c d z r q)
theorem KqL.cl {ok : Addr → Prop} {H : Hp} : ∀ {vs : List V} {ds : List PyData}, KqL K vs ds → ClsH K ok H vs (ds.map conC)
  | _, _, .nil => .nil
  | _, _, .cons h r => .cons (Kq.cl h) (KqL.cl r)
theorem ClsH.undat {ok : Addr → Prop} {H : Hp} : ∀ {vs : List V} {ds : List PyData}, ClsH K ok H vs (ds.map .dat) → DqL ok H vs ds
  | _, [], .nil => .nil
  | _, _ :: _, .cons (.dat h) r => .cons h (ClsH.undat r)
def OwH (K : PySem.W.Frag) (ok : Addr → Prop) (H : Hp) (a : Addr) : Ow → Prop
  | .lst cs => ∃ xs, H a = some (.lst xs) ∧ ClsH K ok H xs cs
  | .dct es => ∃ kvs : List (Key × V), H a = some (.dK kvs) ∧ kvs.map (·.1) = es.map (·.1) ∧ ClsH K ok H (kvs.map (·.2)) (es.map (·.2))
  | .pur n => Pz H a n
theorem OwH.there {ok : Addr → Prop} {H : Hp} {a : Addr} {w : Ow} (h : OwH K ok H a w) : ∃ u, H a = some u := by
  cases w with
  | lst cs => obtain ⟨xs, h, _⟩ := h; exact ⟨_, h⟩
  | dct es => obtain ⟨xs, h, _⟩ := h; exact ⟨_, h⟩
  | pur n => obtain ⟨xs, h, _⟩ := h; exact ⟨_, h⟩
theorem OwH.mono {ok ok' : Addr → Prop} {H H' : Hp} {a : Addr} {w : Ow} (h : OwH K ok H a w) (s : ∀ a o, ok a → H a = some o → H' a = some o) (k : ∀ a o, ok a → H a = some o → ok' a) (e : H' a = H a) : OwH K ok' H' a w := by
  cases w with
  | lst cs => obtain ⟨xs, h, r⟩ := h; exact ⟨xs, e.trans h, r.mono s k⟩
  | dct es => obtain ⟨xs, h, q, r⟩ := h; exact ⟨xs, e.trans h, q, r.mono s k⟩
  | pur n => obtain ⟨xs, h, r⟩ := h; exact ⟨xs, e.trans h, r⟩
structure OkO (K : PySem.W.Frag) (O : Ob) (H : Hp) : Prop where
  nd : (O.map (·.1)).Nodup
  all : ∀ x ∈ O, OwH K (fre O) H x.1 x.2
theorem okO_nil {H : Hp} : OkO K [] H := ⟨List.nodup_nil, fun x h => by cases h⟩
/-- the state of a frame -/
structure Ss (K : PySem.W.Frag) (O : Ob) (ρ : Rho) (σ : L2.St) (H : Hp) : Prop where
  o : OkO K O H
  len : σ.length = ρ.length
  at_ : ∀ (i : Nat) (c : Cl), ρ[i]? = some (some c) → ∃ v, σ[i]? = some (some v) ∧ ClH K (fre O) H v c
theorem Ss.go {O O' : Ob} {ρ : Rho} {σ : L2.St} {H H' : Hp} (S : Ss K O ρ σ H) (f : Fr O H O' H') (o : OkO K O' H') : Ss K O' ρ σ H' :=
  ⟨o, S.len, fun i c e => (S.at_ i c e).imp fun v z => ⟨z.1, z.2.fr f⟩⟩
theorem Ss.set {O : Ob} {ρ : Rho} {σ : L2.St} {H : Hp} {v : V} {c : Cl} {i : Nat} (S : Ss K O ρ σ H) (h : ClH K (fre O) H v c) : Ss K O (ρ.set i (some c)) (σ.set i (some v)) H := by
  refine ⟨S.o, by rw [List.length_set, List.length_set, S.len], fun j d e => ?_⟩
  rw [List.getElem?_set] at e ⊢
  by_cases hij : i = j
  · rw [if_pos hij] at e ⊢
    rw [S.len]
    split at e
    · rw [if_pos (by assumption)]
      cases e
      exact ⟨v, rfl, h⟩
    · cases e
  · rw [if_neg hij] at e ⊢
    exact S.at_ j d e
theorem Ss.drop {O : Ob} {ρ : Rho} {σ : L2.St} {H : Hp} {i : Nat} (S : Ss K O ρ σ H) : Ss K O (ρ.set i none) (σ.set i none) H := by
  refine ⟨S.o, by rw [List.length_set, List.length_set, S.len], fun j d e => ?_⟩
  rw [List.getElem?_set] at e ⊢
  by_cases hij : i = j
  · rw [if_pos hij] at e
    split at e <;> cases e
  · rw [if_neg hij] at e ⊢
    exact S.at_ j d e
abbrev KC := Ob → Cl → Prop
abbrev XC := Ob → Rho → Str → Cl → Prop
/-- the field of a refusal -/
def fld (x : Str) : Str := if x = "TooMany" then "many" else if x = "NoText" then "line" else "found"
def QOk (K : PySem.W.Frag) (O : Ob) (H : Hp) (Kc : KC) (Q : VK) : Prop := ∀ O' c v H', Fr O H O' H' → OkO K O' H' → ClH K (fre O') H' v c → Kc O' c → Q v H'
def XOk (K : PySem.W.Frag) (O : Ob) (H : Hp) (XX : XC) (W : WX) : Prop := ∀ O' ρ' σ' x c v H' dd, Fr O H O' H' → Ss K O' ρ' σ' H' → ClH K (fre O') H' v c → H' dd = some (.xd [(fld x, v)]) → fre O' dd → XX O' ρ' x c → W (.ref (clsA K x)) (some dd) σ' H'
theorem QOk.go {O O' : Ob} {H H' : Hp} {Kc : KC} {Q : VK} (q : QOk K O H Kc Q) (f : Fr O H O' H') : QOk K O' H' Kc Q := fun O2 c v H2 g => q O2 c v H2 (f.trans g)
theorem XOk.go {O O' : Ob} {H H' : Hp} {XX : XC} {W : WX} (q : XOk K O H XX W) (f : Fr O H O' H') : XOk K O' H' XX W := fun O2 r s x c v H2 dd g => q O2 r s x c v H2 dd (f.trans g)
abbrev AE := Ob → Rho → XC → KC → Prop
abbrev AA := Ob → Rho → XC → (Ob → List Cl → Prop) → Prop
abbrev AT := Ob → Rho → XC → (Ob → Bool → Prop) → Prop
def SaE (K : PySem.W.Frag) (W : WX) (t : TE) (a : AE) : Prop := ∀ O ρ σ H Q Kc XX, Ss K O ρ σ H → a O ρ XX Kc → QOk K O H Kc Q → XOk K O H XX W → t σ H Q
def SaA (K : PySem.W.Frag) (W : WX) (t : TA) (a : AA) : Prop := ∀ O ρ σ H (Q : List V → Hp → Prop) Kc XX, Ss K O ρ σ H → a O ρ XX Kc →
  (∀ O' cs vs H', Fr O H O' H' → OkO K O' H' → ClsH K (fre O') H' vs cs → Kc O' cs → Q vs H') → XOk K O H XX W → t σ H Q
def SaT (K : PySem.W.Frag) (W : WX) (t : TT) (a : AT) : Prop := ∀ O ρ σ H (Q : Bool → Hp → Prop) Kc XX, Ss K O ρ σ H → a O ρ XX Kc → (∀ O' b H', Fr O H O' H' → OkO K O' H' → Kc O' b → Q b H') → XOk K O H XX W → t σ H Q
/-- the ends of a statement -/
structure AEn where
  nx : Ob → Rho → Prop
  rt : KC
  bk : Ob → Rho → Prop := fun _ _ => False
  ct : Ob → Rho → Prop := fun _ _ => False
abbrev AS := AEn → XC → Ob → Rho → Prop
def NOk (K : PySem.W.Frag) (O : Ob) (H : Hp) (N : Ob → Rho → Prop) (R : L2.St → Hp → Prop) : Prop := ∀ O' ρ' σ' H', Fr O H O' H' → Ss K O' ρ' σ' H' → N O' ρ' → R σ' H'
theorem NOk.go {O O' : Ob} {H H' : Hp} {N : Ob → Rho → Prop} {R : L2.St → Hp → Prop} (q : NOk K O H N R) (f : Fr O H O' H') : NOk K O' H' N R := fun O2 r s H2 g => q O2 r s H2 (f.trans g)
structure EOk (K : PySem.W.Frag) (O : Ob) (H : Hp) (A : AEn) (D : Ends) : Prop where
  nx : NOk K O H A.nx D.nx
  rt : QOk K O H A.rt D.rt
  bk : NOk K O H A.bk D.bk
  ct : NOk K O H A.ct D.ct
theorem EOk.go {O O' : Ob} {H H' : Hp} {A : AEn} {D : Ends} (q : EOk K O H A D) (f : Fr O H O' H') : EOk K O' H' A D := ⟨q.nx.go f, q.rt.go f, q.bk.go f, q.ct.go f⟩
def SaS (K : PySem.W.Frag) (W : WX) (t : TS) (a : AS) : Prop := ∀ O ρ σ H D A XX, Ss K O ρ σ H → a A XX O ρ → EOk K O H A D → XOk K O H XX W → t D σ H
end
/-! ## judgements: the readings that cells make -/
def upE (K : PySem.W.Frag) (W : WX) (a : AE) : TE := fun σ H Q => ∃ O ρ Kc XX, Ss K O ρ σ H ∧ a O ρ XX Kc ∧ QOk K O H Kc Q ∧ XOk K O H XX W
def upA (K : PySem.W.Frag) (W : WX) (a : AA) : TA := fun σ H Q => ∃ O ρ Kc XX, Ss K O ρ σ H ∧ a O ρ XX Kc ∧ (∀ O' cs vs H', Fr O H O' H' → OkO K O' H' → ClsH K (fre O') H' vs cs → Kc O' cs → Q vs H') ∧ XOk K O H XX W
def upT (K : PySem.W.Frag) (W : WX) (a : AT) : TT := fun σ H Q => ∃ O ρ Kc XX, Ss K O ρ σ H ∧ a O ρ XX Kc ∧ (∀ O' b H', Fr O H O' H' → OkO K O' H' → Kc O' b → Q b H') ∧ XOk K O H XX W
def upS (K : PySem.W.Frag) (W : WX) (a : AS) : TS := fun D σ H => ∃ O ρ A XX, Ss K O ρ σ H ∧ a A XX O ρ ∧ EOk K O H A D ∧ XOk K O H XX W
theorem up_e {K : PySem.W.Frag} {W : WX} {a : AE} : SaE K W (upE K W a) a := fun O ρ σ H Q Kc XX S k q x => ⟨O, ρ, Kc, XX, S, k, q, x⟩
theorem up_a {K : PySem.W.Frag} {W : WX} {a : AA} : SaA K W (upA K W a) a := fun O ρ σ H Q Kc XX S k q x => ⟨O, ρ, Kc, XX, S, k, q, x⟩
theorem up_t {K : PySem.W.Frag} {W : WX} {a : AT} : SaT K W (upT K W a) a := fun O ρ σ H Q Kc XX S k q x => ⟨O, ρ, Kc, XX, S, k, q, x⟩
theorem up_s {K : PySem.W.Frag} {W : WX} {a : AS} : SaS K W (upS K W a) a := fun O ρ σ H D A XX S k e x => ⟨O, ρ, A, XX, S, k, e, x⟩
structure DE (X : Cx) (W : WX) (e : Expr) (a : AE) : Prop where
  ex : ∃ t, PE X e t ∧ SaE X.K W t a
structure DA (X : Cx) (W : WX) (es : List Expr) (a : AA) : Prop where
  ex : ∃ t, PA X es t ∧ SaA X.K W t a
structure DT (X : Cx) (W : WX) (e : Expr) (a : AT) : Prop where
  ex : ∃ t, PT X e t ∧ SaT X.K W t a
structure DW (X : Cx) (W : WX) (e : Expr) (a : AT) : Prop where
  ex : ∃ t, PW X e t ∧ SaT X.K W t a
structure DS (X : Cx) (W : WX) (s : Stmt) (a : AS) : Prop where
  ex : ∃ t, PS X s t ∧ SaS X.K W t a
structure DSs (X : Cx) (W : WX) (s : List Stmt) (a : AS) : Prop where
  ex : ∃ t, PSs X s t ∧ SaS X.K W t a
theorem DE.pe {X : Cx} {W : WX} {e : Expr} {a : AE} (h : DE X W e a) : PE X e (upE X.K W a) := by
  obtain ⟨t, p, s⟩ := h.ex
  exact ⟨fun pins s1 σ H Q I ⟨O, ρ, Kc, XX, S, k, q, x⟩ => p.run pins s1 σ H Q I (s O ρ σ H Q Kc XX S k q x)⟩
theorem DT.pt {X : Cx} {W : WX} {e : Expr} {a : AT} (h : DT X W e a) : PT X e (upT X.K W a) := by
  obtain ⟨t, p, s⟩ := h.ex
  exact ⟨fun pins s1 σ H Q I ⟨O, ρ, Kc, XX, S, k, q, x⟩ => p.run pins s1 σ H Q I (s O ρ σ H Q Kc XX S k q x)⟩
theorem DSs.pss {X : Cx} {W : WX} {e : List Stmt} {a : AS} (h : DSs X W e a) : PSs X e (upS X.K W a) := by
  obtain ⟨t, p, s⟩ := h.ex
  exact ⟨fun pins s1 σ H D I ⟨O, ρ, A, XX, S, k, q, x⟩ => p.run pins s1 σ H D I (s O ρ σ H D A XX S k q x)⟩
section
variable {X : Cx} {W : WX} {K : PySem.W.Frag}
/-! ## names and constants -/
def aVar (i : Nat) : AE := fun O ρ _ Kc => ∃ c, ρ[i]? = some (some c) ∧ Kc O c
def aC (d : PyData) : AE := fun O _ _ Kc => Kc O (.dat d)
def aRaw (v : V) : AE := fun O _ _ Kc => Kc O (.raw v)
theorem sa_var {i : Nat} : SaE K W (tVar i) (aVar i) := fun O ρ σ H Q Kc XX S ⟨c, e, k⟩ q x => by
  obtain ⟨v, e2, h⟩ := S.at_ i c e
  exact ⟨v, e2, q O c v H (Fr.refl _ _) S.o h k⟩
theorem sa_c {v : V} {d : PyData} (h : ∀ ok H, Dq ok H v d) : SaE K W (tC v) (aC d) := fun O ρ σ H Q Kc XX S k q x => q O _ v H (Fr.refl _ _) S.o (.dat (h _ _)) k
theorem dv (i : Nat) {x : Str} {pos : Pos} (hN : X.N[i]? = some x := by rfl) (hv : Vis X.env.scope x := by first | exact Or.inl rfl | exact Or.inr (Or.inl rfl) | exact Or.inr (Or.inr rfl)) (hd : (x == ("__debug__" : Str)) = false := by decide)
    (hcd : (x == ("__classdict__" : Str)) = false := by decide) : DE X W (.Name x pos) (aVar i) := ⟨_, pe_var hN hv hd hcd, sa_var⟩
theorem de_int {i j pos} : DE X W (.Constant (.int i) j pos) (aC (.int i)) := ⟨_, pe_int, sa_c fun _ _ => .int i⟩
theorem de_bl {i j pos} : DE X W (.Constant (.bool i) j pos) (aC (.bool i)) := ⟨_, pe_bl, sa_c fun _ _ => .bl i⟩
theorem de_str {i j pos} : DE X W (.Constant (.str i) j pos) (aC (.str i)) := ⟨_, pe_str, sa_c fun _ _ => .str i⟩
theorem de_non {j pos} : DE X W (.Constant .none j pos) (aC .none) := ⟨_, pe_non, sa_c fun _ _ => .non⟩
theorem de_raw {e : Expr} {v : V} (h : PE X e (tC v)) : DE X W e (aRaw v) := ⟨_, h, fun O ρ σ H Q Kc XX S k q x => q O _ v H (Fr.refl _ _) S.o (.raw v) k⟩
theorem de_con {e : Expr} {i : Int} (h : PE X e (tC (.int i))) : DE X W e (aC (.int i)) := ⟨_, h, sa_c fun _ _ => .int i⟩
/-! ## two operands -/
abbrev AR2 := Ob → Cl → Cl → KC → Prop
abbrev AR1 := Ob → Cl → KC → Prop
def SR2 (K : PySem.W.Frag) (r : R2) (ar : AR2) : Prop := ∀ O H Q Kc c c' v v', OkO K O H → ClH K (fre O) H v c → ClH K (fre O) H v' c' → ar O c c' Kc → QOk K O H Kc Q → r v v' H Q
def SR1 (K : PySem.W.Frag) (r : V → Hp → VK → Prop) (ar : AR1) : Prop := ∀ O H Q Kc c v, OkO K O H → ClH K (fre O) H v c → ar O c Kc → QOk K O H Kc Q → r v H Q
def aOp (ar : AR2) (a b : AE) : AE := fun O ρ XX Kc => a O ρ XX fun O1 c => b O1 ρ XX fun O2 c' => ar O2 c c' Kc
def aUn (ar : AR1) (a : AE) : AE := fun O ρ XX Kc => a O ρ XX fun O1 c => ar O1 c Kc
theorem sa_op {r : R2} {ar : AR2} {ta tb : TE} {a b : AE} (hr : SR2 K r ar) (ha : SaE K W ta a) (hb : SaE K W tb b) : SaE K W (tOp r ta tb) (aOp ar a b) := fun O ρ σ H Q Kc XX S h q x =>
  ha O ρ σ H _ _ XX S h (fun O1 c v H1 f1 o1 r1 k1 => hb O1 ρ σ H1 _ _ XX (S.go f1 o1) k1 (fun O2 c' v' H2 f2 o2 r2 k2 => hr O2 H2 _ _ _ _ _ _ o2 (r1.fr f2) r2 k2 (q.go (f1.trans f2))) (x.go f1)) x
theorem sa_un {r : V → Hp → VK → Prop} {ar : AR1} {ta : TE} {a : AE} (hr : SR1 K r ar) (ha : SaE K W ta a) : SaE K W (tUn r ta) (aUn ar a) := fun O ρ σ H Q Kc XX S h q x =>
  ha O ρ σ H _ _ XX S h (fun O1 c v H1 f1 o1 r1 k1 => hr O1 H1 _ _ _ _ o1 r1 k1 (q.go f1)) x
theorem de_op {op : Operator} {r : R2} {ar : AR2} {a b : Expr} {aa ab : AE} {pos : Pos} (ho : OpR X (binaryOp op) r) (hr : SR2 X.K r ar) (ha : DE X W a aa) (hb : DE X W b ab) : DE X W (.BinOp a op b pos) (aOp ar aa ab) := by
  obtain ⟨ta, pa, sa⟩ := ha.ex
  obtain ⟨tb, pb, sb⟩ := hb.ex
  exact ⟨_, pe_op ho pa pb, sa_op hr sa sb⟩
theorem de_un {op : UnaryOp} {r : V → Hp → VK → Prop} {ar : AR1} {a : Expr} {aa : AE} {pos : Pos} (ho : UnR X (unaryOp op) r) (hr : SR1 X.K r ar) (ha : DE X W a aa) : DE X W (.UnaryOp op a pos) (aUn ar aa) := by
  obtain ⟨ta, pa, sa⟩ := ha.ex
  exact ⟨_, pe_un ho pa, sa_un hr sa⟩
theorem de_cmp {op : CmpOp} {r : R2} {ar : AR2} {a b : Expr} {aa ab : AE} {pos : Pos} (ho : OpR X (compareOp op) r) (hr : SR2 X.K r ar) (ha : DE X W a aa) (hb : DE X W b ab) (hm : behindInMarks op b = false) : DE X W (.Compare a [op] [b] pos) (aOp ar aa ab) := by
  obtain ⟨ta, pa, sa⟩ := ha.ex
  obtain ⟨tb, pb, sb⟩ := hb.ex
  exact ⟨_, pe_cmpR ho pa pb hm, sa_op hr sa sb⟩
/-- a truth as a test -/
def aTest (a : AE) : AT := fun O ρ XX Kc => a O ρ XX fun O1 c => ∃ b, c = .dat (.bool b) ∧ Kc O1 b
theorem dq_bool {ok : Addr → Prop} {H : Hp} {v : V} {b : Bool} (h : ClH K ok H v (.dat (.bool b))) : v = .bl b := by
  cases h with
  | dat h => cases h; rfl
theorem dq_int {ok : Addr → Prop} {H : Hp} {v : V} {b : Int} (h : ClH K ok H v (.dat (.int b))) : v = .int b := by
  cases h with
  | dat h => cases h; rfl
theorem dq_str {ok : Addr → Prop} {H : Hp} {v : V} {b : Str} (h : ClH K ok H v (.dat (.str b))) : v = .str b := by
  cases h with
  | dat h => cases h; rfl
theorem dq_non {ok : Addr → Prop} {H : Hp} {v : V} (h : ClH K ok H v (.dat .none)) : v = .non := by
  cases h with
  | dat h => cases h; rfl
theorem dq_at {ok : Addr → Prop} {H : Hp} {v : V} {a : Addr} (h : ClH K ok H v (.at a)) : v = .ref a := by
  cases h; rfl
theorem dq_raw {ok : Addr → Prop} {H : Hp} {v w : V} (h : ClH K ok H v (.raw w)) : v = w := by
  cases h; rfl
theorem sa_test {t : TE} {a : AE} (h : SaE K W t a) : SaT K W (tTest t) (aTest a) := fun O ρ σ H Q Kc XX S k q x =>
  h O ρ σ H _ _ XX S k (fun O1 c v H1 f1 o1 r1 ⟨b, e, k1⟩ => by
    subst e
    exact ⟨b, dq_bool r1, q O1 b H1 f1 o1 k1⟩) x
theorem sa_tB {t : TE} {a : AE} (h : SaE K W t a) : SaT K W (tB t) (aTest a) := fun O ρ σ H Q Kc XX S k q x =>
  h O ρ σ H _ _ XX S k (fun O1 c v H1 f1 o1 r1 ⟨b, e, k1⟩ => by
    subst e
    exact ⟨b, dq_bool r1, q O1 b H1 f1 o1 k1⟩) x
theorem dt_cmp {op : CmpOp} {r : R2} {ar : AR2} {a b : Expr} {aa ab : AE} {pos : Pos} (ho : OpR X (compareOp op) r) (hr : SR2 X.K r ar) (ha : DE X W a aa) (hb : DE X W b ab) (hm : behindInMarks op b = false) : DT X W (.Compare a [op] [b] pos) (aTest (aOp ar aa ab)) := by
  obtain ⟨ta, pa, sa⟩ := ha.ex
  obtain ⟨tb, pb, sb⟩ := hb.ex
  exact ⟨_, pt_cmpR ho pa pb hm, sa_test (sa_op hr sa sb)⟩
theorem dt_val {e : Expr} {a : AE} (h : DE X W e a) (he : ∀ whole, isTrue e X.env whole = (do let v ← whole; standAt e.pos; holding [v] (truthy v)) := by intro _; rfl) : DT X W e (aTest a) := by
  obtain ⟨t, p, s⟩ := h.ex
  exact ⟨_, pt_val p he, sa_tB s⟩
/-! ## and, or, not, if -/
def aAnd (t u : AT) : AT := fun O ρ XX Kc => t O ρ XX fun O1 b => if b = true then u O1 ρ XX Kc else Kc O1 false
def aOr (t u : AT) : AT := fun O ρ XX Kc => t O ρ XX fun O1 b => if b = true then Kc O1 true else u O1 ρ XX Kc
def aNot (t : AT) : AT := fun O ρ XX Kc => t O ρ XX fun O1 b => Kc O1 (!b)
def aAndV (a b : AE) : AE := fun O ρ XX Kc => a O ρ XX fun O1 c => ∃ k, c = .dat (.bool k) ∧ if k = true then b O1 ρ XX Kc else Kc O1 (.dat (.bool false))
def aOrV (a b : AE) : AE := fun O ρ XX Kc => a O ρ XX fun O1 c => ∃ k, c = .dat (.bool k) ∧ if k = true then Kc O1 (.dat (.bool true)) else b O1 ρ XX Kc
def aNotV (a : AE) : AE := fun O ρ XX Kc => a O ρ XX fun O1 c => ∃ k, c = .dat (.bool k) ∧ Kc O1 (.dat (.bool (!k)))
def aIf (t : AT) (a b : AE) : AE := fun O ρ XX Kc => t O ρ XX fun O1 k => if k = true then a O1 ρ XX Kc else b O1 ρ XX Kc
theorem sa_and {t u : TT} {a b : AT} (ha : SaT K W t a) (hb : SaT K W u b) : SaT K W (tAnd t u) (aAnd a b) := fun O ρ σ H Q Kc XX S k q x =>
  ha O ρ σ H _ _ XX S k (fun O1 c H1 f1 o1 k1 => by
    cases c with
    | true =>
      rw [if_pos rfl] at k1 ⊢
      exact hb O1 ρ σ H1 _ _ XX (S.go f1 o1) k1 (fun O2 d H2 f2 o2 k2 => q O2 d H2 (f1.trans f2) o2 k2) (x.go f1)
    | false =>
      rw [if_neg Bool.false_ne_true] at k1 ⊢
      exact q O1 _ H1 f1 o1 k1) x
theorem sa_or {t u : TT} {a b : AT} (ha : SaT K W t a) (hb : SaT K W u b) : SaT K W (tOr t u) (aOr a b) := fun O ρ σ H Q Kc XX S k q x =>
  ha O ρ σ H _ _ XX S k (fun O1 c H1 f1 o1 k1 => by
    cases c with
    | false =>
      rw [if_neg Bool.false_ne_true] at k1 ⊢
      exact hb O1 ρ σ H1 _ _ XX (S.go f1 o1) k1 (fun O2 d H2 f2 o2 k2 => q O2 d H2 (f1.trans f2) o2 k2) (x.go f1)
    | true =>
      rw [if_pos rfl] at k1 ⊢
      exact q O1 _ H1 f1 o1 k1) x
theorem sa_not {t : TT} {a : AT} (ha : SaT K W t a) : SaT K W (tNot t) (aNot a) := fun O ρ σ H Q Kc XX S k q x =>
  ha O ρ σ H _ _ XX S k (fun O1 c H1 f1 o1 k1 => q O1 _ H1 f1 o1 k1) x
theorem sa_andV {t u : TE} {a b : AE} (ha : SaE K W t a) (hb : SaE K W u b) : SaE K W (tAndV t u) (aAndV a b) := fun O ρ σ H Q Kc XX S k q x =>
  ha O ρ σ H _ _ XX S k (fun O1 c v H1 f1 o1 r1 ⟨j, e, k1⟩ => by
    subst e
    refine ⟨j, dq_bool r1, ?_⟩
    cases j with
    | true =>
      rw [if_pos rfl] at k1 ⊢
      exact hb O1 ρ σ H1 _ _ XX (S.go f1 o1) k1 (q.go f1) (x.go f1)
    | false =>
      rw [if_neg Bool.false_ne_true] at k1 ⊢
      exact q O1 _ _ H1 f1 o1 (.dat (.bl false)) k1) x
theorem sa_orV {t u : TE} {a b : AE} (ha : SaE K W t a) (hb : SaE K W u b) : SaE K W (tOrV t u) (aOrV a b) := fun O ρ σ H Q Kc XX S k q x =>
  ha O ρ σ H _ _ XX S k (fun O1 c v H1 f1 o1 r1 ⟨j, e, k1⟩ => by
    subst e
    refine ⟨j, dq_bool r1, ?_⟩
    cases j with
    | false =>
      rw [if_neg Bool.false_ne_true] at k1 ⊢
      exact hb O1 ρ σ H1 _ _ XX (S.go f1 o1) k1 (q.go f1) (x.go f1)
    | true =>
      rw [if_pos rfl] at k1 ⊢
      exact q O1 _ _ H1 f1 o1 (.dat (.bl true)) k1) x
theorem sa_notV {t : TE} {a : AE} (ha : SaE K W t a) : SaE K W (tNotV t) (aNotV a) := fun O ρ σ H Q Kc XX S k q x =>
  ha O ρ σ H _ _ XX S k (fun O1 c v H1 f1 o1 r1 ⟨j, e, k1⟩ => by
    subst e
    exact ⟨j, dq_bool r1, q O1 _ _ H1 f1 o1 (.dat (.bl (!j))) k1⟩) x
theorem sa_if {t : TT} {t1 t2 : TE} {a : AT} {b c : AE} (ha : SaT K W t a) (hb : SaE K W t1 b) (hc : SaE K W t2 c) : SaE K W (tIf t t1 t2) (aIf a b c) := fun O ρ σ H Q Kc XX S k q x =>
  ha O ρ σ H _ _ XX S k (fun O1 d H1 f1 o1 k1 => by
    cases d with
    | true =>
      rw [if_pos rfl] at k1 ⊢
      exact hb O1 ρ σ H1 _ _ XX (S.go f1 o1) k1 (q.go f1) (x.go f1)
    | false =>
      rw [if_neg Bool.false_ne_true] at k1 ⊢
      exact hc O1 ρ σ H1 _ _ XX (S.go f1 o1) k1 (q.go f1) (x.go f1)) x
section
variable {a b c : Expr} {rest : List Expr} {pos : Pos} {aa ab ac : AE} {ta tb : AT}
theorem dw_pt (h : DW X W a ta) : DT X W a ta := by obtain ⟨t, p, s⟩ := h.ex; exact ⟨_, p.pt, s⟩
theorem dw_and1 (h : DT X W a ta) : DW X W (.BoolOp .And [a] pos) ta := by obtain ⟨t, p, s⟩ := h.ex; exact ⟨_, pw_and1 p, s⟩
theorem dw_or1 (h : DT X W a ta) : DW X W (.BoolOp .Or [a] pos) ta := by obtain ⟨t, p, s⟩ := h.ex; exact ⟨_, pw_or1 p, s⟩
theorem dw_and (h : DT X W a ta) (k : DW X W (.BoolOp .And (b :: rest) pos) tb) : DW X W (.BoolOp .And (a :: b :: rest) pos) (aAnd ta tb) := by
  obtain ⟨t, p, s⟩ := h.ex
  obtain ⟨u, p2, s2⟩ := k.ex
  exact ⟨_, pw_and p p2, sa_and s s2⟩
theorem dw_or (h : DT X W a ta) (k : DW X W (.BoolOp .Or (b :: rest) pos) tb) : DW X W (.BoolOp .Or (a :: b :: rest) pos) (aOr ta tb) := by
  obtain ⟨t, p, s⟩ := h.ex
  obtain ⟨u, p2, s2⟩ := k.ex
  exact ⟨_, pw_or p p2, sa_or s s2⟩
theorem dt_not (h : DT X W a ta) : DT X W (.UnaryOp .Not a pos) (aNot ta) := by
  obtain ⟨t, p, s⟩ := h.ex
  exact ⟨_, pt_not p, sa_not s⟩
theorem de_one {op} (h : DE X W a aa) : DE X W (.BoolOp op [a] pos) aa := by obtain ⟨t, p, s⟩ := h.ex; exact ⟨_, pe_one p, s⟩
theorem de_and (h : DE X W a aa) (k : DE X W (.BoolOp .And (b :: rest) pos) ab) : DE X W (.BoolOp .And (a :: b :: rest) pos) (aAndV aa ab) := by
  obtain ⟨t, p, s⟩ := h.ex
  obtain ⟨u, p2, s2⟩ := k.ex
  exact ⟨_, pe_and p p2, sa_andV s s2⟩
theorem de_or (h : DE X W a aa) (k : DE X W (.BoolOp .Or (b :: rest) pos) ab) : DE X W (.BoolOp .Or (a :: b :: rest) pos) (aOrV aa ab) := by
  obtain ⟨t, p, s⟩ := h.ex
  obtain ⟨u, p2, s2⟩ := k.ex
  exact ⟨_, pe_or p p2, sa_orV s s2⟩
theorem de_not (h : DE X W a aa) : DE X W (.UnaryOp .Not a pos) (aNotV aa) := by
  obtain ⟨t, p, s⟩ := h.ex
  exact ⟨_, pe_not p, sa_notV s⟩
theorem de_ifExp (hc : DT X W c ta) (ha : DE X W a aa) (hb : DE X W b ab) : DE X W (.IfExp c a b pos) (aIf ta aa ab) := by
  obtain ⟨t, p, s⟩ := hc.ex
  obtain ⟨t1, p1, s1⟩ := ha.ex
  obtain ⟨t2, p2, s2⟩ := hb.ex
  exact ⟨_, pe_ifExp p p1 p2, sa_if s s1 s2⟩
/-- a chain of two comparisons -/
def aChain (r r' : AR2) (a b c : AE) : AE := fun O ρ XX Kc => a O ρ XX fun O1 x => b O1 ρ XX fun O2 y => r O2 x y fun O3 z => ∃ k, z = .dat (.bool k) ∧ if k = true then c O3 ρ XX fun O4 u => r' O4 y u Kc else Kc O3 (.dat (.bool false))
theorem sa_chain {r r' : R2} {ar ar' : AR2} {t1 t2 t3 : TE} (hr : SR2 K r ar) (hr' : SR2 K r' ar') (ha : SaE K W t1 aa) (hb : SaE K W t2 ab) (hc : SaE K W t3 ac) : SaE K W (tChain r r' t1 t2 t3) (aChain ar ar' aa ab ac) := fun O ρ σ H Q Kc XX S k q x =>
  ha O ρ σ H _ _ XX S k (fun O1 c1 v1 H1 f1 o1 r1 k1 => hb O1 ρ σ H1 _ _ XX (S.go f1 o1) k1 (fun O2 c2 v2 H2 f2 o2 r2 k2 =>
    hr O2 H2 _ _ _ _ _ _ o2 (r1.fr f2) r2 k2 (fun O3 c3 v3 H3 f3 o3 r3 ⟨j, e, k3⟩ => by
      subst e
      refine ⟨j, dq_bool r3, ?_⟩
      have f13 := f1.trans (f2.trans f3)
      cases j with
      | true =>
        rw [if_pos rfl] at k3 ⊢
        exact hc O3 ρ σ H3 _ _ XX (S.go f13 o3) k3 (fun O4 c4 v4 H4 f4 o4 r4 k4 => hr' O4 H4 _ _ _ _ _ _ o4 (r2.fr (f3.trans f4)) r4 k4 (q.go (f13.trans f4))) (x.go f13)
      | false =>
        rw [if_neg Bool.false_ne_true] at k3 ⊢
        exact q O3 _ _ H3 f13 o3 (.dat (.bl false)) k3)) (x.go f1)) x
theorem de_chain {op op' : CmpOp} {r r' : R2} {ar ar' : AR2} (ho : OpR X (compareOp op) r) (ho' : OpR X (compareOp op') r') (hr : SR2 X.K r ar) (hr' : SR2 X.K r' ar') (ha : DE X W a aa) (hb : DE X W b ab) (hc : DE X W c ac)
    (hm : lastMarks [op, op'] [b, c] = false := by with_unfolding_all rfl) : DE X W (.Compare a [op, op'] [b, c] pos) (aChain ar ar' aa ab ac) := by
  obtain ⟨t, p, s⟩ := ha.ex
  obtain ⟨t1, p1, s1⟩ := hb.ex
  obtain ⟨t2, p2, s2⟩ := hc.ex
  exact ⟨_, pe_chain ho ho' p p1 p2 hm, sa_chain hr hr' s s1 s2⟩
theorem dt_chain {op op' : CmpOp} {r r' : R2} {ar ar' : AR2} (ho : OpR X (compareOp op) r) (ho' : OpR X (compareOp op') r') (hr : SR2 X.K r ar) (hr' : SR2 X.K r' ar') (ha : DE X W a aa) (hb : DE X W b ab) (hc : DE X W c ac)
    (hm : lastMarks [op, op'] [b, c] = false := by with_unfolding_all rfl) : DT X W (.Compare a [op, op'] [b, c] pos) (aTest (aChain ar ar' aa ab ac)) := by
  obtain ⟨t, p, s⟩ := ha.ex
  obtain ⟨t1, p1, s1⟩ := hb.ex
  obtain ⟨t2, p2, s2⟩ := hc.ex
  exact ⟨_, pt_chain ho ho' p p1 p2 hm, sa_test (sa_chain hr hr' s s1 s2)⟩
end
end
end Ab
namespace Ab
open PySem PySem.Spec PyProof.Rows L2 Vg
/-- where an owned object stands in the list, and the list with another one there -/
inductive Lo : Ob → Addr → Ow → (Ow → Ob) → Prop
  | here {a : Addr} {w : Ow} {O : Ob} : Lo ((a, w) :: O) a w (fun w' => (a, w') :: O)
  | there {a : Addr} {w : Ow} {O : Ob} {x : Addr × Ow} {f : Ow → Ob} (h : Lo O a w f) : Lo (x :: O) a w (fun w' => x :: f w')
theorem Lo.eq {O : Ob} {a : Addr} {w : Ow} {f : Ow → Ob} (h : Lo O a w f) : f w = O := by
  induction h with
  | here => rfl
  | there h ih => simp only [ih]
theorem Lo.next {O : Ob} {a : Addr} {w w' : Ow} {f : Ow → Ob} (h : Lo O a w f) : Lo (f w') a w' f := by
  induction h with
  | here => exact .here
  | there h ih => exact .there ih
theorem Lo.mem {O : Ob} {a : Addr} {w : Ow} {f : Ow → Ob} (h : Lo O a w f) : (a, w) ∈ O := by
  induction h with
  | here => exact List.mem_cons_self ..
  | there h ih => exact List.mem_cons_of_mem _ ih
theorem Lo.fst {O : Ob} {a : Addr} {w w' : Ow} {f : Ow → Ob} (h : Lo O a w f) : (f w').map (·.1) = O.map (·.1) := by
  induction h with
  | here => rfl
  | there h ih => simp only [List.map_cons, ih]
theorem Lo.fre {O : Ob} {a : Addr} {w w' : Ow} {f : Ow → Ob} (h : Lo O a w f) (b : Addr) : fre (f w') b ↔ fre O b := by
  have e : ∀ O' : Ob, Ab.fre O' b ↔ b ∉ O'.map (·.1) := fun O' => by
    unfold Ab.fre
    constructor
    · intro k m
      obtain ⟨x, hx, e⟩ := List.mem_map.mp m
      exact k x hx e
    · intro k x hx e
      exact k (List.mem_map.mpr ⟨x, hx, e⟩)
  rw [e, e, h.fst]
theorem Lo.mem' {O : Ob} {a : Addr} {w w' : Ow} {f : Ow → Ob} (h : Lo O a w f) (nd : (O.map (·.1)).Nodup) : ∀ x ∈ f w', x = (a, w') ∨ (x ∈ O ∧ x.1 ≠ a) := by
  induction h with
  | @here a w O =>
    intro x hx
    rcases List.mem_cons.mp hx with rfl | hx
    · exact .inl rfl
    · refine .inr ⟨List.mem_cons_of_mem _ hx, fun e => ?_⟩
      have := (List.nodup_cons.mp nd).1
      exact this (by have z := List.mem_map_of_mem (f := fun x : Addr × Ow => x.1) hx; rw [show x.1 = a from e] at z; exact z)
  | @there a w O y f h ih =>
    intro x hx
    have nd' := List.nodup_cons.mp nd
    rcases List.mem_cons.mp hx with rfl | hx
    · refine .inr ⟨List.mem_cons_self .., fun e => ?_⟩
      exact nd'.1 (by have z := List.mem_map_of_mem (f := fun x : Addr × Ow => x.1) h.mem; rw [← show x.1 = a from e] at z; exact z)
    · rcases ih nd'.2 x hx with e | ⟨m, n⟩
      · exact .inl e
      · exact .inr ⟨List.mem_cons_of_mem _ m, n⟩
section
variable {K : PySem.W.Frag}
theorem OkO.fre_ne {O : Ob} {H : Hp} (o : OkO K O H) {p : Addr} (hp : H p = none) : fre O p := fun x hx e => by
  obtain ⟨u, h⟩ := (o.all x hx).there
  rw [e, hp] at h
  cases h
theorem OkO.lo {O : Ob} {H : Hp} {a : Addr} {w : Ow} {f : Ow → Ob} (o : OkO K O H) (h : Lo O a w f) : OwH K (fre O) H a w := o.all _ h.mem
/-- a new object that isn't owned -/
theorem OkO.new {O : Ob} {H : Hp} {p : Addr} {u : HO} (o : OkO K O H) (hp : H p = none) : OkO K O (upd H p u) ∧ Fr O H O (upd H p u) ∧ fre O p := by
  have k : ∀ b v, H b = some v → upd H p u b = some v := fun b v e => by rw [upd_ne (ne_of_none e hp)]; exact e
  refine ⟨⟨o.nd, fun x hx => ?_⟩, ⟨fun b v _ e => k b v e, fun b v f _ => f, fun b e => ?_⟩, o.fre_ne hp⟩
  · obtain ⟨v, hv⟩ := (o.all x hx).there
    exact (o.all x hx).mono (fun b v _ e => k b v e) (fun b v f _ => f) ((k _ _ hv).trans hv.symm)
  · by_cases z : b = p
    · rw [z]; exact hp
    · rw [upd_ne z] at e; exact e
/-- a new object that is owned -/
theorem OkO.own {O : Ob} {H : Hp} {p : Addr} {u : HO} {w : Ow} (o : OkO K O H) (hp : H p = none) (hw : OwH K (fre ((p, w) :: O)) (upd H p u) p w) : OkO K ((p, w) :: O) (upd H p u) ∧ Fr O H ((p, w) :: O) (upd H p u) := by
  obtain ⟨o1, f1, n⟩ := o.new (u := u) hp
  have k : ∀ b v, H b = some v → upd H p u b = some v := fun b v e => by rw [upd_ne (ne_of_none e hp)]; exact e
  have fr : ∀ b v, fre O b → H b = some v → fre ((p, w) :: O) b := fun b v f e x hx => by
    rcases List.mem_cons.mp hx with rfl | hx
    · exact fun z => (ne_of_none e hp) z.symm
    · exact f x hx
  refine ⟨⟨List.nodup_cons.mpr ⟨fun m => ?_, o.nd⟩, fun x hx => ?_⟩, f1.keep, fr, f1.dom⟩
  · obtain ⟨x, hx, e⟩ := List.mem_map.mp m
    exact n x hx e
  · rcases List.mem_cons.mp hx with rfl | hx
    · exact hw
    · obtain ⟨v, hv⟩ := (o.all x hx).there
      exact (o.all x hx).mono (fun b v _ e => k b v e) fr ((k _ _ hv).trans hv.symm)
/-- an owned object is changed -/
theorem OkO.put {O : Ob} {H : Hp} {a : Addr} {w w' : Ow} {f : Ow → Ob} {u : HO} (o : OkO K O H) (h : Lo O a w f) (hw : OwH K (fre (f w')) (upd H a u) a w') : OkO K (f w') (upd H a u) ∧ Fr O H (f w') (upd H a u) := by
  have k : ∀ b v, fre O b → H b = some v → upd H a u b = some v := fun b v fb e => by
    rw [upd_ne fun z => fb _ h.mem z.symm]; exact e
  refine ⟨⟨h.fst ▸ o.nd, fun x hx => ?_⟩, k, fun b v fb _ => (h.fre b).mpr fb, fun b e => ?_⟩
  · rcases h.mem' o.nd x hx with rfl | ⟨m, n⟩
    · exact hw
    · exact (o.all x m).mono k (fun b v fb _ => (h.fre b).mpr fb) (upd_ne n)
  · by_cases z : b = a
    · rw [z, upd_same] at e; cases e
    · rw [upd_ne z] at e; exact e
/-! ## reading cells as data -/
mutual
inductive Rdc (O : Ob) : Cl → PyData → Prop
  | dat (d : PyData) : Rdc O (.dat d) d
  | at {a : Addr} {cs : List Cl} {ds : List PyData} (m : (a, Ow.lst cs) ∈ O) (r : Rdcs O cs ds) : Rdc O (.at a) (.list ds)
  | dct {a : Addr} {es : List (Key × Cl)} {ks : List (PyData × PyData)} (m : (a, Ow.dct es) ∈ O) (k : es.map (fun e => kD e.1) = ks.map (·.1)) (r : Rdcs O (es.map (·.2)) (ks.map (·.2))) : Rdc O (.at a) (.dict ks)
  | lis {cs : List Cl} {ds : List PyData} (r : Rdcs O cs ds) : Rdc O (.lis cs) (.list ds)
  | tup {cs : List Cl} {ds : List PyData} (r : Rdcs O cs ds) : Rdc O (.tup cs) (.tuple ds)
  | con (d : PyData) : Rdc O (.con d) d
inductive Rdcs (O : Ob) : List Cl → List PyData → Prop
  | nil : Rdcs O [] []
  | cons {c : Cl} {cs : List Cl} {d : PyData} {ds : List PyData} (h : Rdc O c d) (r : Rdcs O cs ds) : Rdcs O (c :: cs) (d :: ds)
end
theorem Rdcs.dats {O : Ob} : ∀ ds : List PyData, Rdcs O (ds.map .dat) ds
  | [] => .nil
  | d :: ds => .cons (.dat d) (Rdcs.dats ds)
mutual
theorem Rdc.dp {O : Ob} {H : Hp} (o : OkO K O H) : ∀ {c : Cl} {d : PyData} {v : V} {ok : Addr → Prop}, Rdc O c d → ClH K ok H v c → d.hasDict = false → Dp K H v d
  | _, _, _, _, .dat d, .dat h, e => dq_dp h e
  | _, _, _, _, .at m r, h, e => by
    cases h
    obtain ⟨xs, h, q⟩ := o.all _ m
    exact .lst (SqL.of h) (Rdcs.dp o r q (by simpa [PyData.hasDict] using e))
  | _, _, _, _, .dct m k r, h, e => by simp [PyData.hasDict] at e
  | _, _, _, _, .lis r, .lis o' h q, e => .lst (SqL.of h) (Rdcs.dp o r q (by simpa [PyData.hasDict] using e))
  | _, _, _, _, .tup r, .tup o' h q, e => .tup (SqT.of h) (Rdcs.dp o r q (by simpa [PyData.hasDict] using e))
  | _, _, _, _, .con d, .con h, e => h.dp
theorem Rdcs.dp {O : Ob} {H : Hp} (o : OkO K O H) : ∀ {cs : List Cl} {ds : List PyData} {vs : List V} {ok : Addr → Prop}, Rdcs O cs ds → ClsH K ok H vs cs → PyData.hasDictAll ds = false → DpAll K H vs ds
  | _, _, _, _, .nil, .nil, _ => .nil
  | _, _, _, _, .cons h r, .cons h' r', e => by
    have e' := Bool.or_eq_false_iff.mp (show (PyData.hasDict _ || PyData.hasDictAll _) = false by simpa [PyData.hasDictAll] using e)
    exact .cons (Rdc.dp o h h' e'.1) (Rdcs.dp o r r' e'.2)
end
/-! ## operators -/
def aI0 (g : Int → Int → PyData) : AR2 := fun O c c' Kc => ∃ i j, c = .dat (.int i) ∧ c' = .dat (.int j) ∧ Kc O (.dat (g i j))
def aI (C : Int → Int → Prop) (g : Int → Int → PyData) : AR2 := fun O c c' Kc => ∃ i j, c = .dat (.int i) ∧ c' = .dat (.int j) ∧ C i j ∧ Kc O (.dat (g i j))
def aU (g : Int → PyData) : AR1 := fun O c Kc => ∃ i, c = .dat (.int i) ∧ Kc O (.dat (g i))
theorem sr_I0 {gv : Int → Int → V} {g : Int → Int → PyData} (h : ∀ i j ok H, Dq ok H (gv i j) (g i j)) : SR2 K (rI0 gv) (aI0 g) := fun O H Q Kc c c' v v' o r r' ⟨i, j, e, e', k⟩ q => by
  subst e e'
  exact ⟨i, j, dq_int r, dq_int r', q O _ _ H (Fr.refl _ _) o (.dat (h _ _ _ _)) k⟩
theorem sr_I {C : Int → Int → Prop} {gv : Int → Int → V} {g : Int → Int → PyData} (h : ∀ i j ok H, Dq ok H (gv i j) (g i j)) : SR2 K (rI C gv) (aI C g) := fun O H Q Kc c c' v v' o r r' ⟨i, j, e, e', z, k⟩ q => by
  subst e e'
  exact ⟨i, j, dq_int r, dq_int r', z, q O _ _ H (Fr.refl _ _) o (.dat (h _ _ _ _)) k⟩
theorem sr_U {gv : Int → V} {g : Int → PyData} (h : ∀ i ok H, Dq ok H (gv i) (g i)) : SR1 K (rU gv) (aU g) := fun O H Q Kc c v o r ⟨i, e, k⟩ q => by
  subst e
  exact ⟨i, dq_int r, q O _ _ H (Fr.refl _ _) o (.dat (h _ _ _)) k⟩
theorem sr_add : SR2 K (rI0 fun i j => .int (i + j)) (aI0 fun i j => .int (i + j)) := sr_I0 fun _ _ _ _ => .int _
theorem sr_sub : SR2 K (rI0 fun i j => .int (i - j)) (aI0 fun i j => .int (i - j)) := sr_I0 fun _ _ _ _ => .int _
theorem sr_mul : SR2 K (rI CMulW fun i j => .int (i * j)) (aI CMulW fun i j => .int (i * j)) := sr_I fun _ _ _ _ => .int _
theorem sr_fdiv : SR2 K (rI CDivW fun i j => .int (i / j)) (aI CDivW fun i j => .int (i / j)) := sr_I fun _ _ _ _ => .int _
theorem sr_mod : SR2 K (rI (fun _ j => 0 < j) fun i j => .int (i % j)) (aI (fun _ j => 0 < j) fun i j => .int (i % j)) := sr_I fun _ _ _ _ => .int _
theorem sr_pow : SR2 K (rI CPow fun i j => .int (i ^ j.toNat)) (aI CPow fun i j => .int (i ^ j.toNat)) := sr_I fun _ _ _ _ => .int _
theorem sr_neg : SR1 K (rU fun i => .int (-i)) (aU fun i => .int (-i)) := sr_U fun _ _ _ => .int _
theorem sr_lt : SR2 K (rI0 fun i j => .bl (decide (i < j))) (aI0 fun i j => .bool (decide (i < j))) := sr_I0 fun _ _ _ _ => .bl _
theorem sr_le : SR2 K (rI0 fun i j => .bl (decide (i ≤ j))) (aI0 fun i j => .bool (decide (i ≤ j))) := sr_I0 fun _ _ _ _ => .bl _
theorem sr_gt : SR2 K (rI0 fun i j => .bl (decide (j < i))) (aI0 fun i j => .bool (decide (j < i))) := sr_I0 fun _ _ _ _ => .bl _
theorem sr_ge : SR2 K (rI0 fun i j => .bl (decide (j ≤ i))) (aI0 fun i j => .bool (decide (j ≤ i))) := sr_I0 fun _ _ _ _ => .bl _
/-- == and != of data -/
def aEqD : AR2 := fun O c c' Kc => ∃ d e, Rdc O c d ∧ Rdc O c' e ∧ d.hasDict = false ∧ e.hasDict = false ∧ SeqAt.shaped d = true ∧ SeqAt.shaped e = true ∧ Kc O (.dat (.bool (PyData.eqv d e)))
def aNeD : AR2 := fun O c c' Kc => ∃ d e, Rdc O c d ∧ Rdc O c' e ∧ d.hasDict = false ∧ e.hasDict = false ∧ SeqAt.shaped d = true ∧ SeqAt.shaped e = true ∧ Kc O (.dat (.bool (!PyData.eqv d e)))
theorem sr_eq : SR2 K (rEqD K) aEqD := fun O H Q Kc c c' v v' o r r' ⟨d, e, h1, h2, n1, n2, s1, s2, k⟩ q =>
  ⟨d, e, h1.dp o r n1, h2.dp o r' n2, s1, s2, q O _ _ H (Fr.refl _ _) o (.dat (.bl _)) k⟩
theorem sr_ne : SR2 K (rNeD K) aNeD := fun O H Q Kc c c' v v' o r r' ⟨d, e, h1, h2, n1, n2, s1, s2, k⟩ q =>
  ⟨d, e, h1.dp o r n1, h2.dp o r' n2, s1, s2, q O _ _ H (Fr.refl _ _) o (.dat (.bl _)) k⟩
/-- is None; is True -/
def isNC (c : Cl) (b : Bool) : Prop := (c = .dat .none ∧ b = true) ∨ ((∃ d, c = .dat d ∧ d ≠ .none) ∨ (∃ a, c = .at a) ∨ (∃ cs, c = .lis cs) ∨ ∃ cs, c = .tup cs) ∧ b = false
def aIsN : AR2 := fun O c c' Kc => c' = .dat .none ∧ ∃ b, isNC c b ∧ Kc O (.dat (.bool b))
def aNotN : AR2 := fun O c c' Kc => c' = .dat .none ∧ ∃ b, isNC c b ∧ Kc O (.dat (.bool (!b)))
theorem is_non {ok : Addr → Prop} {H : Hp} {v : V} {c : Cl} {b : Bool} (r : ClH K ok H v c) (h : isNC c b) : decide (v = .non) = b := by
  rcases h with ⟨rfl, rfl⟩ | ⟨⟨d, rfl, h⟩ | ⟨a, rfl⟩ | ⟨a, rfl⟩ | ⟨a, rfl⟩, rfl⟩
  · rw [dq_non r]; rfl
  · refine decide_eq_false fun e => ?_
    subst e
    cases r with
    | dat h2 => cases h2; exact h rfl
  · cases r; rfl
  · cases r; rfl
  · cases r; rfl
theorem sr_isN : SR2 K (fun x y H Q => y = .non ∧ Q (.bl (decide (x = .non))) H) aIsN := fun O H Q Kc c c' v v' o r r' ⟨e, b, h, k⟩ q => by
  subst e
  refine ⟨dq_non r', ?_⟩
  rw [is_non r h]
  exact q O _ _ H (Fr.refl _ _) o (.dat (.bl _)) k
theorem sr_notN : SR2 K (fun x y H Q => y = .non ∧ Q (.bl (!decide (x = .non))) H) aNotN := fun O H Q Kc c c' v v' o r r' ⟨e, b, h, k⟩ q => by
  subst e
  refine ⟨dq_non r', ?_⟩
  rw [is_non r h]
  exact q O _ _ H (Fr.refl _ _) o (.dat (.bl _)) k
def aIsB : AR2 := fun O c c' Kc => ∃ a b, c = .dat (.bool a) ∧ c' = .dat (.bool b) ∧ Kc O (.dat (.bool (decide (a = b))))
theorem sr_isB : SR2 K (fun x y H Q => ∃ a b, x = .bl a ∧ y = .bl b ∧ Q (.bl (decide (a = b))) H) aIsB := fun O H Q Kc c c' v v' o r r' ⟨a, b, e, e', k⟩ q => by
  subst e e'
  exact ⟨a, b, dq_bool r, dq_bool r', q O _ _ H (Fr.refl _ _) o (.dat (.bl _)) k⟩
/-- texts -/
def aAddS : AR2 := fun O c c' Kc => ∃ i j, c = .dat (.str i) ∧ c' = .dat (.str j) ∧ i.length + j.length ≤ sizeLine ∧ Kc O (.dat (.str (i ++ j)))
theorem sr_addS : SR2 K (fun x y H Q => ∃ i j, x = .str i ∧ y = .str j ∧ i.length + j.length ≤ sizeLine ∧ Q (.str (i ++ j)) H) aAddS := fun O H Q Kc c c' v v' o r r' ⟨a, b, e, e', z, k⟩ q => by
  subst e e'
  exact ⟨a, b, dq_str r, dq_str r', z, q O _ _ H (Fr.refl _ _) o (.dat (.str _)) k⟩
/-! ## displays -/
def allD : List Cl → Option (List PyData)
  | [] => some []
  | .dat d :: cs => (allD cs).map (d :: ·)
  | _ :: _ => none
def tupC (cs : List Cl) : Cl := match allD cs with
  | some ds => .dat (.tuple ds)
  | none => .tup cs
def lisC (cs : List Cl) : Cl := match allD cs with
  | some ds => .dat (.list ds)
  | none => .lis cs
theorem allD_eq : ∀ {cs : List Cl} {ds : List PyData}, allD cs = some ds → cs = ds.map .dat
  | [], ds, h => by cases h; rfl
  | .dat d :: cs, ds, h => by
    obtain ⟨es, e1, e2⟩ := Option.map_eq_some_iff.mp (show (allD cs).map (d :: ·) = some ds from h)
    rw [← e2, allD_eq e1]
    rfl
  | .at _ :: _, ds, h => by cases h
  | .raw _ :: _, ds, h => by cases h
  | .scr _ :: _, ds, h => by cases h
  | .lis _ :: _, ds, h => by cases h
  | .tup _ :: _, ds, h => by cases h
  | .exc _ _ _ _ :: _, ds, h => by cases h
  | .con _ :: _, ds, h => by cases h
theorem allD_dats : ∀ ds : List PyData, allD (ds.map .dat) = some ds
  | [] => rfl
  | d :: ds => by
    show (allD (ds.map .dat)).map (d :: ·) = _
    rw [allD_dats ds]
    rfl
theorem lisC_dats (ds : List PyData) : lisC (ds.map .dat) = .dat (.list ds) := by
  unfold lisC
  rw [allD_dats]
theorem tupC_dats (ds : List PyData) : tupC (ds.map .dat) = .dat (.tuple ds) := by
  unfold tupC
  rw [allD_dats]
theorem cl_tup {ok : Addr → Prop} {H : Hp} {p : Addr} {xs : List V} {cs : List Cl} (o : ok p) (h : H p = some (.tup xs)) (r : ClsH K ok H xs cs) : ClH K ok H (.ref p) (tupC cs) := by
  unfold tupC
  split
  · rename_i ds e
    have e' := allD_eq e
    subst e'
    exact .dat (.tup o h r.undat)
  · exact .tup o h r
theorem cl_lis {ok : Addr → Prop} {H : Hp} {p : Addr} {xs : List V} {cs : List Cl} (o : ok p) (h : H p = some (.lst xs)) (r : ClsH K ok H xs cs) : ClH K ok H (.ref p) (lisC cs) := by
  unfold lisC
  split
  · rename_i ds e
    have e' := allD_eq e
    subst e'
    exact .dat (.lst o h r.undat)
  · exact .lis o h r
def aNil : AA := fun O _ _ Kc => Kc O []
def aCons (a : AE) (b : AA) : AA := fun O ρ XX Kc => a O ρ XX fun O1 c => b O1 ρ XX fun O2 cs => Kc O2 (c :: cs)
def aTup (a : AA) : AE := fun O ρ XX Kc => a O ρ XX fun O1 cs => cs.length ≤ 1000 ∧ Kc O1 (tupC cs)
def aLst (a : AA) : AE := fun O ρ XX Kc => a O ρ XX fun O1 cs => cs.length ≤ 1000 ∧ Kc O1 (lisC cs)
def aLstO (a : AA) : AE := fun O ρ XX Kc => a O ρ XX fun O1 cs => cs.length ≤ 1000 ∧ ∀ p, Kc ((p, .lst cs) :: O1) (.at p)
variable {W : WX}
theorem sa_nil : SaA K W tNil aNil := fun O ρ σ H Q Kc XX S k q x => q O [] [] H (Fr.refl _ _) S.o .nil k
theorem sa_cons {t : TE} {u : TA} {a : AE} {b : AA} (ha : SaE K W t a) (hb : SaA K W u b) : SaA K W (tCons t u) (aCons a b) := fun O ρ σ H Q Kc XX S k q x =>
  ha O ρ σ H _ _ XX S k (fun O1 c v H1 f1 o1 r1 k1 => hb O1 ρ σ H1 _ _ XX (S.go f1 o1) k1 (fun O2 cs vs H2 f2 o2 r2 k2 => q O2 _ _ H2 (f1.trans f2) o2 (.cons (r1.fr f2) r2) k2) (x.go f1)) x
theorem le_line {n : Nat} (h : n ≤ 1000) : n ≤ sizeLine := Nat.le_trans h (by decide)
theorem sa_tup {t : TA} {a : AA} (ha : SaA K W t a) : SaE K W (tTup t) (aTup a) := fun O ρ σ H Q Kc XX S k q x =>
  ha O ρ σ H _ _ XX S k (fun O1 cs vs H1 f1 o1 r1 ⟨z, k1⟩ => ⟨le_line (r1.len ▸ z), fun p hp => by
    obtain ⟨o2, f2, n⟩ := o1.new (u := .tup vs) hp
    exact q O1 _ _ _ (f1.trans f2) o2 (cl_tup n upd_same (r1.fr f2)) k1⟩) x
theorem sa_lst {t : TA} {a : AA} (ha : SaA K W t a) : SaE K W (tLst t) (aLst a) := fun O ρ σ H Q Kc XX S k q x =>
  ha O ρ σ H _ _ XX S k (fun O1 cs vs H1 f1 o1 r1 ⟨z, k1⟩ => ⟨le_line (r1.len ▸ z), fun p hp => by
    obtain ⟨o2, f2, n⟩ := o1.new (u := .lst vs) hp
    exact q O1 _ _ _ (f1.trans f2) o2 (cl_lis n upd_same (r1.fr f2)) k1⟩) x
/-- a new list that is owned -/
theorem own_lst {O : Ob} {H : Hp} {p : Addr} {vs : List V} {cs : List Cl} (o : OkO K O H) (r : ClsH K (fre O) H vs cs) (hp : H p = none) : OkO K ((p, .lst cs) :: O) (upd H p (.lst vs)) ∧ Fr O H ((p, .lst cs) :: O) (upd H p (.lst vs)) := by
  refine o.own hp ⟨vs, upd_same, r.mono (fun b v _ e => ?_) fun b v f e x hx => ?_⟩
  · rw [upd_ne (ne_of_none e hp)]; exact e
  · rcases List.mem_cons.mp hx with rfl | hx
    · exact fun z => (ne_of_none e hp) z.symm
    · exact f x hx
theorem sa_lstO {t : TA} {a : AA} (ha : SaA K W t a) : SaE K W (tLst t) (aLstO a) := fun O ρ σ H Q Kc XX S k q x =>
  ha O ρ σ H _ _ XX S k (fun O1 cs vs H1 f1 o1 r1 ⟨z, k1⟩ => ⟨le_line (r1.len ▸ z), fun p hp => by
    obtain ⟨o2, f2⟩ := own_lst o1 r1 hp
    exact q _ _ _ _ (f1.trans f2) o2 (.at p) (k1 p)⟩) x
end
section
variable {X : Cx} {W : WX}
theorem da_nil : DA X W [] aNil := ⟨_, pa_nil, sa_nil⟩
theorem da_cons {e : Expr} {es : List Expr} {a : AE} {b : AA} (ha : DE X W e a) (hb : DA X W es b) (hs : starEach (e :: es) X.env = (false, eval e X.env) :: starEach es X.env := by rfl) : DA X W (e :: es) (aCons a b) := by
  obtain ⟨t, p, s⟩ := ha.ex
  obtain ⟨u, p2, s2⟩ := hb.ex
  exact ⟨_, pa_cons p p2 hs, sa_cons s s2⟩
theorem de_tup {es : List Expr} {a : AA} {pos : Pos} {k : Nat} (h : DA X W es a) : DE X W (.Tuple es k pos) (aTup a) := by
  obtain ⟨t, p, s⟩ := h.ex
  exact ⟨_, pe_tup p, sa_tup s⟩
theorem de_lst {es : List Expr} {a : AA} {pos : Pos} (h : DA X W es a) : DE X W (.List es pos) (aLst a) := by
  obtain ⟨t, p, s⟩ := h.ex
  exact ⟨_, pe_lst p, sa_lst s⟩
theorem de_lstO {es : List Expr} {a : AA} {pos : Pos} (h : DA X W es a) : DE X W (.List es pos) (aLstO a) := by
  obtain ⟨t, p, s⟩ := h.ex
  exact ⟨_, pe_lst p, sa_lstO s⟩
end
end Ab
namespace Ab
open PySem PySem.Spec PyProof.Rows L2 Vg
section
variable {K : PySem.W.Frag} {W : WX}
/-! ## the parts of lists, tuples -/
inductive Els (O : Ob) : Cl → List Cl → Prop
  | dat (ds : List PyData) : Els O (.dat (.list ds)) (ds.map .dat)
  | own {a : Addr} {cs : List Cl} (m : (a, Ow.lst cs) ∈ O) : Els O (.at a) cs
  | lis (cs : List Cl) : Els O (.lis cs) cs
inductive ElsT : Cl → List Cl → Prop
  | dat (ds : List PyData) : ElsT (.dat (.tuple ds)) (ds.map .dat)
  | tup (cs : List Cl) : ElsT (.tup cs) cs
  | con (ds : List PyData) : ElsT (.con (.tuple ds)) (ds.map conC)
theorem Els.get {O : Ob} {H : Hp} {c : Cl} {cs : List Cl} {v : V} (h : Els O c cs) (o : OkO K O H) (r : ClH K (fre O) H v c) : ∃ a xs, v = .ref a ∧ H a = some (.lst xs) ∧ ClsH K (fre O) H xs cs := by
  cases h with
  | dat ds =>
    cases r with
    | dat h => cases h with | lst o' h r => exact ⟨_, _, rfl, h, .dats r⟩
  | own m =>
    cases r
    obtain ⟨xs, h, r⟩ := o.all _ m
    exact ⟨_, xs, rfl, h, r⟩
  | lis cs => cases r with | lis o' h r => exact ⟨_, _, rfl, h, r⟩
theorem ElsT.get {ok : Addr → Prop} {H : Hp} {c : Cl} {cs : List Cl} {v : V} (h : ElsT c cs) (r : ClH K ok H v c) : ∃ a xs, v = .ref a ∧ SqT K H a xs ∧ ClsH K ok H xs cs := by
  cases h with
  | dat ds =>
    cases r with
    | dat h => cases h with | tup o' h r => exact ⟨_, _, rfl, SqT.of h, .dats r⟩
  | tup cs => cases r with | tup o' h r => exact ⟨_, _, rfl, SqT.of h, r⟩
  | con ds => cases r with | con h => cases h with | tup e c d z r q => exact ⟨_, _, rfl, .inr ⟨_, _, _, e, c, d, z, r⟩, q.cl⟩
theorem ClsH.atI {ok : Addr → Prop} {H : Hp} {xs : List V} {cs : List Cl} {i : Int} {c : Cl} (r : ClsH K ok H xs cs) (h : L2.atI cs i = some c) : ∃ v, L2.atI xs i = some v ∧ ClH K ok H v c := by
  have hl := r.len
  unfold L2.atI at h ⊢
  rw [hl]
  cases e : ixN cs.length i with
  | none => rw [e] at h; cases h
  | some j =>
    rw [e] at h
    exact r.get h
/-- a[i] -/
def aIxL : AR2 := fun O c c' Kc => ∃ cs i e, c' = .dat (.int i) ∧ Els O c cs ∧ atI cs i = some e ∧ Kc O e
def aIxT : AR2 := fun O c c' Kc => ∃ cs i e, c' = .dat (.int i) ∧ ElsT c cs ∧ atI cs i = some e ∧ Kc O e
def aIxS : AR2 := fun O c c' Kc => ∃ z i n, c = .dat (.str z) ∧ c' = .dat (.int i) ∧ z.length ≤ sizeLine ∧ atI z.cps.toList i = some n ∧ Kc O (.dat (.str ⟨#[n]⟩))
theorem sr_ixL : SR2 K (rIxL K) aIxL := fun O H Q Kc c c' v v' o r r' ⟨cs, i, e, e1, h, a, k⟩ q => by
  subst e1
  obtain ⟨p, xs, rfl, hp, rs⟩ := h.get o r
  obtain ⟨u, hu, ru⟩ := rs.atI a
  exact ⟨p, xs, i, u, rfl, dq_int r', SqL.of hp, hu, q O _ _ H (Fr.refl _ _) o ru k⟩
theorem sr_ixT : SR2 K (rIxT K) aIxT := fun O H Q Kc c c' v v' o r r' ⟨cs, i, e, e1, h, a, k⟩ q => by
  subst e1
  obtain ⟨p, xs, rfl, hp, rs⟩ := h.get r
  obtain ⟨u, hu, ru⟩ := rs.atI a
  exact ⟨p, xs, i, u, rfl, dq_int r', hp, hu, q O _ _ H (Fr.refl _ _) o ru k⟩
theorem sr_ixS : SR2 K rIxS aIxS := fun O H Q Kc c c' v v' o r r' ⟨z, i, n, e, e1, h, a, k⟩ q => by
  subst e e1
  exact ⟨z, i, n, dq_str r, dq_int r', h, a, q O _ _ H (Fr.refl _ _) o (.dat (.str _)) k⟩
/-- an item of the script is not read by this rule; lists joined -/
def aCat : AR2 := fun O c c' Kc => ∃ ds es, Els O c (ds.map .dat) ∧ Els O c' (es.map .dat) ∧ ds.length + es.length ≤ 1000000 ∧ Kc O (.dat (.list (ds ++ es)))
def aCatC : AR2 := fun O c c' Kc => ∃ ds es, Els O c ds ∧ Els O c' es ∧ ds.length + es.length ≤ 1000000 ∧ Kc O (.lis (ds ++ es))
def aCatO : AR2 := fun O c c' Kc => ∃ ds es, Els O c ds ∧ Els O c' es ∧ ds.length + es.length ≤ 1000000 ∧ ∀ p, Kc ((p, .lst (ds ++ es)) :: O) (.at p)
theorem mil_line {n : Nat} (h : n ≤ 1000000) : n ≤ sizeLine := Nat.le_trans h (by decide)
theorem sr_catG {ar : AR2} (h : ∀ O c c' Kc, ar O c c' Kc → ∃ ds es, Els O c ds ∧ Els O c' es ∧ ds.length + es.length ≤ 1000000 ∧
    ∀ H p xs, H p = none → OkO K O H → ClsH K (fre O) H xs (ds ++ es) → ∃ O' cl, Kc O' cl ∧ OkO K O' (upd H p (.lst xs)) ∧ Fr O H O' (upd H p (.lst xs)) ∧ ClH K (fre O') (upd H p (.lst xs)) (.ref p) cl) : SR2 K rCat ar := fun O H Q Kc c c' v v' o r r' a q => by
  obtain ⟨ds, es, h1, h2, z, k⟩ := h _ _ _ _ a
  obtain ⟨l, xs, rfl, hl, r1⟩ := h1.get o r
  obtain ⟨b, ys, rfl, hb, r2⟩ := h2.get o r'
  refine ⟨l, b, xs, ys, rfl, rfl, hl, hb, ?_, fun p hp => ?_⟩
  · rw [r1.len, r2.len]
    exact mil_line z
  · obtain ⟨O', cl, kc, o', f, r3⟩ := k H p (xs ++ ys) hp o (r1.app r2)
    exact q O' cl _ _ f o' r3 kc
theorem sr_cat : SR2 K rCat aCat := sr_catG fun O c c' Kc ⟨ds, es, h1, h2, z, k⟩ => ⟨_, _, h1, h2, by simpa using z, fun H p xs hp o r => by
  obtain ⟨o2, f2, n⟩ := o.new (u := .lst xs) hp
  have e := cl_lis n upd_same (r.fr f2)
  rw [← List.map_append, lisC_dats] at e
  exact ⟨O, _, k, o2, f2, e⟩⟩
theorem sr_catC : SR2 K rCat aCatC := sr_catG fun O c c' Kc ⟨ds, es, h1, h2, z, k⟩ => ⟨_, _, h1, h2, z, fun H p xs hp o r => by
  obtain ⟨o2, f2, n⟩ := o.new (u := .lst xs) hp
  exact ⟨O, _, k, o2, f2, .lis n upd_same (r.fr f2)⟩⟩
theorem sr_catO : SR2 K rCat aCatO := sr_catG fun O c c' Kc ⟨ds, es, h1, h2, z, k⟩ => ⟨_, _, h1, h2, z, fun H p xs hp o r => by
  obtain ⟨o2, f2⟩ := own_lst o r hp
  exact ⟨_, _, k p, o2, f2, .at p⟩⟩
/-! ## slices -/
def cutD {α : Type} (xs : List α) (lo hi : Option Int) : List α := (xs.drop (HT.sIx xs.length 0 lo)).take (HT.sIx xs.length xs.length hi - HT.sIx xs.length 0 lo)
theorem cutD_map {α β : Type} (f : α → β) (xs : List α) (lo hi : Option Int) : cutD (xs.map f) lo hi = (cutD xs lo hi).map f := by
  unfold cutD
  rw [List.length_map, ← List.map_drop, ← List.map_take]
theorem ClsH.drop {ok : Addr → Prop} {H : Hp} : ∀ {xs : List V} {cs : List Cl} (n : Nat), ClsH K ok H xs cs → ClsH K ok H (xs.drop n) (cs.drop n)
  | _, _, 0, r => r
  | _, _, n + 1, .nil => .nil
  | _, _, n + 1, .cons _ r => ClsH.drop n r
theorem ClsH.take {ok : Addr → Prop} {H : Hp} : ∀ {xs : List V} {cs : List Cl} (n : Nat), ClsH K ok H xs cs → ClsH K ok H (xs.take n) (cs.take n)
  | _, _, 0, r => .nil
  | _, _, n + 1, .nil => .nil
  | _, _, n + 1, .cons h r => .cons h (ClsH.take n r)
theorem ClsH.cut {ok : Addr → Prop} {H : Hp} {xs : List V} {cs : List Cl} (r : ClsH K ok H xs cs) (lo hi : Option Int) : ClsH K ok H (cutV xs lo hi) (cutD cs lo hi) := by
  unfold cutV cutD
  rw [r.len]
  exact (r.drop _).take _
abbrev AO := Ob → Rho → XC → (Ob → Option Int → Prop) → Prop
def SaO (K : PySem.W.Frag) (W : WX) (t : TO) (a : AO) : Prop := ∀ O ρ σ H (Q : Option Int → Hp → Prop) Kc XX, Ss K O ρ σ H → a O ρ XX Kc → (∀ O' b H', Fr O H O' H' → OkO K O' H' → Kc O' b → Q b H') → XOk K O H XX W → t σ H Q
def aNoPart : AO := fun O _ _ Kc => Kc O none
def aPart (a : AE) : AO := fun O ρ XX Kc => a O ρ XX fun O1 c => ∃ i, c = .dat (.int i) ∧ Kc O1 (some i)
theorem sa_noPart : SaO K W tNoPart aNoPart := fun O ρ σ H Q Kc XX S k q x => q O none H (Fr.refl _ _) S.o k
theorem sa_part {t : TE} {a : AE} (h : SaE K W t a) : SaO K W (tPart t) (aPart a) := fun O ρ σ H Q Kc XX S k q x =>
  h O ρ σ H _ _ XX S k (fun O1 c v H1 f1 o1 r1 ⟨i, e, k1⟩ => by
    subst e
    exact ⟨i, dq_int r1, q O1 _ H1 f1 o1 k1⟩) x
abbrev AR3 := Ob → Cl → Option Int → Option Int → KC → Prop
def SR3 (K : PySem.W.Frag) (r : V → Option Int → Option Int → Hp → VK → Prop) (ar : AR3) : Prop := ∀ O H Q Kc c v lo hi, OkO K O H → ClH K (fre O) H v c → ar O c lo hi Kc → QOk K O H Kc Q → r v lo hi H Q
def aSl (ar : AR3) (a : AE) (b c : AO) : AE := fun O ρ XX Kc => a O ρ XX fun O1 x => b O1 ρ XX fun O2 l => c O2 ρ XX fun O3 h => ar O3 x l h Kc
theorem sa_sl {r : V → Option Int → Option Int → Hp → VK → Prop} {ar : AR3} {te : TE} {tl th : TO} {a : AE} {b c : AO} (hr : SR3 K r ar) (ha : SaE K W te a) (hb : SaO K W tl b) (hc : SaO K W th c) : SaE K W (tSl r te tl th) (aSl ar a b c) := fun O ρ σ H Q Kc XX S k q x =>
  ha O ρ σ H _ _ XX S k (fun O1 c v H1 f1 o1 r1 k1 => hb O1 ρ σ H1 _ _ XX (S.go f1 o1) k1 (fun O2 l H2 f2 o2 k2 => hc O2 ρ σ H2 _ _ XX (S.go (f1.trans f2) o2) k2 (fun O3 h H3 f3 o3 k3 =>
    hr O3 H3 _ _ _ _ _ _ o3 (r1.fr (f2.trans f3)) k3 (q.go (f1.trans (f2.trans f3)))) (x.go (f1.trans f2))) (x.go f1)) x
def aSlL : AR3 := fun O c lo hi Kc => ∃ ds, Els O c (ds.map .dat) ∧ Kc O (.dat (.list (cutD ds lo hi)))
def aSlLC : AR3 := fun O c lo hi Kc => ∃ cs, Els O c cs ∧ Kc O (.lis (cutD cs lo hi))
def aSlLO : AR3 := fun O c lo hi Kc => ∃ cs, Els O c cs ∧ ∀ p, Kc ((p, .lst (cutD cs lo hi)) :: O) (.at p)
def aSlS : AR3 := fun O c lo hi Kc => ∃ z, c = .dat (.str z) ∧ z.length ≤ sizeLine ∧ Kc O (.dat (.str (cutS z lo hi)))
theorem sr_slL : SR3 K (rSlL K) aSlL := fun O H Q Kc c v lo hi o r ⟨ds, h, k⟩ q => by
  obtain ⟨a, xs, rfl, ha, rs⟩ := h.get o r
  refine ⟨a, xs, rfl, SqL.of ha, fun p hp => ?_⟩
  obtain ⟨o2, f2, n⟩ := o.new (u := .lst (cutV xs lo hi)) hp
  have e := cl_lis n upd_same ((rs.cut lo hi).fr f2)
  rw [cutD_map, lisC_dats] at e
  exact q O _ _ _ f2 o2 e k
theorem sr_slLC : SR3 K (rSlL K) aSlLC := fun O H Q Kc c v lo hi o r ⟨ds, h, k⟩ q => by
  obtain ⟨a, xs, rfl, ha, rs⟩ := h.get o r
  refine ⟨a, xs, rfl, SqL.of ha, fun p hp => ?_⟩
  obtain ⟨o2, f2, n⟩ := o.new (u := .lst (cutV xs lo hi)) hp
  exact q O _ _ _ f2 o2 (.lis n upd_same ((rs.cut lo hi).fr f2)) k
theorem sr_slLO : SR3 K (rSlL K) aSlLO := fun O H Q Kc c v lo hi o r ⟨ds, h, k⟩ q => by
  obtain ⟨a, xs, rfl, ha, rs⟩ := h.get o r
  refine ⟨a, xs, rfl, SqL.of ha, fun p hp => ?_⟩
  obtain ⟨o2, f2⟩ := own_lst o (rs.cut lo hi) hp
  exact q _ _ _ _ f2 o2 (.at p) (k p)
/-! ## built-in calls -/
abbrev AF := Ob → List Cl → (Ob → Str → Cl → Prop) → KC → Prop
abbrev AB := Ob → List Cl → KC → Prop
def SRB (K : PySem.W.Frag) (r : List V → Hp → VK → Prop) (ar : AB) : Prop := ∀ O H Q Kc cs vs, OkO K O H → ClsH K (fre O) H vs cs → ar O cs Kc → QOk K O H Kc Q → r vs H Q
def aCB (ar : AB) (a : AA) : AE := fun O ρ XX Kc => a O ρ XX fun O1 cs => ar O1 cs Kc
theorem sa_cb {r : List V → Hp → VK → Prop} {ar : AB} {t : TA} {a : AA} (hr : SRB K r ar) (ha : SaA K W t a) : SaE K W (tCB r t) (aCB ar a) := fun O ρ σ H Q Kc XX S k q x =>
  ha O ρ σ H _ _ XX S k (fun O1 cs vs H1 f1 o1 r1 k1 => hr O1 H1 _ _ _ _ o1 r1 k1 (q.go f1)) x
theorem cls1 {ok : Addr → Prop} {H : Hp} {vs : List V} {c : Cl} (h : ClsH K ok H vs [c]) : ∃ v, vs = [v] ∧ ClH K ok H v c := by
  cases h with | cons a b => cases b; exact ⟨_, rfl, a⟩
theorem cls2 {ok : Addr → Prop} {H : Hp} {vs : List V} {c d : Cl} (h : ClsH K ok H vs [c, d]) : ∃ v w, vs = [v, w] ∧ ClH K ok H v c ∧ ClH K ok H w d := by
  cases h with | cons a b => cases b with | cons b' e => cases e; exact ⟨_, _, rfl, a, b'⟩
/-- len -/
def bLen : AB := fun O cs Kc => ∃ c n, cs = [c] ∧ ((∃ ds, (Els O c ds ∨ ElsT c ds) ∧ ds.length = n) ∨ ∃ ns : List Int, c = .scr ns ∧ ns.length = n) ∧ Kc O (.dat (.int n))
def bLenS : AB := fun O cs Kc => ∃ z, cs = [.dat (.str z)] ∧ z.length ≤ sizeLine ∧ Kc O (.dat (.int z.length))
theorem sb_len : SRB K (fun xs H Q => ∃ p ys, xs = [.ref p] ∧ (SqL K H p ys ∨ SqT K H p ys) ∧ Q (.int ys.length) H) bLen := fun O H Q Kc cs vs o r ⟨c, n, e, h, k⟩ q => by
  subst e
  obtain ⟨v, rfl, rv⟩ := cls1 r
  rcases h with ⟨ds, h | h, z⟩ | ⟨ns, rfl, z⟩
  · obtain ⟨a, xs, rfl, ha, rs⟩ := h.get o rv
    refine ⟨a, xs, rfl, .inl (SqL.of ha), ?_⟩
    rw [rs.len, z]
    exact q O _ _ H (Fr.refl _ _) o (.dat (.int _)) k
  · obtain ⟨a, xs, rfl, ha, rs⟩ := h.get rv
    refine ⟨a, xs, rfl, .inr ha, ?_⟩
    rw [rs.len, z]
    exact q O _ _ H (Fr.refl _ _) o (.dat (.int _)) k
  · cases rv with
    | scr h _ =>
      refine ⟨_, _, rfl, .inl h, ?_⟩
      rw [List.length_map, z]
      exact q O _ _ H (Fr.refl _ _) o (.dat (.int _)) k
theorem sb_lenS : SRB K (fun xs H Q => ∃ z, xs = [.str z] ∧ z.length ≤ sizeLine ∧ Q (.int z.length) H) bLenS := fun O H Q Kc cs vs o r ⟨z, e, h, k⟩ q => by
  subst e
  obtain ⟨v, rfl, rv⟩ := cls1 r
  exact ⟨z, by rw [dq_str rv], h, q O _ _ H (Fr.refl _ _) o (.dat (.int _)) k⟩
def bI1 (g : Int → Int) : AB := fun O cs Kc => ∃ i, cs = [.dat (.int i)] ∧ Kc O (.dat (.int (g i)))
def bI2 (g : Int → Int → Int) : AB := fun O cs Kc => ∃ i j, cs = [.dat (.int i), .dat (.int j)] ∧ Kc O (.dat (.int (g i j)))
theorem sb_i1 {g : Int → Int} : SRB K (fun xs H Q => ∃ i, xs = [.int i] ∧ Q (.int (g i)) H) (bI1 g) := fun O H Q Kc cs vs o r ⟨i, e, k⟩ q => by
  subst e
  obtain ⟨v, rfl, rv⟩ := cls1 r
  exact ⟨i, by rw [dq_int rv], q O _ _ H (Fr.refl _ _) o (.dat (.int _)) k⟩
theorem sb_i2 {g : Int → Int → Int} : SRB K (fun xs H Q => ∃ i j, xs = [.int i, .int j] ∧ Q (.int (g i j)) H) (bI2 g) := fun O H Q Kc cs vs o r ⟨i, j, e, k⟩ q => by
  subst e
  obtain ⟨v, w, rfl, rv, rw'⟩ := cls2 r
  exact ⟨i, j, by rw [dq_int rv, dq_int rw'], q O _ _ H (Fr.refl _ _) o (.dat (.int _)) k⟩
/-- str(i) -/
def bStr : AB := fun O cs Kc => ∃ i : Int, cs = [.dat (.int i)] ∧ i.natAbs.log2 < 1920 ∧ Kc O (.dat (.str (toString i)))
theorem sb_str : SRB K (fun xs H Q => ∃ i, xs = [.int i] ∧ i.natAbs.log2 < 1920 ∧ Q (.str (toString i)) H) bStr := fun O H Q Kc cs vs o r ⟨i, e, z, k⟩ q => by
  subst e
  obtain ⟨v, rfl, rv⟩ := cls1 r
  exact ⟨i, by rw [dq_int rv], z, q O _ _ H (Fr.refl _ _) o (.dat (.str _)) k⟩
/-- the kind of a cell -/
def tnD : PyData → String
  | .none => "NoneType"
  | .bool _ => "bool"
  | .int _ => "int"
  | .str _ => "str"
  | .list _ => "list"
  | .tuple _ => "tuple"
  | .dict _ => "dict"
inductive Kn (O : Ob) : Cl → String → Prop
  | dat (d : PyData) : Kn O (.dat d) (tnD d)
  | own {a : Addr} {cs : List Cl} (m : (a, Ow.lst cs) ∈ O) : Kn O (.at a) "list"
  | dct {a : Addr} {es : List (Key × Cl)} (m : (a, Ow.dct es) ∈ O) : Kn O (.at a) "dict"
  | lis (cs : List Cl) : Kn O (.lis cs) "list"
  | tup (cs : List Cl) : Kn O (.tup cs) "tuple"
  | con (ds : List PyData) : Kn O (.con (.tuple ds)) "tuple"
theorem dq_tn {ok : Addr → Prop} {H : Hp} {v : V} {d : PyData} (h : Dq ok H v d) : Tn K H v (tnD d) := by
  cases h with
  | non => exact .non
  | bl b => exact .bl b
  | int i => exact .int i
  | str x => exact .str x
  | lst o h r => exact .lst h
  | tup o h r => exact .tup h
  | dct o h k r => exact .dct h
theorem Kn.tn {O : Ob} {H : Hp} {c : Cl} {n : String} {v : V} (h : Kn O c n) (o : OkO K O H) (r : ClH K (fre O) H v c) : Tn K H v n := by
  cases h with
  | dat d => cases r with | dat h => exact dq_tn h
  | own m => cases r; obtain ⟨xs, h, _⟩ := o.all _ m; exact .lst h
  | dct m => cases r; obtain ⟨xs, h, _⟩ := o.all _ m; exact .dct h
  | lis cs => cases r with | lis o' h r => exact .lst h
  | tup cs => cases r with | tup o' h r => exact .tup h
  | con ds => cases r with | con h => cases h with | tup e c d z r q => exact .con e c
def bIsi : AB := fun O cs Kc => ∃ c n cl b, cs = [c, .raw (.ty cl)] ∧ Kn O c n ∧ kitB n cl = some b ∧ Kc O (.dat (.bool b))
theorem sb_isi : SRB K (fun xs H Q => ∃ x n c b, xs = [x, .ty c] ∧ Tn K H x n ∧ kitB n c = some b ∧ Q (.bl b) H) bIsi := fun O H Q Kc cs vs o r ⟨c, n, cl, b, e, hn, hk, k⟩ q => by
  subst e
  obtain ⟨v, w, rfl, rv, rw'⟩ := cls2 r
  exact ⟨v, n, cl, b, by rw [dq_raw rw'], hn.tn o rv, hk, q O _ _ H (Fr.refl _ _) o (.dat (.bl _)) k⟩
/-- isinstance(x, (T, U)) -/
def bIsi2 : AB := fun O cs Kc => ∃ c n c1 c2 b1 b2, cs = [c, .tup [.raw (.ty c1), .raw (.ty c2)]] ∧ Kn O c n ∧ kitB n c1 = some b1 ∧ kitB n c2 = some b2 ∧ Kc O (.dat (.bool (b1 || b2)))
theorem sb_isi2 : SRB K (rIsiT K) bIsi2 := fun O H Q Kc cs vs o r ⟨c, n, c1, c2, b1, b2, e, hn, h1, h2, k⟩ q => by
  subst e
  obtain ⟨v, w, rfl, rv, rw'⟩ := cls2 r
  cases rw' with
  | tup oo hh rr =>
    obtain ⟨x, y, rfl, rx, ry⟩ := cls2 rr
    rw [dq_raw rx, dq_raw ry] at hh
    refine ⟨v, _, _, _, [.type c1, .type c2], _, rfl, hh, .cons (.ty c1) (.cons (.ty c2) .nil), (hn.tn o rv).tyx, ?_, q O _ _ H (Fr.refl _ _) o (.dat (.bl _)) k⟩
    refine kitAny_cons (kit_ty h1) (fun e => ?_) fun e => by rw [e]; rfl
    rw [e]
    refine kitAny_cons (kit_ty h2) (fun e => ?_) fun e => by rw [e]; rfl
    rw [e]
    rfl
/-- all(..) of a list of truths -/
def bAll : AB := fun O cs Kc => ∃ c bs, cs = [c] ∧ Els O c ((bs : List Bool).map fun b => .dat (.bool b)) ∧ Kc O (.dat (.bool (bs.all id)))
theorem cls_bools {ok : Addr → Prop} {H : Hp} : ∀ {xs : List V} {bs : List Bool}, ClsH K ok H xs (bs.map fun b => .dat (.bool b)) → xs = bs.map V.bl
  | _, [], .nil => rfl
  | _, b :: bs, .cons h r => by rw [dq_bool h, cls_bools r]; rfl
theorem sb_all : SRB K (rAll K) bAll := fun O H Q Kc cs vs o r ⟨c, bs, e, h, k⟩ q => by
  subst e
  obtain ⟨v, rfl, rv⟩ := cls1 r
  obtain ⟨a, xs, rfl, ha, rs⟩ := h.get o rv
  rw [cls_bools rs] at ha
  exact ⟨a, bs, rfl, SqL.of ha, q O _ _ H (Fr.refl _ _) o (.dat (.bl _)) k⟩
/-- repr -/
def flatPD : PyData → Bool
  | .none | .bool _ | .int _ | .str _ => true
  | _ => false
def bRepr : AB := fun O cs Kc => ∃ c d, cs = [c] ∧ Rdc O c d ∧ d.hasDict = false ∧ d.showable = true ∧ d.depth ≤ 50 ∧ d.shown.length ≤ sizeLine ∧ Kc O (.dat (.str d.shown))
theorem sb_repr : SRB K (fun xs H Q => ∃ x d, xs = [x] ∧ Dp K H x d ∧ d.showable = true ∧ d.depth ≤ 50 ∧ d.shown.length ≤ sizeLine ∧ Q (.str d.shown) H) bRepr := fun O H Q Kc cs vs o r ⟨c, d, e, h, n, h1, h2, h3, k⟩ q => by
  subst e
  obtain ⟨v, rfl, rv⟩ := cls1 r
  exact ⟨v, d, rfl, h.dp o rv n, h1, h2, h3, q O _ _ H (Fr.refl _ _) o (.dat (.str _)) k⟩
/-- a method of a list that is owned -/
def aApp (a : AE) (b : AA) : AE := fun O ρ XX Kc => a O ρ XX fun O1 c => ∃ p cs f, c = .at p ∧ Lo O1 p (.lst cs) f ∧ b O1 ρ XX fun O2 ds => ∃ d cs f, ds = [d] ∧ Lo O2 p (.lst cs) f ∧ cs.length ≤ 1000000 ∧ Kc (f (.lst (cs ++ [d]))) (.dat .none)
end
end Ab
namespace Ab
open PySem PySem.Spec PyProof.Rows L2 Vg
section
variable {K : PySem.W.Frag} {W : WX}
/-! ## statements -/
def aNext : AS := fun A _ O ρ => A.nx O ρ
def aSeq (t u : AS) : AS := fun A XX O ρ => t { A with nx := u A XX } XX O ρ
def aDrop (a : AE) : AS := fun A XX O ρ => a O ρ XX fun O1 _ => A.nx O1 ρ
def aRet (a : AE) : AS := fun A XX O ρ => a O ρ XX A.rt
def aRetN : AS := fun A _ O _ => A.rt O (.dat .none)
def aIfS (c : AT) (t u : AS) : AS := fun A XX O ρ => c O ρ XX fun O1 b => if b = true then t A XX O1 ρ else u A XX O1 ρ
abbrev AG := Cl → Ob → Rho → (Ob → Rho → Prop) → Prop
abbrev AGs := List Cl → Ob → Rho → (Ob → Rho → Prop) → Prop
def aAsg (a : AE) (g : AG) : AS := fun A XX O ρ => a O ρ XX fun O1 c => g c O1 ρ A.nx
def aName (i : Nat) : AG := fun c O ρ k => k O (ρ.set i (some c))
def aPar (i j : Nat) (a : AA) : AS := fun A XX O ρ => a O ρ XX fun O1 cs => ∃ c d, cs = [c, d] ∧ A.nx O1 ((ρ.set i (some c)).set j (some d))
theorem sas_next : SaS K W tNext aNext := fun O ρ σ H D A XX S k e x => e.nx O ρ σ H (Fr.refl _ _) S k
theorem sas_seq {t u : TS} {a b : AS} (ha : SaS K W t a) (hb : SaS K W u b) : SaS K W (tSeq t u) (aSeq a b) := fun O ρ σ H D A XX S k e x =>
  ha O ρ σ H _ _ XX S k ⟨fun O1 ρ1 σ1 H1 f1 S1 k1 => hb O1 ρ1 σ1 H1 D A XX S1 k1 (e.go f1) (x.go f1), e.rt, e.bk, e.ct⟩ x
theorem sas_drop {t : TE} {a : AE} (ha : SaE K W t a) : SaS K W (tDrop t) (aDrop a) := fun O ρ σ H D A XX S k e x =>
  ha O ρ σ H _ _ XX S k (fun O1 c v H1 f1 o1 r1 k1 => e.nx O1 ρ σ H1 f1 (S.go f1 o1) k1) x
theorem sas_ret {t : TE} {a : AE} (ha : SaE K W t a) : SaS K W (tRet t) (aRet a) := fun O ρ σ H D A XX S k e x => ha O ρ σ H _ _ XX S k e.rt x
theorem sas_retN : SaS K W tRetN aRetN := fun O ρ σ H D A XX S k e x => e.rt O _ _ H (Fr.refl _ _) S.o (.dat .non) k
theorem sas_if {c : TT} {t u : TS} {a : AT} {b d : AS} (hc : SaT K W c a) (ha : SaS K W t b) (hb : SaS K W u d) : SaS K W (tIfS c t u) (aIfS a b d) := fun O ρ σ H D A XX S k e x =>
  hc O ρ σ H _ _ XX S k (fun O1 z H1 f1 o1 k1 => by
    cases z with
    | true =>
      rw [if_pos rfl] at k1 ⊢
      exact ha O1 ρ σ H1 D A XX (S.go f1 o1) k1 (e.go f1) (x.go f1)
    | false =>
      rw [if_neg Bool.false_ne_true] at k1 ⊢
      exact hb O1 ρ σ H1 D A XX (S.go f1 o1) k1 (e.go f1) (x.go f1)) x
def SaG (K : PySem.W.Frag) (t : TG) (a : AG) : Prop := ∀ O ρ σ H c v k R, Ss K O ρ σ H → ClH K (fre O) H v c → a c O ρ k → NOk K O H k R → t v σ H R
def SaGs (K : PySem.W.Frag) (t : TGs) (a : AGs) : Prop := ∀ O ρ σ H cs vs k R, Ss K O ρ σ H → ClsH K (fre O) H vs cs → a cs O ρ k → NOk K O H k R → t vs σ H R
theorem sag_name {i : Nat} : SaG K (gName i) (aName i) := fun O ρ σ H c v k R S r h n => n O _ _ H (Fr.refl _ _) (S.set r) h
def aGNil : AGs := fun cs O ρ k => cs = [] ∧ k O ρ
def aGCons (a : AG) (b : AGs) : AGs := fun cs O ρ k => ∃ c r, cs = c :: r ∧ a c O ρ fun O1 ρ1 => b r O1 ρ1 k
theorem sag_nil : SaGs K gNil aGNil := fun O ρ σ H cs vs k R S r ⟨e, h⟩ n => by
  subst e
  cases r
  exact ⟨rfl, n O ρ σ H (Fr.refl _ _) S h⟩
theorem sag_cons {t : TG} {u : TGs} {a : AG} {b : AGs} (ha : SaG K t a) (hb : SaGs K u b) : SaGs K (gCons t u) (aGCons a b) := fun O ρ σ H cs vs k R S r ⟨c, cr, e, h⟩ n => by
  subst e
  cases r with
  | cons h1 r1 =>
    exact ⟨_, _, rfl, ha O ρ σ H c _ _ _ S h1 h fun O1 ρ1 σ1 H1 f1 S1 k1 => hb O1 ρ1 σ1 H1 _ _ _ _ S1 (r1.fr f1) k1 (n.go f1)⟩
def aGTup (m : Nat) (b : AGs) : AG := fun c O ρ k => ∃ cs, ElsT c cs ∧ cs.length = m ∧ b cs O ρ k
theorem sag_tup {m : Nat} {t : TGs} {b : AGs} (hb : SaGs K t b) : SaG K (gTup K m t) (aGTup m b) := fun O ρ σ H c v k R S r ⟨cs, h, hl, q⟩ n => by
  obtain ⟨a, xs, rfl, ha, rs⟩ := h.get r
  exact ⟨a, xs, rfl, ha, by rw [rs.len]; exact hl, hb O ρ σ H cs xs k R S rs q n⟩
theorem sas_asg {t : TE} {g : TG} {a : AE} {b : AG} (ha : SaE K W t a) (hb : SaG K g b) : SaS K W (tAsg t g) (aAsg a b) := fun O ρ σ H D A XX S k e x =>
  ha O ρ σ H _ _ XX S k (fun O1 c v H1 f1 o1 r1 k1 => hb O1 ρ σ H1 c v _ _ (S.go f1 o1) r1 k1 (e.nx.go f1)) x
theorem sas_par {i j : Nat} {t : TA} {a : AA} (ha : SaA K W t a) : SaS K W (tPar i j t) (aPar i j a) := fun O ρ σ H D A XX S k e x =>
  ha O ρ σ H _ _ XX S k (fun O1 cs vs H1 f1 o1 r1 ⟨c, d, e1, k1⟩ => by
    subst e1
    obtain ⟨v, w, rfl, rv, rw'⟩ := cls2 r1
    exact ⟨v, w, rfl, e.nx O1 _ _ H1 f1 (((S.go f1 o1).set rv).set rw') k1⟩) x
/-! ## while -/
def aWhile (c : AT) (b : AS) : AS := fun A XX O ρ => ∃ Wi : Nat → Ob → Rho → Prop, (∃ m, Wi m O ρ) ∧ ∀ m O ρ, Wi m O ρ →
  c O ρ XX fun O1 z => if z = true then b { A with nx := fun O' ρ' => ∃ m', m' < m ∧ Wi m' O' ρ', ct := fun O' ρ' => ∃ m', m' < m ∧ Wi m' O' ρ', bk := A.nx } XX O1 ρ else A.nx O1 ρ
theorem sas_while {c : TT} {tb : TS} {a : AT} {b : AS} (hc : SaT K W c a) (hb : SaS K W tb b) : SaS K W (tWhile c tb) (aWhile a b) := fun O ρ σ H D A XX S ⟨Wi, ⟨m, w0⟩, turn⟩ e x => by
  refine ⟨fun m σ1 H1 => ∃ O1 ρ1, Fr O H O1 H1 ∧ Ss K O1 ρ1 σ1 H1 ∧ Wi m O1 ρ1, ⟨m, O, ρ, Fr.refl _ _, S, w0⟩, ?_⟩
  rintro m σ1 H1 ⟨O1, ρ1, f1, S1, w1⟩
  refine hc O1 ρ1 σ1 H1 _ _ XX S1 (turn m O1 ρ1 w1) (fun O2 z H2 f2 o2 k2 => ?_) (x.go f1)
  have f12 := f1.trans f2
  cases z with
  | true =>
    rw [if_pos rfl] at k2 ⊢
    refine ⟨fun σ' H' => ∃ m', m' < m ∧ ∃ O1 ρ1, Fr O H O1 H' ∧ Ss K O1 ρ1 σ' H' ∧ Wi m' O1 ρ1, fun σ' H' h => h, ?_⟩
    have n : NOk K O2 H2 (fun O' ρ' => ∃ m', m' < m ∧ Wi m' O' ρ') (fun σ' H' => ∃ m', m' < m ∧ ∃ O1 ρ1, Fr O H O1 H' ∧ Ss K O1 ρ1 σ' H' ∧ Wi m' O1 ρ1) := fun O3 ρ3 σ3 H3 f3 S3 ⟨m', hm, w3⟩ => ⟨m', hm, O3, ρ3, f12.trans f3, S3, w3⟩
    exact hb O2 ρ1 σ1 H2 _ _ XX (S1.go f2 o2) k2 ⟨n, e.rt.go f12, e.nx.go f12, n⟩ (x.go f12)
  | false =>
    rw [if_neg Bool.false_ne_true] at k2 ⊢
    exact e.nx O2 ρ1 σ1 H2 f12 (S1.go f2 o2) k2
/-! ## for -/
/-- how far a loop is: W by the turn -/
def aTurns (cs : List Cl) (St : Ob → Prop) (g : AG) (b : AS) : AS := fun A XX O ρ => ∃ Wi : Nat → Ob → Rho → Prop, Wi 0 O ρ ∧
  (∀ j O2 ρ2 e, cs[j]? = some e → Wi j O2 ρ2 → St O2 ∧ g e O2 ρ2 fun O3 ρ3 => b { A with nx := Wi (j + 1), ct := Wi (j + 1), bk := A.nx } XX O3 ρ3) ∧
  ∀ O2 ρ2, Wi cs.length O2 ρ2 → St O2 ∧ A.nx O2 ρ2
/-- a loop by an iterator that tells cells -/
structure ItOk (K : PySem.W.Frag) (O : Ob) (H : Hp) (J : It) (cs : List Cl) (St : Ob → Prop) : Prop where
  go : ∀ O' H' j e, Fr O H O' H' → OkO K O' H' → St O' → cs[j]? = some e → J.go j H'
  yld : ∀ O' H' H2 j e x, Fr O H O' H' → OkO K O' H' → St O' → cs[j]? = some e → J.yld j H' x H2 → OkO K O' H2 ∧ Fr O' H' O' H2 ∧ ClH K (fre O') H2 x e
  stop : ∀ O' H', Fr O H O' H' → OkO K O' H' → St O' → J.stop cs.length H'
theorem for_turns {O : Ob} {ρ : Rho} {σ : L2.St} {H : Hp} {D : Ends} {A : AEn} {XX : XC} {J : It} {cs : List Cl} {St : Ob → Prop} {g : TG} {ag : AG} {tb : TS} {b : AS} (hJ : ItOk K O H J cs St) (hg : SaG K g ag) (hb : SaS K W tb b)
    (S : Ss K O ρ σ H) (h : aTurns cs St ag b A XX O ρ) (e : EOk K O H A D) (x : XOk K O H XX W) :
    ∃ Wt : Nat → Nat → L2.St → Hp → Prop, (∃ m, Wt 0 m σ H) ∧ ∀ i m σ H, Wt i m σ H →
      (J.stop i H ∧ D.nx σ H) ∨ (J.go i H ∧ ∃ N : L2.St → Hp → Prop, (∀ σ' H', N σ' H' → ∃ m', m' < m ∧ Wt (i + 1) m' σ' H') ∧ ∀ x H', J.yld i H x H' → g x σ H' fun σ2 H2 => tb { D with nx := N, ct := N, bk := D.nx } σ2 H2) := by
  obtain ⟨Wi, w0, turn, last⟩ := h
  refine ⟨fun i m σ' H' => m = cs.length - i ∧ i ≤ cs.length ∧ ∃ O1 ρ1, Fr O H O1 H' ∧ Ss K O1 ρ1 σ' H' ∧ Wi i O1 ρ1, ⟨_, rfl, Nat.zero_le _, O, ρ, Fr.refl _ _, S, w0⟩, ?_⟩
  rintro i m σ1 H1 ⟨rfl, hi, O1, ρ1, f1, S1, w1⟩
  by_cases hl : i < cs.length
  · obtain ⟨c, hc⟩ : ∃ c, cs[i]? = some c := ⟨_, List.getElem?_eq_getElem hl⟩
    obtain ⟨st, k⟩ := turn i O1 ρ1 c hc w1
    refine .inr ⟨hJ.go O1 H1 i c f1 S1.o st hc, fun σ' H' => i + 1 ≤ cs.length ∧ ∃ O1 ρ1, Fr O H O1 H' ∧ Ss K O1 ρ1 σ' H' ∧ Wi (i + 1) O1 ρ1, fun σ' H' ⟨h1, h2⟩ => ⟨_, by omega, rfl, h1, h2⟩, fun v H2 hy => ?_⟩
    obtain ⟨o2, f2, r2⟩ := hJ.yld O1 H1 H2 i c v f1 S1.o st hc hy
    have f12 := f1.trans f2
    refine hg O1 ρ1 σ1 H2 c v _ _ (S1.go f2 o2) r2 k fun O3 ρ3 σ3 H3 f3 S3 k3 => ?_
    have f13 := f12.trans f3
    have n : NOk K O3 H3 (Wi (i + 1)) (fun σ' H' => i + 1 ≤ cs.length ∧ ∃ O1 ρ1, Fr O H O1 H' ∧ Ss K O1 ρ1 σ' H' ∧ Wi (i + 1) O1 ρ1) := fun O4 ρ4 σ4 H4 f4 S4 w4 => ⟨hl, O4, ρ4, f13.trans f4, S4, w4⟩
    exact hb O3 ρ3 σ3 H3 _ _ XX S3 k3 ⟨n, e.rt.go f13, e.nx.go f13, n⟩ (x.go f13)
  · have ei : i = cs.length := by omega
    subst ei
    obtain ⟨st, k⟩ := last O1 ρ1 w1
    exact .inl ⟨hJ.stop O1 H1 f1 S1.o st, e.nx O1 ρ1 σ1 H1 f1 S1 k⟩
/-- an iterator's reading -/
abbrev AIt := Ob → Rho → XC → (Ob → List Cl → (Ob → Prop) → Prop) → Prop
def SaI (K : PySem.W.Frag) (W : WX) (wi : TI) (a : AIt) : Prop := ∀ O ρ σ H (R : It → Hp → Prop) Kc XX, Ss K O ρ σ H → a O ρ XX Kc → (∀ O' H' J cs St, Fr O H O' H' → OkO K O' H' → ItOk K O' H' J cs St → Kc O' cs St → R J H') → XOk K O H XX W → wi σ H R
def aFor (it : AIt) (g : AG) (b : AS) : AS := fun A XX O ρ => it O ρ XX fun O1 cs St => aTurns cs St g b A XX O1 ρ
theorem sas_for {wi : TI} {g : TG} {tb : TS} {it : AIt} {ag : AG} {b : AS} (hi : SaI K W wi it) (hg : SaG K g ag) (hb : SaS K W tb b) : SaS K W (tFor wi g tb) (aFor it ag b) := fun O ρ σ H D A XX S k e x =>
  hi O ρ σ H _ _ XX S k (fun O1 H1 J cs St f1 o1 hJ k1 => for_turns hJ hg hb (S.go f1 o1) k1 (e.go f1) (x.go f1)) x
def aItL (a : AE) : AIt := fun O ρ XX Kc => a O ρ XX fun O1 c => ∃ cs, Els O1 c cs ∧ Kc O1 cs fun O2 => Els O2 c cs
def aItT (a : AE) : AIt := fun O ρ XX Kc => a O ρ XX fun O1 c => ∃ cs, ElsT c cs ∧ Kc O1 cs fun _ => True
theorem itok_list {O : Ob} {H : Hp} {a : Addr} {c : Cl} {cs : List Cl} (r : ClH K (fre O) H (.ref a) c) : ItOk K O H (Itl K a) cs (fun O2 => Els O2 c cs) := by
  have at_ : ∀ O' H', Fr O H O' H' → OkO K O' H' → Els O' c cs → ∃ xs, H' a = some (.lst xs) ∧ ClsH K (fre O') H' xs cs := fun O' H' f o st => by
    obtain ⟨b, xs, e, h, q⟩ := st.get o (r.fr f)
    cases e
    exact ⟨xs, h, q⟩
  refine ⟨fun O' H' j e f o st hj => ?_, fun O' H' H2 j e x f o st hj hy => ?_, fun O' H' f o st => ?_⟩
  · obtain ⟨xs, h, q⟩ := at_ O' H' f o st
    obtain ⟨v, hv, _⟩ := q.get hj
    exact ⟨xs, v, SqL.of h, hv⟩
  · obtain ⟨xs, h, q⟩ := at_ O' H' f o st
    obtain ⟨v, hv, rv⟩ := q.get hj
    obtain ⟨rfl, hx⟩ := hy
    have := hx xs (SqL.of h)
    rw [hv] at this
    cases this
    exact ⟨o, Fr.refl _ _, rv⟩
  · obtain ⟨xs, h, q⟩ := at_ O' H' f o st
    exact ⟨xs, SqL.of h, by rw [q.len]; exact Nat.le_refl _⟩
theorem itok_tup {O : Ob} {H : Hp} {a : Addr} {c : Cl} {cs : List Cl} (r : ClH K (fre O) H (.ref a) c) (hc : ElsT c cs) : ItOk K O H (Itt K a) cs (fun _ => True) := by
  have at_ : ∀ O' H', Fr O H O' H' → OkO K O' H' → ∃ xs, SqT K H' a xs ∧ ClsH K (fre O') H' xs cs := fun O' H' f o => by
    obtain ⟨b, xs, e, h, q⟩ := hc.get (r.fr f)
    cases e
    exact ⟨xs, h, q⟩
  refine ⟨fun O' H' j e f o st hj => ?_, fun O' H' H2 j e x f o st hj hy => ?_, fun O' H' f o st => ?_⟩
  · obtain ⟨xs, h, q⟩ := at_ O' H' f o
    obtain ⟨v, hv, _⟩ := q.get hj
    exact ⟨xs, v, h, hv⟩
  · obtain ⟨xs, h, q⟩ := at_ O' H' f o
    obtain ⟨v, hv, rv⟩ := q.get hj
    obtain ⟨rfl, hx⟩ := hy
    have := hx xs h
    rw [hv] at this
    cases this
    exact ⟨o, Fr.refl _ _, rv⟩
  · obtain ⟨xs, h, q⟩ := at_ O' H' f o
    exact ⟨xs, h, by rw [q.len]; exact Nat.le_refl _⟩
theorem sai_list {t : TE} {a : AE} (ha : SaE K W t a) : SaI K W (iList K t) (aItL a) := fun O ρ σ H R Kc XX S k q x =>
  ha O ρ σ H _ _ XX S k (fun O1 c v H1 f1 o1 r1 ⟨cs, h, k1⟩ => by
    obtain ⟨b, xs, rfl, hb, rs⟩ := h.get o1 r1
    exact ⟨b, rfl, ⟨xs, SqL.of hb⟩, q O1 H1 _ _ _ f1 o1 (itok_list r1) k1⟩) x
theorem sai_tup {t : TE} {a : AE} (ha : SaE K W t a) : SaI K W (iTup K t) (aItT a) := fun O ρ σ H R Kc XX S k q x =>
  ha O ρ σ H _ _ XX S k (fun O1 c v H1 f1 o1 r1 ⟨cs, h, k1⟩ => by
    obtain ⟨b, xs, rfl, hb, rs⟩ := h.get r1
    exact ⟨b, rfl, ⟨xs, hb⟩, q O1 H1 _ _ _ f1 o1 (itok_tup r1 h) k1⟩) x
/-- the numbers from lo on, n of them -/
def nums (lo : Int) (n : Nat) : List Cl := (List.range n).map fun j => .dat (.int (lo + (j : Nat)))
theorem nums_len (lo : Int) (n : Nat) : (nums lo n).length = n := by simp [nums]
theorem nums_get {lo : Int} {n j : Nat} {c : Cl} (h : (nums lo n)[j]? = some c) : j < n ∧ c = .dat (.int (lo + (j : Nat))) := by
  unfold nums at h
  by_cases hj : j < n
  · rw [List.getElem?_map, List.getElem?_eq_getElem (by simpa using hj), List.getElem_range] at h
    cases h
    exact ⟨hj, rfl⟩
  · rw [List.getElem?_map, List.getElem?_eq_none (by simpa using Nat.le_of_not_lt hj)] at h
    cases h
theorem itok_range {O : Ob} {H : Hp} {lo : Int} {n : Nat} : ItOk K O H (Itr lo n) (nums lo n) (fun _ => True) := by
  refine ⟨fun O' H' j e f o st hj => (nums_get hj).1, fun O' H' H2 j e x f o st hj hy => ?_, fun O' H' f o st => by rw [nums_len]; exact Nat.le_refl _⟩
  obtain ⟨rfl, rfl⟩ := hy
  rw [(nums_get hj).2]
  exact ⟨o, Fr.refl _ _, .dat (.int _)⟩
def aItR1 (a : AA) : AIt := fun O ρ XX Kc => a O ρ XX fun O1 cs => ∃ j : Int, cs = [.dat (.int j)] ∧ -1000000 ≤ j ∧ j ≤ 1000000 ∧ Kc O1 (nums 0 j.toNat) fun _ => True
def aItR2 (a : AA) : AIt := fun O ρ XX Kc => a O ρ XX fun O1 cs => ∃ i j : Int, cs = [.dat (.int i), .dat (.int j)] ∧ (-1000000 ≤ i ∧ i ≤ 1000000) ∧ (-1000000 ≤ j ∧ j ≤ 1000000) ∧ Kc O1 (nums i (j - i).toNat) fun _ => True
theorem sai_r1 {t : TA} {a : AA} (ha : SaA K W t a) : SaI K W (iRng1 t) (aItR1 a) := fun O ρ σ H R Kc XX S k q x =>
  ha O ρ σ H _ _ XX S k (fun O1 cs vs H1 f1 o1 r1 ⟨j, e, h1, h2, k1⟩ => by
    subst e
    obtain ⟨v, rfl, rv⟩ := cls1 r1
    exact ⟨j, by rw [dq_int rv], by omega, by omega, q O1 H1 _ _ _ f1 o1 itok_range k1⟩) x
theorem sai_r2 {t : TA} {a : AA} (ha : SaA K W t a) : SaI K W (iRng2 t) (aItR2 a) := fun O ρ σ H R Kc XX S k q x =>
  ha O ρ σ H _ _ XX S k (fun O1 cs vs H1 f1 o1 r1 ⟨i, j, e, h1, h2, k1⟩ => by
    subst e
    obtain ⟨v, w, rfl, rv, rw'⟩ := cls2 r1
    exact ⟨i, j, by rw [dq_int rv, dq_int rw'], ⟨by omega, by omega, by omega, by omega⟩, q O1 H1 _ _ _ f1 o1 itok_range k1⟩) x
/-! ## comprehensions -/
def wipeR (ρ : Rho) : List Nat → Rho
  | [] => ρ
  | v :: vs => (wipeR ρ vs).set v none
theorem ss_wipe {O : Ob} {ρ : Rho} {σ : L2.St} {H : Hp} (S : Ss K O ρ σ H) : ∀ vs : List Nat, Ss K O (wipeR ρ vs) (wipe σ vs) H
  | [] => S
  | v :: vs => (ss_wipe S vs).drop
abbrev W0 : WX := fun _ _ _ _ => False
abbrev X0 : XC := fun _ _ _ _ => False
theorem x0 {O : Ob} {H : Hp} : XOk K O H X0 W0 := fun _ _ _ _ _ _ _ _ _ _ _ _ _ h => h
theorem OkO.app {O : Ob} {H : Hp} {D : Addr} {acc : List Cl} {f : Ow → Ob} {xs : List V} {u : V} {y : Cl} (o : OkO K O H) (lo : Lo O D (.lst acc) f) (hx : H D = some (.lst xs)) (rs : ClsH K (fre O) H xs acc) (r : ClH K (fre O) H u y) :
    OkO K (f (.lst (acc ++ [y]))) (upd H D (.lst (xs ++ [u]))) ∧ Fr O H (f (.lst (acc ++ [y]))) (upd H D (.lst (xs ++ [u]))) :=
  o.put (w' := .lst (acc ++ [y])) lo ⟨_, upd_same, (rs.app (.cons r .nil)).mono (fun b v fb e => by rw [upd_ne fun z => fb _ lo.mem z.symm]; exact e) fun b v fb _ => (lo.fre b).mpr fb⟩
/-- W by the turn, the new list among the owned ones -/
def aLc (own : Bool) (it : AIt) (i : Nat) (tt : AT) (te : AE) : AE := fun O ρ XX Kc => it O ρ XX fun O1 cs St => ∀ D, ∃ Wi : Nat → Ob → Prop, Wi 0 ((D, .lst []) :: O1) ∧
  (∀ j O2 e, cs[j]? = some e → Wi j O2 → St O2 ∧ tt O2 ((wipeR ρ [i]).set i (some e)) X0 fun O3 b =>
    if b = true then te O3 ((wipeR ρ [i]).set i (some e)) X0 fun O4 y => ∃ acc f, Lo O4 D (.lst acc) f ∧ acc.length < 1000000 ∧ Wi (j + 1) (f (.lst (acc ++ [y]))) else Wi (j + 1) O3) ∧
  ∀ O2, Wi cs.length O2 → St O2 ∧ ∃ acc R, O2 = (D, .lst acc) :: R ∧ if own = true then Kc O2 (.at D) else Kc R (lisC acc)
theorem fre_cons {O : Ob} {a : Addr} {w : Ow} {b : Addr} (h : fre ((a, w) :: O) b) : fre O b := fun x hx => h x (List.mem_cons_of_mem _ hx)
/-- a list in the making is set free -/
theorem OkO.unown {O : Ob} {H : Hp} {D : Addr} {w : Ow} (o : OkO K ((D, w) :: O) H) : OkO K O H := by
  refine ⟨(List.nodup_cons.mp o.nd).2, fun x hx => (o.all x (List.mem_cons_of_mem _ hx)).mono (fun _ _ _ e => e) (fun b v f _ => fre_cons f) rfl⟩
theorem sa_lc {own : Bool} {wi : TI} {i : Nat} {tt : TT} {te : TE} {it : AIt} {a : AT} {b : AE} (hi : SaI K W wi it) (ht : SaT K W0 tt a) (he : SaE K W0 te b) : SaE K W (tLc wi (gName i) tt te [i]) (aLc own it i a b) := fun O ρ σ H Q Kc XX S k q x =>
  hi O ρ σ H _ _ XX S k (fun O1 H1 J cs St f1 o1 hJ k1 => by
    intro D hD
    obtain ⟨Wi, w0, turn, last⟩ := k1 D
    obtain ⟨oD, fD⟩ := own_lst (vs := []) (cs := []) o1 .nil hD
    refine ⟨fun j m H' => m = cs.length - j ∧ j ≤ cs.length ∧ ∃ O2, Fr O1 H1 O2 H' ∧ OkO K O2 H' ∧ Wi j O2, ⟨_, rfl, Nat.zero_le _, _, fD, oD, w0⟩, ?_⟩
    rintro j m H2 ⟨rfl, hj, O2, f2, o2, w2⟩
    by_cases hl : j < cs.length
    · obtain ⟨c, hc⟩ : ∃ c, cs[j]? = some c := ⟨_, List.getElem?_eq_getElem hl⟩
      obtain ⟨st, k⟩ := turn j O2 c hc w2
      refine .inr ⟨hJ.go O2 H2 j c f2 o2 st hc, fun H' => j + 1 ≤ cs.length ∧ ∃ O2, Fr O1 H1 O2 H' ∧ OkO K O2 H' ∧ Wi (j + 1) O2, fun H' ⟨h1, h2⟩ => ⟨_, by omega, rfl, h1, h2⟩, fun v H3 hy => ?_⟩
      obtain ⟨o3, f3, r3⟩ := hJ.yld O2 H2 H3 j c v f2 o2 st hc hy
      have f03 := (f1.trans f2).trans f3
      have S3 : Ss K O2 ((wipeR ρ [i]).set i (some c)) ((wipe σ [i]).set i (some v)) H3 := (ss_wipe (S.go f03 o3) [i]).set r3
      refine ⟨by show ((σ.set i none).set i (some v)).set i none = σ.set i none; rw [List.set_set, List.set_set], ?_⟩
      refine ht O2 _ _ H3 _ _ X0 S3 k (fun O4 z H4 f4 o4 k4 => ?_) x0
      have f14 := (f2.trans f3).trans f4
      cases z with
      | true =>
        rw [if_pos rfl] at k4 ⊢
        refine he O4 _ _ H4 _ _ X0 (S3.go f4 o4) k4 (fun O5 y u H5 f5 o5 r5 ⟨acc, f, lo, hz, w5⟩ => ?_) x0
        obtain ⟨xs, hxs, rs⟩ := o5.lo lo
        refine ⟨xs, hxs, by rw [rs.len]; exact Nat.lt_of_lt_of_le hz (by decide), hl, _, ?_, ?_, w5⟩
        · exact (f14.trans f5).trans (o5.app lo hxs rs r5).2
        · exact (o5.app lo hxs rs r5).1
      | false =>
        rw [if_neg Bool.false_ne_true] at k4 ⊢
        exact ⟨hl, O4, f14, o4, k4⟩
    · have ej : j = cs.length := by omega
      subst ej
      obtain ⟨st, acc, R, rfl, k⟩ := last O2 w2
      refine .inl ⟨hJ.stop _ H2 f2 o2 st, ?_⟩
      cases own with
      | true => exact q _ _ _ H2 (f1.trans f2) o2 (.at D) (by simpa using k)
      | false =>
        have k' : Kc R (lisC acc) := by simpa using k
        obtain ⟨xs, hxs, rs⟩ := o2.all _ (List.mem_cons_self ..)
        have o3 := o2.unown
        have nD : fre R D := fun y hy e => (List.nodup_cons.mp o2.nd).1 (List.mem_map.mpr ⟨y, hy, e⟩)
        have fR : Fr O1 H1 R H2 := ⟨f2.keep, fun c v fc e => fre_cons (f2.free c v fc e), f2.dom⟩
        exact q R _ _ H2 (f1.trans fR) o3 (cl_lis nD hxs (rs.mono (fun _ _ _ e => e) fun c v fc _ => fre_cons fc)) k') x
end
end Ab
namespace Ab
open PySem PySem.Spec PyProof.Rows L2 Vg
structure DG (X : Cx) (e : Expr) (a : AG) : Prop where
  ex : ∃ t, PG X e t ∧ SaG X.K t a
structure DGs (X : Cx) (es : List Expr) (a : AGs) : Prop where
  ex : ∃ t, PGs X es t ∧ SaGs X.K t a
structure DI (X : Cx) (W : WX) (tg iter : Expr) (a : AIt) : Prop where
  ex : ∃ wi, PI X tg iter wi ∧ SaI X.K W wi a
structure DO (X : Cx) (W : WX) (e : Option Expr) (a : AO) : Prop where
  ex : ∃ t, PO X e t ∧ SaO X.K W t a
section
variable {X : Cx} {W : WX}
/-! ## small statements -/
theorem dss_nil : DSs X W [] aNext := ⟨_, pss_nil, sas_next⟩
theorem dss_cons {s : Stmt} {r : List Stmt} {a b : AS} (h : DS X W s a) (k : DSs X W r b) : DSs X W (s :: r) (aSeq a b) := by
  obtain ⟨t, p, s⟩ := h.ex
  obtain ⟨u, p2, s2⟩ := k.ex
  exact ⟨_, pss_cons p p2, sas_seq s s2⟩
theorem dss_one {s : Stmt} {a : AS} (h : DS X W s a) : DSs X W [s] a := by
  obtain ⟨t, p, s⟩ := h.ex
  exact ⟨_, pss_one p, s⟩
theorem ds_ret {e : Expr} {a : AE} {pos : Pos} (h : DE X W e a) : DS X W (.Return (some e) pos) (aRet a) := by
  obtain ⟨t, p, s⟩ := h.ex
  exact ⟨_, ps_ret p, sas_ret s⟩
theorem ds_retN {pos : Pos} : DS X W (.Return none pos) aRetN := ⟨_, ps_retN, sas_retN⟩
theorem ds_pass {pos : Pos} : DS X W (.Pass pos) aNext := ⟨_, ps_pass, sas_next⟩
theorem ds_expr {e : Expr} {a : AE} {pos : Pos} (h : DE X W e a) (hs : swapsWith e none pos.line X.env = pure false := by rfl) : DS X W (.Expr e pos) (aDrop a) := by
  obtain ⟨t, p, s⟩ := h.ex
  exact ⟨_, ps_expr p hs, sas_drop s⟩
theorem ds_if {c : Expr} {a b : List Stmt} {tc : AT} {ta tb : AS} {pos : Pos} (hc : DT X W c tc) (ha : DSs X W a ta) (hb : DSs X W b tb) : DS X W (.If c a b pos) (aIfS tc ta tb) := by
  obtain ⟨t, p, s⟩ := hc.ex
  obtain ⟨t1, p1, s1⟩ := ha.ex
  obtain ⟨t2, p2, s2⟩ := hb.ex
  exact ⟨_, ps_if p p1 p2, sas_if s s1 s2⟩
theorem ds_set {i : Nat} {x : Str} {e : Expr} {a : AE} {pos pos' : Pos} (hN : X.N.Nodup) (hi : X.N[i]? = some x) (hx : Loc X.env.scope x) (h : DE X W e a) (hs : swapsWith e (some (.Name x pos')) pos.line X.env = pure false := by rfl) (hf : X.fn x = true ∨ X.env.scope.names.lookup x = some .local := by first | exact .inl rfl | exact .inr rfl | assumption) :
    DS X W (.Assign [.Name x pos'] e pos) (aAsg a (aName i)) := by
  obtain ⟨t, p, s⟩ := h.ex
  exact ⟨_, ps_set hN hi hx p hs hf, sas_asg s sag_name⟩
theorem dg_name {i : Nat} {x : Str} {pos : Pos} (hN : X.N.Nodup) (hi : X.N[i]? = some x) (hx : Loc X.env.scope x) (hf : X.fn x = true ∨ X.env.scope.names.lookup x = some .local := by first | exact .inl rfl | exact .inr rfl | assumption) : DG X (.Name x pos) (aName i) := ⟨_, pg_name hN hi hx hf, sag_name⟩
theorem dgs_nil : DGs X [] aGNil := ⟨_, pgs_nil, sag_nil⟩
theorem dgs_cons {e : Expr} {es : List Expr} {a : AG} {b : AGs} (h : DG X e a) (k : DGs X es b) (hs : (assignEach (e :: es) X.env).map (·.2) = assign e X.env :: (assignEach es X.env).map (·.2) := by rfl) : DGs X (e :: es) (aGCons a b) := by
  obtain ⟨t, p, s⟩ := h.ex
  obtain ⟨u, p2, s2⟩ := k.ex
  exact ⟨_, pgs_cons p p2 hs, sag_cons s s2⟩
theorem dg_tup {es : List Expr} {k : Nat} {b : AGs} {n : Nat} {pos : Pos} (hc : X.calm = true) (h : DGs X es b) (hn : (assignEach es X.env).length = n := by rfl) (hst : (assignEach es X.env).findIdx? (·.1) = none := by rfl) : DG X (.Tuple es k pos) (aGTup n b) := by
  obtain ⟨t, p, s⟩ := h.ex
  exact ⟨_, pg_tup hc p hn hst, sag_tup s⟩
theorem ds_asg {tg e : Expr} {a : AE} {g : AG} {pos : Pos} (he : DE X W e a) (hg : DG X tg g) (hs : swapsWithSole [tg] e pos.line X.env = pure false := by rfl) (hw : swappedStores [tg] e X.env = pure none := by rfl)
    (h1 : (assignEach [tg] X.env).map (·.2) = [assign tg X.env] := by rfl) : DS X W (.Assign [tg] e pos) (aAsg a g) := by
  obtain ⟨t, p, s⟩ := he.ex
  obtain ⟨u, p2, s2⟩ := hg.ex
  exact ⟨_, ps_asg p p2 hs hw h1, sas_asg s s2⟩
theorem ds_par {i j : Nat} {x y : Str} {a b : Expr} {aa : AA} {px py pt pos : Pos} {kt k2 pt2} (hc : X.calm = true) (hN : X.N.Nodup) (hi : X.N[i]? = some x) (hj : X.N[j]? = some y) (hij : i ≠ j)
    (hx : X.env.scope.names.lookup x = some .local) (hy : X.env.scope.names.lookup y = some .local) (ha : DA X W [a, b] aa)
    (hw : swappedStores [.Tuple [.Name x px, .Name y py] kt pt] (.Tuple [a, b] k2 pt2) X.env = pure (some [x, y]))
    (hs : swapsWithSole [.Tuple [.Name x px, .Name y py] kt pt] (.Tuple [a, b] k2 pt2) pos.line X.env = pure false := by rfl) :
    DS X W (.Assign [.Tuple [.Name x px, .Name y py] kt pt] (.Tuple [a, b] k2 pt2) pos) (aPar i j aa) := by
  obtain ⟨t, p, s⟩ := ha.ex
  exact ⟨_, ps_par hc hN hi hj hij hx hy p hw hs, sas_par s⟩
theorem ds_while {c : Expr} {body : List Stmt} {tc : AT} {tb : AS} {pos : Pos} (hp : PassesOwn (model X.prog X.w) X.A X.env X.xe) (hc : DT X W c tc) (hb : DSs X W body tb) : DS X W (.While c body [] pos) (aWhile tc tb) := by
  obtain ⟨t, p, s⟩ := hc.ex
  obtain ⟨u, p2, s2⟩ := hb.ex
  exact ⟨_, ps_while hp p p2, sas_while s s2⟩
theorem ds_for {tg iter : Expr} {body : List Stmt} {it : AIt} {g : AG} {tb : AS} {pos : Pos} (hp : PassesOwn (model X.prog X.w) X.A X.env X.xe) (hc : X.calm = true) (hi : DI X W tg iter it) (hg : DG X tg g) (hb : DSs X W body tb)
    (hs : ∀ x, foldedSetIterable iter X.env x = pure x := by intro _; rfl) : DS X W (.For tg iter body [] pos) (aFor it g tb) := by
  obtain ⟨t, p, s⟩ := hi.ex
  obtain ⟨u, p2, s2⟩ := hg.ex
  obtain ⟨v, p3, s3⟩ := hb.ex
  exact ⟨_, ps_for hp hc p p2 p3 hs, sas_for s s2 s3⟩
theorem di_list {tg l : Expr} {a : AE} (h : DE X W l a) : DI X W tg l (aItL a) := by
  obtain ⟨t, p, s⟩ := h.ex
  exact ⟨_, pi_list p, sai_list s⟩
theorem di_tup {tg l : Expr} {a : AE} (h : DE X W l a) : DI X W tg l (aItT a) := by
  obtain ⟨t, p, s⟩ := h.ex
  exact ⟨_, pi_tup p, sai_tup s⟩
theorem di_r1 {tg a : Expr} {aa : AA} {p pos : Pos} (hg : Gl X "range") (hm : X.mg "range" = none) (ha : DA X W [a] aa) (hs : starEach [a] X.env = [(false, eval a X.env)] := by rfl) : DI X W tg (.Call (.Name "range" p) [a] [] pos) (aItR1 aa) := by
  obtain ⟨t, p, s⟩ := ha.ex
  exact ⟨_, pi_range1 hg hm p hs, sai_r1 s⟩
theorem di_r2 {tg a b : Expr} {aa : AA} {p pos : Pos} (hg : Gl X "range") (hm : X.mg "range" = none) (ha : DA X W [a, b] aa) (hs : starEach [a, b] X.env = [(false, eval a X.env), (false, eval b X.env)] := by rfl) (hs2 : starEach [b] X.env = [(false, eval b X.env)] := by rfl) :
    DI X W tg (.Call (.Name "range" p) [a, b] [] pos) (aItR2 aa) := by
  obtain ⟨t, p, s⟩ := ha.ex
  exact ⟨_, pi_range2 hg hm p hs hs2, sai_r2 s⟩
/-! ## subscripts -/
theorem de_ix {r : R2} {ar : AR2} {a b : Expr} {aa ab : AE} {pos : Pos} (hr : IxR X r) (hs : SR2 X.K r ar) (ha : DE X W a aa) (hb : DE X W b ab) (hp : PlainIx b) : DE X W (.Subscript a b pos) (aOp ar aa ab) := by
  obtain ⟨t, p, s⟩ := ha.ex
  obtain ⟨u, p2, s2⟩ := hb.ex
  exact ⟨_, pe_ix hr p p2 hp, sa_op hs s s2⟩
theorem do_none : DO X W none aNoPart := ⟨_, po_none, sa_noPart⟩
theorem do_some {e : Expr} {a : AE} (h : DE X W e a) : DO X W (some e) (aPart a) := by
  obtain ⟨t, p, s⟩ := h.ex
  exact ⟨_, po_some p, sa_part s⟩
theorem de_slice {r : V → Option Int → Option Int → Hp → VK → Prop} {ar : AR3} {e : Expr} {lo hi : Option Expr} {a : AE} {b c : AO} {p2 pos : Pos} (hr : SlR X r) (hs : SR3 X.K r ar) (he : DE X W e a) (hl : DO X W lo b) (hu : DO X W hi c) : DE X W (.Subscript e (.Slice lo hi none p2) pos) (aSl ar a b c) := by
  obtain ⟨t, p, s⟩ := he.ex
  obtain ⟨u, q2, s2⟩ := hl.ex
  obtain ⟨v, q3, s3⟩ := hu.ex
  exact ⟨_, pe_slice hr p q2 q3, sa_sl hs s s2 s3⟩
/-! ## built-ins -/
theorem de_callB {id : String} {x : Str} {r : List V → Hp → VK → Prop} {ar : AB} {e : Expr} {es : List Expr} {a : AA} {p pos : Pos} (hc : CallR X (.builtin id) r) (hs : SRB X.K r ar) (hg : Gl X x) (hm : X.mg x = none) (hv : bootBuiltins x = some (.builtin id)) (ha : DA X W (e :: es) a) (hn : x ≠ "__name__" := by decide) (hdb : (x == ("__debug__" : Str)) = false := by decide)
    (he : starEach (e :: es) X.env = (false, eval e X.env) :: starEach es X.env := by rfl) (hpl : (backTo pos (starEach es X.env)).any (·.1) = false := by rfl) : DE X W (.Call (.Name x p) (e :: es) [] pos) (aCB ar a) := by
  obtain ⟨t, p, s⟩ := ha.ex
  exact ⟨_, pe_callB hc hg hm hv p hn hdb he hpl, sa_cb hs s⟩
theorem de_callTy {T : String} {x : Str} {r : List V → Hp → VK → Prop} {ar : AB} {e : Expr} {es : List Expr} {a : AA} {p pos : Pos} (hc : CallR X (.type T) r) (hs : SRB X.K r ar) (hg : Gl X x) (hm : X.mg x = none) (hv : bootBuiltins x = some (.type T)) (ha : DA X W (e :: es) a) (hn : x ≠ "__name__" := by decide) (hdb : (x == ("__debug__" : Str)) = false := by decide)
    (he : starEach (e :: es) X.env = (false, eval e X.env) :: starEach es X.env := by rfl) (hpl : (backTo pos (starEach es X.env)).any (·.1) = false := by rfl) : DE X W (.Call (.Name x p) (e :: es) [] pos) (aCB ar a) := by
  obtain ⟨t, p, s⟩ := ha.ex
  exact ⟨_, pe_callTy hc hg hm hv p hn hdb he hpl, sa_cb hs s⟩
theorem de_callBfun {id : String} {x : Str} {r : List V → Hp → VK → Prop} {ar : AB} {e : Expr} {es : List Expr} {a : AA} {p pos : Pos} (hc : CallR X (.builtin id) r) (hs : SRB X.K r ar) (hg : Gl X x) (hm : X.mg x = some (.builtin id)) (ha : DA X W (e :: es) a) (hdb : (x == ("__debug__" : Str)) = false := by decide)
    (he : starEach (e :: es) X.env = (false, eval e X.env) :: starEach es X.env := by rfl) (hpl : (backTo pos (starEach es X.env)).any (·.1) = false := by rfl) : DE X W (.Call (.Name x p) (e :: es) [] pos) (aCB ar a) := by
  obtain ⟨t, p, s⟩ := ha.ex
  exact ⟨_, pe_callBfun hc hg hm p hdb he hpl, sa_cb hs s⟩
/-! ## a comprehension -/
theorem de_lc {elt tg iter : Expr} {scope : Scope} {x : Str} {i : Nat} {pos : Pos} {it : AIt} {b : AE} (own : Bool) (hc : X.calm = true) (hN : X.N.Nodup) (hi : DI X W tg iter it) (ok : BlkOk X.N X.env.scope scope [(x, i)])
    (hg : ∀ (s : Shared) (H : Hp) (C : Addr) (cl : List (Str × Addr)) (fp : List Addr), PG (X.blk s H scope (compEnvC scope cl C X.env) fp) tg (gName i))
    (he : ∀ (s : Shared) (H : Hp) (C : Addr) (cl : List (Str × Addr)) (fp : List Addr), DE (X.blk s H scope (compEnvC scope cl C X.env) fp) W0 elt b) (hs : ∀ x, foldedSetIterable iter X.env x = pure x := by intro _; rfl) :
    DE X W (.ListComp elt [⟨tg, iter, [], 0⟩] scope pos) (aLc own it i (fun O _ _ Kc => Kc O true) b) := by
  obtain ⟨wi, p, s⟩ := hi.ex
  refine ⟨_, pe_lc (own := [(x, i)]) (g := gName i) (tt := tYes) (te := upE X.K W0 b) hc hN p ok hg (fun _ _ _ _ _ => pts_nil) (fun s H C cl fp => (he s H C cl fp).pe) hs, ?_⟩
  exact sa_lc s (fun O ρ σ H Q Kc XX S k q x => q O true H (Fr.refl _ _) S.o k) up_e
theorem de_lcI {elt tg iter c : Expr} {scope : Scope} {x : Str} {i : Nat} {pos : Pos} {it : AIt} {b : AE} {a : AT} (own : Bool) (hc : X.calm = true) (hN : X.N.Nodup) (hi : DI X W tg iter it) (ok : BlkOk X.N X.env.scope scope [(x, i)])
    (hg : ∀ (s : Shared) (H : Hp) (C : Addr) (cl : List (Str × Addr)) (fp : List Addr), PG (X.blk s H scope (compEnvC scope cl C X.env) fp) tg (gName i))
    (ht : ∀ (s : Shared) (H : Hp) (C : Addr) (cl : List (Str × Addr)) (fp : List Addr), DT (X.blk s H scope (compEnvC scope cl C X.env) fp) W0 c a)
    (he : ∀ (s : Shared) (H : Hp) (C : Addr) (cl : List (Str × Addr)) (fp : List Addr), DE (X.blk s H scope (compEnvC scope cl C X.env) fp) W0 elt b) (hs : ∀ x, foldedSetIterable iter X.env x = pure x := by intro _; rfl) :
    DE X W (.ListComp elt [⟨tg, iter, [c], 0⟩] scope pos) (aLc own it i a b) := by
  obtain ⟨wi, p, s⟩ := hi.ex
  exact ⟨_, pe_lc (own := [(x, i)]) (g := gName i) (tt := upT X.K W0 a) (te := upE X.K W0 b) hc hN p ok hg (fun s H C cl fp => pts_one (ht s H C cl fp).pt) (fun s H C cl fp => (he s H C cl fp).pe) hs, sa_lc s up_t up_e⟩
/-! ## append -/
theorem sa_app {K : PySem.W.Frag} {to : TE} {t : TA} {a : AE} {b : AA} (ha : SaE K W to a) (hb : SaA K W t b) : SaE K W (tBM K "list" rAppend to t) (aApp a b) := fun O ρ σ H Q Kc XX S k q x =>
  ha O ρ σ H _ _ XX S k (fun O1 c v H1 f1 o1 r1 ⟨p, cs, f, e, lo, k1⟩ => by
    subst e
    have ev := dq_at r1
    subst ev
    obtain ⟨xs, hx, rs⟩ := o1.lo lo
    refine ⟨.inl ⟨rfl, xs, SqL.of hx⟩, ?_⟩
    refine hb O1 ρ σ H1 _ _ XX (S.go f1 o1) k1 (fun O2 ds vs H2 f2 o2 r2 ⟨d, cs2, g, e, lo2, hz, k2⟩ => ?_) (x.go f1)
    subst e
    obtain ⟨u, rfl, ru⟩ := cls1 r2
    obtain ⟨ys, hy, rs2⟩ := o2.lo lo2
    refine ⟨p, ys, u, rfl, rfl, hy, by rw [rs2.len]; exact Nat.lt_of_le_of_lt hz (by decide), ?_⟩
    obtain ⟨o3, f3⟩ := o2.app lo2 hy rs2 ru
    exact q _ _ _ _ ((f1.trans f2).trans f3) o3 (.dat .non) k2) x
theorem de_app {o e : Expr} {a : AE} {b : AA} {apos cpos : Pos} (ho : DE X W o a) (hb : DA X W [e] b)
    (hbase : attributeBase o "append" X.env (eval o X.env) = eval o X.env := by rfl)
    (hfew : ((backTo cpos (starEach [e] X.env)).all (fun x => !x.1) && (backToKw cpos (keywordEach [] X.env)).all (fun x => x.1.isSome)
      && decide (([e] : List Expr).length + ([] : List Keyword).length + (if ([] : List Keyword).isEmpty then 0 else 1) < 30)) = true := by rfl)
    (hline : (apos.endLine == cpos.line) = true := by rfl) (hs : starEach [e] X.env = (false, eval e X.env) :: starEach [] X.env := by rfl) (hplain : (backTo cpos (starEach [] X.env)).any (·.1) = false := by rfl) :
    DE X W (.Call (.Attribute o "append" apos) [e] [] cpos) (aApp a b) := by
  obtain ⟨t, p, s⟩ := ho.ex
  obtain ⟨u, p2, s2⟩ := hb.ex
  exact ⟨_, pe_bm PySem.F.plainAttrs_list PySem.F.slot_list_append PySem.F.type_list_append mt_append p p2 hbase hfew hline hs hplain, sa_app s s2⟩
/-! ## calls of defs -/
/-- what a def's promise is, by cells -/
def XOkF (K : PySem.W.Frag) (O : Ob) (H : Hp) (Xf : Ob → Str → Cl → Prop) (E : XK) : Prop := ∀ O' x c v H' dd, Fr O H O' H' → OkO K O' H' → ClH K (fre O') H' v c → H' dd = some (.xd [(fld x, v)]) → fre O' dd → Xf O' x c → E (.ref (clsA K x)) (some dd) H'
def spG (K : PySem.W.Frag) (af : AF) : Sp := fun vs H Q E => ∃ O cs Xf Kc, OkO K O H ∧ ClsH K (fre O) H vs cs ∧ af O cs Xf Kc ∧ QOk K O H Kc Q ∧ XOkF K O H Xf E
def aCall (af : AF) (a : AA) : AE := fun O ρ XX Kc => a O ρ XX fun O1 cs => af O1 cs (fun O' x c => XX O' ρ x c) Kc
theorem sa_call {K : PySem.W.Frag} {af : AF} {t : TA} {a : AA} (ha : SaA K W t a) : SaE K W (tCallS (spG K af) (WE W) t) (aCall af a) := fun O ρ σ H Q Kc XX S k q x =>
  ha O ρ σ H _ _ XX S k (fun O1 cs vs H1 f1 o1 r1 k1 => ⟨O1, cs, _, Kc, o1, r1, k1, q.go f1, fun O2 y c v H2 dd f2 o2 r2 hd hf hx => x O2 ρ σ y c v H2 dd (f1.trans f2) (S.go (f1.trans f2) o2) r2 hd hf hx⟩) x
/-- a def of the module, as its callers know it -/
structure Fu (P : Program) (w : World) (K : PySem.W.Frag) (mg : Str → Option Value) (base : Heap) (k : Nat) (x : Str) (ps : List Str) (af : AF) : Prop where
  ex : ∃ (f : Addr) (fd : FuncData), mg x = some (.ref f) ∧ PySem.W.keepIn K (.ref f) = true ∧ Binds K fd ps [] ∧ FnG P w K mg base (L2.CX P w) k f fd ps (spG K af)
theorem run_fnGS {k : Nat} {f : Addr} {fd : FuncData} {ps : List Str} {sp : Sp} {E : L2.St → XK} {CX : CXT} {pins : List (Addr × Obj)} {σ : L2.St} {H : Hp} {s : Shared} {Q : VK} {us : List Value} {vs : List V} (F : FnG X.prog X.w X.K X.mg X.base CX k f fd ps sp) (hgd : X.A.guards = some []) (hr : Room k X.A) (hb : Binds X.K fd ps []) (hx : PassesAt CX X σ (E σ))
    (I : Inv X pins σ H s) (r : Vals vs us) (h : sp vs H Q (E σ)) : wpAny (model X.prog X.w) X.A (call (.ref f) us) (EP X pins σ Q) X.xe s := by
  have hl : us.length = ps.length := by rw [← r.length]; exact F.len _ _ _ _ h
  have b := hb s us I.kIn (by rw [List.append_nil]; exact hl)
  rw [List.append_nil] at b
  refine wpAny_call (codeAny_mono (F.run X.A X.stack s H ⟨us, []⟩ us vs Q (E σ) hgd hr I.env0 b r h) fun r s' hq => ?_)
  match r, hq with
  | .error e, hq => exact hx pins H s e s' I hq
  | .ok (.ret u), hq => exact I.after hq
  | .ok .next, hq => exact False.elim hq
  | .ok .brk, hq => exact False.elim hq
  | .ok .cont, hq => exact False.elim hq
theorem de_call {af : AF} {k : Nat} {ps : List Str} {x : Str} {e : Expr} {es : List Expr} {a : AA} {p pos : Pos} (F : Fu X.prog X.w X.K X.mg X.base k x ps af) (tk : Takes X W) (hgd : X.A.guards = some []) (hr : Room k X.A) (hg : Gl X x) (ha : DA X W (e :: es) a)
    (hdb : (x == ("__debug__" : Str)) = false := by decide) (he : starEach (e :: es) X.env = (false, eval e X.env) :: starEach es X.env := by rfl)
    (hpl : (backTo pos (starEach es X.env)).any (·.1) = false := by rfl) : DE X W (.Call (.Name x p) (e :: es) [] pos) (aCall af a) := by
  obtain ⟨f, fd, hm, hk, hb, F⟩ := F.ex
  obtain ⟨t, pa, s⟩ := ha.ex
  refine ⟨tCallS (spG X.K af) (WE W) t, ⟨fun pins s σ H Q I h => ?_⟩, sa_call s⟩
  refine wpAny_Call_Name_kw (ld_glob I hg hm ?_ hdb)
  refine PySem.W.callWith_K (h₀ := X.base) I.ok.mod.kin hk (thn (pa.run pos pins s σ H _ I h) fun us s1 ⟨vs, H1, I1, r, q⟩ => ⟨I1.kIn, ?_⟩) he hpl
  exact run_fnGS F hgd hr hb (passAt tk σ) I1 r q
/-- where nothing is let out -/
theorem takes_none : Takes X W0 := fun u s' ⟨_, _, _, _, _, _, _, _, _, _, _, _, _, _, _, _, w⟩ => w.elim
/-! ## defs -/
theorem start_ss {K : PySem.W.Frag} {O : Ob} {H : Hp} {vs : List V} {cs : List Cl} {N : List Str} (o : OkO K O H) (r : ClsH K (fre O) H vs cs) : Ss K O (cs.map some ++ List.replicate (N.length - cs.length) none) (L2.start N vs) H := by
  unfold L2.start
  refine ⟨o, by simp [r.len], fun i c e => ?_⟩
  by_cases hi : i < cs.length
  · rw [List.getElem?_append_left (by simpa using hi), List.getElem?_map] at e
    rw [List.getElem?_append_left (by simpa [r.len] using hi), List.getElem?_map]
    obtain ⟨c', h1, h2⟩ := Option.map_eq_some_iff.mp e
    cases h2
    obtain ⟨v, hv, rv⟩ := r.get h1
    exact ⟨v, by rw [hv]; rfl, rv⟩
  · rw [List.getElem?_append_right (by simpa using Nat.le_of_not_lt hi), List.getElem?_replicate] at e
    split at e <;> cases e
end
/-- a def by its body, by cells -/
theorem fu_of {P : Program} {w : World} {K : PySem.W.Frag} {mg : Str → Option Value} {base : Heap} {k : Nat} {x : Str} {st : Stmt} {N ps : List Str} {af : AF} (D : At K mg x st) (S : FnScope N ps (defScope st))
    (hb : ∀ (kV doc pm : Value) (an : Option Addr) (cdv ct : Value) (us : List Value), us.length = ps.length →
      bindArgs (PySem.W.fnOf x x (defArgs st) (defBody st) (defScope st) .none kV doc pm an cdv ct) ⟨us, []⟩ = pure (ps.zip us))
    (hl : ∀ O cs Xf Kc, af O cs Xf Kc → cs.length = ps.length)
    (body : ∀ (f : Addr) (cdv : Value) (A : Around) (outer : List Env) (s : Shared) (H : Hp) (E : XK),
      (cxOf (L2.CX P w) P w K mg base N x (defScope st) f cdv A outer s H E).A.guards = some [] →
      Room k (A.deeper (envOfC x (defScope st) s.heap.objs.size f cdv)) →
      ∃ a : AS, DSs (cxOf (L2.CX P w) P w K mg base N x (defScope st) f cdv A outer s H E) (fun cls d _ H => E cls d H) (defBody st) a ∧
        ∀ O cs Xf Kc, af O cs Xf Kc → a { nx := fun O' _ => Kc O' (.dat .none), rt := Kc } (fun O' _ y c => Xf O' y c) O (cs.map some ++ List.replicate (N.length - cs.length) none)) :
    Fu P w K mg base (k + 1) x ps af := by
  obtain ⟨f, fd, hm, F⟩ := D.ex
  refine ⟨f, fd, hm, F.kp, F.binds hb, ?_⟩
  obtain ⟨oc, od, kV, doc, pm, an, cdv, ct, osl, rfl, lk, hcd⟩ := F.ex
  refine fng_of lk hcd S (fun vs H Q E ⟨O, cs, Xf, Kc, o, r, h, _, _⟩ => r.len.trans (hl O cs Xf Kc h)) fun A outer s H vs Q E hg hr ⟨O, cs, Xf, Kc, o, r, h, q, x⟩ => ?_
  obtain ⟨a, ⟨t, p, sa⟩, k⟩ := body f cdv A outer s H E hg hr
  refine ⟨t, p, sa O _ _ H _ _ _ (start_ss o r) (k O cs Xf Kc h) ⟨fun O' ρ' σ' H' f S k' => ?_, q, fun _ _ _ _ _ _ z => z.elim, fun _ _ _ _ _ _ z => z.elim⟩ ?_⟩
  · exact q O' _ _ H' f S.o (.dat .non) k'
  · exact fun O' ρ' σ' y c v H' dd f S r hd hf z => x O' y c v H' dd f S.o r hd hf z
end Ab
namespace Ab
open PySem PySem.Spec PyProof.Rows L2 Vg
section
variable {X : Cx} {W : WX} {K : PySem.W.Frag}
/-! ## old promises -/
def SpA (K : PySem.W.Frag) (sp : Sp) (af : AF) : Prop := ∀ O cs vs H Q E Kc Xf, OkO K O H → ClsH K (fre O) H vs cs → af O cs Xf Kc → QOk K O H Kc Q → sp vs H Q E
theorem de_old {sp : Sp} {af : AF} {k : Nat} {ps : List Str} {x : Str} {e : Expr} {es : List Expr} {a : AA} {p pos : Pos} (F : Fn X.prog X.w X.K X.mg X.base k x ps sp) (hs : SpA X.K sp af) (hr : Room k X.A) (hg : Gl X x) (ha : DA X W (e :: es) a)
    (hdb : (x == ("__debug__" : Str)) = false := by decide) (he : starEach (e :: es) X.env = (false, eval e X.env) :: starEach es X.env := by rfl)
    (hpl : (backTo pos (starEach es X.env)).any (·.1) = false := by rfl) : DE X W (.Call (.Name x p) (e :: es) [] pos) (aCall af a) := by
  obtain ⟨t, pa, s⟩ := ha.ex
  refine ⟨_, pe_fn F hr hg (E := E0) pass0 pa hdb he hpl, fun O ρ σ H Q Kc XX S k q x => s O ρ σ H _ _ XX S k (fun O1 cs vs H1 f1 o1 r1 k1 => ?_) x⟩
  rw [List.append_nil]
  exact hs O1 cs vs H1 Q E0 Kc _ o1 r1 k1 (q.go f1)
theorem Fr.but {O : Ob} {H H' : Hp} {p : Addr} {w w' : Ow} {f : Ow → Ob} (o : OkO K O H) (lo : Lo O p w f) (b : But p H H') (hp : ∃ u, H' p = some u) (hw : OwH K (fre (f w')) H' p w') : OkO K (f w') H' ∧ Fr O H (f w') H' := by
  have k : ∀ c v, fre O c → H c = some v → H' c = some v := fun c v fc e => b c v (fun z => fc _ lo.mem z.symm) e
  refine ⟨⟨lo.fst ▸ o.nd, fun x hx => ?_⟩, k, fun c v fc _ => (lo.fre c).mpr fc, fun c e => ?_⟩
  · rcases lo.mem' o.nd x hx with rfl | ⟨m, n⟩
    · exact hw
    · obtain ⟨u, hu⟩ := (o.all x m).there
      exact (o.all x m).mono k (fun c v fc _ => (lo.fre c).mpr fc) ((b _ _ n hu).trans hu.symm)
  · by_cases z : c = p
    · obtain ⟨u, hu⟩ := hp
      rw [z, hu] at e
      cases e
    · cases e2 : H c with
      | none => rfl
      | some u => rw [b c u z e2] at e; cases e
def afTake : AF := fun O cs _ Kc => ∃ p m n f, cs = [.at p, .dat (.int m)] ∧ 0 < m ∧ m.natAbs < 2 ^ 200 ∧ Lo O p (.pur n) f ∧ 1 ≤ n ∧ ∀ r, 0 ≤ r → r < m → Kc (f (.pur (n - 1))) (.dat (.int r))
theorem sp_take : SpA K spTake afTake := fun O cs vs H Q E Kc Xf o r ⟨p, m, n, f, e, h0, h1, lo, hn, k⟩ q => by
  subst e
  obtain ⟨v, w, rfl, rv, rw'⟩ := cls2 r
  have pz : Pz H p n := o.lo lo
  refine ⟨p, m, n - 1, by rw [dq_at rv, dq_int rw'], h0, h1, pz.mono (by omega), fun z l z0 z1 pu => ?_⟩
  obtain ⟨o2, f2⟩ := o.put (u := .lst l) (w' := .pur (n - 1)) lo ⟨l, upd_same, pu⟩
  exact q _ _ _ _ f2 o2 (.dat (.int z)) (k z z0 z1)
def afCell : AF := fun O cs _ Kc => ∃ ns k, cs = [.scr ns, .dat (.int k)] ∧ 0 ≤ k ∧ k < 1000000 ∧ ∀ z, Kc O (.dat (.int z))
theorem sp_cell : SpA K (Vg.spCell K) afCell := fun O cs vs H Q E Kc Xf o r ⟨ns, k, e, h0, h1, kk⟩ q => by
  subst e
  obtain ⟨v, w, rfl, rv, rw'⟩ := cls2 r
  cases rv with
  | scr h _ =>
    refine ⟨_, ns, k, by rw [dq_int rw'], h, h0, h1, fun z => q O _ _ H (Fr.refl _ _) o (.dat (.int z)) (kk z)⟩
def afPurse : AF := fun O cs _ Kc => ∃ z : Int, cs = [.dat (.int z)] ∧ ∀ p, Kc ((p, .pur 90000) :: O) (.at p)
theorem sp_purse : SpA K spPurse afPurse := fun O cs vs H Q E Kc Xf o r ⟨z, e, k⟩ q => by
  subst e
  obtain ⟨v, rfl, rv⟩ := cls1 r
  refine ⟨z, by rw [dq_int rv], fun p l hp pu => ?_⟩
  obtain ⟨o2, f2⟩ := o.own (u := .lst l) (w := .pur 90000) hp ⟨l, upd_same, pu⟩
  exact q _ _ _ _ f2 o2 (.at p) (k p)
def afWhole : AF := fun O cs _ Kc => ∃ p n f, cs = [.at p] ∧ Lo O p (.pur n) f ∧ 6 ≤ n ∧ ∀ z n', Int.natAbs z < 10 ^ 30 → n ≤ n' + 6 → Kc (f (.pur n')) (.dat (.int z))
theorem sp_whole : SpA K spWhole afWhole := fun O cs vs H Q E Kc Xf o r ⟨p, n, f, e, lo, hn, k⟩ q => by
  subst e
  obtain ⟨v, rfl, rv⟩ := cls1 r
  have pz : Pz H p n := o.lo lo
  refine ⟨p, n - 6, by rw [dq_at rv], pz.mono (by omega), fun z H' hz b z' => ?_⟩
  obtain ⟨o2, f2⟩ := Fr.but (w' := .pur (n - 6)) o lo b (by obtain ⟨l, h, _⟩ := z'; exact ⟨_, h⟩) z'
  exact q _ _ _ _ f2 o2 (.dat (.int z)) (k z _ hz (by omega))
def afCommon : AF := fun O cs _ Kc => ∃ a b, cs = [.dat (.int a), .dat (.int b)] ∧ Kc O (.dat (.int (gcdI a b)))
theorem sp_common : SpA K spCommon afCommon := fun O cs vs H Q E Kc Xf o r ⟨a, b, e, k⟩ q => by
  subst e
  obtain ⟨v, w, rfl, rv, rw'⟩ := cls2 r
  exact ⟨a, b, by rw [dq_int rv, dq_int rw'], q O _ _ H (Fr.refl _ _) o (.dat (.int _)) k⟩
/-! ## the law itself -/
theorem law_fng {P : Program} {w : World} {mg : Str → Option Value} {base : Heap} {k : Nat} {st : Stmt} {N : List Str} {f : Addr} {fd : FuncData} (F : Fun K "law" "law" st f fd) (S : FnScope N ["_law_script"] (defScope st))
    (body : ∀ (cdv : Value) (A : Around) (outer : List Env) (s : Shared) (H : Hp) (E : XK),
      (cxOf CX0 P w K mg base N "law" (defScope st) f cdv A outer s H E).nox.A.guards = some [] →
      Room k (A.deeper (envOfC "law" (defScope st) s.heap.objs.size f cdv)) →
      ∃ a : AS, DSs (cxOf CX0 P w K mg base N "law" (defScope st) f cdv A outer s H E).nox W0 (defBody st) a ∧
        ∀ ns : List Int, ns.length ≤ 63 → a { nx := fun _ _ => False, rt := fun _ c => c = .dat (.bool true) } X0 [] ([some (.scr ns)] ++ List.replicate (N.length - 1) none)) :
    FnG P w K mg base CX0 (k + 1) f fd ["_law_script"] (spLaw K) := by
  refine fng_fun F S (fun vs H Q E ⟨a, ns, e, _⟩ => by rw [e]; rfl) fun cdv A outer s H vs Q E hg hr ⟨a, ns, e, hS, hl, k⟩ => ?_
  obtain ⟨ab, ⟨t, p, sa⟩, kk⟩ := body cdv A outer s H E hg hr
  subst e
  have r : ClsH K (fre []) H [.ref a] [.scr ns] := .cons (.scr hS (by
    rcases hS with h | h
    · refine .inl ?_
      rcases h with h | ⟨o, h⟩
      · exact ⟨_, h, fun x hx => by cases hx⟩
      · exact ⟨_, h, fun x hx => by cases hx⟩
    · exact .inr fun H' => .inr h)) .nil
  refine ⟨t, p, sa [] _ _ H _ _ _ (start_ss okO_nil r) (kk ns hl) ⟨fun _ _ _ _ _ _ z => z.elim, fun O' c v H' f o r e => ?_, fun _ _ _ _ _ _ z => z.elim, fun _ _ _ _ _ _ z => z.elim⟩ x0⟩
  have e' : c = .dat (.bool true) := e
  subst e'
  rw [dq_bool r]
  exact k H'
/-! ## raise, try -/
def aRais (x : Str) (a : AE) : AS := fun _ XX O ρ => a O ρ XX fun O1 c => XX O1 ρ x c
theorem ds_rais {x : Str} {e : Expr} {a : AE} {p pos pos' : Pos} (R : Xk X.prog X.w X.K X.mg X.base x (fld x)) (hr : Room 3 X.A) (hc : X.calm = true) (tk : Takes X W) (hg : Gl X x) (ha : DE X W e a)
    (hdb : (x == ("__debug__" : Str)) = false := by decide) (hse : starEach [e] X.env = (false, eval e X.env) :: starEach [] X.env := by rfl) (hpl : (backTo pos (starEach [] X.env)).any (·.1) = false := by rfl) :
    DS X W (.Raise (some (.Call (.Name x p) [e] [] pos)) none pos') (aRais x a) := by
  obtain ⟨t, pt, s⟩ := ha.ex
  refine ⟨_, ps_rais R hr hc tk hg (pa_cons pt pa_nil hse) hdb hse hpl, fun O ρ σ H D A XX S k e x => s O ρ σ H _ _ XX S k (fun O1 c v H1 f1 o1 r1 k1 d H2 sm hd => ?_) x⟩
  have fr1 : fre O1 d := fun y hy z => by
    obtain ⟨u, hu⟩ := (o1.all y hy).there
    have h2 := sm _ _ hu
    rw [z, hd] at h2
    cases h2
    have q := o1.all y hy
    rw [z] at hu q
    cases y with
    | mk a w =>
      cases w with
      | lst cs => obtain ⟨_, h, _⟩ := q; rw [hu] at h; cases h
      | dct es => obtain ⟨_, h, _⟩ := q; rw [hu] at h; cases h
      | pur n => obtain ⟨_, h, _⟩ := q; rw [hu] at h; cases h
  have f2 : Fr O1 H1 O1 H2 := ⟨fun b o _ h => sm b o h, fun b o f _ => f, fun b h => by
    cases e : H1 b with
    | none => rfl
    | some o => rw [sm b o e] at h; cases h⟩
  have o3 : OkO X.K O1 H2 := ⟨o1.nd, fun y hy => by
    obtain ⟨u, hu⟩ := (o1.all y hy).there
    exact (o1.all y hy).mono (fun b o _ h => sm b o h) (fun b o f _ => f) ((sm _ _ hu).trans hu.symm)⟩
  have f12 := f1.trans f2
  exact x O1 ρ σ _ c v H2 d f12 (S.go f12 o3) (r1.fr f2) hd fr1 k1
/-- a clause: its class, its slot, its suite -/
structure Hd where
  x : Str
  i : Nat
  s : Addr → Addr → AS
def hasExm (K : PySem.W.Frag) (y x : Str) (b : Bool) : Prop := PySem.W.exmOne K (.ref (clsA K y)) (.ref (clsA K x)) = some b
def AEn.gone (A : AEn) (i : Nat) : AEn := { nx := fun O ρ => A.nx O (ρ.set i none), rt := A.rt, bk := fun O ρ => A.bk O (ρ.set i none), ct := fun O ρ => A.ct O (ρ.set i none) }
def hsX (K : PySem.W.Frag) (A : AEn) : List Hd → XC
  | [] => fun _ _ _ _ => False
  | h :: r => fun O ρ y c => ∃ b, hasExm K y h.x b ∧ (b = true → y = h.x ∧ ∀ a dd, h.s a dd (A.gone h.i) X0 O (ρ.set h.i (some (.exc a dd (fld y) c)))) ∧ (b = false → hsX K A r O ρ y c)
def aTry (K : PySem.W.Frag) (b : AS) (hs : List Hd) : AS := fun A _ O ρ => b A (hsX K A hs) O ρ
/-- the reading of a suite, by a clause -/
def sutOf (K : PySem.W.Frag) (h : Hd) : Sut := fun a cls d D σ H => ∃ dd, cls = .ref (clsA K h.x) ∧ d = some dd ∧ upS K W0 (h.s a dd) D σ H
def hvs (K : PySem.W.Frag) (hs : List Hd) : List (Value × Nat × Sut) := hs.map fun h => (.ref (clsA K h.x), h.i, sutOf K h)
theorem eok_gone {O : Ob} {H : Hp} {A : AEn} {D : Ends} {i : Nat} (e : EOk K O H A D) : EOk K O H (A.gone i) (goneD i D) :=
  ⟨fun O' ρ' σ' H' f S k => e.nx O' _ _ H' f S.drop k, e.rt, fun O' ρ' σ' H' f S k => e.bk O' _ _ H' f S.drop k, fun O' ρ' σ' H' f S k => e.ct O' _ _ H' f S.drop k⟩
theorem hs_ok {O : Ob} {H : Hp} {A : AEn} {D : Ends} (e : EOk K O H A D) : ∀ hs : List Hd, XOk K O H (hsX K A hs) (wNamed K D (hvs K hs))
  | [] => fun _ _ _ _ _ _ _ _ _ _ _ _ _ h => h
  | h :: r => fun O' ρ' σ' y c v H' dd f S rc hd hf ⟨b, hb, yes, no⟩ => by
    refine ⟨b, hb, fun eb a ha => ?_, fun eb => hs_ok e r O' ρ' σ' y c v H' dd f S rc hd hf (no eb)⟩
    obtain ⟨ey, k⟩ := yes eb
    subst ey
    exact ⟨dd, rfl, rfl, O', _, _, _, S.set (.exc hf hd rc), k a dd, eok_gone (e.go f), x0⟩
/-- the clauses of a try -/
inductive DH (X : Cx) : List ExceptHandler → List Hd → Prop
  | never (hs : List ExceptHandler) : DH X hs []
  | cons {x n : Str} {i : Nat} {s : Addr → Addr → AS} {st : Stmt} {more : List Stmt} {np p : Pos} {hs : List ExceptHandler} {l : List Hd}
      (hi : X.N[i]? = some n) (hln : X.env.kindOf n = some .local) (hc : Names X x (.ref (clsA X.K x)))
      (hsu : ∀ (a dd : Addr) (oe : Obj) (pn : List (Addr × Obj)), Zc (.ref (clsA X.K x)) (some dd) oe → (∃ vs, oe.data = .fields vs) → DSs (X.suite a ((a, oe) :: pn)) W0 (st :: more) (s a dd))
      (r : DH X hs l) : DH X (.ExceptHandler (some (.Name x np)) (some n) (st :: more) p :: hs) (⟨x, i, s⟩ :: l)
theorem DH.nh {hl : List ExceptHandler} {l : List Hd} (h : DH X hl l) : Nh X hl (hvs X.K l) := by
  induction h with
  | never hs => exact .never hs
  | @cons x n i s st more np p hs l hi hln hc hsu r ih =>
    refine .cons hi hln hc (fun a oe cls d pn hz hf => ⟨fun pins s1 σ H D I ⟨dd, ec, ed, h⟩ => ?_⟩) ih
    subst ec ed
    exact (hsu a dd oe pn hz hf).pss.run pins s1 σ H D I h
theorem ds_try {body : List Stmt} {h0 : ExceptHandler} {hds : List ExceptHandler} {l : List Hd} {pos : Pos} {b : AS} (hs : X.stack = X.env :: X.outer) (hf : X.env.frame = some X.env.locals) (hN : X.N.Nodup)
    (hb : ∀ (W' : WX) (pn : List (Addr × Obj)) (xe : Value → Shared → Prop), Takes (X.tr pn xe) W' → PassesOwn (model X.prog X.w) X.A X.env xe → DSs (X.tr pn xe) W' body b)
    (hh : DH X (h0 :: hds) l) : DS X W (.Try body (h0 :: hds) [] [] pos) (aTry X.K b l) :=
  ⟨_, ps_try_named (tb := fun W' => upS X.K W' b) hs hf hN (fun W' pn xe tk own => (hb W' pn xe tk own).pss) hh.nh, fun O ρ σ H D A XX S k e x => ⟨O, ρ, A, _, S, k, e, hs_ok e l⟩⟩
/-- e.found within a suite -/
def aXf (a dd : Addr) (f : Str) (ae : AE) : AE := fun O ρ XX Kc => ae O ρ XX fun O1 c => ∃ c', c = .exc a dd f c' ∧ Kc O1 c'
theorem de_xf {a dd : Addr} {x : Str} {oe : Obj} {pn : List (Addr × Obj)} {e : Expr} {ae : AE} {pos : Pos} {n : Str} (T : XfC X.K (clsA X.K x)) (hno : PySem.W.findIn X.K (.ref (clsA X.K x)) n = some none)
    (hz : Zc (.ref (clsA X.K x)) (some dd) oe) (hf : ∃ vs, oe.data = .fields vs) (he : DE (X.suite a ((a, oe) :: pn)) W0 e ae) (hb : attributeBase e n X.env (eval e X.env) = eval e X.env := by rfl) :
    DE (X.suite a ((a, oe) :: pn)) W0 (.Attribute e n pos) (aXf a dd n ae) := by
  obtain ⟨t, p, s⟩ := he.ex
  refine ⟨_, pe_xf T hno hz hf p hb, fun O ρ σ H Q Kc XX S k q x => s O ρ σ H _ _ XX S k (fun O1 c v H1 f1 o1 r1 ⟨c', ec, k1⟩ => ?_) x⟩
  subst ec
  cases r1 with
  | @exc _ _ _ v' _ o h r =>
    exact ⟨rfl, rfl, dd, _, v', rfl, h, by simp [List.lookup], q O1 c' v' H1 f1 o1 r k1⟩
/-- isinstance of the caught one -/
def bIsX (K : PySem.W.Frag) (x : Str) (a dd : Addr) : AB := fun O cs Kc => ∃ f c y b, cs = [.exc a dd f c, .raw (.ref (clsA K y))] ∧ PySem.W.kitOne K (.ref (clsA K x)) (.ref (clsA K y)) = some b ∧ Kc O (.dat (.bool b))
theorem sb_isX {x : Str} {a dd : Addr} : SRB K (rIsX K (clsA K x) a (.ref (clsA K x)) (some dd)) (bIsX K x a dd) := fun O H Q Kc cs vs o r ⟨f, c, y, b, e, hk, k⟩ q => by
  subst e
  obtain ⟨v, w, rfl, rv, rw'⟩ := cls2 r
  have ew := dq_raw rw'
  subst ew
  cases rv with
  | exc oo h rr => exact ⟨_, .ref (clsA K y), b, dd, _, rfl, fun u hu => hu, rfl, rfl, h, hk, q O _ _ H (Fr.refl _ _) o (.dat (.bl _)) k⟩
/-! ## gcd, texts -/
theorem sb_gcd : SRB K rGcd (bI2 gcdI) := fun O H Q Kc cs vs o r ⟨i, j, e, k⟩ q => by
  subst e
  obtain ⟨v, w, rfl, rv, rw'⟩ := cls2 r
  exact ⟨i, j, by rw [dq_int rv, dq_int rw'], q O _ _ H (Fr.refl _ _) o (.dat (.int _)) k⟩
/-- what stands in a star parameter -/
structure FuR (P : Program) (w : World) (K : PySem.W.Frag) (mg : Str → Option Value) (base : Heap) (k : Nat) (x : Str) (af : AF) : Prop where
  ex : FxR P w K mg base k x (fun vs H Q E => vs.length ≤ sizeLine ∧ ∀ p, H p = none → spG K af [V.ref p] (upd H p (.tup vs)) Q E)
end
theorem fur_of {P : Program} {w : World} {K : PySem.W.Frag} {mg : Str → Option Value} {base : Heap} {k : Nat} {x : Str} {st : Stmt} {N : List Str} {pv : Str} {af : AF} (D : At K mg x st) (S : FnScope N [pv] (defScope st))
    (hb : ∀ (kV doc pm : Value) (an : Option Addr) (cdv ct : Value) (us : List Value),
      bindArgs (PySem.W.fnOf x x (defArgs st) (defBody st) (defScope st) .none kV doc pm an cdv ct) ⟨us, []⟩ = (newTuple us >>= fun t => pure [(pv, t)]))
    (body : ∀ (f : Addr) (cdv : Value) (A : Around) (outer : List Env) (s : Shared) (H : Hp) (E : XK),
      Room k (A.deeper (envOfC x (defScope st) s.heap.objs.size f cdv)) →
      ∃ a : AS, DSs (cxOf (L2.CX P w) P w K mg base N x (defScope st) f cdv A outer s H E) (fun cls d _ H => E cls d H) (defBody st) a ∧
        ∀ O cs Xf Kc, af O cs Xf Kc → a { nx := fun O' _ => Kc O' (.dat .none), rt := Kc } (fun O' _ y c => Xf O' y c) O (cs.map some ++ List.replicate (N.length - cs.length) none)) :
    FuR P w K mg base (k + 1) x af := by
  refine ⟨D.fxr S hb fun f cdv A outer s H vs Q E hr ⟨O, cs, Xf, Kc, o, r, h, q, x⟩ => ?_⟩
  obtain ⟨a, ⟨t, p, sa⟩, k⟩ := body f cdv A outer s H E hr
  refine ⟨t, p, sa O _ _ H _ _ _ (start_ss o r) (k O cs Xf Kc h) ⟨fun O' ρ' σ' H' f S k' => ?_, q, fun _ _ _ _ _ _ z => z.elim, fun _ _ _ _ _ _ z => z.elim⟩ ?_⟩
  · exact q O' _ _ H' f S.o (.dat .non) k'
  · exact fun O' ρ' σ' y c v H' dd f S r hd hf z => x O' y c v H' dd f S.o r hd hf z
section
variable {X : Cx} {W : WX}
/-- f(a, b) of def f(*xs): the def gets the tuple -/
def aCallR (af : AF) (a : AA) : AE := fun O ρ XX Kc => a O ρ XX fun O1 cs => cs.length ≤ 1000 ∧ af O1 [tupC cs] (fun O' x c => XX O' ρ x c) Kc
theorem de_callR {af : AF} {k : Nat} {x : Str} {e : Expr} {es : List Expr} {a : AA} {p pos : Pos} (F : FuR X.prog X.w X.K X.mg X.base k x af) (tk : Takes X W) (hr : Room k X.A) (hg : Gl X x) (ha : DA X W (e :: es) a)
    (hdb : (x == ("__debug__" : Str)) = false := by decide) (he : starEach (e :: es) X.env = (false, eval e X.env) :: starEach es X.env := by rfl)
    (hpl : (backTo pos (starEach es X.env)).any (·.1) = false := by rfl) : DE X W (.Call (.Name x p) (e :: es) [] pos) (aCallR af a) := by
  obtain ⟨f, hm, hk, F⟩ := F.ex.ex
  obtain ⟨t, pa, s⟩ := ha.ex
  refine ⟨tCallS (fun vs H Q E => vs.length ≤ sizeLine ∧ ∀ p, H p = none → spG X.K af [V.ref p] (upd H p (.tup vs)) Q E) (WE W) t, ⟨fun pins s σ H Q I h => ?_⟩, fun O ρ σ H Q Kc XX S k q x => s O ρ σ H _ _ XX S k (fun O1 cs vs H1 f1 o1 r1 ⟨z, k1⟩ => ⟨le_line (r1.len ▸ z), fun p hp => ?_⟩) x⟩
  · refine wpAny_Call_Name_kw (ld_glob I hg hm ?_ hdb)
    refine PySem.W.callWith_K (h₀ := X.base) I.ok.mod.kin hk (thn (pa.run pos pins s σ H _ I h) fun us s1 ⟨vs, H1, I1, r, q⟩ => ⟨I1.kIn, ?_⟩) he hpl
    refine wpAny_call (codeAny_mono (F X.A X.stack s1 H1 us vs Q (WE W σ) hr I1.env0 r q) fun r s' hq => ?_)
    match r, hq with
    | .error e, hq => exact passAt tk σ pins H1 s1 e s' I1 hq
    | .ok (.ret u), hq => exact I1.after hq
    | .ok .next, hq => exact False.elim hq
    | .ok .brk, hq => exact False.elim hq
    | .ok .cont, hq => exact False.elim hq
  · obtain ⟨o2, f2, n⟩ := o1.new (u := .tup vs) hp
    have f12 := f1.trans f2
    exact ⟨O1, [tupC cs], _, Kc, o2, .cons (cl_tup n upd_same (r1.fr f2)) .nil, k1, q.go f12, fun O2 y c v H2 dd f3 o3 r3 hd hf hx => x O2 ρ σ y c v H2 dd (f12.trans f3) (S.go (f12.trans f3) o3) r3 hd hf hx⟩
end
end Ab
namespace Ab
open PySem PySem.Spec PyProof.Rows L2 Vg
section
variable {K : PySem.W.Frag} {W : WX}
/-! ## the data of a value is one -/
theorem pairs_eq {α β : Type} : ∀ {l l' : List (α × β)}, l.map (·.1) = l'.map (·.1) → l.map (·.2) = l'.map (·.2) → l = l'
  | [], [], _, _ => rfl
  | [], _ :: _, h, _ => by simp at h
  | _ :: _, [], h, _ => by simp at h
  | (a, b) :: l, (a', b') :: l', h, k => by
    simp only [List.map_cons, List.cons.injEq] at h k
    rw [h.1, k.1, pairs_eq h.2 k.2]
mutual
theorem dq_det {ok ok' : Addr → Prop} {H : Hp} : ∀ {v : V} {d e : PyData}, Dq ok H v d → Dq ok' H v e → d = e
  | _, _, _, .non, h => by cases h; rfl
  | _, _, _, .bl b, h => by cases h; rfl
  | _, _, _, .int i, h => by cases h; rfl
  | _, _, _, .str x, h => by cases h; rfl
  | _, _, _, .lst o h r, q => by
    cases q with
    | lst o' h' r' => rw [h] at h'; cases h'; rw [dql_det r r']
    | tup o' h' r' => rw [h] at h'; cases h'
    | dct o' h' k' r' => rw [h] at h'; cases h'
  | _, _, _, .tup o h r, q => by
    cases q with
    | lst o' h' r' => rw [h] at h'; cases h'
    | tup o' h' r' => rw [h] at h'; cases h'; rw [dql_det r r']
    | dct o' h' k' r' => rw [h] at h'; cases h'
  | _, .dict es, .dict es', .dct o h k r, .dct o' h' k' r' => by
    rw [h] at h'; cases h'
    have e2 := dql_det r r'
    have e1 : es.map (·.1) = es'.map (·.1) := k.symm.trans k'
    have e3 : es = es' := pairs_eq e1 e2
    rw [e3]
  | _, .dict es, _, .dct o h k r, .lst o' h' r' => by rw [h] at h'; cases h'
  | _, .dict es, _, .dct o h k r, .tup o' h' r' => by rw [h] at h'; cases h'
theorem dql_det {ok ok' : Addr → Prop} {H : Hp} : ∀ {vs : List V} {ds es : List PyData}, DqL ok H vs ds → DqL ok' H vs es → ds = es
  | _, _, _, .nil, h => by cases h; rfl
  | _, _, _, .cons h r, q => by
    cases q with
    | cons h' r' => rw [dq_det h h', dql_det r r']
end
theorem sz_snd : ∀ es : List (PyData × PyData), sizeOf (es.map (·.2)) ≤ sizeOf es
  | [] => Nat.le_refl _
  | (a, b) :: es => by
    have := sz_snd es
    simp only [List.map_cons, List.cons.sizeOf_spec, Prod.mk.sizeOf_spec]
    omega
mutual
theorem dq_off {ok : Addr → Prop} {H : Hp} {a : Addr} {d : PyData} (hd : Dq ok H (.ref a) d) : ∀ {v : V} {e : PyData}, Dq ok H v e → sizeOf e < sizeOf d → Dq (fun b => ok b ∧ b ≠ a) H v e
  | _, _, .non, _ => .non
  | _, _, .bl b, _ => .bl b
  | _, _, .int i, _ => .int i
  | _, _, .str x, _ => .str x
  | _, _, .lst (a := c) (ds := ds) o h r, z => .lst ⟨o, fun e => by
      subst e
      rw [dq_det hd (.lst o h r)] at z
      omega⟩ h (dql_off hd r (by simp at z; omega))
  | _, _, .tup (a := c) (ds := ds) o h r, z => .tup ⟨o, fun e => by
      subst e
      rw [dq_det hd (.tup o h r)] at z
      omega⟩ h (dql_off hd r (by simp at z; omega))
  | _, .dict es, .dct (a := c) o h k r, z => .dct ⟨o, fun e => by
      subst e
      rw [dq_det hd (.dct o h k r)] at z
      omega⟩ h k (dql_off hd r (Nat.lt_of_le_of_lt (sz_snd es) (by simp at z; omega)))
theorem dql_off {ok : Addr → Prop} {H : Hp} {a : Addr} {d : PyData} (hd : Dq ok H (.ref a) d) : ∀ {vs : List V} {es : List PyData}, DqL ok H vs es → sizeOf es < sizeOf d → DqL (fun b => ok b ∧ b ≠ a) H vs es
  | _, _, .nil, _ => .nil
  | _, _, .cons h r, z => .cons (dq_off hd h (by simp at z; omega)) (dql_off hd r (by simp at z; omega))
end
end
end Ab
namespace Ab
open PySem PySem.Spec PyProof.Rows L2 Vg
section
variable {K : PySem.W.Frag} {W : WX}
/-! ## more built-ins -/
def bIntB : AB := fun O cs Kc => (∃ i, cs = [.dat (.int i)] ∧ Kc O (.dat (.int i))) ∨ ∃ b, cs = [.dat (.bool b)] ∧ Kc O (.dat (.int (if b then 1 else 0)))
theorem sb_intB : SRB K (fun xs H Q => (∃ i, xs = [.int i] ∧ Q (.int i) H) ∨ ∃ k, xs = [.bl k] ∧ Q (.int (if k then 1 else 0)) H) bIntB := fun O H Q Kc cs vs o r h q => by
  rcases h with ⟨i, e, k⟩ | ⟨b, e, k⟩
  · subst e
    obtain ⟨v, rfl, rv⟩ := cls1 r
    exact .inl ⟨i, by rw [dq_int rv], q O _ _ H (Fr.refl _ _) o (.dat (.int _)) k⟩
  · subst e
    obtain ⟨v, rfl, rv⟩ := cls1 r
    exact .inr ⟨b, by rw [dq_bool rv], q O _ _ H (Fr.refl _ _) o (.dat (.int _)) k⟩
/-- list(x), tuple(x) -/
def bList (own : Bool) : AB := fun O cs Kc => ∃ c es, cs = [c] ∧ (Els O c es ∨ ElsT c es) ∧ if own = true then ∀ p, Kc ((p, .lst es) :: O) (.at p) else Kc O (lisC es)
theorem sb_listG {own : Bool} : SRB K (fun xs H Q => ∃ p ys, xs = [.ref p] ∧ (SqL K H p ys ∨ SqT K H p ys) ∧ ∀ l, H l = none → Q (.ref l) (upd H l (.lst ys))) (bList own) := fun O H Q Kc cs vs o r ⟨c, es, e, h, k⟩ q => by
  subst e
  obtain ⟨v, rfl, rv⟩ := cls1 r
  obtain ⟨a, xs, rfl, ha, rs⟩ : ∃ a xs, v = .ref a ∧ (SqL K H a xs ∨ SqT K H a xs) ∧ ClsH K (fre O) H xs es := by
    rcases h with h | h
    · obtain ⟨a, xs, e, ha, rs⟩ := h.get o rv
      exact ⟨a, xs, e, .inl (SqL.of ha), rs⟩
    · obtain ⟨a, xs, e, ha, rs⟩ := h.get rv
      exact ⟨a, xs, e, .inr ha, rs⟩
  refine ⟨a, xs, rfl, ha, fun l hl => ?_⟩
  cases own with
  | true =>
    obtain ⟨o2, f2⟩ := own_lst o rs hl
    exact q _ _ _ _ f2 o2 (.at l) ((show ∀ p, Kc ((p, .lst es) :: O) (.at p) by simpa using k) l)
  | false =>
    obtain ⟨o2, f2, n⟩ := o.new (u := .lst xs) hl
    exact q O _ _ _ f2 o2 (cl_lis n upd_same (rs.fr f2)) (by simpa using k)
theorem sb_list : SRB K (fun xs H Q => ∃ p ys, xs = [.ref p] ∧ (SqL K H p ys ∨ SqT K H p ys) ∧ ∀ l, H l = none → Q (.ref l) (upd H l (.lst ys))) (bList false) := sb_listG
theorem sb_listO : SRB K (fun xs H Q => ∃ p ys, xs = [.ref p] ∧ (SqL K H p ys ∨ SqT K H p ys) ∧ ∀ l, H l = none → Q (.ref l) (upd H l (.lst ys))) (bList true) := sb_listG
def bTuple : AB := fun O cs Kc => ∃ c es, cs = [c] ∧ ((Els O c es ∧ Kc O (tupC es)) ∨ (ElsT c es ∧ Kc O c))
theorem sb_tuple : SRB K (fun xs H Q => ∃ p ys, xs = [.ref p] ∧ ((SqL K H p ys ∧ ∀ l, H l = none → Q (.ref l) (upd H l (.tup ys))) ∨ (SqT K H p ys ∧ Q (.ref p) H))) bTuple := fun O H Q Kc cs vs o r ⟨c, es, e, h⟩ q => by
  subst e
  obtain ⟨v, rfl, rv⟩ := cls1 r
  rcases h with ⟨h, k⟩ | ⟨h, k⟩
  · obtain ⟨a, xs, rfl, ha, rs⟩ := h.get o rv
    refine ⟨a, xs, rfl, .inl ⟨SqL.of ha, fun l hl => ?_⟩⟩
    obtain ⟨o2, f2, n⟩ := o.new (u := .tup xs) hl
    exact q O _ _ _ f2 o2 (cl_tup n upd_same (rs.fr f2)) k
  · obtain ⟨a, xs, rfl, ha, rs⟩ := h.get rv
    exact ⟨a, xs, rfl, .inr ⟨ha, q O _ _ H (Fr.refl _ _) o rv k⟩⟩
/-- slices of tuples: a constant cut from end to end stays what it is -/
def slR (c : Cl) (cs : List Cl) (lo hi : Option Int) : Cl := match c with
  | .con d => if HT.sIx cs.length 0 lo = 0 ∧ HT.sIx cs.length cs.length hi = cs.length then .con d else tupC (cutD cs lo hi)
  | _ => tupC (cutD cs lo hi)
def aSlT : AR3 := fun O c lo hi Kc => ∃ cs, ElsT c cs ∧ Kc O (slR c cs lo hi)
theorem cut_all {cs : List Cl} {lo hi : Option Int} (h : HT.sIx cs.length 0 lo = 0 ∧ HT.sIx cs.length cs.length hi = cs.length) : cutD cs lo hi = cs := by
  unfold cutD
  rw [h.1, h.2]
  simp
theorem sr_slT : SR3 K (rSlA K) aSlT := fun O H Q Kc c v lo hi o r ⟨cs, h, k⟩ q => by
  obtain ⟨a, xs, rfl, ha, rs⟩ := h.get r
  refine ⟨a, xs, rfl, ha, fun e => ?_, fun ne p hp => ?_⟩
  · rw [rs.len] at e
    have r' : ClH K (fre O) H (.ref a) (slR c cs lo hi) := by
      cases h with
      | dat ds =>
        show ClH K (fre O) H (.ref a) (tupC (cutD (ds.map .dat) lo hi))
        rw [cut_all e, tupC_dats]
        exact r
      | tup cs =>
        show ClH K (fre O) H (.ref a) (tupC (cutD cs lo hi))
        rw [cut_all e]
        cases r with | tup o h r => exact cl_tup o h r
      | con ds =>
        show ClH K (fre O) H (.ref a) (if _ then _ else _)
        rw [if_pos e]
        exact r
    exact q O _ _ H (Fr.refl _ _) o r' k
  · rw [rs.len] at ne
    have e : slR c cs lo hi = tupC (cutD cs lo hi) := by
      cases h with
      | dat ds => rfl
      | tup cs => rfl
      | con ds => exact if_neg ne
    rw [e] at k
    obtain ⟨o2, f2, n⟩ := o.new (u := .tup (cutV xs lo hi)) hp
    exact q O _ _ _ f2 o2 (cl_tup n upd_same ((rs.cut lo hi).fr f2)) k
/-! ## truth of a value -/
def aTru (a : AE) : AT := fun O ρ XX Kc => a O ρ XX fun O1 c => ∃ k, ((c = .dat .none ∧ k = false) ∨ (∃ b, c = .dat (.bool b) ∧ k = b) ∨ (∃ i : Int, c = .dat (.int i) ∧ k = (i != 0)) ∨ (∃ z : Str, c = .dat (.str z) ∧ z.length ≤ sizeLine ∧ k = ((z.length : Int) != 0)) ∨ (∃ cs, (Els O1 c cs ∨ ElsT c cs) ∧ k = !cs.isEmpty)) ∧ Kc O1 k
theorem empty_len {α β : Type} {l : List α} {l' : List β} (h : l.length = l'.length) : l.isEmpty = l'.isEmpty := by
  cases l <;> cases l' <;> first | rfl | simp at h
theorem sa_tru {t : TE} {a : AE} (h : SaE K W t a) : SaT K W (fun σ H Q => t σ H fun x H' => ∃ k, TruV K x H' k ∧ Q k H') (aTru a) := fun O ρ σ H Q Kc XX S k q x =>
  h O ρ σ H _ _ XX S k (fun O1 c v H1 f1 o1 r1 ⟨k, hk, k1⟩ => by
    refine ⟨k, ?_, q O1 k H1 f1 o1 k1⟩
    rcases hk with ⟨rfl, e⟩ | ⟨b, rfl, e⟩ | ⟨i, rfl, e⟩ | ⟨z, rfl, hz, e⟩ | ⟨cs, h | h, e⟩
    · rw [dq_non r1]; exact e
    · rw [dq_bool r1]; exact e
    · rw [dq_int r1]; exact e
    · rw [dq_str r1]; exact ⟨hz, e⟩
    · obtain ⟨p, xs, rfl, hp, rs⟩ := h.get o1 r1
      exact .inl ⟨xs, SqL.of hp, by rw [e, empty_len rs.len]⟩
    · obtain ⟨p, xs, rfl, hp, rs⟩ := h.get r1
      exact .inr (.inl ⟨xs, hp, by rw [e, empty_len rs.len]⟩)) x
/-! ## membership among flat things -/
def flatD : PyData → Bool
  | .none | .bool _ | .int _ | .str _ => true
  | _ => false
def vD : PyData → V
  | .none => .non
  | .bool b => .bl b
  | .int i => .int i
  | .str z => .str z
  | _ => .non
theorem vD_of {ok : Addr → Prop} {H : Hp} {v : V} {d : PyData} (h : Dq ok H v d) (f : flatD d = true) : v = vD d ∧ flatV v = true := by
  cases h <;> first | exact ⟨rfl, rfl⟩ | cases f
theorem vD_all {ok : Addr → Prop} {H : Hp} : ∀ {xs : List V} {ds : List PyData}, ClsH K ok H xs (ds.map .dat) → ds.all flatD = true → xs = ds.map vD ∧ xs.all flatV = true
  | _, [], .nil, _ => ⟨rfl, rfl⟩
  | _, d :: ds, .cons (.dat h) r, f => by
    have f' := Bool.and_eq_true_iff.mp (show (flatD d && ds.all flatD) = true from f)
    obtain ⟨e, q⟩ := vD_of h f'.1
    obtain ⟨e2, q2⟩ := vD_all r f'.2
    refine ⟨by rw [e, e2]; rfl, ?_⟩
    rw [List.all_cons, q, q2]
    rfl
def aIn (neg : Bool) : AR2 := fun O c c' Kc => ∃ (d : PyData) (ds : List PyData), c = .dat d ∧ flatD d = true ∧ (Els O c' (ds.map .dat) ∨ ElsT c' (ds.map .dat)) ∧ ds.all flatD = true ∧ Kc O (.dat (.bool (if neg then !inV (vD d) (ds.map vD) else inV (vD d) (ds.map vD))))
theorem sr_inG {neg : Bool} : SR2 K (rIn K neg) (aIn neg) := fun O H Q Kc c c' v v' o r r' ⟨d, ds, e, f, h, fs, k⟩ q => by
  subst e
  obtain ⟨a, xs, rfl, ha, rs⟩ : ∃ a xs, v' = .ref a ∧ (SqL K H a xs ∨ SqT K H a xs) ∧ ClsH K (fre O) H xs (ds.map .dat) := by
    rcases h with h | h
    · obtain ⟨a, xs, e, ha, rs⟩ := h.get o r'
      exact ⟨a, xs, e, .inl (SqL.of ha), rs⟩
    · obtain ⟨a, xs, e, ha, rs⟩ := h.get r'
      exact ⟨a, xs, e, .inr ha, rs⟩
  obtain ⟨e1, q1⟩ := vD_all rs fs
  cases r with
  | dat hd =>
    obtain ⟨e2, q2⟩ := vD_of hd f
    subst e2 e1
    exact ⟨a, _, rfl, ha, q2, q1, q O _ _ H (Fr.refl _ _) o (.dat (.bl _)) k⟩
def aInP : AR2 := fun O c c' Kc => ∃ (d : PyData) (ds : List PyData), c = .dat d ∧ flatD d = true ∧ (Els O c' (ds.map .dat) ∨ ElsT c' (ds.map .dat)) ∧ ds.all flatD = true ∧ Kc O (.dat (.bool (inV (vD d) (ds.map vD))))
def aNotIn : AR2 := fun O c c' Kc => ∃ (d : PyData) (ds : List PyData), c = .dat d ∧ flatD d = true ∧ (Els O c' (ds.map .dat) ∨ ElsT c' (ds.map .dat)) ∧ ds.all flatD = true ∧ Kc O (.dat (.bool (!inV (vD d) (ds.map vD))))
theorem sr_in : SR2 K (rIn K false) aInP := sr_inG (neg := false)
theorem sr_notIn : SR2 K (rIn K true) aNotIn := sr_inG (neg := true)
/-! ## a dict that is owned: a store -/
def putC {α : Type} (kvs : List (Key × α)) (k : Key) (v : α) : List (Key × α) :=
  if (kvs.any fun kv => decide (kv.1 = k)) = true then kvs.map (fun kv => if kv.1 = k then (kv.1, v) else kv) else kvs ++ [(k, v)]
theorem putC_eq (l : List (Key × V)) (k : Key) (v : V) : putK l k v = putC l k v := rfl
def aDput (a d i : AE) : AS := fun A XX O ρ => a O ρ XX fun O1 c => d O1 ρ XX fun O2 p => i O2 ρ XX fun O3 y => ∃ q es f k, p = .at q ∧ y = .dat (kD k) ∧ Lo O3 q (.dct es) f ∧ es.length ≤ 1000 ∧ A.nx (f (.dct (putC es k c))) ρ
theorem putC_fst {α β : Type} (k : Key) (v : α) (c : β) : ∀ {l : List (Key × α)} {l' : List (Key × β)}, l.map (·.1) = l'.map (·.1) → (putC l k v).map (·.1) = (putC l' k c).map (·.1) := by
  intro l l' h
  have e1 : ∀ {γ : Type} (m : List (Key × γ)), (m.any fun kv => decide (kv.1 = k)) = ((m.map (·.1)).any fun z => decide (z = k)) := fun m => by
    rw [List.any_map]
    rfl
  have e2 : ∀ {γ : Type} (m : List (Key × γ)) (u : γ), (m.map fun kv => if kv.1 = k then (kv.1, u) else kv).map (·.1) = m.map (·.1) := fun m u => by
    rw [List.map_map]
    refine List.map_congr_left fun z _ => ?_
    show (if z.1 = k then (z.1, u) else z).1 = z.1
    split <;> rfl
  unfold putC
  rw [e1, e1, h]
  split
  · rw [e2, e2, h]
  · rw [List.map_append, List.map_append, h]
    rfl
theorem putC_snd {ok : Addr → Prop} {H : Hp} {k : Key} {v : V} {c : Cl} (rc : ClH K ok H v c) : ∀ {l : List (Key × V)} {l' : List (Key × Cl)}, l.map (·.1) = l'.map (·.1) → ClsH K ok H (l.map (·.2)) (l'.map (·.2)) → ClsH K ok H ((putC l k v).map (·.2)) ((putC l' k c).map (·.2)) := by
  intro l l' h r
  have e1 : ∀ {γ : Type} (m : List (Key × γ)), (m.any fun kv => decide (kv.1 = k)) = ((m.map (·.1)).any fun z => decide (z = k)) := fun m => by
    rw [List.any_map]
    rfl
  have upd : ∀ {l : List (Key × V)} {l' : List (Key × Cl)}, l.map (·.1) = l'.map (·.1) → ClsH K ok H (l.map (·.2)) (l'.map (·.2)) → ClsH K ok H ((l.map fun kv => if kv.1 = k then (kv.1, v) else kv).map (·.2)) ((l'.map fun kv => if kv.1 = k then (kv.1, c) else kv).map (·.2)) := by
    intro l
    induction l with
    | nil =>
      intro l' h r
      cases l' with
      | nil => exact .nil
      | cons x y => simp at h
    | cons x l ih =>
      intro l' h r
      cases l' with
      | nil => simp at h
      | cons y l' =>
        simp only [List.map_cons, List.cons.injEq] at h
        cases r with
        | cons r1 r2 =>
          refine .cons ?_ (ih h.2 r2)
          show ClH K ok H (if x.1 = k then (x.1, v) else x).2 (if y.1 = k then (y.1, c) else y).2
          rw [← h.1]
          split
          · exact rc
          · exact r1
  unfold putC
  rw [e1, e1, h]
  split
  · exact upd h r
  · rw [List.map_append, List.map_append]
    exact r.app (.cons rc .nil)
theorem kD_v {ok : Addr → Prop} {H : Hp} {v : V} {k : Key} (h : ClH K ok H v (.dat (kD k))) : v = kV k := by
  cases k with
  | inl i => exact dq_int h
  | inr z => exact dq_str h
theorem sas_dput {td ty tv : TE} {a d i : AE} (ha : SaE K W tv a) (hd : SaE K W td d) (hi : SaE K W ty i) : SaS K W (sDPut td ty tv) (aDput a d i) := fun O ρ σ H D A XX S k e x =>
  ha O ρ σ H _ _ XX S k (fun O1 c v H1 f1 o1 r1 k1 => hd O1 ρ σ H1 _ _ XX (S.go f1 o1) k1 (fun O2 p u H2 f2 o2 r2 k2 => hi O2 ρ σ H2 _ _ XX (S.go (f1.trans f2) o2) k2 (fun O3 y w H3 f3 o3 r3 ⟨q, es, f, kk, ep, ey, lo, hl, k3⟩ => by
    subst ep ey
    obtain ⟨kvs, hq, hk, rs⟩ := o3.lo lo
    have ew := kD_v r3
    subst ew
    have ev := dq_at r2
    subst ev
    have f13 := f1.trans (f2.trans f3)
    have rc := r1.fr (f2.trans f3)
    have hlen : kvs.length = es.length := by
      have := congrArg List.length hk
      simpa using this
    obtain ⟨o4, f4⟩ := o3.put (u := .dK (putC kvs kk v)) (w' := .dct (putC es kk c)) lo ⟨_, upd_same, putC_fst kk v c hk, (putC_snd rc hk rs).mono (fun b v fb e => by rw [upd_ne fun z => fb _ lo.mem z.symm]; exact e) fun b v fb _ => (lo.fre b).mpr fb⟩
    exact ⟨q, _, rfl, DPut.k (v := v) hq (by rw [hlen]; exact Nat.lt_of_le_of_lt hl (by decide)), e.nx _ _ _ _ (f13.trans f4) (S.go (f13.trans f4) o4) k3⟩) (x.go (f1.trans f2))) (x.go f1)) x
/-! ## the purse's things of other kinds -/
/-- what a drawn thing is, among the owned ones -/
inductive Odd : PyData → Cl → Ob → Prop
  | imm {d : PyData} (h : ∀ ds, d ≠ .list ds) (k : ∀ es, d ≠ .dict es) : Odd d (.dat d) []
  | lst {a : Addr} (ds : List PyData) : Odd (.list ds) (.at a) [(a, .lst (ds.map .dat))]
  | dct {a : Addr} (kvs : List (PyData × PyData)) (es : List (Key × Cl)) (k : es.map (fun e => kD e.1) = kvs.map (·.1)) (c : es.map (·.2) = (kvs.map (·.2)).map .dat) : Odd (.dict kvs) (.at a) [(a, .dct es)]
def afOdd (ds : List PyData) : AF := fun O cs _ Kc => ∃ p n f, cs = [.at p] ∧ Lo O p (.pur n) f ∧ 1 ≤ n ∧ ∀ d c G, d ∈ ds → Odd d c G → Kc (G ++ f (.pur (n - 1))) c
/-- an object that nobody owned is owned now -/
theorem OkO.take {O : Ob} {H : Hp} {a : Addr} {w : Ow} (o : OkO K O H) (fr : ∀ c v, Ab.fre O c → H c = some v → c ≠ a → True) (ha : fre O a) (hw : OwH K (fre ((a, w) :: O)) H a w)
    (all : ∀ x ∈ O, OwH K (fre ((a, w) :: O)) H x.1 x.2) : OkO K ((a, w) :: O) H := by
  refine ⟨List.nodup_cons.mpr ⟨fun m => ?_, o.nd⟩, fun x hx => ?_⟩
  · obtain ⟨x, hx, e⟩ := List.mem_map.mp m
    exact ha x hx e
  · rcases List.mem_cons.mp hx with rfl | hx
    · exact hw
    · exact all x hx
theorem sp_odd {ds : List PyData} : SpA K (spOdd ds) (afOdd ds) := fun O cs vs H Q E Kc Xf o r ⟨p, n, f, e, lo, hn, k⟩ q => by
  subst e
  obtain ⟨v, rfl, rv⟩ := cls1 r
  have pz : Pz H p n := o.lo lo
  refine ⟨p, n - 1, by rw [dq_at rv], pz.mono (by omega), fun u d H' hd b z' hu => ?_⟩
  obtain ⟨o2, f2⟩ := Fr.but (w' := .pur (n - 1)) o lo b (by obtain ⟨l, h, _⟩ := z'; exact ⟨_, h⟩) z'
  have newfre : ∀ c, H c = none → fre (f (.pur (n - 1))) c := fun c hc => (lo.fre c).mpr (o.fre_ne hc)
  have imm : (∀ es, d ≠ .list es) → (∀ es, d ≠ .dict es) → Q u H' := fun h1 h2 =>
    q _ (.dat d) _ _ f2 o2 (.dat (hu.mono (fun _ _ _ e => e) fun c v hc _ => newfre c hc)) (k d _ [] hd (.imm h1 h2))
  -- a new object, owned
  have own : ∀ (a : Addr) (w : Ow) (c : Cl), u = .ref a → H a = none → ClH K (fre ((a, w) :: f (.pur (n - 1)))) H' u c → OwH K (fre ((a, w) :: f (.pur (n - 1)))) H' a w → Kc ((a, w) :: f (.pur (n - 1))) c → Q u H' := by
    intro a w c eu ha rc hw kc
    have frA : ∀ c v, fre O c → H c = some v → fre ((a, w) :: f (.pur (n - 1))) c := fun c v hc e x hx => by
      rcases List.mem_cons.mp hx with rfl | hx
      · exact fun z => (ne_of_none e ha) z.symm
      · exact (lo.fre c).mpr hc x hx
    have o3 : OkO K ((a, w) :: f (.pur (n - 1))) H' := by
      refine OkO.take o2 (fun _ _ _ _ _ => trivial) (newfre a ha) hw fun x hx => ?_
      rcases lo.mem' o.nd x hx with rfl | ⟨m, nn⟩
      · exact o2.all _ hx
      · obtain ⟨v, hv⟩ := (o.all x m).there
        exact (o.all x m).mono (fun c v hc e => f2.keep c v hc e) frA ((b _ _ nn hv).trans hv.symm)
    exact q _ c _ _ ⟨f2.keep, frA, f2.dom⟩ o3 rc kc
  cases hu with
  | non => exact imm (fun _ h => nomatch h) fun _ h => nomatch h
  | bl b => exact imm (fun _ h => nomatch h) fun _ h => nomatch h
  | int i => exact imm (fun _ h => nomatch h) fun _ h => nomatch h
  | str x => exact imm (fun _ h => nomatch h) fun _ h => nomatch h
  | tup oa h r => exact imm (fun _ h => nomatch h) fun _ h => nomatch h
  | @lst a xs ds' oa h r =>
    refine own a (.lst (ds'.map .dat)) (.at a) rfl oa (.at a) ⟨xs, h, ?_⟩ (k _ _ _ hd (.lst ds'))
    have r2 := dql_off (.lst oa h r) r (by simp)
    exact ClsH.dats (r2.mono (fun _ _ _ e => e) fun c v hc _ x hx => by
      rcases List.mem_cons.mp hx with rfl | hx
      · exact fun z => hc.2 z.symm
      · exact newfre c hc.1 x hx)
  | @dct a kvs es oa h kk r =>
    have r2 := dql_off (.dct oa h kk r) r (Nat.lt_of_le_of_lt (sz_snd es) (by simp))
    obtain ⟨cs, e1, e2⟩ : ∃ cs : List (Key × Cl), cs.map (·.1) = kvs.map (·.1) ∧ cs.map (·.2) = (es.map (·.2)).map .dat := by
      refine ⟨(kvs.map (·.1)).zip ((es.map (·.2)).map .dat), ?_, ?_⟩
      · exact List.map_fst_zip (by have := r.len; simp at this ⊢; omega)
      · exact List.map_snd_zip (by have := r.len; simp at this ⊢; omega)
    refine own a (.dct cs) (.at a) rfl oa (.at a) ⟨kvs, h, e1.symm, ?_⟩ (k _ _ _ hd (.dct es cs ?_ e2))
    · rw [e2]
      exact ClsH.dats (r2.mono (fun _ _ _ e => e) fun c v hc _ x hx => by
        rcases List.mem_cons.mp hx with rfl | hx
        · exact fun z => hc.2 z.symm
        · exact newfre c hc.1 x hx)
    · rw [← kk]
      have := congrArg (List.map kD) e1
      rw [List.map_map, List.map_map] at this
      exact this
/-! ## repr of what may be a dict of plain things -/
inductive RdR (O : Ob) : Cl → PyData → Prop
  | pl {c : Cl} {d : PyData} (h : Rdc O c d) (n : d.hasDict = false) : RdR O c d
  | dct {a : Addr} {es : List (Key × Cl)} (ds : List PyData) (m : (a, Ow.dct es) ∈ O) (e : es.map (·.2) = ds.map .dat) (f : ds.all flatD = true) : RdR O (.at a) (.dict ((es.map fun e => kD e.1).zip ds))
theorem flkv_of {ok : Addr → Prop} {H : Hp} : ∀ {kvs : List (Key × V)} {es : List (Key × Cl)} {ds : List PyData}, kvs.map (·.1) = es.map (·.1) → ClsH K ok H (kvs.map (·.2)) (es.map (·.2)) → es.map (·.2) = ds.map .dat → ds.all flatD = true → FlKv kvs ((es.map fun e => kD e.1).zip ds)
  | [], [], [], _, _, _, _ => .nil
  | [], [], _ :: _, _, _, h, _ => by simp at h
  | [], _ :: _, _, h, _, _, _ => by simp at h
  | _ :: _, [], _, h, _, _, _ => by simp at h
  | _ :: _, _ :: _, [], _, _, h, _ => by simp at h
  | (k, v) :: kvs, (k', c) :: es, d :: ds, h, r, e, f => by
    simp only [List.map_cons, List.cons.injEq] at h e
    obtain ⟨rfl, h⟩ := h
    obtain ⟨rfl, e⟩ := e
    have f' := Bool.and_eq_true_iff.mp (show (flatD d && ds.all flatD) = true from f)
    cases r with
    | cons r1 r2 =>
      refine FlKv.cons ?_ (flkv_of h r2 e f'.2)
      cases r1 with
      | dat hd => cases hd <;> first | constructor | (cases f'.1)
theorem RdR.dr {O : Ob} {H : Hp} {c : Cl} {d : PyData} {v : V} (h : RdR O c d) (o : OkO K O H) (r : ClH K (fre O) H v c) : Dr K H v d := by
  cases h with
  | pl h n => exact .inl (h.dp o r n)
  | dct ds m e f =>
    cases r
    obtain ⟨kvs, h, hk, rs⟩ := o.all _ m
    exact .inr ⟨_, kvs, _, rfl, rfl, h, flkv_of hk rs e f⟩
def bReprA : AB := fun O cs Kc => ∃ c d, cs = [c] ∧ RdR O c d ∧ d.showable = true ∧ d.depth ≤ 50 ∧ d.shown.length ≤ sizeLine ∧ Kc O (.dat (.str d.shown))
theorem sb_reprA : SRB K (fun xs H Q => ∃ x d, xs = [x] ∧ Dr K H x d ∧ d.showable = true ∧ d.depth ≤ 50 ∧ d.shown.length ≤ sizeLine ∧ Q (.str d.shown) H) bReprA := fun O H Q Kc cs vs o r ⟨c, d, e, h, h1, h2, h3, k⟩ q => by
  subst e
  obtain ⟨v, rfl, rv⟩ := cls1 r
  exact ⟨v, d, rfl, h.dr o rv, h1, h2, h3, q O _ _ H (Fr.refl _ _) o (.dat (.str _)) k⟩
/-! ## f-strings -/
def aFmtS (a : AE) : AE := fun O ρ XX Kc => a O ρ XX fun O1 c => ∃ z : Str, c = .dat (.str z) ∧ z.length ≤ sizeLine ∧ Kc O1 c
def aFmtI (a : AE) : AE := fun O ρ XX Kc => a O ρ XX fun O1 c => ∃ i : Int, c = .dat (.int i) ∧ i.natAbs.log2 < 1920 ∧ Kc O1 (.dat (.str (toString i)))
theorem sa_fmtS {t : TE} {a : AE} (h : SaE K W t a) : SaE K W (tFmt t) (aFmtS a) := fun O ρ σ H Q Kc XX S k q x =>
  h O ρ σ H _ _ XX S k (fun O1 c v H1 f1 o1 r1 ⟨z, e, hz, k1⟩ => by
    subst e
    exact .inl ⟨z, dq_str r1, hz, q O1 _ _ H1 f1 o1 (.dat (.str z)) k1⟩) x
theorem sa_fmtI {t : TE} {a : AE} (h : SaE K W t a) : SaE K W (tFmt t) (aFmtI a) := fun O ρ σ H Q Kc XX S k q x =>
  h O ρ σ H _ _ XX S k (fun O1 c v H1 f1 o1 r1 ⟨z, e, hz, k1⟩ => by
    subst e
    exact .inr ⟨z, dq_int r1, hz, q O1 _ _ H1 f1 o1 (.dat (.str _)) k1⟩) x
def aJs : List AE → Str → AE
  | [], acc => fun O _ _ Kc => Kc O (.dat (.str acc))
  | a :: as, acc => fun O ρ XX Kc => a O ρ XX fun O1 c => ∃ y : Str, c = .dat (.str y) ∧ (acc ++ y).length ≤ sizeLine ∧ aJs as (acc ++ y) O1 ρ XX Kc
inductive SaL (K : PySem.W.Frag) (W : WX) : List TE → List AE → Prop
  | nil : SaL K W [] []
  | cons {t : TE} {a : AE} {ts : List TE} {as : List AE} (h : SaE K W t a) (r : SaL K W ts as) : SaL K W (t :: ts) (a :: as)
theorem sa_js {ts : List TE} {as : List AE} (h : SaL K W ts as) : ∀ acc, SaE K W (fun σ H Q => tJs ts acc σ H fun out H1 => Q (.str out) H1) (aJs as acc) := by
  induction h with
  | nil => exact fun acc O ρ σ H Q Kc XX S k q x => q O _ _ H (Fr.refl _ _) S.o (.dat (.str _)) k
  | cons h r ih => exact fun acc O ρ σ H Q Kc XX S k q x => h O ρ σ H _ _ XX S k (fun O1 c v H1 f1 o1 r1 ⟨y, e, hz, k1⟩ => by
      subst e
      exact ⟨y, dq_str r1, hz, ih (acc ++ y) O1 ρ σ H1 _ _ XX (S.go f1 o1) k1 (q.go f1) (x.go f1)⟩) x
end
section
variable {X : Cx} {W : WX}
structure DJ (X : Cx) (W : WX) (es : List Expr) (as : List AE) : Prop where
  ex : ∃ ts, PJ X es ts ∧ SaL X.K W ts as
theorem dj_nil : DJ X W [] [] := ⟨_, .nil, .nil⟩
theorem dj_cons {e : Expr} {es : List Expr} {a : AE} {as : List AE} (h : DE X W e a) (k : DJ X W es as) : DJ X W (e :: es) (a :: as) := by
  obtain ⟨t, p, s⟩ := h.ex
  obtain ⟨ts, p2, s2⟩ := k.ex
  exact ⟨_, .cons p p2, .cons s s2⟩
theorem de_joined {v1 v2 : Expr} {rest : List Expr} {as : List AE} {pos : Pos} (h : DJ X W (v1 :: v2 :: rest) as) : DE X W (.JoinedStr (v1 :: v2 :: rest) pos) (aJs as Str.empty) := by
  obtain ⟨ts, p, s⟩ := h.ex
  exact ⟨_, pe_joined p, sa_js s _⟩
theorem dt_truth {a : Expr} {aa : AE} (h : DE X W a aa) (he : ∀ whole, isTrue a X.env whole = (do let v ← whole; standAt a.pos; holding [v] (truthy v))) : DT X W a (aTru aa) := by
  obtain ⟨t, p, s⟩ := h.ex
  exact ⟨_, pt_truth p he, sa_tru s⟩
theorem ds_dput {o i value : Expr} {a d k : AE} {pos pos' : Pos} (hu : X.A.units + 64 < cLine) (ha : DE X W value a) (ho : DE X W o d) (hi : DE X W i k) (hs : swapsWith value (some (.Subscript o i pos')) pos.line X.env = pure false := by rfl) :
    DS X W (.Assign [.Subscript o i pos'] value pos) (aDput a d k) := by
  obtain ⟨t, p, s⟩ := ha.ex
  obtain ⟨t1, p1, s1⟩ := ho.ex
  obtain ⟨t2, p2, s2⟩ := hi.ex
  exact ⟨_, ps_dput (by omega) p1 p2 p hs, sas_dput s s1 s2⟩
end
end Ab
namespace Ab
open PySem PySem.Spec PyProof.Rows L2 Vg
/-! ## == of texts -/
def aEqS : AR2 := fun O c c' Kc => ∃ x y, c = .dat (.str x) ∧ c' = .dat (.str y) ∧ Kc O (.dat (.bool (decide (x = y))))
def aNeS : AR2 := fun O c c' Kc => ∃ x y, c = .dat (.str x) ∧ c' = .dat (.str y) ∧ Kc O (.dat (.bool (!decide (x = y))))
theorem dec_str (x y : Str) : decide (V.str x = V.str y) = decide (x = y) := decide_eq_decide.mpr ⟨fun h => by injection h, fun h => congrArg V.str h⟩
theorem sr_eqS {K : PySem.W.Frag} : SR2 K rEq aEqS := fun O H Q Kc c c' v v' o r r' ⟨x, y, e, e', k⟩ q => by
  subst e e'
  rw [dq_str r, dq_str r']
  exact ⟨rfl, by rw [dec_str]; exact q O _ _ H (Fr.refl _ _) o (.dat (.bl _)) k⟩
theorem sr_neS {K : PySem.W.Frag} : SR2 K rNe aNeS := fun O H Q Kc c c' v v' o r r' ⟨x, y, e, e', k⟩ q => by
  subst e e'
  rw [dq_str r, dq_str r']
  exact ⟨rfl, by rw [dec_str]; exact q O _ _ H (Fr.refl _ _) o (.dat (.bl _)) k⟩
end Ab
namespace Ab
open PySem PySem.Spec PyProof.Rows L2 Vg
section
variable {X : Cx} {W : WX}
theorem de_fmtS {e : Expr} {a : AE} {pos : Pos} (h : DE X W e a) : DE X W (.FormattedValue e (-1) none pos) (aFmtS a) := by
  obtain ⟨t, p, s⟩ := h.ex
  exact ⟨_, pe_fmt p, sa_fmtS s⟩
theorem de_fmtI {e : Expr} {a : AE} {pos : Pos} (h : DE X W e a) : DE X W (.FormattedValue e (-1) none pos) (aFmtI a) := by
  obtain ⟨t, p, s⟩ := h.ex
  exact ⟨_, pe_fmt p, sa_fmtI s⟩
end
end Ab
namespace Ab
open PySem PySem.Spec PyProof.Rows L2 Vg
/-! ## defs with defaults -/
structure DefInD (K : PySem.W.Frag) (x : Str) (st : Stmt) (dvs : List V) : Prop where
  ex : ∃ (f : Addr) (oc : Value) (od an : Option Addr) (sl : Array (Option Value)) (dV kV dc pm cd ct : Value), PySem.W.nsIn K mainGlobals x = some (some (.ref f)) ∧
    K.lookup f = some ⟨oc, od, .func (PySem.W.fnOf x x (defArgs st) (defBody st) (defScope st) dV kV dc pm an cd ct), sl⟩ ∧
    PySem.W.codeIn K cd x = true ∧ PySem.W.keepIn K (.ref f) = true ∧ DflV K dV dvs
theorem DefInD.by {K : PySem.W.Frag} {x : Str} {st : Stmt} {dvs : List V} {f T : Addr} {oc : Value} {od an : Option Addr} {sl : Array (Option Value)} {kV dc pm cd ct : Value} {o : Obj} {its : List Value} {n : Nat} (a : PySem.W.nsIn K mainGlobals x = some (some (.ref f)))
    (l : K.lookup f = some ⟨oc, od, .func (PySem.W.fnOf x x (defArgs st) (defBody st) (defScope st) (.ref T) kV dc pm an cd ct), sl⟩) (c : PySem.W.codeIn K cd x = true) (k : PySem.W.keepIn K (.ref f) = true)
    (lT : K.lookup T = some o) (oT : o.data = .seq its.toArray n) (r : Vals dvs its) (ne : dvs ≠ []) : DefInD K x st dvs :=
  ⟨f, oc, od, an, sl, .ref T, kV, dc, pm, cd, ct, a, l, c, k, .inr ⟨ne, T, o, its, n, rfl, lT, oT, r⟩⟩
structure AtD (K : PySem.W.Frag) (mg : Str → Option Value) (x : Str) (st : Stmt) (dvs : List V) : Prop where
  ex : ∃ (f : Addr) (fd : FuncData), mg x = some (.ref f) ∧ FunD K x x (defArgs st) (defBody st) (defScope st) dvs [] f fd
theorem DefInD.at {K : PySem.W.Frag} {h : Heap} {mg : Str → Option Value} {x : Str} {st : Stmt} {dvs : List V} (D : DefInD K x st dvs) (X : K.In h) (G : h.Ns mainGlobals mg) : AtD K mg x st dvs := by
  obtain ⟨f, oc, od, an, sl, dV, kV, dc, pm, cd, ct, a, l, c, k, d⟩ := D.ex
  exact ⟨f, _, PySem.W.mg_of X G a, ⟨oc, od, dV, kV, dc, pm, an, cd, ct, sl, rfl, l, c, d, .inl rfl⟩, k⟩
/-- such a def, called with all of its arguments, or without the last one -/
structure FuD (P : Program) (w : World) (K : PySem.W.Frag) (mg : Str → Option Value) (base : Heap) (k : Nat) (x : Str) (ps : List Str) (dv : PyData) (af : AF) : Prop where
  ex : ∃ (f : Addr) (fd : FuncData) (d : Value), mg x = some (.ref f) ∧ PySem.W.keepIn K (.ref f) = true ∧ Binds K fd ps [] ∧ Binds K fd ps [d] ∧ (∃ v, L2.RelV v d ∧ ∀ ok H, Dq ok H v dv) ∧ FnG P w K mg base (L2.CX P w) k f fd ps (spG K af)
theorem fud_of {P : Program} {w : World} {K : PySem.W.Frag} {mg : Str → Option Value} {base : Heap} {k : Nat} {x : Str} {st : Stmt} {N ps : List Str} {v : V} {dv : PyData} {af : AF} (D : AtD K mg x st [v]) (S : FnScope N ps (defScope st)) (hv : ∀ ok H, Dq ok H v dv)
    (hb : ∀ (T : Addr) (kV doc pm : Value) (an : Option Addr) (cdv ct : Value) (us its : List Value), us.length = ps.length → its.length = 1 →
      ∃ k, bindArgs (PySem.W.fnOf x x (defArgs st) (defBody st) (defScope st) (.ref T) kV doc pm an cdv ct) ⟨us, []⟩ = seqItems? (.ref T) >>= k ∧ k (some its.toArray) = pure (ps.zip us))
    (hb1 : ∀ (T : Addr) (kV doc pm : Value) (an : Option Addr) (cdv ct : Value) (us its : List Value), us.length + 1 = ps.length → its.length = 1 →
      ∃ k, bindArgs (PySem.W.fnOf x x (defArgs st) (defBody st) (defScope st) (.ref T) kV doc pm an cdv ct) ⟨us, []⟩ = seqItems? (.ref T) >>= k ∧ k (some its.toArray) = pure (ps.zip (us ++ its)))
    (hp : 1 ≤ ps.length)
    (hl : ∀ O cs Xf Kc, af O cs Xf Kc → cs.length = ps.length)
    (body : ∀ (f : Addr) (cdv : Value) (A : Around) (outer : List Env) (s : Shared) (H : Hp) (E : XK),
      (cxOf (L2.CX P w) P w K mg base N x (defScope st) f cdv A outer s H E).A.guards = some [] →
      Room k (A.deeper (envOfC x (defScope st) s.heap.objs.size f cdv)) →
      ∃ a : AS, DSs (cxOf (L2.CX P w) P w K mg base N x (defScope st) f cdv A outer s H E) (fun cls d _ H => E cls d H) (defBody st) a ∧
        ∀ O cs Xf Kc, af O cs Xf Kc → a { nx := fun O' _ => Kc O' (.dat .none), rt := Kc } (fun O' _ y c => Xf O' y c) O (cs.map some ++ List.replicate (N.length - cs.length) none)) :
    FuD P w K mg base (k + 1) x ps dv af := by
  obtain ⟨f, fd, hm, F⟩ := D.ex
  obtain ⟨ds0, r0, b0⟩ := F.binds1 (ps := ps) ps.length 1 (by simp) (by simp) fun T kV doc pm an cdv ct us its h1 h2 => by
    obtain ⟨k, e1, e2⟩ := hb T kV doc pm an cdv ct us its h1 (by simpa using h2)
    refine ⟨k, e1, ?_⟩
    rw [e2]
    have : its.drop 1 = [] := by
      match its, h2 with
      | [_], _ => rfl
    rw [this, List.append_nil]
  obtain ⟨ds1, r1, b1⟩ := F.binds1 (ps := ps) (ps.length - 1) 0 (by simp) (by simp; omega) fun T kV doc pm an cdv ct us its h1 h2 => by
    obtain ⟨k, e1, e2⟩ := hb1 T kV doc pm an cdv ct us its (by omega) (by simpa using h2)
    exact ⟨k, e1, e2⟩
  have e0 : ds0 = [] := by
    cases r0
    rfl
  subst e0
  obtain ⟨d, rfl, rd⟩ : ∃ d, ds1 = [d] ∧ L2.RelV v d := by
    cases r1 with
    | cons a b => cases b; exact ⟨_, rfl, a⟩
  refine ⟨f, fd, d, hm, F.kp, b0, b1, ⟨v, rd, hv⟩, ?_⟩
  obtain ⟨oc, od, dV, kV, doc, pm, an, cdv, ct, osl, rfl, lk, hcd, _, _⟩ := F.ex
  refine fng_of lk hcd S (fun vs H Q E ⟨O, cs, Xf, Kc, o, r, h, _, _⟩ => r.len.trans (hl O cs Xf Kc h)) fun A outer s H vs Q E hg hr ⟨O, cs, Xf, Kc, o, r, h, q, x⟩ => ?_
  obtain ⟨a, ⟨t, p, sa⟩, k⟩ := body f cdv A outer s H E hg hr
  refine ⟨t, p, sa O _ _ H _ _ _ (start_ss o r) (k O cs Xf Kc h) ⟨fun O' ρ' σ' H' f S k' => ?_, q, fun _ _ _ _ _ _ z => z.elim, fun _ _ _ _ _ _ z => z.elim⟩ ?_⟩
  · exact q O' _ _ H' f S.o (.dat .non) k'
  · exact fun O' ρ' σ' y c v H' dd f S r hd hf z => x O' y c v H' dd f S.o r hd hf z
theorem FuD.fu {P : Program} {w : World} {K : PySem.W.Frag} {mg : Str → Option Value} {base : Heap} {k : Nat} {x : Str} {ps : List Str} {dv : PyData} {af : AF} (F : FuD P w K mg base k x ps dv af) : Fu P w K mg base k x ps af := by
  obtain ⟨f, fd, d, hm, hk, b0, b1, hv, F⟩ := F.ex
  exact ⟨f, fd, hm, hk, b0, F⟩
section
variable {X : Cx} {W : WX}
theorem de_callD0 {af : AF} {dv : PyData} {k : Nat} {ps : List Str} {x : Str} {e : Expr} {es : List Expr} {a : AA} {p pos : Pos} (F : FuD X.prog X.w X.K X.mg X.base k x ps dv af) (tk : Takes X W) (hgd : X.A.guards = some []) (hr : Room k X.A) (hg : Gl X x) (ha : DA X W (e :: es) a)
    (hdb : (x == ("__debug__" : Str)) = false := by decide) (he : starEach (e :: es) X.env = (false, eval e X.env) :: starEach es X.env := by rfl)
    (hpl : (backTo pos (starEach es X.env)).any (·.1) = false := by rfl) : DE X W (.Call (.Name x p) (e :: es) [] pos) (aCall af a) := de_call F.fu tk hgd hr hg ha hdb he hpl
def aCallD (dv : PyData) (af : AF) (a : AA) : AE := fun O ρ XX Kc => a O ρ XX fun O1 cs => af O1 (cs ++ [.dat dv]) (fun O' x c => XX O' ρ x c) Kc
theorem de_callD1 {af : AF} {dv : PyData} {k : Nat} {ps : List Str} {x : Str} {e : Expr} {es : List Expr} {a : AA} {p pos : Pos} (F : FuD X.prog X.w X.K X.mg X.base k x ps dv af) (tk : Takes X W) (hgd : X.A.guards = some []) (hr : Room k X.A) (hg : Gl X x) (ha : DA X W (e :: es) a)
    (hdb : (x == ("__debug__" : Str)) = false := by decide) (he : starEach (e :: es) X.env = (false, eval e X.env) :: starEach es X.env := by rfl)
    (hpl : (backTo pos (starEach es X.env)).any (·.1) = false := by rfl) : DE X W (.Call (.Name x p) (e :: es) [] pos) (aCallD dv af a) := by
  obtain ⟨f, fd, d, hm, hk, b0, b1, hv, F⟩ := F.ex
  obtain ⟨t, pa, s⟩ := ha.ex
  obtain ⟨v, rv, dq⟩ := hv
  refine ⟨fun σ H Q => t σ H fun vs H1 => spG X.K af (vs ++ [v]) H1 Q (WE W σ), ⟨fun pins s σ H Q I h => ?_⟩, fun O ρ σ H Q Kc XX S k q x => s O ρ σ H _ _ XX S k (fun O1 cs vs H1 f1 o1 r1 k1 => ?_) x⟩
  · refine wpAny_Call_Name_kw (ld_glob I hg hm ?_ hdb)
    refine PySem.W.callWith_K (h₀ := X.base) I.ok.mod.kin hk (thn (pa.run pos pins s σ H _ I h) fun us s1 ⟨vs, H1, I1, r, q⟩ => ⟨I1.kIn, ?_⟩) he hpl
    have both : Vals (vs ++ [v]) (us ++ [d]) := r.append (.cons rv .nil)
    have hl : (us ++ [d]).length = ps.length := both.length ▸ F.len _ _ _ _ q
    refine wpAny_call (codeAny_mono (F.run X.A X.stack s1 H1 ⟨us, []⟩ (us ++ [d]) (vs ++ [v]) Q (WE W σ) hgd hr I1.env0 (b1 s1 us I1.kIn hl) both q) fun r s' hq => ?_)
    match r, hq with
    | .error e, hq => exact passAt tk σ pins H1 s1 e s' I1 hq
    | .ok (.ret u), hq => exact I1.after hq
    | .ok .next, hq => exact False.elim hq
    | .ok .brk, hq => exact False.elim hq
    | .ok .cont, hq => exact False.elim hq
  · exact ⟨O1, cs ++ [.dat dv], _, Kc, o1, r1.app (.cons (.dat (dq _ _)) .nil), k1, q.go f1, fun O2 y c v H2 dd f2 o2 r2 hd hf hx => x O2 ρ σ y c v H2 dd (f1.trans f2) (S.go (f1.trans f2) o2) r2 hd hf hx⟩
end
/-! ## kinds -/
section
variable {O : Ob} {c : Cl} {n : String}
def kns : List String := ["NoneType", "bool", "int", "str", "list", "tuple", "dict"]
theorem tnD_mem (d : PyData) : tnD d ∈ kns := by
  cases d <;> simp [tnD, kns]
theorem Kn.mem (h : Kn O c n) : n ∈ kns := by
  cases h with
  | dat d => exact tnD_mem d
  | own m => simp [kns]
  | dct m => simp [kns]
  | lis cs => simp [kns]
  | tup cs => simp [kns]
  | con ds => simp [kns]
theorem kn_int (h : Kn O c n) : kitB n "int" = some (n == "int" || n == "bool") := (show ∀ n ∈ kns, kitB n "int" = some (n == "int" || n == "bool") by decide +kernel) n h.mem
theorem kn_bool (h : Kn O c n) : kitB n "bool" = some (n == "bool") := (show ∀ n ∈ kns, kitB n "bool" = some (n == "bool") by decide +kernel) n h.mem
theorem kn_str (h : Kn O c n) : kitB n "str" = some (n == "str") := (show ∀ n ∈ kns, kitB n "str" = some (n == "str") by decide +kernel) n h.mem
theorem kn_list (h : Kn O c n) : kitB n "list" = some (n == "list") := (show ∀ n ∈ kns, kitB n "list" = some (n == "list") by decide +kernel) n h.mem
theorem kn_tuple (h : Kn O c n) : kitB n "tuple" = some (n == "tuple") := (show ∀ n ∈ kns, kitB n "tuple" = some (n == "tuple") by decide +kernel) n h.mem
theorem kn_dict (h : Kn O c n) : kitB n "dict" = some (n == "dict") := (show ∀ n ∈ kns, kitB n "dict" = some (n == "dict") by decide +kernel) n h.mem
end
end Ab
namespace Ab
open PySem PySem.Spec PyProof.Rows L2 Vg
/-- a def that writes no list as a text -/
structure Fv (P : Program) (w : World) (K : PySem.W.Frag) (mg : Str → Option Value) (base : Heap) (k : Nat) (x : Str) (ps : List Str) (af : AF) : Prop where
  ex : Fx P w K mg base k x ps (spG K af)
theorem Fv.fu {P : Program} {w : World} {K : PySem.W.Frag} {mg : Str → Option Value} {base : Heap} {k : Nat} {x : Str} {ps : List Str} {af : AF} (F : Fv P w K mg base k x ps af) : Fu P w K mg base k x ps af := by
  obtain ⟨f, fd, hm, hk, b0, F⟩ := F.ex.ex
  exact ⟨f, fd, hm, hk, b0, .of F⟩
theorem fv_of {P : Program} {w : World} {K : PySem.W.Frag} {mg : Str → Option Value} {base : Heap} {k : Nat} {x : Str} {st : Stmt} {N ps : List Str} {af : AF} (D : At K mg x st) (S : FnScope N ps (defScope st))
    (hb : ∀ (kV doc pm : Value) (an : Option Addr) (cdv ct : Value) (us : List Value), us.length = ps.length →
      bindArgs (PySem.W.fnOf x x (defArgs st) (defBody st) (defScope st) .none kV doc pm an cdv ct) ⟨us, []⟩ = pure (ps.zip us))
    (hl : ∀ O cs Xf Kc, af O cs Xf Kc → cs.length = ps.length)
    (body : ∀ (f : Addr) (cdv : Value) (A : Around) (outer : List Env) (s : Shared) (H : Hp) (E : XK),
      Room k (A.deeper (envOfC x (defScope st) s.heap.objs.size f cdv)) →
      ∃ a : AS, DSs (cxOf (L2.CX P w) P w K mg base N x (defScope st) f cdv A outer s H E) (fun cls d _ H => E cls d H) (defBody st) a ∧
        ∀ O cs Xf Kc, af O cs Xf Kc → a { nx := fun O' _ => Kc O' (.dat .none), rt := Kc } (fun O' _ y c => Xf O' y c) O (cs.map some ++ List.replicate (N.length - cs.length) none)) :
    Fv P w K mg base (k + 1) x ps af := by
  refine ⟨D.fx S hb (fun vs H Q E ⟨O, cs, Xf, Kc, o, r, h, _, _⟩ => r.len.trans (hl O cs Xf Kc h)) fun f cdv A outer s H vs Q E hr ⟨O, cs, Xf, Kc, o, r, h, q, x⟩ => ?_⟩
  obtain ⟨a, ⟨t, p, sa⟩, k⟩ := body f cdv A outer s H E hr
  refine ⟨t, p, sa O _ _ H _ _ _ (start_ss o r) (k O cs Xf Kc h) ⟨fun O' ρ' σ' H' f S k' => ?_, q, fun _ _ _ _ _ _ z => z.elim, fun _ _ _ _ _ _ z => z.elim⟩ ?_⟩
  · exact q O' _ _ H' f S.o (.dat .non) k'
  · exact fun O' ρ' σ' y c v H' dd f S r hd hf z => x O' y c v H' dd f S.o r hd hf z
theorem de_callV {X : Cx} {W : WX} {af : AF} {k : Nat} {ps : List Str} {x : Str} {e : Expr} {es : List Expr} {a : AA} {p pos : Pos} (F : Fv X.prog X.w X.K X.mg X.base k x ps af) (tk : Takes X W) (hr : Room k X.A) (hg : Gl X x) (ha : DA X W (e :: es) a)
    (hdb : (x == ("__debug__" : Str)) = false := by decide) (he : starEach (e :: es) X.env = (false, eval e X.env) :: starEach es X.env := by rfl)
    (hpl : (backTo pos (starEach es X.env)).any (·.1) = false := by rfl) : DE X W (.Call (.Name x p) (e :: es) [] pos) (aCall af a) := by
  obtain ⟨t, pa, s⟩ := ha.ex
  exact ⟨tCallS (spG X.K af) (WE W) t, pe_fxS F.ex tk hr hg pa hdb he hpl, sa_call s⟩
end Ab
namespace Ab
open PySem PySem.Spec PyProof.Rows L2 Vg
/-! ## division by a number of either sign -/
def CDivS (i j : Int) : Prop := j ≠ 0 ∧ j.natAbs < 2 ^ 9000
theorem op_fdivS {X : Cx} : OpR X (binaryOp .FloorDiv) (rI CDivS fun i j => .int (i.fdiv j)) := opI fun i j _ _ _ _ _ hc q => floordiv_int hc.1 q (.inl (PyProof.noPylong_of_log2 (by
  have h := PySem.Flt.log2_lt_of (show 0 < 9000 by decide) hc.2
  exact Nat.lt_of_lt_of_le h (by decide))))
theorem sr_fdivS {K : PySem.W.Frag} : SR2 K (rI CDivS fun i j => .int (i.fdiv j)) (aI CDivS fun i j => .int (i.fdiv j)) := sr_I fun _ _ _ _ => .int _
/-! ## what the small defs tell -/
def numC : Cl → Bool
  | .dat (.int _) => true
  | _ => false
def pairC : Cl → Bool
  | .dat (.tuple ds) => decide (ds.length = 2)
  | .tup cs => decide (cs.length = 2)
  | .con (.tuple ds) => decide (ds.length = 2)
  | _ => false
def fracC : Cl → Bool
  | .dat d => fracD d
  | _ => false
/-- a thing of a kind, no tuple of owned things -/
def Pl (O : Ob) (c : Cl) : Prop := (∃ n, Kn O c n) ∧ (∀ cs : List Cl, c ≠ .tup cs) ∧ ∀ d : PyData, c ≠ .con d
theorem pl_dat (O : Ob) (d : PyData) : Pl O (.dat d) := ⟨⟨_, .dat d⟩, (fun _ h => nomatch h), fun _ h => nomatch h⟩
def afNum : AF := fun O cs _ Kc => match cs with
  | [c] => (∃ n, Kn O c n) ∧ Kc O (.dat (.bool (numC c)))
  | _ => False
def afPair : AF := fun O cs _ Kc => match cs with
  | [c] => (∃ n, Kn O c n) ∧ Kc O (.dat (.bool (pairC c)))
  | _ => False
def afFrac : AF := fun O cs _ Kc => match cs with
  | [c] => Pl O c ∧ Kc O (.dat (.bool (fracC c)))
  | _ => False
def afNeed : AF := fun O cs Xf Kc => match cs with
  | [c] => ∃ es : List Cl, ElsT c es ∧ (∀ e ∈ es, Pl O e) ∧ (((∀ e ∈ es, fracC e = true) ∧ Kc O (.dat .none)) ∨
      ∃ (i : Nat) (e : Cl), es[i]? = some e ∧ fracC e = false ∧ (∀ (j : Nat) (e' : Cl), j < i → es[j]? = some e' → fracC e' = true) ∧ Xf O "NoFraction" e)
  | _ => False
theorem numC_kn {O : Ob} {c : Cl} {n : String} (h : Kn O c n) : numC c = ((n == "int" || n == "bool") && !(n == "bool")) := by
  cases h with
  | dat d => cases d <;> rfl
  | own m => rfl
  | dct m => rfl
  | lis cs => rfl
  | tup cs => rfl
  | con ds => rfl
theorem pairC_kn {O : Ob} {c : Cl} {n : String} (h : Kn O c n) (e : (n == "tuple") = false) : pairC c = false := by
  cases h with
  | dat d => cases d <;> first | rfl | cases e
  | own m => rfl
  | dct m => rfl
  | lis cs => rfl
  | tup cs => cases e
  | con ds => cases e
theorem tup_kn {O : Ob} {c : Cl} {n : String} (h : Kn O c n) (e : (n == "tuple") = true) : ∃ es, ElsT c es ∧ pairC c = decide (es.length = 2) := by
  cases h with
  | dat d =>
    cases d <;> first | cases e | skip
    rename_i ds
    exact ⟨_, .dat ds, by simp [pairC]⟩
  | own m => cases e
  | dct m => cases e
  | lis cs => cases e
  | tup cs => exact ⟨_, .tup cs, rfl⟩
  | con ds => exact ⟨_, .con ds, by simp [pairC]⟩
/-- a pair that may be handed in -/
theorem pair_of {O : Ob} {c : Cl} (p : Pl O c) (h : pairC c = true) : ∃ d e, c = .dat (.tuple [d, e]) := by
  cases c with
  | dat d =>
    cases d <;> first | cases h | skip
    rename_i ds
    have hl : ds.length = 2 := of_decide_eq_true h
    match ds, hl with
    | [d, e], _ => exact ⟨d, e, rfl⟩
  | tup cs => exact absurd rfl (p.2.1 cs)
  | «at» a => cases h
  | raw v => cases h
  | scr ns => cases h
  | lis cs => cases h
  | exc a dd f c => cases h
  | con d => exact absurd rfl (p.2.2 d)
theorem frac_nopairC {O : Ob} {c : Cl} (p : Pl O c) (h : pairC c = false) : fracC c = false := by
  cases c with
  | dat d =>
    refine frac_nopair ?_
    cases d <;> first | rfl | exact h
  | _ => rfl
theorem frac_pos {d : PyData} (h : fracD d = true) : ∃ a b, d = frD a b ∧ 1 ≤ b ∧ gcdI a b = 1 := by
  unfold fracD at h
  split at h
  · rename_i a b
    have h2 := Bool.and_eq_true_iff.mp h
    exact ⟨a, b, rfl, of_decide_eq_true h2.1, of_decide_eq_true h2.2⟩
  · cases h
end Ab
namespace Ab
open PySem PySem.Spec PyProof.Rows L2 Vg
theorem eqv_int (i j : Int) : PyData.eqv (.int i) (.int j) = decide (i = j) := by
  show (i == j) = _
  rw [Bool.beq_eq_decide_eq]
theorem eqv_nat (n m : Nat) : PyData.eqv (.int n) (.int m) = decide (n = m) := by
  rw [eqv_int]
  exact decide_eq_decide.mpr ⟨fun h => by exact_mod_cast h, fun h => by rw [h]⟩
end Ab
namespace Ab
open PySem PySem.Spec PyProof.Rows L2 Vg
/-! ## a fraction in its lowest terms -/
def gsI (a b : Int) : Int := if b < 0 then -gcdI a b else gcdI a b
def lowT (a b : Int) : Int := a.fdiv (gsI a b)
def lowB (a b : Int) : Int := b.fdiv (gsI a b)
def lowD (a b : Int) : PyData := frD (lowT a b) (lowB a b)
theorem gcdI_dvd (a b : Int) : gcdI a b ∣ a ∧ gcdI a b ∣ b := ⟨Int.ofNat_dvd_left.mpr (Nat.gcd_dvd_left _ _), Int.ofNat_dvd_left.mpr (Nat.gcd_dvd_right _ _)⟩
theorem gcdI_pos {a b : Int} (h : b ≠ 0) : 1 ≤ gcdI a b := by
  unfold gcdI
  have := Nat.gcd_pos_of_pos_right a.natAbs (show 0 < b.natAbs by omega)
  omega
theorem gs_ne {a b : Int} (h : b ≠ 0) : gsI a b ≠ 0 := by
  have := gcdI_pos (a := a) h
  unfold gsI
  split <;> omega
theorem gs_dvd (a b : Int) : gsI a b ∣ a ∧ gsI a b ∣ b := by
  have h := gcdI_dvd a b
  unfold gsI
  split
  · exact ⟨Int.neg_dvd.mpr h.1, Int.neg_dvd.mpr h.2⟩
  · exact h
theorem low_mul {a b : Int} (h : b ≠ 0) : lowT a b * gsI a b = a ∧ lowB a b * gsI a b = b := by
  have d := gs_dvd a b
  exact ⟨Int.fdiv_mul_cancel d.1, Int.fdiv_mul_cancel d.2⟩
theorem low_pos {a b : Int} (h : b ≠ 0) : 1 ≤ lowB a b := by
  have m := (low_mul (a := a) h).2
  have g := gcdI_pos (a := a) h
  have gn : gsI a b = if b < 0 then -gcdI a b else gcdI a b := rfl
  refine Int.not_lt.mp fun z => ?_
  by_cases hb : b < 0
  · rw [if_pos hb] at gn
    have : 0 ≤ lowB a b * gsI a b := by
      rw [gn]
      exact Int.mul_nonneg_of_nonpos_of_nonpos (by omega) (by omega)
    omega
  · rw [if_neg hb] at gn
    have : lowB a b * gsI a b ≤ 0 := by
      rw [gn]
      exact Int.mul_nonpos_of_nonpos_of_nonneg (by omega) (by omega)
    omega
theorem low_gcd {a b : Int} (h : b ≠ 0) : gcdI (lowT a b) (lowB a b) = 1 := by
  have m := low_mul (a := a) h
  have g := gcdI_pos (a := a) h
  have gn : (gsI a b).natAbs = Nat.gcd a.natAbs b.natAbs := by
    unfold gsI
    split
    · rw [Int.natAbs_neg]; rfl
    · rfl
  have e1 : a.natAbs = (lowT a b).natAbs * Nat.gcd a.natAbs b.natAbs := by rw [← gn, ← Int.natAbs_mul, m.1]
  have e2 : b.natAbs = (lowB a b).natAbs * Nat.gcd a.natAbs b.natAbs := by rw [← gn, ← Int.natAbs_mul, m.2]
  have gp : 0 < Nat.gcd a.natAbs b.natAbs := Nat.gcd_pos_of_pos_right _ (by omega)
  unfold gcdI
  have e3 : Nat.gcd a.natAbs b.natAbs = Nat.gcd (lowT a b).natAbs (lowB a b).natAbs * Nat.gcd a.natAbs b.natAbs := by
    rw [← Nat.gcd_mul_right, ← e1, ← e2]
  have e4 : Nat.gcd (lowT a b).natAbs (lowB a b).natAbs = 1 := by
    have h5 : 1 * Nat.gcd a.natAbs b.natAbs = Nat.gcd (lowT a b).natAbs (lowB a b).natAbs * Nat.gcd a.natAbs b.natAbs := by omega
    exact (Nat.eq_of_mul_eq_mul_right gp h5).symm
  rw [e4]
  rfl
theorem low_eq {a b : Int} (h : b ≠ 0) : lowT a b * b = lowB a b * a := by
  obtain ⟨m1, m2⟩ := low_mul (a := a) h
  generalize lowT a b = x at *
  generalize lowB a b = y at *
  generalize gsI a b = g at *
  rw [← m1, ← m2]
  grind
/-- there is one fraction in lowest terms of a value -/
theorem low_one {a b c d : Int} (hb : 1 ≤ b) (hd : 1 ≤ d) (hg : gcdI a b = 1) (hk : gcdI c d = 1) (e : a * d = b * c) : a = c ∧ b = d := by
  have n1 : Nat.gcd a.natAbs b.natAbs = 1 := by unfold gcdI at hg; omega
  have n2 : Nat.gcd c.natAbs d.natAbs = 1 := by unfold gcdI at hk; omega
  have en : a.natAbs * d.natAbs = b.natAbs * c.natAbs := by rw [← Int.natAbs_mul, ← Int.natAbs_mul, e]
  have h1 : b.natAbs ∣ d.natAbs := (Nat.Coprime.dvd_of_dvd_mul_left (show Nat.Coprime b.natAbs a.natAbs by rw [Nat.coprime_comm]; exact n1) ⟨_, en⟩)
  have h2 : d.natAbs ∣ b.natAbs := (Nat.Coprime.dvd_of_dvd_mul_right (show Nat.Coprime d.natAbs c.natAbs by rw [Nat.coprime_comm]; exact n2) ⟨a.natAbs, by rw [← en, Nat.mul_comm]⟩)
  have h3 := Nat.dvd_antisymm h1 h2
  have h4 : b = d := by omega
  refine ⟨?_, h4⟩
  subst h4
  exact Int.eq_of_mul_eq_mul_left (show b ≠ 0 by omega) (by rw [← e, Int.mul_comm])
theorem gs_le {a b : Int} {n : Nat} (hb : b.natAbs < 2 ^ n) (h : b ≠ 0) : (gsI a b).natAbs < 2 ^ n := by
  have gn : (gsI a b).natAbs = Nat.gcd a.natAbs b.natAbs := by
    unfold gsI
    split
    · rw [Int.natAbs_neg]; rfl
    · rfl
  rw [gn]
  exact Nat.lt_of_le_of_lt (Nat.le_of_dvd (by omega) (Nat.gcd_dvd_right _ _)) hb
theorem lowT_le {a b : Int} (h : b ≠ 0) : (lowT a b).natAbs ≤ a.natAbs := by
  obtain ⟨m1, _⟩ := low_mul (a := a) h
  have g := gs_ne (a := a) h
  have : a.natAbs = (lowT a b).natAbs * (gsI a b).natAbs := by rw [← Int.natAbs_mul, m1]
  have := Nat.le_mul_of_pos_right (lowT a b).natAbs (show 0 < (gsI a b).natAbs by omega)
  omega
theorem lowB_le {a b : Int} (h : b ≠ 0) : (lowB a b).natAbs ≤ b.natAbs := by
  obtain ⟨_, m1⟩ := low_mul (a := a) h
  have g := gs_ne (a := a) h
  have : b.natAbs = (lowB a b).natAbs * (gsI a b).natAbs := by rw [← Int.natAbs_mul, m1]
  have := Nat.le_mul_of_pos_right (lowB a b).natAbs (show 0 < (gsI a b).natAbs by omega)
  omega
/-! ## what the reckoning defs tell -/
structure Fz (B : Nat) (a b : Int) : Prop where
  b1 : 1 ≤ b
  g : gcdI a b = 1
  ta : a.natAbs < 2 ^ B
  tb : b.natAbs < 2 ^ B
theorem Fz.frac {B : Nat} {a b : Int} (h : Fz B a b) : fracC (.dat (frD a b)) = true := fr_true h.b1 h.g
theorem Fz.low {B : Nat} {a b : Int} (h : b ≠ 0) (ha : a.natAbs < 2 ^ B) (hb : b.natAbs < 2 ^ B) : Fz B (lowT a b) (lowB a b) :=
  ⟨low_pos h, low_gcd h, Nat.lt_of_le_of_lt (lowT_le h) ha, Nat.lt_of_le_of_lt (lowB_le h) hb⟩
theorem pl_fr (O : Ob) (a b : Int) : Pl O (.dat (frD a b)) := pl_dat _ _
def afLow : AF := fun O cs Xf Kc => match cs with
  | [c, d] => Pl O c ∧ Pl O d ∧ ((numC c = false ∧ Xf O "NoNumber" c) ∨ (numC c = true ∧ numC d = false ∧ Xf O "NoNumber" d) ∨
      ∃ a b : Int, c = .dat (.int a) ∧ d = .dat (.int b) ∧ b.natAbs < 2 ^ 9000 ∧ ((b = 0 ∧ Xf O "Nought" c) ∨ (b ≠ 0 ∧ Kc O (.dat (lowD a b)))))
  | _ => False
/-- of two fractions -/
def afBin (g : Int → Int → Int → Int → Option PyData) : AF := fun O cs Xf Kc => match cs with
  | [c, d] => Pl O c ∧ Pl O d ∧ ((fracC c = false ∧ Xf O "NoFraction" c) ∨ (fracC c = true ∧ fracC d = false ∧ Xf O "NoFraction" d) ∨
      ∃ a b e f : Int, c = .dat (frD a b) ∧ d = .dat (frD e f) ∧ Fz 4000 a b ∧ Fz 4000 e f ∧ ((∃ r, g a b e f = some r ∧ Kc O (.dat r)) ∨ (g a b e f = none ∧ Xf O "Nought" c)))
  | _ => False
def gPlus (a b e f : Int) : Option PyData := some (lowD (a * f + e * b) (b * f))
def gMinus (a b e f : Int) : Option PyData := some (lowD (a * f - e * b) (b * f))
def gTimes (a b e f : Int) : Option PyData := some (lowD (a * e) (b * f))
def gOver (a b e f : Int) : Option PyData := if e = 0 then none else some (lowD (a * f) (b * e))
def gSign (a b e f : Int) : Option PyData := some (.int (if a * f = e * b then 0 else if a * f < e * b then -1 else 1))
theorem elsT_tupC' (cs : List Cl) : ElsT (tupC cs) cs := by
  unfold tupC
  split
  · rename_i ds e
    have e' := allD_eq e
    subst e'
    exact .dat ds
  · exact .tup cs
/-- what needing two fractions asks -/
theorem elsT_slR {c : Cl} {cs : List Cl} {lo hi : Option Int} (h : ElsT c cs) : ElsT (slR c cs lo hi) (cutD cs lo hi) := by
  cases h with
  | dat ds => exact elsT_tupC' _
  | tup cs => exact elsT_tupC' _
  | con ds =>
    show ElsT (if _ then _ else _) _
    by_cases e : HT.sIx (ds.map conC).length 0 lo = 0 ∧ HT.sIx (ds.map conC).length (ds.map conC).length hi = (ds.map conC).length
    · rw [if_pos e, cut_all e]
      exact .con ds
    · rw [if_neg e]
      exact elsT_tupC' _
theorem need2 {O : Ob} {c d : Cl} {Xf : Ob → Str → Cl → Prop} {Kc : KC} (hc : Pl O c) (hd : Pl O d)
    (h : (fracC c = false ∧ Xf O "NoFraction" c) ∨ (fracC c = true ∧ fracC d = false ∧ Xf O "NoFraction" d) ∨ (fracC c = true ∧ fracC d = true ∧ Kc O (.dat .none))) : afNeed O [tupC [c, d]] Xf Kc := by
  refine ⟨[c, d], elsT_tupC' _, fun e he => ?_, ?_⟩
  · simp only [List.mem_cons, List.not_mem_nil, or_false] at he
    rcases he with rfl | rfl
    · exact hc
    · exact hd
  · rcases h with ⟨h1, k⟩ | ⟨h1, h2, k⟩ | ⟨h1, h2, k⟩
    · exact .inr ⟨0, c, rfl, h1, fun j e hj => by omega, k⟩
    · refine .inr ⟨1, d, rfl, h2, fun j e hj he => ?_, k⟩
      have : j = 0 := by omega
      subst this
      cases he
      exact h1
    · refine .inl ⟨fun e he => ?_, k⟩
      simp only [List.mem_cons, List.not_mem_nil, or_false] at he
      rcases he with rfl | rfl
      · exact h1
      · exact h2
theorem need1 {O : Ob} {c : Cl} {Xf : Ob → Str → Cl → Prop} {Kc : KC} (hc : Pl O c) (h : (fracC c = false ∧ Xf O "NoFraction" c) ∨ (fracC c = true ∧ Kc O (.dat .none))) : afNeed O [tupC [c]] Xf Kc := by
  refine ⟨[c], elsT_tupC' _, fun e he => ?_, ?_⟩
  · simp only [List.mem_cons, List.not_mem_nil, or_false] at he
    subst he
    exact hc
  · rcases h with ⟨h1, k⟩ | ⟨h1, k⟩
    · exact .inr ⟨0, c, rfl, h1, fun j e hj => by omega, k⟩
    · refine .inl ⟨fun e he => ?_, k⟩
      simp only [List.mem_cons, List.not_mem_nil, or_false] at he
      subst he
      exact h1
theorem mulC {i j : Int} {a b : Nat} (ha : i.natAbs < 2 ^ a) (hb : j.natAbs < 2 ^ b) (h0 : 0 < a := by decide) (h1 : 0 < b := by decide) (h : a + b ≤ 1000000 := by decide) : CMulW i j := wide_mul ha hb h0 h1 h
theorem addB {i j : Int} {n : Nat} (ha : i.natAbs < 2 ^ n) (hb : j.natAbs < 2 ^ n) : (i + j).natAbs < 2 ^ (n + 1) := by
  have := Int.natAbs_add_le i j
  rw [Nat.pow_succ]
  omega
theorem subB {i j : Int} {n : Nat} (ha : i.natAbs < 2 ^ n) (hb : j.natAbs < 2 ^ n) : (i - j).natAbs < 2 ^ (n + 1) := by
  have := Int.natAbs_sub_le i j
  rw [Nat.pow_succ]
  omega
theorem upB {i : Int} {n m : Nat} (h : i.natAbs < 2 ^ n) (k : n ≤ m) : i.natAbs < 2 ^ m := Nat.lt_of_lt_of_le h (Nat.pow_le_pow_right (by decide) k)
/-! ## == against the list of nothing -/
section
variable {X : Cx} {K : PySem.W.Frag}
def rEqLen (K : PySem.W.Frag) : R2 := fun x y H Q => ∃ a b xs ys, x = .ref a ∧ y = .ref b ∧ SqL K H a xs ∧ SqL K H b ys ∧ ((xs.length ≠ ys.length ∧ Q (.bl false) H) ∨ (xs = [] ∧ ys = [] ∧ Q (.bl true) H))
theorem op_eqLen (hu : X.A.units + 64 < cLine) : OpR X (compareOp .Eq) (rEqLen X.K) := by
  intro pins s σ H x y v u Q I rx ry h
  obtain ⟨a, b, xs, ys, rfl, rfl, ha, hb, h⟩ := h
  rcases h with ⟨hl, q⟩ | ⟨e1, e2, q⟩
  · cases rx
    cases ry
    obtain ⟨its, r1, l1, _⟩ := I.list ha
    obtain ⟨jts, r2, l2, _⟩ := I.list hb
    refine PySem.SeqAt.eq_list_lengthsAt l1.isList l2.isList ?_ (by omega) ⟨.bl false, H, I, rfl, q⟩
    rw [bne_iff_ne]
    have e1 := r1.length
    have e2 := r2.length
    simp only [List.size_toArray]
    omega
  · subst e1 e2
    exact op_eqD hu pins s σ H _ _ v u Q I rx ry ⟨.list [], .list [], .lst ha .nil, .lst hb .nil, by decide +kernel, by decide +kernel, q⟩
def aEqNil : AR2 := fun O c c' Kc => ∃ cs, Els O c cs ∧ c' = .dat (.list []) ∧ Kc O (.dat (.bool cs.isEmpty))
theorem sr_eqNil : SR2 K (rEqLen K) aEqNil := fun O H Q Kc c c' v v' o r r' ⟨cs, h, e, k⟩ q => by
  subst e
  obtain ⟨a, xs, rfl, ha, rs⟩ := h.get o r
  obtain ⟨b, ys, rfl, hb, rs2⟩ := (Els.dat (O := O) []).get o r'
  have ey : ys = [] := by cases rs2; rfl
  subst ey
  refine ⟨a, b, xs, [], rfl, rfl, SqL.of ha, SqL.of hb, ?_⟩
  have k' := q O _ _ H (Fr.refl _ _) o (.dat (.bl _)) k
  cases rs with
  | nil => exact .inr ⟨rfl, rfl, k'⟩
  | cons h r => exact .inl ⟨by simp, k'⟩
end
end Ab
namespace Ab
open PySem PySem.Spec PyProof.Rows L2 Vg
theorem low_is {x y a b : Int} (h : y ≠ 0) (hb : 1 ≤ b) (hg : gcdI a b = 1) (e : x * b = y * a) : lowD x y = frD a b := by
  have l := low_eq (a := x) h
  have k := low_one (low_pos (a := x) h) hb (low_gcd (a := x) h) hg (by
    generalize lowT x y = p at *
    generalize lowB x y = q at *
    refine Int.eq_of_mul_eq_mul_right h ?_
    have e1 : p * b * y = b * (p * y) := by grind
    have e2 : b * (q * x) = q * (x * b) := by grind
    have e3 : q * (y * a) = q * a * y := by grind
    rw [e1, l, e2, e, e3])
  unfold lowD
  rw [k.1, k.2]
end Ab
namespace Ab
open PySem PySem.Spec PyProof.Rows L2 Vg
theorem Fz.up {n m : Nat} {a b : Int} (h : Fz n a b) (k : n ≤ m) : Fz m a b := ⟨h.b1, h.g, upB h.ta k, upB h.tb k⟩
theorem str_assoc (x y z : Str) : (x ++ y) ++ z = x ++ (y ++ z) := by
  cases x; cases y; cases z
  exact congrArg (fun c => (⟨c⟩ : Str)) Array.append_assoc
theorem str_empty_app (x : Str) : Str.empty ++ x = x := by
  cases x
  exact congrArg (fun c => (⟨c⟩ : Str)) Array.empty_append
theorem str_app_empty (x : Str) : x ++ ("" : Str) = x := by
  cases x
  exact congrArg (fun c => (⟨c⟩ : Str)) Array.append_empty
end Ab
namespace Ab
open PySem PySem.Spec PyProof.Rows L2 Vg
structure TxB (e : PyData) : Prop where
  s : e.showable = true
  d : e.depth ≤ 50
  l : e.shown.length ≤ sizeLine
def txB (e : PyData) : Bool := e.showable && decide (e.depth ≤ 50) && decide (e.shown.length ≤ sizeLine)
theorem TxB.by {e : PyData} (h : txB e = true) : TxB e := by
  unfold txB at h
  simp only [Bool.and_eq_true, decide_eq_true_eq] at h
  exact ⟨h.1.1, h.1.2, h.2⟩
theorem eqv_str (x y : Str) : PyData.eqv (.str x) (.str y) = (x == y) := rfl
theorem eqv_self (x : Str) : PyData.eqv (.str x) (.str x) = true := by
  rw [eqv_str]
  exact beq_self_eq_true x
abbrev trD : Cl := .dat (.bool true)
/-- the very thing, into which something is put -/
def afVery : AF := fun O cs _ Kc => match cs with
  | [c, d] => c = d ∧ ((∃ e : PyData, d = .dat e ∧ (∀ x, e ≠ .list x) ∧ (∀ x, e ≠ .dict x) ∧ e.hasDict = false ∧ TxB e ∧ Kc O trD) ∨
      (∃ (a : Addr) (es : List PyData) (f : Ow → Ob), d = .at a ∧ Lo O a (.lst (es.map .dat)) f ∧ es.length ≤ 1000 ∧ PyData.hasDict (.list (es ++ [PyData.str "more"])) = false ∧ TxB (.list (es ++ [PyData.str "more"])) ∧ Kc (f (.lst ((es ++ [PyData.str "more"]).map .dat))) trD) ∨
      (∃ (a : Addr) (es : List (Key × Cl)) (ds : List PyData) (f : Ow → Ob), d = .at a ∧ Lo O a (.dct es) f ∧ es.length ≤ 900 ∧ (putC es (.inr "more" : Key) (Cl.dat (.int 1))).map (·.2) = ds.map .dat ∧ ds.all flatD = true ∧
        TxB (.dict (((putC es (.inr "more" : Key) (Cl.dat (.int 1))).map fun e => kD e.1).zip ds)) ∧ Kc (f (.dct (putC es (.inr "more" : Key) (Cl.dat (.int 1))))) trD))
  | _ => False
theorem shaped_int (x : Int) : SeqAt.shaped (.int x) = true := by simp [SeqAt.shaped, PyData.canLay0, PyData.depth]
/-- one of the things of other kinds, and what becomes of it -/
def oddOk : PyData → Bool
  | .list ds => !PyData.hasDict (.list (ds ++ [PyData.str "more"])) && txB (.list (ds ++ [PyData.str "more"])) && decide (ds.length ≤ 900)
  | .dict kvs => (kvs.map (·.2)).all flatD && decide (kvs.length ≤ 900) && txB (.dict (kvs ++ [(PyData.str "more", PyData.int 1)])) && kvs.all fun kv => match kv.1 with
    | .int _ => true
    | .str z => !decide (z = "more")
    | _ => false
  | d => !d.hasDict && txB d
theorem odd_very {O : Ob} {d : PyData} {c : Cl} {G : Ob} {Xf : Ob → Str → Cl → Prop} {Kc : KC} (h : Odd d c G) (ok : oddOk d = true) (k : ∀ G', Kc (G' ++ O) trD) : afVery (G ++ O) [c, c] Xf Kc := by
  refine ⟨rfl, ?_⟩
  cases h with
  | imm h1 h2 =>
    have ok' : (!d.hasDict && txB d) = true := by
      cases d <;> first | exact ok | exact absurd rfl (h1 _) | exact absurd rfl (h2 _)
    have z := Bool.and_eq_true_iff.mp ok'
    exact .inl ⟨d, rfl, h1, h2, by simpa using z.1, .by z.2, k []⟩
  | @lst a ds =>
    have ok' : ((!PyData.hasDict (.list (ds ++ [PyData.str "more"])) && txB (.list (ds ++ [PyData.str "more"]))) && decide (ds.length ≤ 900)) = true := ok
    have z := Bool.and_eq_true_iff.mp ok'
    have z2 := Bool.and_eq_true_iff.mp z.1
    have z3 := of_decide_eq_true z.2
    exact .inr (.inl ⟨a, ds, _, rfl, .here, by omega, by simpa using z2.1, .by z2.2, k [_]⟩)
  | @dct a kvs es hk hc =>
    have ok' : ((((kvs.map (·.2)).all flatD && decide (kvs.length ≤ 900)) && txB (.dict (kvs ++ [(PyData.str "more", PyData.int 1)]))) && kvs.all fun kv => match kv.1 with
      | .int _ => true
      | .str z => !decide (z = "more")
      | _ => false) = true := ok
    have z := Bool.and_eq_true_iff.mp ok'
    have z2 := Bool.and_eq_true_iff.mp z.1
    have z3 := Bool.and_eq_true_iff.mp z2.1
    have z4 := of_decide_eq_true z3.2
    have len : es.length = kvs.length := by
      have := congrArg List.length hk
      simpa using this
    have nk : (es.any fun kv => decide (kv.1 = (.inr "more" : Key))) = false := by
      rw [List.any_eq_false]
      intro e he hd
      have ed := of_decide_eq_true hd
      have m : kD e.1 ∈ kvs.map (·.1) := hk ▸ List.mem_map_of_mem (f := fun e : Key × Cl => kD e.1) he
      obtain ⟨kv, hkv, e2⟩ := List.mem_map.mp m
      have q := (List.all_eq_true.mp z.2) kv hkv
      rw [e2, ed] at q
      simp [kD] at q
    have ep : putC es (.inr "more" : Key) (.dat (.int 1)) = es ++ [((.inr "more" : Key), Cl.dat (.int 1))] := by
      unfold putC
      rw [nk, if_neg Bool.false_ne_true]
    refine .inr (.inr ⟨a, es, kvs.map (·.2) ++ [.int 1], _, rfl, .here, by omega, ?_, ?_, ?_, k [_]⟩)
    · rw [ep, List.map_append, hc, List.map_append]
      rfl
    · rw [List.all_append, z3.1]
      rfl
    · rw [ep, List.map_append, hk]
      have ez : (kvs.map (·.1) ++ [kD (.inr "more")]).zip (kvs.map (·.2) ++ [PyData.int 1]) = kvs ++ [(PyData.str "more", PyData.int 1)] := by
        rw [List.zip_append (by simp)]
        congr 1
        exact (pairs_eq (by rw [List.map_fst_zip (by simp)]) (by rw [List.map_snd_zip (by simp)]))
      show TxB (.dict ((kvs.map (·.1) ++ [kD (.inr "more")]).zip (kvs.map (·.2) ++ [PyData.int 1])))
      rw [ez]
      exact .by z2.2
end Ab
namespace Ab
open PySem PySem.Spec PyProof.Rows L2 Vg
/-! ## data whose text is in bounds, part by part -/
structure Tx1 (w dp : Nat) (d : PyData) : Prop where
  s : d.showable = true
  dp : d.depth ≤ dp
  w : d.weight ≤ w
  l : d.leavesShort 1921 = true
structure TxL (w dp : Nat) (ds : List PyData) : Prop where
  s : PyData.showableAll ds = true
  dp : PyData.depthAll ds ≤ dp
  w : PyData.weightAll ds ≤ w
  l : PyData.leavesShortAll 1921 ds = true
theorem log_lt {n k : Nat} (h : n < 2 ^ k) (hk : 0 < k) : n.log2 < k := by
  by_cases h0 : n = 0
  · subst h0
    exact hk
  · exact (Nat.log2_lt h0).mpr h
theorem tx_int {i : Int} {k : Nat} (h : i.natAbs < 2 ^ k) (dp : Nat) (hk : 0 < k := by decide) (hk2 : k ≤ 1920 := by decide) : Tx1 k dp (.int i) := by
  have hl := log_lt h hk
  have hl2 : i.natAbs.log2 < 1920 := by omega
  refine ⟨?_, ?_, ?_, ?_⟩
  · simp only [PyData.showable, decide_eq_true_eq]; exact hl2
  · simp [PyData.depth]
  · simp only [PyData.weight]
    split <;> omega
  · have := PySem.int_text_length_le (k := 1920) (by decide) hl2
    simp only [PyData.leavesShort, PyData.shown]
    refine decide_eq_true ?_
    rw [PySem.ofString_length]
    exact this
theorem tx_str (x : Str) (dp : Nat) (h : (PyData.str x).leavesShort 1921 = true := by decide +kernel) : Tx1 x.cps.size dp (.str x) :=
  ⟨by simp [PyData.showable], by simp [PyData.depth], by simp [PyData.weight], h⟩
theorem tx_bool (b : Bool) (dp : Nat) : Tx1 0 dp (.bool b) :=
  ⟨by simp [PyData.showable], by simp [PyData.depth], by simp [PyData.weight], by simp [PyData.leavesShort]⟩
theorem tx_non (dp : Nat) : Tx1 0 dp .none :=
  ⟨by simp [PyData.showable], by simp [PyData.depth], by simp [PyData.weight], by simp [PyData.leavesShort]⟩
theorem txl_nil (w dp : Nat) : TxL w dp [] := ⟨rfl, by simp [PyData.depthAll], by simp [PyData.weightAll], by simp [PyData.leavesShortAll]⟩
theorem txl_cons {w w' dp : Nat} {d : PyData} {ds : List PyData} (h : Tx1 w dp d) (k : TxL w' dp ds) : TxL (w + w' + 1) dp (d :: ds) := by
  refine ⟨?_, ?_, ?_, ?_⟩
  · simp only [PyData.showableAll, h.s, k.s, Bool.and_self]
  · have := h.dp
    have := k.dp
    simp only [PyData.depthAll]
    omega
  · have := h.w
    have := k.w
    simp only [PyData.weightAll]
    omega
  · simp only [PyData.leavesShortAll, Bool.and_eq_true]
    exact ⟨h.l, k.l⟩
theorem tx_list {w dp : Nat} {ds : List PyData} (h : TxL w dp ds) : Tx1 w (dp + 1) (.list ds) := by
  refine ⟨?_, ?_, ?_, ?_⟩
  · simp only [PyData.showable]; exact h.s
  · have := h.dp
    simp only [PyData.depth]
    omega
  · have := h.w
    simp only [PyData.weight]
    omega
  · simp only [PyData.leavesShort]; exact h.l
theorem tx_tup {w dp : Nat} {ds : List PyData} (h : TxL w dp ds) : Tx1 w (dp + 1) (.tuple ds) := by
  refine ⟨?_, ?_, ?_, ?_⟩
  · simp only [PyData.showable]; exact h.s
  · have := h.dp
    simp only [PyData.depth]
    omega
  · have := h.w
    simp only [PyData.weight]
    omega
  · simp only [PyData.leavesShort]; exact h.l
theorem Tx1.txB {w dp : Nat} {d : PyData} (h : Tx1 w dp d) (hw : w ≤ 4000 := by decide) (hd : dp ≤ 50 := by decide) : TxB d := by
  refine ⟨h.s, Nat.le_trans h.dp hd, ?_⟩
  have z := PyData.shown_le 1921 (by decide) d h.l
  have w1 := h.w
  have : (1921 + 2) * d.weight ≤ 1923 * 4000 := Nat.mul_le_mul (by decide) (by omega)
  have e : sizeLine ≥ 8000000 := by decide
  omega
theorem tx_fr {a b : Int} {k l : Nat} (ha : a.natAbs < 2 ^ k) (hb : b.natAbs < 2 ^ l) (dp : Nat) (h1 : 0 < k := by decide) (h2 : k ≤ 1920 := by decide) (h3 : 0 < l := by decide) (h4 : l ≤ 1920 := by decide) : Tx1 (k + (l + 0 + 1) + 1) (dp + 1) (frD a b) :=
  tx_tup (txl_cons (tx_int ha dp h1 h2) (txl_cons (tx_int hb dp h3 h4) (txl_nil 0 dp)))
/-! ## == of fractions -/
theorem eqv_fr (a b c d : Int) : PyData.eqv (frD a b) (frD c d) = (decide (a = c) && decide (b = d)) := by
  show (PyData.eqv (.int a) (.int c) && (PyData.eqv (.int b) (.int d) && true)) = _
  rw [eqv_int, eqv_int, Bool.and_true]
end Ab
namespace Ab
open PySem PySem.Spec PyProof.Rows L2 Vg
section
variable {X : Cx} {W : WX}
/-! ## name = [.. for ..] on one line -/
theorem ds_setLc {elt tg iter : Expr} {scope : Scope} {x y : Str} {i j : Nat} {pos py spos : Pos} {it : AIt} {b : AE} (hy : X.N[j]? = some y) (hyl : X.env.scope.names.lookup y = some .local)
    (hsw : swapsWith (.ListComp elt [⟨tg, iter, [], 0⟩] scope pos) (some (.Name y py)) spos.line X.env = pure true) (own : Bool) (hc : X.calm = true) (hN : X.N.Nodup) (hi : DI X W tg iter it) (ok : BlkOk X.N X.env.scope scope [(x, i)])
    (hg : ∀ (s : Shared) (H : Hp) (C : Addr) (cl : List (Str × Addr)) (fp : List Addr), PG (X.blk s H scope (compEnvC scope cl C X.env) fp) tg (gName i))
    (he : ∀ (s : Shared) (H : Hp) (C : Addr) (cl : List (Str × Addr)) (fp : List Addr), DE (X.blk s H scope (compEnvC scope cl C X.env) fp) W0 elt b) (hs : ∀ x, foldedSetIterable iter X.env x = pure x := by intro _; rfl) :
    DS X W (.Assign [.Name y py] (.ListComp elt [⟨tg, iter, [], 0⟩] scope pos) spos) (aAsg (aLc own it i (fun O _ _ Kc => Kc O true) b) (aName j)) := by
  obtain ⟨wi, p, s⟩ := hi.ex
  refine ⟨_, ps_setLc (own := [(x, i)]) (g := gName i) (tt := tYes) (te := upE X.K W0 b) hc hN hy hyl hsw p ok hg (fun _ _ _ _ _ => pts_nil) (fun s H C cl fp => (he s H C cl fp).pe) hs, ?_⟩
  exact sas_asg (sa_lc s (fun O ρ σ H Q Kc XX S k q x => q O true H (Fr.refl _ _) S.o k) up_e) sag_name
theorem ds_setLcI {elt tg iter c : Expr} {scope : Scope} {x y : Str} {i j : Nat} {pos py spos : Pos} {it : AIt} {b : AE} {a : AT} (hy : X.N[j]? = some y) (hyl : X.env.scope.names.lookup y = some .local)
    (hsw : swapsWith (.ListComp elt [⟨tg, iter, [c], 0⟩] scope pos) (some (.Name y py)) spos.line X.env = pure true) (own : Bool) (hc : X.calm = true) (hN : X.N.Nodup) (hi : DI X W tg iter it) (ok : BlkOk X.N X.env.scope scope [(x, i)])
    (hg : ∀ (s : Shared) (H : Hp) (C : Addr) (cl : List (Str × Addr)) (fp : List Addr), PG (X.blk s H scope (compEnvC scope cl C X.env) fp) tg (gName i))
    (ht : ∀ (s : Shared) (H : Hp) (C : Addr) (cl : List (Str × Addr)) (fp : List Addr), DT (X.blk s H scope (compEnvC scope cl C X.env) fp) W0 c a)
    (he : ∀ (s : Shared) (H : Hp) (C : Addr) (cl : List (Str × Addr)) (fp : List Addr), DE (X.blk s H scope (compEnvC scope cl C X.env) fp) W0 elt b) (hs : ∀ x, foldedSetIterable iter X.env x = pure x := by intro _; rfl) :
    DS X W (.Assign [.Name y py] (.ListComp elt [⟨tg, iter, [c], 0⟩] scope pos) spos) (aAsg (aLc own it i a b) (aName j)) := by
  obtain ⟨wi, p, s⟩ := hi.ex
  exact ⟨_, ps_setLc (own := [(x, i)]) (g := gName i) (tt := upT X.K W0 a) (te := upE X.K W0 b) hc hN hy hyl hsw p ok hg (fun s H C cl fp => pts_one (ht s H C cl fp).pt) (fun s H C cl fp => (he s H C cl fp).pe) hs, sas_asg (sa_lc s up_t up_e) sag_name⟩
theorem op_isB : OpR X (compareOp .Is) (fun x y H Q => ∃ a b, x = .bl a ∧ y = .bl b ∧ Q (.bl (decide (a = b))) H) := L2.op_is_bl
end
theorem elsC (O : Ob) (cs : List Cl) : Els O (lisC cs) cs := by
  unfold lisC
  cases e : allD cs with
  | none => exact .lis cs
  | some ds =>
    have h := allD_eq e
    subst h
    exact .dat ds
theorem elsTC (cs : List Cl) : ElsT (tupC cs) cs := by
  unfold tupC
  cases e : allD cs with
  | none => exact .tup cs
  | some ds =>
    have h := allD_eq e
    subst h
    exact .dat ds
/-! ## owned things behind others -/
theorem Lo.app {O : Ob} {a : Addr} {w : Ow} {f : Ow → Ob} (h : Lo O a w f) : ∀ G : Ob, Lo (G ++ O) a w (fun w' => G ++ f w')
  | [] => h
  | _ :: G => .there (Lo.app h G)
theorem very_app {O : Ob} {cs : List Cl} {Xf Xg : Ob → Str → Cl → Prop} {Kc : KC} (G : Ob) (h : afVery O cs Xg (fun O' r => Kc (G ++ O') r)) : afVery (G ++ O) cs Xf Kc := by
  match cs, h with
  | [c, d], ⟨e0, h⟩ =>
    refine ⟨e0, ?_⟩
    rcases h with ⟨e, h1, h2, h3, h4, h5, k⟩ | ⟨a, es, f, h1, lo, h2, h3, h4, k⟩ | ⟨a, es, ds, f, h1, lo, h2, h3, h4, h5, k⟩
    · exact .inl ⟨e, h1, h2, h3, h4, h5, k⟩
    · exact .inr (.inl ⟨a, es, _, h1, lo.app G, h2, h3, h4, k⟩)
    · exact .inr (.inr ⟨a, es, ds, _, h1, lo.app G, h2, h3, h4, h5, k⟩)
theorem odd_pl {d : PyData} {c : Cl} {G : Ob} (h : Odd d c G) (O : Ob) (m : ∀ x ∈ G, x ∈ O) : Pl O c := by
  cases h with
  | imm h1 h2 => exact pl_dat _ _
  | @lst a ds => exact ⟨⟨_, .own (m _ (List.mem_cons_self ..))⟩, (fun _ z => nomatch z), fun _ z => nomatch z⟩
  | @dct a kvs es hk hc => exact ⟨⟨_, .dct (m _ (List.mem_cons_self ..))⟩, (fun _ z => nomatch z), fun _ z => nomatch z⟩
/-! ## a fraction, or one of the things of other kinds -/
def smD : PyData → Bool
  | .tuple [.int a, .int b] => decide (a.natAbs < 2 ^ 100) && decide (b.natAbs < 2 ^ 100)
  | _ => true
def Th (ds : List PyData) (c : Cl) (G : Ob) : Prop := (∃ a b, c = .dat (frD a b) ∧ Fz 100 a b ∧ G = []) ∨ ∃ d ∈ ds, oddOk d = true ∧ smD d = true ∧ Odd d c G
theorem Th.pl {ds : List PyData} {c : Cl} {G : Ob} (h : Th ds c G) (O : Ob) (m : ∀ x ∈ G, x ∈ O) : Pl O c := by
  rcases h with ⟨a, b, rfl, _, _⟩ | ⟨d, _, _, _, h⟩
  · exact pl_dat _ _
  · exact odd_pl h O m
theorem Th.frac {ds : List PyData} {c : Cl} {G : Ob} (h : Th ds c G) (hf : fracC c = true) : ∃ a b, c = .dat (frD a b) ∧ Fz 100 a b := by
  rcases h with ⟨a, b, rfl, F, _⟩ | ⟨d, m, _, s, h⟩
  · exact ⟨a, b, rfl, F⟩
  · cases h with
    | imm h1 h2 =>
      obtain ⟨a, b, rfl, hb, hg⟩ := frac_pos hf
      have s := Bool.and_eq_true_iff.mp (show (decide (a.natAbs < 2 ^ 100) && decide (b.natAbs < 2 ^ 100)) = true from s)
      exact ⟨a, b, rfl, hb, hg, of_decide_eq_true s.1, of_decide_eq_true s.2⟩
    | lst ds => cases hf
    | dct kvs es hk hc => cases hf
theorem Th.odd {ds : List PyData} {c : Cl} {G : Ob} (h : Th ds c G) (hf : fracC c = false) : ∃ d, oddOk d = true ∧ Odd d c G := by
  rcases h with ⟨a, b, rfl, F, _⟩ | ⟨d, m, ok, _, h⟩
  · rw [F.frac] at hf
    cases hf
  · exact ⟨d, ok, h⟩
end Ab
namespace Ab
open PySem PySem.Spec PyProof.Rows L2 Vg
/-! ## a tuple of texts of the module -/
def ctV : List PyData → List Value → Bool
  | [], [] => true
  | .str x :: ds, .str y _ :: vs => decide (x = y) && ctV ds vs
  | _, _ => false
def ctOk (o : Obj) (ds : List PyData) : Bool := match o.cls, o.data with
  | .type t, .seq its n => decide (t = "tuple") && decide (its.size ≤ 1000) && ctV ds its.toList && ds.all flatD
  | _, _ => false
theorem ctV_vals : ∀ {ds : List PyData} {vs : List Value}, ctV ds vs = true → Vals (ds.map vD) vs
  | [], [], _ => .nil
  | .str x :: ds, .str y t :: vs, h => by
    have h' := Bool.and_eq_true_iff.mp (show (decide (x = y) && ctV ds vs) = true from h)
    have e := of_decide_eq_true h'.1
    subst e
    exact .cons ⟨t, rfl⟩ (ctV_vals h'.2)
structure CtB (K : PySem.W.Frag) (a : Addr) (ds : List PyData) : Prop where
  ex : ∃ (o : Obj) (its : Array Value) (n : Nat), K.lookup a = some o ∧ o.cls = .type "tuple" ∧ o.data = .seq its n ∧ its.size ≤ sizeLine ∧ Vals (ds.map vD) its.toList
  fl : ds.all flatD = true
structure CtK (K : PySem.W.Frag) (x : Str) (ds : List PyData) : Prop where
  ex : ∃ a, PySem.W.nsIn K mainGlobals x = some (some (.ref a)) ∧ CtB K a ds
structure CtIn (K : PySem.W.Frag) (mg : Str → Option Value) (x : Str) (ds : List PyData) : Prop where
  ex : ∃ a, mg x = some (.ref a) ∧ CtB K a ds
theorem CtK.by {K : PySem.W.Frag} {x : Str} {ds : List PyData} {a : Addr} {o : Obj} (h : PySem.W.nsIn K mainGlobals x = some (some (.ref a))) (l : K.lookup a = some o) (r : ctOk o ds = true) : CtK K x ds := by
  refine ⟨a, h, ?_⟩
  unfold ctOk at r
  split at r
  · rename_i t its n e1 e2
    simp only [Bool.and_eq_true, decide_eq_true_eq] at r
    obtain ⟨⟨⟨h1, h2⟩, h3⟩, h4⟩ := r
    subst h1
    exact ⟨⟨o, its, n, l, e1, e2, Nat.le_trans h2 (by decide), ctV_vals h3⟩, h4⟩
  · cases r
theorem CtK.at {K : PySem.W.Frag} {h : Heap} {mg : Str → Option Value} {x : Str} {ds : List PyData} (D : CtK K x ds) (X : K.In h) (G : h.Ns mainGlobals mg) : CtIn K mg x ds := by
  obtain ⟨a, e, b⟩ := D.ex
  exact ⟨a, PySem.W.mg_of X G e, b⟩
def aInK (ds : List PyData) : AR1 := fun O c Kc => ∃ d, c = .dat d ∧ flatD d = true ∧ Kc O (.dat (.bool (inV (vD d) (ds.map vD))))
theorem vD_flat {ds : List PyData} (h : ds.all flatD = true) : (ds.map vD).all flatV = true := by
  rw [List.all_map]
  refine List.all_eq_true.mpr fun d hd => ?_
  have := (List.all_eq_true.mp h) d hd
  cases d <;> first | rfl | cases this
section
variable {X : Cx} {W : WX}
theorem sa_inK {K : PySem.W.Frag} {a : Addr} {ds : List PyData} {t : TE} {aa : AE} (B : CtB K a ds) (h : SaE K W t aa) : SaE K W (tOp (rIn K false) t (tC (.ref a))) (aUn (aInK ds) aa) := fun O ρ σ H Q Kc XX S k q x =>
  h O ρ σ H _ _ XX S k (fun O1 c v H1 f1 o1 r1 ⟨d, e, fd, k1⟩ => by
    subst e
    cases r1 with
    | dat hd =>
      obtain ⟨e2, q2⟩ := vD_of hd fd
      subst e2
      obtain ⟨o, its, n, l1, l2, l3, l4, l5⟩ := B.ex
      exact ⟨a, _, rfl, .inr (.inr ⟨o, its, n, l1, l2, l3, l4, l5⟩), q2, vD_flat B.fl, q O1 _ _ H1 f1 o1 (.dat (.bl _)) k1⟩) x
theorem de_inK {x : Str} {ds : List PyData} {a : Expr} {aa : AE} {p pos : Pos} (ha : DE X W a aa) (C : CtIn X.K X.mg x ds) (hg : Gl X x := by rfl) (hdb : (x == ("__debug__" : Str)) = false := by decide) (hm : behindInMarks .In (.Name x p) = false := by rfl) :
    DE X W (.Compare a [.In] [.Name x p] pos) (aUn (aInK ds) aa) := by
  obtain ⟨t, pa, s⟩ := ha.ex
  obtain ⟨b, e, B⟩ := C.ex
  exact ⟨_, pe_cmpR op_in_seq pa (pe_glob (v := .ref b) hg e rfl hdb) hm, sa_inK B s⟩
theorem dt_inK {x : Str} {ds : List PyData} {a : Expr} {aa : AE} {p pos : Pos} (ha : DE X W a aa) (C : CtIn X.K X.mg x ds) (hg : Gl X x := by rfl) (hdb : (x == ("__debug__" : Str)) = false := by decide) (hm : behindInMarks .In (.Name x p) = false := by rfl) :
    DT X W (.Compare a [.In] [.Name x p] pos) (aTest (aUn (aInK ds) aa)) := by
  obtain ⟨t, pa, s⟩ := ha.ex
  obtain ⟨b, e, B⟩ := C.ex
  exact ⟨_, pt_cmpR op_in_seq pa (pe_glob (v := .ref b) hg e rfl hdb) hm, sa_test (sa_inK B s)⟩
end
/-! ## a def with a default, called in each way -/
structure FvD (P : Program) (w : World) (K : PySem.W.Frag) (mg : Str → Option Value) (base : Heap) (k : Nat) (x : Str) (ps : List Str) (kw : Str) (dv : PyData) (af : AF) : Prop where
  ex : ∃ (f : Addr) (fd : FuncData) (d : Value), mg x = some (.ref f) ∧ PySem.W.keepIn K (.ref f) = true ∧ Binds K fd ps [] ∧ Binds K fd ps [d] ∧ (∀ (s : Shared) (us : List Value) (u : Value), K.In s.heap → us.length + 1 = ps.length → BindsTo s fd ⟨us, [(kw, u)]⟩ (ps.zip (us ++ [u]))) ∧
    (∃ v, L2.RelV v d ∧ ∀ ok H, Dq ok H v dv) ∧ FnOk P w K mg base (L2.CX P w) k f fd ps (spG K af)
theorem fvd_of {P : Program} {w : World} {K : PySem.W.Frag} {mg : Str → Option Value} {base : Heap} {k : Nat} {x kw : Str} {st : Stmt} {N ps : List Str} {v : V} {dv : PyData} {af : AF} (D : AtD K mg x st [v]) (S : FnScope N ps (defScope st)) (hv : ∀ ok H, Dq ok H v dv)
    (hb : ∀ (T : Addr) (kV doc pm : Value) (an : Option Addr) (cdv ct : Value) (us its : List Value), us.length = ps.length → its.length = 1 →
      ∃ k, bindArgs (PySem.W.fnOf x x (defArgs st) (defBody st) (defScope st) (.ref T) kV doc pm an cdv ct) ⟨us, []⟩ = seqItems? (.ref T) >>= k ∧ k (some its.toArray) = pure (ps.zip us))
    (hb1 : ∀ (T : Addr) (kV doc pm : Value) (an : Option Addr) (cdv ct : Value) (us its : List Value), us.length + 1 = ps.length → its.length = 1 →
      ∃ k, bindArgs (PySem.W.fnOf x x (defArgs st) (defBody st) (defScope st) (.ref T) kV doc pm an cdv ct) ⟨us, []⟩ = seqItems? (.ref T) >>= k ∧ k (some its.toArray) = pure (ps.zip (us ++ its)))
    (hbk : ∀ (T : Addr) (kV doc pm : Value) (an : Option Addr) (cdv ct : Value) (us its : List Value) (u : Value), us.length + 1 = ps.length → its.length = 1 →
      ∃ k, bindArgs (PySem.W.fnOf x x (defArgs st) (defBody st) (defScope st) (.ref T) kV doc pm an cdv ct) ⟨us, [(kw, u)]⟩ = seqItems? (.ref T) >>= k ∧ k (some its.toArray) = pure (ps.zip (us ++ [u])))
    (hp : 1 ≤ ps.length)
    (hl : ∀ O cs Xf Kc, af O cs Xf Kc → cs.length = ps.length)
    (body : ∀ (f : Addr) (cdv : Value) (A : Around) (outer : List Env) (s : Shared) (H : Hp) (E : XK),
      Room k (A.deeper (envOfC x (defScope st) s.heap.objs.size f cdv)) →
      ∃ a : AS, DSs (cxOf (L2.CX P w) P w K mg base N x (defScope st) f cdv A outer s H E) (fun cls d _ H => E cls d H) (defBody st) a ∧
        ∀ O cs Xf Kc, af O cs Xf Kc → a { nx := fun O' _ => Kc O' (.dat .none), rt := Kc } (fun O' _ y c => Xf O' y c) O (cs.map some ++ List.replicate (N.length - cs.length) none)) :
    FvD P w K mg base (k + 1) x ps kw dv af := by
  obtain ⟨f, fd, hm, F⟩ := D.ex
  obtain ⟨ds0, r0, b0⟩ := F.binds1 (ps := ps) ps.length 1 (by simp) (by simp) fun T kV doc pm an cdv ct us its h1 h2 => by
    obtain ⟨k, e1, e2⟩ := hb T kV doc pm an cdv ct us its h1 (by simpa using h2)
    refine ⟨k, e1, ?_⟩
    rw [e2]
    have : its.drop 1 = [] := by
      match its, h2 with
      | [_], _ => rfl
    rw [this, List.append_nil]
  obtain ⟨ds1, r1, b1⟩ := F.binds1 (ps := ps) (ps.length - 1) 0 (by simp) (by simp; omega) fun T kV doc pm an cdv ct us its h1 h2 => by
    obtain ⟨k, e1, e2⟩ := hb1 T kV doc pm an cdv ct us its (by omega) (by simpa using h2)
    exact ⟨k, e1, e2⟩
  have e0 : ds0 = [] := by
    cases r0
    rfl
  subst e0
  obtain ⟨d, rfl, rd⟩ : ∃ d, ds1 = [d] ∧ L2.RelV v d := by
    cases r1 with
    | cons a b => cases b; exact ⟨_, rfl, a⟩
  refine ⟨f, fd, d, hm, F.kp, b0, b1, fun s us u hin hlen => ?_, ⟨v, rd, hv⟩, F.ok S (fun vs H Q E ⟨O, cs, Xf, Kc, o, r, h, _, _⟩ => r.len.trans (hl O cs Xf Kc h)) fun cdv A outer s H vs Q E hr ⟨O, cs, Xf, Kc, o, r, h, q, x⟩ => ?_⟩
  · obtain ⟨oc, od, dV, kV, doc, pm, an, cdv, ct, osl, rfl, lk, hcd, hD, hK⟩ := F.ex
    rcases hD with ⟨e, _⟩ | ⟨_, T, o, its, m, rfl, lT, oT, rT⟩
    · cases e
    · obtain ⟨k, e1, e2⟩ := hbk T kV doc pm an cdv ct us its u hlen (by have := rT.length; simpa using this.symm)
      refine BindsTo.of_looks fun M => ?_
      rw [e1]
      exact looks_items hin lT oT (.of_pure e2)
  · obtain ⟨a, ⟨t, p, sa⟩, k⟩ := body f cdv A outer s H E hr
    refine ⟨t, p, sa O _ _ H _ _ _ (start_ss o r) (k O cs Xf Kc h) ⟨fun O' ρ' σ' H' f S k' => ?_, q, fun _ _ _ _ _ _ z => z.elim, fun _ _ _ _ _ _ z => z.elim⟩ ?_⟩
    · exact q O' _ _ H' f S.o (.dat .non) k'
    · exact fun O' ρ' σ' y c v H' dd f S r hd hf z => x O' y c v H' dd f S.o r hd hf z
section
variable {X : Cx} {W : WX} {af : AF} {dv : PyData} {k : Nat} {ps : List Str} {x kw : Str} {e : Expr} {es : List Expr} {a : AA} {p pos : Pos}
theorem FvD.fx {P : Program} {w : World} {K : PySem.W.Frag} {mg : Str → Option Value} {base : Heap} (F : FvD P w K mg base k x ps kw dv af) : Fv P w K mg base k x ps af := by
  obtain ⟨f, fd, d, hm, hk, b0, b1, bk, hv, F⟩ := F.ex
  exact ⟨f, fd, hm, hk, b0, F⟩
theorem de_callW0 (F : FvD X.prog X.w X.K X.mg X.base k x ps kw dv af) (tk : Takes X W) (hr : Room k X.A) (hg : Gl X x) (ha : DA X W (e :: es) a)
    (hdb : (x == ("__debug__" : Str)) = false := by decide) (he : starEach (e :: es) X.env = (false, eval e X.env) :: starEach es X.env := by rfl)
    (hpl : (backTo pos (starEach es X.env)).any (·.1) = false := by rfl) : DE X W (.Call (.Name x p) (e :: es) [] pos) (aCall af a) := de_callV F.fx tk hr hg ha hdb he hpl
theorem de_callW1 (F : FvD X.prog X.w X.K X.mg X.base k x ps kw dv af) (tk : Takes X W) (hr : Room k X.A) (hg : Gl X x) (ha : DA X W (e :: es) a)
    (hdb : (x == ("__debug__" : Str)) = false := by decide) (he : starEach (e :: es) X.env = (false, eval e X.env) :: starEach es X.env := by rfl)
    (hpl : (backTo pos (starEach es X.env)).any (·.1) = false := by rfl) : DE X W (.Call (.Name x p) (e :: es) [] pos) (aCallD dv af a) := by
  obtain ⟨f, fd, d, hm, hk, b0, b1, bk, hv, F⟩ := F.ex
  obtain ⟨t, pa, s⟩ := ha.ex
  obtain ⟨v, rv, dq⟩ := hv
  refine ⟨fun σ H Q => t σ H fun vs H1 => spG X.K af (vs ++ [v]) H1 Q (WE W σ), ⟨fun pins s σ H Q I h => ?_⟩, fun O ρ σ H Q Kc XX S k q x => s O ρ σ H _ _ XX S k (fun O1 cs vs H1 f1 o1 r1 k1 => ?_) x⟩
  · refine wpAny_Call_Name_kw (ld_glob I hg hm ?_ hdb)
    refine PySem.W.callWith_K (h₀ := X.base) I.ok.mod.kin hk (thn (pa.run pos pins s σ H _ I h) fun us s1 ⟨vs, H1, I1, r, q⟩ => ⟨I1.kIn, ?_⟩) he hpl
    have both : Vals (vs ++ [v]) (us ++ [d]) := r.append (.cons rv .nil)
    have hl : (us ++ [d]).length = ps.length := both.length ▸ F.len _ _ _ _ q
    refine wpAny_call (codeAny_mono (F.run X.A X.stack s1 H1 ⟨us, []⟩ (us ++ [d]) (vs ++ [v]) Q (WE W σ) hr I1.env0 (b1 s1 us I1.kIn hl) both q) fun r s' hq => ?_)
    match r, hq with
    | .error e, hq => exact passAt tk σ pins H1 s1 e s' I1 hq
    | .ok (.ret u), hq => exact I1.after hq
    | .ok .next, hq => exact False.elim hq
    | .ok .brk, hq => exact False.elim hq
    | .ok .cont, hq => exact False.elim hq
  · exact ⟨O1, cs ++ [.dat dv], _, Kc, o1, r1.app (.cons (.dat (dq _ _)) .nil), k1, q.go f1, fun O2 y c v H2 dd f2 o2 r2 hd hf hx => x O2 ρ σ y c v H2 dd (f1.trans f2) (S.go (f1.trans f2) o2) r2 hd hf hx⟩
/-- f(a, .., name = b) -/
def aCallK (af : AF) (a : AA) (b : AE) : AE := fun O ρ XX Kc => a O ρ XX fun O1 cs => b O1 ρ XX fun O2 c => af O2 (cs ++ [c]) (fun O' x c => XX O' ρ x c) Kc
theorem de_callWK {v : Expr} {b : AE} {kp : Pos} (F : FvD X.prog X.w X.K X.mg X.base k x ps kw dv af) (tk : Takes X W) (hr : Room k X.A) (hg : Gl X x) (ha : DA X W (e :: es) a) (hb : DE X W v b)
    (hdb : (x == ("__debug__" : Str)) = false := by decide) (hall : (backToKw pos (keywordEach [⟨some kw, v, kp⟩] X.env)).all (·.1.isSome) = true := by rfl) (hks : (backToKw pos (keywordEach [⟨some kw, v, kp⟩] X.env)).filterMap (·.1) = [kw] := by rfl)
    (he : starEach (e :: es) X.env = (false, eval e X.env) :: starEach es X.env := by rfl)
    (hpl : ((backTo pos (starEach (e :: es) X.env)).any (·.1) || (backToKw pos (keywordEach [⟨some kw, v, kp⟩] X.env)).any (·.1.isNone)) = false := by rfl) : DE X W (.Call (.Name x p) (e :: es) [⟨some kw, v, kp⟩] pos) (aCallK af a b) := by
  obtain ⟨f, fd, d, hm, hk, b0, b1, bk, hv, F⟩ := F.ex
  obtain ⟨t, pa, s⟩ := ha.ex
  obtain ⟨u, pb, s2⟩ := hb.ex
  have pk := L2.pk_cons (kpos := kp) (nm := some kw) pb pk_nil
  refine ⟨fun σ H Q => t σ H fun vs H1 => tCons u tNil σ H1 fun zs H2 => ∃ z, zs = [z] ∧ spG X.K af (vs ++ [z]) H2 Q (WE W σ), ⟨fun pins s σ H Q I h => ?_⟩, fun O ρ σ H Q Kc XX S k q x => s O ρ σ H _ _ XX S k (fun O1 cs vs H1 f1 o1 r1 k1 =>
    s2 O1 ρ σ H1 _ _ XX (S.go f1 o1) k1 (fun O2 c z H2 f2 o2 r2 k2 => ?_) (x.go f1)) x⟩
  · refine wpAny_Call_Name_kw (ld_glob I hg hm ?_ hdb)
    refine PySem.W.callWith_KW (h₀ := X.base) I.ok.mod.kin hk hall (thn (pa.run pos pins s σ H _ I h) fun us s1 ⟨vs, H1, I1, r, q⟩ => ?_) hpl he
    refine thn (pk.run pos pins s1 σ H1 (fun zs H2 => ∃ z, zs = [z] ∧ spG X.K af (vs ++ [z]) H2 Q (WE W σ)) I1 q) fun ws s2 ⟨zs, H2, I2, rz, z, ez, q2⟩ => ⟨I2.kIn, ?_⟩
    · subst ez
      rw [hks]
      obtain ⟨y, rfl, ry⟩ : ∃ y, ws = [y] ∧ L2.RelV z y := by
        cases rz with
        | cons a b => cases b; exact ⟨_, rfl, a⟩
      have both : Vals (vs ++ [z]) (us ++ [y]) := r.append (.cons ry .nil)
      have hl : (us ++ [y]).length = ps.length := both.length ▸ F.len _ _ _ _ q2
      refine wpAny_call (codeAny_mono (F.run X.A X.stack s2 H2 ⟨us, [(kw, y)]⟩ (us ++ [y]) (vs ++ [z]) Q (WE W σ) hr I2.env0 (bk s2 us y I2.kIn (by simpa using hl)) both q2) fun r s' hq => ?_)
      match r, hq with
      | .error e, hq => exact passAt tk σ pins H2 s2 e s' I2 hq
      | .ok (.ret u), hq => exact I2.after hq
      | .ok .next, hq => exact False.elim hq
      | .ok .brk, hq => exact False.elim hq
      | .ok .cont, hq => exact False.elim hq
  · have f12 := f1.trans f2
    exact ⟨_, rfl, O2, cs ++ [c], _, Kc, o2, (r1.fr f2).app (.cons r2 .nil), k2, q.go f12, fun O3 y c v H3 dd f3 o3 r3 hd hf hx => x O3 ρ σ y c v H3 dd (f12.trans f3) (S.go (f12.trans f3) o3) r3 hd hf hx⟩
end
/-! ## a, b = [..] -/
def aGLst (m : Nat) (b : AGs) : AG := fun c O ρ k => ∃ cs, Els O c cs ∧ cs.length = m ∧ b cs O ρ k
theorem dg_tupL {X : Cx} {es : List Expr} {k : Nat} {b : AGs} {n : Nat} {pos : Pos} (hc : X.calm = true) (h : DGs X es b) (hn : (assignEach es X.env).length = n := by rfl) (hst : (assignEach es X.env).findIdx? (·.1) = none := by rfl) : DG X (.Tuple es k pos) (aGLst n b) := by
  obtain ⟨t, p, s⟩ := h.ex
  refine ⟨_, pg_lst hc p hn hst, fun O ρ σ H c v k R S r ⟨cs, h, hl, q⟩ n => ?_⟩
  obtain ⟨a, xs, rfl, ha, rs⟩ := h.get S.o r
  exact ⟨a, xs, rfl, SqL.of ha, by rw [rs.len]; exact hl, s O ρ σ H cs xs k R S rs q n⟩
/-! ## a thing of other kinds, into which something was put n times -/
def mores (n : Nat) : List PyData := List.replicate n (.str "more")
abbrev moreE : Key × Cl := (.inr "more", .dat (.int 1))
inductive OddM (n : Nat) : PyData → Cl → Ob → Prop
  | imm {d : PyData} (h : ∀ ds, d ≠ .list ds) (k : ∀ es, d ≠ .dict es) : OddM n d (.dat d) []
  | lst {a : Addr} (ds : List PyData) : OddM n (.list ds) (.at a) [(a, .lst ((ds ++ mores n).map .dat))]
  | dct {a : Addr} (kvs : List (PyData × PyData)) (es : List (Key × Cl)) (k : es.map (fun e => kD e.1) = kvs.map (·.1)) (c : es.map (·.2) = (kvs.map (·.2)).map .dat) : OddM n (.dict kvs) (.at a) [(a, .dct (if n = 0 then es else es ++ [moreE]))]
def oddOk5 : PyData → Bool
  | .list ds => (List.range 6).all (fun n => !PyData.hasDict (.list (ds ++ mores n)) && txB (.list (ds ++ mores n))) && decide (ds.length ≤ 800)
  | .dict kvs => oddOk (.dict kvs) && decide (kvs.length ≤ 800)
  | d => oddOk d
theorem Odd.m {d : PyData} {c : Cl} {G : Ob} (h : Odd d c G) : OddM 0 d c G := by
  cases h with
  | imm h k => exact .imm h k
  | @lst a ds =>
    have z := OddM.lst (n := 0) (a := a) ds
    rw [show mores 0 = [] from rfl, List.append_nil] at z
    exact z
  | @dct a kvs es k c => exact OddM.dct (n := 0) (a := a) kvs es k c
theorem OddM.pl {n : Nat} {d : PyData} {c : Cl} {G : Ob} (h : OddM n d c G) (O : Ob) (m : ∀ x ∈ G, x ∈ O) : Pl O c := by
  cases h with
  | imm h1 h2 => exact pl_dat _ _
  | lst ds => exact ⟨⟨_, .own (m _ (List.mem_cons_self ..))⟩, (fun _ z => nomatch z), fun _ z => nomatch z⟩
  | dct kvs es hk hc => exact ⟨⟨_, .dct (m _ (List.mem_cons_self ..))⟩, (fun _ z => nomatch z), fun _ z => nomatch z⟩
theorem oddM_very {n : Nat} {O : Ob} {d : PyData} {c : Cl} {G : Ob} {Xf : Ob → Str → Cl → Prop} {Kc : KC} (h : OddM n d c G) (hn : n ≤ 4) (ok : oddOk5 d = true) (k : ∀ G', OddM (n + 1) d c G' → Kc (G' ++ O) trD) : afVery (G ++ O) [c, c] Xf Kc := by
  refine ⟨rfl, ?_⟩
  cases h with
  | imm h1 h2 =>
    have ok' : (!d.hasDict && txB d) = true := by
      cases d <;> first | exact ok | exact absurd rfl (h1 _) | exact absurd rfl (h2 _)
    have z := Bool.and_eq_true_iff.mp ok'
    exact .inl ⟨d, rfl, h1, h2, by simpa using z.1, .by z.2, k [] (.imm h1 h2)⟩
  | @lst a ds =>
    have ok' : ((List.range 6).all (fun n => !PyData.hasDict (.list (ds ++ mores n)) && txB (.list (ds ++ mores n))) && decide (ds.length ≤ 800)) = true := ok
    have z := Bool.and_eq_true_iff.mp ok'
    have z2 := (List.all_eq_true.mp z.1) (n + 1) (List.mem_range.mpr (by omega))
    have z3 := of_decide_eq_true z.2
    have z4 := Bool.and_eq_true_iff.mp z2
    have e : ds ++ mores (n + 1) = (ds ++ mores n) ++ [PyData.str "more"] := by
      unfold mores
      rw [List.replicate_succ', List.append_assoc]
    rw [e] at z4
    have kk := k _ (OddM.lst (n := n + 1) (a := a) ds)
    rw [e] at kk
    refine .inr (.inl ⟨a, ds ++ mores n, _, rfl, .here, ?_, by simpa using z4.1, .by z4.2, kk⟩)
    simp [mores]
    omega
  | @dct a kvs es hk hc =>
    have ok0 := Bool.and_eq_true_iff.mp (show (oddOk (.dict kvs) && decide (kvs.length ≤ 800)) = true from ok)
    have ok' : ((((kvs.map (·.2)).all flatD && decide (kvs.length ≤ 900)) && txB (.dict (kvs ++ [(PyData.str "more", PyData.int 1)]))) && kvs.all fun kv => match kv.1 with
      | .int _ => true
      | .str z => !decide (z = "more")
      | _ => false) = true := ok0.1
    have z := Bool.and_eq_true_iff.mp ok'
    have z2 := Bool.and_eq_true_iff.mp z.1
    have z3 := Bool.and_eq_true_iff.mp z2.1
    have z4 := of_decide_eq_true ok0.2
    have len : es.length = kvs.length := by
      have := congrArg List.length hk
      simpa using this
    have ne : ∀ e ∈ es, e.1 ≠ (.inr "more" : Key) := by
      intro e he ed
      have m : kD e.1 ∈ kvs.map (·.1) := hk ▸ List.mem_map_of_mem (f := fun e : Key × Cl => kD e.1) he
      obtain ⟨kv, hkv, e2⟩ := List.mem_map.mp m
      have q := (List.all_eq_true.mp z.2) kv hkv
      rw [e2, ed] at q
      simp [kD] at q
    have nk : (es.any fun kv => decide (kv.1 = (.inr "more" : Key))) = false := by
      rw [List.any_eq_false]
      intro e he hd
      exact ne e he (of_decide_eq_true hd)
    have ep : putC (if n = 0 then es else es ++ [moreE]) (.inr "more" : Key) (Cl.dat (.int 1)) = es ++ [moreE] := by
      by_cases hn0 : n = 0
      · rw [if_pos hn0]
        unfold putC
        rw [nk, if_neg Bool.false_ne_true]
      · rw [if_neg hn0]
        unfold putC
        rw [List.any_append, nk, Bool.false_or, if_pos (by simp [moreE]), List.map_append]
        have e1 : (es.map fun kv => if kv.1 = (.inr "more" : Key) then (kv.1, Cl.dat (.int 1)) else kv) = es := by
          refine (List.map_congr_left fun x hx => ?_).trans (List.map_id es)
          rw [if_neg (ne x hx)]
          rfl
        rw [e1]
        rfl
    have kk := k _ (OddM.dct (n := n + 1) (a := a) kvs es hk hc)
    rw [if_neg (by omega)] at kk
    refine .inr (.inr ⟨a, _, kvs.map (·.2) ++ [.int 1], _, rfl, .here, ?_, ?_, ?_, ?_, ?_⟩)
    · split
      · omega
      · rw [List.length_append]
        simp
        omega
    · rw [ep, List.map_append, hc, List.map_append]
      rfl
    · rw [List.all_append, z3.1]
      rfl
    · rw [ep, List.map_append, hk]
      have ez : (kvs.map (·.1) ++ [kD (.inr "more")]).zip (kvs.map (·.2) ++ [PyData.int 1]) = kvs ++ [(PyData.str "more", PyData.int 1)] := by
        rw [List.zip_append (by simp)]
        congr 1
        exact (pairs_eq (by rw [List.map_fst_zip (by simp)]) (by rw [List.map_snd_zip (by simp)]))
      show TxB (.dict ((kvs.map (·.1) ++ [kD (.inr "more")]).zip (kvs.map (·.2) ++ [PyData.int 1])))
      rw [ez]
      exact .by z2.2
    · rw [ep]
      exact kk
end Ab
namespace Ab
open PySem PySem.Spec PyProof.Rows L2 Vg
section
variable {K : PySem.W.Frag} {W : WX}
theorem fr_same {O : Ob} {H H' : Hp} (o : OkO K O H) (s : Same H H') : Fr O H O H' ∧ OkO K O H' := by
  have f : Fr O H O H' := ⟨fun b o _ h => s b o h, fun b o f _ => f, fun b h => by
    cases e : H b with
    | none => rfl
    | some o => rw [s b o e] at h; cases h⟩
  refine ⟨f, o.nd, fun x hx => ?_⟩
  obtain ⟨u, hu⟩ := (o.all x hx).there
  exact (o.all x hx).mono (fun b o _ h => s b o h) (fun b o f _ => f) ((s _ _ hu).trans hu.symm)
/-! ## numbers in texts -/
def optD : Option Int → PyData
  | some n => .int n
  | none => .none
def resD : Cl → PyData
  | .dat (.str z) => optD (numT z.cps.toList)
  | _ => .none
theorem dq_opt {ok : Addr → Prop} {H : Hp} (o : Option Int) : Dq ok H (optV o) (optD o) := by
  cases o with
  | none => exact .non
  | some n => exact .int n
theorem cl_res {O : Ob} {ok : Addr → Prop} {H H' : Hp} {c : Cl} {v : V} {n : String} (h : Kn O c n) (r : ClH K ok H v c) : Dq ok H' (resV v) (resD c) := by
  cases h with
  | dat d =>
    cases r with
    | dat hd => cases hd <;> first | exact .non | exact dq_opt _
  | own m => cases r; exact .non
  | dct m => cases r; exact .non
  | lis cs => cases r; exact .non
  | tup cs => cases r; exact .non
  | con ds => cases r with | con h => cases h; exact .non
def afNumOf : AF := fun O cs _ Kc => match cs with
  | [c] => (∃ n, Kn O c n) ∧ (∀ z, c = .dat (.str z) → z.length ≤ 100000 ∧ PyData.strOk z = true) ∧ Kc O (.dat (resD c))
  | _ => False
theorem sp_numof : SpA K (spNumOf K) afNumOf := fun O cs vs H Q E Kc Xf o r h q => by
  match cs, h with
  | [c], ⟨⟨n, hn⟩, hz, k⟩ =>
    obtain ⟨v, rfl, rv⟩ := cls1 r
    refine ⟨v, n, rfl, hn.tn o rv, fun z e => hz z ?_, fun H' s => ?_⟩
    · subst e
      cases hn with
      | dat d => cases rv with | dat hd => cases hd; rfl
      | own m => cases rv
      | dct m => cases rv
      | lis cs => cases rv
      | tup cs => cases rv
      | con ds => cases rv with | con h => cases h
    · obtain ⟨f, o'⟩ := fr_same o s
      exact q O _ _ H' f o' (.dat (cl_res hn rv)) k
def spNumT : Sp := fun vs H Q _ => ∃ z : Str, vs = [.str z] ∧ z.length ≤ 100000 ∧ PyData.strOk z = true ∧ ∀ H', Same H H' → Q (resV (.str z)) H'
def afNumT : AF := fun O cs _ Kc => match cs with
  | [c] => ∃ z : Str, c = .dat (.str z) ∧ z.length ≤ 100000 ∧ PyData.strOk z = true ∧ Kc O (.dat (optD (numT z.cps.toList)))
  | _ => False
theorem sp_lawnum : SpA K spNumT afNumT := fun O cs vs H Q E Kc Xf o r h q => by
  match cs, h with
  | [c], ⟨z, e, h1, h2, k⟩ =>
    subst e
    obtain ⟨v, rfl, rv⟩ := cls1 r
    refine ⟨z, by rw [dq_str rv], h1, h2, fun H' s => ?_⟩
    obtain ⟨f, o'⟩ := fr_same o s
    exact q O _ _ H' f o' (.dat (dq_opt _)) k
def afNear : AF := fun O cs _ Kc => match cs with
  | [c, d] => ∃ (p : Addr) (z : Str) (m n : Nat) (f : Ow → Ob), c = .at p ∧ d = .dat (.str z) ∧ Tx m z ∧ m ≤ 1000 ∧ Lo O p (.pur n) f ∧ 7 ≤ n ∧ ∀ y n', Tx (m + 2) y → n ≤ n' + 7 → Kc (f (.pur n')) (.dat (.str y))
  | _ => False
theorem sp_near : SpA K spNear afNear := fun O cs vs H Q E Kc Xf o r h q => by
  match cs, h with
  | [c, d], ⟨p, z, m, n, f, e1, e2, tx, hm, lo, hn, k⟩ =>
    subst e1 e2
    obtain ⟨v, w, rfl, rv, rw'⟩ := cls2 r
    have pz : Pz H p n := o.lo lo
    refine ⟨p, z, m, n - 7, by rw [dq_at rv, dq_str rw'], tx, hm, pz.mono (by omega), fun y H' ty b z' => ?_⟩
    obtain ⟨o2, f2⟩ := Fr.but (w' := .pur (n - 7)) o lo b (by obtain ⟨l, h, _⟩ := z'; exact ⟨_, h⟩) z'
    exact q _ _ _ _ f2 o2 (.dat (.str y)) (k y _ ty (by omega))
/-! ## partition, split -/
def aPartn (a b : AE) : AE := fun O ρ XX Kc => a O ρ XX fun O1 c => ∃ z : Str, c = .dat (.str z) ∧ b O1 ρ XX fun O2 d => ∃ y : Str, d = .dat (.str y) ∧ (y.length == 0) = false ∧ z.length ≤ sizeLine ∧ Kc O2 (.dat (.tuple [.str (Txt.partition z y).1, .str (Txt.partition z y).2.1, .str (Txt.partition z y).2.2]))
def aSplit (a b : AE) : AE := fun O ρ XX Kc => a O ρ XX fun O1 c => ∃ z : Str, c = .dat (.str z) ∧ b O1 ρ XX fun O2 d => ∃ y : Str, d = .dat (.str y) ∧ (y.length == 0) = false ∧ z.length + 2 ≤ sizeLine ∧ Kc O2 (.dat (.list ((Txt.split z y).map PyData.str)))
theorem cls_strs {ok : Addr → Prop} {H : Hp} : ∀ ys : List Str, ClsH K ok H (ys.map V.str) ((ys.map PyData.str).map Cl.dat)
  | [] => .nil
  | y :: ys => .cons (.dat (.str y)) (cls_strs ys)
end
section
variable {X : Cx} {W : WX} {o e : Expr} {a b : AE} {apos pos : Pos}
theorem de_partition (ho : DE X W o a) (he : DE X W e b) (hs : starEach [e] X.env = [(false, eval e X.env)] := by rfl) (hbase : attributeBase o "partition" X.env (eval o X.env) = eval o X.env := by rfl) (hline : (apos.endLine == pos.line) = true := by rfl) :
    DE X W (.Call (.Attribute o "partition" apos) [e] [] pos) (aPartn a b) := by
  obtain ⟨t, p, s⟩ := ho.ex
  obtain ⟨u, p2, s2⟩ := he.ex
  refine ⟨_, pe_partition p p2 hs hbase hline, fun O ρ σ H Q Kc XX S k q x => s O ρ σ H _ _ XX S k (fun O1 c v H1 f1 o1 r1 ⟨z, e1, k1⟩ => ?_) x⟩
  subst e1
  rw [dq_str r1]
  refine ⟨⟨z, rfl⟩, s2 O1 ρ σ H1 _ _ XX (S.go f1 o1) k1 (fun O2 d w H2 f2 o2 r2 ⟨y, e2, h1, h2, k2⟩ => ?_) (x.go f1)⟩
  subst e2
  rw [dq_str r2]
  refine ⟨z, y, rfl, rfl, h1, h2, fun p hp => ?_⟩
  obtain ⟨o3, f3, n⟩ := o2.new (u := .tup [V.str (Txt.partition z y).1, V.str (Txt.partition z y).2.1, V.str (Txt.partition z y).2.2]) hp
  exact q O2 _ _ _ ((f1.trans f2).trans f3) o3 (.dat (.tup n upd_same (.cons (.str _) (.cons (.str _) (.cons (.str _) .nil))))) k2
theorem de_split (ho : DE X W o a) (he : DE X W e b) (hs : starEach [e] X.env = [(false, eval e X.env)] := by rfl) (hbase : attributeBase o "split" X.env (eval o X.env) = eval o X.env := by rfl) (hline : (apos.endLine == pos.line) = true := by rfl) :
    DE X W (.Call (.Attribute o "split" apos) [e] [] pos) (aSplit a b) := by
  obtain ⟨t, p, s⟩ := ho.ex
  obtain ⟨u, p2, s2⟩ := he.ex
  refine ⟨_, pe_split p p2 hs hbase hline, fun O ρ σ H Q Kc XX S k q x => s O ρ σ H _ _ XX S k (fun O1 c v H1 f1 o1 r1 ⟨z, e1, k1⟩ => ?_) x⟩
  subst e1
  rw [dq_str r1]
  refine ⟨⟨z, rfl⟩, s2 O1 ρ σ H1 _ _ XX (S.go f1 o1) k1 (fun O2 d w H2 f2 o2 r2 ⟨y, e2, h1, h2, k2⟩ => ?_) (x.go f1)⟩
  subst e2
  rw [dq_str r2]
  refine ⟨z, y, rfl, rfl, h1, h2, fun p hp => ?_⟩
  obtain ⟨o3, f3, n⟩ := o2.new (u := .lst ((Txt.split z y).map V.str)) hp
  exact q O2 _ _ _ ((f1.trans f2).trans f3) o3 (.dat (.lst n upd_same (ClsH.undat (K := X.K) (cls_strs _)))) k2
end
/-! ## a text cut at a sign -/
abbrev cps (z : Str) : List Nat := z.cps.toList
theorem cut_one (z : Str) (s : Nat) : s ∉ cps z ∨ ∃ a b : Str, s ∉ cps a ∧ cps z = cps a ++ s :: cps b := by
  have key : ∀ l : List Nat, s ∉ l ∨ ∃ a b : List Nat, s ∉ a ∧ l = a ++ s :: b := by
    intro l
    induction l with
    | nil => exact .inl (by simp)
    | cons c l ih =>
      by_cases h : c = s
      · subst h
        exact .inr ⟨[], l, by simp, rfl⟩
      · rcases ih with ih | ⟨a, b, h1, rfl⟩
        · exact .inl (by simp [Ne.symm h, ih])
        · exact .inr ⟨c :: a, b, by simp [Ne.symm h, h1], rfl⟩
  rcases key (cps z) with h | ⟨a, b, h1, h2⟩
  · exact .inl h
  · exact .inr ⟨⟨a.toArray⟩, ⟨b.toArray⟩, by simpa using h1, by simpa using h2⟩
theorem app_cps (a b : Str) : cps (a ++ b) = cps a ++ cps b := TL.tl_append a b
theorem sl_cps : cps ("/" : Str) = [47] := by decide +kernel
theorem parts_ex : ∀ (n : Nat) (b : Str), (cps b).length ≤ n → ∃ parts : List Str, parts ≠ [] ∧ (∀ p ∈ parts, 47 ∉ cps p) ∧ Str.join "/" parts = b
  | 0, b, h => ⟨[b], by simp, fun p hp => by
      rw [List.mem_singleton.mp hp, List.length_eq_zero_iff.mp (Nat.le_zero.mp h)]
      simp, rfl⟩
  | n + 1, b, h => by
    rcases cut_one b 47 with h1 | ⟨a, c, h1, h2⟩
    · exact ⟨[b], by simp, fun p hp => by rw [List.mem_singleton.mp hp]; exact h1, rfl⟩
    · obtain ⟨parts, p1, p2, p3⟩ := parts_ex n c (by rw [h2, List.length_append, List.length_cons] at h; omega)
      obtain ⟨q, r, rfl⟩ : ∃ q r, parts = q :: r := by cases parts with
        | nil => exact absurd rfl p1
        | cons q r => exact ⟨q, r, rfl⟩
      refine ⟨a :: q :: r, by simp, fun p hp => ?_, ?_⟩
      · rcases List.mem_cons.mp hp with rfl | hp
        · exact h1
        · exact p2 p hp
      · show a ++ "/" ++ Str.join "/" (q :: r) = b
        rw [p3]
        refine str_ext ?_
        show cps (a ++ "/" ++ c) = cps b
        rw [app_cps, app_cps, sl_cps, h2]
        simp
theorem split_of {parts : List Str} (h1 : parts ≠ []) (h2 : ∀ p ∈ parts, 47 ∉ cps p) : Txt.split (Str.join "/" parts) "/" = parts := by
  rw [← TL.join_eq]
  exact TL.split_join (y := "/") (s := 47) (S := []) sl_cps (by decide +kernel) h1 h2
theorem split_no {z : Str} (h : 47 ∉ cps z) : Txt.split z "/" = [z] ∧ Txt.partition z "/" = (z, Str.empty, Str.empty) :=
  ⟨split_of (parts := [z]) (by simp) (fun p hp => by rw [List.mem_singleton.mp hp]; exact h), TL.partition_none (y := "/") (s := 47) (S := []) sl_cps h⟩
theorem split_at {z a b : Str} (h : 47 ∉ cps a) (e : cps z = cps a ++ 47 :: cps b) : Txt.partition z "/" = (a, ("/" : Str), b) ∧ Txt.split z "/" = a :: Txt.split b "/" := by
  have ez : z = a ++ "/" ++ b := by
    refine str_ext ?_
    show cps z = cps (a ++ "/" ++ b)
    rw [app_cps, app_cps, sl_cps, e]
    simp
  obtain ⟨parts, p1, p2, p3⟩ := parts_ex _ b (Nat.le_refl _)
  refine ⟨by rw [ez]; exact TL.partition_app (y := "/") (s := 47) (S := []) sl_cps h, ?_⟩
  obtain ⟨q, r, rfl⟩ : ∃ q r, parts = q :: r := by cases parts with
    | nil => exact absurd rfl p1
    | cons q r => exact ⟨q, r, rfl⟩
  have e1 : z = Str.join "/" (a :: q :: r) := by
    show z = a ++ "/" ++ Str.join "/" (q :: r)
    rw [p3, ez]
  rw [e1, split_of (by simp) (fun p hp => by
    rcases List.mem_cons.mp hp with rfl | hp
    · exact h
    · exact p2 p hp), ← p3, split_of p1 p2]
/-- a text with a slash is no number -/
theorem num_no {l : List Nat} (h : 47 ∈ l) : numT l = none := by
  have f : 47 ∈ figL l := by
    unfold figL
    split
    · rename_i h1
      cases l with
      | nil => cases h
      | cons c r =>
        have : c = 45 := by simpa using h1
        subst this
        rcases List.mem_cons.mp h with h | h
        · cases h
        · simpa using h
    · exact h
  have d : (figL l).all digQ = false := by
    rw [List.all_eq_false]
    exact ⟨47, f, by decide +kernel⟩
  unfold numT
  rw [d]
  split <;> rfl
/-! ## goals that go on in the same way, however they came there -/
theorem pick (Pr : Ob → Cl → Prop) {t : KC → Prop} {Kc' : KC} (k : ∀ K : KC, (∀ O c, Pr O c → K O c) → t K) (h : ∀ O c, Pr O c → Kc' O c) : t Kc' := k _ h
theorem pickT (Pr : Ob → Bool → Prop) {t : (Ob → Bool → Prop) → Prop} {Kc' : Ob → Bool → Prop} (k : ∀ K : Ob → Bool → Prop, (∀ O b, Pr O b → K O b) → t K) (h : ∀ O b, Pr O b → Kc' O b) : t Kc' := k _ h
end Ab
namespace Ab
open PySem PySem.Spec PyProof.Rows L2 Vg
section
variable {X : Cx} {W : WX}
/-! ## two derivations of one expression: which one holds is known where the cell is known -/
def aEi (a b : AE) : AE := fun O ρ XX Kc => a O ρ XX Kc ∨ b O ρ XX Kc
theorem de_or2 {e : Expr} {a b : AE} (h : DE X W e a) (k : DE X W e b) : DE X W e (aEi a b) := by
  obtain ⟨t, p, s⟩ := h.ex
  obtain ⟨u, p2, s2⟩ := k.ex
  exact ⟨fun σ H Q => t σ H Q ∨ u σ H Q, ⟨fun pins s1 σ H Q I z => z.elim (p.run pins s1 σ H Q I) (p2.run pins s1 σ H Q I)⟩,
    fun O ρ σ H Q Kc XX S z q x => z.imp (fun z => s O ρ σ H Q Kc XX S z q x) (fun z => s2 O ρ σ H Q Kc XX S z q x)⟩
def aIi (a b : AIt) : AIt := fun O ρ XX Kc => a O ρ XX Kc ∨ b O ρ XX Kc
theorem di_or2 {tg e : Expr} {a b : AIt} (h : DI X W tg e a) (k : DI X W tg e b) : DI X W tg e (aIi a b) := by
  obtain ⟨t, p, s⟩ := h.ex
  obtain ⟨u, p2, s2⟩ := k.ex
  exact ⟨fun σ H R => t σ H R ∨ u σ H R, ⟨fun pins s1 σ H R I z => z.elim (p.run pins s1 σ H R I) (p2.run pins s1 σ H R I)⟩,
    fun O ρ σ H R Kc XX S z q x => z.imp (fun z => s O ρ σ H R Kc XX S z q x) (fun z => s2 O ρ σ H R Kc XX S z q x)⟩
end
/-! ## what a def that looks at lists sees -/
def RdA (O : Ob) (c : Cl) : Option (List Cl) → Prop
  | none => ∃ n, Kn O c n ∧ (n == "list" || n == "tuple") = false
  | some es => ((Els O c es ∧ Kn O c "list") ∨ (ElsT c es ∧ Kn O c "tuple")) ∧ (∀ e ∈ es, ∃ n, Kn O e n) ∧ es.length < 1000000
theorem Kn.up {O : Ob} {c : Cl} {n : String} (h : Kn O c n) (x : Addr × Ow) : Kn (x :: O) c n := by
  cases h with
  | dat d => exact .dat d
  | own m => exact .own (List.mem_cons_of_mem _ m)
  | dct m => exact .dct (List.mem_cons_of_mem _ m)
  | lis cs => exact .lis cs
  | tup cs => exact .tup cs
  | con ds => exact .con ds
theorem Els.up {O : Ob} {c : Cl} {es : List Cl} (h : Els O c es) (x : Addr × Ow) : Els (x :: O) c es := by
  cases h with
  | dat => exact .dat _
  | own m => exact .own (List.mem_cons_of_mem _ m)
  | lis => exact .lis _
theorem RdA.up {O : Ob} {c : Cl} {r : Option (List Cl)} (h : RdA O c r) (x : Addr × Ow) : RdA (x :: O) c r := by
  cases r with
  | none =>
    obtain ⟨n, hn, e⟩ := h
    exact ⟨n, hn.up x, e⟩
  | some es =>
    obtain ⟨h1, h2, h3⟩ := h
    exact ⟨h1.imp (fun z => ⟨z.1.up x, z.2.up x⟩) (fun z => ⟨z.1, z.2.up x⟩), fun e he => (h2 e he).imp fun n hn => hn.up x, h3⟩
theorem RdA.kn {O : Ob} {c : Cl} {r : Option (List Cl)} (h : RdA O c r) : ∃ n, Kn O c n ∧ (n == "list" || n == "tuple") = r.isSome := by
  cases r with
  | none => exact h
  | some es =>
    rcases h.1 with ⟨_, h⟩ | ⟨_, h⟩
    · exact ⟨_, h, rfl⟩
    · exact ⟨_, h, rfl⟩
/-- a list or a tuple is gone through -/
theorem RdA.it {O : Ob} {c : Cl} {es : List Cl} (h : RdA O c (some es)) {ρ : Rho} {XX : XC} {i : Nat} {Kc : Ob → List Cl → (Ob → Prop) → Prop} (hi : ρ[i]? = some (some c)) (k1 : Kc O es fun O2 => Els O2 c es) (k2 : Kc O es fun _ => True) :
    aIi (aItL (aVar i)) (aItT (aVar i)) O ρ XX Kc := by
  rcases h.1 with ⟨h, _⟩ | ⟨h, _⟩
  · exact .inl ⟨c, hi, es, h, k1⟩
  · exact .inr ⟨c, hi, es, h, k2⟩
/-- its length -/
theorem RdA.len {O : Ob} {c : Cl} {es : List Cl} (h : RdA O c (some es)) {Kc : KC} (k : Kc O (.dat (.int es.length))) : bLen O [c] Kc := by
  rcases h.1 with ⟨h, _⟩ | ⟨h, _⟩
  · exact ⟨c, es.length, rfl, .inl ⟨es, .inl h, rfl⟩, k⟩
  · exact ⟨c, es.length, rfl, .inl ⟨es, .inr h, rfl⟩, k⟩
/-! ## lists of whole numbers -/
def intsC : List Cl → Option (List Int)
  | [] => some []
  | .dat (.int i) :: cs => (intsC cs).map (i :: ·)
  | _ => none
def iCl (is : List Int) : List Cl := is.map fun i => .dat (.int i)
theorem intsC_eq : ∀ {cs : List Cl} {is : List Int}, intsC cs = some is → cs = iCl is
  | [], is, h => by cases h; rfl
  | .dat (.int i) :: cs, is, h => by
    obtain ⟨js, e1, e2⟩ := Option.map_eq_some_iff.mp (show (intsC cs).map (i :: ·) = some is from h)
    rw [← e2, intsC_eq e1]
    rfl
  | .dat .none :: _, _, h => by cases h
  | .dat (.bool _) :: _, _, h => by cases h
  | .dat (.str _) :: _, _, h => by cases h
  | .dat (.list _) :: _, _, h => by cases h
  | .dat (.tuple _) :: _, _, h => by cases h
  | .dat (.dict _) :: _, _, h => by cases h
  | .at _ :: _, _, h => by cases h
  | .raw _ :: _, _, h => by cases h
  | .scr _ :: _, _, h => by cases h
  | .lis _ :: _, _, h => by cases h
  | .tup _ :: _, _, h => by cases h
  | .exc _ _ _ _ :: _, _, h => by cases h
  | .con _ :: _, _, h => by cases h
theorem intsC_some (is : List Int) : intsC (iCl is) = some is := by
  induction is with
  | nil => rfl
  | cons i is ih =>
    show (intsC (iCl is)).map (i :: ·) = _
    rw [ih]
    rfl
theorem intsC_all : ∀ cs : List Cl, cs.all numC = (intsC cs).isSome
  | [] => rfl
  | .dat (.int i) :: cs => by
    show (true && cs.all numC) = ((intsC cs).map (i :: ·)).isSome
    rw [Bool.true_and, intsC_all cs]
    cases intsC cs <;> rfl
  | .dat .none :: _ => rfl
  | .dat (.bool _) :: _ => rfl
  | .dat (.str _) :: _ => rfl
  | .dat (.list _) :: _ => rfl
  | .dat (.tuple _) :: _ => rfl
  | .dat (.dict _) :: _ => rfl
  | .at _ :: _ => rfl
  | .raw _ :: _ => rfl
  | .scr _ :: _ => rfl
  | .lis _ :: _ => rfl
  | .tup _ :: _ => rfl
  | .exc _ _ _ _ :: _ => rfl
  | .con _ :: _ => rfl
/-! ## zip of two lists, of two tuples -/
def zipC (es fs : List Cl) : List Cl := List.zipWith (fun e f => tupC [e, f]) es fs
theorem zipC_get {es fs : List Cl} {j : Nat} {e : Cl} (h : (zipC es fs)[j]? = some e) : ∃ x y, es[j]? = some x ∧ fs[j]? = some y ∧ e = tupC [x, y] := by
  unfold zipC at h
  rw [List.getElem?_zipWith] at h
  cases h1 : es[j]? with
  | none => rw [h1] at h; cases h
  | some x =>
    cases h2 : fs[j]? with
    | none => rw [h1, h2] at h; cases h
    | some y =>
      rw [h1, h2] at h
      cases h
      exact ⟨x, y, rfl, rfl, rfl⟩
theorem zipC_len (es fs : List Cl) : (zipC es fs).length = min es.length fs.length := List.length_zipWith
section
variable {K : PySem.W.Frag} {W : WX}
theorem itok_zip {O : Ob} {H : Hp} {a b : Addr} {c d : Cl} {es fs : List Cl} (r : ClH K (fre O) H (.ref a) c) (r' : ClH K (fre O) H (.ref b) d) : ItOk K O H (Itz K a b) (zipC es fs) (fun O2 => Els O2 c es ∧ Els O2 d fs) := by
  have two : ∀ O' H', Fr O H O' H' → OkO K O' H' → Els O' c es ∧ Els O' d fs → ∃ xs ys, SqL K H' a xs ∧ SqL K H' b ys ∧ ClsH K (fre O') H' xs es ∧ ClsH K (fre O') H' ys fs := fun O' H' f o ⟨s1, s2⟩ => by
    obtain ⟨p, xs, ep, h1, q1⟩ := s1.get o (r.fr f)
    obtain ⟨q, ys, eq, h2, q2⟩ := s2.get o (r'.fr f)
    cases ep
    cases eq
    exact ⟨xs, ys, SqL.of h1, SqL.of h2, q1, q2⟩
  refine ⟨fun O' H' j e f o st hj => ?_, fun O' H' H2 j e v f o st hj hy => ?_, fun O' H' f o st => ?_⟩
  · obtain ⟨xs, ys, h1, h2, q1, q2⟩ := two O' H' f o st
    obtain ⟨x, y, e1, e2, _⟩ := zipC_get hj
    obtain ⟨u, hu, _⟩ := q1.get e1
    obtain ⟨w, hw, _⟩ := q2.get e2
    exact ⟨xs, ys, u, w, h1, h2, hu, hw⟩
  · obtain ⟨xs, ys, h1, h2, q1, q2⟩ := two O' H' f o st
    obtain ⟨x, y, e1, e2, rfl⟩ := zipC_get hj
    obtain ⟨u, hu, ru⟩ := q1.get e1
    obtain ⟨w, hw, rw'⟩ := q2.get e2
    obtain ⟨T, u', w', rfl, hT, rfl, k1, k2⟩ := hy
    have eu : u' = u := by
      have := k1 xs h1
      rw [hu] at this
      exact (Option.some.inj this).symm
    have ew : w' = w := by
      have := k2 ys h2
      rw [hw] at this
      exact (Option.some.inj this).symm
    subst eu ew
    obtain ⟨o2, f2, n⟩ := o.new (u := .tup [u', w']) hT
    exact ⟨o2, f2, cl_tup n upd_same (.cons (ru.fr f2) (.cons (rw'.fr f2) .nil))⟩
  · obtain ⟨xs, ys, h1, h2, q1, q2⟩ := two O' H' f o st
    refine ⟨xs, ys, h1, h2, ?_⟩
    rw [zipC_len, q1.len, q2.len]
    omega
theorem itok_zipT {O : Ob} {H : Hp} {a b : Addr} {c d : Cl} {es fs : List Cl} (r : ClH K (fre O) H (.ref a) c) (r' : ClH K (fre O) H (.ref b) d) (s1 : ElsT c es) (s2 : ElsT d fs) : ItOk K O H (RZ.ItzT K a b) (zipC es fs) (fun _ => True) := by
  have two : ∀ O' H', Fr O H O' H' → OkO K O' H' → ∃ xs ys, SqT K H' a xs ∧ SqT K H' b ys ∧ ClsH K (fre O') H' xs es ∧ ClsH K (fre O') H' ys fs := fun O' H' f o => by
    obtain ⟨p, xs, ep, h1, q1⟩ := s1.get (r.fr f)
    obtain ⟨q, ys, eq, h2, q2⟩ := s2.get (r'.fr f)
    cases ep
    cases eq
    exact ⟨xs, ys, h1, h2, q1, q2⟩
  refine ⟨fun O' H' j e f o st hj => ?_, fun O' H' H2 j e v f o st hj hy => ?_, fun O' H' f o st => ?_⟩
  · obtain ⟨xs, ys, h1, h2, q1, q2⟩ := two O' H' f o
    obtain ⟨x, y, e1, e2, _⟩ := zipC_get hj
    obtain ⟨u, hu, _⟩ := q1.get e1
    obtain ⟨w, hw, _⟩ := q2.get e2
    exact ⟨xs, ys, u, w, h1, h2, hu, hw⟩
  · obtain ⟨xs, ys, h1, h2, q1, q2⟩ := two O' H' f o
    obtain ⟨x, y, e1, e2, rfl⟩ := zipC_get hj
    obtain ⟨u, hu, ru⟩ := q1.get e1
    obtain ⟨w, hw, rw'⟩ := q2.get e2
    obtain ⟨T, u', w', rfl, hT, rfl, k1, k2⟩ := hy
    have eu : u' = u := by
      have := k1 xs h1
      rw [hu] at this
      exact (Option.some.inj this).symm
    have ew : w' = w := by
      have := k2 ys h2
      rw [hw] at this
      exact (Option.some.inj this).symm
    subst eu ew
    obtain ⟨o2, f2, n⟩ := o.new (u := .tup [u', w']) hT
    exact ⟨o2, f2, cl_tup n upd_same (.cons (ru.fr f2) (.cons (rw'.fr f2) .nil))⟩
  · obtain ⟨xs, ys, h1, h2, q1, q2⟩ := two O' H' f o
    refine ⟨xs, ys, h1, h2, ?_⟩
    rw [zipC_len, q1.len, q2.len]
    omega
def aItZ (a : AA) : AIt := fun O ρ XX Kc => a O ρ XX fun O1 cs => ∃ c d es fs, cs = [c, d] ∧
  ((Els O1 c es ∧ Els O1 d fs ∧ Kc O1 (zipC es fs) fun O2 => Els O2 c es ∧ Els O2 d fs) ∨ (ElsT c es ∧ ElsT d fs ∧ Kc O1 (zipC es fs) fun _ => True))
theorem sai_zip {t : TA} {a : AA} (ha : SaA K W t a) : SaI K W (RZ.iZipA K t) (aItZ a) := fun O ρ σ H R Kc XX S k q x =>
  ha O ρ σ H _ _ XX S k (fun O1 cs vs H1 f1 o1 r1 ⟨c, d, es, fs, e, h⟩ => by
    subst e
    obtain ⟨v, w, rfl, rv, rw'⟩ := cls2 r1
    rcases h with ⟨s1, s2, k1⟩ | ⟨s1, s2, k1⟩
    · obtain ⟨p, xs, rfl, hp, rs⟩ := s1.get o1 rv
      obtain ⟨q', ys, rfl, hq, rs2⟩ := s2.get o1 rw'
      exact ⟨p, q', xs, ys, rfl, .inl ⟨SqL.of hp, SqL.of hq, q O1 H1 _ _ _ f1 o1 (itok_zip rv rw') k1⟩⟩
    · obtain ⟨p, xs, rfl, hp, rs⟩ := s1.get rv
      obtain ⟨q', ys, rfl, hq, rs2⟩ := s2.get rw'
      exact ⟨p, q', xs, ys, rfl, .inr ⟨hp, hq, q O1 H1 _ _ _ f1 o1 (itok_zipT rv rw' s1 s2) k1⟩⟩) x
end
section
variable {X : Cx} {W : WX}
theorem di_zip {e e2 : Expr} {aa : AA} {p pos tpos : Pos} {elts : List Expr} {kk : Nat} (hg : Gl X "zip") (hm : X.mg "zip" = none) (ha : DA X W [e, e2] aa)
    (hs : starEach [e, e2] X.env = (false, eval e X.env) :: starEach [e2] X.env := by rfl) (hpl : (backTo pos (starEach [e2] X.env)).any (·.1) = false := by rfl) :
    DI X W (.Tuple elts kk tpos) (.Call (.Name "zip" p) [e, e2] [] pos) (aItZ aa) := by
  obtain ⟨t, p', s⟩ := ha.ex
  exact ⟨_, RZ.pi_zipA hg hm p' hs hpl, sai_zip s⟩
/-! ## continue, a star in a display -/
def aCont : AS := fun A _ O ρ => A.ct O ρ
theorem ds_cont {pos : Pos} : DS X W (.Continue pos) aCont := ⟨_, ps_continue, fun O ρ σ H D A XX S k e x => e.ct O ρ σ H (Fr.refl _ _) S k⟩
end
/-! ## a comprehension with two names -/
section
variable {K : PySem.W.Frag} {W : WX}
def aLcT (own : Bool) (it : AIt) (i k : Nat) (tt : AT) (te : AE) : AE := fun O ρ XX Kc => it O ρ XX fun O1 cs St => ∀ D, ∃ Wi : Nat → Ob → Prop, Wi 0 ((D, .lst []) :: O1) ∧
  (∀ j O2 e, cs[j]? = some e → Wi j O2 → St O2 ∧ ∃ x y, ElsT e [x, y] ∧ tt O2 (((wipeR ρ [i, k]).set i (some x)).set k (some y)) X0 fun O3 b =>
    if b = true then te O3 (((wipeR ρ [i, k]).set i (some x)).set k (some y)) X0 fun O4 z => ∃ acc f, Lo O4 D (.lst acc) f ∧ acc.length < 1000000 ∧ Wi (j + 1) (f (.lst (acc ++ [z]))) else Wi (j + 1) O3) ∧
  ∀ O2, Wi cs.length O2 → St O2 ∧ ∃ acc R, O2 = (D, .lst acc) :: R ∧ if own = true then Kc O2 (.at D) else Kc R (lisC acc)
theorem wipe_two (σ : L2.St) {i k : Nat} (hik : i ≠ k) (a b : Option V) : wipe (((wipe σ [i, k]).set i a).set k b) [i, k] = wipe σ [i, k] := by
  show ((((((σ.set k none).set i none).set i a).set k b).set k none).set i none) = (σ.set k none).set i none
  rw [List.set_set, List.set_set, List.set_comm _ _ hik, List.set_set, List.set_set, List.set_comm _ _ (Ne.symm hik)]
theorem sa_lcT {own : Bool} {wi : TI} {i k : Nat} (hik : i ≠ k) {tt : TT} {te : TE} {it : AIt} {a : AT} {b : AE} (hi : SaI K W wi it) (ht : SaT K W0 tt a) (he : SaE K W0 te b) :
    SaE K W (tLc wi (gTup K 2 (gCons (gName i) (gCons (gName k) gNil))) tt te [i, k]) (aLcT own it i k a b) := fun O ρ σ H Q Kc XX S kk q x =>
  hi O ρ σ H _ _ XX S kk (fun O1 H1 J cs St f1 o1 hJ k1 => by
    intro D hD
    obtain ⟨Wi, w0, turn, last⟩ := k1 D
    obtain ⟨oD, fD⟩ := own_lst (vs := []) (cs := []) o1 .nil hD
    refine ⟨fun j m H' => m = cs.length - j ∧ j ≤ cs.length ∧ ∃ O2, Fr O1 H1 O2 H' ∧ OkO K O2 H' ∧ Wi j O2, ⟨_, rfl, Nat.zero_le _, _, fD, oD, w0⟩, ?_⟩
    rintro j m H2 ⟨rfl, hj, O2, f2, o2, w2⟩
    by_cases hl : j < cs.length
    · obtain ⟨c, hc⟩ : ∃ c, cs[j]? = some c := ⟨_, List.getElem?_eq_getElem hl⟩
      obtain ⟨st, cx, cy, hT, kt⟩ := turn j O2 c hc w2
      refine .inr ⟨hJ.go O2 H2 j c f2 o2 st hc, fun H' => j + 1 ≤ cs.length ∧ ∃ O2, Fr O1 H1 O2 H' ∧ OkO K O2 H' ∧ Wi (j + 1) O2, fun H' ⟨h1, h2⟩ => ⟨_, by omega, rfl, h1, h2⟩, fun v H3 hy => ?_⟩
      obtain ⟨o3, f3, r3⟩ := hJ.yld O2 H2 H3 j c v f2 o2 st hc hy
      have f03 := (f1.trans f2).trans f3
      obtain ⟨p, xs, rfl, hp, rs⟩ := hT.get r3
      obtain ⟨u1, u2, rfl, ru1, ru2⟩ := cls2 rs
      have S3 := ((ss_wipe (S.go f03 o3) [i, k]).set (i := i) ru1).set (i := k) ru2
      refine ⟨p, _, rfl, hp, rfl, _, _, rfl, _, _, rfl, rfl, wipe_two σ hik _ _, ?_⟩
      refine ht O2 _ _ H3 _ _ X0 S3 kt (fun O4 z H4 f4 o4 k4 => ?_) x0
      have f14 := (f2.trans f3).trans f4
      cases z with
      | true =>
        rw [if_pos rfl] at k4 ⊢
        refine he O4 _ _ H4 _ _ X0 (S3.go f4 o4) k4 (fun O5 y u H5 f5 o5 r5 ⟨acc, f, lo, hz, w5⟩ => ?_) x0
        obtain ⟨ys, hys, rs5⟩ := o5.lo lo
        refine ⟨ys, hys, by rw [rs5.len]; exact Nat.lt_of_lt_of_le hz (by decide), hl, _, ?_, ?_, w5⟩
        · exact (f14.trans f5).trans (o5.app lo hys rs5 r5).2
        · exact (o5.app lo hys rs5 r5).1
      | false =>
        rw [if_neg Bool.false_ne_true] at k4 ⊢
        exact ⟨hl, O4, f14, o4, k4⟩
    · have ej : j = cs.length := by omega
      subst ej
      obtain ⟨st, acc, R, rfl, kl⟩ := last O2 w2
      refine .inl ⟨hJ.stop _ H2 f2 o2 st, ?_⟩
      cases own with
      | true => exact q _ _ _ H2 (f1.trans f2) o2 (.at D) (by simpa using kl)
      | false =>
        have k' : Kc R (lisC acc) := by simpa using kl
        obtain ⟨xs, hxs, rs⟩ := o2.all _ (List.mem_cons_self ..)
        have o3 := o2.unown
        have nD : fre R D := fun y hy e => (List.nodup_cons.mp o2.nd).1 (List.mem_map.mpr ⟨y, hy, e⟩)
        have fR : Fr O1 H1 R H2 := ⟨f2.keep, fun c v fc e => fre_cons (f2.free c v fc e), f2.dom⟩
        exact q R _ _ H2 (f1.trans fR) o3 (cl_lis nD hxs (rs.mono (fun _ _ _ e => e) fun c v fc _ => fre_cons fc)) k') x
end
section
variable {X : Cx} {W : WX}
theorem de_lcT {elt tg iter : Expr} {scope : Scope} {x y : Str} {i k : Nat} {pos : Pos} {it : AIt} {b : AE} (own : Bool) (hik : i ≠ k) (hc : X.calm = true) (hN : X.N.Nodup) (hi : DI X W tg iter it) (ok : BlkOk X.N X.env.scope scope [(x, i), (y, k)])
    (hg : ∀ (s : Shared) (H : Hp) (C : Addr) (cl : List (Str × Addr)) (fp : List Addr), PG (X.blk s H scope (compEnvC scope cl C X.env) fp) tg (gTup X.K 2 (gCons (gName i) (gCons (gName k) gNil))))
    (he : ∀ (s : Shared) (H : Hp) (C : Addr) (cl : List (Str × Addr)) (fp : List Addr), DE (X.blk s H scope (compEnvC scope cl C X.env) fp) W0 elt b) (hs : ∀ x, foldedSetIterable iter X.env x = pure x := by intro _; rfl) :
    DE X W (.ListComp elt [⟨tg, iter, [], 0⟩] scope pos) (aLcT own it i k (fun O _ _ Kc => Kc O true) b) := by
  obtain ⟨wi, p, s⟩ := hi.ex
  refine ⟨_, pe_lc (own := [(x, i), (y, k)]) (tt := tYes) (te := upE X.K W0 b) hc hN p ok hg (fun _ _ _ _ _ => pts_nil) (fun s H C cl fp => (he s H C cl fp).pe) hs, ?_⟩
  exact sa_lcT hik s (fun O ρ σ H Q Kc XX S k q x => q O true H (Fr.refl _ _) S.o k) up_e
/-! ## a star in a display -/
def aStar (a : AE) (b : AA) : AA := fun O ρ XX Kc => a O ρ XX fun O1 c => ∃ xs, ((Els O1 c xs ∧ ∀ O2, Els O2 c xs → True) ∨ ElsT c xs) ∧ b O1 ρ XX fun O2 cs => Kc O2 (xs ++ cs)
theorem da_star {e : Expr} {es : List Expr} {a : AE} {b : AA} {p : Pos} (h : DE X W e a) (r : DA X W es b) (hs : starEach (.Starred e p :: es) X.env = (true, eval e X.env) :: starEach es X.env := by rfl) : DA X W (.Starred e p :: es) (aStar a b) := by
  obtain ⟨t, p1, s⟩ := h.ex
  obtain ⟨u, p2, s2⟩ := r.ex
  refine ⟨_, StX.pa_star p1 p2 hs, fun O ρ σ H Q Kc XX S k q x => s O ρ σ H _ _ XX S k (fun O1 c v H1 f1 o1 r1 ⟨xs, hx, k1⟩ => ?_) x⟩
  obtain ⟨a', vs, rfl, ha, rs⟩ : ∃ a' vs, v = .ref a' ∧ (SqT X.K H1 a' vs ∨ SqL X.K H1 a' vs) ∧ ClsH X.K (fre O1) H1 vs xs := by
    rcases hx with ⟨h, _⟩ | h
    · obtain ⟨a', vs, e, ha, rs⟩ := h.get o1 r1
      exact ⟨a', vs, e, .inr (SqL.of ha), rs⟩
    · obtain ⟨a', vs, e, ha, rs⟩ := h.get r1
      exact ⟨a', vs, e, .inl ha, rs⟩
  refine ⟨a', vs, rfl, ha, s2 O1 ρ σ H1 _ _ XX (S.go f1 o1) k1 (fun O2 cs ws H2 f2 o2 r2 k2 => ?_) (x.go f1)⟩
  exact q O2 _ _ H2 (f1.trans f2) o2 ((rs.fr f2).app r2) k2
end
/-! ## all([.. for x in xs]), xs a list or a tuple of whole numbers -/
theorem iCl_get {is : List Int} {j : Nat} {e : Cl} (h : (iCl is)[j]? = some e) : ∃ x, is[j]? = some x ∧ e = .dat (.int x) := by
  unfold iCl at h
  rw [List.getElem?_map] at h
  obtain ⟨x, h1, h2⟩ := Option.map_eq_some_iff.mp h
  exact ⟨x, h1, h2.symm⟩
theorem all_step {bs : List Bool} {j : Nat} {b : Bool} (h : bs[j]? = some b) : (bs.take (j + 1)).map (fun b => Cl.dat (.bool b)) = (bs.take j).map (fun b => Cl.dat (.bool b)) ++ [.dat (.bool b)] := by
  rw [List.take_add_one, h, List.map_append]
  rfl
theorem all_over {O : Ob} {ρ : Rho} {XX : XC} {Kc : KC} {c : Cl} {is : List Int} {s i : Nat} {te : AE} {g : Int → Bool} (hs : ρ[s]? = some (some c)) (hc : Els O c (iCl is) ∨ ElsT c (iCl is)) (hz : is.length < 1000000)
    (hte : ∀ (O' : Ob) (x : Int) (K : KC), K O' (.dat (.bool (g x))) → te O' ((wipeR ρ [i]).set i (some (.dat (.int x)))) X0 K) (k : Kc O (.dat (.bool (is.all g)))) :
    aCB bAll (aCons (aLc false (aIi (aItL (aVar s)) (aItT (aVar s))) i (fun O _ _ Kc => Kc O true) te) aNil) O ρ XX Kc := by
  have len : (iCl is).length = is.length := by simp [iCl]
  have e3 : (is.map g).all id = is.all g := by simp [List.all_map, Function.comp_def]
  rcases hc with h | h
  · refine .inl ⟨c, hs, iCl is, h, fun D => ⟨fun j O2 => O2 = (D, .lst (((is.map g).take j).map fun b => Cl.dat (.bool b))) :: O, by simp, ?_, ?_⟩⟩
    · rintro j O2 e hj rfl
      obtain ⟨x, hx, rfl⟩ := iCl_get hj
      refine ⟨h.up _, hte _ x _ ⟨_, _, .here, by simp; omega, ?_⟩⟩
      have hb : (is.map g)[j]? = some (g x) := by rw [List.getElem?_map, hx]; rfl
      show (D, Ow.lst _) :: O = (D, Ow.lst _) :: O
      rw [all_step hb]
    · rintro O2 rfl
      refine ⟨h.up _, _, _, rfl, ?_⟩
      have e2 : (is.map g).take (iCl is).length = is.map g := List.take_of_length_le (by rw [len]; simp)
      rw [e2, if_neg Bool.false_ne_true]
      refine ⟨_, is.map g, rfl, elsC _ _, ?_⟩
      rw [e3]
      exact k
  · refine .inr ⟨c, hs, iCl is, h, fun D => ⟨fun j O2 => O2 = (D, .lst (((is.map g).take j).map fun b => Cl.dat (.bool b))) :: O, by simp, ?_, ?_⟩⟩
    · rintro j O2 e hj rfl
      obtain ⟨x, hx, rfl⟩ := iCl_get hj
      refine ⟨trivial, hte _ x _ ⟨_, _, .here, by simp; omega, ?_⟩⟩
      have hb : (is.map g)[j]? = some (g x) := by rw [List.getElem?_map, hx]; rfl
      show (D, Ow.lst _) :: O = (D, Ow.lst _) :: O
      rw [all_step hb]
    · rintro O2 rfl
      refine ⟨trivial, _, _, rfl, ?_⟩
      have e2 : (is.map g).take (iCl is).length = is.map g := List.take_of_length_le (by rw [len]; simp)
      rw [e2, if_neg Bool.false_ne_true]
      refine ⟨_, is.map g, rfl, elsC _ _, ?_⟩
      rw [e3]
      exact k
theorem all_zip {O : Ob} {ρ : Rho} {XX : XC} {Kc : KC} {c : Cl} {is js : List Int} {i m : Nat} {a : AA} {te : AE} {g : Int → Int → Bool} (ha : ∀ K : Ob → List Cl → Prop, (∀ d, ((Els O c (iCl is) ∧ Els O d (iCl js)) ∨ (ElsT c (iCl is) ∧ ElsT d (iCl js))) → K O [c, d]) → a O ρ XX K)
    (hz : is.length < 1000000)
    (hte : ∀ (O' : Ob) (x y : Int) (K : KC), K O' (.dat (.bool (g x y))) → te O' (((wipeR ρ [i, m]).set i (some (.dat (.int x)))).set m (some (.dat (.int y)))) X0 K) (k : Kc O (.dat (.bool ((List.zipWith g is js).all id)))) :
    aCB bAll (aCons (aLcT false (aItZ a) i m (fun O _ _ Kc => Kc O true) te) aNil) O ρ XX Kc := by
  have len : (zipC (iCl is) (iCl js)).length = (List.zipWith g is js).length := by rw [zipC_len, List.length_zipWith]; simp [iCl]
  have get : ∀ {j : Nat} {e : Cl}, (zipC (iCl is) (iCl js))[j]? = some e → ∃ x y, e = tupC [.dat (.int x), .dat (.int y)] ∧ (List.zipWith g is js)[j]? = some (g x y) := fun hj => by
    obtain ⟨u, v, h1, h2, rfl⟩ := zipC_get hj
    obtain ⟨x, hx, rfl⟩ := iCl_get h1
    obtain ⟨y, hy, rfl⟩ := iCl_get h2
    exact ⟨x, y, rfl, by rw [List.getElem?_zipWith, hx, hy]⟩
  have lz : (List.zipWith g is js).length < 1000000 := by rw [List.length_zipWith]; omega
  refine ha _ fun d hcd => ⟨c, d, iCl is, iCl js, rfl, ?_⟩
  rcases hcd with ⟨h1, h2⟩ | ⟨h1, h2⟩
  · refine .inl ⟨h1, h2, fun D => ⟨fun j O2 => O2 = (D, .lst (((List.zipWith g is js).take j).map fun b => Cl.dat (.bool b))) :: O, by simp, ?_, ?_⟩⟩
    · rintro j O2 e hj rfl
      obtain ⟨x, y, rfl, hb⟩ := get hj
      refine ⟨⟨h1.up _, h2.up _⟩, _, _, .dat [.int x, .int y], hte _ x y _ ⟨_, _, .here, ?_, ?_⟩⟩
      · rw [List.length_map, List.length_take]; omega
      · show (D, Ow.lst _) :: O = (D, Ow.lst _) :: O
        rw [all_step hb]
    · rintro O2 rfl
      refine ⟨⟨h1.up _, h2.up _⟩, _, _, rfl, ?_⟩
      have e2 : (List.zipWith g is js).take (zipC (iCl is) (iCl js)).length = List.zipWith g is js := List.take_of_length_le (by rw [len]; exact Nat.le_refl _)
      rw [e2, if_neg Bool.false_ne_true]
      exact ⟨_, List.zipWith g is js, rfl, elsC _ _, k⟩
  · refine .inr ⟨h1, h2, fun D => ⟨fun j O2 => O2 = (D, .lst (((List.zipWith g is js).take j).map fun b => Cl.dat (.bool b))) :: O, by simp, ?_, ?_⟩⟩
    · rintro j O2 e hj rfl
      obtain ⟨x, y, rfl, hb⟩ := get hj
      refine ⟨trivial, _, _, .dat [.int x, .int y], hte _ x y _ ⟨_, _, .here, ?_, ?_⟩⟩
      · rw [List.length_map, List.length_take]; omega
      · show (D, Ow.lst _) :: O = (D, Ow.lst _) :: O
        rw [all_step hb]
    · rintro O2 rfl
      refine ⟨trivial, _, _, rfl, ?_⟩
      have e2 : (List.zipWith g is js).take (zipC (iCl is) (iCl js)).length = List.zipWith g is js := List.take_of_length_le (by rw [len]; exact Nat.le_refl _)
      rw [e2, if_neg Bool.false_ne_true]
      exact ⟨_, List.zipWith g is js, rfl, elsC _ _, k⟩
end Ab
namespace Ab
open PySem PySem.Spec PyProof.Rows L2 Vg
section
variable {X : Cx} {K : PySem.W.Frag}
/-! ## a list against the empty one -/
def rNeLen (K : PySem.W.Frag) : R2 := fun x y H Q => ∃ a b xs ys, x = .ref a ∧ y = .ref b ∧ SqL K H a xs ∧ SqL K H b ys ∧ ((xs.length ≠ ys.length ∧ Q (.bl true) H) ∨ (xs = [] ∧ ys = [] ∧ Q (.bl false) H))
theorem op_neLen (hu : X.A.units + 64 < cLine) : OpR X (compareOp .NotEq) (rNeLen X.K) := by
  intro pins s σ H x y v u Q I rx ry h
  obtain ⟨a, b, xs, ys, rfl, rfl, ha, hb, h⟩ := h
  rcases h with ⟨hl, q⟩ | ⟨e1, e2, q⟩
  · cases rx
    cases ry
    obtain ⟨its, r1, l1, _⟩ := I.list ha
    obtain ⟨jts, r2, l2, _⟩ := I.list hb
    refine SeqAt.RcNeAt.lists_lengths l1.isList l2.isList ?_ (by omega) X.prog X.w _ _ ⟨.bl true, H, I, rfl, q⟩
    rw [bne_iff_ne]
    have e1 := r1.length
    have e2 := r2.length
    simp only [List.size_toArray]
    omega
  · subst e1 e2
    exact op_neD hu pins s σ H _ _ v u Q I rx ry ⟨.list [], .list [], .lst ha .nil, .lst hb .nil, by decide +kernel, by decide +kernel, q⟩
def aNeNil : AR2 := fun O c c' Kc => ∃ cs, Els O c cs ∧ c' = .dat (.list []) ∧ Kc O (.dat (.bool (!cs.isEmpty)))
theorem sr_neNil : SR2 K (rNeLen K) aNeNil := fun O H Q Kc c c' v v' o r r' ⟨cs, h, e, k⟩ q => by
  subst e
  obtain ⟨a, xs, rfl, ha, rs⟩ := h.get o r
  obtain ⟨b, ys, rfl, hb, rs2⟩ := (Els.dat (O := O) []).get o r'
  have ey : ys = [] := by cases rs2; rfl
  subst ey
  refine ⟨a, b, xs, [], rfl, rfl, SqL.of ha, SqL.of hb, ?_⟩
  have k' := q O _ _ H (Fr.refl _ _) o (.dat (.bl _)) k
  cases rs with
  | nil => exact .inr ⟨rfl, rfl, k'⟩
  | cons h r => exact .inl ⟨by simp, k'⟩
end
/-! ## [x for x in xs if ..], xs a list or a tuple -/
abbrev SqE (O : Ob) (c : Cl) (es : List Cl) : Prop := Els O c es ∨ ElsT c es
theorem SqE.up {O : Ob} {c : Cl} {es : List Cl} (h : SqE O c es) (x : Addr × Ow) : SqE (x :: O) c es := h.imp (·.up x) id
/-- an iterator that stays while objects are made -/
def ItS (it : AIt) (O : Ob) (ρ : Rho) (XX : XC) (es : List Cl) : Prop := ∀ Kc' : Ob → List Cl → (Ob → Prop) → Prop, (∀ St : Ob → Prop, (∀ x, St (x :: O)) → Kc' O es St) → it O ρ XX Kc'
theorem it_seq {O : Ob} {ρ : Rho} {XX : XC} {c : Cl} {es : List Cl} {s : Nat} (hs : ρ[s]? = some (some c)) (hc : SqE O c es) : ItS (aIi (aItL (aVar s)) (aItT (aVar s))) O ρ XX es := by
  intro Kc' k
  rcases hc with h | h
  · exact .inl ⟨c, hs, es, h, k _ fun x => h.up x⟩
  · exact .inr ⟨c, hs, es, h, k _ fun _ => trivial⟩
theorem filt_over {O : Ob} {ρ : Rho} {XX : XC} {Kc : KC} {es : List Cl} {i : Nat} {it : AIt} {tt : AT} {g : Cl → Bool} (hi : Nat.ble (i + 1) ρ.length = true) (hit : ItS it O ρ XX es) (hz : es.length < 1000000)
    (htt : ∀ (D : Addr) (w : Ow) (e : Cl) (K : Ob → Bool → Prop), e ∈ es → K ((D, w) :: O) (g e) → tt ((D, w) :: O) ((wipeR ρ [i]).set i (some e)) X0 K) (k : Kc O (lisC (es.filter g))) :
    aLc false it i tt (aVar i) O ρ XX Kc := by
  refine hit _ fun St hSt D => ⟨fun j O2 => O2 = (D, .lst ((es.take j).filter g)) :: O, by simp, ?_, ?_⟩
  · rintro j O2 e hj rfl
    have hm : e ∈ es := List.mem_of_getElem? hj
    refine ⟨hSt _, htt _ _ e _ hm ?_⟩
    have et : (es.take (j + 1)).filter g = (es.take j).filter g ++ [e].filter g := by
      rw [List.take_add_one, hj, List.filter_append]
      rfl
    have hl : ((es.take j).filter g).length < 1000000 := Nat.lt_of_le_of_lt (List.length_filter_le _ _) (by rw [List.length_take]; omega)
    cases hg : g e with
    | true =>
      rw [if_pos rfl]
      have hx : ((wipeR ρ [i]).set i (some e))[i]? = some (some e) := by
        have : i < (wipeR ρ [i]).length := by have := Nat.le_of_ble_eq_true hi; simp [wipeR]; omega
        rw [List.getElem?_set_self this]
      refine ⟨e, hx, _, _, .here, hl, ?_⟩
      show (D, Ow.lst _) :: O = (D, Ow.lst _) :: O
      rw [et]
      simp [hg]
    | false =>
      rw [if_neg Bool.false_ne_true]
      show (D, Ow.lst _) :: O = (D, Ow.lst _) :: O
      rw [et]
      simp [hg]
  · rintro O2 rfl
    refine ⟨hSt _, _, _, rfl, ?_⟩
    rw [if_neg Bool.false_ne_true, List.take_of_length_le (Nat.le_refl _)]
    exact k
theorem kn_lisC (O : Ob) (cs : List Cl) : Kn O (lisC cs) "list" := by
  unfold lisC
  split
  · exact .dat _
  · exact .lis _
theorem cut1 {α : Type} (xs : List α) : cutD xs (some 1) none = xs.drop 1 := by
  unfold cutD HT.sIx
  cases xs with
  | nil => simp
  | cons x r => simp
theorem iCl_dat (is : List Int) : iCl is = (is.map PyData.int).map Cl.dat := by simp [iCl]
theorem iCl_drop (is : List Int) : (iCl is).drop 1 = iCl (is.drop 1) := by simp [iCl, List.map_drop]
/-- xs[1:] -/
theorem rest_of {O : Ob} {ρ : Rho} {XX : XC} {c : Cl} {is : List Int} {s : Nat} {K : KC} (hs : ρ[s]? = some (some c)) (hc : Els O c (iCl is) ∨ ElsT c (iCl is))
    (k : ∀ d, ((Els O c (iCl is) ∧ Els O d (iCl (is.drop 1))) ∨ (ElsT c (iCl is) ∧ ElsT d (iCl (is.drop 1)))) → K O d) :
    aEi (aSl aSlL (aVar s) (aPart (aC (.int 1))) aNoPart) (aSl aSlT (aVar s) (aPart (aC (.int 1))) aNoPart) O ρ XX K := by
  rcases hc with h | h
  · refine .inl ⟨c, hs, 1, rfl, is.map .int, by rw [← iCl_dat]; exact h, k _ (.inl ⟨h, ?_⟩)⟩
    rw [cut1, ← List.map_drop, iCl_dat]
    exact .dat _
  · refine .inr ⟨c, hs, 1, rfl, iCl is, h, k _ (.inr ⟨h, ?_⟩)⟩
    rw [← iCl_drop, ← cut1]
    exact elsT_slR h
theorem last_of {is : List Int} (h : ¬ is.length ≤ 1) : atI (iCl is) (-1) = some (.dat (.int (is.getLastD 0))) := by
  have e : (iCl is).length = is.length := by simp [iCl]
  have g : is ≠ [] := by
    intro z
    rw [z] at h
    simp at h
  obtain ⟨r, l, rfl⟩ : ∃ r l, is = r ++ [l] := ⟨is.dropLast, is.getLast g, (List.dropLast_concat_getLast g).symm⟩
  unfold L2.atI L2.ixN
  rw [e, if_neg (by decide), if_pos (by rw [List.length_append]; simp; omega)]
  show (iCl (r ++ [l]))[((-1 : Int) + ((r ++ [l]).length : Nat)).toNat]? = _
  have n : ((-1 : Int) + ((r ++ [l]).length : Nat)).toNat = r.length := by rw [List.length_append]; simp; omega
  rw [n]
  simp [iCl]
theorem ix_last {O : Ob} {ρ : Rho} {XX : XC} {c : Cl} {is : List Int} {s : Nat} {K : KC} (hs : ρ[s]? = some (some c)) (hc : Els O c (iCl is) ∨ ElsT c (iCl is)) (h : ¬ is.length ≤ 1) (k : K O (.dat (.int (is.getLastD 0)))) :
    aEi (aOp aIxL (aVar s) (aUn (aU fun i => .int (-i)) (aC (.int 1)))) (aOp aIxT (aVar s) (aUn (aU fun i => .int (-i)) (aC (.int 1)))) O ρ XX K := by
  rcases hc with hh | hh
  · exact .inl ⟨c, hs, _, rfl, iCl is, -1, _, rfl, hh, last_of h, k⟩
  · exact .inr ⟨c, hs, _, rfl, iCl is, -1, _, rfl, hh, last_of h, k⟩

/-- [a, b][int(test)] -/
theorem pick2 {O : Ob} {ρ : Rho} {XX : XC} {K : KC} {a b : Int} {t : AE} {k : Bool} (ht : ∀ K : KC, K O (.dat (.bool k)) → t O ρ XX K) (hk : K O (.dat (.int (if k = true then b else a)))) :
    aOp aIxL (aLst (aCons (aC (.int a)) (aCons (aC (.int b)) aNil))) (aCB bIntB (aCons t aNil)) O ρ XX K := by
  refine ⟨by simp, ht _ (.inr ⟨k, rfl, _, _, _, rfl, elsC _ _, ?_, hk⟩)⟩
  cases k <;> rfl
theorem it_rest {O : Ob} {ρ : Rho} {XX : XC} {c : Cl} {is : List Int} {s : Nat} (hs : ρ[s]? = some (some c)) (hc : SqE O c (iCl is)) :
    ItS (aIi (aItL (aSl aSlL (aVar s) (aPart (aC (.int 1))) aNoPart)) (aItT (aSl aSlT (aVar s) (aPart (aC (.int 1))) aNoPart))) O ρ XX (iCl (is.drop 1)) := by
  intro Kc' k
  rcases hc with h | h
  · refine .inl ⟨c, hs, 1, rfl, is.map .int, by rw [← iCl_dat]; exact h, iCl (is.drop 1), ?_, k _ fun x => ?_⟩
    · rw [cut1, ← List.map_drop, iCl_dat]
      exact .dat _
    · rw [cut1, ← List.map_drop, iCl_dat]
      exact .dat _
  · refine .inr ⟨c, hs, 1, rfl, iCl is, h, iCl (is.drop 1), ?_, k _ fun x => trivial⟩
    rw [← iCl_drop, ← cut1]
    exact elsT_slR h
theorem ix_seqI {O : Ob} {ρ : Rho} {XX : XC} {c e : Cl} {es : List Cl} {s : Nat} {j : Int} {t : AE} {K : KC} (hs : ρ[s]? = some (some c)) (hc : SqE O c es) (ht : ∀ K : KC, K O (.dat (.int j)) → t O ρ XX K) (hat : atI es j = some e) (k : K O e) :
    aEi (aOp aIxL (aVar s) t) (aOp aIxT (aVar s) t) O ρ XX K := by
  rcases hc with h | h
  · exact .inl ⟨c, hs, ht _ ⟨es, j, e, rfl, h, hat, k⟩⟩
  · exact .inr ⟨c, hs, ht _ ⟨es, j, e, rfl, h, hat, k⟩⟩
def intG (p : Int → Bool) : Cl → Bool
  | .dat (.int t) => p t
  | _ => false
theorem filt_ints {p : Int → Bool} (is : List Int) : ((iCl is).filter (intG p)).isEmpty = is.all fun t => !p t := by
  induction is with
  | nil => rfl
  | cons i is ih =>
    show (List.filter (intG p) (.dat (.int i) :: iCl is)).isEmpty = _
    rw [List.filter_cons, List.all_cons, ← ih]
    show (if p i = true then _ else _ : List Cl).isEmpty = _
    cases p i <;> rfl
theorem filt_nums (es : List Cl) : (es.filter fun e => !numC e).isEmpty = es.all numC := by
  induction es with
  | nil => rfl
  | cons e es ih =>
    rw [List.filter_cons, List.all_cons, ← ih]
    cases numC e <;> rfl
theorem mem_iCl {is : List Int} {e : Cl} (h : e ∈ iCl is) : ∃ t, t ∈ is ∧ e = .dat (.int t) := by
  obtain ⟨t, ht, rfl⟩ := List.mem_map.mp h
  exact ⟨t, ht, rfl⟩
/-! the head of a reading, one step at a time -/
theorem t_test {O : Ob} {ρ : Rho} {XX : XC} {a : AE} {K : Ob → Bool → Prop} (h : a O ρ XX fun O1 c => ∃ b, c = .dat (.bool b) ∧ K O1 b) : aTest a O ρ XX K := h
theorem t_op {O : Ob} {ρ : Rho} {XX : XC} {ar : AR2} {a b : AE} {K : KC} (h : a O ρ XX fun O1 c => b O1 ρ XX fun O2 c' => ar O2 c c' K) : aOp ar a b O ρ XX K := h
theorem t_ret {O : Ob} {ρ : Rho} {XX : XC} {a : AE} {A : AEn} (h : a O ρ XX A.rt) : aRet a A XX O ρ := h
theorem t_ifS {O : Ob} {ρ : Rho} {XX : XC} {c : AT} {t u : AS} {A : AEn} (h : c O ρ XX fun O1 b => if b = true then t A XX O1 ρ else u A XX O1 ρ) : aIfS c t u A XX O ρ := h
theorem t_seq {O : Ob} {ρ : Rho} {XX : XC} {t u : AS} {A : AEn} (h : t { A with nx := u A XX } XX O ρ) : aSeq t u A XX O ρ := h
theorem t_next {O : Ob} {ρ : Rho} {XX : XC} {A : AEn} (h : A.nx O ρ) : aNext A XX O ρ := h
theorem t_cons {O : Ob} {ρ : Rho} {XX : XC} {a : AE} {b : AA} {K : Ob → List Cl → Prop} (h : a O ρ XX fun O1 c => b O1 ρ XX fun O2 cs => K O2 (c :: cs)) : aCons a b O ρ XX K := h
/-! ## expressions that only tell: what they tell, part by part -/
def Pu (a : AE) (O : Ob) (ρ : Rho) (XX : XC) (c : Cl) : Prop := ∀ K : KC, K O c → a O ρ XX K
def PuT (t : AT) (O : Ob) (ρ : Rho) (XX : XC) (b : Bool) : Prop := ∀ K : Ob → Bool → Prop, K O b → t O ρ XX K
section
variable {O : Ob} {ρ : Rho} {XX : XC} {a b : AE} {t u : AT} {p q : Bool} {i j : Int} {c d : Cl}
theorem pu_var {s : Nat} (h : ρ[s]? = some (some c)) : Pu (aVar s) O ρ XX c := fun _ k => ⟨c, h, k⟩
theorem pu_c {d : PyData} : Pu (aC d) O ρ XX (.dat d) := fun _ k => k
theorem pu_neg (ha : Pu a O ρ XX (.dat (.int i))) : Pu (aUn (aU fun i => .int (-i)) a) O ρ XX (.dat (.int (-i))) := fun _ k => ha _ ⟨i, rfl, k⟩
theorem pu_I0 {g : Int → Int → PyData} (ha : Pu a O ρ XX (.dat (.int i))) (hb : Pu b O ρ XX (.dat (.int j))) : Pu (aOp (aI0 g) a b) O ρ XX (.dat (g i j)) := fun _ k => ha _ (hb _ ⟨i, j, rfl, rfl, k⟩)
theorem pu_I {C : Int → Int → Prop} {g : Int → Int → PyData} (ha : Pu a O ρ XX (.dat (.int i))) (hb : Pu b O ρ XX (.dat (.int j))) (hC : C i j) : Pu (aOp (aI C g) a b) O ρ XX (.dat (g i j)) := fun _ k => ha _ (hb _ ⟨i, j, rfl, rfl, hC, k⟩)
theorem pu_eqI (ha : Pu a O ρ XX (.dat (.int i))) (hb : Pu b O ρ XX (.dat (.int j))) : Pu (aOp aEqD a b) O ρ XX (.dat (.bool (decide (i = j)))) := fun K k => ha _ (hb _ ⟨.int i, .int j, .dat _, .dat _, rfl, rfl, rfl, rfl, by rw [eqv_int]; exact k⟩)
theorem pu_neI (ha : Pu a O ρ XX (.dat (.int i))) (hb : Pu b O ρ XX (.dat (.int j))) : Pu (aOp aNeD a b) O ρ XX (.dat (.bool (!decide (i = j)))) := fun K k => ha _ (hb _ ⟨.int i, .int j, .dat _, .dat _, rfl, rfl, rfl, rfl, by rw [eqv_int]; exact k⟩)
theorem pu_eqS {x y : Str} (ha : Pu a O ρ XX (.dat (.str x))) (hb : Pu b O ρ XX (.dat (.str y))) : Pu (aOp aEqS a b) O ρ XX (.dat (.bool (decide (x = y)))) := fun K k => ha _ (hb _ ⟨x, y, rfl, rfl, k⟩)
theorem pu_neS {x y : Str} (ha : Pu a O ρ XX (.dat (.str x))) (hb : Pu b O ρ XX (.dat (.str y))) : Pu (aOp aNeS a b) O ρ XX (.dat (.bool (!decide (x = y)))) := fun K k => ha _ (hb _ ⟨x, y, rfl, rfl, k⟩)
theorem pu_abs {g : Int → Int} (ha : Pu a O ρ XX (.dat (.int i))) : Pu (aCB (bI1 g) (aCons a aNil)) O ρ XX (.dat (.int (g i))) := fun _ k => ha _ ⟨i, rfl, k⟩
theorem pu_i2 {g : Int → Int → Int} (ha : Pu a O ρ XX (.dat (.int i))) (hb : Pu b O ρ XX (.dat (.int j))) : Pu (aCB (bI2 g) (aCons a (aCons b aNil))) O ρ XX (.dat (.int (g i j))) := fun _ k => ha _ (hb _ ⟨i, j, rfl, k⟩)
theorem pu_len {es : List Cl} (ha : Pu a O ρ XX c) (hc : Els O c es ∨ ElsT c es) : Pu (aCB bLen (aCons a aNil)) O ρ XX (.dat (.int es.length)) := fun _ k => ha _ ⟨c, es.length, rfl, .inl ⟨es, hc, rfl⟩, k⟩
theorem pu_ixL {es : List Cl} (ha : Pu a O ρ XX c) (hb : Pu b O ρ XX (.dat (.int i))) (hc : Els O c es) (hat : atI es i = some d) : Pu (aOp aIxL a b) O ρ XX d := fun _ k => ha _ (hb _ ⟨es, i, d, rfl, hc, hat, k⟩)
theorem pu_ixT {es : List Cl} (ha : Pu a O ρ XX c) (hb : Pu b O ρ XX (.dat (.int i))) (hc : ElsT c es) (hat : atI es i = some d) : Pu (aOp aIxT a b) O ρ XX d := fun _ k => ha _ (hb _ ⟨es, i, d, rfl, hc, hat, k⟩)
theorem pu_ixS {s : Nat} {es : List Cl} (hs : ρ[s]? = some (some c)) (hc : SqE O c es) (hb : Pu b O ρ XX (.dat (.int i))) (hat : atI es i = some d) : Pu (aEi (aOp aIxL (aVar s) b) (aOp aIxT (aVar s) b)) O ρ XX d := fun _ k => ix_seqI hs hc hb hat k
theorem pu_pick2 {x y : Int} (ha : Pu a O ρ XX (.dat (.bool p))) : Pu (aOp aIxL (aLst (aCons (aC (.int x)) (aCons (aC (.int y)) aNil))) (aCB bIntB (aCons a aNil))) O ρ XX (.dat (.int (if p = true then y else x))) := fun K k => pick2 ha k
theorem pu_if (ht : PuT t O ρ XX p) (ha : Pu a O ρ XX c) (hb : Pu b O ρ XX d) : Pu (aIf t a b) O ρ XX (if p = true then c else d) := fun K k => ht _ (by
  cases p with
  | true => rw [if_pos rfl] at k ⊢; exact ha K k
  | false => rw [if_neg Bool.false_ne_true] at k ⊢; exact hb K k)
theorem pu_andV (ha : Pu a O ρ XX (.dat (.bool p))) (hb : Pu b O ρ XX (.dat (.bool q))) : Pu (aAndV a b) O ρ XX (.dat (.bool (p && q))) := fun K k => ha _ ⟨p, rfl, by
  cases p with
  | true => rw [if_pos rfl]; exact hb K k
  | false => rw [if_neg Bool.false_ne_true]; exact k⟩
theorem pu_orV (ha : Pu a O ρ XX (.dat (.bool p))) (hb : Pu b O ρ XX (.dat (.bool q))) : Pu (aOrV a b) O ρ XX (.dat (.bool (p || q))) := fun K k => ha _ ⟨p, rfl, by
  cases p with
  | true => rw [if_pos rfl]; exact k
  | false => rw [if_neg Bool.false_ne_true]; exact hb K k⟩
theorem pu_notV (ha : Pu a O ρ XX (.dat (.bool p))) : Pu (aNotV a) O ρ XX (.dat (.bool (!p))) := fun K k => ha _ ⟨p, rfl, k⟩
theorem put_ (ha : Pu a O ρ XX (.dat (.bool p))) : PuT (aTest a) O ρ XX p := fun _ k => ha _ ⟨p, rfl, k⟩
theorem put_and (ht : PuT t O ρ XX p) (hu : PuT u O ρ XX q) : PuT (aAnd t u) O ρ XX (p && q) := fun K k => ht _ (by
  cases p with
  | true => rw [if_pos rfl]; exact hu K k
  | false => rw [if_neg Bool.false_ne_true]; exact k)
theorem put_or (ht : PuT t O ρ XX p) (hu : PuT u O ρ XX q) : PuT (aOr t u) O ρ XX (p || q) := fun K k => ht _ (by
  cases p with
  | true => rw [if_pos rfl]; exact k
  | false => rw [if_neg Bool.false_ne_true]; exact hu K k)
theorem put_not (ht : PuT t O ρ XX p) : PuT (aNot t) O ρ XX (!p) := fun K k => ht _ k
theorem put_chain {a b c : AE} {g h : Int → Int → Bool} {i j k : Int} (ha : Pu a O ρ XX (.dat (.int i))) (hb : Pu b O ρ XX (.dat (.int j))) (hc : Pu c O ρ XX (.dat (.int k))) :
    PuT (aTest (aChain (aI0 fun i j => .bool (g i j)) (aI0 fun i j => .bool (h i j)) a b c)) O ρ XX (g i j && h j k) := fun K kk => ha _ (hb _ ⟨i, j, rfl, rfl, g i j, rfl, by
  cases hg : g i j with
  | true =>
    rw [if_pos rfl]
    refine hc _ ⟨j, k, rfl, rfl, h j k, rfl, ?_⟩
    rw [hg, Bool.true_and] at kk
    exact kk
  | false =>
    rw [if_neg Bool.false_ne_true]
    refine ⟨false, rfl, ?_⟩
    rw [hg, Bool.false_and] at kk
    exact kk⟩)
/-- a statement if, by what its test tells -/
theorem if_put {v w : AS} {A : AEn} (ht : PuT t O ρ XX p) (k : if p = true then v A XX O ρ else w A XX O ρ) : aIfS t v w A XX O ρ := ht _ k
theorem set_pu {A : AEn} {s : Nat} (ha : Pu a O ρ XX c) (k : A.nx O (ρ.set s (some c))) : aAsg a (aName s) A XX O ρ := ha _ k
theorem ret_pu {A : AEn} (ha : Pu a O ρ XX c) (k : A.rt O c) : aRet a A XX O ρ := ha _ k
end
def aNotB : AR2 := fun O c c' Kc => ∃ a b, c = .dat (.bool a) ∧ c' = .dat (.bool b) ∧ Kc O (.dat (.bool (!decide (a = b))))
theorem sr_notB {K : PySem.W.Frag} : SR2 K rNotB aNotB := fun O H Q Kc c c' v v' o r r' ⟨a, b, e, e', k⟩ q => by
  subst e e'
  exact ⟨a, b, dq_bool r, dq_bool r', q O _ _ H (Fr.refl _ _) o (.dat (.bl _)) k⟩
section
variable {O : Ob} {ρ : Rho} {XX : XC} {a b : AE} {t u : AT} {p q : Bool} {i j : Int} {c d : Cl}
theorem pu_notB (ha : Pu a O ρ XX (.dat (.bool p))) (hb : Pu b O ρ XX (.dat (.bool q))) : Pu (aOp aNotB a b) O ρ XX (.dat (.bool (!decide (p = q)))) := fun K k => ha _ (hb _ ⟨p, q, rfl, rfl, k⟩)
theorem t_try {K : PySem.W.Frag} {b : AS} {hs : List Hd} {A : AEn} (h : b A (hsX K A hs) O ρ) : aTry K b hs A XX O ρ := h
theorem t_lst {a : AA} {K : KC} (h : a O ρ XX fun O1 cs => cs.length ≤ 1000 ∧ K O1 (lisC cs)) : aLst a O ρ XX K := h
theorem t_cons_pu {b : AA} {K : Ob → List Cl → Prop} (ha : Pu a O ρ XX c) (h : b O ρ XX fun O2 cs => K O2 (c :: cs)) : aCons a b O ρ XX K := ha _ h
theorem t_call {af : AF} {a : AA} {K : KC} (h : a O ρ XX fun O1 cs => af O1 cs (fun O' x c => XX O' ρ x c) K) : aCall af a O ρ XX K := h
theorem ife_put {K : KC} (ht : PuT t O ρ XX p) (k : if p = true then a O ρ XX K else b O ρ XX K) : aIf t a b O ρ XX K := ht _ k
theorem t_asg {g : AG} {A : AEn} (h : a O ρ XX fun O1 c => g c O1 ρ A.nx) : aAsg a g A XX O ρ := h
theorem t_cb {ab : AB} {a : AA} {K : KC} (h : a O ρ XX fun O1 cs => ab O1 cs K) : aCB ab a O ρ XX K := h
/-- a call whose arguments only tell -/
theorem call1 {af : AF} {K : KC} (ha : Pu a O ρ XX c) (h : af O [c] (fun O' x c => XX O' ρ x c) K) : aCall af (aCons a aNil) O ρ XX K := ha _ h
theorem call2 {af : AF} {K : KC} (ha : Pu a O ρ XX c) (hb : Pu b O ρ XX d) (h : af O [c, d] (fun O' x c => XX O' ρ x c) K) : aCall af (aCons a (aCons b aNil)) O ρ XX K := ha _ (hb _ h)
theorem call3 {a3 : AE} {c3 : Cl} {af : AF} {K : KC} (ha : Pu a O ρ XX c) (hb : Pu b O ρ XX d) (h3 : Pu a3 O ρ XX c3) (h : af O [c, d, c3] (fun O' x c => XX O' ρ x c) K) : aCall af (aCons a (aCons b (aCons a3 aNil))) O ρ XX K := ha _ (hb _ (h3 _ h))
theorem call4 {a3 a4 : AE} {c3 c4 : Cl} {af : AF} {K : KC} (ha : Pu a O ρ XX c) (hb : Pu b O ρ XX d) (h3 : Pu a3 O ρ XX c3) (h4 : Pu a4 O ρ XX c4) (h : af O [c, d, c3, c4] (fun O' x c => XX O' ρ x c) K) : aCall af (aCons a (aCons b (aCons a3 (aCons a4 aNil)))) O ρ XX K := ha _ (hb _ (h3 _ (h4 _ h)))
/-- a draw -/
theorem take_r {pa : Addr} {m : Int} {n : Nat} {f : Ow → Ob} {K : KC} (ha : Pu a O ρ XX (.at pa)) (hb : Pu b O ρ XX (.dat (.int m))) (lo : Lo O pa (.pur n) f) (h0 : 0 < m) (h1 : m.natAbs < 2 ^ 200) (hn : 1 ≤ n)
    (k : ∀ r, 0 ≤ r → r < m → K (f (.pur (n - 1))) (.dat (.int r))) : aCall afTake (aCons a (aCons b aNil)) O ρ XX K := call2 ha hb ⟨pa, m, n, f, rfl, h0, h1, lo, hn, k⟩
/-- repr of data -/
theorem pu_repr {d : PyData} (ha : Pu a O ρ XX (.dat d)) (hd : d.hasDict = false) (tx : TxB d) : Pu (aCB bReprA (aCons a aNil)) O ρ XX (.dat (.str d.shown)) := fun K k => ha _ ⟨_, d, rfl, .pl (.dat _) hd, tx.s, tx.d, tx.l, k⟩
end
/-! statements ahead of others -/
section
variable {O : Ob} {ρ : Rho} {XX : XC} {a b : AE} {t u : AT} {v w : AS} {p q : Bool} {i j : Int} {c d : Cl} {s : Nat} {A : AEn}
theorem sq_set (h : a O ρ XX fun O1 c => v A XX O1 (ρ.set s (some c))) : aSeq (aAsg a (aName s)) v A XX O ρ := h
theorem sq_setP (ha : Pu a O ρ XX c) (h : v A XX O (ρ.set s (some c))) : aSeq (aAsg a (aName s)) v A XX O ρ := ha _ h
theorem sq_if (h : t O ρ XX fun O1 b => if b = true then w { A with nx := v A XX } XX O1 ρ else v A XX O1 ρ) : aSeq (aIfS t w aNext) v A XX O ρ := h
theorem sq_ifP (ht : PuT t O ρ XX p) (h : if p = true then w { A with nx := v A XX } XX O ρ else v A XX O ρ) : aSeq (aIfS t w aNext) v A XX O ρ := ht _ h
theorem sq_drop (h : a O ρ XX fun O1 _ => v A XX O1 ρ) : aSeq (aDrop a) v A XX O ρ := h
theorem sq_for {it : AIt} (h : it O ρ XX fun O1 cs St => ∃ Wi : Nat → Ob → Rho → Prop, Wi 0 O1 ρ ∧
    (∀ j O2 ρ2 e, cs[j]? = some e → Wi j O2 ρ2 → St O2 ∧ w { nx := Wi (j + 1), rt := A.rt, ct := Wi (j + 1), bk := v A XX } XX O2 (ρ2.set s (some e))) ∧
    ∀ O2 ρ2, Wi cs.length O2 ρ2 → St O2 ∧ v A XX O2 ρ2) : aSeq (aFor it (aName s) w) v A XX O ρ := h
theorem one_for {it : AIt} (h : it O ρ XX fun O1 cs St => ∃ Wi : Nat → Ob → Rho → Prop, Wi 0 O1 ρ ∧
    (∀ j O2 ρ2 e, cs[j]? = some e → Wi j O2 ρ2 → St O2 ∧ w { nx := Wi (j + 1), rt := A.rt, ct := Wi (j + 1), bk := A.nx } XX O2 (ρ2.set s (some e))) ∧
    ∀ O2 ρ2, Wi cs.length O2 ρ2 → St O2 ∧ A.nx O2 ρ2) : aFor it (aName s) w A XX O ρ := h
theorem it_r1 {a : AE} {j : Int} {K : Ob → List Cl → (Ob → Prop) → Prop} (ha : Pu a O ρ XX (.dat (.int j))) (h0 : -1000000 ≤ j) (h1 : j ≤ 1000000) (k : K O (nums 0 j.toNat) fun _ => True) : aItR1 (aCons a aNil) O ρ XX K := ha _ ⟨j, rfl, h0, h1, k⟩
theorem it_r2 {a b : AE} {i j : Int} {K : Ob → List Cl → (Ob → Prop) → Prop} (ha : Pu a O ρ XX (.dat (.int i))) (hb : Pu b O ρ XX (.dat (.int j))) (h0 : -1000000 ≤ i ∧ i ≤ 1000000) (h1 : -1000000 ≤ j ∧ j ≤ 1000000) (k : K O (nums i (j - i).toNat) fun _ => True) : aItR2 (aCons a (aCons b aNil)) O ρ XX K := ha _ (hb _ ⟨i, j, rfl, h0, h1, k⟩)
end
section
variable {O : Ob} {ρ : Rho} {XX : XC} {a b : AE} {t u : AT} {p q : Bool} {c d : Cl}
theorem t_orF {K : Ob → Bool → Prop} (ht : PuT t O ρ XX false) (h : u O ρ XX K) : aOr t u O ρ XX K := ht _ (iteF h)
theorem t_andT {K : Ob → Bool → Prop} (ht : PuT t O ρ XX true) (h : u O ρ XX K) : aAnd t u O ρ XX K := ht _ (iteT h)
theorem t_not {K : Ob → Bool → Prop} (h : t O ρ XX fun O1 b => K O1 (!b)) : aNot t O ρ XX K := h
theorem or_neSame {x : Str} {K : Ob → Bool → Prop} (ha : Pu a O ρ XX (.dat (.str x))) (hb : Pu b O ρ XX (.dat (.str x))) (h : u O ρ XX K) : aOr (aTest (aOp aNeS a b)) u O ρ XX K :=
  put_ (pu_neS ha hb) _ (by rw [decide_eq_true rfl]; exact iteF h)
theorem or_notBSame {K : Ob → Bool → Prop} (ha : Pu a O ρ XX (.dat (.bool p))) (hb : Pu b O ρ XX (.dat (.bool p))) (h : u O ρ XX K) : aOr (aTest (aOp aNotB a b)) u O ρ XX K :=
  put_ (pu_notB ha hb) _ (by rw [decide_eq_true rfl]; exact iteF h)
theorem pu_lst2 (ha : Pu a O ρ XX c) (hb : Pu b O ρ XX d) : Pu (aLst (aCons a (aCons b aNil))) O ρ XX (lisC [c, d]) := fun _ k => ha _ (hb _ ⟨by simp, k⟩)
theorem pu_lst1 (ha : Pu a O ρ XX c) : Pu (aLst (aCons a aNil)) O ρ XX (lisC [c]) := fun _ k => ha _ ⟨by simp, k⟩
theorem pu_lst3 {a3 : AE} {c3 : Cl} (ha : Pu a O ρ XX c) (hb : Pu b O ρ XX d) (h3 : Pu a3 O ρ XX c3) : Pu (aLst (aCons a (aCons b (aCons a3 aNil)))) O ρ XX (lisC [c, d, c3]) := fun _ k => ha _ (hb _ (h3 _ ⟨by simp, k⟩))
/-- if repr(a) != repr(b) of the same data -/
theorem ne_repr {v w : AS} {A : AEn} {d : PyData} (ha : Pu a O ρ XX (.dat d)) (hb : Pu b O ρ XX (.dat d)) (hd : d.hasDict = false) (tx : TxB d) (k : w A XX O ρ) : aIfS (aTest (aOp aNeS (aCB bReprA (aCons a aNil)) (aCB bReprA (aCons b aNil)))) v w A XX O ρ :=
  if_put (put_ (pu_neS (pu_repr ha hd tx) (pu_repr hb hd tx))) (by rw [decide_eq_true rfl]; exact iteF k)
end
section
variable {O : Ob} {ρ : Rho} {XX : XC} {a b : AE} {t u : AT} {p q : Bool} {c d : Cl}
theorem t_lstO {a : AA} {K : KC} (h : a O ρ XX fun O1 cs => cs.length ≤ 1000 ∧ ∀ p, K ((p, .lst cs) :: O1) (.at p)) : aLstO a O ρ XX K := h
theorem t_it1 {a : AA} {K : Ob → List Cl → (Ob → Prop) → Prop} (h : a O ρ XX fun O1 cs => ∃ j : Int, cs = [.dat (.int j)] ∧ -1000000 ≤ j ∧ j ≤ 1000000 ∧ K O1 (nums 0 j.toNat) fun _ => True) : aItR1 a O ρ XX K := h
theorem t_andV {K : KC} (h : a O ρ XX fun O1 c => ∃ k, c = .dat (.bool k) ∧ if k = true then b O1 ρ XX K else K O1 (.dat (.bool false))) : aAndV a b O ρ XX K := h
theorem app_pu {p : Addr} {cs : List Cl} {f : Ow → Ob} {K : KC} (ha : Pu a O ρ XX (.at p)) (hb : Pu b O ρ XX d) (lo : Lo O p (.lst cs) f) (hl : cs.length ≤ 1000000) (k : K (f (.lst (cs ++ [d]))) (.dat .none)) : aApp a (aCons b aNil) O ρ XX K :=
  ha _ ⟨p, cs, f, rfl, lo, hb _ ⟨d, cs, f, rfl, lo, hl, k⟩⟩
theorem sq_if_set {s : Nat} {c0 : Cl} {v : AS} {A : AEn} (ht : PuT t O ρ XX p) (ha : Pu a O ρ XX c) (h0 : ρ[s]? = some (some c0)) (h : ∀ c', (c' = c ∧ p = true) ∨ c' = c0 → v A XX O (ρ.set s (some c'))) : aSeq (aIfS t (aAsg a (aName s)) aNext) v A XX O ρ := by
  refine sq_ifP ht ?_
  cases p with
  | true => exact iteT (ha _ (h c (.inl ⟨rfl, rfl⟩)))
  | false =>
    refine iteF ?_
    have z := h c0 (.inr rfl)
    have e : ρ.set s (some c0) = ρ := by
      refine List.ext_getElem? fun i => ?_
      rw [List.getElem?_set]
      by_cases hi : s = i
      · subst hi
        rw [if_pos rfl, h0]
        have := (List.getElem?_eq_some_iff.mp h0).1
        rw [if_pos this]
      · rw [if_neg hi]
    rw [e] at z
    exact z
end
theorem last_ne {is : List Int} (g : is ≠ []) : atI (iCl is) (-1) = some (.dat (.int (is.getLastD 0))) := by
  have e : (iCl is).length = is.length := by simp [iCl]
  obtain ⟨r, l, rfl⟩ : ∃ r l, is = r ++ [l] := ⟨is.dropLast, is.getLast g, (List.dropLast_concat_getLast g).symm⟩
  unfold L2.atI L2.ixN
  rw [e, if_neg (by decide), if_pos (by rw [List.length_append]; simp; omega)]
  show (iCl (r ++ [l]))[((-1 : Int) + ((r ++ [l]).length : Nat)).toNat]? = _
  have n : ((-1 : Int) + ((r ++ [l]).length : Nat)).toNat = r.length := by rw [List.length_append]; simp; omega
  rw [n]
  simp [iCl]
/-! slices of lists of data -/
theorem cutD_mem {α : Type} {xs : List α} {lo hi : Option Int} {x : α} (h : x ∈ cutD xs lo hi) : x ∈ xs := List.mem_of_mem_drop (List.mem_of_mem_take h)
theorem cutD_to {α : Type} (xs : List α) (n : Nat) (h : n ≤ xs.length) : cutD xs none (some (n : Int)) = xs.take n := by
  unfold cutD
  rw [HT.sIx_none, HT.sIx_nat, List.drop_zero, Nat.min_eq_left h, Nat.sub_zero]
theorem cutD_from {α : Type} (xs : List α) (n : Nat) : cutD xs (some (n : Int)) none = xs.drop n := by
  unfold cutD
  rw [HT.sIx_none, HT.sIx_nat]
  rw [List.take_of_length_le (by rw [List.length_drop]; exact Nat.le_refl _)]
  by_cases h : n ≤ xs.length
  · rw [Nat.min_eq_left h]
  · rw [Nat.min_eq_right (by omega), List.drop_of_length_le (Nat.le_refl _), List.drop_of_length_le (by omega)]
theorem Tx1.up {w w' dp dp' : Nat} {d : PyData} (h : Tx1 w dp d) (k : w ≤ w') (l : dp ≤ dp') : Tx1 w' dp' d := ⟨h.s, Nat.le_trans h.dp l, Nat.le_trans h.w k, h.l⟩
theorem txl_all {w dp : Nat} : ∀ {ds : List PyData}, (∀ d ∈ ds, Tx1 w dp d) → TxL (ds.length * (w + 1)) dp ds
  | [], _ => by
    have := txl_nil 0 dp
    simpa using this
  | d :: ds, h => by
    have := txl_cons (h d (List.mem_cons_self ..)) (txl_all fun e he => h e (List.mem_cons_of_mem _ he))
    rw [List.length_cons, Nat.succ_mul]
    rw [show ds.length * (w + 1) + (w + 1) = w + ds.length * (w + 1) + 1 by omega]
    exact this
theorem TxB.b {e : PyData} (h : TxB e) : txB e = true := by
  unfold txB
  rw [h.s, decide_eq_true h.d, decide_eq_true h.l]
  rfl
theorem noDict : ∀ {ds : List PyData}, (∀ d ∈ ds, d.hasDict = false) → PyData.hasDictAll ds = false
  | [], _ => by unfold PyData.hasDictAll; rfl
  | d :: ds, h => by
    unfold PyData.hasDictAll
    rw [h d (List.mem_cons_self ..), noDict fun e he => h e (List.mem_cons_of_mem _ he)]
    rfl
/-- lists and tuples of small things, into which something may be put -/
def SmE (d : PyData) : Prop := Tx1 41 3 d ∧ d.hasDict = false
theorem sm_int {i : Int} (h : i.natAbs < 2 ^ 40) : SmE (.int i) := ⟨(tx_int (k := 40) h 3).up (by decide) (by decide), by unfold PyData.hasDict; rfl⟩
theorem sm_mores {ds : List PyData} (h : ∀ d ∈ ds, SmE d) (n : Nat) : ∀ d ∈ ds ++ mores n, SmE d := by
  intro d hd
  rcases List.mem_append.mp hd with hd | hd
  · exact h d hd
  · unfold mores at hd
    have := (List.mem_replicate.mp hd).2
    subst this
    exact ⟨(tx_str "more" 3).up (by decide +kernel) (by decide), by unfold PyData.hasDict; rfl⟩
theorem sm_list {ds : List PyData} (h : ∀ d ∈ ds, SmE d) (hl : ds.length ≤ 80) : PyData.hasDict (.list ds) = false ∧ txB (.list ds) = true := by
  refine ⟨?_, (Tx1.txB (tx_list (txl_all fun d hd => (h d hd).1)) ?_ (by decide)).b⟩
  · unfold PyData.hasDict
    exact noDict fun d hd => (h d hd).2
  · omega
theorem sm_tup {ds : List PyData} (h : ∀ d ∈ ds, SmE d) (hl : ds.length ≤ 80) : PyData.hasDict (.tuple ds) = false ∧ txB (.tuple ds) = true := by
  refine ⟨?_, (Tx1.txB (tx_tup (txl_all fun d hd => (h d hd).1)) ?_ (by decide)).b⟩
  · unfold PyData.hasDict
    exact noDict fun d hd => (h d hd).2
  · omega
theorem sm_ok {ds : List PyData} (h : ∀ d ∈ ds, SmE d) (hl : ds.length ≤ 70) : oddOk5 (.list ds) = true ∧ oddOk5 (.tuple ds) = true := by
  constructor
  · show ((List.range 6).all (fun n => !PyData.hasDict (.list (ds ++ mores n)) && txB (.list (ds ++ mores n))) && decide (ds.length ≤ 800)) = true
    rw [decide_eq_true (by omega), Bool.and_true, List.all_eq_true]
    intro n hn
    have hn6 := List.mem_range.mp hn
    have z := sm_list (sm_mores h n) (by rw [List.length_append]; simp [mores]; omega)
    rw [z.1, z.2]
    rfl
  · show (!PyData.hasDict (.tuple ds) && txB (.tuple ds)) = true
    have z := sm_tup h (by omega)
    rw [z.1, z.2]
    rfl
end Ab
namespace Ab
open PySem PySem.Spec PyProof.Rows L2 Vg
section
variable {X : Cx} {K : PySem.W.Frag} {W : WX}
/-! ## x not in (a, b), data of any depth -/
def rNotInT (K : PySem.W.Frag) : R2 := fun x y H Q => ∃ d ds, Dp K H x d ∧ Dp K H y (.tuple ds) ∧ d.canLay0 = true ∧ PyData.canLayAll0 ds = true ∧ d.depth ≤ 60 ∧ Q (.bl (!ds.any fun z => PyData.eqv z d)) H
theorem op_notInT (hu : X.A.units + 64 < cLine) : OpR X (compareOp .NotIn) (rNotInT X.K) := by
  intro pins s σ H x y v u Q I rx ry h
  obtain ⟨d, ds, hd, he, sd, se, dd, q⟩ := h
  obtain ⟨as, r1⟩ := Dp.reads I d x v hd rx
  obtain ⟨bs, r2⟩ := Dp.reads I (.tuple ds) y u he ry
  exact SeqAt.notIn_tuple_reads r2 r1 se sd (by have : min (PyData.depthAll ds) d.depth ≤ d.depth := Nat.min_le_right _ _; omega) ⟨.bl _, H, I, rfl, q⟩
def aNotInT : AR2 := fun O c c' Kc => ∃ d ds, Rdc O c d ∧ Rdc O c' (.tuple ds) ∧ d.hasDict = false ∧ PyData.hasDict (.tuple ds) = false ∧ d.canLay0 = true ∧ PyData.canLayAll0 ds = true ∧ d.depth ≤ 60 ∧ Kc O (.dat (.bool (!ds.any fun z => PyData.eqv z d)))
theorem sr_notInT : SR2 K (rNotInT K) aNotInT := fun O H Q Kc c c' v v' o r r' ⟨d, ds, h1, h2, n1, n2, s1, s2, dd, k⟩ q =>
  ⟨d, ds, h1.dp o r n1, h2.dp o r' n2, s1, s2, dd, q O _ _ H (Fr.refl _ _) o (.dat (.bl _)) k⟩
/-! ## xs[-2::-1] -/
theorem fm_map {α β : Type} {f : α → Option β} {g : α → β} : ∀ {l : List α}, (∀ k ∈ l, f k = some (g k)) → l.filterMap f = l.map g
  | [], _ => rfl
  | k :: l, h => by
    rw [List.filterMap_cons, h k (List.mem_cons_self ..), List.map_cons, fm_map fun k hk => h k (List.mem_cons_of_mem _ hk)]
theorem rev2_pick (items : Array Value) : slicePick items (some (-2)) none (some (-1)) = items.toList.dropLast.reverse.toArray := by
  have hb : sliceBounds (some (-2)) none (some (-1)) items.size = (((items.size - 1 : Nat) : Int) - 1, -1, -1) := by
    unfold sliceBounds
    simp only []
    by_cases h : items.size = 0
    · rw [h]; decide
    · by_cases h1 : items.size = 1
      · rw [h1]; decide
      · simp
        omega
  unfold slicePick
  rw [hb]
  show ((sliceRange (((items.size - 1 : Nat) : Int) - 1) (-1) (-1)).filterMap (items[·]?)).toArray = _
  rw [PySem.W.krv_sliceRange]
  congr 1
  refine List.ext_getElem? fun i => ?_
  have e1 : ∀ k ∈ (List.range (items.size - 1)).map (fun k => items.size - 1 - 1 - k), ∃ v, items[k]? = some v := by
    intro k hk
    obtain ⟨j, hj, rfl⟩ := List.mem_map.mp hk
    have := List.mem_range.mp hj
    exact ⟨_, Array.getElem?_eq_getElem (by omega)⟩
  have e2 : ((List.range (items.size - 1)).map (fun k => items.size - 1 - 1 - k)).filterMap (items[·]?) = ((List.range (items.size - 1)).map fun k => (items[items.size - 1 - 1 - k]?).getD .none) := by
    rw [List.filterMap_map]
    refine fm_map fun k hk => ?_
    have := List.mem_range.mp hk
    show items[items.size - 1 - 1 - k]? = some ((items[items.size - 1 - 1 - k]?).getD .none)
    rw [Array.getElem?_eq_getElem (by omega)]
    rfl
  rw [e2, List.getElem?_map]
  by_cases hi : i < items.size - 1
  · rw [List.getElem?_range hi, List.getElem?_reverse (by rw [List.length_dropLast, Array.length_toList]; exact hi)]
    rw [List.length_dropLast, Array.length_toList, List.getElem?_dropLast]
    rw [if_pos (by rw [Array.length_toList]; omega), Array.getElem?_toList]
    show some ((items[items.size - 1 - 1 - i]?).getD .none) = items[items.size - 1 - 1 - i]?
    rw [Array.getElem?_eq_getElem (by omega)]
    rfl
  · rw [List.getElem?_eq_none (by rw [List.length_range]; omega), List.getElem?_eq_none (by rw [List.length_reverse, List.length_dropLast, Array.length_toList]; omega)]
    rfl
def tRev2 (K : PySem.W.Frag) (te : TE) : TE := fun σ H Q => te σ H fun x H1 => ∃ a xs, x = .ref a ∧ SqL K H1 a xs ∧ ∀ p, H1 p = none → Q (.ref p) (upd H1 p (.lst xs.dropLast.reverse))
theorem vals_dropLast {xs : List V} {us : List Value} (h : Vals xs us) : Vals xs.dropLast us.dropLast := by
  induction h with
  | nil => exact .nil
  | cons h r ih =>
    cases r with
    | nil => exact .nil
    | cons h2 r2 => exact .cons h ih
theorem pe_rev2 {e : Expr} {te : TE} {k k2 : Nat} {p1 p2 p3 q1 q2 pos : Pos} (he : PE X e te) : PE X (.Subscript e (.Slice (some (.UnaryOp .USub (.Constant (.int 2) k2 q1) q2)) none (some (.UnaryOp .USub (.Constant (.int 1) k p1) p2)) p3) pos) (tRev2 X.K te) := by
  refine ⟨fun pins s σ H Q I h => ?_⟩
  refine Subscript_ (thn (he.run pins s σ H _ I h) fun v s1 ⟨x, H1, I1, r1, q1⟩ => ?_)
  obtain ⟨a, xs, ex, hx, q⟩ := q1
  subst ex
  cases r1
  have hst : PO X (some (.UnaryOp .USub (.Constant (.int 1) k p1) p2)) (tPart (tUn (rU fun i => .int (-i)) (tC (.int 1)))) := po_some (pe_un un_neg pe_int)
  have hlo : PO X (some (.UnaryOp .USub (.Constant (.int 2) k2 q1) q2)) (tPart (tUn (rU fun i => .int (-i)) (tC (.int 2)))) := po_some (pe_un un_neg pe_int)
  refine wpAny_Slice (thn (hlo.run pins s1 σ H1 (fun o H2 => o = some (-2) ∧ H2 = H1) I1 ⟨2, rfl, -2, rfl, rfl, rfl⟩) fun vl s2 ⟨l, H2, I2, pl, el, e2⟩ => ?_)
  subst el e2
  refine thn (po_none.run pins s2 σ H2 (fun o H3 => o = none ∧ H3 = H2) I2 ⟨rfl, rfl⟩) fun vu s3 ⟨u, H3, I3, pu, eu, e3⟩ => ?_
  subst eu e3
  refine thn (hst.run pins s3 σ H3 (fun o H4 => o = some (-1) ∧ H4 = H3) I3 ⟨1, rfl, -1, rfl, rfl, rfl⟩) fun vs s4 ⟨o, H4, I4, ps, eo, e4⟩ => ?_
  subst eo e4
  have I5 : Inv X pins σ H4 { s4 with heap := s4.heap.push { cls := .type "slice", data := .fields #[vl, vu, vs] } } := I4.kept (t' := s4.toks) fun b ob q => Heap.get?_push_of_some _ q
  obtain ⟨its, r, ht, hz⟩ := I5.list hx
  have hlen := r.length
  show wpAny (model X.prog X.w) X.A (subscriptTail e (.Slice (some (.UnaryOp .USub (.Constant (.int 2) k2 q1) q2)) none (some (.UnaryOp .USub (.Constant (.int 1) k p1) p2)) p3) (.ref a) (.ref s4.heap.objs.size)) (EP X pins σ Q) X.xe { s4 with heap := s4.heap.push { cls := .type "slice", data := .fields #[vl, vu, vs] } }
  refine tail_any (ops := [.ref a, .ref s4.heap.objs.size]) ht.isList.typeIs (PySem.slot_list_getitem.lookup) ?_ (by with_unfolding_all rfl)
  refine wpAny_getItem_list_slice ht.isList (Heap.IsSliceOf.new _ vl vu vs) pl pu ps (by decide) ?_ (by rw [List.size_toArray]; omega)
  rw [rev2_pick]
  refine ⟨.ref _, _, I5.laid (t' := s4.toks) (o := .lst xs.dropLast.reverse) (fun b ob q => Heap.get?_push_of_some _ q) (Nat.le_refl _) ?_, rfl, q _ (I5.hok.fresh (Nat.le_refl _))⟩
  exact ⟨by rw [List.length_reverse, List.length_dropLast]; omega, _, 0, (vals_dropLast r).reverse, Heap.get?_push_size _ rfl⟩
def aRev2 (a : AE) : AE := fun O ρ XX Kc => a O ρ XX fun O1 c => ∃ ds : List PyData, Els O1 c (ds.map .dat) ∧ Kc O1 (.dat (.list ds.dropLast.reverse))
theorem clsH_dropLast {ok : Addr → Prop} {H : Hp} : ∀ {vs : List V} {cs : List Cl}, ClsH K ok H vs cs → ClsH K ok H vs.dropLast cs.dropLast
  | _, _, .nil => .nil
  | _, _, .cons h .nil => .nil
  | _, _, .cons h (.cons h2 r) => .cons h (clsH_dropLast (.cons h2 r))
theorem clsH_reverse {ok : Addr → Prop} {H : Hp} : ∀ {vs : List V} {cs : List Cl}, ClsH K ok H vs cs → ClsH K ok H vs.reverse cs.reverse
  | _, _, .nil => .nil
  | _, _, .cons h r => by
    rw [List.reverse_cons, List.reverse_cons]
    exact (clsH_reverse r).app (.cons h .nil)
theorem sa_rev2 {t : TE} {a : AE} (ha : SaE K W t a) : SaE K W (tRev2 K t) (aRev2 a) := fun O ρ σ H Q Kc XX S k q x =>
  ha O ρ σ H _ _ XX S k (fun O1 c v H1 f1 o1 r1 ⟨ds, h, k1⟩ => by
    obtain ⟨b, xs, rfl, hb, rs⟩ := h.get o1 r1
    refine ⟨b, xs, rfl, SqL.of hb, fun p hp => ?_⟩
    obtain ⟨o2, f2, n⟩ := o1.new (u := .lst xs.dropLast.reverse) hp
    have e := cl_lis n upd_same ((clsH_reverse (clsH_dropLast rs)).fr f2)
    rw [← List.map_dropLast, ← List.map_reverse, lisC_dats] at e
    exact q O1 _ _ _ (f1.trans f2) o2 e k1) x
theorem de_rev2 {e : Expr} {a : AE} {k k2 : Nat} {p1 p2 p3 q1 q2 pos : Pos} (h : DE X W e a) : DE X W (.Subscript e (.Slice (some (.UnaryOp .USub (.Constant (.int 2) k2 q1) q2)) none (some (.UnaryOp .USub (.Constant (.int 1) k p1) p2)) p3) pos) (aRev2 a) := by
  obtain ⟨t, p, s⟩ := h.ex
  exact ⟨_, pe_rev2 p, sa_rev2 s⟩
/-! ## a, b, c = x, y, z -/
def aPar3 (i j l : Nat) (a : AA) : AS := fun A XX O ρ => a O ρ XX fun O1 cs => ∃ c d e, cs = [c, d, e] ∧ A.nx O1 (((ρ.set i (some c)).set j (some d)).set l (some e))
theorem cls3 {ok : Addr → Prop} {H : Hp} {vs : List V} {c d e : Cl} (h : ClsH K ok H vs [c, d, e]) : ∃ u v w, vs = [u, v, w] ∧ ClH K ok H u c ∧ ClH K ok H v d ∧ ClH K ok H w e := by
  cases h with
  | cons h1 r =>
    cases r with
    | cons h2 r =>
      cases r with
      | cons h3 r =>
        cases r
        exact ⟨_, _, _, rfl, h1, h2, h3⟩
theorem sas_par3 {i j l : Nat} {t : TA} {a : AA} (ha : SaA K W t a) : SaS K W (tPar3 i j l t) (aPar3 i j l a) := fun O ρ σ H D A XX S k e x =>
  ha O ρ σ H _ _ XX S k (fun O1 cs vs H1 f1 o1 r1 ⟨c, d, e', e1, k1⟩ => by
    subst e1
    obtain ⟨u, v, w, rfl, ru, rv, rw'⟩ := cls3 r1
    exact ⟨u, v, w, rfl, e.nx O1 _ _ H1 f1 ((((S.go f1 o1).set ru).set rv).set rw') k1⟩) x
theorem ds_par3 {i j l : Nat} {x y z : Str} {a b c : Expr} {aa : AA} {px py pz pt pos : Pos} {kt k2 pt2} (hc : X.calm = true) (hN : X.N.Nodup) (hi : X.N[i]? = some x) (hj : X.N[j]? = some y) (hl : X.N[l]? = some z) (hij : i ≠ j) (hil : i ≠ l) (hjl : j ≠ l)
    (hx : X.env.scope.names.lookup x = some .local) (hy : X.env.scope.names.lookup y = some .local) (hz : X.env.scope.names.lookup z = some .local) (ha : DA X W [a, b, c] aa)
    (hw : swappedStores [.Tuple [.Name x px, .Name y py, .Name z pz] kt pt] (.Tuple [a, b, c] k2 pt2) X.env = pure (some [x, y, z]))
    (hs : swapsWithSole [.Tuple [.Name x px, .Name y py, .Name z pz] kt pt] (.Tuple [a, b, c] k2 pt2) pos.line X.env = pure false := by rfl) :
    DS X W (.Assign [.Tuple [.Name x px, .Name y py, .Name z pz] kt pt] (.Tuple [a, b, c] k2 pt2) pos) (aPar3 i j l aa) := by
  obtain ⟨t, p, s⟩ := ha.ex
  exact ⟨_, ps_par3 hc hN hi hj hl hij hil hjl hx hy hz p hw hs, sas_par3 s⟩
end
/-! ## pairs and rows of two by two are unpacked -/
section
variable {O : Ob} {ρ : Rho} {XX : XC} {a b : AE} {v : AS} {A : AEn}
theorem sq_par {i j : Nat} {c d : Cl} (ha : Pu a O ρ XX c) (hb : Pu b O ρ XX d) (h : v A XX O ((ρ.set i (some c)).set j (some d))) : aSeq (aPar i j (aCons a (aCons b aNil))) v A XX O ρ := ha _ (hb _ ⟨c, d, rfl, h⟩)
theorem one_par {i j : Nat} {c d : Cl} (ha : Pu a O ρ XX c) (hb : Pu b O ρ XX d) (h : A.nx O ((ρ.set i (some c)).set j (some d))) : aPar i j (aCons a (aCons b aNil)) A XX O ρ := ha _ (hb _ ⟨c, d, rfl, h⟩)
theorem sq_asgT {i j : Nat} {c d : PyData} (h : a O ρ XX fun O1 z => z = .dat (.tuple [c, d]) ∧ v A XX O1 ((ρ.set i (some (.dat c))).set j (some (.dat d)))) (hm : ∀ K K' : KC, (∀ O c, K O c → K' O c) → a O ρ XX K → a O ρ XX K') : aSeq (aAsg a (aGTup 2 (aGCons (aName i) (aGCons (aName j) aGNil)))) v A XX O ρ :=
  hm _ _ (fun O1 z ⟨e, k⟩ => by subst e; exact ⟨[.dat c, .dat d], .dat [c, d], rfl, _, _, rfl, _, _, rfl, rfl, k⟩) h
theorem sq_asgP {i j : Nat} {c d : PyData} (ha : Pu a O ρ XX (.dat (.tuple [c, d]))) (h : v A XX O ((ρ.set i (some (.dat c))).set j (some (.dat d)))) : aSeq (aAsg a (aGTup 2 (aGCons (aName i) (aGCons (aName j) aGNil)))) v A XX O ρ :=
  ha _ ⟨[.dat c, .dat d], .dat [c, d], rfl, _, _, rfl, _, _, rfl, rfl, h⟩
theorem one_asgP {i j : Nat} {c d : PyData} (ha : Pu a O ρ XX (.dat (.tuple [c, d]))) (h : A.nx O ((ρ.set i (some (.dat c))).set j (some (.dat d)))) : aAsg a (aGTup 2 (aGCons (aName i) (aGCons (aName j) aGNil))) A XX O ρ :=
  ha _ ⟨[.dat c, .dat d], .dat [c, d], rfl, _, _, rfl, _, _, rfl, rfl, h⟩
abbrev rwD (a b c d : Int) : PyData := .tuple [.tuple [.int a, .int b], .tuple [.int c, .int d]]
theorem sq_rows {i j k l : Nat} {p q r s : Int} (ha : Pu a O ρ XX (.dat (rwD p q r s))) (h : v A XX O ((((ρ.set i (some (.dat (.int p)))).set j (some (.dat (.int q)))).set k (some (.dat (.int r)))).set l (some (.dat (.int s))))) :
    aSeq (aAsg a (aGTup 2 (aGCons (aGTup 2 (aGCons (aName i) (aGCons (aName j) aGNil))) (aGCons (aGTup 2 (aGCons (aName k) (aGCons (aName l) aGNil))) aGNil)))) v A XX O ρ :=
  ha _ ⟨[.dat (.tuple [.int p, .int q]), .dat (.tuple [.int r, .int s])], .dat _, rfl, _, _, rfl, ⟨[.dat (.int p), .dat (.int q)], .dat _, rfl, _, _, rfl, _, _, rfl, rfl, _, _, rfl, ⟨[.dat (.int r), .dat (.int s)], .dat _, rfl, _, _, rfl, _, _, rfl, rfl, rfl, h⟩⟩⟩
theorem pu_tup2 {c d : Cl} (ha : Pu a O ρ XX c) (hb : Pu b O ρ XX d) : Pu (aTup (aCons a (aCons b aNil))) O ρ XX (tupC [c, d]) := fun _ k => ha _ (hb _ ⟨by simp, k⟩)
theorem pu_rows {a b c d : AE} {p q r s : Int} (ha : Pu a O ρ XX (.dat (.int p))) (hb : Pu b O ρ XX (.dat (.int q))) (hc : Pu c O ρ XX (.dat (.int r))) (hd : Pu d O ρ XX (.dat (.int s))) :
    Pu (aTup (aCons (aTup (aCons a (aCons b aNil))) (aCons (aTup (aCons c (aCons d aNil))) aNil))) O ρ XX (.dat (rwD p q r s)) := pu_tup2 (pu_tup2 ha hb) (pu_tup2 hc hd)
theorem pu_add {i j : Int} (ha : Pu a O ρ XX (.dat (.int i))) (hb : Pu b O ρ XX (.dat (.int j))) : Pu (aOp (aI0 fun i j => .int (i + j)) a b) O ρ XX (.dat (.int (i + j))) := pu_I0 ha hb
theorem pu_sub {i j : Int} (ha : Pu a O ρ XX (.dat (.int i))) (hb : Pu b O ρ XX (.dat (.int j))) : Pu (aOp (aI0 fun i j => .int (i - j)) a b) O ρ XX (.dat (.int (i - j))) := pu_I0 ha hb
theorem pu_mul {i j : Int} {n : Nat} (ha : Pu a O ρ XX (.dat (.int i))) (hb : Pu b O ρ XX (.dat (.int j))) (hi : i.natAbs < 2 ^ n) (hj : j.natAbs < 2 ^ n) (h0 : 0 < n := by decide) (h1 : n + n ≤ 1000000 := by decide) : Pu (aOp (aI CMulW fun i j => .int (i * j)) a b) O ρ XX (.dat (.int (i * j))) := pu_I ha hb (mulC hi hj h0 h0 h1)
end
section
variable {O : Ob} {ρ : Rho} {XX : XC} {a b : AE} {t : AT} {v w : AS} {A : AEn} {p : Bool} {c d : Cl}
theorem sq_while (h : ∃ Wi : Nat → Ob → Rho → Prop, (∃ m, Wi m O ρ) ∧ ∀ m O ρ, Wi m O ρ → t O ρ XX fun O1 z => if z = true then w { nx := fun O' ρ' => ∃ m', m' < m ∧ Wi m' O' ρ', rt := A.rt, ct := fun O' ρ' => ∃ m', m' < m ∧ Wi m' O' ρ', bk := v A XX } XX O1 ρ else v A XX O1 ρ) :
    aSeq (aWhile t w) v A XX O ρ := h
theorem sq_if_setE {s : Nat} {c0 : Cl} (ht : PuT t O ρ XX p) (ha : Pu a O ρ XX c) (h0 : ρ[s]? = some (some c0)) (h : v A XX O (ρ.set s (some (if p = true then c else c0)))) : aSeq (aIfS t (aAsg a (aName s)) aNext) v A XX O ρ :=
  by
    cases p with
    | true => exact ht _ (iteT (ha _ h))
    | false =>
      refine ht _ (iteF ?_)
      have e : ρ.set s (some c0) = ρ := by
        refine List.ext_getElem? fun i => ?_
        rw [List.getElem?_set]
        by_cases hi : s = i
        · subst hi
          rw [if_pos rfl, h0]
          have := (List.getElem?_eq_some_iff.mp h0).1
          rw [if_pos this]
        · rw [if_neg hi]
      have h' : v A XX O (ρ.set s (some c0)) := h
      rw [e] at h'
      exact h'
theorem pu_pick2g {x y : Int} (ha : Pu a O ρ XX (.dat (.int x))) (hb : Pu b O ρ XX (.dat (.int y))) {e : AE} (he : Pu e O ρ XX (.dat (.bool p))) : Pu (aOp aIxL (aLst (aCons a (aCons b aNil))) (aCB bIntB (aCons e aNil))) O ρ XX (.dat (.int (if p = true then y else x))) := fun K k => by
  refine ha _ (hb _ ⟨by simp, he _ (.inr ⟨p, rfl, _, _, _, rfl, elsC _ _, ?_, k⟩)⟩)
  cases p <;> rfl
theorem it_tup {es : List Cl} (ha : Pu a O ρ XX c) (hc : ElsT c es) : ItS (aItT a) O ρ XX es := fun Kc' k => ha _ ⟨es, hc, k _ fun _ => trivial⟩
theorem all_gen {it : AIt} {es : List Cl} {i : Nat} {te : AE} {K : KC} {g : Cl → Bool} (hit : ItS it O ρ XX es) (hz : es.length < 1000000)
    (hte : ∀ (D : Addr) (w : Ow) (e : Cl) (K : KC), e ∈ es → K ((D, w) :: O) (.dat (.bool (g e))) → te ((D, w) :: O) ((wipeR ρ [i]).set i (some e)) X0 K) (k : K O (.dat (.bool (es.all g)))) :
    aCB bAll (aCons (aLc false it i (fun O _ _ Kc => Kc O true) te) aNil) O ρ XX K := by
  refine hit _ fun St hSt D => ⟨fun j O2 => O2 = (D, .lst (((es.map g).take j).map fun b => Cl.dat (.bool b))) :: O, by simp, ?_, ?_⟩
  · rintro j O2 e hj rfl
    refine ⟨hSt _, hte _ _ e _ (List.mem_of_getElem? hj) ⟨_, _, .here, by simp; omega, ?_⟩⟩
    have hb : (es.map g)[j]? = some (g e) := by rw [List.getElem?_map, hj]; rfl
    show (D, Ow.lst _) :: O = (D, Ow.lst _) :: O
    rw [all_step hb]
  · rintro O2 rfl
    refine ⟨hSt _, _, _, rfl, ?_⟩
    have e2 : (es.map g).take es.length = es.map g := List.take_of_length_le (by simp)
    rw [e2, if_neg Bool.false_ne_true]
    refine ⟨_, es.map g, rfl, elsC _ _, ?_⟩
    have e3 : (es.map g).all id = es.all g := by simp [List.all_map, Function.comp_def]
    rw [e3]
    exact k
end
theorem t_drop {O : Ob} {ρ : Rho} {XX : XC} {a : AE} {A : AEn} (h : a O ρ XX fun O1 _ => A.nx O1 ρ) : aDrop a A XX O ρ := h
theorem callK1 {O : Ob} {ρ : Rho} {XX : XC} {a b : AE} {c d : Cl} {af : AF} {K : KC} (ha : Pu a O ρ XX c) (hb : Pu b O ρ XX d) (h : af O [c, d] (fun O' x c => XX O' ρ x c) K) : aCallK af (aCons a aNil) b O ρ XX K := ha _ (hb _ h)
theorem callK2 {O : Ob} {ρ : Rho} {XX : XC} {a b e : AE} {c d g : Cl} {af : AF} {K : KC} (ha : Pu a O ρ XX c) (hb : Pu b O ρ XX d) (he : Pu e O ρ XX g) (h : af O [c, d, g] (fun O' x c => XX O' ρ x c) K) : aCallK af (aCons a (aCons b aNil)) e O ρ XX K := ha _ (hb _ (he _ h))
theorem callD1 {O : Ob} {ρ : Rho} {XX : XC} {a : AE} {c : Cl} {dv : PyData} {af : AF} {K : KC} (ha : Pu a O ρ XX c) (h : af O [c, .dat dv] (fun O' x c => XX O' ρ x c) K) : aCallD dv af (aCons a aNil) O ρ XX K := ha _ h
section
variable {O : Ob} {ρ : Rho} {XX : XC} {a b : AE} {t : AT} {v w : AS} {A : AEn} {p : Bool} {c d : Cl}
theorem sq_par3 {i j l : Nat} {a : AA} (h : a O ρ XX fun O1 cs => ∃ c d e, cs = [c, d, e] ∧ v A XX O1 (((ρ.set i (some c)).set j (some d)).set l (some e))) : aSeq (aPar3 i j l a) v A XX O ρ := h
theorem one_forT {it : AIt} {i j : Nat} (h : it O ρ XX fun O1 cs St => ∃ Wi : Nat → Ob → Rho → Prop, Wi 0 O1 ρ ∧
    (∀ k O2 ρ2 e, cs[k]? = some e → Wi k O2 ρ2 → St O2 ∧ ∃ c d, ElsT e [c, d] ∧ w { nx := Wi (k + 1), rt := A.rt, ct := Wi (k + 1), bk := A.nx } XX O2 ((ρ2.set i (some c)).set j (some d))) ∧
    ∀ O2 ρ2, Wi cs.length O2 ρ2 → St O2 ∧ A.nx O2 ρ2) (hm : ∀ K K' : Ob → List Cl → (Ob → Prop) → Prop, (∀ O cs St, K O cs St → K' O cs St) → it O ρ XX K → it O ρ XX K') : aFor it (aGTup 2 (aGCons (aName i) (aGCons (aName j) aGNil))) w A XX O ρ :=
  hm _ _ (fun O1 cs St ⟨Wi, w0, turn, last⟩ => ⟨Wi, w0, fun k O2 ρ2 e he hw => by
    obtain ⟨s, c, d, hT, k2⟩ := turn k O2 ρ2 e he hw
    exact ⟨s, [c, d], hT, rfl, c, [d], rfl, d, [], rfl, rfl, k2⟩, last⟩) h
theorem sq_neRepr {d : PyData} (ha : Pu a O ρ XX (.dat d)) (hb : Pu b O ρ XX (.dat d)) (hd : d.hasDict = false) (tx : TxB d) (k : v A XX O ρ) : aSeq (aIfS (aTest (aOp aNeS (aCB bReprA (aCons a aNil)) (aCB bReprA (aCons b aNil)))) w aNext) v A XX O ρ :=
  sq_ifP (put_ (pu_neS (pu_repr ha hd tx) (pu_repr hb hd tx))) (by rw [decide_eq_true rfl]; exact iteF k)
theorem pu_list {es : List Cl} (ha : Pu a O ρ XX c) (hc : Els O c es ∨ ElsT c es) : Pu (aCB (bList false) (aCons a aNil)) O ρ XX (lisC es) := fun K k => ha _ ⟨c, es, rfl, hc, iteF k⟩
theorem pu_tup1 (ha : Pu a O ρ XX c) : Pu (aTup (aCons a aNil)) O ρ XX (tupC [c]) := fun _ k => ha _ ⟨by simp, k⟩
theorem pu_tup3 {e : AE} {c3 : Cl} (ha : Pu a O ρ XX c) (hb : Pu b O ρ XX d) (he : Pu e O ρ XX c3) : Pu (aTup (aCons a (aCons b (aCons e aNil)))) O ρ XX (tupC [c, d, c3]) := fun _ k => ha _ (hb _ (he _ ⟨by simp, k⟩))
end
theorem atI_mem {xs : List PyData} {r : Int} (h0 : 0 ≤ r) (h1 : r < xs.length) : ∃ d, atI (xs.map Cl.dat) r = some (.dat d) ∧ d ∈ xs := by
  obtain ⟨n, rfl⟩ : ∃ n : Nat, r = (n : Int) := ⟨r.toNat, by omega⟩
  have hn : n < xs.length := by omega
  refine ⟨xs[n], atI_nat ?_, List.getElem_mem hn⟩
  rw [List.getElem?_map, List.getElem?_eq_getElem hn]
  rfl
end Ab
namespace Ab
open PySem PySem.Spec PyProof.Rows L2 Vg
/-! ## rows of fractions in the three manners -/
def isMan (x : Str) : Prop := x = "floor" ∨ x = "ceil" ∨ x = "near"
def termI (m : Str) (a b : Int) : Int := if m = "floor" then a.fdiv b else if m = "ceil" then -((-a).fdiv b) else (2 * a + b).fdiv (2 * b)
def sgI (x : Str) : Int := if x = "ceil" then -1 else 1
/-- what is left behind the first term, with the manner's sign -/
def leftI (x : Str) (a b : Int) : Int := sgI x * (a - termI x a b * b)
theorem sg_or (x : Str) : sgI x = 1 ∨ sgI x = -1 := by unfold sgI; split <;> simp
theorem nf : ¬ (("near" : Str) = "floor") := by decide +kernel
theorem nc : ¬ (("near" : Str) = "ceil") := by decide +kernel
theorem cf : ¬ (("ceil" : Str) = "floor") := by decide +kernel
theorem fc : ¬ (("floor" : Str) = "ceil") := by decide +kernel
theorem fn : ¬ (("floor" : Str) = "near") := by decide +kernel
theorem cn : ¬ (("ceil" : Str) = "near") := by decide +kernel
theorem term_floor (a b : Int) : termI "floor" a b = a.fdiv b := by unfold termI; rw [if_pos rfl]
theorem term_ceil (a b : Int) : termI "ceil" a b = -((-a).fdiv b) := by unfold termI; rw [if_neg cf, if_pos rfl]
theorem term_near (a b : Int) : termI "near" a b = (2 * a + b).fdiv (2 * b) := by unfold termI; rw [if_neg nf, if_neg nc]
theorem sg_floor : sgI "floor" = 1 := by unfold sgI; rw [if_neg fc]
theorem sg_ceil : sgI "ceil" = -1 := by unfold sgI; rw [if_pos rfl]
theorem sg_near : sgI "near" = 1 := by unfold sgI; rw [if_neg nc]
theorem fdiv_lo {a b : Int} (hb : 1 ≤ b) : a.fdiv b * b ≤ a ∧ a < a.fdiv b * b + b := by
  rw [Int.fdiv_eq_ediv_of_nonneg a (by omega)]
  refine ⟨Int.ediv_mul_le a (by omega), ?_⟩
  have := Int.lt_ediv_add_one_mul_self a (show 0 < b by omega)
  rw [Int.add_mul, Int.one_mul] at this
  exact this
theorem fdiv_sz {a b : Int} {n : Nat} (hb : 1 ≤ b) (h : a.natAbs < 2 ^ n) : (a.fdiv b).natAbs < 2 ^ n := by
  rw [Int.fdiv_eq_ediv_of_nonneg a (by omega)]
  exact Nat.lt_of_le_of_lt (Int.natAbs_ediv_le_natAbs _ _) h
theorem left_floor {a b : Int} (hb : 1 ≤ b) : 0 ≤ leftI "floor" a b ∧ leftI "floor" a b < b := by
  unfold leftI
  rw [sg_floor, term_floor]
  have := fdiv_lo (a := a) hb
  omega
theorem left_ceil {a b : Int} (hb : 1 ≤ b) : 0 ≤ leftI "ceil" a b ∧ leftI "ceil" a b < b := by
  unfold leftI
  rw [sg_ceil, term_ceil]
  have := fdiv_lo (a := -a) hb
  simp only [Int.neg_mul]
  omega
theorem left_near {a b : Int} (hb : 1 ≤ b) : -b ≤ 2 * leftI "near" a b ∧ 2 * leftI "near" a b < b := by
  unfold leftI
  rw [sg_near, term_near]
  have z := fdiv_lo (a := 2 * a + b) (b := 2 * b) (by omega)
  have e : (2 * a + b).fdiv (2 * b) * (2 * b) = 2 * ((2 * a + b).fdiv (2 * b) * b) := by
    rw [Int.mul_left_comm]
  rw [e] at z
  omega
theorem left_lt {x : Str} (hx : isMan x) {a b : Int} (hb : 1 ≤ b) : (leftI x a b).natAbs < b.natAbs := by
  rcases hx with rfl | rfl | rfl
  · have := left_floor (a := a) hb; omega
  · have := left_ceil (a := a) hb; omega
  · have := left_near (a := a) hb; omega
theorem term_size {x : Str} (hx : isMan x) {a b : Int} {n : Nat} (hb : 1 ≤ b) (ha : a.natAbs < 2 ^ n) (hb2 : b.natAbs < 2 ^ n) : (termI x a b).natAbs < 2 ^ (n + 2) := by
  have up : 2 ^ n * 4 = 2 ^ (n + 2) := by rw [Nat.pow_add]
  have m1 : ((2 : Int)).natAbs < 2 ^ 2 := by decide
  rcases hx with rfl | rfl | rfl
  · rw [term_floor]
    have := fdiv_sz (n := n) hb ha
    omega
  · rw [term_ceil, Int.natAbs_neg]
    have := fdiv_sz (n := n) (a := -a) hb (by rw [Int.natAbs_neg]; exact ha)
    omega
  · rw [term_near]
    refine fdiv_sz (n := n + 2) (by omega) ?_
    omega
/-- the row of a fraction, told term by term -/
inductive Run (x : Str) : Int → Int → List Int → Prop
  | last {a b : Int} (h : leftI x a b = 0) : Run x a b [termI x a b]
  | next {a b : Int} {r : List Int} (h : leftI x a b ≠ 0) (k : Run x (lowT b (leftI x a b)) (lowB b (leftI x a b)) r) : Run x a b (termI x a b :: r)
theorem Run.ne {x : Str} {a b : Int} {r : List Int} (h : Run x a b r) : r ≠ [] := by cases h <;> simp
theorem Run.head {x : Str} {a b : Int} {r : List Int} (h : Run x a b r) : ∃ s, r = termI x a b :: s := by cases h <;> exact ⟨_, rfl⟩
theorem Run.det {x : Str} {a b : Int} {r s : List Int} (h : Run x a b r) : Run x a b s → r = s := by
  induction h generalizing s with
  | last h =>
    intro k
    cases k with
    | last _ => rfl
    | next z _ => exact absurd h z
  | next h k ih =>
    intro k2
    cases k2 with
    | last z => exact absurd z h
    | next z k2 => rw [ih k2]
theorem Run.fz {x : Str} (hx : isMan x) {n : Nat} {a b : Int} (F : Fz n a b) (h : leftI x a b ≠ 0) : Fz n (lowT b (leftI x a b)) (lowB b (leftI x a b)) :=
  Fz.low h F.tb (Nat.lt_trans (left_lt hx F.b1) F.tb)
theorem lowB_lt {x : Str} (hx : isMan x) {a b : Int} (hb : 1 ≤ b) (h : leftI x a b ≠ 0) : 1 ≤ lowB b (leftI x a b) ∧ lowB b (leftI x a b) ≤ ((leftI x a b).natAbs : Int) := by
  have h1 := low_pos (a := b) h
  have h2 := lowB_le (a := b) h
  omega
/-- rows of ceilings: no more terms than the bottom -/
theorem run_ceil : ∀ (n : Nat) (a b : Int), 1 ≤ b → b ≤ n → ∃ r, Run "ceil" a b r ∧ r.length ≤ n
  | 0, a, b, h1, h2 => by omega
  | n + 1, a, b, h1, h2 => by
    by_cases h : leftI "ceil" a b = 0
    · exact ⟨_, .last h, by simp⟩
    · have hl := lowB_lt (.inr (.inl rfl)) h1 h
      have hb := left_ceil (a := a) h1
      obtain ⟨r, k, hr⟩ := run_ceil n (lowT b (leftI "ceil" a b)) (lowB b (leftI "ceil" a b)) hl.1 (by omega)
      exact ⟨_, .next h k, by simp; omega⟩
theorem run_near : ∀ (n : Nat) (a b : Int), 1 ≤ b → b.natAbs < 2 ^ n → ∃ r, Run "near" a b r ∧ r.length ≤ 2 * n
  | 0, a, b, h1, h2 => by omega
  | n + 1, a, b, h1, h2 => by
    by_cases h : leftI "near" a b = 0
    · exact ⟨_, .last h, by simp; omega⟩
    · have hl := lowB_lt (.inr (.inr rfl)) h1 h
      have hb := left_near (a := a) h1
      have e : 2 ^ (n + 1) = 2 * 2 ^ n := by rw [Nat.pow_succ, Nat.mul_comm]
      obtain ⟨r, k, hr⟩ := run_near n (lowT b (leftI "near" a b)) (lowB b (leftI "near" a b)) hl.1 (by omega)
      exact ⟨_, .next h k, by simp; omega⟩
theorem run_floor : ∀ (n : Nat) (a b : Int), 1 ≤ b → b.natAbs < 2 ^ n → ∃ r, Run "floor" a b r ∧ r.length ≤ 2 * n
  | 0, a, b, h1, h2 => by omega
  | n + 1, a, b, h1, h2 => by
    by_cases h : leftI "floor" a b = 0
    · exact ⟨_, .last h, by simp; omega⟩
    · have hl := lowB_lt (.inl rfl) h1 h
      have hb := left_floor (a := a) h1
      have e : 2 ^ (n + 1) = 2 * 2 ^ n := by rw [Nat.pow_succ, Nat.mul_comm]
      have eq1 := low_eq (a := b) h
      generalize hl' : leftI "floor" a b = l at *
      have tb : lowB b l < lowT b l := by
        have h3 : lowB b l * l < lowT b l * l := by
          rw [eq1]
          have : lowB b l * l < lowB b l * b := Int.mul_lt_mul_of_pos_left (by omega) (by omega)
          exact this
        exact Int.lt_of_mul_lt_mul_right h3 (by omega)
      have tt : (lowT b l).natAbs ≤ b.natAbs := lowT_le (a := b) h
      by_cases h2' : leftI "floor" (lowT b l) (lowB b l) = 0
      · exact ⟨_, .next (by rw [hl']; exact h) (by rw [hl']; exact .last h2'), by simp; omega⟩
      · have k1 := lowB_lt (.inl rfl) hl.1 h2'
        have k2 := left_floor (a := lowT b l) hl.1
        have k3 : 2 * leftI "floor" (lowT b l) (lowB b l) < lowT b l := by
          have z := fdiv_lo (a := lowT b l) hl.1
          have d : leftI "floor" (lowT b l) (lowB b l) = lowT b l - (lowT b l).fdiv (lowB b l) * lowB b l := by
            unfold leftI
            rw [sg_floor, term_floor]
            omega
          have q1 : 1 ≤ (lowT b l).fdiv (lowB b l) := by
            refine Int.not_lt.mp fun q0 => ?_
            have : (lowT b l).fdiv (lowB b l) * lowB b l ≤ 0 := Int.mul_nonpos_of_nonpos_of_nonneg (by omega) (by omega)
            omega
          have q2 : lowB b l ≤ (lowT b l).fdiv (lowB b l) * lowB b l := by
            have := Int.mul_le_mul_of_nonneg_right q1 (show 0 ≤ lowB b l by omega)
            omega
          omega
        obtain ⟨r, k, hr⟩ := run_floor n (lowT (lowB b l) (leftI "floor" (lowT b l) (lowB b l))) (lowB (lowB b l) (leftI "floor" (lowT b l) (lowB b l))) k1.1 (by omega)
        exact ⟨_, .next (by rw [hl']; exact h) (by rw [hl']; exact .next h2' k), by simp; omega⟩
theorem run_ex {x : Str} (hx : isMan x) {a b : Int} (hb : 1 ≤ b) (h : if x = "ceil" then b ≤ 999 else b.natAbs < 2 ^ 400) : ∃ r, Run x a b r ∧ r.length ≤ 999 := by
  rcases hx with rfl | rfl | rfl
  · rw [if_neg fc] at h
    obtain ⟨r, k, l⟩ := run_floor 400 a b hb h
    exact ⟨r, k, by omega⟩
  · rw [if_pos rfl] at h
    exact run_ceil 999 a b hb h
  · rw [if_neg nc] at h
    obtain ⟨r, k, l⟩ := run_near 400 a b hb h
    exact ⟨r, k, by omega⟩
/-! ## what a row is worth, from behind -/
def wor (s : Int) : List Int → Int × Int
  | [] => (1, 0)
  | t :: r => (t * (wor s r).1 + s * (wor s r).2, (wor s r).1)
theorem gcd_nat1 {a b : Int} (h : gcdI a b = 1) : Nat.gcd a.natAbs b.natAbs = 1 := by unfold gcdI at h; omega
theorem gcd_left {a b t s : Int} (hs : s = 1 ∨ s = -1) (h : gcdI a b = 1) : gcdI b (s * (a - t * b)) = 1 := by
  have h1 := gcd_nat1 h
  unfold gcdI
  have : Nat.gcd b.natAbs (s * (a - t * b)).natAbs = 1 := by
    have e : (s * (a - t * b)).natAbs = (a - t * b).natAbs := by
      rcases hs with rfl | rfl
      · rw [Int.one_mul]
      · rw [Int.neg_mul, Int.one_mul, Int.natAbs_neg]
    rw [e]
    have d := Nat.gcd_dvd_left b.natAbs (a - t * b).natAbs
    have d2 := Nat.gcd_dvd_right b.natAbs (a - t * b).natAbs
    have i1 : ((Nat.gcd b.natAbs (a - t * b).natAbs : Nat) : Int) ∣ b := Int.ofNat_dvd_left.mpr d
    have i2 : ((Nat.gcd b.natAbs (a - t * b).natAbs : Nat) : Int) ∣ a - t * b := Int.ofNat_dvd_left.mpr d2
    have i3 : ((Nat.gcd b.natAbs (a - t * b).natAbs : Nat) : Int) ∣ a := by
      have := Int.dvd_add i2 (Int.dvd_mul_of_dvd_right (b := t) i1)
      rwa [Int.sub_add_cancel] at this
    have d3 : Nat.gcd b.natAbs (a - t * b).natAbs ∣ Nat.gcd a.natAbs b.natAbs := Nat.dvd_gcd (Int.ofNat_dvd_left.mp i3) d
    rw [h1] at d3
    exact Nat.dvd_one.mp d3
  rw [this]
  rfl
theorem low_sig {b l : Int} (h : l ≠ 0) (g : gcdI b l = 1) : ∃ e : Int, (e = 1 ∨ e = -1) ∧ lowT b l = e * b ∧ lowB b l = e * l := by
  have m := low_mul (a := b) h
  unfold gsI at m
  rw [g] at m
  by_cases hl : l < 0
  · rw [if_pos hl] at m
    exact ⟨-1, .inr rfl, by omega, by omega⟩
  · rw [if_neg hl] at m
    exact ⟨1, .inl rfl, by omega, by omega⟩
theorem run_wor {x : Str} {a b : Int} {r : List Int} (h : Run x a b r) : 1 ≤ b → gcdI a b = 1 → ∃ e : Int, (e = 1 ∨ e = -1) ∧ wor (sgI x) r = (e * a, e * b) := by
  induction h with
  | @last a b h =>
    intro hb hg
    have hl : a = termI x a b * b := by
      unfold leftI at h
      rcases sg_or x with s | s <;> rw [s] at h <;> omega
    have b1 : b = 1 := by
      have h1 := gcd_nat1 hg
      have d : b.natAbs ∣ a.natAbs := by rw [hl, Int.natAbs_mul]; exact Nat.dvd_mul_left _ _
      rw [Nat.gcd_eq_right d] at h1
      omega
    refine ⟨1, .inl rfl, ?_⟩
    have hl2 : termI x a b = a := by
      have := hl
      rw [b1, Int.mul_one] at this
      rw [b1]
      exact this.symm
    show (termI x a b * 1 + sgI x * 0, (1 : Int)) = _
    rw [hl2, b1]
    simp
  | @next a b r h k ih =>
    intro hb hg
    have g2 : gcdI b (leftI x a b) = 1 := gcd_left (sg_or x) hg
    obtain ⟨σ, hσ, e1, e2⟩ := low_sig h g2
    obtain ⟨e, he, hw⟩ := ih (low_pos h) (low_gcd h)
    refine ⟨e * σ, by rcases he with rfl | rfl <;> rcases hσ with rfl | rfl <;> simp, ?_⟩
    show (termI x a b * (wor (sgI x) r).1 + sgI x * (wor (sgI x) r).2, (wor (sgI x) r).1) = _
    rw [hw, e1, e2]
    have e3 : sgI x * leftI x a b = a - termI x a b * b := by
      unfold leftI
      rw [← Int.mul_assoc]
      rcases sg_or x with s | s <;> rw [s] <;> simp
    refine Prod.ext ?_ (by show e * (σ * b) = e * σ * b; rw [Int.mul_assoc])
    show termI x a b * (e * (σ * b)) + sgI x * (e * (σ * leftI x a b)) = e * σ * a
    have e4 : sgI x * (e * (σ * leftI x a b)) = e * σ * (sgI x * leftI x a b) := by
      simp only [Int.mul_left_comm, Int.mul_assoc]
    rw [e4, e3, Int.mul_sub]
    have e5 : termI x a b * (e * (σ * b)) = e * σ * (termI x a b * b) := by simp only [Int.mul_left_comm, Int.mul_assoc]
    rw [e5]
    omega
end Ab
namespace Ab
open PySem PySem.Spec PyProof.Rows L2 Vg
/-! ## what is legal -/
def folN (b t : Int) : Bool := if b = 2 then decide (t > 0) else if b = -2 then decide (t < 0) else true
def absI (t : Int) : Int := if t < 0 then -t else t
def begI (x : Str) (is : List Int) : Bool :=
  if x = "floor" then (is.drop 1).all fun t => decide (t ≥ 1)
  else if x = "ceil" then (is.drop 1).all fun t => decide (t ≥ 2)
  else ((is.drop 1).all fun t => decide (absI t ≥ 2)) && (List.zipWith folN (is.drop 1) ((is.drop 1).drop 1)).all id
def endI (x : Str) (is : List Int) : Bool :=
  if is.length ≤ 1 then decide (is.length = 1)
  else if x = "floor" then !decide (is.getLastD 0 = 1) else if x = "near" then !decide (is.getLastD 0 = 2) else true
/-- a rest: what stands behind a term -/
def Rst (x : Str) (a b : Int) : Prop := 1 ≤ b ∧ if x = "near" then 2 * b < a ∨ a ≤ -(2 * b) else b < a
theorem rst_of_left {x : Str} (hx : isMan x) {a b : Int} (hb : 1 ≤ b) (h : leftI x a b ≠ 0) : Rst x (lowT b (leftI x a b)) (lowB b (leftI x a b)) := by
  have e := low_eq (a := b) h
  have p := low_pos (a := b) h
  refine ⟨p, ?_⟩
  rcases hx with rfl | rfl | rfl
  · rw [if_neg fn]
    have z := left_floor (a := a) hb
    generalize leftI "floor" a b = l at *
    have h1 : lowB b l * l < lowT b l * l := by
      rw [e]
      exact Int.mul_lt_mul_of_pos_left (by omega) (by omega)
    exact Int.lt_of_mul_lt_mul_right h1 (by omega)
  · rw [if_neg cn]
    have z := left_ceil (a := a) hb
    generalize leftI "ceil" a b = l at *
    have h1 : lowB b l * l < lowT b l * l := by
      rw [e]
      exact Int.mul_lt_mul_of_pos_left (by omega) (by omega)
    exact Int.lt_of_mul_lt_mul_right h1 (by omega)
  · rw [if_pos rfl]
    have z := left_near (a := a) hb
    generalize leftI "near" a b = l at *
    by_cases hl : 0 < l
    · left
      have h1 : 2 * lowB b l * l < lowT b l * l := by
        rw [e, Int.mul_right_comm, Int.mul_comm (2 * l), ]
        exact Int.mul_lt_mul_of_pos_left (by omega) (by omega)
      exact Int.lt_of_mul_lt_mul_right h1 (by omega)
    · right
      refine Int.not_lt.mp fun q => ?_
      have h1 : lowT b l * (-l) > -(2 * lowB b l) * (-l) := Int.mul_lt_mul_of_pos_right q (by omega)
      have h2 : lowB b l * (-(2 * l)) ≤ lowB b l * b := Int.mul_le_mul_of_nonneg_left (by omega) (by omega)
      have h3 : lowT b l * -l = -(lowB b l * b) := by rw [Int.mul_neg, e]
      have h4 : -(2 * lowB b l) * -l = -(lowB b l * (-(2 * l))) := by
        rw [Int.neg_mul_neg, Int.mul_neg, Int.neg_neg, Int.mul_comm 2 (lowB b l), Int.mul_assoc]
      omega
theorem left_eq (x : Str) (a b : Int) : termI x a b * b = a - sgI x * leftI x a b := by
  unfold leftI
  rw [← Int.mul_assoc]
  rcases sg_or x with s | s <;> rw [s] <;> simp <;> omega
theorem term_rf {a b : Int} (h : Rst "floor" a b) : 1 ≤ termI "floor" a b ∧ (leftI "floor" a b = 0 → 2 ≤ termI "floor" a b) := by
  obtain ⟨hb, h⟩ := h
  rw [if_neg fn] at h
  have e := left_eq "floor" a b
  rw [sg_floor] at e
  have z := left_floor (a := a) hb
  generalize termI "floor" a b = t at *
  generalize leftI "floor" a b = l at *
  constructor
  · refine Int.not_lt.mp fun q => ?_
    have : t * b ≤ 0 := Int.mul_nonpos_of_nonpos_of_nonneg (by omega) (by omega)
    omega
  · intro l0
    refine Int.not_lt.mp fun q => ?_
    have : t * b ≤ 1 * b := Int.mul_le_mul_of_nonneg_right (by omega) (by omega)
    omega
theorem term_rc {a b : Int} (h : Rst "ceil" a b) : 2 ≤ termI "ceil" a b := by
  obtain ⟨hb, h⟩ := h
  rw [if_neg cn] at h
  have e := left_eq "ceil" a b
  rw [sg_ceil] at e
  have z := left_ceil (a := a) hb
  generalize termI "ceil" a b = t at *
  generalize leftI "ceil" a b = l at *
  refine Int.not_lt.mp fun q => ?_
  have : t * b ≤ 1 * b := Int.mul_le_mul_of_nonneg_right (by omega) (by omega)
  omega
theorem term_rn {a b : Int} (h : Rst "near" a b) : (2 * b < a → 2 ≤ termI "near" a b) ∧ (a ≤ -(2 * b) → termI "near" a b ≤ -2) := by
  obtain ⟨hb, h⟩ := h
  have e := left_eq "near" a b
  rw [sg_near] at e
  have z := left_near (a := a) hb
  generalize termI "near" a b = t at *
  generalize leftI "near" a b = l at *
  constructor
  · intro ha
    refine Int.not_lt.mp fun q => ?_
    have : t * b ≤ 1 * b := Int.mul_le_mul_of_nonneg_right (by omega) (by omega)
    omega
  · intro ha
    refine Int.not_lt.mp fun q => ?_
    have : (-1) * b ≤ t * b := Int.mul_le_mul_of_nonneg_right (by omega) (by omega)
    omega
theorem getLastD_cons (t : Int) {s : List Int} (h : s ≠ []) : (t :: s).getLastD 0 = s.getLastD 0 := by
  cases s with
  | nil => exact absurd rfl h
  | cons u s => rfl
theorem tail_floor {a b : Int} {r : List Int} (h : Run "floor" a b r) : Rst "floor" a b → (∀ t ∈ r, (1 : Int) ≤ t) ∧ r.getLastD 0 ≠ 1 := by
  induction h with
  | @last a b h =>
    intro R
    have z := term_rf R
    exact ⟨fun t ht => by cases List.mem_singleton.mp ht; exact z.1, by show termI "floor" a b ≠ 1; have := z.2 h; omega⟩
  | @next a b r h k ih =>
    intro R
    have z := term_rf R
    obtain ⟨i1, i2⟩ := ih (rst_of_left (.inl rfl) R.1 h)
    refine ⟨fun t ht => ?_, by rw [getLastD_cons _ k.ne]; exact i2⟩
    rcases List.mem_cons.mp ht with rfl | ht
    · exact z.1
    · exact i1 t ht
theorem tail_ceil {a b : Int} {r : List Int} (h : Run "ceil" a b r) : Rst "ceil" a b → ∀ t ∈ r, (2 : Int) ≤ t := by
  induction h with
  | @last a b h =>
    intro R t ht
    cases List.mem_singleton.mp ht
    exact term_rc R
  | @next a b r h k ih =>
    intro R t ht
    rcases List.mem_cons.mp ht with rfl | ht
    · exact term_rc R
    · exact ih (rst_of_left (.inr (.inl rfl)) R.1 h) t ht
theorem abs_ge {t : Int} (h : 2 ≤ t ∨ t ≤ -2) : absI t ≥ 2 := by unfold absI; split <;> omega
theorem tail_near {a b : Int} {r : List Int} (h : Run "near" a b r) : Rst "near" a b → (∀ t ∈ r, absI t ≥ 2) ∧ (List.zipWith folN r (r.drop 1)).all id = true ∧ r.getLastD 0 ≠ 2 := by
  induction h with
  | @last a b h =>
    intro R
    have z := term_rn R
    have R2 := R.2
    rw [if_pos rfl] at R2
    have e := left_eq "near" a b
    rw [h, Int.mul_zero, Int.sub_zero] at e
    refine ⟨fun t ht => ?_, rfl, ?_⟩
    · cases List.mem_singleton.mp ht
      exact abs_ge (R2.imp z.1 z.2)
    · show termI "near" a b ≠ 2
      intro q
      rw [q] at e
      have := R.1
      omega
  | @next a b r h k ih =>
    intro R
    have z := term_rn R
    have R2 := R.2
    rw [if_pos rfl] at R2
    have R3 := rst_of_left (.inr (.inr rfl)) R.1 h
    obtain ⟨i1, i2, i3⟩ := ih R3
    refine ⟨fun t ht => ?_, ?_, by rw [getLastD_cons _ k.ne]; exact i3⟩
    · rcases List.mem_cons.mp ht with rfl | ht
      · exact abs_ge (R2.imp z.1 z.2)
      · exact i1 t ht
    · obtain ⟨s, hs⟩ := k.head
      have z2 := term_rn R3
      have R4 := R3.2
      rw [if_pos rfl] at R4
      have e := left_eq "near" a b
      rw [sg_near, Int.one_mul] at e
      have le := low_eq (a := b) h
      have lp := low_pos (a := b) h
      have hb := R.1
      rw [hs] at i2
      rw [hs]
      show (folN (termI "near" a b) (termI "near" (lowT b (leftI "near" a b)) (lowB b (leftI "near" a b))) && (List.zipWith folN (termI "near" (lowT b (leftI "near" a b)) (lowB b (leftI "near" a b)) :: s) s).all id) = true
      refine Bool.and_eq_true_iff.mpr ⟨?_, i2⟩
      generalize termI "near" (lowT b (leftI "near" a b)) (lowB b (leftI "near" a b)) = t2 at *
      generalize lowT b (leftI "near" a b) = A' at *
      generalize lowB b (leftI "near" a b) = B' at *
      have pos : 0 < B' * b := Int.mul_pos (by omega) (by omega)
      unfold folN
      by_cases h2 : termI "near" a b = 2
      · rw [if_pos h2]
        rw [h2] at e
        refine decide_eq_true ?_
        have lpos : 0 < leftI "near" a b := by
          rcases R2 with q | q
          · omega
          · have := z.2 q
            omega
        rcases R4 with q | q
        · have := z2.1 q
          omega
        · have : A' * leftI "near" a b ≤ 0 := Int.mul_nonpos_of_nonpos_of_nonneg (by omega) (by omega)
          omega
      · rw [if_neg h2]
        by_cases h3 : termI "near" a b = -2
        · rw [if_pos h3]
          rw [h3] at e
          refine decide_eq_true ?_
          have lneg : leftI "near" a b < 0 := by
            rcases R2 with q | q
            · have := z.1 q
              omega
            · omega
          rcases R4 with q | q
          · have : A' * leftI "near" a b ≤ 0 := Int.mul_nonpos_of_nonneg_of_nonpos (by omega) (by omega)
            omega
          · have := z2.2 q
            omega
        · rw [if_neg h3]
theorem run_legal {x : Str} (hx : isMan x) {a b : Int} {r : List Int} (h : Run x a b r) (hb : 1 ≤ b) : begI x r = true ∧ endI x r = true := by
  have hd : ∀ s, r = termI x a b :: s → r.drop 1 = s := fun s e => by rw [e]; rfl
  cases h with
  | last h =>
    refine ⟨?_, rfl⟩
    unfold begI
    split
    · rfl
    · split
      · rfl
      · rfl
  | @next _ _ s h k =>
    have R := rst_of_left hx hb h
    have sl := List.length_pos_iff.mpr k.ne
    have len : ¬ (termI x a b :: s).length ≤ 1 := by rw [List.length_cons]; omega
    unfold begI endI
    rw [if_neg len]
    show (if x = "floor" then s.all _ else if x = "ceil" then s.all _ else (s.all _ && (List.zipWith folN s (s.drop 1)).all id)) = true ∧ _
    rw [getLastD_cons _ k.ne]
    rcases hx with rfl | rfl | rfl
    · rw [if_pos rfl, if_pos rfl]
      obtain ⟨t1, t2⟩ := tail_floor k R
      exact ⟨List.all_eq_true.mpr fun t ht => decide_eq_true (t1 t ht), by rw [decide_eq_false t2]; rfl⟩
    · rw [if_neg cf, if_pos rfl, if_neg cf, if_neg cn]
      exact ⟨List.all_eq_true.mpr fun t ht => decide_eq_true (tail_ceil k R t ht), rfl⟩
    · rw [if_neg nf, if_neg nc, if_neg nf, if_pos rfl]
      obtain ⟨t1, t2, t3⟩ := tail_near k R
      exact ⟨Bool.and_eq_true_iff.mpr ⟨List.all_eq_true.mpr fun t ht => decide_eq_true (t1 t ht), t2⟩, by rw [decide_eq_false t3]; rfl⟩
/-! ## a whole number more -/
theorem fdiv_uniq {a b q : Int} (hb : 1 ≤ b) (h1 : q * b ≤ a) (h2 : a < q * b + b) : a.fdiv b = q := by
  have z := fdiv_lo (a := a) hb
  refine Int.le_antisymm (Int.not_lt.mp fun k => ?_) (Int.not_lt.mp fun k => ?_)
  · have : (q + 1) * b ≤ a.fdiv b * b := Int.mul_le_mul_of_nonneg_right (by omega) (by omega)
    rw [Int.add_mul, Int.one_mul] at this
    omega
  · have : (a.fdiv b + 1) * b ≤ q * b := Int.mul_le_mul_of_nonneg_right (by omega) (by omega)
    rw [Int.add_mul, Int.one_mul] at this
    omega
theorem term_shift {x : Str} (hx : isMan x) {a b m : Int} (hb : 1 ≤ b) : termI x (a + m * b) b = termI x a b + m := by
  rcases hx with rfl | rfl | rfl
  · rw [term_floor, term_floor]
    have z := fdiv_lo (a := a) hb
    refine fdiv_uniq hb ?_ ?_ <;> rw [Int.add_mul] <;> omega
  · rw [term_ceil, term_ceil]
    have z := fdiv_lo (a := -a) hb
    have : (-(a + m * b)).fdiv b = (-a).fdiv b - m := by
      refine fdiv_uniq hb ?_ ?_ <;> rw [Int.sub_mul] <;> omega
    rw [this]
    omega
  · rw [term_near, term_near]
    have z := fdiv_lo (a := 2 * a + b) (b := 2 * b) (by omega)
    have e : m * (2 * b) = 2 * (m * b) := by rw [Int.mul_left_comm]
    refine fdiv_uniq (by omega) ?_ ?_ <;> rw [Int.add_mul, e] <;> omega
theorem run_shift {x : Str} (hx : isMan x) {a b m t : Int} {s : List Int} (hb : 1 ≤ b) (h : Run x a b (t :: s)) : Run x (a + m * b) b ((t + m) :: s) := by
  have et := term_shift hx (a := a) (m := m) hb
  have el : leftI x (a + m * b) b = leftI x a b := by
    unfold leftI
    rw [et, Int.add_mul]
    congr 1
    omega
  cases h with
  | last h =>
    rw [← et]
    exact .last (by rw [el]; exact h)
  | next h k =>
    rw [← et]
    exact .next (by rw [el]; exact h) (by rw [el]; exact k)
/-- the row tells the number -/
theorem run_inj {x : Str} {a b c d : Int} {r : List Int} (h : Run x a b r) (k : Run x c d r) (hb : 1 ≤ b) (hd : 1 ≤ d) (hg : gcdI a b = 1) (hk : gcdI c d = 1) : a = c ∧ b = d := by
  obtain ⟨e, he, hw⟩ := run_wor h hb hg
  obtain ⟨e', he', hw'⟩ := run_wor k hd hk
  rw [hw] at hw'
  have h1 := congrArg Prod.fst hw'
  have h2 := congrArg Prod.snd hw'
  have h1 : e * a = e' * c := h1
  have h2 : e * b = e' * d := h2
  rcases he with rfl | rfl <;> rcases he' with rfl | rfl <;> omega
/-! ## ceil is floor turned -/
theorem turn_left (a b : Int) : leftI "floor" (-a) b = leftI "ceil" a b ∧ termI "ceil" a b = -termI "floor" (-a) b := by
  have e : termI "ceil" a b = -termI "floor" (-a) b := by rw [term_ceil, term_floor]
  refine ⟨?_, e⟩
  unfold leftI
  rw [sg_floor, sg_ceil, e]
  simp only [Int.neg_mul, Int.one_mul]
  omega
/-! ## the order of rows of ceilings -/
theorem ceil_first {a b c d : Int} (hb : 1 ≤ b) (hd : 1 ≤ d) (h : termI "ceil" a b < termI "ceil" c d) : a * d < c * b := by
  have e1 := left_eq "ceil" a b
  have e2 := left_eq "ceil" c d
  rw [sg_ceil] at e1 e2
  have z1 := left_ceil (a := a) hb
  have z2 := left_ceil (a := c) hd
  generalize termI "ceil" a b = t at *
  generalize termI "ceil" c d = u at *
  have h1 : a ≤ t * b := by omega
  have h2 : (u - 1) * d < c := by rw [Int.sub_mul]; omega
  have h3 : t * b * d ≤ (u - 1) * d * b := by
    rw [Int.mul_right_comm t b d]
    exact Int.mul_le_mul_of_nonneg_right (Int.mul_le_mul_of_nonneg_right (by omega) (by omega)) (by omega)
  have h4 : a * d ≤ t * b * d := Int.mul_le_mul_of_nonneg_right h1 (by omega)
  have h5 : (u - 1) * d * b < c * b := Int.mul_lt_mul_of_pos_right h2 (by omega)
  omega
theorem ceil_same {a b c d : Int} (e : termI "ceil" a b = termI "ceil" c d) : (a * d < c * b ↔ leftI "ceil" c d * b < leftI "ceil" a b * d) := by
  have e1 := left_eq "ceil" a b
  have e2 := left_eq "ceil" c d
  rw [sg_ceil] at e1 e2
  rw [← e] at e2
  generalize termI "ceil" a b = t at *
  have h1 : a * d = t * b * d - leftI "ceil" a b * d := by
    have : a = t * b - leftI "ceil" a b := by omega
    rw [← Int.sub_mul, ← this]
  have h2 : c * b = t * d * b - leftI "ceil" c d * b := by
    have : c = t * d - leftI "ceil" c d := by omega
    rw [← Int.sub_mul, ← this]
  have h3 : t * b * d = t * d * b := Int.mul_right_comm _ _ _
  rw [h1, h2, h3]
  omega
def partI (r s : List Int) (k : Nat) : Bool := match r[k]?, s[k]? with
  | none, _ => false
  | some _, none => true
  | some t, some u => decide (t < u)
theorem ceil_part {a b : Int} {r : List Int} (h : Run "ceil" a b r) : ∀ {c d : Int} {s : List Int} (k : Nat), Run "ceil" c d s → 1 ≤ b → 1 ≤ d → (∀ j, j < k → r[j]? = s[j]? ∧ r[j]? ≠ none) → r[k]? ≠ s[k]? → decide (a * d < c * b) = partI r s k := by
  induction h with
  | @last a b h =>
    intro c d s k h2 hb hd hs hne
    obtain ⟨s', hs'⟩ := h2.head
    cases k with
    | zero =>
      rw [hs'] at hne ⊢
      have ne : termI "ceil" a b ≠ termI "ceil" c d := fun e => hne (by rw [e]; rfl)
      show _ = decide (termI "ceil" a b < termI "ceil" c d)
      rcases Int.lt_or_gt_of_ne ne with q | q
      · rw [decide_eq_true (ceil_first hb hd q), decide_eq_true q]
      · rw [decide_eq_false (by have := ceil_first hd hb q; omega), decide_eq_false (by omega)]
    | succ k =>
      cases k with
      | zero =>
        have e0 : termI "ceil" a b = termI "ceil" c d := by
          have := (hs 0 (by omega)).1
          rw [hs'] at this
          exact Option.some.inj this
        show _ = false
        refine decide_eq_false fun q => ?_
        have := (ceil_same e0).mp q
        rw [h, Int.zero_mul] at this
        have z := left_ceil (a := c) hd
        have : 0 ≤ leftI "ceil" c d * b := Int.mul_nonneg z.1 (by omega)
        omega
      | succ k => exact absurd rfl (hs 1 (by omega)).2
  | @next a b r h k ih =>
    intro c d s n h2 hb hd hs hne
    cases n with
    | zero =>
      obtain ⟨s', hs'⟩ := h2.head
      rw [hs'] at hne ⊢
      have ne : termI "ceil" a b ≠ termI "ceil" c d := fun e => hne (by rw [e]; rfl)
      show _ = decide (termI "ceil" a b < termI "ceil" c d)
      rcases Int.lt_or_gt_of_ne ne with q | q
      · rw [decide_eq_true (ceil_first hb hd q), decide_eq_true q]
      · rw [decide_eq_false (by have := ceil_first hd hb q; omega), decide_eq_false (by omega)]
    | succ n =>
      have z1 := left_ceil (a := a) hb
      have z2 := left_ceil (a := c) hd
      cases h2 with
      | last h2 =>
        have e0 : termI "ceil" a b = termI "ceil" c d := Option.some.inj (hs 0 (by omega)).1
        cases n with
        | zero =>
          obtain ⟨r', hr'⟩ := k.head
          have : partI (termI "ceil" a b :: r) [termI "ceil" c d] (0 + 1) = true := by rw [hr']; rfl
          rw [this]
          refine decide_eq_true ((ceil_same e0).mpr ?_)
          rw [h2, Int.zero_mul]
          exact Int.mul_pos (by omega) (by omega)
        | succ n =>
          have := (hs 1 (by omega))
          rw [this.1] at this
          exact absurd rfl this.2
      | @next _ _ s h2 k2 =>
        have e0 : termI "ceil" a b = termI "ceil" c d := Option.some.inj (hs 0 (by omega)).1
        have i := ih n k2 (low_pos h) (low_pos h2) (fun j hj => hs (j + 1) (by omega)) hne
        show _ = partI r s n
        rw [← i]
        refine decide_eq_decide.mpr ((ceil_same e0).trans ?_)
        have f1 := low_eq (a := b) h
        have f2 := low_eq (a := d) h2
        have p1 := low_pos (a := b) h
        have p2 := low_pos (a := d) h2
        generalize lowT b (leftI "ceil" a b) = A at *
        generalize lowB b (leftI "ceil" a b) = B at *
        generalize lowT d (leftI "ceil" c d) = C at *
        generalize lowB d (leftI "ceil" c d) = D at *
        generalize leftI "ceil" a b = l at *
        generalize leftI "ceil" c d = m at *
        have g1 : A * D * (l * m) = b * m * (B * D) := by
          have : A * D * (l * m) = (A * l) * (D * m) := by simp only [Int.mul_left_comm, Int.mul_comm, Int.mul_assoc]
          rw [this, f1]
          simp only [Int.mul_left_comm, Int.mul_comm, Int.mul_assoc]
        have g2 : C * B * (l * m) = d * l * (B * D) := by
          have : C * B * (l * m) = (C * m) * (B * l) := by simp only [Int.mul_left_comm, Int.mul_comm, Int.mul_assoc]
          rw [this, f2]
          simp only [Int.mul_left_comm, Int.mul_comm, Int.mul_assoc]
        have lm : 0 < l * m := Int.mul_pos (by omega) (by omega)
        have bd : 0 < B * D := Int.mul_pos (by omega) (by omega)
        constructor
        · intro q
          have : b * m * (B * D) < d * l * (B * D) := Int.mul_lt_mul_of_pos_right (by rw [Int.mul_comm b m, Int.mul_comm d l]; exact q) bd
          rw [← g1, ← g2] at this
          exact Int.lt_of_mul_lt_mul_right this (by omega)
        · intro q
          have : A * D * (l * m) < C * B * (l * m) := Int.mul_lt_mul_of_pos_right q lm
          rw [g1, g2] at this
          have := Int.lt_of_mul_lt_mul_right this (by omega)
          rw [Int.mul_comm m b, Int.mul_comm l d]
          exact this
end Ab
namespace Ab
open PySem PySem.Spec PyProof.Rows L2 Vg
section
variable {K : PySem.W.Frag} {W : WX}
/-! ## for x in reversed(xs) -/
theorem rev_get {α : Type} {es : List α} {j : Nat} {e : α} (h : es.reverse[j]? = some e) : j < es.length ∧ es[es.length - 1 - j]? = some e := by
  have hj : j < es.length := by
    have := (List.getElem?_eq_some_iff.mp h).1
    simpa using this
  rw [List.getElem?_reverse hj] at h
  exact ⟨hj, h⟩
theorem itok_rev {O : Ob} {H : Hp} {a : Addr} {c : Cl} {es : List Cl} {n : Nat} (r : ClH K (fre O) H (.ref a) c) (hn : n = es.length) : ItOk K O H (Itv K a n) es.reverse (fun O2 => Els O2 c es) := by
  have at_ : ∀ O' H', Fr O H O' H' → OkO K O' H' → Els O' c es → ∃ xs, H' a = some (.lst xs) ∧ ClsH K (fre O') H' xs es := fun O' H' f o st => by
    obtain ⟨b, xs, e, h, q⟩ := st.get o (r.fr f)
    cases e
    exact ⟨xs, h, q⟩
  subst hn
  refine ⟨fun O' H' j e f o st hj => ?_, fun O' H' H2 j e x f o st hj hy => ?_, fun O' H' f o st => ?_⟩
  · obtain ⟨xs, h, q⟩ := at_ O' H' f o st
    obtain ⟨hl, hj⟩ := rev_get hj
    obtain ⟨v, hv, _⟩ := q.get hj
    exact ⟨hl, xs, v, SqL.of h, hv⟩
  · obtain ⟨xs, h, q⟩ := at_ O' H' f o st
    obtain ⟨hl, hj⟩ := rev_get hj
    obtain ⟨v, hv, rv⟩ := q.get hj
    obtain ⟨rfl, hx⟩ := hy
    have := hx xs (SqL.of h)
    rw [hv] at this
    cases this
    exact ⟨o, Fr.refl _ _, rv⟩
  · show es.length ≤ es.reverse.length
    rw [List.length_reverse]
    exact Nat.le_refl _
theorem itok_revT {O : Ob} {H : Hp} {a : Addr} {c : Cl} {es : List Cl} {n : Nat} (r : ClH K (fre O) H (.ref a) c) (hc : ElsT c es) (hn : n = es.length) : ItOk K O H (RT.ItvT K a n) es.reverse (fun _ => True) := by
  have at_ : ∀ O' H', Fr O H O' H' → ∃ xs, SqT K H' a xs ∧ ClsH K (fre O') H' xs es := fun O' H' f => by
    obtain ⟨b, xs, e, h, q⟩ := hc.get (r.fr f)
    cases e
    exact ⟨xs, h, q⟩
  subst hn
  refine ⟨fun O' H' j e f o st hj => ?_, fun O' H' H2 j e x f o st hj hy => ?_, fun O' H' f o st => ?_⟩
  · obtain ⟨xs, h, q⟩ := at_ O' H' f
    obtain ⟨hl, hj⟩ := rev_get hj
    obtain ⟨v, hv, _⟩ := q.get hj
    exact ⟨hl, xs, v, h, hv⟩
  · obtain ⟨xs, h, q⟩ := at_ O' H' f
    obtain ⟨hl, hj⟩ := rev_get hj
    obtain ⟨v, hv, rv⟩ := q.get hj
    obtain ⟨rfl, hx⟩ := hy
    have := hx xs h
    rw [hv] at this
    cases this
    exact ⟨o, Fr.refl _ _, rv⟩
  · show es.length ≤ es.reverse.length
    rw [List.length_reverse]
    exact Nat.le_refl _
def aItRv (a : AE) : AIt := fun O ρ XX Kc => a O ρ XX fun O1 c => ∃ es : List Cl, (Els O1 c es ∧ Kc O1 es.reverse fun O2 => Els O2 c es) ∨ (ElsT c es ∧ Kc O1 es.reverse fun _ => True)
theorem sai_rev {t : TE} {a : AE} (ha : SaE K W t a) : SaI K W (RT.iRevA K t) (aItRv a) := fun O ρ σ H R Kc XX S k q x =>
  ha O ρ σ H _ _ XX S k (fun O1 c v H1 f1 o1 r1 ⟨es, h⟩ => by
    rcases h with ⟨h, k1⟩ | ⟨h, k1⟩
    · obtain ⟨b, xs, rfl, hb, rs⟩ := h.get o1 r1
      exact ⟨b, xs, rfl, .inl ⟨SqL.of hb, q O1 H1 _ _ _ f1 o1 (itok_rev r1 rs.len) k1⟩⟩
    · obtain ⟨b, xs, rfl, hb, rs⟩ := h.get r1
      exact ⟨b, xs, rfl, .inr ⟨hb, q O1 H1 _ _ _ f1 o1 (itok_revT r1 h rs.len) k1⟩⟩) x
end
section
variable {X : Cx} {W : WX}
theorem di_rev {tg e : Expr} {a : AE} {p pos : Pos} (hg : Gl X "reversed") (hm : X.mg "reversed" = none) (h : DE X W e a) (hs : starEach [e] X.env = (false, eval e X.env) :: starEach [] X.env := by rfl) : DI X W tg (.Call (.Name "reversed" p) [e] [] pos) (aItRv a) := by
  obtain ⟨t, p', s⟩ := h.ex
  exact ⟨_, RT.pi_revA hg hm p' hs, sai_rev s⟩
end
/-! ## lists of whole numbers compared; a list's one item by its place -/
theorem eqv_ints : ∀ is js : List Int, PyData.eqv (.list (is.map PyData.int)) (.list (js.map PyData.int)) = decide (is = js)
  | [], [] => rfl
  | [], j :: js => rfl
  | i :: is, [] => rfl
  | i :: is, j :: js => by
    show (PyData.eqv (.int i) (.int j) && PyData.eqv (.list (is.map PyData.int)) (.list (js.map PyData.int))) = _
    rw [eqv_ints is js, eqv_int, Bool.eq_iff_iff]
    simp
theorem canLay_ints (is : List Int) : PyData.canLayAll0 (is.map PyData.int) = true := by
  induction is with
  | nil => rfl
  | cons i is ih =>
    show (PyData.canLay0 (.int i) && PyData.canLayAll0 (is.map PyData.int)) = true
    rw [ih]
    rfl
theorem depth_ints (is : List Int) : PyData.depthAll (is.map PyData.int) ≤ 1 := by
  induction is with
  | nil => simp [PyData.depthAll]
  | cons i is ih =>
    rw [List.map_cons]
    unfold PyData.depthAll
    have : PyData.depth (.int i) ≤ 1 := by simp [PyData.depth]
    omega
theorem shaped_ints (is : List Int) : SeqAt.shaped (.list (is.map PyData.int)) = true := by
  have d := depth_ints is
  have c := canLay_ints is
  unfold SeqAt.shaped
  unfold PyData.canLay0 PyData.depth
  rw [c, Bool.true_and]
  exact decide_eq_true (by omega)
theorem hasDict_ints (is : List Int) : PyData.hasDict (.list (is.map PyData.int)) = false := by
  unfold PyData.hasDict
  exact noDict fun d hd => by
    obtain ⟨i, _, rfl⟩ := List.mem_map.mp hd
    unfold PyData.hasDict
    rfl
theorem rdc_own {O : Ob} {p : Addr} {is : List Int} (m : (p, Ow.lst (iCl is)) ∈ O) : Rdc O (.at p) (.list (is.map .int)) := by
  rw [iCl_dat] at m
  exact .at m (Rdcs.dats _)
theorem eq_ints {O : Ob} {ρ : Rho} {XX : XC} {u v : AE} {c d : Cl} {is js : List Int} (hu : Pu u O ρ XX c) (hv : Pu v O ρ XX d) (rc : Rdc O c (.list (is.map .int))) (rd : Rdc O d (.list (js.map .int))) : Pu (aOp aEqD u v) O ρ XX (.dat (.bool (decide (is = js)))) := fun K k =>
  hu _ (hv _ ⟨_, _, rc, rd, hasDict_ints _, hasDict_ints _, shaped_ints _, shaped_ints _, by rw [eqv_ints]; exact k⟩)
theorem cut_item {α : Type} (xs : List α) (j : Nat) : cutD xs (some (j : Int)) (some ((j : Int) + 1)) = xs[j]?.toList := by
  have e : ((j : Int) + 1) = ((j + 1 : Nat) : Int) := by omega
  rw [e]
  unfold cutD
  rw [HT.sIx_nat, HT.sIx_nat]
  by_cases h : j < xs.length
  · rw [Nat.min_eq_left (by omega), Nat.min_eq_left (by omega), List.getElem?_eq_getElem h, List.drop_eq_getElem_cons h, show j + 1 - j = 1 by omega]
    rfl
  · rw [Nat.min_eq_right (by omega), Nat.min_eq_right (by omega), List.getElem?_eq_none (by omega), Nat.sub_self]
    rfl
end Ab
namespace Ab
open PySem PySem.Spec PyProof.Rows L2 Vg
/-! ## first terms by bounds -/
def isT (x : Str) (t p q : Int) : Prop :=
  if x = "floor" then t * q ≤ p ∧ p < (t + 1) * q else if x = "ceil" then (t - 1) * q < p ∧ p ≤ t * q else (2 * t - 1) * q ≤ 2 * p ∧ 2 * p < (2 * t + 1) * q
theorem isT_floor (t p q : Int) : isT "floor" t p q ↔ t * q ≤ p ∧ p < (t + 1) * q := by unfold isT; rw [if_pos rfl]
theorem isT_ceil (t p q : Int) : isT "ceil" t p q ↔ (t - 1) * q < p ∧ p ≤ t * q := by unfold isT; rw [if_neg cf, if_pos rfl]
theorem isT_near (t p q : Int) : isT "near" t p q ↔ (2 * t - 1) * q ≤ 2 * p ∧ 2 * p < (2 * t + 1) * q := by unfold isT; rw [if_neg nf, if_neg nc]
theorem isT_term {x : Str} (hx : isMan x) {p q : Int} (hq : 1 ≤ q) : isT x (termI x p q) p q := by
  rcases hx with rfl | rfl | rfl
  · rw [isT_floor, term_floor]
    have := fdiv_lo (a := p) hq
    rw [Int.add_mul]
    omega
  · rw [isT_ceil, term_ceil]
    have := fdiv_lo (a := -p) hq
    rw [Int.sub_mul]
    simp only [Int.neg_mul]
    omega
  · rw [isT_near, term_near]
    have := fdiv_lo (a := 2 * p + q) (b := 2 * q) (by omega)
    generalize (2 * p + q).fdiv (2 * q) = t at *
    have e : t * (2 * q) = 2 * t * q := by rw [← Int.mul_assoc, Int.mul_comm t 2]
    rw [e] at this
    rw [Int.sub_mul, Int.add_mul]
    omega
theorem isT_uniq {x : Str} (hx : isMan x) {t u p q : Int} (hq : 1 ≤ q) (h : isT x t p q) (k : isT x u p q) : t = u := by
  have lt : ∀ {t u : Int}, isT x t p q → isT x u p q → ¬ t < u := by
    intro t u h k z
    rcases hx with rfl | rfl | rfl
    · rw [isT_floor] at h k
      have : (t + 1) * q ≤ u * q := Int.mul_le_mul_of_nonneg_right (by omega) (by omega)
      omega
    · rw [isT_ceil] at h k
      have : t * q ≤ (u - 1) * q := Int.mul_le_mul_of_nonneg_right (by omega) (by omega)
      omega
    · rw [isT_near] at h k
      have : (2 * t + 1) * q ≤ (2 * u - 1) * q := Int.mul_le_mul_of_nonneg_right (by omega) (by omega)
      omega
  have h1 := lt h k
  have h2 := lt k h
  omega
theorem term_is {x : Str} (hx : isMan x) {t p q : Int} (hq : 1 ≤ q) (h : isT x t p q) : termI x p q = t := isT_uniq hx hq (isT_term hx hq) h
/-- the same number by other parts -/
theorem scale_le {p q P Q k m : Int} (hq : 1 ≤ q) (hQ : 1 ≤ Q) (e : p * Q = q * P) : k * q ≤ m * p ↔ k * Q ≤ m * P := by
  have e1 : m * p * Q = m * P * q := by rw [Int.mul_assoc, e, Int.mul_comm q P, Int.mul_assoc]
  have e2 : k * q * Q = k * Q * q := Int.mul_right_comm _ _ _
  constructor
  · intro h
    have := Int.mul_le_mul_of_nonneg_right h (show 0 ≤ Q by omega)
    rw [e1, e2] at this
    exact Int.le_of_mul_le_mul_right this (by omega)
  · intro h
    have := Int.mul_le_mul_of_nonneg_right h (show 0 ≤ q by omega)
    rw [← e1, ← e2] at this
    exact Int.le_of_mul_le_mul_right this (by omega)
theorem scale_lt {p q P Q k m : Int} (hq : 1 ≤ q) (hQ : 1 ≤ Q) (e : p * Q = q * P) : m * p < k * q ↔ m * P < k * Q := by
  have := scale_le (k := k) (m := m) hq hQ e
  constructor
  · intro h
    exact Int.not_le.mp fun z => (Int.not_le.mpr h) (this.mpr z)
  · intro h
    exact Int.not_le.mp fun z => (Int.not_le.mpr h) (this.mp z)
theorem isT_scale {x : Str} (hx : isMan x) {t p q P Q : Int} (hq : 1 ≤ q) (hQ : 1 ≤ Q) (e : p * Q = q * P) (h : isT x t P Q) : isT x t p q := by
  have one : ∀ z : Int, 1 * z = z := Int.one_mul
  rcases hx with rfl | rfl | rfl
  · rw [isT_floor] at h ⊢
    have a := (scale_le (k := t) (m := 1) hq hQ e).mpr (by rw [one]; exact h.1)
    have b := (scale_lt (k := t + 1) (m := 1) hq hQ e).mpr (by rw [one]; exact h.2)
    rw [one] at a b
    exact ⟨a, b⟩
  · rw [isT_ceil] at h ⊢
    have a : ¬ 1 * p ≤ (t - 1) * q := fun z => by
      have : ¬ (1 * P ≤ (t - 1) * Q) := by rw [one]; omega
      have n1 := scale_lt (k := t - 1) (m := 1) hq hQ e
      have e' : (-p) * Q = q * (-P) := by rw [Int.neg_mul, e, Int.mul_neg]
      have n2 := scale_le (k := -(t - 1)) (m := 1) hq hQ e'
      have := n2.mp (by rw [Int.neg_mul, one]; rw [one] at z; omega)
      rw [Int.neg_mul, one] at this
      omega
    rw [one] at a
    have e' : (-p) * Q = q * (-P) := by rw [Int.neg_mul, e, Int.mul_neg]
    have b := (scale_le (k := -t) (m := 1) hq hQ e').mpr (by rw [Int.neg_mul, one]; omega)
    rw [Int.neg_mul, one] at b
    exact ⟨by omega, by omega⟩
  · rw [isT_near] at h ⊢
    exact ⟨(scale_le hq hQ e).mpr h.1, (scale_lt hq hQ e).mpr h.2⟩
/-! ## the terms next to a range's ends -/
def lowTm (x : Str) (a b : Int) (li : Bool) : Int := if x = "ceil" ∧ li = false then a.fdiv b + 1 else termI x a b
def highTm (x : Str) (c d : Int) (hi : Bool) : Int := if hi = true ∨ x = "ceil" then termI x c d else if x = "near" then termI "ceil" (2 * c + d) (2 * d) - 1 else termI "ceil" c d - 1
theorem low_le {x : Str} (hx : isMan x) {a b p q : Int} {li : Bool} (hb : 1 ≤ b) (hq : 1 ≤ q) (h : a * q ≤ p * b) (hs : li = false → a * q < p * b) : lowTm x a b li ≤ termI x p q := by
  unfold lowTm
  have tn := isT_term hx (p := p) hq
  generalize termI x p q = u at *
  by_cases hc : x = "ceil" ∧ li = false
  · rw [if_pos hc]
    obtain ⟨rfl, hl⟩ := hc
    have hs := hs hl
    rw [isT_ceil] at tn
    have z := fdiv_lo (a := a) hb
    generalize a.fdiv b = t at *
    refine Int.not_lt.mp fun k => ?_
    have h1 : u * (b * q) ≤ t * (b * q) := Int.mul_le_mul_of_nonneg_right (by omega) (Int.mul_nonneg (by omega) (by omega))
    have h2 : t * (b * q) ≤ a * q := by rw [← Int.mul_assoc]; exact Int.mul_le_mul_of_nonneg_right z.1 (by omega)
    have h3 : p * b ≤ u * (b * q) := by
      have := Int.mul_le_mul_of_nonneg_right tn.2 (show 0 ≤ b by omega)
      rw [Int.mul_assoc, Int.mul_comm q b] at this
      exact this
    omega
  · rw [if_neg hc]
    have tl := isT_term hx (p := a) hb
    generalize termI x a b = t at *
    refine Int.not_lt.mp fun k => ?_
    have nn : 0 ≤ b * q := Int.mul_nonneg (by omega) (by omega)
    rcases hx with rfl | rfl | rfl
    · rw [isT_floor] at tl tn
      have h1 : (u + 1) * (b * q) ≤ t * (b * q) := Int.mul_le_mul_of_nonneg_right (by omega) nn
      have h2 : t * (b * q) ≤ a * q := by rw [← Int.mul_assoc]; exact Int.mul_le_mul_of_nonneg_right tl.1 (by omega)
      have h3 : p * b < (u + 1) * (b * q) := by
        have := Int.mul_lt_mul_of_pos_right tn.2 (show 0 < b by omega)
        rw [Int.mul_assoc, Int.mul_comm q b] at this
        exact this
      omega
    · rw [isT_ceil] at tl tn
      have h1 : u * (b * q) ≤ (t - 1) * (b * q) := Int.mul_le_mul_of_nonneg_right (by omega) nn
      have h2 : (t - 1) * (b * q) < a * q := by rw [← Int.mul_assoc]; exact Int.mul_lt_mul_of_pos_right tl.1 (by omega)
      have h3 : p * b ≤ u * (b * q) := by
        have := Int.mul_le_mul_of_nonneg_right tn.2 (show 0 ≤ b by omega)
        rw [Int.mul_assoc, Int.mul_comm q b] at this
        exact this
      omega
    · rw [isT_near] at tl tn
      have h1 : (2 * u + 1) * (b * q) ≤ (2 * t - 1) * (b * q) := Int.mul_le_mul_of_nonneg_right (by omega) nn
      have h2 : (2 * t - 1) * (b * q) ≤ 2 * (a * q) := by
        rw [← Int.mul_assoc, ← Int.mul_assoc]; exact Int.mul_le_mul_of_nonneg_right tl.1 (by omega)
      have h3 : 2 * (p * b) < (2 * u + 1) * (b * q) := by
        have := Int.mul_lt_mul_of_pos_right tn.2 (show 0 < b by omega)
        rw [Int.mul_assoc (2 * u + 1), Int.mul_comm q b, Int.mul_assoc 2] at this
        exact this
      omega
theorem high_ge {x : Str} (hx : isMan x) {c d p q : Int} {hi : Bool} (hd : 1 ≤ d) (hq : 1 ≤ q) (h : p * d ≤ c * q) (hs : hi = false → p * d < c * q) : termI x p q ≤ highTm x c d hi := by
  unfold highTm
  have tn := isT_term hx (p := p) hq
  generalize termI x p q = u at *
  have nn : 0 ≤ d * q := Int.mul_nonneg (by omega) (by omega)
  by_cases hc : hi = true ∨ x = "ceil"
  · rw [if_pos hc]
    have tl := isT_term hx (p := c) hd
    generalize termI x c d = t at *
    refine Int.not_lt.mp fun k => ?_
    rcases hx with rfl | rfl | rfl
    · rw [isT_floor] at tl tn
      have h1 : (t + 1) * (d * q) ≤ u * (d * q) := Int.mul_le_mul_of_nonneg_right (by omega) nn
      have h2 : u * (d * q) ≤ p * d := by
        have := Int.mul_le_mul_of_nonneg_right tn.1 (show 0 ≤ d by omega)
        rw [Int.mul_assoc, Int.mul_comm q d] at this
        exact this
      have h3 : c * q < (t + 1) * (d * q) := by rw [← Int.mul_assoc]; exact Int.mul_lt_mul_of_pos_right tl.2 (by omega)
      omega
    · rw [isT_ceil] at tl tn
      have h1 : t * (d * q) ≤ (u - 1) * (d * q) := Int.mul_le_mul_of_nonneg_right (by omega) nn
      have h2 : (u - 1) * (d * q) < p * d := by
        have := Int.mul_lt_mul_of_pos_right tn.1 (show 0 < d by omega)
        rw [Int.mul_assoc, Int.mul_comm q d] at this
        exact this
      have h3 : c * q ≤ t * (d * q) := by rw [← Int.mul_assoc]; exact Int.mul_le_mul_of_nonneg_right tl.2 (by omega)
      omega
    · rw [isT_near] at tl tn
      have h1 : (2 * t + 1) * (d * q) ≤ (2 * u - 1) * (d * q) := Int.mul_le_mul_of_nonneg_right (by omega) nn
      have h2 : (2 * u - 1) * (d * q) ≤ 2 * (p * d) := by
        have := Int.mul_le_mul_of_nonneg_right tn.1 (show 0 ≤ d by omega)
        rw [Int.mul_assoc (2 * u - 1), Int.mul_comm q d, Int.mul_assoc 2] at this
        exact this
      have h3 : 2 * (c * q) < (2 * t + 1) * (d * q) := by
        rw [← Int.mul_assoc, ← Int.mul_assoc]; exact Int.mul_lt_mul_of_pos_right tl.2 (by omega)
      omega
  · rw [if_neg hc]
    have hf : hi = false := by cases hi <;> simp at hc ⊢
    have xc : x ≠ "ceil" := fun e => hc (.inr e)
    have hs := hs hf
    rcases hx with rfl | rfl | rfl
    · rw [if_neg fn]
      have tl := isT_term (x := "ceil") (.inr (.inl rfl)) (p := c) hd
      generalize termI "ceil" c d = t at *
      rw [isT_ceil] at tl
      rw [isT_floor] at tn
      refine Int.not_lt.mp fun k => ?_
      have h1 : t * (d * q) ≤ u * (d * q) := Int.mul_le_mul_of_nonneg_right (by omega) nn
      have h2 : u * (d * q) ≤ p * d := by
        have := Int.mul_le_mul_of_nonneg_right tn.1 (show 0 ≤ d by omega)
        rw [Int.mul_assoc, Int.mul_comm q d] at this
        exact this
      have h3 : c * q ≤ t * (d * q) := by rw [← Int.mul_assoc]; exact Int.mul_le_mul_of_nonneg_right tl.2 (by omega)
      omega
    · exact absurd rfl xc
    · rw [if_pos rfl]
      have tl := isT_term (x := "ceil") (.inr (.inl rfl)) (p := 2 * c + d) (q := 2 * d) (by omega)
      generalize termI "ceil" (2 * c + d) (2 * d) = t at *
      rw [isT_ceil] at tl
      rw [isT_near] at tn
      refine Int.not_lt.mp fun k => ?_
      have h1 : (2 * t - 1) * (d * q) ≤ (2 * u - 1) * (d * q) := Int.mul_le_mul_of_nonneg_right (by omega) nn
      have h2 : (2 * u - 1) * (d * q) ≤ 2 * (p * d) := by
        have := Int.mul_le_mul_of_nonneg_right tn.1 (show 0 ≤ d by omega)
        rw [Int.mul_assoc (2 * u - 1), Int.mul_comm q d, Int.mul_assoc 2] at this
        exact this
      have e : t * (2 * d) = (2 * t - 1) * d + d := by rw [Int.sub_mul, Int.one_mul, ← Int.mul_assoc, Int.mul_comm t 2]; omega
      have h3 : 2 * (c * q) ≤ (2 * t - 1) * (d * q) := by
        rw [← Int.mul_assoc, ← Int.mul_assoc]; exact Int.mul_le_mul_of_nonneg_right (by omega) (by omega)
      omega
/-! ## numbers very near an end -/
theorem near_low {x : Str} (hx : isMan x) {a b c d G : Int} {li : Bool} (hb : 1 ≤ b) (hd : 1 ≤ d) (hG : 1 ≤ G) (h : a * d < c * b) (hn : 2 * (c * b - a * d) < d * (1 + G)) (hl : x = "ceil" → li = false) : isT x (lowTm x a b li) (a * d * G + c * b * 1) (b * d * (1 + G)) := by
  have eP : a * d * G + c * b * 1 = a * (d * (1 + G)) + (c * b - a * d) := by
    rw [Int.mul_one, ← Int.mul_assoc, Int.mul_add, Int.mul_one]
    omega
  have eQ : ∀ k : Int, k * (b * d * (1 + G)) = k * b * (d * (1 + G)) := fun k => by rw [Int.mul_assoc b d, Int.mul_assoc k b]
  have hW : 1 ≤ d * (1 + G) := by
    have : 0 < d * (1 + G) := Int.mul_pos (by omega) (by omega)
    omega
  have hD : 0 < c * b - a * d := by omega
  rw [eP]
  generalize d * (1 + G) = W at *
  generalize c * b - a * d = D at *
  unfold lowTm
  rcases hx with rfl | rfl | rfl
  · rw [if_neg (fun z => fc z.1)]
    have tl := isT_term (x := "floor") (.inl rfl) (p := a) hb
    generalize termI "floor" a b = t at *
    rw [isT_floor] at tl ⊢
    rw [eQ, eQ]
    have h1 : t * b * W ≤ a * W := Int.mul_le_mul_of_nonneg_right tl.1 (by omega)
    have h2 : (a + 1) * W ≤ (t + 1) * b * W := Int.mul_le_mul_of_nonneg_right (by omega) (by omega)
    rw [Int.add_mul, Int.one_mul] at h2
    omega
  · rw [if_pos ⟨rfl, hl rfl⟩, isT_ceil]
    have z := fdiv_lo (a := a) hb
    generalize a.fdiv b = t at *
    rw [eQ, eQ, show t + 1 - 1 = t by omega]
    have h1 : t * b * W ≤ a * W := Int.mul_le_mul_of_nonneg_right z.1 (by omega)
    have h2 : (a + 1) * W ≤ (t + 1) * b * W := Int.mul_le_mul_of_nonneg_right (by rw [Int.add_mul]; omega) (by omega)
    rw [Int.add_mul, Int.one_mul] at h2
    omega
  · rw [if_neg (fun z => nc z.1)]
    have tl := isT_term (x := "near") (.inr (.inr rfl)) (p := a) hb
    generalize termI "near" a b = t at *
    rw [isT_near] at tl ⊢
    rw [eQ, eQ]
    have h1 : (2 * t - 1) * b * W ≤ 2 * a * W := Int.mul_le_mul_of_nonneg_right tl.1 (by omega)
    have h2 : (2 * a + 1) * W ≤ (2 * t + 1) * b * W := Int.mul_le_mul_of_nonneg_right (by omega) (by omega)
    rw [Int.add_mul, Int.one_mul, Int.mul_assoc] at h2
    rw [Int.mul_assoc 2 a W] at h1
    omega
theorem near_high {x : Str} (hx : isMan x) {a b c d G : Int} {hi : Bool} (hb : 1 ≤ b) (hd : 1 ≤ d) (hG : 1 ≤ G) (h : a * d < c * b) (hn : 2 * (c * b - a * d) < b * (1 + G)) (hl : x ≠ "ceil" → hi = false) : isT x (highTm x c d hi) (a * d * 1 + c * b * G) (b * d * (G + 1)) := by
  have eP : a * d * 1 + c * b * G = c * (b * (1 + G)) - (c * b - a * d) := by
    rw [Int.mul_one, ← Int.mul_assoc, Int.mul_add, Int.mul_one]
    omega
  have eQ : ∀ k : Int, k * (b * d * (G + 1)) = k * d * (b * (1 + G)) := fun k => by rw [Int.mul_comm b d, Int.mul_assoc d b, Int.mul_assoc k d, Int.add_comm G 1]
  have hW : 1 ≤ b * (1 + G) := by
    have : 0 < b * (1 + G) := Int.mul_pos (by omega) (by omega)
    omega
  have hD : 0 < c * b - a * d := by omega
  rw [eP]
  generalize b * (1 + G) = W at *
  generalize c * b - a * d = D at *
  unfold highTm
  rcases hx with rfl | rfl | rfl
  · rw [hl fc, if_neg (by intro z; rcases z with z | z; cases z; exact fc z), if_neg fn]
    have tl := isT_term (x := "ceil") (.inr (.inl rfl)) (p := c) hd
    generalize termI "ceil" c d = t at *
    rw [isT_ceil] at tl
    rw [isT_floor, eQ, eQ, show t - 1 + 1 = t by omega]
    have h1 : ((t - 1) * d + 1) * W ≤ c * W := Int.mul_le_mul_of_nonneg_right (by omega) (by omega)
    have h2 : c * W ≤ t * d * W := Int.mul_le_mul_of_nonneg_right tl.2 (by omega)
    rw [Int.add_mul, Int.one_mul] at h1
    omega
  · rw [if_pos (.inr rfl)]
    have tl := isT_term (x := "ceil") (.inr (.inl rfl)) (p := c) hd
    generalize termI "ceil" c d = t at *
    rw [isT_ceil] at tl ⊢
    rw [eQ, eQ]
    have h1 : ((t - 1) * d + 1) * W ≤ c * W := Int.mul_le_mul_of_nonneg_right (by omega) (by omega)
    have h2 : c * W ≤ t * d * W := Int.mul_le_mul_of_nonneg_right tl.2 (by omega)
    rw [Int.add_mul, Int.one_mul] at h1
    omega
  · rw [hl nc, if_neg (by intro z; rcases z with z | z; cases z; exact nc z), if_pos rfl]
    have tl := isT_term (x := "ceil") (.inr (.inl rfl)) (p := 2 * c + d) (q := 2 * d) (by omega)
    generalize termI "ceil" (2 * c + d) (2 * d) = t at *
    rw [isT_ceil] at tl
    rw [isT_near, eQ, eQ]
    have e1 : t * (2 * d) = 2 * (t * d) := by rw [Int.mul_left_comm]
    have e2 : (t - 1) * (2 * d) = 2 * (t * d) - 2 * d := by rw [Int.sub_mul, e1, Int.one_mul]
    have e3 : (2 * (t - 1) - 1) * d = 2 * (t * d) - 3 * d := by
      rw [show 2 * (t - 1) - 1 = 2 * t - 3 by omega, Int.sub_mul, Int.mul_assoc]
    have e4 : (2 * (t - 1) + 1) * d = 2 * (t * d) - d := by
      rw [show 2 * (t - 1) + 1 = 2 * t - 1 by omega, Int.sub_mul, Int.mul_assoc, Int.one_mul]
    rw [e1, e2] at tl
    rw [e3, e4]
    have h1 : (2 * (t * d) - 3 * d + 1) * W ≤ 2 * c * W := Int.mul_le_mul_of_nonneg_right (by omega) (by omega)
    have h2 : 2 * c * W ≤ (2 * (t * d) - d) * W := Int.mul_le_mul_of_nonneg_right (by omega) (by omega)
    rw [Int.add_mul, Int.one_mul] at h1
    rw [Int.mul_assoc 2 c W] at h1 h2
    omega
/-- a number between -/
theorem btw {a b c d m n : Int} (h : a * d < c * b) (hb : 1 ≤ b) (hd : 1 ≤ d) (hm : 1 ≤ m) (hn : 1 ≤ n) :
    a * (b * d * (m + n)) < (a * d * n + c * b * m) * b ∧ (a * d * n + c * b * m) * d < c * (b * d * (m + n)) := by
  have e1 : (a * d * n + c * b * m) * b - a * (b * d * (m + n)) = b * m * (c * b - a * d) := by grind
  have e2 : c * (b * d * (m + n)) - (a * d * n + c * b * m) * d = d * n * (c * b - a * d) := by grind
  have h1 : 0 < b * m * (c * b - a * d) := Int.mul_pos (Int.mul_pos (by omega) (by omega)) (by omega)
  have h2 : 0 < d * n * (c * b - a * d) := Int.mul_pos (Int.mul_pos (by omega) (by omega)) (by omega)
  omega
/-- and in its lowest terms -/
theorem low_cross {a b P Q : Int} (hb : 1 ≤ b) (hQ : 1 ≤ Q) : (a * Q < P * b ↔ a * lowB P Q < lowT P Q * b) ∧ (P * b < a * Q ↔ lowT P Q * b < a * lowB P Q) := by
  have e := low_eq (a := P) (b := Q) (by omega)
  have p := low_pos (a := P) (b := Q) (by omega)
  generalize lowT P Q = T at *
  generalize lowB P Q = B at *
  have e1 : P * b * B = T * b * Q := by
    rw [Int.mul_right_comm P b B, Int.mul_comm P B, ← e, Int.mul_right_comm]
  have e2 : a * Q * B = a * B * Q := Int.mul_right_comm _ _ _
  constructor
  · constructor
    · intro h
      have := Int.mul_lt_mul_of_pos_right h (show 0 < B by omega)
      rw [e1, e2] at this
      exact Int.lt_of_mul_lt_mul_right this (by omega)
    · intro h
      have := Int.mul_lt_mul_of_pos_right h (show 0 < Q by omega)
      rw [← e1, ← e2] at this
      exact Int.lt_of_mul_lt_mul_right this (by omega)
  · constructor
    · intro h
      have := Int.mul_lt_mul_of_pos_right h (show 0 < B by omega)
      rw [e1, e2] at this
      exact Int.lt_of_mul_lt_mul_right this (by omega)
    · intro h
      have := Int.mul_lt_mul_of_pos_right h (show 0 < Q by omega)
      rw [← e1, ← e2] at this
      exact Int.lt_of_mul_lt_mul_right this (by omega)
/-! ## xs * k -/
def aRep : AR2 := fun O c c' Kc => ∃ (ds : List PyData) (k : Int), Els O c (ds.map .dat) ∧ c' = .dat (.int k) ∧ 0 ≤ k ∧ k ≤ 1000 ∧ ds.length ≤ 1000 ∧ Kc O (.dat (.list (List.replicate k.toNat ds).flatten))
theorem cls_rep {K : PySem.W.Frag} {ok : Addr → Prop} {H : Hp} {vs : List V} {cs : List Cl} (h : ClsH K ok H vs cs) : ∀ n : Nat, ClsH K ok H (List.replicate n vs).flatten (List.replicate n cs).flatten
  | 0 => .nil
  | n + 1 => by
    rw [List.replicate_succ, List.replicate_succ, List.flatten_cons, List.flatten_cons]
    exact h.app (cls_rep h n)
theorem sr_rep {K : PySem.W.Frag} : SR2 K rRep aRep := fun O H Q Kc c c' v v' o r r' ⟨ds, k, h, e, k0, k1, kl, kk⟩ q => by
  subst e
  have ev := dq_int r'
  subst ev
  obtain ⟨a, xs, rfl, ha, rs⟩ := h.get o r
  have xl : xs.length ≤ 1000 := by rw [rs.len, List.length_map]; exact kl
  refine ⟨a, k, xs, rfl, rfl, ha, by omega, by omega, ?_, fun p hp => ?_⟩
  · have : xs.length * k.toNat ≤ 1000 * 1000 := Nat.mul_le_mul xl (by omega)
    exact Nat.le_trans this (by decide)
  · obtain ⟨o2, f2, n⟩ := o.new (u := .lst (List.replicate k.toNat xs).flatten) hp
    have e := cl_lis n upd_same ((cls_rep rs k.toNat).fr f2)
    have e2 : (List.replicate k.toNat (ds.map Cl.dat)).flatten = ((List.replicate k.toNat ds).flatten).map Cl.dat := by
      rw [List.map_flatten, List.map_replicate]
    rw [e2, lisC_dats] at e
    exact q O _ _ _ f2 o2 e kk
end Ab
namespace Ab
open PySem PySem.Spec PyProof.Rows L2 Vg
/-! ## constants of a module, handed in as values -/
mutual
inductive Kv (K : PySem.W.Frag) : Value → PyData → Prop
  | non : Kv K .none .none
  | bl (b : Bool) : Kv K (.bool b) (.bool b)
  | int (i : Int) (t : Tok) : Kv K (.int i t) (.int i)
  | str (x : Str) (t : Tok) : Kv K (.str x t) (.str x)
  | tup {a : Addr} {o : Obj} {its : Array Value} {n : Nat} {ds : List PyData} (l : K.lookup a = some o) (c : o.cls = .type "tuple") (d : o.data = .seq its n) (z : its.size ≤ 1000) (q : KvL K its.toList ds) : Kv K (.ref a) (.tuple ds)
inductive KvL (K : PySem.W.Frag) : List Value → List PyData → Prop
  | nil : KvL K [] []
  | cons {u : Value} {us : List Value} {d : PyData} {ds : List PyData} (h : Kv K u d) (r : KvL K us ds) : KvL K (u :: us) (d :: ds)
end
mutual
theorem Kv.kq {K : PySem.W.Frag} : ∀ {u : Value} {d : PyData}, Kv K u d → ∃ v, L2.RelV v u ∧ Kq K v d
  | _, _, .non => ⟨.non, rfl, .non⟩
  | _, _, .bl b => ⟨.bl b, rfl, .bl b⟩
  | _, _, .int i t => ⟨.int i, ⟨t, rfl⟩, .int i⟩
  | _, _, .str x t => ⟨.str x, ⟨t, rfl⟩, .str x⟩
  | _, _, .tup l c d z q => by
    obtain ⟨xs, r, k⟩ := KvL.kq q
    exact ⟨.ref _, rfl, .tup l c d (Nat.le_trans z (by decide)) r k⟩
theorem KvL.kq {K : PySem.W.Frag} : ∀ {us : List Value} {ds : List PyData}, KvL K us ds → ∃ vs, Vals vs us ∧ KqL K vs ds
  | _, _, .nil => ⟨[], .nil, .nil⟩
  | _, _, .cons h r => by
    obtain ⟨v, rv, k⟩ := Kv.kq h
    obtain ⟨vs, rs, ks⟩ := KvL.kq r
    exact ⟨v :: vs, .cons rv rs, .cons k ks⟩
end
/-- the constant x of the module holds d -/
structure KonK (K : PySem.W.Frag) (x : Str) (d : PyData) : Prop where
  ex : ∃ a, PySem.W.nsIn K mainGlobals x = some (some (.ref a)) ∧ Kv K (.ref a) d
structure KonIn (K : PySem.W.Frag) (mg : Str → Option Value) (x : Str) (d : PyData) : Prop where
  ex : ∃ u v, mg x = some u ∧ L2.RelV v u ∧ Kq K v d
theorem KonK.by {K : PySem.W.Frag} {x : Str} {d : PyData} {a : Addr} (h : PySem.W.nsIn K mainGlobals x = some (some (.ref a))) (l : Kv K (.ref a) d) : KonK K x d := ⟨a, h, l⟩
theorem KonK.at {K : PySem.W.Frag} {h : Heap} {mg : Str → Option Value} {x : Str} {d : PyData} (D : KonK K x d) (X : K.In h) (G : h.Ns mainGlobals mg) : KonIn K mg x d := by
  obtain ⟨a, e, b⟩ := D.ex
  obtain ⟨v, r, k⟩ := b.kq
  exact ⟨_, v, PySem.W.mg_of X G e, r, k⟩
/-! ## x in (a, b), data of any depth -/
section
variable {X : Cx} {K : PySem.W.Frag}
def rInT (K : PySem.W.Frag) : R2 := fun x y H Q => ∃ d ds, Dp K H x d ∧ Dp K H y (.tuple ds) ∧ d.canLay0 = true ∧ PyData.canLayAll0 ds = true ∧ d.depth ≤ 60 ∧ Q (.bl (ds.any fun z => PyData.eqv z d)) H
theorem op_inT (hu : X.A.units + 64 < cLine) : OpR X (compareOp .In) (rInT X.K) := by
  intro pins s σ H x y v u Q I rx ry h
  obtain ⟨d, ds, hd, he, sd, se, dd, q⟩ := h
  obtain ⟨as, r1⟩ := Dp.reads I d x v hd rx
  obtain ⟨bs, r2⟩ := Dp.reads I (.tuple ds) y u he ry
  exact SeqAt.in_tuple_reads r2 r1 se sd (by have : min (PyData.depthAll ds) d.depth ≤ d.depth := Nat.min_le_right _ _; omega) ⟨.bl _, H, I, rfl, q⟩
def aInT : AR2 := fun O c c' Kc => ∃ d ds, Rdc O c d ∧ Rdc O c' (.tuple ds) ∧ d.hasDict = false ∧ PyData.hasDict (.tuple ds) = false ∧ d.canLay0 = true ∧ PyData.canLayAll0 ds = true ∧ d.depth ≤ 60 ∧ Kc O (.dat (.bool (ds.any fun z => PyData.eqv z d)))
theorem sr_inT : SR2 K (rInT K) aInT := fun O H Q Kc c c' v v' o r r' ⟨d, ds, h1, h2, n1, n2, s1, s2, dd, k⟩ q =>
  ⟨d, ds, h1.dp o r n1, h2.dp o r' n2, s1, s2, dd, q O _ _ H (Fr.refl _ _) o (.dat (.bl _)) k⟩
end
def aCon (d : PyData) : AE := fun O _ _ Kc => Kc O (conC d)
section
variable {X : Cx} {W : WX}
theorem de_kon {x : Str} {d : PyData} {p : Pos} (C : KonIn X.K X.mg x d) (hg : Gl X x := by rfl) (hdb : (x == ("__debug__" : Str)) = false := by decide) : DE X W (.Name x p) (aCon d) := by
  obtain ⟨u, v, e, r, k⟩ := C.ex
  exact ⟨tC v, pe_glob (v := v) hg e r hdb, fun O ρ σ H Q Kc XX S kc q _ => q O _ _ H (Fr.refl _ _) S.o k.cl kc⟩
end
section
variable {O : Ob} {ρ : Rho} {XX : XC}
theorem pu_con {d : PyData} : Pu (aCon d) O ρ XX (conC d) := fun _ k => k
theorem t_tup {a : AA} {K : KC} (h : a O ρ XX fun O1 cs => cs.length ≤ 1000 ∧ K O1 (tupC cs)) : aTup a O ρ XX K := h
theorem rdc_tupC {cs : List Cl} {ds : List PyData} (h : Rdcs O cs ds) : Rdc O (tupC cs) (.tuple ds) := by
  unfold tupC
  split
  · rename_i es e
    have e' := allD_eq e
    subst e'
    have : es = ds := by
      clear e
      induction es generalizing ds with
      | nil => cases h; rfl
      | cons x es ih =>
        cases h with
        | cons h1 r =>
          cases h1
          rw [ih r]
    subst this
    exact .dat _
  · exact .tup h
theorem elsT_con (ds : List PyData) : ElsT (conC (.tuple ds)) (ds.map conC) := .con ds
theorem rdc_con (O : Ob) (d : PyData) : Rdc O (conC d) d := by
  cases d <;> first | exact .con _ | exact .dat _
end
end Ab
namespace Ab
open PySem PySem.Spec PyProof.Rows L2 Vg
/-! ## each legal row is the row of a fraction -/
theorem gcd_comm (a b : Int) : gcdI a b = gcdI b a := by unfold gcdI; rw [Nat.gcd_comm]
theorem gcd_sg {e a b : Int} (h : e = 1 ∨ e = -1) : gcdI (e * a) (e * b) = gcdI a b := by
  unfold gcdI
  rcases h with rfl | rfl
  · rw [Int.one_mul, Int.one_mul]
  · rw [Int.neg_mul, Int.neg_mul, Int.one_mul, Int.one_mul, Int.natAbs_neg, Int.natAbs_neg]
theorem low_back {e a b : Int} (he : e = 1 ∨ e = -1) (hb : 1 ≤ b) (g : gcdI a b = 1) : lowT (e * a) (e * b) = a ∧ lowB (e * a) (e * b) = b := by
  have hne : e * b ≠ 0 := by rcases he with rfl | rfl <;> omega
  obtain ⟨f, hf, h1, h2⟩ := low_sig hne (by rw [gcd_sg he]; exact g)
  have p := low_pos (a := e * a) hne
  rw [h2] at p
  rw [h1, h2]
  rcases he with rfl | rfl <;> rcases hf with rfl | rfl <;> constructor <;> omega
/-- a term ahead of a rest -/
theorem run_cons {x : Str} (hx : isMan x) {a b : Int} {l : List Int} (run : Run x a b l) (rst : Rst x a b) (g : gcdI a b = 1) (t : Int) :
    ∃ A B r : Int, 1 ≤ B ∧ gcdI A B = 1 ∧ Run x A B (t :: l) ∧ A = t * B + r ∧ (x = "floor" → 0 < r ∧ r < B) ∧ (x = "ceil" → r < 0 ∧ -B < r) ∧ (x = "near" → (2 * b < a → 0 < r ∧ 2 * r < B) ∧ (a ≤ -(2 * b) → r < 0 ∧ -B ≤ 2 * r)) := by
  obtain ⟨hb, hr⟩ := rst
  obtain ⟨e, he, hB, hea⟩ : ∃ e : Int, (e = 1 ∨ e = -1) ∧ 1 ≤ e * a ∧ (0 < a → e = 1) := by
    by_cases h : 0 < a
    · exact ⟨1, .inl rfl, by omega, fun _ => rfl⟩
    · refine ⟨-1, .inr rfl, ?_, fun z => absurd z h⟩
      split at hr <;> omega
  obtain ⟨s, hs, hsx⟩ : ∃ s : Int, (s = 1 ∨ s = -1) ∧ sgI x = s := ⟨_, sg_or x, rfl⟩
  have ss : s * s = 1 := by rcases hs with rfl | rfl <;> rfl
  have gr : gcdI (e * s * b) (e * a) = 1 := by
    rw [Int.mul_assoc, gcd_sg he, gcd_comm]
    have : gcdI a (s * b) = gcdI a b := by
      unfold gcdI
      rcases hs with rfl | rfl
      · rw [Int.one_mul]
      · rw [Int.neg_mul, Int.one_mul, Int.natAbs_neg]
    rw [this]
    exact g
  have gA : gcdI (t * (e * a) + e * s * b) (e * a) = 1 := by
    have z := gcd_left (t := -t) (s := 1) (.inl rfl) gr
    rw [gcd_comm]
    rw [Int.one_mul, Int.neg_mul, Int.sub_neg, Int.add_comm] at z
    exact z
  have facts : (x = "floor" → 0 < e * s * b ∧ e * s * b < e * a) ∧ (x = "ceil" → e * s * b < 0 ∧ -(e * a) < e * s * b) ∧ (x = "near" → (2 * b < a → 0 < e * s * b ∧ 2 * (e * s * b) < e * a) ∧ (a ≤ -(2 * b) → e * s * b < 0 ∧ -(e * a) ≤ 2 * (e * s * b))) := by
    refine ⟨fun h => ?_, fun h => ?_, fun h => ⟨fun h2 => ?_, fun h2 => ?_⟩⟩
    · subst h
      rw [if_neg fn] at hr
      rw [sg_floor] at hsx
      subst hsx
      rw [hea (by omega)]
      omega
    · subst h
      rw [if_neg cn] at hr
      rw [sg_ceil] at hsx
      subst hsx
      rw [hea (by omega)]
      omega
    · subst h
      rw [sg_near] at hsx
      subst hsx
      rw [hea (by omega)]
      omega
    · subst h
      rw [sg_near] at hsx
      subst hsx
      rcases he with rfl | rfl
      · omega
      · omega
  have ht : termI x (t * (e * a) + e * s * b) (e * a) = t := by
    obtain ⟨f1, f2, f3⟩ := facts
    generalize e * s * b = r at *
    generalize e * a = B at *
    rcases hx with rfl | rfl | rfl
    · have := f1 rfl
      rw [term_floor]
      exact fdiv_uniq hB (by omega) (by omega)
    · have := f2 rfl
      rw [term_ceil, fdiv_uniq (q := -t) hB (by rw [Int.neg_mul]; omega) (by rw [Int.neg_mul]; omega), Int.neg_neg]
    · rw [term_near]
      have e2 : t * (2 * B) = 2 * (t * B) := Int.mul_left_comm ..
      rw [if_pos rfl] at hr
      refine fdiv_uniq (by omega) ?_ ?_
      · rw [e2]
        rcases hr with h | h
        · have := (f3 rfl).1 h
          omega
        · have := (f3 rfl).2 h
          omega
      · rw [e2]
        rcases hr with h | h
        · have := (f3 rfl).1 h
          omega
        · have := (f3 rfl).2 h
          omega
  have hl : leftI x (t * (e * a) + e * s * b) (e * a) = e * b := by
    unfold leftI
    rw [ht, hsx]
    have : t * (e * a) + e * s * b - t * (e * a) = e * s * b := by omega
    rw [this]
    have : s * (e * s * b) = s * s * (e * b) := by
      rcases hs with rfl | rfl <;> rcases he with rfl | rfl <;> omega
    rw [this, ss, Int.one_mul]
  have lb := low_back he hb g
  refine ⟨t * (e * a) + e * s * b, e * a, e * s * b, hB, gA, ?_, rfl, facts⟩
  have z : Run x (t * (e * a) + e * s * b) (e * a) (termI x (t * (e * a) + e * s * b) (e * a) :: l) := .next (by rw [hl]; rcases he with rfl | rfl <;> omega) (by
    rw [hl, lb.1, lb.2]
    exact run)
  rw [ht] at z
  exact z
/-- terms that may stand behind the first -/
def okT (x : Str) (t : Int) : Prop := if x = "floor" then 1 ≤ t else if x = "ceil" then 2 ≤ t else absI t ≥ 2
def chainB (l : List Int) : Bool := (List.zipWith folN l (l.drop 1)).all id
theorem chain_cons (a b : Int) (l : List Int) : chainB (a :: b :: l) = (folN a b && chainB (b :: l)) := rfl
theorem chain_app : ∀ {l r : List Int}, l ≠ [] → r ≠ [] → chainB (l ++ r) = (chainB l && (folN (l.getLastD 0) (r.headD 0) && chainB r))
  | [], _, h, _ => absurd rfl h
  | [a], [], _, h => absurd rfl h
  | [a], b :: r, _, _ => rfl
  | a :: b :: l, r, _, h => by
    rw [List.cons_append, List.cons_append, chain_cons, ← List.cons_append, chain_app (l := b :: l) (by simp) h, chain_cons, getLastD_cons a (s := b :: l) (by simp), Bool.and_assoc]
theorem begI_one {x : Str} (hx : isMan x) (t : Int) : begI x [t] = true := by
  rcases hx with rfl | rfl | rfl <;> rfl
theorem begI_app {x : Str} (hx : isMan x) {is R : List Int} (h : begI x is = true) (hi : is ≠ []) (hR : R ≠ []) (hall : ∀ t ∈ R, okT x t) (hc : x = "near" → chainB R = true) (hf : x = "near" → 1 < is.length → folN (is.getLastD 0) (R.headD 0) = true) : begI x (is ++ R) = true := by
  have hp := List.length_pos_iff.mpr hi
  unfold begI at h ⊢
  rw [List.drop_append_of_le_length (by omega)]
  rcases hx with rfl | rfl | rfl
  · rw [if_pos rfl] at h ⊢
    refine List.all_eq_true.mpr fun t ht => ?_
    rcases List.mem_append.mp ht with z | z
    · exact List.all_eq_true.mp h t z
    · have := hall t z
      unfold okT at this
      rw [if_pos rfl] at this
      exact decide_eq_true this
  · rw [if_neg cf, if_pos rfl] at h ⊢
    refine List.all_eq_true.mpr fun t ht => ?_
    rcases List.mem_append.mp ht with z | z
    · exact List.all_eq_true.mp h t z
    · have := hall t z
      unfold okT at this
      rw [if_neg cf, if_pos rfl] at this
      exact decide_eq_true this
  · rw [if_neg nf, if_neg nc] at h ⊢
    have z := Bool.and_eq_true_iff.mp h
    refine Bool.and_eq_true_iff.mpr ⟨List.all_eq_true.mpr fun t ht => ?_, ?_⟩
    · rcases List.mem_append.mp ht with y | y
      · exact List.all_eq_true.mp z.1 t y
      · have := hall t y
        unfold okT at this
        rw [if_neg nf, if_neg nc] at this
        exact decide_eq_true this
    · show chainB (is.drop 1 ++ R) = true
      by_cases e : is.drop 1 = []
      · rw [e, List.nil_append]
        exact hc rfl
      · rw [chain_app e hR]
        have l1 : 1 < is.length := by
          have := List.length_pos_iff.mpr e
          rw [List.length_drop] at this
          omega
        have le : (is.drop 1).getLastD 0 = is.getLastD 0 := by
          cases is with
          | nil => exact absurd rfl hi
          | cons a s => exact (getLastD_cons a (s := s) (by simpa using e)).symm
        rw [le, hf rfl l1, hc rfl]
        rw [show chainB (is.drop 1) = true from z.2]
        rfl
theorem term_int {x : Str} (hx : isMan x) (t : Int) : termI x t 1 = t := by
  rcases hx with rfl | rfl | rfl
  · rw [term_floor]
    exact fdiv_uniq (by decide) (by omega) (by omega)
  · rw [term_ceil, fdiv_uniq (q := -t) (by decide) (by omega) (by omega), Int.neg_neg]
  · rw [term_near]
    exact fdiv_uniq (by decide) (by omega) (by omega)
theorem run_int {x : Str} (hx : isMan x) (t : Int) : Run x t 1 [t] := by
  have l0 : leftI x t 1 = 0 := by
    unfold leftI
    rw [term_int hx, Int.mul_one, Int.sub_self, Int.mul_zero]
  have z := Run.last l0
  rw [term_int hx] at z
  exact z
theorem gcd_int (t : Int) : gcdI t 1 = 1 := by unfold gcdI; simp
/-- what is legal behind a term is a rest -/
theorem tail_run {x : Str} (hx : isMan x) : ∀ {l : List Int}, l ≠ [] → (∀ t ∈ l, okT x t) → (x = "near" → chainB l = true) → (x = "floor" → l.getLastD 0 ≠ 1) → (x = "near" → l.getLastD 0 ≠ 2) →
    ∃ A B : Int, 1 ≤ B ∧ gcdI A B = 1 ∧ Run x A B l ∧ Rst x A B
  | [], h, _, _, _, _ => absurd rfl h
  | [t], _, hall, _, hf, hn => by
    refine ⟨t, 1, by decide, gcd_int t, run_int hx t, by decide, ?_⟩
    have ok := hall t (List.mem_cons_self ..)
    unfold okT at ok
    rcases hx with rfl | rfl | rfl
    · have h1 : t ≠ 1 := hf rfl
      rw [if_neg fn]
      rw [if_pos rfl] at ok
      omega
    · rw [if_neg cn]
      rw [if_neg cf, if_pos rfl] at ok
      omega
    · have h1 : t ≠ 2 := hn rfl
      rw [if_pos rfl]
      rw [if_neg nf, if_neg nc] at ok
      unfold absI at ok
      split at ok <;> omega
  | t :: u :: l, _, hall, hc, hf, hn => by
    have le : (t :: u :: l).getLastD 0 = (u :: l).getLastD 0 := getLastD_cons t (s := u :: l) (by simp)
    rw [le] at hf hn
    have hc2 : x = "near" → folN t u = true ∧ chainB (u :: l) = true := fun z => by
      have := hc z
      rw [chain_cons] at this
      exact Bool.and_eq_true_iff.mp this
    obtain ⟨a, b, hb, g, run, rst⟩ := tail_run hx (l := u :: l) (by simp) (fun y hy => hall y (List.mem_cons_of_mem _ hy)) (fun z => (hc2 z).2) hf hn
    obtain ⟨A, B, r, hB, gA, runA, e, f1, f2, f3⟩ := run_cons hx run rst g t
    refine ⟨A, B, hB, gA, runA, hB, ?_⟩
    have ok := hall t (List.mem_cons_self ..)
    unfold okT at ok
    rcases hx with rfl | rfl | rfl
    · rw [if_neg fn]
      rw [if_pos rfl] at ok
      have := f1 rfl
      have m : 1 * B ≤ t * B := Int.mul_le_mul_of_nonneg_right ok (by omega)
      omega
    · rw [if_neg cn]
      rw [if_neg cf, if_pos rfl] at ok
      have := f2 rfl
      have m : 2 * B ≤ t * B := Int.mul_le_mul_of_nonneg_right ok (by omega)
      omega
    · rw [if_pos rfl]
      rw [if_neg nf, if_neg nc] at ok
      obtain ⟨s, hs⟩ := run.head
      have hu : u = termI "near" a b := by cases hs; rfl
      have sg := term_rn rst
      have fo := (hc2 rfl).1
      have h3 := f3 rfl
      have hr := rst.2
      rw [if_pos rfl] at hr
      have cases_t : t = 2 ∨ t = -2 ∨ 3 ≤ t ∨ t ≤ -3 := by
        unfold absI at ok
        split at ok <;> omega
      rcases cases_t with rfl | rfl | h | h
      · left
        unfold folN at fo
        rw [if_pos rfl] at fo
        have fo := of_decide_eq_true fo
        rcases hr with hr | hr
        · have := (h3.1 hr).1
          omega
        · have := sg.2 hr
          omega
      · right
        unfold folN at fo
        rw [if_neg (by decide), if_pos rfl] at fo
        have fo := of_decide_eq_true fo
        rcases hr with hr | hr
        · have := sg.1 hr
          omega
        · have := (h3.2 hr).1
          omega
      · left
        have m : 3 * B ≤ t * B := Int.mul_le_mul_of_nonneg_right h (by omega)
        rcases hr with hr | hr
        · have := h3.1 hr
          omega
        · have := h3.2 hr
          omega
      · right
        have m : t * B ≤ -3 * B := Int.mul_le_mul_of_nonneg_right h (by omega)
        rcases hr with hr | hr
        · have := h3.1 hr
          omega
        · have := h3.2 hr
          omega
/-- each legal row is the row of one fraction -/
theorem legal_run {x : Str} (hx : isMan x) {is : List Int} (hi : is ≠ []) (hb : begI x is = true) (he : endI x is = true) : ∃ A B : Int, 1 ≤ B ∧ gcdI A B = 1 ∧ Run x A B is := by
  match is, hi with
  | [t], _ => exact ⟨t, 1, by decide, gcd_int t, run_int hx t⟩
  | t :: u :: l, _ =>
    have le : (t :: u :: l).getLastD 0 = (u :: l).getLastD 0 := getLastD_cons t (s := u :: l) (by simp)
    unfold endI at he
    rw [if_neg (by simp), le] at he
    have hf : x = "floor" → (u :: l).getLastD 0 ≠ 1 := fun z y => by
      rw [if_pos z, y] at he
      cases he
    have hn : x = "near" → (u :: l).getLastD 0 ≠ 2 := fun z y => by
      rw [if_neg (fun w => nf (z.symm.trans w)), if_pos z, y] at he
      cases he
    have tl : (∀ y ∈ u :: l, okT x y) ∧ (x = "near" → chainB (u :: l) = true) := by
      unfold begI at hb
      have hd : (t :: u :: l).drop 1 = u :: l := rfl
      rw [hd] at hb
      rcases hx with rfl | rfl | rfl
      · rw [if_pos rfl] at hb
        exact ⟨fun y hy => by unfold okT; rw [if_pos rfl]; exact of_decide_eq_true (List.all_eq_true.mp hb y hy), fun z => absurd z fn⟩
      · rw [if_neg cf, if_pos rfl] at hb
        exact ⟨fun y hy => by unfold okT; rw [if_neg cf, if_pos rfl]; exact of_decide_eq_true (List.all_eq_true.mp hb y hy), fun z => absurd z cn⟩
      · rw [if_neg nf, if_neg nc] at hb
        have q := Bool.and_eq_true_iff.mp hb
        exact ⟨fun y hy => by unfold okT; rw [if_neg nf, if_neg nc]; exact of_decide_eq_true (List.all_eq_true.mp q.1 y hy), fun _ => q.2⟩
    obtain ⟨a, b, _, g, run, rst⟩ := tail_run hx (l := u :: l) (by simp) tl.1 tl.2 hf hn
    obtain ⟨A, B, r, hB, gA, runA, _⟩ := run_cons hx run rst g t
    exact ⟨A, B, hB, gA, runA⟩
/-! ## texts of long rows -/
theorem ints_parts : ∀ {is : List Int}, (∀ t ∈ is, Int.natAbs t < 2 ^ 112) → PyData.showableAll (is.map PyData.int) = true ∧ PyData.leavesShortAll 113 (is.map PyData.int) = true ∧ PyData.weightAll (is.map PyData.int) ≤ 113 * is.length
  | [], _ => ⟨rfl, by simp [PyData.leavesShortAll], by simp [PyData.weightAll]⟩
  | i :: is, h => by
    obtain ⟨h1, h2, h3⟩ := ints_parts (is := is) fun t ht => h t (List.mem_cons_of_mem _ ht)
    have hi := h i (List.mem_cons_self ..)
    have hl := log_lt hi (by decide)
    have sh : PyData.showable (.int i) = true := by
      simp only [PyData.showable, decide_eq_true_eq]
      omega
    have ls : PyData.leavesShort 113 (.int i) = true := by
      have := PySem.int_text_length_le (k := 112) (by decide) hl
      simp only [PyData.leavesShort, PyData.shown]
      refine decide_eq_true ?_
      rw [PySem.ofString_length]
      exact this
    have w : PyData.weight (.int i) ≤ 112 := by
      simp only [PyData.weight]
      split <;> omega
    rw [List.map_cons, List.length_cons]
    refine ⟨by simp only [PyData.showableAll, sh, h1, Bool.and_self], by simp only [PyData.leavesShortAll, ls, h2, Bool.and_self], ?_⟩
    simp only [PyData.weightAll]
    omega
theorem txB_ints {is : List Int} (h : ∀ t ∈ is, Int.natAbs t < 2 ^ 112) (hl : is.length ≤ 999) : TxB (.list (is.map PyData.int)) := by
  obtain ⟨h1, h2, h3⟩ := ints_parts h
  refine ⟨by simp only [PyData.showable]; exact h1, ?_, ?_⟩
  · have := depth_ints is
    simp only [PyData.depth]
    omega
  · have z := PyData.shown_le 113 (by decide) (.list (is.map PyData.int)) (by simp only [PyData.leavesShort]; exact h2)
    have w : PyData.weight (.list (is.map PyData.int)) ≤ 113 * 999 := by
      simp only [PyData.weight]
      omega
    have : (113 + 2) * PyData.weight (.list (is.map PyData.int)) ≤ 115 * (113 * 999) := Nat.mul_le_mul (by decide) w
    have e : sizeLine = 16777216 := by decide
    omega
theorem Tx1.txB8 {w dp : Nat} {d : PyData} (h : Tx1 w dp d) (hw : w ≤ 8000 := by decide) (hd : dp ≤ 50 := by decide) : TxB d := by
  refine ⟨h.s, Nat.le_trans h.dp hd, ?_⟩
  have z := PyData.shown_le 1921 (by decide) d h.l
  have w1 := h.w
  have : (1921 + 2) * d.weight ≤ 1923 * 8000 := Nat.mul_le_mul (by decide) (by omega)
  have e : sizeLine = 16777216 := by decide
  omega
end Ab
namespace Ab
open PySem PySem.Spec PyProof.Rows L2 Vg
/-! ## zip of lists and tuples in any mix: k false a list, k true a tuple -/
def itK (k : Bool) (h : Heap) (i l : Addr) (n : Nat) : Prop := cond k (h.IsTupleIter i l n) (h.IsListIter i l n)
def isK (k : Bool) (h : Heap) (l : Addr) (its : Array Value) : Prop := cond k (h.IsTuple l its) (h.IsList l its)
def sqK (k : Bool) (K : PySem.W.Frag) (H : Hp) (a : Addr) (xs : List V) : Prop := cond k (SqT K H a xs) (SqL K H a xs)
def obK (k : Bool) (l : Addr) : Obj := cond k { cls := .type "tuple_iterator", data := .fields #[.ref l, .int 0 0] } { cls := .type "list_iterator", data := .fields #[.ref l, .int 0 0] }
theorem itK_ob {k : Bool} {h : Heap} {i l : Addr} {n : Nat} (t : itK k h i l n) : ∃ o, h.get? i = some o ∧ ∀ v, o.data ≠ .cell v := by
  cases k with
  | true => obtain ⟨o, e, _, d⟩ := (show h.IsTupleIter i l n from t); exact ⟨o, e, fun v q => by rw [d] at q; cases q⟩
  | false => obtain ⟨o, e, _, d⟩ := (show h.IsListIter i l n from t); exact ⟨o, e, fun v q => by rw [d] at q; cases q⟩
theorem itK_at {k : Bool} {h h' : Heap} {i l : Addr} {n : Nat} (t : itK k h i l n) (f : ∀ o, h.get? i = some o → h'.get? i = some o) : itK k h' i l n := by
  cases k with
  | true => exact (show h.IsTupleIter i l n from t).at f
  | false => exact (show h.IsListIter i l n from t).at f
theorem drawsK {prog : Program} {w : World} {A : Around} (hh : A.handled = none) (k : Bool) (it l : Addr) (hne : l ≠ it) (its : Array Value) :
    Draws prog w A it [it, l] its.size (fun i v => its[i]? = some v) (fun i h => itK k h it l i ∧ isK k h l its) := by
  cases k with
  | true => exact Draws.tuple hh it l hne its
  | false => exact Draws.list hh it l hne its
theorem beginsK (k : Bool) (l : Addr) (its : Array Value) : Begins (.ref l) (obK k l) fun h => isK k h l its := by
  cases k with
  | true => exact begins_tuple l its
  | false => exact begins_list l its
theorem itK_new {k : Bool} {h : Heap} {i l : Addr} (e : h.get? i = some (obK k l)) : itK k h i l 0 := by
  cases k with
  | true => exact ⟨_, e, rfl, rfl⟩
  | false => exact ⟨_, e, rfl, rfl⟩
theorem sqK_get {X : Cx} {pins : List (Addr × Obj)} {σ : L2.St} {H : Hp} {s : Shared} {k : Bool} {a : Addr} {xs : List V} (I : Inv X pins σ H s) (q : sqK k X.K H a xs) : ∃ us : List Value, Vals xs us ∧ isK k s.heap a us.toArray := by
  cases k with
  | true => obtain ⟨us, rv, p, _⟩ := I.tuple (show SqT X.K H a xs from q); exact ⟨us, rv, p⟩
  | false => obtain ⟨us, rv, p, _⟩ := I.list (show SqL X.K H a xs from q); exact ⟨us, rv, p.isList⟩
theorem sqK_inj {X : Cx} {pins : List (Addr × Obj)} {σ : L2.St} {H : Hp} {s : Shared} {k : Bool} {a : Addr} {xs ys : List V} (I : Inv X pins σ H s) (q : sqK k X.K H a xs) (r : sqK k X.K H a ys) : xs = ys := by
  cases k with
  | true => exact I.tuple_inj (show SqT X.K H a xs from q) (show SqT X.K H a ys from r)
  | false => exact I.list_inj (show SqL X.K H a xs from q) (show SqL X.K H a ys from r)
theorem isK_lt {k : Bool} {h : Heap} {l : Addr} {its : Array Value} (p : isK k h l its) : l < h.objs.size := by
  cases k with
  | true => obtain ⟨o, e, _⟩ := (show h.IsTuple l its from p); exact Heap.lt_size e
  | false => obtain ⟨o, e, _⟩ := (show h.IsList l its from p); exact Heap.lt_size e
/-- what the turns of such a zip tell -/
def ItzX (K : PySem.W.Frag) (k m : Bool) (a b : Addr) : It where
  go := fun i H => ∃ xs ys x y, sqK k K H a xs ∧ sqK m K H b ys ∧ xs[i]? = some x ∧ ys[i]? = some y
  yld := fun i H v H' => ∃ t x y, v = .ref t ∧ H t = none ∧ H' = upd H t (.tup [x, y]) ∧ (∀ xs, sqK k K H a xs → xs[i]? = some x) ∧ ∀ ys, sqK m K H b ys → ys[i]? = some y
  stop := fun i H => ∃ xs ys, sqK k K H a xs ∧ sqK m K H b ys ∧ i ≤ xs.length ∧ i ≤ ys.length ∧ (i = xs.length ∨ i = ys.length)
/-- the five cells of a zip that stands behind n objects -/
abbrev five (n : Addr) : List Addr := [n + 4, n + 2, n + 3, n, n + 1]
theorem five_mem {n c : Addr} (h : c ∈ five n) : c = n + 4 ∨ c = n + 2 ∨ c = n + 3 ∨ c = n ∨ c = n + 1 := by simpa using h
theorem nx {n : Nat} (i j : Nat) (h : i ≠ j) : n + i ≠ n + j := fun e => h (Nat.add_left_cancel e)
theorem nl {n a : Nat} (h : a < n) (i : Nat) : n + i ≠ a := fun e => absurd h (by omega)
theorem nm2 {α : Type} {x a b : α} (h : x ≠ a) (k : x ≠ b) : x ∉ [a, b] := by simp [h, k]
theorem sepK {n a b : Addr} (ha : a < n) (hb : b < n) : ZipSep2 (n + 4) (n + 2) (n + 3) n (n + 1) [n, a] [n + 1, b] :=
  ⟨nx 2 4 (by decide), nx 3 4 (by decide), nx 2 3 (by decide), nx 2 0 (by decide), List.mem_cons_self .., nm2 (nx 4 0 (by decide)) (nl ha 4), nm2 (nx 3 0 (by decide)) (nl ha 3), nx 2 1 (by decide), List.mem_cons_self .., nm2 (nx 4 1 (by decide)) (nl hb 4), nm2 (nx 3 1 (by decide)) (nl hb 3), nm2 (nx 0 1 (by decide)) (nl hb 0), nm2 (nx 1 0 (by decide)) (nl ha 1)⟩
def tnK (k m : Bool) (n a b : Addr) (i : Nat) (h : Heap) : Prop := IsZip h (n + 4) (n + 2) (n + 3) .none ∧ IsTupOf2 h (n + 2) (.ref n) (.ref (n + 1)) ∧ (∃ x y, IsTupOf2 h (n + 3) x y) ∧ itK k h n a i ∧ itK m h (n + 1) b i
theorem tnK_lt {k m : Bool} {n a b : Addr} {i : Nat} {h : Heap} (t : tnK k m n a b i h) : ∀ c ∈ five n, c < h.objs.size := by
  obtain ⟨z1, z2, ⟨_, _, z3⟩, z4, z5⟩ := t
  obtain ⟨_, e4, _⟩ := itK_ob z4
  obtain ⟨_, e5, _⟩ := itK_ob z5
  intro c hc
  rcases five_mem hc with q | q | q | q | q <;> subst q
  · exact Heap.lt_size z1
  · exact Heap.lt_size z2
  · exact Heap.lt_size z3
  · exact Heap.lt_size e4
  · exact Heap.lt_size e5
theorem turn_zipX {P : Program} {w : World} {K : PySem.W.Frag} {elts : List Expr} {kk : Nat} {tpos : Pos} (k m : Bool) {n a b : Addr} (ha : a < n) (hb : b < n) :
    Turn P w K (.Tuple elts kk tpos) (ItzX K k m a b) (five n) (n + 4) (tnK k m n a b) where
  mem := List.mem_cons_self ..
  obj := fun i h t c hc => by
    obtain ⟨z1, z2, ⟨_, _, z3⟩, z4, z5⟩ := t
    rcases five_mem hc with q | q | q | q | q <;> subst q
    · exact ⟨_, z1, fun v q => nomatch q⟩
    · exact ⟨_, z2, fun v q => nomatch q⟩
    · exact ⟨_, z3, fun v q => nomatch q⟩
    · exact itK_ob z4
    · exact itK_ob z5
  keep := fun i h h' t f => by
    obtain ⟨z1, z2, ⟨u, v, z3⟩, z4, z5⟩ := t
    exact ⟨f _ (by simp) _ z1, f _ (by simp) _ z2, ⟨u, v, f _ (by simp) _ z3⟩, itK_at z4 fun o e => f _ (by simp) o e, itK_at z5 fun o e => f _ (by simp) o e⟩
  item := by
    rintro X rfl rfl rfl hc i pins s σ H E I hf t ⟨xs, ys, x, y, qa, qb, ex, ey⟩
    have lt5 := tnK_lt t
    obtain ⟨z1, z2, ⟨_, _, z3⟩, z4, z5⟩ := t
    obtain ⟨us, ru, pu⟩ := sqK_get I qa
    obtain ⟨vs, rv, pv⟩ := sqK_get I qb
    obtain ⟨u, hu, r1⟩ := ru.get ex
    obtain ⟨v, hv, r2⟩ := rv.get ey
    have S := sepK ha hb
    refine wpAny_pyNext_zipD2_item S (drawsK (A := X.A.in1) (prog := X.prog) (w := X.w) (show X.A.in1.handled = none from I.ok.hd hc) k n a (Nat.ne_of_lt ha) us.toArray) (drawsK (A := X.A.in1) (prog := X.prog) (w := X.w) (show X.A.in1.handled = none from I.ok.hd hc) m (n + 1) b (Ne.symm (nl hb 1)) vs.toArray) z1 z2 z3 ⟨z4, pu⟩ ⟨z5, pv⟩ (i := i) ?_ ?_ fun g1 g2 h1 tk e1 e2 y1 y2 y3 y4 y5 ysz yk => ?_
    · obtain ⟨h, _⟩ := List.getElem?_eq_some_iff.mp hu; simpa using h
    · obtain ⟨h, _⟩ := List.getElem?_eq_some_iff.mp hv; simpa using h
    have e1 : us[i]? = some g1 := by simpa using e1
    have e2 : vs[i]? = some g2 := by simpa using e2
    cases e1.symm.trans hu
    cases e2.symm.trans hv
    refine ⟨_, rfl, wpAny_letOwnedTupleGo_zip (s := { s with heap := h1, toks := tk }) y1 fun h2 w1 sb => ?_⟩
    have nz : s.heap.objs.size ≠ n + 4 := Nat.ne_of_gt (lt5 _ (List.mem_cons_self ..))
    have gT : h2.get? s.heap.objs.size = some { cls := .type "tuple", data := .seq #[u, v] } := (sb.2 _ nz).trans y5
    have ok : ObjOk X.prog X.w (upd H s.heap.objs.size (.tup [x, y])) h2 s.heap.objs.size (.tup [x, y]) :=
      ⟨by show 2 ≤ sizeLine; decide, [u, v], .cons r1 (.cons r2 .nil), ⟨_, gT, rfl, _, rfl⟩⟩
    have kept : ∀ c o, c ∉ five n → s.heap.get? c = some o → h2.get? c = some o := fun c o hm e =>
      (sb.2 c fun q => hm (by rw [q]; simp)).trans (yk c o (fun q => hm (by rw [q]; simp)) (fun q => hm (by rw [q]; simp)) (fun q => hm (by rw [q]; simp)) (fun q => hm (by rw [q]; simp)) e)
    have I2 : Inv X pins σ (upd H s.heap.objs.size (.tup [x, y])) { s with heap := h2, toks := tk } := I.turnedNew (t' := tk) (ch := five n) kept hf (Nat.le_refl _) ok
    refine ⟨.ref s.heap.objs.size, _, I2, rfl, ⟨_, x, y, rfl, I.hok.fresh (Nat.le_refl _), rfl, fun l hl => by rw [sqK_inj I hl qa]; exact ex, fun l hl => by rw [sqK_inj I hl qb]; exact ey⟩, ⟨w1, ?_, ⟨u, v, ?_⟩, ?_, ?_⟩, fun c hm => ?_⟩
    · exact (sb.2 _ S.TIz).trans (yk _ _ S.TIz S.TITO S.TIi1 S.TIi2 z2)
    · exact (sb.2 _ S.TOz).trans y2
    · exact itK_at y3.1 fun o e => (sb.2 _ (Ne.symm S.zi1)).trans e
    · exact itK_at y4.1 fun o e => (sb.2 _ (Ne.symm S.zi2)).trans e
    · rw [upd_ne (Nat.ne_of_lt (lt5 c hm))]
      exact (hf c hm).1
  done := by
    rintro X rfl rfl rfl hc i pins s σ H E I hf t ⟨xs, ys, qa, qb, h1, h2, he⟩
    obtain ⟨z1, z2, ⟨_, _, z3⟩, z4, z5⟩ := t
    obtain ⟨us, ru, pu⟩ := sqK_get I qa
    obtain ⟨vs, rv, pv⟩ := sqK_get I qb
    have l1 := ru.length
    have l2 := rv.length
    refine wpAny_pyNext_zipD2_end (sepK ha hb) (drawsK (A := X.A.in1) (prog := X.prog) (w := X.w) (show X.A.in1.handled = none from I.ok.hd hc) k n a (Nat.ne_of_lt ha) us.toArray) (drawsK (A := X.A.in1) (prog := X.prog) (w := X.w) (show X.A.in1.handled = none from I.ok.hd hc) m (n + 1) b (Ne.symm (nl hb 1)) vs.toArray) z1 z2 z3 ⟨z4, pu⟩ ⟨z5, pv⟩ (i := i) ?_ ?_ ?_ fun h' tk yk => ?_
    · simp; omega
    · simp; omega
    · simp; omega
    · exact ⟨rfl, I.turnedL (t' := tk) (ch := five n) (fun c o hm e => yk c o (fun q => hm (by rw [q]; simp)) (fun q => hm (by rw [q]; simp)) (fun q => hm (by rw [q]; simp)) (fun q => hm (by rw [q]; simp)) e) hf⟩
  self := fun A i s Q E t h => wpAny_pyIter_zip t.1 h
def iZipX (K : PySem.W.Frag) (ta : TA) : TI := fun σ H R => ta σ H fun vs H1 => ∃ k m a b xs ys, vs = [.ref a, .ref b] ∧ sqK k K H1 a xs ∧ sqK m K H1 b ys ∧ R (ItzX K k m a b) H1
theorem pi_zipX {X : Cx} {e e2 : Expr} {ta : TA} {p pos tpos : Pos} {elts : List Expr} {kk : Nat} (hg : Gl X "zip") (hm : X.mg "zip" = none) (ha : PA X [e, e2] ta)
    (hs : starEach [e, e2] X.env = (false, eval e X.env) :: starEach [e2] X.env := by rfl) (hpl : (backTo pos (starEach [e2] X.env)).any (·.1) = false := by rfl) :
    PI X (.Tuple elts kk tpos) (.Call (.Name "zip" p) [e, e2] [] pos) (iZipX X.K ta) := by
  refine ⟨fun pins s σ H R I h => ?_⟩
  refine Call_ (ld_blt I hg hm PyProof.Rows.boot_zip (PyProof.Rows.callWith_type1 (thn (ha.run pos pins s σ H _ I h) fun us s1 ⟨vs, H1, I1, r1, k, m, a, b, xs, ys, ev, qa, qb, q⟩ => ?_) hs hpl))
  subst ev
  obtain ⟨u1, u2, rfl, r2, r3⟩ : ∃ u1 u2, us = [u1, u2] ∧ L2.RelV (.ref a) u1 ∧ L2.RelV (.ref b) u2 := by
    cases r1 with
    | cons r rr => cases rr with
      | cons r' rr => cases rr; exact ⟨_, _, rfl, r, r'⟩
  cases r2
  cases r3
  obtain ⟨us, ru, pu⟩ := sqK_get I1 qa
  obtain ⟨vs, rv, pv⟩ := sqK_get I1 qb
  refine zip_begins2 (beginsK k a us.toArray) (beginsK m b vs.toArray) pu pv fun h' z1 z2 z3 z4 z5 zs kept => wpAny_pyIter_zip z1 ?_
  refine ⟨s1.heap.objs.size + 4, five s1.heap.objs.size, _, _, H1, rfl, I1.kept (t' := s1.toks) kept, turn_zipX k m (isK_lt pu) (isK_lt pv), ⟨z1, z2, ⟨_, _, z3⟩, itK_new z4, itK_new z5⟩, fun c hc => ?_, q⟩
  have le : s1.heap.objs.size ≤ c := by
    rcases five_mem hc with q | q | q | q | q <;> subst q
    · exact Nat.le_add_right _ _
    · exact Nat.le_add_right _ _
    · exact Nat.le_add_right _ _
    · exact Nat.le_refl _
    · exact Nat.le_add_right _ _
  exact I1.fpOk le (I1.hok.fresh le)
/-- which kind a cell is of -/
def SqK (k : Bool) (O : Ob) (c : Cl) (es : List Cl) : Prop := cond k (ElsT c es) (Els O c es)
theorem SqK.get {K : PySem.W.Frag} {k : Bool} {O : Ob} {H : Hp} {c : Cl} {es : List Cl} {v : V} (q : SqK k O c es) (o : OkO K O H) (r : ClH K (fre O) H v c) : ∃ a xs, v = .ref a ∧ sqK k K H a xs ∧ ClsH K (fre O) H xs es := by
  cases k with
  | true => exact (show ElsT c es from q).get r
  | false =>
    obtain ⟨a, xs, e, h, z⟩ := (show Els O c es from q).get o r
    exact ⟨a, xs, e, SqL.of h, z⟩
theorem sqE_k {O : Ob} {c : Cl} {es : List Cl} (h : SqE O c es) : ∃ k, SqK k O c es := h.elim (fun z => ⟨false, z⟩) fun z => ⟨true, z⟩
theorem els_not {O : Ob} {c : Cl} {es fs : List Cl} (h : Els O c es) (g : ElsT c fs) : False := by cases h <;> cases g
theorem sqK_same {k : Bool} {O O2 : Ob} {c : Cl} {es fs : List Cl} (h : SqK k O c es) (g : SqE O2 c fs) : SqK k O2 c fs := by
  cases k with
  | true => exact g.elim (fun z => (els_not z h).elim) fun z => z
  | false => exact g.elim (fun z => z) fun z => (els_not h z).elim
variable {K : PySem.W.Frag} {W : WX}
theorem itok_zipX {O : Ob} {H : Hp} {k m : Bool} {a b : Addr} {c d : Cl} {es fs : List Cl} (r : ClH K (fre O) H (.ref a) c) (r' : ClH K (fre O) H (.ref b) d) (s1 : SqK k O c es) (s2 : SqK m O d fs) :
    ItOk K O H (ItzX K k m a b) (zipC es fs) (fun O2 => SqE O2 c es ∧ SqE O2 d fs) := by
  have two : ∀ O' H', Fr O H O' H' → OkO K O' H' → SqE O' c es ∧ SqE O' d fs → ∃ xs ys, sqK k K H' a xs ∧ sqK m K H' b ys ∧ ClsH K (fre O') H' xs es ∧ ClsH K (fre O') H' ys fs := fun O' H' f o st => by
    obtain ⟨p, xs, ep, h1, q1⟩ := (sqK_same s1 st.1).get o (r.fr f)
    obtain ⟨q, ys, eq, h2, q2⟩ := (sqK_same s2 st.2).get o (r'.fr f)
    cases ep; cases eq
    exact ⟨xs, ys, h1, h2, q1, q2⟩
  constructor
  · intro O' H' j e f o st hj
    obtain ⟨xs, ys, h1, h2, q1, q2⟩ := two O' H' f o st
    obtain ⟨x, y, e1, e2, _⟩ := zipC_get hj
    obtain ⟨u, hu, _⟩ := q1.get e1
    obtain ⟨w, hw, _⟩ := q2.get e2
    exact ⟨xs, ys, u, w, h1, h2, hu, hw⟩
  · rintro O' H' H2 j e v f o st hj ⟨t, u', w', rfl, ht, rfl, k1, k2⟩
    obtain ⟨xs, ys, h1, h2, q1, q2⟩ := two O' H' f o st
    obtain ⟨x, y, e1, e2, rfl⟩ := zipC_get hj
    obtain ⟨u, hu, ru⟩ := q1.get e1
    obtain ⟨w, hw, r2⟩ := q2.get e2
    cases Option.some.inj ((k1 xs h1).symm.trans hu)
    cases Option.some.inj ((k2 ys h2).symm.trans hw)
    obtain ⟨o2, f2, n⟩ := o.new (u := .tup [u', w']) ht
    exact ⟨o2, f2, cl_tup n upd_same (.cons (ru.fr f2) (.cons (r2.fr f2) .nil))⟩
  · intro O' H' f o st
    obtain ⟨xs, ys, h1, h2, q1, q2⟩ := two O' H' f o st
    refine ⟨xs, ys, h1, h2, ?_⟩
    rw [zipC_len, q1.len, q2.len]
    omega
def aItX (a : AA) : AIt := fun O ρ XX Kc => a O ρ XX fun O1 cs => ∃ c d es fs, cs = [c, d] ∧ SqE O1 c es ∧ SqE O1 d fs ∧ Kc O1 (zipC es fs) fun O2 => SqE O2 c es ∧ SqE O2 d fs
theorem sai_zipX {t : TA} {a : AA} (ha : SaA K W t a) : SaI K W (iZipX K t) (aItX a) := fun O ρ σ H R Kc XX S k q x =>
  ha O ρ σ H _ _ XX S k (fun O1 cs vs H1 f1 o1 r1 ⟨c, d, es, fs, e, h1, h2, h⟩ => by
    subst e
    obtain ⟨v, w, rfl, rv, r2⟩ := cls2 r1
    obtain ⟨k1, s1⟩ := sqE_k h1
    obtain ⟨k2, s2⟩ := sqE_k h2
    obtain ⟨p, xs, rfl, hp, _⟩ := s1.get o1 rv
    obtain ⟨p', ys, rfl, hq, _⟩ := s2.get o1 r2
    exact ⟨k1, k2, p, p', xs, ys, rfl, hp, hq, q O1 H1 _ _ _ f1 o1 (itok_zipX rv r2 s1 s2) h⟩) x
theorem di_zipX {X : Cx} {W : WX} {e e2 : Expr} {aa : AA} {p pos tpos : Pos} {elts : List Expr} {kk : Nat} (hg : Gl X "zip") (hm : X.mg "zip" = none) (ha : DA X W [e, e2] aa)
    (hs : starEach [e, e2] X.env = (false, eval e X.env) :: starEach [e2] X.env := by rfl) (hpl : (backTo pos (starEach [e2] X.env)).any (·.1) = false := by rfl) :
    DI X W (.Tuple elts kk tpos) (.Call (.Name "zip" p) [e, e2] [] pos) (aItX aa) := by
  obtain ⟨t, pt, st⟩ := ha.ex
  exact ⟨_, pi_zipX hg hm pt hs hpl, sai_zipX st⟩
/-! ## n & 1; sep.join(texts) -/
def aOdd1 : AR2 := fun O c c' Kc => ∃ n : Nat, c = .dat (.int n) ∧ c' = .dat (.int 1) ∧ Kc O (.dat (.int ((n % 2 : Nat) : Int)))
theorem sr_odd1 {K : PySem.W.Frag} : SR2 K (fun x y H Q => ∃ n : Nat, x = .int (n : Int) ∧ y = .int 1 ∧ Q (.int ((n % 2 : Nat) : Int)) H) aOdd1 := fun O H Q Kc c c' v v' o r r' ⟨n, e, e', k⟩ q => by
  subst e e'
  rw [dq_int r, dq_int r']
  exact ⟨n, rfl, rfl, q O _ _ H (Fr.refl _ _) o (.dat (.int _)) k⟩
def strsC (ys : List Str) : List Cl := (ys.map PyData.str).map Cl.dat
theorem strs_cl {ok : Addr → Prop} {H : Hp} : ∀ {ys : List Str} {xs : List V}, ClsH K ok H xs (strsC ys) → xs = ys.map V.str
  | [], _, .nil => rfl
  | y :: ys, _, .cons h r => by rw [dq_str h, strs_cl r]; rfl
def aJoin (a b : AE) : AE := fun O ρ XX Kc => a O ρ XX fun O1 c => ∃ z : Str, c = .dat (.str z) ∧ b O1 ρ XX fun O2 d => ∃ ys : List Str, SqE O2 d (strsC ys) ∧ (ys.map (·.length)).sum + ys.length * z.length ≤ 16777216 ∧ Kc O2 (.dat (.str (Txt.join z ys)))
theorem de_join {X : Cx} {W : WX} {o e : Expr} {a b : AE} {apos pos : Pos} (ho : DE X W o a) (he : DE X W e b) (hs : starEach [e] X.env = [(false, eval e X.env)] := by rfl) (hbase : attributeBase o "join" X.env (eval o X.env) = eval o X.env := by rfl) (hline : (apos.endLine == pos.line) = true := by rfl) :
    DE X W (.Call (.Attribute o "join" apos) [e] [] pos) (aJoin a b) := by
  obtain ⟨t, p, s⟩ := ho.ex
  obtain ⟨u, p2, s2⟩ := he.ex
  refine ⟨_, pe_join p p2 hs hbase hline, fun O ρ σ H Q Kc XX S k q x => s O ρ σ H _ _ XX S k (fun O1 c v H1 f1 o1 r1 ⟨z, e1, k1⟩ => ?_) x⟩
  subst e1
  rw [dq_str r1]
  refine ⟨⟨z, rfl⟩, s2 O1 ρ σ H1 _ _ XX (S.go f1 o1) k1 (fun O2 d w H2 f2 o2 r2 ⟨ys, hq, hz, k2⟩ => ?_) (x.go f1)⟩
  obtain ⟨kd, hk⟩ := sqE_k hq
  obtain ⟨p', xs, rfl, hx, rs⟩ := hk.get o2 r2
  rw [strs_cl rs] at hx
  refine ⟨z, p', ys, rfl, rfl, ?_, hz, q O2 _ _ _ (f1.trans f2) o2 (.dat (.str _)) k2⟩
  cases kd with
  | true => exact .inr hx
  | false => exact .inl hx
end Ab
namespace Ab
open PySem PySem.Spec PyProof.Rows L2 Vg
/-! ## readings in a plain form: rows by which simp goes through straight code -/
section
variable {O : Ob} {ρ : Rho} {XX : XC} {Kc : KC}
theorem w_eqI {i j : Int} : aEqD O (.dat (.int i)) (.dat (.int j)) Kc ↔ Kc O (.dat (.bool (decide (i = j)))) := by
  constructor
  · rintro ⟨d, e, h1, h2, _, _, _, _, k⟩
    cases h1; cases h2
    rwa [eqv_int] at k
  · intro k
    exact ⟨_, _, .dat _, .dat _, rfl, rfl, rfl, rfl, by rwa [eqv_int]⟩
theorem w_neI {i j : Int} : aNeD O (.dat (.int i)) (.dat (.int j)) Kc ↔ Kc O (.dat (.bool (!decide (i = j)))) := by
  constructor
  · rintro ⟨d, e, h1, h2, _, _, _, _, k⟩
    cases h1; cases h2
    rwa [eqv_int] at k
  · intro k
    exact ⟨_, _, .dat _, .dat _, rfl, rfl, rfl, rfl, by rwa [eqv_int]⟩
theorem w_tup {cs : List Cl} {ds : List PyData} (h : allD cs = some ds) : tupC cs = .dat (.tuple ds) := by unfold tupC; rw [h]
theorem w_ixT {ds : List PyData} {i : Int} : aIxT O (.dat (.tuple ds)) (.dat (.int i)) Kc ↔ ∃ e, atI (ds.map Cl.dat) i = some e ∧ Kc O e := by
  constructor
  · rintro ⟨cs, j, e, h1, h2, h3, k⟩
    cases h1; cases h2
    exact ⟨e, h3, k⟩
  · rintro ⟨e, h, k⟩
    exact ⟨_, _, e, rfl, .dat ds, h, k⟩
theorem w_elsT {ds : List PyData} {P : List Cl → Prop} : (∃ cs, ElsT (.dat (.tuple ds)) cs ∧ P cs) ↔ P (ds.map Cl.dat) := by
  constructor
  · rintro ⟨cs, h, k⟩
    cases h
    exact k
  · intro k
    exact ⟨_, .dat ds, k⟩
theorem w_atN {α : Type} (xs : List α) (n : Nat) : atI xs (n : Int) = xs[n]? := by
  unfold atI ixN
  rw [if_pos (by omega)]
  by_cases h : (n : Int) < xs.length
  · rw [if_pos h]; rfl
  · rw [if_neg h, List.getElem?_eq_none (by omega)]; rfl
theorem w_at0 {α : Type} (xs : List α) : atI xs 0 = xs[0]? := w_atN xs 0
theorem w_at1 {α : Type} (xs : List α) : atI xs 1 = xs[1]? := w_atN xs 1
theorem w_at2 {α : Type} (xs : List α) : atI xs 2 = xs[2]? := w_atN xs 2
theorem w_at3 {α : Type} (xs : List α) : atI xs 3 = xs[3]? := w_atN xs 3
theorem w_ifT {p q : Prop} : (if true = true then p else q) = p := if_pos rfl
theorem rho_is {s : AS} {A : AEn} {ρ ρ' : Rho} (e : ρ = ρ') (h : s A XX O ρ') : s A XX O ρ := e ▸ h
theorem w_len {c : Cl} {es : List Cl} (h : SqE O c es) (k : Kc O (.dat (.int es.length))) : bLen O [c] Kc := ⟨c, es.length, rfl, .inl ⟨es, h, rfl⟩, k⟩
theorem w_ix {c e : Cl} {es : List Cl} {i : Int} (h : SqE O c es) (hat : atI es i = some e) (k : Kc O e) : aIxL O c (.dat (.int i)) Kc ∨ aIxT O c (.dat (.int i)) Kc :=
  h.imp (fun z => ⟨es, i, e, rfl, z, hat, k⟩) fun z => ⟨es, i, e, rfl, z, hat, k⟩
theorem w_all {it : AIt} {es : List Cl} {i : Nat} {te : AE} {g : Cl → Bool} (hit : ItS it O ρ XX es) (hz : es.length < 1000000)
    (hte : ∀ (D : Addr) (w : Ow) (e : Cl) (K : KC), e ∈ es → K ((D, w) :: O) (.dat (.bool (g e))) → te ((D, w) :: O) ((wipeR ρ [i]).set i (some e)) X0 K) (k : Kc O (.dat (.bool (es.all g)))) :
    aLc false it i (fun O _ _ Kc => Kc O true) te O ρ XX fun O1 c => bAll O1 [c] Kc := all_gen hit hz hte k
theorem RdA.sq {c : Cl} {es : List Cl} (h : RdA O c (some es)) : SqE O c es := h.1.imp (fun z => z.1) fun z => z.1
theorem iCl_len (is : List Int) : (iCl is).length = is.length := by simp [iCl]
end
/-- a loop over a list or a tuple: its state goes on by f -/
theorem loopO {O : Ob} {ρ : Rho} {XX : XC} {w : AS} {A : AEn} {α τ : Type} {xs : List α} {ec : α → Cl} {s i : Nat} {c : Cl} (hs : ρ[s]? = some (some c)) (Og : τ → Ob) (hc : ∀ t, SqE (Og t) c (xs.map ec)) (R : τ → Option Cl → Rho) (f : τ → α → τ) (s0 : τ) (v0 : Option Cl) (o0 : O = Og s0) (e0 : ρ = R s0 v0)
    (step : ∀ j x u K, xs[j]? = some x → (∀ u', K (Og (f ((xs.take j).foldl f s0) x)) (R (f ((xs.take j).foldl f s0) x) u')) → w { nx := K, rt := A.rt, ct := K, bk := A.nx } XX (Og ((xs.take j).foldl f s0)) ((R ((xs.take j).foldl f s0) u).set i (some (ec x))))
    (done : ∀ u, A.nx (Og (xs.foldl f s0)) (R (xs.foldl f s0) u)) : aFor (aIi (aItL (aVar s)) (aItT (aVar s))) (aName i) w A XX O ρ := by
  have go : ∀ St : Ob → Prop, (∀ t, St (Og t)) → aTurns (xs.map ec) St (aName i) w A XX O ρ := fun St hst => by
    refine ⟨fun j O2 ρ2 => O2 = Og ((xs.take j).foldl f s0) ∧ ∃ u, ρ2 = R ((xs.take j).foldl f s0) u, ⟨o0, v0, e0⟩, ?_, ?_⟩
    · rintro j O2 ρ2 e hj ⟨rfl, u, rfl⟩
      rw [List.getElem?_map] at hj
      obtain ⟨x, hx, rfl⟩ := Option.map_eq_some_iff.mp hj
      refine ⟨hst _, step j x u _ hx fun u' => ⟨?_, u', ?_⟩⟩
      · rw [List.take_add_one, hx, Option.toList_some, List.foldl_append]; rfl
      · rw [List.take_add_one, hx, Option.toList_some, List.foldl_append]; rfl
    · rintro O2 ρ2 ⟨rfl, u, rfl⟩
      refine ⟨hst _, ?_⟩
      rw [List.take_of_length_le (by simp)]
      exact done u
  subst o0
  rcases hc s0 with h | h
  · exact .inl ⟨c, hs, _, h, go _ fun t => (hc t).elim (fun z => z) fun z => (els_not h z).elim⟩
  · exact .inr ⟨c, hs, _, h, go _ fun _ => trivial⟩
/-- such a loop that makes no objects -/
theorem loop_fold {O : Ob} {ρ : Rho} {XX : XC} {w : AS} {A : AEn} {α τ : Type} {xs : List α} {ec : α → Cl} {s i : Nat} {c : Cl} (hs : ρ[s]? = some (some c)) (hc : SqE O c (xs.map ec)) (R : τ → Option Cl → Rho) (f : τ → α → τ) (s0 : τ) (v0 : Option Cl) (e0 : ρ = R s0 v0)
    (step : ∀ j x u K, xs[j]? = some x → (∀ u', K O (R (f ((xs.take j).foldl f s0) x) u')) → w { nx := K, rt := A.rt, ct := K, bk := A.nx } XX O ((R ((xs.take j).foldl f s0) u).set i (some (ec x))))
    (done : ∀ u, A.nx O (R (xs.foldl f s0) u)) : aFor (aIi (aItL (aVar s)) (aItT (aVar s))) (aName i) w A XX O ρ :=
  loopO hs (fun _ => O) (fun _ => hc) R f s0 v0 rfl e0 step done
theorem all_iG {p : Int → Bool} : ∀ is : List Int, (iCl is).all (intG p) = is.all p
  | [] => rfl
  | t :: is => by
    show (p t && (iCl is).all (intG p)) = (p t && is.all p)
    rw [all_iG is]
/-- [f(x) for x in xs], where f makes no objects -/
theorem lc_map {O : Ob} {ρ : Rho} {XX : XC} {Kc : KC} {es : List Cl} {i : Nat} {it : AIt} {te : AE} {g : Cl → Cl} (hit : ItS it O ρ XX es) (hz : es.length < 1000000)
    (hte : ∀ (D : Addr) (w : Ow) (e : Cl) (K : KC), e ∈ es → K ((D, w) :: O) (g e) → te ((D, w) :: O) ((wipeR ρ [i]).set i (some e)) X0 K) (k : Kc O (lisC (es.map g))) :
    aLc false it i (fun O _ _ Kc => Kc O true) te O ρ XX Kc := by
  refine hit _ fun St hSt D => ⟨fun j O2 => O2 = (D, .lst ((es.map g).take j)) :: O, rfl, ?_, ?_⟩
  · rintro j O2 e hj rfl
    refine ⟨hSt _, ?_⟩
    show (if true = true then _ else _)
    rw [if_pos rfl]
    refine hte _ _ e _ (List.mem_of_getElem? hj) ⟨_, _, .here, ?_, ?_⟩
    · rw [List.length_take, List.length_map]; omega
    · show (D, Ow.lst _) :: O = (D, Ow.lst _) :: O
      rw [List.take_add_one, List.getElem?_map, hj]
      rfl
  · rintro O2 rfl
    refine ⟨hSt _, _, O, rfl, ?_⟩
    rw [if_neg Bool.false_ne_true, List.take_of_length_le (by simp)]
    exact k
/-! ## name += number -/
def aAugI (s : Nat) (a : AE) : AS := fun A XX O ρ => ∃ x : Int, ρ[s]? = some (some (.dat (.int x))) ∧ a O ρ XX fun O1 c => ∃ y : Int, c = .dat (.int y) ∧ A.nx O1 (ρ.set s (some (.dat (.int (x + y)))))
theorem ds_augI {X : Cx} {W : WX} {i : Nat} {x : Str} {e : Expr} {a : AE} {pos pos' : Pos} (hN : X.N.Nodup) (hi : X.N[i]? = some x) (hx : Loc X.env.scope x) (h : DE X W e a) (hf : X.fn x = true ∨ X.env.scope.names.lookup x = some .local := by first | exact .inl rfl | exact .inr rfl | assumption) :
    DS X W (.AugAssign (.Name x pos') .Add e pos) (aAugI i a) := by
  obtain ⟨t, p, s⟩ := h.ex
  refine ⟨_, ps_aug hN hi hx p ip_add hf, fun O ρ σ H D A XX S ⟨z, ez, k⟩ e x => ?_⟩
  obtain ⟨v, hv, r⟩ := S.at_ i _ ez
  rw [dq_int r] at hv
  refine ⟨_, hv, s O ρ σ H _ _ XX S k (fun O1 c v1 H1 f1 o1 r1 ⟨y, ey, k1⟩ => ?_) x⟩
  subst ey
  rw [dq_int r1]
  exact ⟨z, y, rfl, rfl, e.nx O1 _ _ H1 f1 ((S.go f1 o1).set (.dat (.int _))) k1⟩
/-- a loop over a zip that makes no objects -/
theorem zip_loop {O : Ob} {ρ : Rho} {XX : XC} {w : AS} {A : AEn} {a b : AE} {c d : Cl} {es fs : List Cl} {i k : Nat} (ha : Pu a O ρ XX c) (hb : Pu b O ρ XX d) (hc : SqE O c es) (hd : SqE O d fs) (Wi : Nat → Rho → Prop) (h0 : Wi 0 ρ)
    (step : ∀ j ρ2 x y, es[j]? = some x → fs[j]? = some y → Wi j ρ2 → w { nx := fun O' ρ' => O' = O ∧ Wi (j + 1) ρ', rt := A.rt, ct := fun O' ρ' => O' = O ∧ Wi (j + 1) ρ', bk := A.nx } XX O ((ρ2.set i (some x)).set k (some y)))
    (done : ∀ ρ2, Wi (min es.length fs.length) ρ2 → A.nx O ρ2) : aFor (aItX (aCons a (aCons b aNil))) (aGTup 2 (aGCons (aName i) (aGCons (aName k) aGNil))) w A XX O ρ := by
  refine ha _ (hb _ ⟨c, d, es, fs, rfl, hc, hd, fun j O2 ρ2 => O2 = O ∧ Wi j ρ2, ⟨rfl, h0⟩, ?_, ?_⟩)
  · rintro j O2 ρ2 e hj ⟨rfl, hw⟩
    obtain ⟨x, y, hx, hy, rfl⟩ := zipC_get hj
    exact ⟨⟨hc, hd⟩, [x, y], elsTC _, rfl, x, [y], rfl, y, [], rfl, rfl, step j ρ2 x y hx hy hw⟩
  · rintro O2 ρ2 ⟨rfl, hw⟩
    rw [zipC_len] at hw
    exact ⟨⟨hc, hd⟩, done ρ2 hw⟩
theorem w_var {O : Ob} {ρ : Rho} {XX : XC} {s : Nat} {c : Cl} (h : ρ[s]? = some (some c)) : Pu (aVar s) O ρ XX c := pu_var h
theorem iCl_at {is : List Int} {j : Nat} {c : Cl} (h : (iCl is)[j]? = some c) : ∃ t, is[j]? = some t ∧ c = .dat (.int t) := by
  obtain ⟨t, ht, e⟩ := iCl_get h
  exact ⟨t, ht, e⟩
/-! ## truths of values, plainly -/
def truP (O : Ob) (c : Cl) (K : Bool → Prop) : Prop := ∃ k, ((c = .dat .none ∧ k = false) ∨ (∃ b, c = .dat (.bool b) ∧ k = b) ∨ (∃ i : Int, c = .dat (.int i) ∧ k = (i != 0)) ∨ (∃ z : Str, c = .dat (.str z) ∧ z.length ≤ sizeLine ∧ k = ((z.length : Int) != 0)) ∨ (∃ cs, (Els O c cs ∨ ElsT c cs) ∧ k = !cs.isEmpty)) ∧ K k
theorem w_tru {O : Ob} {ρ : Rho} {XX : XC} {a : AE} {Kc : Ob → Bool → Prop} : aTru a O ρ XX Kc = a O ρ XX fun O1 c => truP O1 c (Kc O1) := rfl
theorem w_truI {O : Ob} {i : Int} {K : Bool → Prop} : truP O (.dat (.int i)) K ↔ K (i != 0) := by
  constructor
  · rintro ⟨k, h, hk⟩
    rcases h with ⟨e, _⟩ | ⟨b, e, _⟩ | ⟨j, e, rfl⟩ | ⟨z, e, _⟩ | ⟨cs, h | h, _⟩
    · cases e
    · cases e
    · cases e; exact hk
    · cases e
    · cases h
    · cases h
  · intro h
    exact ⟨_, .inr (.inr (.inl ⟨i, rfl, rfl⟩)), h⟩
theorem w_truB {O : Ob} {b : Bool} {K : Bool → Prop} : truP O (.dat (.bool b)) K ↔ K b := by
  constructor
  · rintro ⟨k, h, hk⟩
    rcases h with ⟨e, _⟩ | ⟨b, e, rfl⟩ | ⟨j, e, _⟩ | ⟨z, e, _⟩ | ⟨cs, h | h, _⟩
    · cases e
    · cases e; exact hk
    · cases e
    · cases e
    · cases h
    · cases h
  · intro h
    exact ⟨_, .inr (.inl ⟨b, rfl, rfl⟩), h⟩
theorem w_truN {O : Ob} {K : Bool → Prop} : truP O (.dat .none) K ↔ K false := by
  constructor
  · rintro ⟨k, h, hk⟩
    rcases h with ⟨e, rfl⟩ | ⟨b, e, _⟩ | ⟨j, e, _⟩ | ⟨z, e, _⟩ | ⟨cs, h | h, _⟩
    · exact hk
    · cases e
    · cases e
    · cases e
    · cases h
    · cases h
  · intro h
    exact ⟨_, .inl ⟨rfl, rfl⟩, h⟩
theorem w_truS {O : Ob} {z : Str} {K : Bool → Prop} : truP O (.dat (.str z)) K ↔ z.length ≤ sizeLine ∧ K ((z.length : Int) != 0) := by
  constructor
  · rintro ⟨k, h, hk⟩
    rcases h with ⟨e, _⟩ | ⟨b, e, _⟩ | ⟨j, e, _⟩ | ⟨z, e, hz, rfl⟩ | ⟨cs, h | h, _⟩
    · cases e
    · cases e
    · cases e
    · cases e; exact ⟨hz, hk⟩
    · cases h
    · cases h
  · rintro ⟨hz, h⟩
    exact ⟨_, .inr (.inr (.inr (.inl ⟨z, rfl, hz, rfl⟩))), h⟩
theorem w_odd1 {O : Ob} {n : Nat} {Kc : KC} : aOdd1 O (.dat (.int (n : Int))) (.dat (.int 1)) Kc ↔ Kc O (.dat (.int ((n % 2 : Nat) : Int))) := by
  constructor
  · rintro ⟨m, e, _, k⟩
    have e : (n : Int) = m := PyData.int.inj (Cl.dat.inj e)
    rw [Int.ofNat_inj] at e
    subst e
    exact k
  · intro k
    exact ⟨n, rfl, rfl, k⟩
/-! ## draws -/
theorem take_at {O : Ob} {p : Addr} {n : Nat} {f : Ow → Ob} {m : Int} {Xf : Ob → Str → Cl → Prop} {Kc : KC} (lo : Lo O p (.pur n) f) (k : ∀ r, 0 ≤ r → r < m → Kc (f (.pur (n - 1))) (.dat (.int r))) (h0 : 0 < m := by decide) (h1 : m.natAbs < 2 ^ 200 := by decide) (hn : 1 ≤ n := by omega) : afTake O [.at p, .dat (.int m)] Xf Kc :=
  ⟨p, m, n, f, rfl, h0, h1, lo, hn, k⟩
/-- one item of a list of cells, whichever -/
theorem at_any {xs : List Cl} {r : Int} {K : Cl → Prop} (h0 : 0 ≤ r) (h1 : r < xs.length) (k : ∀ c ∈ xs, K c) : ∃ e, atI xs r = some e ∧ K e := by
  obtain ⟨j, rfl⟩ := Int.eq_ofNat_of_zero_le h0
  refine ⟨xs[j]'(by omega), ?_, k _ (List.getElem_mem ..)⟩
  show atI xs ((j : Nat) : Int) = _
  rw [w_atN, List.getElem?_eq_getElem]
theorem w_ixL {O : Ob} {ds : List PyData} {i : Int} {Kc : KC} : aIxL O (.dat (.list ds)) (.dat (.int i)) Kc ↔ ∃ e, atI (ds.map Cl.dat) i = some e ∧ Kc O e := by
  constructor
  · rintro ⟨cs, j, e, h1, h2, h3, k⟩
    cases h1; cases h2
    exact ⟨e, h3, k⟩
  · rintro ⟨e, h, k⟩
    exact ⟨_, _, e, rfl, .dat ds, h, k⟩
theorem map_dat : ∀ {ds es : List PyData}, ds.map Cl.dat = es.map Cl.dat → ds = es
  | [], [], _ => rfl
  | d :: ds, e :: es, h => by
    obtain ⟨h1, h2⟩ := List.cons.inj h
    rw [Cl.dat.inj h1, map_dat h2]
theorem w_cat {O : Ob} {ds es : List PyData} {Kc : KC} : aCat O (.dat (.list ds)) (.dat (.list es)) Kc ↔ ds.length + es.length ≤ 1000000 ∧ Kc O (.dat (.list (ds ++ es))) := by
  constructor
  · rintro ⟨ds', es', h1, h2, h, k⟩
    have e1 : ds = ds' := by generalize hq : ds'.map Cl.dat = q at h1; cases h1; exact map_dat hq.symm
    have e2 : es = es' := by generalize hq : es'.map Cl.dat = q at h2; cases h2; exact map_dat hq.symm
    subst e1 e2
    exact ⟨h, k⟩
  · rintro ⟨h, k⟩
    exact ⟨ds, es, .dat ds, .dat es, h, k⟩
theorem w_slL {O : Ob} {ds : List PyData} {lo hi : Option Int} {Kc : KC} : aSlL O (.dat (.list ds)) lo hi Kc ↔ Kc O (.dat (.list (cutD ds lo hi))) := by
  constructor
  · rintro ⟨ds', h1, k⟩
    have e1 : ds = ds' := by generalize hq : ds'.map Cl.dat = q at h1; cases h1; exact map_dat hq.symm
    subst e1
    exact k
  · intro k
    exact ⟨ds, .dat ds, k⟩
theorem w_slS {O : Ob} {z : Str} {lo hi : Option Int} {Kc : KC} : aSlS O (.dat (.str z)) lo hi Kc ↔ z.length ≤ sizeLine ∧ Kc O (.dat (.str (cutS z lo hi))) := by
  constructor
  · rintro ⟨z', h1, h, k⟩
    cases h1
    exact ⟨h, k⟩
  · rintro ⟨h, k⟩
    exact ⟨z, rfl, h, k⟩
/-- [f() for k in range(m)], where f draws -/
theorem lc_draws {O : Ob} {ρ : Rho} {XX : XC} {Kc : KC} {i : Nat} {a te : AE} {p : Addr} {n : Nat} {f : Ow → Ob} {m : Int} {Pr : PyData → Prop} (c : Nat) (lo : Lo O p (.pur n) f) (ha : Pu a O ρ XX (.dat (.int m))) (h0 : -1000000 ≤ m) (h1 : m ≤ 900000) (hn : c * m.toNat ≤ n)
    (hte : ∀ (j : Nat) (O' : Ob) (f' : Ow → Ob) (n' : Nat) (K : KC), (j : Int) < m → Lo O' p (.pur n') f' → c ≤ n' → (∀ d n'', Pr d → n' ≤ n'' + c → K (f' (.pur n'')) (.dat d)) → te O' ((wipeR ρ [i]).set i (some (.dat (.int (0 + (j : Nat)))))) X0 K)
    (k : ∀ ds n', (∀ d ∈ ds, Pr d) → ds.length = m.toNat → n ≤ n' + c * m.toNat → Kc (f (.pur n')) (.dat (.list ds))) : aLc false (aItR1 (aCons a aNil)) i (fun O _ _ Kc => Kc O true) te O ρ XX Kc := by
  refine it_r1 ha h0 (by omega) fun D => ?_
  refine ⟨fun j O2 => ∃ (ds : List PyData) (n' : Nat), O2 = (D, .lst (ds.map Cl.dat)) :: f (.pur n') ∧ ds.length = j ∧ (∀ d ∈ ds, Pr d) ∧ n ≤ n' + c * j, ⟨[], n, by rw [lo.eq]; rfl, rfl, (fun d h => nomatch h), by omega⟩, ?_, ?_⟩
  · rintro j O2 e hj ⟨ds, n', rfl, hl, hp, hn'⟩
    obtain ⟨hjm, rfl⟩ := nums_get hj
    refine ⟨trivial, ?_⟩
    show (if true = true then _ else _)
    rw [if_pos rfl]
    have hc : c * (j + 1) ≤ c * m.toNat := Nat.mul_le_mul_left _ hjm
    have hc2 : c * (j + 1) = c * j + c := Nat.mul_succ c j
    refine hte j _ _ n' _ (by omega) (.there lo.next) (by omega) fun d n'' hd hn'' => ⟨_, _, .here, by rw [List.length_map, hl]; omega, ds ++ [d], n'', by simp, by simp [hl], fun e he => ?_, by omega⟩
    rcases List.mem_append.mp he with h | h
    · exact hp e h
    · cases List.mem_singleton.mp h
      exact hd
  · rintro O2 ⟨ds, n', rfl, hl, hp, hn'⟩
    rw [nums_len] at hl hn'
    refine ⟨trivial, _, _, rfl, ?_⟩
    rw [if_neg Bool.false_ne_true, lisC_dats]
    exact k ds n' hp hl hn'
theorem ds_ints {P : Int → Prop} : ∀ {ds : List PyData}, (∀ d ∈ ds, ∃ t, d = .int t ∧ P t) → ∃ ts : List Int, ds = ts.map .int ∧ ∀ t ∈ ts, P t
  | [], _ => ⟨[], rfl, fun t h => nomatch h⟩
  | d :: ds, h => by
    obtain ⟨t, rfl, ht⟩ := h d (List.mem_cons_self ..)
    obtain ⟨ts, rfl, hts⟩ := ds_ints fun e he => h e (List.mem_cons_of_mem _ he)
    refine ⟨t :: ts, rfl, fun u hu => ?_⟩
    rcases List.mem_cons.mp hu with rfl | hu
    · exact ht
    · exact hts u hu
theorem cut_last {α : Type} (xs : List α) : cutD xs none (some (-1)) = xs.dropLast := by
  unfold cutD HT.sIx
  simp [List.dropLast_eq_take]
  omega
/-! ## displays -/
theorem els_list {O : Ob} {ds : List PyData} {es : List Cl} : Els O (.dat (.list ds)) es ↔ es = ds.map Cl.dat := ⟨fun h => by cases h; rfl, fun h => by subst h; exact .dat _⟩
theorem els_lis {O : Ob} {cs es : List Cl} : Els O (.lis cs) es ↔ es = cs := ⟨fun h => by cases h; rfl, fun h => by subst h; exact .lis _⟩
theorem els_tuple {O : Ob} {ds : List PyData} {es : List Cl} : Els O (.dat (.tuple ds)) es ↔ False := ⟨fun h => (nomatch h), False.elim⟩
theorem elsT_tuple {ds : List PyData} {es : List Cl} : ElsT (.dat (.tuple ds)) es ↔ es = ds.map Cl.dat := ⟨fun h => by cases h; rfl, fun h => by subst h; exact .dat _⟩
theorem elsT_list {ds : List PyData} {es : List Cl} : ElsT (.dat (.list ds)) es ↔ False := ⟨fun h => (nomatch h), False.elim⟩
theorem elsT_tup {cs es : List Cl} : ElsT (.tup cs) es ↔ es = cs := ⟨fun h => by cases h; rfl, fun h => by subst h; exact .tup _⟩
theorem elsT_at {a : Addr} {es : List Cl} : ElsT (.at a) es ↔ False := ⟨fun h => (nomatch h), False.elim⟩
theorem els_lisC {O : Ob} {cs es : List Cl} : Els O (lisC cs) es ↔ es = cs := by
  refine ⟨fun h => ?_, fun h => by subst h; exact elsC O _⟩
  unfold lisC at h
  cases e : allD cs with
  | none => rw [e] at h; cases h; rfl
  | some ds => rw [e] at h; rw [allD_eq e]; exact els_list.mp h
theorem elsT_tupC {cs es : List Cl} : ElsT (tupC cs) es ↔ es = cs := by
  refine ⟨fun h => ?_, fun h => by subst h; exact elsTC _⟩
  unfold tupC at h
  cases e : allD cs with
  | none => rw [e] at h; cases h; rfl
  | some ds => rw [e] at h; rw [allD_eq e]; exact elsT_tuple.mp h
theorem w_ixLC {O : Ob} {cs : List Cl} {i : Int} {Kc : KC} : aIxL O (lisC cs) (.dat (.int i)) Kc ↔ ∃ e, atI cs i = some e ∧ Kc O e := by
  constructor
  · rintro ⟨es, j, e, h1, h2, h3, k⟩
    cases h1
    cases els_lisC.mp h2
    exact ⟨e, h3, k⟩
  · rintro ⟨e, h, k⟩
    exact ⟨_, _, e, rfl, elsC O cs, h, k⟩
theorem w_ixTC {O : Ob} {cs : List Cl} {i : Int} {Kc : KC} : aIxT O (tupC cs) (.dat (.int i)) Kc ↔ ∃ e, atI cs i = some e ∧ Kc O e := by
  constructor
  · rintro ⟨es, j, e, h1, h2, h3, k⟩
    cases h1
    cases elsT_tupC.mp h2
    exact ⟨e, h3, k⟩
  · rintro ⟨e, h, k⟩
    exact ⟨_, _, e, rfl, elsTC cs, h, k⟩
theorem w_lenD {O : Ob} {ds : List PyData} {Kc : KC} : bLen O [.dat (.list ds)] Kc ↔ Kc O (.dat (.int ds.length)) := by
  constructor
  · rintro ⟨c, n, e, h, k⟩
    obtain rfl : Cl.dat (.list ds) = c := (List.cons.inj e).1
    rcases h with ⟨es, h | h, rfl⟩ | ⟨ns, h, _⟩
    · rw [els_list.mp h, List.length_map] at k; exact k
    · cases h
    · cases h
  · intro k
    exact ⟨_, _, rfl, .inl ⟨_, .inl (.dat ds), rfl⟩, by rwa [List.length_map]⟩
theorem w_lenT {O : Ob} {ds : List PyData} {Kc : KC} : bLen O [.dat (.tuple ds)] Kc ↔ Kc O (.dat (.int ds.length)) := by
  constructor
  · rintro ⟨c, n, e, h, k⟩
    obtain rfl : Cl.dat (.tuple ds) = c := (List.cons.inj e).1
    rcases h with ⟨es, h | h, rfl⟩ | ⟨ns, h, _⟩
    · cases h
    · rw [elsT_tuple.mp h, List.length_map] at k; exact k
    · cases h
  · intro k
    exact ⟨_, _, rfl, .inl ⟨_, .inr (.dat ds), rfl⟩, by rwa [List.length_map]⟩
theorem w_neNil {O : Ob} {cs : List Cl} {Kc : KC} : aNeNil O (lisC cs) (.dat (.list [])) Kc ↔ Kc O (.dat (.bool (!cs.isEmpty))) := by
  constructor
  · rintro ⟨es, h, _, k⟩
    rwa [els_lisC.mp h] at k
  · intro k
    exact ⟨cs, elsC O cs, rfl, k⟩
theorem w_eqNil {O : Ob} {cs : List Cl} {Kc : KC} : aEqNil O (lisC cs) (.dat (.list [])) Kc ↔ Kc O (.dat (.bool cs.isEmpty)) := by
  constructor
  · rintro ⟨es, h, _, k⟩
    rwa [els_lisC.mp h] at k
  · intro k
    exact ⟨cs, elsC O cs, rfl, k⟩
theorem w_elsTC {cs : List Cl} {P : List Cl → Prop} : (∃ es, ElsT (tupC cs) es ∧ P es) ↔ P cs := by
  constructor
  · rintro ⟨es, h, k⟩
    rwa [elsT_tupC.mp h] at k
  · intro k
    exact ⟨_, elsTC cs, k⟩
theorem w_l0 : lisC [] = .dat (.list []) := rfl
theorem w_t0 : tupC [] = .dat (.tuple []) := rfl
theorem w_l1 {a0 : PyData} : lisC [.dat a0] = .dat (.list [a0]) := rfl
theorem w_t1 {a0 : PyData} : tupC [.dat a0] = .dat (.tuple [a0]) := rfl
theorem w_l2 {a0 a1 : PyData} : lisC [.dat a0, .dat a1] = .dat (.list [a0, a1]) := rfl
theorem w_t2 {a0 a1 : PyData} : tupC [.dat a0, .dat a1] = .dat (.tuple [a0, a1]) := rfl
theorem w_l3 {a0 a1 a2 : PyData} : lisC [.dat a0, .dat a1, .dat a2] = .dat (.list [a0, a1, a2]) := rfl
theorem w_t3 {a0 a1 a2 : PyData} : tupC [.dat a0, .dat a1, .dat a2] = .dat (.tuple [a0, a1, a2]) := rfl
theorem w_l4 {a0 a1 a2 a3 : PyData} : lisC [.dat a0, .dat a1, .dat a2, .dat a3] = .dat (.list [a0, a1, a2, a3]) := rfl
theorem w_t4 {a0 a1 a2 a3 : PyData} : tupC [.dat a0, .dat a1, .dat a2, .dat a3] = .dat (.tuple [a0, a1, a2, a3]) := rfl
theorem w_l5 {a0 a1 a2 a3 a4 : PyData} : lisC [.dat a0, .dat a1, .dat a2, .dat a3, .dat a4] = .dat (.list [a0, a1, a2, a3, a4]) := rfl
theorem w_t5 {a0 a1 a2 a3 a4 : PyData} : tupC [.dat a0, .dat a1, .dat a2, .dat a3, .dat a4] = .dat (.tuple [a0, a1, a2, a3, a4]) := rfl
theorem w_l6 {a0 a1 a2 a3 a4 a5 : PyData} : lisC [.dat a0, .dat a1, .dat a2, .dat a3, .dat a4, .dat a5] = .dat (.list [a0, a1, a2, a3, a4, a5]) := rfl
theorem w_t6 {a0 a1 a2 a3 a4 a5 : PyData} : tupC [.dat a0, .dat a1, .dat a2, .dat a3, .dat a4, .dat a5] = .dat (.tuple [a0, a1, a2, a3, a4, a5]) := rfl
theorem w_l7 {a0 a1 a2 a3 a4 a5 a6 : PyData} : lisC [.dat a0, .dat a1, .dat a2, .dat a3, .dat a4, .dat a5, .dat a6] = .dat (.list [a0, a1, a2, a3, a4, a5, a6]) := rfl
theorem w_t7 {a0 a1 a2 a3 a4 a5 a6 : PyData} : tupC [.dat a0, .dat a1, .dat a2, .dat a3, .dat a4, .dat a5, .dat a6] = .dat (.tuple [a0, a1, a2, a3, a4, a5, a6]) := rfl
theorem w_l8 {a0 a1 a2 a3 a4 a5 a6 a7 : PyData} : lisC [.dat a0, .dat a1, .dat a2, .dat a3, .dat a4, .dat a5, .dat a6, .dat a7] = .dat (.list [a0, a1, a2, a3, a4, a5, a6, a7]) := rfl
theorem w_t8 {a0 a1 a2 a3 a4 a5 a6 a7 : PyData} : tupC [.dat a0, .dat a1, .dat a2, .dat a3, .dat a4, .dat a5, .dat a6, .dat a7] = .dat (.tuple [a0, a1, a2, a3, a4, a5, a6, a7]) := rfl
theorem w_l9 {a0 a1 a2 a3 a4 a5 a6 a7 a8 : PyData} : lisC [.dat a0, .dat a1, .dat a2, .dat a3, .dat a4, .dat a5, .dat a6, .dat a7, .dat a8] = .dat (.list [a0, a1, a2, a3, a4, a5, a6, a7, a8]) := rfl
theorem w_l10 {a0 a1 a2 a3 a4 a5 a6 a7 a8 a9 : PyData} : lisC [.dat a0, .dat a1, .dat a2, .dat a3, .dat a4, .dat a5, .dat a6, .dat a7, .dat a8, .dat a9] = .dat (.list [a0, a1, a2, a3, a4, a5, a6, a7, a8, a9]) := rfl
theorem w_l11 {a0 a1 a2 a3 a4 a5 a6 a7 a8 a9 a10 : PyData} : lisC [.dat a0, .dat a1, .dat a2, .dat a3, .dat a4, .dat a5, .dat a6, .dat a7, .dat a8, .dat a9, .dat a10] = .dat (.list [a0, a1, a2, a3, a4, a5, a6, a7, a8, a9, a10]) := rfl
theorem w_l12 {a0 a1 a2 a3 a4 a5 a6 a7 a8 a9 a10 a11 : PyData} : lisC [.dat a0, .dat a1, .dat a2, .dat a3, .dat a4, .dat a5, .dat a6, .dat a7, .dat a8, .dat a9, .dat a10, .dat a11] = .dat (.list [a0, a1, a2, a3, a4, a5, a6, a7, a8, a9, a10, a11]) := rfl
/-! ## clauses of a try -/
theorem w_hsT {K : PySem.W.Frag} {A : AEn} {y x : Str} {i : Nat} {s : Addr → Addr → AS} {r : List Hd} {O : Ob} {ρ : Rho} {c : Cl} (e : hasExm K y x true) : hsX K A (⟨x, i, s⟩ :: r) O ρ y c ↔ y = x ∧ ∀ a dd, s a dd (A.gone i) X0 O (ρ.set i (some (.exc a dd (fld y) c))) := by
  constructor
  · rintro ⟨b, h, k, _⟩
    exact k (Option.some.inj (h.symm.trans e))
  · intro k
    exact ⟨true, e, fun _ => k, fun z => Bool.noConfusion z⟩
theorem w_hsF {K : PySem.W.Frag} {A : AEn} {y x : Str} {i : Nat} {s : Addr → Addr → AS} {r : List Hd} {O : Ob} {ρ : Rho} {c : Cl} (e : hasExm K y x false) : hsX K A (⟨x, i, s⟩ :: r) O ρ y c ↔ hsX K A r O ρ y c := by
  constructor
  · rintro ⟨b, h, _, k⟩
    exact k (Option.some.inj (h.symm.trans e))
  · intro k
    exact ⟨false, e, fun z => Bool.noConfusion z, fun _ => k⟩
theorem w_isX {K : PySem.W.Frag} {x y f : Str} {b : Bool} {a dd : Addr} {O : Ob} {c : Cl} {Kc : KC} (h : PySem.W.kitOne K (.ref (clsA K x)) (.ref (clsA K y)) = some b) : bIsX K x a dd O [.exc a dd f c, .raw (.ref (clsA K y))] Kc ↔ Kc O (.dat (.bool b)) := by
  constructor
  · rintro ⟨f', c', y', b', e, h', k⟩
    have e2 : Cl.raw (.ref (clsA K y)) = Cl.raw (.ref (clsA K y')) := (List.cons.inj (List.cons.inj e).2).1
    rw [← V.ref.inj (Cl.raw.inj e2), h] at h'
    rwa [Option.some.inj h']
  · intro k
    exact ⟨f, c, y, b, rfl, h, k⟩
theorem cxOf_K {CX : CXT} {P : Program} {w : World} {K : PySem.W.Frag} {mg : Str → Option Value} {base : Heap} {N : List Str} {q : Str} {sc : Scope} {f : Addr} {cd : Value} {A : Around} {outer : List Env} {s : Shared} {H : Hp} {E : XK} : (cxOf CX P w K mg base N q sc f cd A outer s H E).K = K := rfl
/-- for k in range(n): its turns -/
def aTurnsN (n : Nat) (s : Nat) (b : AS) : AS := aTurns (nums 0 n) (fun _ => True) (aName s) b
theorem w_forR1 {O : Ob} {ρ : Rho} {XX : XC} {aa : AA} {s : Nat} {w : AS} {A : AEn} : aFor (aItR1 aa) (aName s) w A XX O ρ = aa O ρ XX fun O1 cs => ∃ j : Int, cs = [.dat (.int j)] ∧ -1000000 ≤ j ∧ j ≤ 1000000 ∧ aTurnsN j.toNat s w A XX O1 ρ := rfl
theorem turns_n {O : Ob} {ρ : Rho} {XX : XC} {s n : Nat} {w : AS} {A : AEn} (Wi : Nat → Ob → Rho → Prop) (w0 : Wi 0 O ρ)
    (st : ∀ k O2 ρ2, k < n → Wi k O2 ρ2 → w { nx := Wi (k + 1), rt := A.rt, ct := Wi (k + 1), bk := A.nx } XX O2 (ρ2.set s (some (.dat (.int (k : Nat)))))) (fin : ∀ O2 ρ2, Wi n O2 ρ2 → A.nx O2 ρ2) : aTurnsN n s w A XX O ρ := by
  refine ⟨Wi, w0, ?_, ?_⟩
  · intro k O2 ρ2 c hc hw
    obtain ⟨hk, rfl⟩ := nums_get hc
    refine ⟨trivial, ?_⟩
    have z := st k O2 ρ2 hk hw
    rw [Int.zero_add]
    exact z
  · intro O2 ρ2 hw
    rw [nums_len] at hw
    exact ⟨trivial, fin O2 ρ2 hw⟩
theorem w_slE {O : Ob} {c : Cl} {ds : List PyData} {lo hi : Option Int} {Kc : KC} (h : Els O c (ds.map .dat)) (k : Kc O (.dat (.list (cutD ds lo hi)))) : aSlL O c lo hi Kc := ⟨ds, h, k⟩
theorem w_catO {O : Ob} {ds es : List PyData} {Kc : KC} (h : ds.length + es.length ≤ 1000000) (k : ∀ p, Kc ((p, .lst ((ds ++ es).map Cl.dat)) :: O) (.at p)) : aCatO O (.dat (.list ds)) (.dat (.list es)) Kc :=
  ⟨_, _, .dat ds, .dat es, by simpa using h, fun p => by rw [← List.map_append]; exact k p⟩
theorem w_listO {O : Ob} {c : Cl} {es : List Cl} {Kc : KC} (h : SqE O c es) (k : ∀ p, Kc ((p, .lst es) :: O) (.at p)) : bList true O [c] Kc := ⟨c, es, rfl, h, by rw [if_pos rfl]; exact k⟩
theorem w_intB {O : Ob} {b : Bool} {Kc : KC} : bIntB O [.dat (.bool b)] Kc ↔ Kc O (.dat (.int (if b = true then 1 else 0))) := by
  unfold bIntB
  constructor
  · rintro (⟨i, e, _⟩ | ⟨b', e, k⟩)
    · cases e
    · cases e
      exact k
  · intro k
    exact .inr ⟨b, rfl, k⟩
/-- a law's loop over its cells -/
theorem law_cells {O : Ob} {ρ : Rho} {XX : XC} {ns : List Int} {e : Int → Int} {s : Nat} {w : AS} {A : AEn} {cap : Int} (he : ∀ x : Int, -1000000 ≤ e x ∧ e x ≤ cap) (hc : cap ≤ 1000) (Wi : Rho → Prop) (w0 : Wi ρ)
    (st : ∀ (k : Nat) O2 ρ2, (k : Int) < cap → Wi ρ2 → w { nx := fun _ ρ => Wi ρ, rt := A.rt, ct := fun _ ρ => Wi ρ, bk := A.nx } XX O2 (ρ2.set s (some (.dat (.int (k : Nat)))))) (fin : ∀ O2 ρ2, Wi ρ2 → A.nx O2 ρ2) :
    bLen O [.scr ns] fun O1 c => ∃ x : Int, c = .dat (.int x) ∧ -1000000 ≤ e x ∧ e x ≤ 1000000 ∧ aTurnsN (e x).toNat s w A XX O1 ρ :=
  ⟨_, ns.length, rfl, .inr ⟨ns, rfl, rfl⟩, _, rfl, (he _).1, Int.le_trans (he _).2 (by omega), turns_n (fun _ _ ρ => Wi ρ) w0 (fun k O2 ρ2 hk hw => st k O2 ρ2 (by have := (he ns.length).2; omega) hw) fun O2 ρ2 hw => fin O2 ρ2 hw⟩
theorem ofS_inj {a b : String} : Str.ofString a = Str.ofString b ↔ a = b := by
  constructor
  · intro h
    rw [Str.ofString_eq_toList, Str.ofString_eq_toList] at h
    have h := congrArg (fun s : Str => s.cps.toList) h
    have inj : ∀ x y : Char, x.toNat = y.toNat → x = y := fun x y e => Char.ext (UInt32.toNat_inj.mp e)
    have go : ∀ l m : List Char, l.map Char.toNat = m.map Char.toNat → l = m := by
      intro l
      induction l with
      | nil => intro m e; cases m with
        | nil => rfl
        | cons y m => cases e
      | cons x l ih => intro m e; cases m with
        | nil => cases e
        | cons y m =>
          obtain ⟨e1, e2⟩ := List.cons.inj e
          rw [inj x y e1, ih m e2]
    exact String.toList_inj.mp (go _ _ h)
  · intro h; rw [h]
theorem w_reprD {O : Ob} {d : PyData} {Kc : KC} : bReprA O [.dat d] Kc ↔ d.hasDict = false ∧ TxB d ∧ Kc O (.dat (.str d.shown)) := by
  constructor
  · rintro ⟨c, d', e, h, h1, h2, h3, k⟩
    obtain rfl : Cl.dat d = c := (List.cons.inj e).1
    cases h with
    | pl h n => cases h; exact ⟨n, ⟨h1, h2, h3⟩, k⟩
  · rintro ⟨n, t, k⟩
    exact ⟨_, d, rfl, .pl (.dat d) n, t.s, t.d, t.l, k⟩
theorem w_reprB {O : Ob} {b : Bool} {Kc : KC} : bReprA O [.dat (.bool b)] Kc ↔ Kc O (.dat (.str (PyData.bool b).shown)) := by
  rw [w_reprD]
  have h : (PyData.bool b).hasDict = false := by unfold PyData.hasDict; rfl
  exact ⟨fun z => z.2.2, fun z => ⟨h, (tx_bool b 3).txB (by decide) (by decide), z⟩⟩
theorem w_tuple {O : Ob} {c : Cl} {es : List Cl} {Kc : KC} (h : Els O c es) (k : Kc O (tupC es)) : bTuple O [c] Kc := ⟨c, es, rfl, .inl ⟨h, k⟩⟩
theorem w_tupleD {O : Ob} {ds : List PyData} {Kc : KC} : bTuple O [.dat (.list ds)] Kc ↔ Kc O (.dat (.tuple ds)) := by
  constructor
  · rintro ⟨c, es, e, h⟩
    obtain rfl : Cl.dat (.list ds) = c := (List.cons.inj e).1
    rcases h with ⟨h, k⟩ | ⟨h, k⟩
    · rw [els_list.mp h, tupC_dats] at k; exact k
    · cases h
  · intro k
    exact ⟨_, _, rfl, .inl ⟨.dat ds, by rwa [tupC_dats]⟩⟩
/-- a loop over a list that is no object of its own -/
theorem for_lis {O : Ob} {ρ : Rho} {XX : XC} {cs : List Cl} {s i : Nat} {w : AS} {A : AEn} (hs : ρ[s]? = some (some (lisC cs))) (Wi : Nat → Ob → Rho → Prop) (w0 : Wi 0 O ρ)
    (st : ∀ j O2 ρ2 e, cs[j]? = some e → Wi j O2 ρ2 → w { nx := Wi (j + 1), rt := A.rt, ct := Wi (j + 1), bk := A.nx } XX O2 (ρ2.set i (some e))) (fin : ∀ O2 ρ2, Wi cs.length O2 ρ2 → A.nx O2 ρ2) : aFor (aItL (aVar s)) (aName i) w A XX O ρ :=
  ⟨_, hs, cs, elsC O cs, Wi, w0, fun j O2 ρ2 e hj hw => ⟨elsC O2 cs, st j O2 ρ2 e hj hw⟩, fun O2 ρ2 hw => ⟨elsC O2 cs, fin O2 ρ2 hw⟩⟩
theorem RdA.app {O : Ob} {c : Cl} {r : Option (List Cl)} (h : RdA O c r) : ∀ X : Ob, RdA (X ++ O) c r
  | [] => h
  | x :: X => (RdA.app h X).up x
theorem w_neInts {O : Ob} {is js : List Int} {Kc : KC} (k : Kc O (.dat (.bool (!decide (is = js))))) : aNeD O (.dat (.list (is.map .int))) (.dat (.list (js.map .int))) Kc :=
  ⟨_, _, .dat _, .dat _, hasDict_ints _, hasDict_ints _, shaped_ints _, shaped_ints _, by rwa [eqv_ints]⟩
theorem w_eqInts {O : Ob} {is js : List Int} {Kc : KC} (k : Kc O (.dat (.bool (decide (is = js))))) : aEqD O (.dat (.list (is.map .int))) (.dat (.list (js.map .int))) Kc :=
  ⟨_, _, .dat _, .dat _, hasDict_ints _, hasDict_ints _, shaped_ints _, shaped_ints _, by rwa [eqv_ints]⟩
theorem w_elsFr {a b : Int} {P : List Cl → Prop} : (∃ cs, ElsT (.dat (frD a b)) cs ∧ P cs) ↔ P [.dat (.int a), .dat (.int b)] := w_elsT (ds := [.int a, .int b])
theorem w_ixFr {O : Ob} {a b i : Int} {Kc : KC} : aIxT O (.dat (frD a b)) (.dat (.int i)) Kc ↔ ∃ e, atI [Cl.dat (.int a), .dat (.int b)] i = some e ∧ Kc O e := w_ixT (ds := [.int a, .int b])
/-- a loop over a list or a tuple from behind, that makes no objects -/
theorem loop_rev {O : Ob} {ρ : Rho} {XX : XC} {w : AS} {A : AEn} {es : List Cl} {s i : Nat} {c : Cl} (hs : ρ[s]? = some (some c)) (hc : SqE O c es) (Wi : Nat → Rho → Prop) (w0 : Wi 0 ρ)
    (st : ∀ j ρ2 e, j < es.length → es[es.length - 1 - j]? = some e → Wi j ρ2 → w { nx := fun O' ρ' => O' = O ∧ Wi (j + 1) ρ', rt := A.rt, ct := fun O' ρ' => O' = O ∧ Wi (j + 1) ρ', bk := A.nx } XX O (ρ2.set i (some e)))
    (fin : ∀ ρ2, Wi es.length ρ2 → A.nx O ρ2) : aFor (aItRv (aVar s)) (aName i) w A XX O ρ := by
  have go : ∀ St : Ob → Prop, St O → aTurns es.reverse St (aName i) w A XX O ρ := fun St hst => by
    refine ⟨fun j O2 ρ2 => O2 = O ∧ Wi j ρ2, ⟨rfl, w0⟩, ?_, ?_⟩
    · rintro j O2 ρ2 e hj ⟨rfl, hw⟩
      obtain ⟨h1, h2⟩ := rev_get hj
      exact ⟨hst, st j ρ2 e h1 h2 hw⟩
    · rintro O2 ρ2 ⟨rfl, hw⟩
      rw [List.length_reverse] at hw
      exact ⟨hst, fin ρ2 hw⟩
  rcases hc with h | h
  · exact ⟨c, hs, es, .inl ⟨h, go _ h⟩⟩
  · exact ⟨c, hs, es, .inr ⟨h, go _ trivial⟩⟩
theorem w_elsTup {cs : List Cl} {P : List Cl → Prop} : (∃ es, ElsT (.tup cs) es ∧ P es) ↔ P cs := by
  constructor
  · rintro ⟨es, h, k⟩
    rwa [elsT_tup.mp h] at k
  · intro k
    exact ⟨_, .tup cs, k⟩
theorem w_ixLis {O : Ob} {cs : List Cl} {i : Int} {Kc : KC} : aIxL O (.lis cs) (.dat (.int i)) Kc ↔ ∃ e, atI cs i = some e ∧ Kc O e := by
  constructor
  · rintro ⟨es, j, e, h1, h2, h3, k⟩
    cases h1
    cases els_lis.mp h2
    exact ⟨e, h3, k⟩
  · rintro ⟨e, h, k⟩
    exact ⟨_, _, e, rfl, .lis cs, h, k⟩
theorem w_ixOwn {O : Ob} {a : Addr} {cs : List Cl} {i : Int} {e : Cl} {Kc : KC} (m : (a, Ow.lst cs) ∈ O) (h : atI cs i = some e) (k : Kc O e) : aIxL O (.at a) (.dat (.int i)) Kc := ⟨_, _, e, rfl, .own m, h, k⟩
theorem w_catCO {O : Ob} {a : Addr} {cs es : List Cl} {Kc : KC} (m : (a, Ow.lst cs) ∈ O) (h : cs.length + es.length ≤ 1000000) (k : Kc O (.lis (cs ++ es))) : aCatC O (.at a) (lisC es) Kc := ⟨_, _, .own m, elsC O es, h, k⟩
end Ab
namespace Ab
open PySem PySem.Spec PyProof.Rows L2 Vg
/-! ## what the program's defs of words, rows, manners tell -/
def afIsList : AF := fun O cs _ Kc => match cs with
  | [c] => ∃ n, Kn O c n ∧ Kc O (.dat (.bool (n == "list" || n == "tuple")))
  | _ => False
def numsR : Option (List Cl) → Bool
  | none => false
  | some es => es.all numC
def afNums : AF := fun O cs _ Kc => match cs with
  | [c] => ∃ r, RdA O c r ∧ Kc O (.dat (.bool (numsR r)))
  | _ => False
theorem numsR_some {r : Option (List Cl)} (h : numsR r = true) : ∃ is, r = some (iCl is) := by
  cases r with
  | none => cases h
  | some es =>
    have h : es.all numC = true := h
    rw [intsC_all] at h
    cases e : intsC es with
    | none => rw [e] at h; cases h
    | some is => exact ⟨is, by rw [intsC_eq e]⟩
def floorI (is : List Int) : Bool := (!decide (is.length = 0) && (is.drop 1).all fun t => decide (t ≥ 1)) && (decide (is.length = 1) || !decide (is.getLastD 0 = 1))
def floorR : Option (List Cl) → Bool
  | none => false
  | some es => (intsC es).elim false floorI
theorem floorR_ints (is : List Int) : floorR (some (iCl is)) = floorI is := by
  show (intsC (iCl is)).elim false floorI = _
  rw [intsC_some]; rfl
theorem floorR_no {r : Option (List Cl)} (h : numsR r = false) : floorR r = false := by
  cases r with
  | none => rfl
  | some es =>
    have h : es.all numC = false := h
    rw [intsC_all] at h
    show (intsC es).elim false floorI = false
    cases e : intsC es with
    | none => rfl
    | some is => rw [e] at h; cases h
theorem floorR_some {r : Option (List Cl)} (h : floorR r = true) : ∃ is, r = some (iCl is) ∧ floorI is = true := by
  cases hn : numsR r with
  | false => rw [floorR_no hn] at h; cases h
  | true =>
    obtain ⟨is, rfl⟩ := numsR_some hn
    exact ⟨is, rfl, by rwa [floorR_ints] at h⟩
theorem last_cons {is : List Int} (h : ¬ is.length = 0) : atI (iCl is) (-1) = some (.dat (.int (is.getLastD 0))) := last_ne fun e => h (by rw [e]; rfl)
def afFloor : AF := fun O cs _ Kc => match cs with
  | [c] => ∃ r, RdA O c r ∧ Kc O (.dat (.bool (floorR r)))
  | _ => False
def afNeedFloor : AF := fun O cs Xf Kc => match cs with
  | [c] => ∃ r, RdA O c r ∧ ((floorR r = false ∧ Xf O "NoRow" c) ∨ (floorR r = true ∧ Kc O (.dat .none)))
  | _ => False
/-- the turn of a list of numbers -/
structure Tn where
  a : Int
  b : Int
  c : Int
  d : Int
abbrev Tn.D (r : Tn) : PyData := rwD r.a r.b r.c r.d
def Tn.next (r : Tn) (t : Int) : Tn := ⟨r.a * t + r.b, r.a, r.c * t + r.d, r.c⟩
def tnOne : Tn := ⟨1, 0, 0, 1⟩
def turnI (is : List Int) : Tn := is.foldl Tn.next tnOne
structure Tn.B (r : Tn) (n : Nat) : Prop where
  a : r.a.natAbs < 2 ^ n
  b : r.b.natAbs < 2 ^ n
  c : r.c.natAbs < 2 ^ n
  d : r.d.natAbs < 2 ^ n
theorem Tn.B.next {r : Tn} {n m : Nat} {t : Int} (h : r.B n) (ht : t.natAbs < 2 ^ m) : (r.next t).B (n + m + 1) :=
  ⟨addB (wide_lt h.a ht) (upB h.b (by omega)), upB h.a (by omega), addB (wide_lt h.c ht) (upB h.d (by omega)), upB h.c (by omega)⟩
theorem turn_B {m : Nat} : ∀ {is : List Int} {r : Tn} {n : Nat}, r.B n → (∀ t ∈ is, t.natAbs < 2 ^ m) → (is.foldl Tn.next r).B (n + is.length * (m + 1))
  | [], r, n, h, _ => by simpa using h
  | t :: is, r, n, h, ht => by
    have z := turn_B (h.next (ht t (List.mem_cons_self ..))) (is := is) fun u hu => ht u (List.mem_cons_of_mem _ hu)
    have e : n + m + 1 + is.length * (m + 1) = n + (t :: is).length * (m + 1) := by rw [List.length_cons, Nat.succ_mul]; omega
    rw [e] at z
    exact z
theorem one_B : tnOne.B 1 := ⟨by decide, by decide, by decide, by decide⟩
def afTurned : AF := fun O cs _ Kc => match cs with
  | [c, d] => ∃ (r : Tn) (t : Int) (n m : Nat), c = .dat r.D ∧ d = .dat (.int t) ∧ r.B n ∧ t.natAbs < 2 ^ m ∧ 0 < n ∧ 0 < m ∧ n + m ≤ 1000000 ∧ Kc O (.dat (r.next t).D)
  | _ => False
/-- a list of numbers of at most m bits, not too long -/
structure Sml (is : List Int) (m : Nat) : Prop where
  t : ∀ t ∈ is, t.natAbs < 2 ^ m
  m0 : 0 < m
  l : (is.length + 1) * (m + 1) ≤ 900000
theorem Sml.bound {is : List Int} {m : Nat} (h : Sml is m) (j : Nat) : ((is.take j).foldl Tn.next tnOne).B (1 + is.length * (m + 1)) := by
  have z := turn_B one_B (is := is.take j) (m := m) fun t ht => h.t t (List.mem_of_mem_take ht)
  have e : 1 + (is.take j).length * (m + 1) ≤ 1 + is.length * (m + 1) := Nat.add_le_add_left (Nat.mul_le_mul_right _ (by rw [List.length_take]; omega)) 1
  exact ⟨upB z.a e, upB z.b e, upB z.c e, upB z.d e⟩
theorem Sml.sum {is : List Int} {m : Nat} (h : Sml is m) : 1 + is.length * (m + 1) + m ≤ 1000000 := by
  have := h.l
  rw [Nat.succ_mul] at this
  omega
def afTurnOf : AF := fun O cs Xf Kc => match cs with
  | [c] => ∃ r, RdA O c r ∧ ((numsR r = false ∧ Xf O "NoRow" c) ∨ ∃ is m, r = some (iCl is) ∧ Sml is m ∧ Kc O (.dat (turnI is).D))
  | _ => False
def afFracOf : AF := fun O cs Xf Kc => match cs with
  | [c] => ∃ r, RdA O c r ∧ ((floorR r = false ∧ Xf O "NoRow" c) ∨ ∃ is m, r = some (iCl is) ∧ floorI is = true ∧ Sml is m ∧ Kc O (.dat (frD (turnI is).a (turnI is).c)))
  | _ => False
/-- the values of the beginnings -/
def begsI (is : List Int) : List PyData := (List.range is.length).map fun j => frD (turnI (is.take (j + 1))).a (turnI (is.take (j + 1))).c
def begSt (s : Tn × List PyData) (t : Int) : Tn × List PyData := (s.1.next t, s.2 ++ [frD (s.1.next t).a (s.1.next t).c])
theorem begSt_at : ∀ (is : List Int) (j : Nat), j ≤ is.length → (is.take j).foldl begSt (tnOne, []) = (turnI (is.take j), (List.range j).map fun j => frD (turnI (is.take (j + 1))).a (turnI (is.take (j + 1))).c)
  | is, 0, _ => rfl
  | is, j + 1, h => by
    have hj : is[j]? = some is[j] := List.getElem?_eq_getElem (by omega)
    have z := begSt_at is j (by omega)
    have e2 : turnI (is.take (j + 1)) = (turnI (is.take j)).next is[j] := by
      unfold turnI
      rw [List.take_add_one, hj, Option.toList_some, List.foldl_append]; rfl
    have z2 : (is.take (j + 1)).foldl begSt (tnOne, []) = begSt ((is.take j).foldl begSt (tnOne, [])) is[j] := by
      rw [List.take_add_one, hj, Option.toList_some, List.foldl_append]; rfl
    rw [z2, z, List.range_succ, List.map_append]
    simp only [begSt, List.map_cons, List.map_nil, e2]
def afBegs : AF := fun O cs Xf Kc => match cs with
  | [c] => ∃ r, RdA O c r ∧ ((floorR r = false ∧ Xf O "NoRow" c) ∨ ∃ is m, r = some (iCl is) ∧ floorI is = true ∧ Sml is m ∧ ∀ p, Kc ((p, .lst ((begsI is).map .dat)) :: O) (.at p))
  | _ => False
/-- the first place at which two rows have unlike terms, or one has none -/
def unlikeI : List Int → List Int → Nat
  | a :: as, b :: bs => if a = b then unlikeI as bs + 1 else 0
  | _, _ => 0
theorem unlike_cons (a b : Int) (l r : List Int) : unlikeI (a :: l) (b :: r) = if a = b then unlikeI l r + 1 else 0 := rfl
def afUnlike : AF := fun O cs _ Kc => match cs with
  | [c, d] => ∃ is js : List Int, SqE O c (iCl is) ∧ SqE O d (iCl js) ∧ Kc O (.dat (.int (unlikeI is js)))
  | _ => False
def partD (is js : List Int) : PyData :=
  if unlikeI is js = is.length ∧ unlikeI is js = js.length then .none
  else
    let g : Bool := if unlikeI is js = is.length then true else if unlikeI is js = js.length then false else decide (is.getD (unlikeI is js) 0 > js.getD (unlikeI is js) 0)
    let h : Bool := if unlikeI is js % 2 = 1 then !g else g
    .tuple [.int (unlikeI is js : Nat), .int (if h = true then 1 else -1)]
theorem unlike_le : ∀ is js : List Int, unlikeI is js ≤ is.length ∧ unlikeI is js ≤ js.length
  | [], js => ⟨Nat.zero_le _, Nat.zero_le _⟩
  | a :: l, [] => ⟨Nat.zero_le _, Nat.zero_le _⟩
  | a :: l, b :: r => by
    rw [unlike_cons]
    have := unlike_le l r
    split
    · simp only [List.length_cons]; omega
    · simp
theorem ints_at {is : List Int} {n : Nat} (h : n < is.length) : atI (iCl is) (n : Int) = some (.dat (.int (is.getD n 0))) := by
  rw [w_atN]
  simp [iCl, h]
def afParting : AF := fun O cs Xf Kc => match cs with
  | [c, d] => ∃ r q, RdA O c r ∧ RdA O d q ∧ ((floorR r = false ∧ Xf O "NoRow" c) ∨ (floorR r = true ∧ floorR q = false ∧ Xf O "NoRow" d) ∨ ∃ is js, r = some (iCl is) ∧ q = some (iCl js) ∧ floorI is = true ∧ floorI js = true ∧ Kc O (.dat (partD is js)))
  | _ => False
def semi : Str := ";"
def intT (t : Int) : Str := Str.ofString (toString t)
def rowT (is : List Int) : Str := if is.length = 1 then intT (is.getD 0 0) else Str.empty ++ intT (is.getD 0 0) ++ semi ++ Txt.join "," ((is.drop 1).map intT)
def strG : Cl → Cl
  | .dat (.int t) => .dat (.str (intT t))
  | c => c
theorem map_strG (is : List Int) : (iCl is).map strG = strsC (is.map intT) := by simp [iCl, strsC, strG, List.map_map, Function.comp_def]
theorem log_sm {t : Int} {k : Nat} (h : t.natAbs < 2 ^ k) (hk : 0 < k := by decide) (h2 : k ≤ 1920 := by decide) : t.natAbs.log2 < 1920 := Nat.lt_of_lt_of_le (log_lt h hk) h2
theorem intT_len {t : Int} {k : Nat} (h : t.natAbs < 2 ^ k) (hk : 0 < k) : (intT t).length ≤ k + 1 := by
  unfold intT
  rw [PySem.ofString_length]
  exact int_text_length_le hk (log_lt h hk)
theorem sum_le {k : Nat} : ∀ {is : List Int}, (∀ t ∈ is, (intT t).length ≤ k) → ((is.map intT).map (·.length)).sum ≤ is.length * k
  | [], _ => by simp
  | t :: l, h => by
    have z := sum_le (is := l) fun u hu => h u (List.mem_cons_of_mem _ hu)
    have y := h t (List.mem_cons_self ..)
    simp only [List.map_cons, List.sum_cons, List.length_cons, Nat.succ_mul] at z ⊢
    omega
theorem join_len' (s : Str) : ∀ ys : List Str, (Str.join s ys).length ≤ (ys.map (·.length)).sum + ys.length * s.length
  | [] => Nat.zero_le _
  | [x] => by
    show x.length ≤ _
    simp only [List.map_cons, List.map_nil, List.sum_cons, List.sum_nil, List.length_cons]; omega
  | x :: y :: r => by
    have z := join_len' s (y :: r)
    show (x ++ s ++ Str.join s (y :: r)).length ≤ _
    rw [strLen_append, strLen_append]
    simp only [List.map_cons, List.sum_cons, List.length_cons, Nat.succ_mul] at z ⊢
    omega
theorem join_len (s : Str) (ys : List Str) : (Txt.join s ys).length ≤ (ys.map (·.length)).sum + ys.length * s.length := by
  rw [TL.join_eq]
  exact join_len' s ys
def afRowText : AF := fun O cs Xf Kc => match cs with
  | [c] => ∃ r, RdA O c r ∧ ((floorR r = false ∧ Xf O "NoRow" c) ∨ ∃ is, r = some (iCl is) ∧ floorI is = true ∧ (∀ t ∈ is, t.natAbs < 2 ^ 1000) ∧ is.length ≤ 10000 ∧ Kc O (.dat (.str (rowT is))))
  | _ => False
/-- what is seen of a thing of another kind, into which something was put n times -/
def rdM (n : Nat) : PyData → Option (List Cl)
  | .list ds => some ((ds ++ mores n).map .dat)
  | .tuple ds => some (ds.map .dat)
  | _ => none
def szD : PyData → Bool
  | .list ds => decide (ds.length < 900)
  | .tuple ds => decide (ds.length < 900)
  | _ => true
theorem dat_kn {O : Ob} {ds : List PyData} : ∀ e ∈ ds.map Cl.dat, ∃ n, Kn O e n := by
  intro e he
  obtain ⟨d, _, rfl⟩ := List.mem_map.mp he
  exact ⟨_, .dat d⟩
theorem rd_list {O : Ob} (ds : List PyData) (h : ds.length < 1000000) : RdA O (.dat (.list ds)) (some (ds.map .dat)) := ⟨.inl ⟨.dat ds, .dat _⟩, dat_kn, by rwa [List.length_map]⟩
theorem rd_tup {O : Ob} (ds : List PyData) (h : ds.length < 1000000) : RdA O (.dat (.tuple ds)) (some (ds.map .dat)) := ⟨.inr ⟨.dat ds, .dat _⟩, dat_kn, by rwa [List.length_map]⟩
theorem rd_own {O : Ob} {a : Addr} {ds : List PyData} (m : (a, Ow.lst (ds.map .dat)) ∈ O) (h : ds.length < 1000000) : RdA O (.at a) (some (ds.map .dat)) := ⟨.inl ⟨.own m, .own m⟩, dat_kn, by rwa [List.length_map]⟩
theorem OddM.rd {n : Nat} {d : PyData} {c : Cl} {G O : Ob} (h : OddM n d c G) (m : ∀ x ∈ G, x ∈ O) (hz : szD d = true) (hn : n ≤ 4) : RdA O c (rdM n d) := by
  cases h with
  | imm h1 h2 =>
    cases d with
    | list ds => exact absurd rfl (h1 ds)
    | dict es => exact absurd rfl (h2 es)
    | tuple ds =>
      have hz : ds.length < 900 := of_decide_eq_true hz
      exact rd_tup ds (by omega)
    | none => exact ⟨_, .dat _, rfl⟩
    | bool b => exact ⟨_, .dat _, rfl⟩
    | int i => exact ⟨_, .dat _, rfl⟩
    | str x => exact ⟨_, .dat _, rfl⟩
  | lst ds =>
    have hz : ds.length < 900 := of_decide_eq_true hz
    exact rd_own (m _ (List.mem_cons_self ..)) (by rw [List.length_append]; simp [mores]; omega)
  | dct kvs es hk hc => exact ⟨_, .dct (m _ (List.mem_cons_self ..)), rfl⟩
theorem nums_more {d : PyData} (h : numsR (rdM 0 d) = false) (n : Nat) : numsR (rdM n d) = false := by
  cases d with
  | list ds =>
    have h : ((ds ++ mores 0).map Cl.dat).all numC = false := h
    show ((ds ++ mores n).map Cl.dat).all numC = false
    rw [List.map_append, List.all_append] at h ⊢
    simp [mores] at h
    simp only [Bool.and_eq_false_iff]
    exact .inl (by simpa using h)
  | _ => exact h
theorem floor_more {d : PyData} (h : floorR (rdM 0 d) = false) (n : Nat) : floorR (rdM n d) = false := by
  cases n with
  | zero => exact h
  | succ n =>
    cases d with
    | list ds =>
      refine floorR_no ?_
      show ((ds ++ mores (n + 1)).map Cl.dat).all numC = false
      rw [List.map_append, List.all_append]
      unfold mores
      rw [List.replicate_succ]
      simp [numC]
    | _ => exact h
theorem sm_hd {ds : List PyData} (h : ∀ d ∈ ds, SmE d) : PyData.hasDict (.list ds) = false ∧ PyData.hasDict (.tuple ds) = false := by
  constructor
  · unfold PyData.hasDict; exact noDict fun d hd => (h d hd).2
  · unfold PyData.hasDict; exact noDict fun d hd => (h d hd).2
theorem sm_tx {ds : List PyData} (h : ∀ d ∈ ds, SmE d) (hl : ds.length ≤ 180) : txB (.list ds) = true ∧ txB (.tuple ds) = true :=
  ⟨(Tx1.txB8 (tx_list (txl_all fun d hd => (h d hd).1)) (by omega) (by decide)).b, (Tx1.txB8 (tx_tup (txl_all fun d hd => (h d hd).1)) (by omega) (by decide)).b⟩
/-- lists and tuples of small things, up to 170 -/
theorem sm_ok8 {ds : List PyData} (h : ∀ d ∈ ds, SmE d) (hl : ds.length ≤ 170) : oddOk5 (.list ds) = true ∧ oddOk5 (.tuple ds) = true := by
  constructor
  · show ((List.range 6).all (fun n => !PyData.hasDict (.list (ds ++ mores n)) && txB (.list (ds ++ mores n))) && decide (ds.length ≤ 800)) = true
    rw [decide_eq_true (by omega), Bool.and_true, List.all_eq_true]
    intro n hn
    have hn6 := List.mem_range.mp hn
    rw [(sm_hd (sm_mores h n)).1, (sm_tx (sm_mores h n) (by rw [List.length_append]; simp [mores]; omega)).1]
    rfl
  · show (!PyData.hasDict (.tuple ds) && txB (.tuple ds)) = true
    rw [(sm_hd h).2, (sm_tx h (by omega)).2]
    rfl
def legB1 (ds : List PyData) : Bool := (ds.all fun d => match d with | .int i => decide (i.natAbs < 2 ^ 100) | _ => true) && decide (ds.length ≤ 200)
/-- numbers in it are small, and it isn't long -/
def legB : PyData → Bool
  | .list ds => legB1 ds
  | .tuple ds => legB1 ds
  | _ => true
theorem leg_of {d : PyData} {is : List Int} (h : legB d = true) (e : rdM 0 d = some (iCl is)) : (∀ t ∈ is, t.natAbs < 2 ^ 100) ∧ is.length ≤ 200 := by
  have main : ∀ ds : List PyData, ds.map Cl.dat = iCl is → legB1 ds = true → (∀ t ∈ is, t.natAbs < 2 ^ 100) ∧ is.length ≤ 200 := by
    intro ds e h
    rw [iCl_dat] at e
    have e := map_dat e
    subst e
    unfold legB1 at h
    have h := Bool.and_eq_true_iff.mp h
    have h2 := of_decide_eq_true h.2
    rw [List.length_map] at h2
    exact ⟨fun t ht => of_decide_eq_true (List.all_eq_true.mp h.1 (.int t) (List.mem_map_of_mem ht)), h2⟩
  cases d with
  | list ds =>
    have e := Option.some.inj (show some ((ds ++ mores 0).map Cl.dat) = some (iCl is) from e)
    exact main ds (by simpa [mores] using e) h
  | tuple ds => exact main ds (Option.some.inj (show some (ds.map Cl.dat) = some (iCl is) from e)) h
  | none => cases e
  | bool b => cases e
  | int b => cases e
  | str b => cases e
  | dict b => cases e
def smB : PyData → Bool
  | .int i => decide (i.natAbs < 2 ^ 100)
  | _ => true
def SmI (d : PyData) : Prop := SmE d ∧ smB d = true
theorem smi_int {i : Int} (h : i.natAbs < 2 ^ 40) : SmI (.int i) := ⟨sm_int h, decide_eq_true (Nat.lt_of_lt_of_le h (by decide))⟩
theorem legB_sm {ds : List PyData} (h : ∀ d ∈ ds, SmI d) (hl : ds.length ≤ 170) : legB1 ds = true := by
  unfold legB1
  rw [decide_eq_true (by omega), Bool.and_true, List.all_eq_true]
  intro d hd
  have z := (h d hd).2
  cases d <;> first | exact z | rfl
def mns : List PyData := [.str "floor", .str "ceil", .str "near"]
def manC : Cl → Bool
  | .dat (.str x) => inV (.str x) (mns.map vD)
  | _ => false
def afMan : AF := fun O cs _ Kc => match cs with
  | [c] => (∃ n, Kn O c n) ∧ Kc O (.dat (.bool (manC c)))
  | _ => False
def afNeedM : AF := fun O cs Xf Kc => match cs with
  | [c] => (∃ n, Kn O c n) ∧ ((manC c = false ∧ Xf O "NoManner" c) ∨ (manC c = true ∧ Kc O (.dat .none)))
  | _ => False
def afFirst : AF := fun O cs _ Kc => match cs with
  | [c, d, e] => ∃ (a b : Int) (m : Str), c = .dat (.int a) ∧ d = .dat (.int b) ∧ e = .dat (.str m) ∧ 1 ≤ b ∧ a.natAbs < 2 ^ 4000 ∧ b.natAbs < 2 ^ 4000 ∧ Kc O (.dat (.int (termI m a b)))
  | _ => False
theorem man_in {x : Str} (h : isMan x) : manC (.dat (.str x)) = true := by
  rcases h with rfl | rfl | rfl <;> decide +kernel

def afFol : AF := fun O cs _ Kc => match cs with
  | [c, d] => ∃ b t : Int, c = .dat (.int b) ∧ d = .dat (.int t) ∧ Kc O (.dat (.bool (folN b t)))
  | _ => False
def begR (x : Str) : Option (List Cl) → Bool
  | none => false
  | some es => (intsC es).elim false (begI x)
def afBeg : AF := fun O cs _ Kc => match cs with
  | [c, m] => ∃ r x, RdA O c r ∧ m = .dat (.str x) ∧ Kc O (.dat (.bool (begR x r)))
  | _ => False
theorem begR_no {x : Str} {r : Option (List Cl)} (h : numsR r = false) : begR x r = false := by
  cases r with
  | none => rfl
  | some es =>
    have h : es.all numC = false := h
    rw [intsC_all] at h
    show (intsC es).elim false (begI x) = false
    cases e : intsC es with
    | none => rfl
    | some is => rw [e] at h; cases h
def afEnds : AF := fun O cs _ Kc => match cs with
  | [c, m] => ∃ (is : List Int) (x : Str), RdA O c (some (iCl is)) ∧ m = .dat (.str x) ∧ Kc O (.dat (.bool (endI x is)))
  | _ => False
def endR (x : Str) : Option (List Cl) → Bool
  | none => false
  | some es => (intsC es).elim false (endI x)
theorem begR_some {x : Str} {r : Option (List Cl)} (h : begR x r = true) : ∃ is, r = some (iCl is) ∧ endR x r = endI x is := by
  cases r with
  | none => cases h
  | some es =>
    have h : (intsC es).elim false (begI x) = true := h
    cases e : intsC es with
    | none => rw [e] at h; cases h
    | some is =>
      refine ⟨is, by rw [intsC_eq e], ?_⟩
      show (intsC es).elim false (endI x) = _
      rw [e]
      rfl
def afIsRow : AF := fun O cs Xf Kc => match cs with
  | [c, m] => (∃ n, Kn O m n) ∧ ((manC m = false ∧ Xf O "NoManner" m) ∨ ∃ r x, RdA O c r ∧ m = .dat (.str x) ∧ manC m = true ∧ Kc O (.dat (.bool (begR x r && endR x r))))
  | _ => False
theorem low_call {O : Ob} {a b : Int} {Xf : Ob → Str → Cl → Prop} {K : KC} (hb : b ≠ 0) (h2 : b.natAbs < 2 ^ 9000) (k : K O (.dat (lowD a b))) : afLow O [.dat (.int a), .dat (.int b)] Xf K :=
  ⟨pl_dat _ _, pl_dat _ _, .inr (.inr ⟨a, b, rfl, rfl, h2, .inr ⟨hb, k⟩⟩)⟩
def afNeedB : AF := fun O cs Xf Kc => match cs with
  | [c, m] => ∃ r x, RdA O c r ∧ m = .dat (.str x) ∧ ((begR x r = false ∧ Xf O "NoRow" c) ∨ (begR x r = true ∧ Kc O (.dat .none)))
  | _ => False
def afMayEnd : AF := fun O cs Xf Kc => match cs with
  | [c, m] => (∃ n, Kn O m n) ∧ ((manC m = false ∧ Xf O "NoManner" m) ∨ ∃ r x, RdA O c r ∧ m = .dat (.str x) ∧ manC m = true ∧ ((begR x r = false ∧ Xf O "NoRow" c) ∨ (begR x r = true ∧ Kc O (.dat (.bool (endR x r))))))
  | _ => False
theorem rdA_lisC {O : Ob} {is : List Int} {t : Cl} {n : String} (hn : Kn O t n) (hz : is.length < 1000) : RdA O (lisC (iCl is ++ [t])) (some (iCl is ++ [t])) := by
  refine ⟨.inl ⟨elsC _ _, kn_lisC _ _⟩, fun e he => ?_, by simp [iCl]; omega⟩
  rcases List.mem_append.mp he with h | h
  · obtain ⟨z, _, rfl⟩ := mem_iCl h
    exact ⟨_, .dat _⟩
  · cases List.mem_singleton.mp h
    exact ⟨n, hn⟩
def folR (x : Str) (t : Cl) : Option (List Cl) → Bool
  | none => false
  | some es => begR x (some (es ++ [t]))
def afFollow : AF := fun O cs Xf Kc => match cs with
  | [c, t, m] => (∃ n, Kn O m n) ∧ ((manC m = false ∧ Xf O "NoManner" m) ∨ ∃ r x, RdA O c r ∧ m = .dat (.str x) ∧ manC m = true ∧ ((begR x r = false ∧ Xf O "NoRow" c) ∨ ∃ is nt, r = some (iCl is) ∧ begR x r = true ∧ Kn O t nt ∧ is.length < 1000 ∧ Kc O (.dat (.bool (folR x t r)))))
  | _ => False
abbrev pD (a b : Int) (k : Bool) : PyData := .tuple [.tuple [.int a, .int b], .bool k]
abbrev cA1 : PyData := .tuple [pD 1 1 false, pD 1 0 true]
abbrev cA1E : PyData := .tuple [pD 1 1 false, pD 1 0 false]
abbrev cFAR : PyData := .tuple [pD 2 1 false, pD 2 (-1) true]
abbrev cA2 : PyData := .tuple [pD 2 1 false, pD 1 0 false]
abbrev cB2 : PyData := .tuple [pD 1 0 true, pD 2 (-1) true]
def coneD (x : Str) (is : List Int) : PyData :=
  if x = "near" then (if 1 < is.length ∧ is.getLastD 0 = 2 then cA2 else if 1 < is.length ∧ is.getLastD 0 = -2 then cB2 else cFAR)
  else if x = "floor" ∧ 1 < is.length ∧ is.getLastD 0 = 1 then cA1E else cA1
section
variable {O : Ob} {ρ : Rho} {XX : XC} {a b : AE} {v : AS} {A : AEn}
theorem sq_setD {s : Nat} {Pr : PyData → Prop} (fin : ∀ d, Pr d → v A XX O (ρ.set s (some (.dat d)))) (h : (∀ d, Pr d → v A XX O (ρ.set s (some (.dat d)))) → a O ρ XX fun O1 c => v A XX O1 (ρ.set s (some c))) : aSeq (aAsg a (aName s)) v A XX O ρ := h fin
theorem pu_eqDI {d : PyData} {i : Int} (hd : d.hasDict = false) (sh : SeqAt.shaped d = true) (ha : Pu a O ρ XX (.dat d)) (hb : Pu b O ρ XX (.dat (.int i))) : Pu (aOp aEqD a b) O ρ XX (.dat (.bool (PyData.eqv d (.int i)))) :=
  fun K k => ha _ (hb _ ⟨d, .int i, .dat _, .dat _, hd, by simp [PyData.hasDict], sh, shaped_int _, k⟩)
end
theorem begR_ints (x : Str) (r : List Int) : begR x (some (iCl r)) = begI x r := by
  show (intsC (iCl r)).elim false (begI x) = begI x r
  rw [intsC_some]
  rfl
def afConeB : AF := fun O cs _ Kc => match cs with
  | [c, m] => ∃ (x : Str) (is : List Int), RdA O c (some (iCl is)) ∧ m = .dat (.str x) ∧ is ≠ [] ∧ Kc O (conC (coneD x is))
  | _ => False

theorem man_of {c : Cl} (h : manC c = true) : ∃ x, c = .dat (.str x) ∧ isMan x := by
  cases c with
  | dat d =>
    cases d with
    | str x =>
      refine ⟨x, rfl, ?_⟩
      have h : inV (.str x) (mns.map vD) = true := h
      simp only [mns, List.map_cons, List.map_nil, vD, inV, List.any_cons, List.any_nil, Bool.or_false, Bool.or_eq_true, eqV, beq_iff_eq] at h
      unfold isMan
      rcases h with h | h | h
      · exact .inl h.symm
      · exact .inr (.inl h.symm)
      · exact .inr (.inr h.symm)
    | _ => cases h
  | _ => cases h
/-- the first terms of a fraction's row -/
def afFT : AF := fun O cs _ Kc => match cs with
  | [c, d, m] => ∃ (a b : Int) (x : Str) (r : List Int) (k : Nat), c = .dat (frD a b) ∧ d = .dat (.int k) ∧ k ≤ 100000 ∧ m = .dat (.str x) ∧ isMan x ∧ Fz 3000 a b ∧ Run x a b r ∧ ∀ p, Kc ((p, .lst (iCl (r.take k))) :: O) (.tup [.at p, .dat (.bool (decide (r.length ≤ k)))])
  | _ => False
def afRowOf : AF := fun O cs Xf Kc => match cs with
  | [c, m] => (∃ n, Kn O m n) ∧ Pl O c ∧ ((manC m = false ∧ Xf O "NoManner" m) ∨ (manC m = true ∧ fracC c = false ∧ Xf O "NoFraction" c) ∨
      ∃ (a b : Int) (x : Str) (r : List Int), c = .dat (frD a b) ∧ m = .dat (.str x) ∧ isMan x ∧ Fz 3000 a b ∧ Run x a b r ∧ ((r.length ≤ 1000 ∧ ∀ p, Kc ((p, .lst (iCl r)) :: O) (.at p)) ∨ (1000 < r.length ∧ ∀ (p : Addr) (L : Ow), Xf ((p, L) :: O) "TooMany" (.dat (.int 1001)))))
  | _ => False
theorem run_drop {x : Str} (hx : isMan x) {n : Nat} {a b : Int} {r : List Int} (h : Run x a b r) : Fz n a b → ∀ k, k < r.length → ∃ a' b', Run x a' b' (r.drop k) ∧ Fz n a' b' := by
  induction h with
  | @last a b h =>
    intro F k hk
    have : k = 0 := by simp at hk; omega
    subst this
    exact ⟨a, b, .last h, F⟩
  | @next a b r h kr ih =>
    intro F k hk
    cases k with
    | zero => exact ⟨a, b, .next h kr, F⟩
    | succ k => exact ih (Run.fz hx F h) k (by simpa using hk)
theorem e_abs {e a : Int} (h : e = 1 ∨ e = -1) : (e * a).natAbs = a.natAbs := by
  rcases h with rfl | rfl
  · rw [Int.one_mul]
  · rw [Int.neg_mul, Int.one_mul, Int.natAbs_neg]
theorem run_terms {x : Str} (hx : isMan x) {n : Nat} {a b : Int} {r : List Int} (h : Run x a b r) : Fz n a b → ∀ t ∈ r, t.natAbs < 2 ^ (n + 2) := by
  induction h with
  | @last a b h =>
    intro F t ht
    cases List.mem_singleton.mp ht
    exact term_size hx F.b1 F.ta F.tb
  | @next a b r h kr ih =>
    intro F t ht
    rcases List.mem_cons.mp ht with rfl | ht
    · exact term_size hx F.b1 F.ta F.tb
    · exact ih (Run.fz hx F h) t ht
theorem cpow {i j : Int} (h0 : 0 ≤ j := by decide) (h1 : j ≤ 1000000 := by decide) (h2 : i.natAbs < 2 ^ 64 := by decide) : CPow i j := ⟨h0, h1, h2⟩
theorem two_at {r u v : Int} (h0 : 0 ≤ r) (h1 : r < 2) : ∃ w : Int, atI [Cl.dat (.int u), .dat (.int v)] r = some (.dat (.int w)) ∧ (w = u ∨ w = v) := by
  have : r = 0 ∨ r = 1 := by omega
  rcases this with rfl | rfl
  · exact ⟨u, rfl, .inl rfl⟩
  · exact ⟨v, rfl, .inr rfl⟩
theorem three_at {r u v w : Int} (h0 : 0 ≤ r) (h1 : r < 3) : ∃ q : Int, atI [Cl.dat (.int u), .dat (.int v), .dat (.int w)] r = some (.dat (.int q)) ∧ (q = u ∨ q = v ∨ q = w) := by
  have : r = 0 ∨ r = 1 ∨ r = 2 := by omega
  rcases this with rfl | rfl | rfl
  · exact ⟨u, rfl, .inl rfl⟩
  · exact ⟨v, rfl, .inr (.inl rfl)⟩
  · exact ⟨w, rfl, .inr (.inr rfl)⟩
/-- what a row of terms makes of a rest, from behind -/
def worG (s p q : Int) : List Int → Int × Int
  | [] => (p, q)
  | t :: r => (t * (worG s p q r).1 + s * (worG s p q r).2, (worG s p q r).1)
theorem worG_one (s : Int) : ∀ l : List Int, worG s 1 0 l = wor s l
  | [] => rfl
  | t :: r => by
    show (t * (worG s 1 0 r).1 + s * (worG s 1 0 r).2, (worG s 1 0 r).1) = (t * (wor s r).1 + s * (wor s r).2, (wor s r).1)
    rw [worG_one s r]
theorem worG_drop (s p q : Int) (r : List Int) (k : Nat) (t : Int) (h : r[k]? = some t) : worG s p q (r.drop k) = (t * (worG s p q (r.drop (k + 1))).1 + s * (worG s p q (r.drop (k + 1))).2, (worG s p q (r.drop (k + 1))).1) := by
  have hk := (List.getElem?_eq_some_iff.mp h).1
  have e : r.drop k = t :: r.drop (k + 1) := by
    rw [List.drop_eq_getElem_cons hk]
    congr 1
    exact Option.some.inj ((List.getElem?_eq_getElem hk).symm.trans h)
  rw [e]
  rfl
/-- bounds of what it makes -/
structure WorB (s p q : Int) (is : List Int) (n m : Nat) : Prop where
  w : ∀ j, (worG s p q (is.drop j)).1.natAbs < 2 ^ n ∧ (worG s p q (is.drop j)).2.natAbs < 2 ^ n
  t : ∀ t ∈ is, t.natAbs < 2 ^ m
  n0 : 0 < n
  m0 : 0 < m
  nm : n + m ≤ 1000000
  n9 : n ≤ 9000
theorem WorB.run {x : Str} (hx : isMan x) {n : Nat} {a b : Int} {r : List Int} (run : Run x a b r) (F : Fz n a b) (h0 : 0 < n) (h1 : n ≤ 9000) : WorB (sgI x) 1 0 r n (n + 2) where
  w := by
    intro j
    rw [worG_one]
    by_cases hj : j < r.length
    · obtain ⟨a', b', run', F'⟩ := run_drop hx run F j hj
      obtain ⟨e, he, hw⟩ := run_wor run' F'.b1 F'.g
      rw [hw]
      exact ⟨by show (e * a').natAbs < _; rw [e_abs he]; exact F'.ta, by show (e * b').natAbs < _; rw [e_abs he]; exact F'.tb⟩
    · rw [List.drop_of_length_le (by omega)]
      have : (1 : Nat) < 2 ^ n := Nat.one_lt_two_pow (by omega)
      exact ⟨by show (1 : Int).natAbs < _; omega, by show (0 : Int).natAbs < _; omega⟩
  t := run_terms hx run F
  n0 := h0
  m0 := by omega
  nm := by omega
  n9 := h1
def afNB : AF := fun O cs Xf Kc => match cs with
  | [c, q, m] => ∃ (a b : Int) (x : Str) (r : List Int) (n k : Nat), SqE O c (iCl r) ∧ q = .dat (frD a b) ∧ m = .dat (.str x) ∧ WorB (sgI x) a b r n k ∧
      (((worG (sgI x) a b r).2 = 0 ∧ Xf O "Nought" (.dat (.int (worG (sgI x) a b r).1))) ∨ ((worG (sgI x) a b r).2 ≠ 0 ∧ Kc O (.dat (lowD (worG (sgI x) a b r).1 (worG (sgI x) a b r).2))))
  | _ => False
def afNO : AF := fun O cs Xf Kc => match cs with
  | [c, m] => (∃ n, Kn O m n) ∧ ((manC m = false ∧ Xf O "NoManner" m) ∨ ∃ x r, m = .dat (.str x) ∧ isMan x ∧ RdA O c r ∧ (((begR x r && endR x r) = false ∧ Xf O "NoRow" c) ∨
      ∃ a b is, r = some (iCl is) ∧ Fz 3000 a b ∧ Run x a b is ∧ Kc O (.dat (frD a b))))
  | _ => False
def afCone : AF := fun O cs Xf Kc => match cs with
  | [c, m] => (∃ n, Kn O m n) ∧ ((manC m = false ∧ Xf O "NoManner" m) ∨ ∃ x r, m = .dat (.str x) ∧ isMan x ∧ RdA O c r ∧ ((begR x r = false ∧ Xf O "NoRow" c) ∨
      ∃ is, r = some (iCl is) ∧ begI x is = true ∧ ((is = [] ∧ Xf O "NoRow" c) ∨ (is ≠ [] ∧ Kc O (conC (coneD x is))))))
  | _ => False
def afNeedT : AF := fun O cs Xf Kc => match cs with
  | [c] => (∃ n, Kn O c n) ∧ ((numC c = false ∧ Xf O "NoTerm" c) ∨ (numC c = true ∧ Kc O (.dat .none)))
  | _ => False
def afTaken : AF := fun O cs Xf Kc => match cs with
  | [c, m] => (∃ n, Kn O m n) ∧ (∃ n, Kn O c n) ∧ ((manC m = false ∧ Xf O "NoManner" m) ∨ (manC m = true ∧ numC c = false ∧ Xf O "NoTerm" c) ∨ ∃ (i : Int) (x : Str), c = .dat (.int i) ∧ m = .dat (.str x) ∧ isMan x ∧ Kc O (.dat (rwD i (sgI x) 1 0)))
  | _ => False
def afGiven : AF := fun O cs Xf Kc => match cs with
  | [c, m] => (∃ n, Kn O m n) ∧ (∃ n, Kn O c n) ∧ ((manC m = false ∧ Xf O "NoManner" m) ∨ (manC m = true ∧ numC c = false ∧ Xf O "NoTerm" c) ∨ ∃ (i : Int) (x : Str), c = .dat (.int i) ∧ m = .dat (.str x) ∧ isMan x ∧ Kc O (.dat (rwD 0 1 (sgI x) (-(sgI x * i)))))
  | _ => False
theorem numC_of {c : Cl} (h : numC c = true) : ∃ i, c = .dat (.int i) := by
  cases c with
  | dat d => cases d <;> first | exact ⟨_, rfl⟩ | cases h
  | _ => cases h
theorem endR_ints (x : Str) (r : List Int) : endR x (some (iCl r)) = endI x r := by
  show (intsC (iCl r)).elim false (endI x) = endI x r
  rw [intsC_some]
  rfl
/-! ## {k: v} of plain values -/
def aDct1 (k : Key) (d : PyData) : AE := fun O _ _ Kc => ∀ p, Kc ((p, .dct [(k, .dat d)]) :: O) (.at p)
theorem de_dct1 {X : Cx} {W : WX} {k : Key} {v : V} {d : PyData} {ke ve : Expr} {pos : Pos} (hk : PE X ke (tC (kV k))) (hv : PE X ve (tC v)) (hd : ∀ ok H, Dq ok H v d) : DE X W (.Dict [some ke] [ve] pos) (aDct1 k d) := by
  refine ⟨_, pe_disp (pps_cons hk hv pps_nil) rfl rfl (by simp) (by simp), fun O ρ σ H Q Kc XX S kc q x p hp => ?_⟩
  refine ⟨upd_same, [(k, v)], rfl, by simp, ?_⟩
  rw [upd_upd]
  have hw : OwH X.K (fre ((p, .dct [(k, .dat d)]) :: O)) (upd H p (.dK [(k, v)])) p (.dct [(k, .dat d)]) := ⟨[(k, v)], upd_same, rfl, .cons (.dat (hd _ _)) .nil⟩
  obtain ⟨o2, f2⟩ := S.o.own hp hw
  exact q _ _ _ _ f2 o2 (.at p) (kc p)
/-! ## things into which something may be put again and again -/
def okM (N : Nat) : PyData → Bool
  | .list ds => (List.range (N + 1)).all (fun n => !PyData.hasDict (.list (ds ++ mores n)) && txB (.list (ds ++ mores n))) && decide (ds.length + N ≤ 800)
  | .dict kvs => oddOk5 (.dict kvs)
  | d => oddOk d
theorem oddM_veryN {N n : Nat} {O : Ob} {d : PyData} {c : Cl} {G : Ob} {Xf : Ob → Str → Cl → Prop} {Kc : KC} (h : OddM n d c G) (hn : n < N) (ok : okM N d = true) (k : ∀ G', OddM (n + 1) d c G' → Kc (G' ++ O) trD) : afVery (G ++ O) [c, c] Xf Kc := by
  cases h with
  | @lst a ds =>
    refine ⟨rfl, ?_⟩
    have ok' : ((List.range (N + 1)).all (fun n => !PyData.hasDict (.list (ds ++ mores n)) && txB (.list (ds ++ mores n))) && decide (ds.length + N ≤ 800)) = true := ok
    have z := Bool.and_eq_true_iff.mp ok'
    have z2 := (List.all_eq_true.mp z.1) (n + 1) (List.mem_range.mpr (by omega))
    have z3 := of_decide_eq_true z.2
    have z4 := Bool.and_eq_true_iff.mp z2
    have e : ds ++ mores (n + 1) = (ds ++ mores n) ++ [PyData.str "more"] := by
      unfold mores
      rw [List.replicate_succ', List.append_assoc]
    rw [e] at z4
    have kk := k _ (OddM.lst (n := n + 1) (a := a) ds)
    rw [e] at kk
    refine .inr (.inl ⟨a, ds ++ mores n, _, rfl, .here, ?_, by simpa using z4.1, .by z4.2, kk⟩)
    simp [mores]
    omega
  | imm h1 h2 =>
    have ok' : oddOk5 d = true := by cases d <;> first | exact ok | exact absurd rfl (h1 _)
    exact oddM_very (n := 0) (.imm h1 h2) (by decide) ok' fun G' om => by
      cases om
      exact k [] (.imm h1 h2)
  | @dct a kvs es hk hc =>
    cases n with
    | zero => exact oddM_very (n := 0) (.dct kvs es hk hc) (by decide) ok k
    | succ n =>
      have z := oddM_very (n := 1) (O := O) (Xf := Xf) (Kc := Kc) (OddM.dct (n := 1) (a := a) kvs es hk hc) (by decide) ok fun G' om => by
        cases om with
        | dct kvs2 es2 hk2 hc2 => exact k _ (OddM.dct (n := n + 1 + 1) (a := a) kvs es2 hk2 hc2)
      exact z
theorem OddM.rdN {n : Nat} {d : PyData} {c : Cl} {G O : Ob} (h : OddM n d c G) (m : ∀ x ∈ G, x ∈ O) (hz : szD d = true) (hn : n ≤ 1000) : RdA O c (rdM n d) := by
  cases h with
  | imm h1 h2 =>
    have z := OddM.rd (n := 0) (.imm h1 h2) m hz (by decide)
    cases d with
    | list ds => exact absurd rfl (h1 ds)
    | _ => exact z
  | lst ds =>
    have hz : ds.length < 900 := of_decide_eq_true hz
    exact rd_own (m _ (List.mem_cons_self ..)) (by rw [List.length_append]; simp [mores]; omega)
  | dct kvs es hk hc => exact ⟨_, .dct (m _ (List.mem_cons_self ..)), rfl⟩
/-- owned things, one behind another, each of which has got at most B mores -/
inductive Mos (B : Nat) (R : Ob) : List (PyData × Cl) → Ob → Prop
  | nil (X : Ob) : Mos B R [] (X ++ R)
  | cons {d : PyData} {c : Cl} {G : Ob} {n : Nat} {L : List (PyData × Cl)} {O : Ob} (X : Ob) (h : OddM n d c G) (hn : n ≤ B) (r : Mos B R L O) : Mos B R ((d, c) :: L) (X ++ (G ++ O))
theorem Mos.app {B : Nat} {R : Ob} {L : List (PyData × Cl)} {O : Ob} (h : Mos B R L O) (Y : Ob) : Mos B R L (Y ++ O) := by
  cases h with
  | nil X => rw [← List.append_assoc]; exact .nil _
  | cons X h hn r => rw [← List.append_assoc]; exact .cons _ h hn r
theorem Mos.up {B B' : Nat} {R : Ob} (k : B ≤ B') : ∀ {L : List (PyData × Cl)} {O : Ob}, Mos B R L O → Mos B' R L O
  | _, _, .nil X => .nil X
  | _, _, .cons X h hn r => .cons X h (Nat.le_trans hn k) (Mos.up k r)
/-- what stands behind them all -/
theorem Mos.rest {B : Nat} {R : Ob} : ∀ {L : List (PyData × Cl)} {O : Ob}, Mos B R L O → ∃ A, O = A ++ R ∧ ∀ R', Mos B R' L (A ++ R')
  | _, _, .nil X => ⟨X, rfl, fun R' => .nil X⟩
  | _, _, .cons (G := G) X h hn r => by
    obtain ⟨A, rfl, k⟩ := Mos.rest r
    exact ⟨X ++ (G ++ A), by simp, fun R' => by
      have z := Mos.cons X h hn (k R')
      simpa using z⟩
/-- one of them -/
theorem Mos.at {B : Nat} {R : Ob} : ∀ {L : List (PyData × Cl)} {O : Ob} {i : Nat} {d : PyData} {c : Cl}, Mos B R L O → L[i]? = some (d, c) → ∃ A G T n, O = A ++ (G ++ T) ∧ OddM n d c G ∧ n ≤ B ∧ ∀ B' G' n', B ≤ B' → OddM n' d c G' → n' ≤ B' → Mos B' R L (A ++ (G' ++ T))
  | _, _, i, _, _, .nil X, e => by simp at e
  | _, _, 0, _, _, .cons (G := G) X h hn r, e => by
    simp at e
    obtain ⟨rfl, rfl⟩ := e
    exact ⟨X, G, _, _, rfl, h, hn, fun B' G' n' hb h' hn' => .cons X h' hn' (r.up hb)⟩
  | _, _, i + 1, _, _, .cons (G := G) X h hn r, e => by
    obtain ⟨A, G1, T, n, rfl, h1, hn1, k⟩ := Mos.at (i := i) r (by simpa using e)
    exact ⟨X ++ (G ++ A), G1, T, n, by simp, h1, hn1, fun B' G' n' hb h' hn' => by
      have z := Mos.cons X h (Nat.le_trans hn hb) (k B' G' n' hb h' hn')
      simpa using z⟩
/-- one of them, or a thing that stays as it is -/
def MoIn (L : List (PyData × Cl)) (d : PyData) (c : Cl) : Prop := (d, c) ∈ L ∨ (c = .dat d ∧ (∀ ds, d ≠ .list ds) ∧ ∀ es, d ≠ .dict es)
theorem Mos.any {B : Nat} {R : Ob} {L : List (PyData × Cl)} {O : Ob} {d : PyData} {c : Cl} (h : Mos B R L O) (m : MoIn L d c) : ∃ A G T n, O = A ++ (G ++ T) ∧ OddM n d c G ∧ n ≤ B ∧ ∀ B' G' n', B ≤ B' → OddM n' d c G' → n' ≤ B' → Mos B' R L (A ++ (G' ++ T)) := by
  rcases m with m | ⟨rfl, h1, h2⟩
  · obtain ⟨i, hi⟩ := List.getElem?_of_mem m
    exact h.at hi
  · refine ⟨O, [], [], 0, by simp, .imm h1 h2, Nat.zero_le _, fun B' G' n' hb h' _ => ?_⟩
    cases h' with
    | imm _ _ => simpa using h.up hb
/-! ## isinstance of a refusal, of several classes -/
def rIsXT (K : PySem.W.Frag) (D a : Addr) (cls : Value) (d : Option Addr) : List V → Hp → VK → Prop := fun xs H Q =>
  ∃ (tp : Addr) (cs : List V) (us : List Value) (b : Bool) (dd : Addr) (fs : List (Str × V)), xs = [.ref a, .ref tp] ∧ H tp = some (.tup cs) ∧ Paired ClsV cs us ∧ cls = .ref D ∧ d = some dd ∧ H dd = some (.xd fs) ∧ PySem.W.kitAny K (.ref D) us = some b ∧ Q (.bl b) H
theorem call_isXT {X : Cx} {a D : Addr} {cls : Value} {d : Option Addr} {oe : Obj} {pn : List (Addr × Obj)} (C : ExcC X.K D) (hz : Zc cls d oe) (hf : ∃ vs, oe.data = .fields vs) : CallR (X.suite a ((a, oe) :: pn)) (.builtin "isinstance") (rIsXT X.K D a cls d) := by
  intro pins s σ H xs us Q I r h
  obtain ⟨tp, cs, ws, b, dd, fs, rfl, hT, hk, rfl, rfl, hdd, e, q⟩ := h
  obtain ⟨u1, u2, rfl, r1, r2⟩ := vals2 r
  cases (show u2 = Value.ref tp from r2)
  cases (show u1 = Value.ref a from r1)
  obtain ⟨hget, _⟩ := I.pin (a, oe) (List.mem_append.mpr (.inl List.mem_cons_self))
  obtain ⟨vs, hv⟩ := hf
  have hx : ObjOk X.prog X.w H s.heap dd (.xd fs) := I.hok dd _ hdd
  obtain ⟨mA, hns, _⟩ := hx
  obtain ⟨od, ho, _⟩ := lookIn_ns hns
  have J : PySem.W.InstAt s.heap a oe D (some od) := ⟨hget, hz.1, by unfold PySem.W.notCls; rw [hv] <;> rfl, by rw [hz.2]; exact ho⟩
  obtain ⟨cd, hc, _⟩ := PySem.W.any_some C.hd
  obtain ⟨_, its, rv, o, g1, g2, n, g3⟩ := (show ObjOk X.prog X.w H s.heap tp (.tup cs) from I.hok tp _ hT)
  have e3 := ClsV.all hk rv
  subst e3
  obtain ⟨oc, odd, dt, sl⟩ := o
  simp only at g2 g3
  subst g2 g3
  exact PySem.W.kia_tup (PySem.W.kitx_exc (by rw [hc]; rfl) C.hg C.hk C.hs C.ha C.hn C.ht C.hm) I.kIn J g1 e (fun z => nomatch z) fun tk => ⟨.bl b, H, I.kept (t' := tk) fun _ _ z => z, rfl, q⟩
def bIsXT (K : PySem.W.Frag) (x : Str) (a dd : Addr) : AB := fun O cs Kc => ∃ f c ys b, cs = [.exc a dd f c, .tup ((ys : List Str).map fun y => .raw (.ref (clsA K y)))] ∧ PySem.W.kitAny K (.ref (clsA K x)) (ys.map fun y => .ref (clsA K y)) = some b ∧ Kc O (.dat (.bool b))
theorem raws_cls {K : PySem.W.Frag} {ok : Addr → Prop} {H : Hp} : ∀ {ys : List Str} {xs : List V}, ClsH K ok H xs (ys.map fun y => .raw (.ref (clsA K y))) → Paired ClsV xs (ys.map fun y => Value.ref (clsA K y))
  | [], _, .nil => .nil
  | y :: ys, _, .cons h r => by
    rw [dq_raw h]
    exact .cons (.own _) (raws_cls r)
theorem sb_isXT {K : PySem.W.Frag} {x : Str} {a dd : Addr} : SRB K (rIsXT K (clsA K x) a (.ref (clsA K x)) (some dd)) (bIsXT K x a dd) := fun O H Q Kc cs vs o r ⟨f, c, ys, b, e, hk, k⟩ q => by
  subst e
  obtain ⟨v, w, rfl, rv, r2⟩ := cls2 r
  cases rv with
  | exc oo h rr =>
    cases r2 with
    | tup o2 h2 r2 => exact ⟨_, _, _, b, dd, _, rfl, h2, raws_cls r2, rfl, rfl, h, hk, q O _ _ H (Fr.refl _ _) o (.dat (.bl _)) k⟩
theorem raws_eq {K : PySem.W.Frag} : ∀ {ys zs : List Str}, (ys.map fun y => Cl.raw (.ref (clsA K y))) = (zs.map fun y => Cl.raw (.ref (clsA K y))) → (ys.map fun y => Value.ref (clsA K y)) = zs.map fun y => Value.ref (clsA K y)
  | [], [], _ => rfl
  | y :: ys, z :: zs, h => by
    obtain ⟨h1, h2⟩ := List.cons.inj h
    show Value.ref (clsA K y) :: ys.map _ = Value.ref (clsA K z) :: zs.map _
    rw [V.ref.inj (Cl.raw.inj h1), raws_eq h2]
theorem bIsXT_iff {K : PySem.W.Frag} {x f : Str} {b : Bool} {a dd : Addr} {O : Ob} {c t : Cl} {Kc : KC} (ys : List Str) (ht : t = .tup (ys.map fun y => .raw (.ref (clsA K y)))) (h : PySem.W.kitAny K (.ref (clsA K x)) (ys.map fun y => .ref (clsA K y)) = some b) : bIsXT K x a dd O [.exc a dd f c, t] Kc ↔ Kc O (.dat (.bool b)) := by
  subst ht
  constructor
  · rintro ⟨f', c', zs, b', e, h', k⟩
    have e2 := Cl.tup.inj (List.cons.inj (List.cons.inj e).2).1
    rw [← raws_eq e2, h] at h'
    rwa [Option.some.inj h']
  · intro k
    exact ⟨f, c, ys, b, rfl, h, k⟩
theorem w_isX2 {K : PySem.W.Frag} {x y0 y1 f : Str} {b0 b1 : Bool} {a dd : Addr} {O : Ob} {c : Cl} {Kc : KC} (h0 : PySem.W.kitOne K (.ref (clsA K x)) (.ref (clsA K y0)) = some b0) (h1 : PySem.W.kitOne K (.ref (clsA K x)) (.ref (clsA K y1)) = some b1) : bIsXT K x a dd O [.exc a dd f c, tupC [.raw (.ref (clsA K y0)), .raw (.ref (clsA K y1))]] Kc ↔ Kc O (.dat (.bool (b0 || b1))) := by
  have e : PySem.W.kitAny K (.ref (clsA K x)) ([y0, y1].map fun y => .ref (clsA K y)) = some (b0 || b1) := by
    simp only [List.map_cons, List.map_nil, PySem.W.kitAny, h0, h1]
    cases b0 <;> cases b1 <;> rfl
  exact bIsXT_iff [y0, y1] rfl e
theorem w_isX3 {K : PySem.W.Frag} {x y0 y1 y2 f : Str} {b0 b1 b2 : Bool} {a dd : Addr} {O : Ob} {c : Cl} {Kc : KC} (h0 : PySem.W.kitOne K (.ref (clsA K x)) (.ref (clsA K y0)) = some b0) (h1 : PySem.W.kitOne K (.ref (clsA K x)) (.ref (clsA K y1)) = some b1) (h2 : PySem.W.kitOne K (.ref (clsA K x)) (.ref (clsA K y2)) = some b2) : bIsXT K x a dd O [.exc a dd f c, tupC [.raw (.ref (clsA K y0)), .raw (.ref (clsA K y1)), .raw (.ref (clsA K y2))]] Kc ↔ Kc O (.dat (.bool (b0 || b1 || b2))) := by
  have e : PySem.W.kitAny K (.ref (clsA K x)) ([y0, y1, y2].map fun y => .ref (clsA K y)) = some (b0 || b1 || b2) := by
    simp only [List.map_cons, List.map_nil, PySem.W.kitAny, h0, h1, h2]
    cases b0 <;> cases b1 <;> cases b2 <;> rfl
  exact bIsXT_iff [y0, y1, y2] rfl e
theorem w_isX4 {K : PySem.W.Frag} {x y0 y1 y2 y3 f : Str} {b0 b1 b2 b3 : Bool} {a dd : Addr} {O : Ob} {c : Cl} {Kc : KC} (h0 : PySem.W.kitOne K (.ref (clsA K x)) (.ref (clsA K y0)) = some b0) (h1 : PySem.W.kitOne K (.ref (clsA K x)) (.ref (clsA K y1)) = some b1) (h2 : PySem.W.kitOne K (.ref (clsA K x)) (.ref (clsA K y2)) = some b2) (h3 : PySem.W.kitOne K (.ref (clsA K x)) (.ref (clsA K y3)) = some b3) : bIsXT K x a dd O [.exc a dd f c, tupC [.raw (.ref (clsA K y0)), .raw (.ref (clsA K y1)), .raw (.ref (clsA K y2)), .raw (.ref (clsA K y3))]] Kc ↔ Kc O (.dat (.bool (b0 || b1 || b2 || b3))) := by
  have e : PySem.W.kitAny K (.ref (clsA K x)) ([y0, y1, y2, y3].map fun y => .ref (clsA K y)) = some (b0 || b1 || b2 || b3) := by
    simp only [List.map_cons, List.map_nil, PySem.W.kitAny, h0, h1, h2, h3]
    cases b0 <;> cases b1 <;> cases b2 <;> cases b3 <;> rfl
  exact bIsXT_iff [y0, y1, y2, y3] rfl e
theorem w_isX5 {K : PySem.W.Frag} {x y0 y1 y2 y3 y4 f : Str} {b0 b1 b2 b3 b4 : Bool} {a dd : Addr} {O : Ob} {c : Cl} {Kc : KC} (h0 : PySem.W.kitOne K (.ref (clsA K x)) (.ref (clsA K y0)) = some b0) (h1 : PySem.W.kitOne K (.ref (clsA K x)) (.ref (clsA K y1)) = some b1) (h2 : PySem.W.kitOne K (.ref (clsA K x)) (.ref (clsA K y2)) = some b2) (h3 : PySem.W.kitOne K (.ref (clsA K x)) (.ref (clsA K y3)) = some b3) (h4 : PySem.W.kitOne K (.ref (clsA K x)) (.ref (clsA K y4)) = some b4) : bIsXT K x a dd O [.exc a dd f c, tupC [.raw (.ref (clsA K y0)), .raw (.ref (clsA K y1)), .raw (.ref (clsA K y2)), .raw (.ref (clsA K y3)), .raw (.ref (clsA K y4))]] Kc ↔ Kc O (.dat (.bool (b0 || b1 || b2 || b3 || b4))) := by
  have e : PySem.W.kitAny K (.ref (clsA K x)) ([y0, y1, y2, y3, y4].map fun y => .ref (clsA K y)) = some (b0 || b1 || b2 || b3 || b4) := by
    simp only [List.map_cons, List.map_nil, PySem.W.kitAny, h0, h1, h2, h3, h4]
    cases b0 <;> cases b1 <;> cases b2 <;> cases b3 <;> cases b4 <;> rfl
  exact bIsXT_iff [y0, y1, y2, y3, y4] rfl e
/-! ## a plain look at small things -/
def smEb : PyData → Bool
  | .int i => decide (i.natAbs < 2 ^ 40)
  | .bool _ => true
  | .none => true
  | .str x => decide (x.cps.size ≤ 41) && (PyData.str x).leavesShort 1921
  | _ => false
theorem smEb_sm {d : PyData} (h : smEb d = true) : SmE d := by
  cases d with
  | int i => exact sm_int (of_decide_eq_true h)
  | bool b => exact ⟨(tx_bool b 3).up (by decide) (by decide), by unfold PyData.hasDict; rfl⟩
  | none => exact ⟨(tx_non 3).up (by decide) (by decide), by unfold PyData.hasDict; rfl⟩
  | str x =>
    have h := Bool.and_eq_true_iff.mp h
    exact ⟨(tx_str x 3 h.2).up (of_decide_eq_true h.1) (by decide), by unfold PyData.hasDict; rfl⟩
  | list ds => cases h
  | tuple ds => cases h
  | dict ds => cases h
def okL (N : Nat) : PyData → Bool
  | .list ds => ds.all smEb && decide (ds.length + N ≤ 170)
  | .dict kvs => oddOk5 (.dict kvs)
  | d => oddOk d
theorem okM_sm {N : Nat} {ds : List PyData} (h : ∀ d ∈ ds, SmE d) (hl : ds.length + N ≤ 170) : okM N (.list ds) = true := by
  show ((List.range (N + 1)).all (fun n => !PyData.hasDict (.list (ds ++ mores n)) && txB (.list (ds ++ mores n))) && decide (ds.length + N ≤ 800)) = true
  rw [decide_eq_true (by omega), Bool.and_true, List.all_eq_true]
  intro n hn
  have hn6 := List.mem_range.mp hn
  rw [(sm_hd (sm_mores h n)).1, (sm_tx (sm_mores h n) (by rw [List.length_append]; simp [mores]; omega)).1]
  rfl
theorem okL_ok {N : Nat} {d : PyData} (h : okL N d = true) : okM N d = true := by
  cases d with
  | list ds =>
    have h := Bool.and_eq_true_iff.mp h
    exact okM_sm (fun d hd => smEb_sm (List.all_eq_true.mp h.1 d hd)) (of_decide_eq_true h.2)
  | _ => exact h
theorem at_pair {P : List (PyData × Cl)} {r : Int} (h0 : 0 ≤ r) (h1 : r < P.length) : ∃ x ∈ P, atI (P.map (·.2)) r = some x.2 := by
  obtain ⟨m, rfl⟩ := Int.eq_ofNat_of_zero_le h0
  have hm : m < P.length := by omega
  refine ⟨P[m], List.getElem_mem .., ?_⟩
  show atI (P.map (·.2)) ((m : Nat) : Int) = _
  rw [w_atN, List.getElem?_map, List.getElem?_eq_getElem hm]
  rfl
theorem Mos.c1 {B : Nat} {R : Ob} {L : List (PyData × Cl)} {O : Ob} {a : Addr} {ds : List PyData} (h : Mos B R L O) : Mos B R ((.list ds, .at a) :: L) ((a, .lst (ds.map Cl.dat)) :: O) := .cons [] (Odd.lst ds).m (Nat.zero_le _) h
theorem Mos.c2 {B : Nat} {R : Ob} {L : List (PyData × Cl)} {O : Ob} {a : Addr} {k : Key} {d : PyData} (h : Mos B R L O) : Mos B R ((.dict [(kD k, d)], .at a) :: L) ((a, .dct [(k, .dat d)]) :: O) := .cons [] (OddM.dct (n := 0) (a := a) [(kD k, d)] [(k, .dat d)] rfl rfl) (Nat.zero_le _) h
theorem Mos.sk {B : Nat} {R : Ob} {L : List (PyData × Cl)} {O : Ob} (x : Addr × Ow) (h : Mos B R L O) : Mos B R L (x :: O) := h.app [x]
theorem Mos.end {B : Nat} {R : Ob} : Mos B R [] R := .nil []
end Ab
namespace Ab
open PySem PySem.Spec PyProof.Rows L2 Vg
open Sem (wp)
/-! ## repr of data at any depth: dicts within, and numbers of up to 4300 figures -/
mutual
def AllI (P : Int → Prop) : PyData → Prop
  | .none => True
  | .bool _ => True
  | .str _ => True
  | .int i => P i
  | .list xs => AllIs P xs
  | .tuple xs => AllIs P xs
  | .dict kvs => AllKv P kvs
def AllIs (P : Int → Prop) : List PyData → Prop
  | [] => True
  | x :: xs => AllI P x ∧ AllIs P xs
def AllKv (P : Int → Prop) : List (PyData × PyData) → Prop
  | [] => True
  | (k, v) :: r => AllI P k ∧ AllI P v ∧ AllKv P r
end
theorem allKv_split {P : Int → Prop} : ∀ {kvs : List (PyData × PyData)}, AllKv P kvs → AllIs P (kvs.map (·.1)) ∧ AllIs P (kvs.map (·.2))
  | [], _ => by simp only [List.map_nil, AllIs, and_self]
  | (k, v) :: r, h => by
    have h' : AllI P k ∧ AllI P v ∧ AllKv P r := by simpa only [AllKv] using h
    obtain ⟨h1, h2⟩ := allKv_split h'.2.2
    simp only [List.map_cons, AllIs]
    exact ⟨⟨h'.1, h1⟩, h'.2.1, h2⟩
/-- a number whose text is to be had: a short one, or any up to the limit where no other limit is set -/
def OkI (nd : Prop) (i : Int) : Prop := i.natAbs.log2 < 1920 ∨ (nd ∧ i.natAbs < 10 ^ 4300)
mutual
inductive RdV (h : Heap) : Value → PyData → Prop
  | none : RdV h .none .none
  | bool (b) : RdV h (.bool b) (.bool b)
  | int (i t) : RdV h (.int i t) (.int i)
  | str (x t) : RdV h (.str x t) (.str x)
  | list {a o vs n xs} : h.get? a = some o → o.cls = .type "list" → o.data = .seq vs n → RdVs h vs.toList xs → RdV h (.ref a) (.list xs)
  | tuple {a o vs n xs} : h.get? a = some o → o.cls = .type "tuple" → o.data = .seq vs n → RdVs h vs.toList xs → RdV h (.ref a) (.tuple xs)
  | dict {a o es n kvs} : h.get? a = some o → o.cls = .type "dict" → o.data = .dict es n → (a == sysModules) = false → RdVs h (es.toList.map (·.key)) (kvs.map (·.1)) → RdVs h (es.toList.map (·.val)) (kvs.map (·.2)) → RdV h (.ref a) (.dict kvs)
inductive RdVs (h : Heap) : List Value → List PyData → Prop
  | nil : RdVs h [] []
  | cons {v vs d ds} : RdV h v d → RdVs h vs ds → RdVs h (v :: vs) (d :: ds)
end
mutual
theorem RdV.reads {h : Heap} : ∀ {v : Value} {d : PyData}, RdV h v d → ∃ as, Reads h v d as
  | _, _, .none => ⟨_, .none⟩
  | _, _, .bool b => ⟨_, .bool b⟩
  | _, _, .int i t => ⟨_, .int i t⟩
  | _, _, .str x t => ⟨_, .str x t⟩
  | _, _, .list e c z r => let ⟨_, r⟩ := RdVs.reads r; ⟨_, .list e c z r⟩
  | _, _, .tuple e c z r => let ⟨_, r⟩ := RdVs.reads r; ⟨_, .tuple e c z r⟩
  | _, _, .dict e c z _ r q => let ⟨_, r⟩ := RdVs.reads r; let ⟨_, q⟩ := RdVs.reads q; ⟨_, .dict e c z r q⟩
theorem RdVs.reads {h : Heap} : ∀ {vs : List Value} {ds : List PyData}, RdVs h vs ds → ∃ as, ReadsAll h vs ds as
  | _, _, .nil => ⟨_, .nil⟩
  | _, _, .cons a b => let ⟨_, a⟩ := RdV.reads a; let ⟨_, b⟩ := RdVs.reads b; ⟨_, .cons a b⟩
end
section
variable {prog : Program} {w : World} {h₀ : Heap} {A : Around} {E : Value → Shared → Prop} {s : Shared}
theorem call_int_repr_big {a : Int} {t : Tok} {Q : Value → Shared → Prop} (hn : s.heap.NoDigits) (hlt : a.natAbs < 10 ^ 4300) (h1 : Q (.str (toString a) s.toks) { s with toks := s.toks + 1 }) :
    wpAny (model prog w) A (call (.builtin "int.__repr__") [.int a t]) Q E s := by
  refine wpAny_call_entry F.slot_int_repr (typeIs_int s a t) F.entry_int_repr ?_ (F.args_int_repr_1 _)
  unfold Builtin.«int.__repr__»
  show wpAny _ _ (do let r ← Builtin.overDigitLimit? a; _) _ _ s
  refine wpAny_bind (overDigitLimit_any hn (fun _ => ?_) (fun hge => absurd hlt (Nat.not_lt.mpr hge)))
  exact wpAny_bind (wpAny_mkStr (wpAny_pure ⟨_, rfl, h1⟩) (int_text_fits10 hlt))
theorem pyReprObj_big {a : Int} {t : Tok} {Q : Value → Shared → Prop} (hn : s.heap.NoDigits) (hlt : a.natAbs < 10 ^ 4300) (h : Q (.str (toString a) s.toks) { s with toks := s.toks + 1 }) :
    wpAny (model prog w) A (pyReprObj (.int a t)) Q E s := by
  unfold pyReprObj
  have hv : [Value.int a t].any Value.onHeap = false := rfl
  simp only [cRoomFor, hv, Bool.false_eq_true, if_false, pure_bind]
  refine wpAny_bind (wpAny_specialOf (name := Str.ofString "__repr__") (typeIs_int s a t) F.slot_int_repr.lookup ?_)
  refine wpAny_bind (m := callSpecialIfBound? (.int a t) (Str.ofString "__repr__")) (wpAny_callSpecialIfBound?_slot (name := Str.ofString "__repr__") (typeIs_int s a t) F.slot_int_repr (call_int_repr_big hn hlt ?_))
  exact wpAny_bind (wpAny_isInstance (T := "str") (b := true) rfl isSubtype_str_str (wpAny_pure h))
theorem repr_of_big {a : Int} {t : Tok} {Q : Value → Shared → Prop} (hn : s.heap.NoDigits) (hlt : a.natAbs < 10 ^ 4300) (h : Q (.str (toString a) s.toks) { s with toks := s.toks + 1 }) :
    wpAny (model prog w) A (call (.builtin "repr") [.int a t]) Q E s := by
  refine Calls.call_function_entry F.kind_repr F.plain_repr F.entry_repr (F.args_repr1 _) ?_
  unfold Builtin.«repr»
  refine wpAny_bind (m := oneArg "repr" _) (wpAny_pure ?_)
  have hv : [Value.int a t].any Value.onHeap = false := rfl
  simp only [cRoomFor, hv, Bool.false_eq_true, if_false, pure_bind]
  refine wpAny_bind (wpAny_specialOf (name := Str.ofString "__repr__") (typeIs_int s a t) F.slot_int_repr.lookup ?_)
  refine wpAny_bind (m := callSpecialIfBound? (.int a t) (Str.ofString "__repr__")) (wpAny_callSpecialIfBound?_slot (name := Str.ofString "__repr__") (typeIs_int s a t) F.slot_int_repr (call_int_repr_big hn hlt ?_))
  refine wpAny_bind (wpAny_isInstance (T := "str") (b := true) rfl isSubtype_str_str ?_)
  exact wpAny_pure ⟨_, rfl, h⟩
/-- the text of a value may be asked for; what is walked through on the way lies no deeper than it -/
def Rp (prog : Program) (w : World) (h₀ : Heap) (v : Value) (d : PyData) : Prop := ∃ bs, ReadAtMost h₀ d.depth bs ∧ ReprK prog w bs h₀ d.depth v d.shown
def RpL (prog : Program) (w : World) (h₀ : Heap) (vs : List Value) (ds : List PyData) : Prop := ∃ bs, ReadAtMost h₀ (PyData.depthAll ds) bs ∧ ReprAllK prog w bs h₀ (PyData.depthAll ds) vs (PyData.shownAll ds)
theorem rp_leaf {v : Value} {d : PyData} (k : ReprK prog w [] h₀ d.depth v d.shown) : Rp prog w h₀ v d := ⟨[], (fun b hb => by cases hb), k⟩
theorem rp_int {a : Int} {t : Tok} (h : OkI h₀.NoDigits a) : Rp prog w h₀ (.int a t) (.int a) := by
  refine rp_leaf ?_
  rw [show (PyData.int a).shown = toString a by simp only [PyData.shown]]
  rcases h with small | ⟨none, big⟩
  · exact .of_is (ReprIs.int t small) _ _ _
  · intro before room A g E s Q _ _ _ kept told
    have l : before ≤ sizeLine := by omega
    rw [pyReprUnder_leaf (v := .int a t) l (by intro _ z; cases z)]
    unfold pyRepr
    exact wpAny_bind (pyReprObj_big (none.keeps kept) big (wpAny_pure (told s.heap _ fun _ _ z => z)))
theorem rpl_nil : RpL prog w h₀ [] [] := ⟨[], (fun b hb => by cases hb), by simp only [PyData.shownAll]; exact .nil⟩
theorem rpl_cons {v : Value} {vs : List Value} {d : PyData} {ds : List PyData} (one : Rp prog w h₀ v d) (rest : RpL prog w h₀ vs ds) : RpL prog w h₀ (v :: vs) (d :: ds) := by
  obtain ⟨b1, low1, k1⟩ := one
  obtain ⟨b2, low2, k2⟩ := rest
  have e : PyData.depthAll (d :: ds) = max d.depth (PyData.depthAll ds) := by simp only [PyData.depthAll]
  have m1 : d.depth ≤ PyData.depthAll (d :: ds) := by omega
  have m2 : PyData.depthAll ds ≤ PyData.depthAll (d :: ds) := by omega
  refine ⟨b1 ++ b2, (low1.mono m1).append (low2.mono m2), ?_⟩
  rw [show PyData.shownAll (d :: ds) = d.shown :: PyData.shownAll ds by simp only [PyData.shownAll]]
  exact .cons ((k1.more (List.subset_append_left b1 b2)).level_le m1) (k2.more_le (List.subset_append_right b1 b2) m2)
/-- an object stands in none of those that it holds -/
theorem rp_box {a : Addr} {d : PyData} {bs : List Addr} {n : Nat} (r : RdV h₀ (.ref a) d) (hn : n < d.depth) (low : ReadAtMost h₀ n bs) : a ∉ bs ∧ ReadAtMost h₀ d.depth (a :: bs) := by
  obtain ⟨_, rd⟩ := r.reads
  exact ⟨not_mem_of_deeper rd hn low, .cons rd (Nat.le_of_lt hn) low⟩
theorem allIs_mem {ts : List Str} {z : Nat} (h : ∀ t ∈ ts, t.length ≤ z) (k : z ≤ sizeLine) : ∀ t ∈ ts, t.length ≤ sizeLine := fun t ht => Nat.le_trans (h t ht) k
theorem depth_kv (kvs : List (PyData × PyData)) : (PyData.dict kvs).depth = PyData.depthKv kvs + 1 := by simp only [PyData.depth]
/-- keys and values of a dict together -/
theorem rp_kv {es : List DictEntry} {kvs : List (PyData × PyData)} (ks : RpL prog w h₀ (es.map (·.key)) (kvs.map (·.1))) (vs : RpL prog w h₀ (es.map (·.val)) (kvs.map (·.2))) :
    ∃ bs, ReadAtMost h₀ (PyData.depthKv kvs) bs ∧ ReprEntriesK prog w bs h₀ (PyData.depthKv kvs) es (PyData.shownKv kvs) := by
  obtain ⟨b1, low1, k1⟩ := ks
  obtain ⟨b2, low2, k2⟩ := vs
  have m1 := PyData.depthAll_keys_le kvs
  have m2 := PyData.depthAll_vals_le kvs
  refine ⟨b1 ++ b2, (low1.mono m1).append (low2.mono m2), ?_⟩
  rw [PyData.shownKv_eq]
  exact .of_two es _ _ (k1.more_le (List.subset_append_left b1 b2) m1) (k2.more_le (List.subset_append_right b1 b2) m2)
theorem key_fits {kvs : List (PyData × PyData)} (h : (PyData.dict kvs).shown.length ≤ sizeLine) : (∀ t ∈ PyData.shownAll (kvs.map (·.1)), t.length ≤ sizeLine) ∧ ∀ t ∈ PyData.shownAll (kvs.map (·.2)), t.length ≤ sizeLine := by
  have z : (dictText (PyData.shownKv kvs)).length ≤ sizeLine := by simpa only [PyData.shown] using h
  constructor
  · intro t ht
    obtain ⟨p, hp, hl⟩ := PyData.shownKv_key_le kvs t ht
    have := dictText_mem_le hp
    omega
  · intro t ht
    obtain ⟨p, hp, hl⟩ := PyData.shownKv_val_le kvs t ht
    have := dictText_mem_le hp
    omega
theorem list_fits {xs : List PyData} (h : (PyData.list xs).shown.length ≤ sizeLine) : ∀ t ∈ PyData.shownAll xs, t.length ≤ sizeLine := by
  have z : (listText (PyData.shownAll xs)).length ≤ sizeLine := by simpa only [PyData.shown] using h
  exact allIs_mem (fun t ht => listText_mem_le ht) z
theorem tuple_fits {xs : List PyData} (h : (PyData.tuple xs).shown.length ≤ sizeLine) : ∀ t ∈ PyData.shownAll xs, t.length ≤ sizeLine := by
  have z : (tupleText (PyData.shownAll xs)).length ≤ sizeLine := by simpa only [PyData.shown] using h
  exact allIs_mem (fun t ht => tupleText_mem_le ht) z
theorem rp_list {a : Addr} {o : Obj} {vs : Array Value} {n : Nat} {xs : List PyData} (h1 : h₀.get? a = some o) (h2 : o.cls = .type "list") (h3 : o.data = .seq vs n) (h4 : RdVs h₀ vs.toList xs) (k : RpL prog w h₀ vs.toList xs) : Rp prog w h₀ (.ref a) (.list xs) := by
  obtain ⟨bs, low, k⟩ := k
  have e : (PyData.list xs).depth = PyData.depthAll xs + 1 := by simp only [PyData.depth]
  obtain ⟨off, low'⟩ := rp_box (.list h1 h2 h3 h4) (by omega) low
  refine ⟨a :: bs, low', ?_⟩
  rw [e, show (PyData.list xs).shown = listText (PyData.shownAll xs) by simp only [PyData.shown]]
  match vs, h3, h4, k with
  | ⟨[]⟩, h3, .nil, _ => rw [show PyData.shownAll [] = [] by simp only [PyData.shownAll], listText_nil]; exact ReprK.listEmpty h1 h2 h3
  | ⟨x :: l⟩, h3, _, k => exact ReprK.list h1 h2 h3 off (by have := k.length_eq; simpa using this) fun i y z => k.item i y (by simpa using z)
theorem rp_tuple {a : Addr} {o : Obj} {vs : Array Value} {n : Nat} {xs : List PyData} (h1 : h₀.get? a = some o) (h2 : o.cls = .type "tuple") (h3 : o.data = .seq vs n) (h4 : RdVs h₀ vs.toList xs) (k : RpL prog w h₀ vs.toList xs) : Rp prog w h₀ (.ref a) (.tuple xs) := by
  obtain ⟨bs, low, k⟩ := k
  have e : (PyData.tuple xs).depth = PyData.depthAll xs + 1 := by simp only [PyData.depth]
  obtain ⟨off, low'⟩ := rp_box (.tuple h1 h2 h3 h4) (by omega) low
  refine ⟨a :: bs, low', ?_⟩
  rw [e, show (PyData.tuple xs).shown = tupleText (PyData.shownAll xs) by simp only [PyData.shown]]
  exact ReprK.tuple h1 h2 h3 off k
theorem rp_dict {a : Addr} {o : Obj} {es : Array DictEntry} {n : Nat} {kvs : List (PyData × PyData)} (h1 : h₀.get? a = some o) (h2 : o.cls = .type "dict") (h3 : o.data = .dict es n) (h0 : (a == sysModules) = false) (h4 : RdVs h₀ (es.toList.map (·.key)) (kvs.map (·.1))) (h5 : RdVs h₀ (es.toList.map (·.val)) (kvs.map (·.2)))
    (k : RpL prog w h₀ (es.toList.map (·.key)) (kvs.map (·.1))) (l : RpL prog w h₀ (es.toList.map (·.val)) (kvs.map (·.2))) : Rp prog w h₀ (.ref a) (.dict kvs) := by
  obtain ⟨bs, low, k⟩ := rp_kv k l
  obtain ⟨off, low'⟩ := rp_box (.dict h1 h2 h3 h0 h4 h5) (by rw [depth_kv]; omega) low
  refine ⟨a :: bs, low', ?_⟩
  rw [depth_kv, show (PyData.dict kvs).shown = dictText (PyData.shownKv kvs) by simp only [PyData.shown]]
  exact ReprK.dict h1 h2 h3 h0 off k
mutual
theorem rp_of : ∀ {v : Value} {d : PyData}, RdV h₀ v d → AllI (OkI h₀.NoDigits) d → d.shown.length ≤ sizeLine → Rp prog w h₀ v d
  | _, _, .none, _, _ => rp_leaf (by simp only [PyData.shown]; exact .of_is .none _ _ _)
  | _, _, .bool b, _, _ => rp_leaf (by simp only [PyData.shown]; exact .of_is (.bool b) _ _ _)
  | _, _, .int i t, h, _ => rp_int (by simpa only [AllI] using h)
  | _, _, .str x t, _, z => rp_leaf (by simp only [PyData.shown] at z ⊢; exact .of_is (.str x t z) _ _ _)
  | _, _, .list h1 h2 h3 h4, h, z => rp_list h1 h2 h3 h4 (rpl_of h4 (by simpa only [AllI] using h) (list_fits z))
  | _, _, .tuple h1 h2 h3 h4, h, z => rp_tuple h1 h2 h3 h4 (rpl_of h4 (by simpa only [AllI] using h) (tuple_fits z))
  | _, _, .dict h1 h2 h3 h0 h4 h5, h, z => by
    have sp := allKv_split (by simpa only [AllI] using h)
    exact rp_dict h1 h2 h3 h0 h4 h5 (rpl_of h4 sp.1 (key_fits z).1) (rpl_of h5 sp.2 (key_fits z).2)
theorem rpl_of : ∀ {vs : List Value} {ds : List PyData}, RdVs h₀ vs ds → AllIs (OkI h₀.NoDigits) ds → (∀ t ∈ PyData.shownAll ds, t.length ≤ sizeLine) → RpL prog w h₀ vs ds
  | _, _, .nil, _, _ => rpl_nil
  | _, _, .cons (d := d) (ds := ds) r rs, h, z => by
    have h' : AllI (OkI h₀.NoDigits) d ∧ AllIs (OkI h₀.NoDigits) ds := by simpa only [AllIs] using h
    have e : PyData.shownAll (d :: ds) = d.shown :: PyData.shownAll ds := by simp only [PyData.shownAll]
    rw [e] at z
    exact rpl_cons (rp_of r h'.1 (z _ (List.mem_cons_self ..))) (rpl_of rs h'.2 fun t ht => z t (List.mem_cons_of_mem _ ht))
end
/-- repr of an object that reads so -/
theorem repr_rdv {a : Addr} {d : PyData} {Q : Value → Shared → Prop} (r : RdV s.heap (.ref a) d) (hs : AllI (OkI s.heap.NoDigits) d) (hg : A.guards = some []) (hu : A.units + (d.depth + 1) < cLine)
    (hQ : ∀ h' u tk, (∀ b o, s.heap.get? b = some o → h'.get? b = some o) → Q (.str d.shown u) { s with heap := h', toks := tk }) (hsz : d.shown.length ≤ sizeLine) :
    wpAny (model prog w) A (call (.builtin "repr") [.ref a]) Q E s := by
  have out : ∀ h' u tk, (∀ b o, s.heap.get? b = some o → h'.get? b = some o) → ∃ x t, Value.str d.shown u = Value.str x t ∧ Q (.str d.shown u) { s with heap := h', toks := tk } := fun h' u tk k => ⟨_, _, rfl, hQ h' u tk k⟩
  cases r with
  | @list _ o vs n xs h1 h2 h3 h4 =>
    obtain ⟨bs, low, k⟩ := rpl_of (prog := prog) (w := w) h4 (by simpa only [AllI] using hs) (list_fits hsz)
    have e : (PyData.list xs).depth = PyData.depthAll xs + 1 := by simp only [PyData.depth]
    obtain ⟨off, _⟩ := rp_box (.list h1 h2 h3 h4) (by omega) low
    rw [show (PyData.list xs).shown = listText (PyData.shownAll xs) by simp only [PyData.shown]] at out hsz
    refine call_repr_slot (by omega) ⟨o, h1, h2⟩ F.slot_list_repr.toG ?_
    match vs, h3, h4, k with
    | ⟨[]⟩, h3, .nil, _ =>
      rw [show PyData.shownAll [] = [] by simp only [PyData.shownAll], listText_nil] at out
      exact call_list_repr_empty ⟨o, h1, h2⟩ h1 h3 (out s.heap _ _ fun _ _ z => z)
    | ⟨x :: l⟩, h3, _, k =>
      exact call_list_reprK h1 h2 h3 off (by have := k.length_eq; simpa using this) (fun i y z => k.item i y (by simpa using z)) (A := A.in1) hg (fun b _ => Clear.nil b) (by show A.units + 1 + _ < cLine; omega) (fun _ _ z => z) out hsz
  | @tuple _ o vs n xs h1 h2 h3 h4 =>
    obtain ⟨bs, low, k⟩ := rpl_of (prog := prog) (w := w) h4 (by simpa only [AllI] using hs) (tuple_fits hsz)
    have e : (PyData.tuple xs).depth = PyData.depthAll xs + 1 := by simp only [PyData.depth]
    obtain ⟨off, _⟩ := rp_box (.tuple h1 h2 h3 h4) (by omega) low
    rw [show (PyData.tuple xs).shown = tupleText (PyData.shownAll xs) by simp only [PyData.shown]] at out hsz
    refine call_repr_slot (by omega) ⟨o, h1, h2⟩ F.slot_tuple_repr ?_
    exact call_tuple_reprK h1 h2 h3 off k (A := A.in1) hg (fun b _ => Clear.nil b) (by show A.units + 1 + _ < cLine; omega) (fun _ _ z => z) out hsz
  | @dict _ o es n kvs h1 h2 h3 h0 h4 h5 =>
    have sp := allKv_split (P := OkI s.heap.NoDigits) (kvs := kvs) (by simpa only [AllI] using hs)
    obtain ⟨bs, low, k⟩ := rp_kv (prog := prog) (w := w) (rpl_of h4 sp.1 (key_fits hsz).1) (rpl_of h5 sp.2 (key_fits hsz).2)
    obtain ⟨off, _⟩ := rp_box (.dict h1 h2 h3 h0 h4 h5) (by rw [depth_kv]; omega) low
    rw [depth_kv] at hu
    rw [show (PyData.dict kvs).shown = dictText (PyData.shownKv kvs) by simp only [PyData.shown]] at out hsz
    refine call_repr_slot (by omega) ⟨o, h1, h2⟩ F.slot_dict_repr ?_
    exact call_dict_reprK h1 h2 h3 h0 off k (A := A.in1) hg (fun b _ => Clear.nil b) (by show A.units + 1 + _ < cLine; omega) (fun _ _ z => z) out hsz
end
/-! ### what a value tells: none, bools, numbers, texts, lists, tuples, dicts -/
mutual
inductive Dn (K : PySem.W.Frag) (H : Hp) : V → PyData → Prop
  | non : Dn K H .non .none
  | bl (b : Bool) : Dn K H (.bl b) (.bool b)
  | int (i : Int) : Dn K H (.int i) (.int i)
  | str (x : Str) : Dn K H (.str x) (.str x)
  | lst {a : Addr} {xs : List V} {ds : List PyData} (h : SqL K H a xs) (r : DnL K H xs ds) : Dn K H (.ref a) (.list ds)
  | tup {a : Addr} {xs : List V} {ds : List PyData} (h : SqT K H a xs) (r : DnL K H xs ds) : Dn K H (.ref a) (.tuple ds)
  | dct {a : Addr} {kvs : List (Key × V)} {es : List (PyData × PyData)} (h : H a = some (.dK kvs)) (k : kvs.map (fun kv => kD kv.1) = es.map (·.1)) (r : DnL K H (kvs.map (·.2)) (es.map (·.2))) : Dn K H (.ref a) (.dict es)
inductive DnL (K : PySem.W.Frag) (H : Hp) : List V → List PyData → Prop
  | nil : DnL K H [] []
  | cons {v : V} {vs : List V} {d : PyData} {ds : List PyData} (h : Dn K H v d) (r : DnL K H vs ds) : DnL K H (v :: vs) (d :: ds)
end
theorem keys_rdv {P : Program} {w : World} {h : Heap} : ∀ {kvs : List (Key × V)} {ks : List PyData} {vs : List (Key × Value)} {ents : List DictEntry}, kvs.map (fun kv => kD kv.1) = ks → KV kvs vs → Pairs (mixKind P w) ents vs → RdVs h (ents.map (·.key)) ks
  | _, _, _, _, rfl, .nil, .nil => .nil
  | _, _, _, _, rfl, .cons ⟨a1, a2⟩ r, .cons k1 k2 k3 => by
    refine RdVs.cons ?_ (keys_rdv rfl r k3)
    have k1' : keyIs _ _ = true := k1
    rw [← a1] at k1'
    rcases keyIs_shape k1' with ⟨i, t, e1, e2⟩ | ⟨x, t, e1, e2⟩
    · dsimp only; rw [e1, e2]; exact .int i t
    · dsimp only; rw [e1, e2]; exact .str x t
theorem vals_rdv {P : Program} {w : World} : ∀ {kvs : List (Key × V)} {vs : List (Key × Value)} {ents : List DictEntry}, KV kvs vs → Pairs (mixKind P w) ents vs → Vals (kvs.map (·.2)) (ents.map (·.val))
  | _, _, _, .nil, .nil => .nil
  | _, _, _, .cons ⟨a1, a2⟩ r, .cons k1 k2 k3 => by
    refine Paired.cons ?_ (vals_rdv r k3)
    dsimp only; rw [k2]; exact a2
section
variable {X : Cx} {pins : List (Addr × Obj)} {σ : L2.St} {H : Hp} {s : Shared}
mutual
theorem Dn.rdv (I : Inv X pins σ H s) : ∀ {v : V} {d : PyData} {u : Value}, Dn X.K H v d → RelV v u → RdV s.heap u d
  | _, _, _, .non, r => by cases r; exact .none
  | _, _, _, .bl b, r => by cases r; exact .bool b
  | _, _, _, .int i, r => by obtain ⟨t, rfl⟩ := r; exact .int i t
  | _, _, _, .str x, r => by obtain ⟨t, rfl⟩ := r; exact .str x t
  | _, _, _, .lst hs ha, r => by
    cases r
    obtain ⟨its, rv, ⟨o, n, ho, hc, _, hd⟩, _⟩ := I.list hs
    exact .list ho hc hd (DnL.rdv I ha rv)
  | _, _, _, .tup hs ha, r => by
    cases r
    obtain ⟨its, rv, ⟨o, ho, hc, n, hd⟩, _⟩ := I.tuple hs
    exact .tuple ho hc hd (DnL.rdv I ha rv)
  | _, _, _, .dct (a := a) (kvs := kvs) h k ra, r => by
    cases r
    obtain ⟨_, na, vs, rv, o, ents, ep, ho, hx, hdat, _, hp, _⟩ := (show ObjOk X.prog X.w H s.heap a (.dK kvs) from I.hok a _ h)
    exact .dict ho hx.1 hdat na (keys_rdv k rv hp) (DnL.rdv I ra (vals_rdv rv hp))
theorem DnL.rdv (I : Inv X pins σ H s) : ∀ {vs : List V} {ds : List PyData} {us : List Value}, DnL X.K H vs ds → Vals vs us → RdVs s.heap us ds
  | _, _, _, .nil, r => by cases r; exact .nil
  | _, _, _, .cons h1 h2, r => by
    cases r with
    | cons r1 r2 => exact .cons (Dn.rdv I h1 r1) (DnL.rdv I h2 r2)
end
end
/-- no other limit of figures is set -/
structure Nod (K : PySem.W.Frag) : Prop where
  no : PySem.W.nsIn K cStatics "sys.int_max_str_digits" = some none
theorem Nod.heap {K : PySem.W.Frag} {h : Heap} (n : Nod K) (X : K.In h) (l : h.NoLimit) : h.NoDigits := by
  obtain ⟨mc, hns, _⟩ := l
  exact ⟨mc, hns, PySem.W.ns_none_of X hns n.no⟩
mutual
theorem AllI.mono {P Q : Int → Prop} (f : ∀ i, P i → Q i) : ∀ {d : PyData}, AllI P d → AllI Q d
  | .none, _ => by simp only [AllI]
  | .bool _, _ => by simp only [AllI]
  | .str _, _ => by simp only [AllI]
  | .int i, h => by simp only [AllI] at h ⊢; exact f i h
  | .list xs, h => by simp only [AllI] at h ⊢; exact AllIs.mono f h
  | .tuple xs, h => by simp only [AllI] at h ⊢; exact AllIs.mono f h
  | .dict kvs, h => by simp only [AllI] at h ⊢; exact AllKv.mono f h
theorem AllIs.mono {P Q : Int → Prop} (f : ∀ i, P i → Q i) : ∀ {ds : List PyData}, AllIs P ds → AllIs Q ds
  | [], _ => by simp only [AllIs]
  | d :: ds, h => by simp only [AllIs] at h ⊢; exact ⟨AllI.mono f h.1, AllIs.mono f h.2⟩
theorem AllKv.mono {P Q : Int → Prop} (f : ∀ i, P i → Q i) : ∀ {ds : List (PyData × PyData)}, AllKv P ds → AllKv Q ds
  | [], _ => by simp only [AllKv]
  | (k, v) :: ds, h => by simp only [AllKv] at h ⊢; exact ⟨AllI.mono f h.1, AllI.mono f h.2.1, AllKv.mono f h.2.2⟩
end
mutual
theorem allI_show {b : Prop} : ∀ {d : PyData}, d.showable = true → AllI (OkI b) d
  | .none, _ => by simp only [AllI]
  | .bool _, _ => by simp only [AllI]
  | .str _, _ => by simp only [AllI]
  | .int i, h => by simp only [AllI]; exact .inl (by simpa only [PyData.showable, decide_eq_true_eq] using h)
  | .list xs, h => by simp only [AllI]; exact allIs_show (by simpa only [PyData.showable] using h)
  | .tuple xs, h => by simp only [AllI]; exact allIs_show (by simpa only [PyData.showable] using h)
  | .dict kvs, h => by simp only [AllI]; exact allKv_show (by simpa only [PyData.showable] using h)
theorem allIs_show {b : Prop} : ∀ {ds : List PyData}, PyData.showableAll ds = true → AllIs (OkI b) ds
  | [], _ => by simp only [AllIs]
  | d :: ds, h => by
    simp only [AllIs]
    have h' := Bool.and_eq_true_iff.mp (show (PyData.showable d && PyData.showableAll ds) = true by simpa only [PyData.showableAll] using h)
    exact ⟨allI_show h'.1, allIs_show h'.2⟩
theorem allKv_show {b : Prop} : ∀ {ds : List (PyData × PyData)}, PyData.showableKv ds = true → AllKv (OkI b) ds
  | [], _ => by simp only [AllKv]
  | (k, v) :: ds, h => by
    simp only [AllKv]
    have h' := Bool.and_eq_true_iff.mp (show ((PyData.showable k && PyData.showable v) && PyData.showableKv ds) = true by simpa only [PyData.showableKv] using h)
    have h2 := Bool.and_eq_true_iff.mp h'.1
    exact ⟨allI_show h2.1, allI_show h2.2, allKv_show h'.2⟩
end
theorem cr_reprG {X : Cx} {b : Prop} (hg : X.A.guards = some []) (hu : X.A.units + 64 < cLine) (hn : b → Nod X.K) :
    CallR X (.builtin "repr") (fun xs H Q => ∃ x d, xs = [x] ∧ Dn X.K H x d ∧ AllI (OkI b) d ∧ d.depth ≤ 50 ∧ d.shown.length ≤ sizeLine ∧ Q (.str d.shown) H) := by
  intro pins s σ H xs us Q I r h
  obtain ⟨x, d, rfl, hd, hs, hdep, hz, q⟩ := h
  obtain ⟨u, rfl, ru⟩ := one_val r
  have hs : AllI (OkI s.heap.NoDigits) d := hs.mono fun i hi => hi.imp id fun z => ⟨(hn z.1).heap I.kIn I.nolimit, z.2⟩
  have rd := hd.rdv I ru
  cases hd with
  | non =>
    cases ru
    exact PySem.P.repr_of_none ⟨.str _, H, I.tok _, ⟨_, rfl⟩, q⟩
  | bl b =>
    cases ru
    refine PySem.P.repr_of_bool ⟨.str _, H, I.tok _, ⟨_, rfl⟩, ?_⟩
    cases b <;> exact q
  | int i =>
    obtain ⟨t, rfl⟩ := ru
    have hi : OkI s.heap.NoDigits i := by simpa only [AllI] using hs
    rcases hi with hi | ⟨hn, hi⟩
    · exact PySem.P.repr_of_int hi ⟨.str _, H, I.tok _, ⟨_, rfl⟩, q⟩
    · exact repr_of_big hn hi ⟨.str _, H, I.tok _, ⟨_, rfl⟩, q⟩
  | str z =>
    obtain ⟨t, rfl⟩ := ru
    exact PySem.P.repr_of_str ⟨.str _, H, I.tok _, ⟨_, rfl⟩, q⟩ (hsz := hz)
  | lst hl ha =>
    cases ru
    exact repr_rdv rd hs hg (by omega) (fun h' u tk hk => ⟨.str _, H, I.kept hk, ⟨_, rfl⟩, q⟩) hz
  | tup hl ha =>
    cases ru
    exact repr_rdv rd hs hg (by omega) (fun h' u tk hk => ⟨.str _, H, I.kept hk, ⟨_, rfl⟩, q⟩) hz
  | dct hl hk ha =>
    cases ru
    exact repr_rdv rd hs hg (by omega) (fun h' u tk hk => ⟨.str _, H, I.kept hk, ⟨_, rfl⟩, q⟩) hz
/-! ### in cells -/
section
variable {K : PySem.W.Frag}
mutual
theorem Dp.dn {H : Hp} : ∀ {v : V} {d : PyData}, Dp K H v d → Dn K H v d
  | _, _, .non => .non
  | _, _, .bl b => .bl b
  | _, _, .int i => .int i
  | _, _, .str x => .str x
  | _, _, .lst h r => .lst h (DpAll.dn r)
  | _, _, .tup h r => .tup h (DpAll.dn r)
theorem DpAll.dn {H : Hp} : ∀ {vs : List V} {ds : List PyData}, DpAll K H vs ds → DnL K H vs ds
  | _, _, .nil => .nil
  | _, _, .cons h r => .cons (Dp.dn h) (DpAll.dn r)
end
mutual
theorem Dq.dn {ok : Addr → Prop} {H : Hp} : ∀ {v : V} {d : PyData}, Dq ok H v d → Dn K H v d
  | _, _, .non => .non
  | _, _, .bl b => .bl b
  | _, _, .int i => .int i
  | _, _, .str x => .str x
  | _, _, .lst _ h r => .lst (SqL.of h) (DqL.dn r)
  | _, _, .tup _ h r => .tup (SqT.of h) (DqL.dn r)
  | _, _, .dct _ h k r => .dct h k (DqL.dn r)
theorem DqL.dn {ok : Addr → Prop} {H : Hp} : ∀ {vs : List V} {ds : List PyData}, DqL ok H vs ds → DnL K H vs ds
  | _, _, .nil => .nil
  | _, _, .cons h r => .cons (Dq.dn h) (DqL.dn r)
end
mutual
theorem Rdc.dn {O : Ob} {H : Hp} (o : OkO K O H) : ∀ {c : Cl} {d : PyData} {v : V} {ok : Addr → Prop}, Rdc O c d → ClH K ok H v c → Dn K H v d
  | _, _, _, _, .dat d, .dat h => Dq.dn h
  | _, _, _, _, .at m r, h => by
    cases h
    obtain ⟨xs, h, q⟩ := o.all _ m
    exact .lst (SqL.of h) (Rdcs.dn o r q)
  | _, _, _, _, .dct m k r, h => by
    cases h
    obtain ⟨kvs, h, e, q⟩ := o.all _ m
    refine .dct h ?_ (Rdcs.dn o r q)
    rw [← k]
    have z := congrArg (List.map kD) e
    rw [List.map_map, List.map_map] at z
    exact z
  | _, _, _, _, .lis r, .lis o' h q => .lst (SqL.of h) (Rdcs.dn o r q)
  | _, _, _, _, .tup r, .tup o' h q => .tup (SqT.of h) (Rdcs.dn o r q)
  | _, _, _, _, .con d, .con h => Dp.dn h.dp
theorem Rdcs.dn {O : Ob} {H : Hp} (o : OkO K O H) : ∀ {cs : List Cl} {ds : List PyData} {vs : List V} {ok : Addr → Prop}, Rdcs O cs ds → ClsH K ok H vs cs → DnL K H vs ds
  | _, _, _, _, .nil, .nil => .nil
  | _, _, _, _, .cons h r, .cons h' r' => .cons (Rdc.dn o h h') (Rdcs.dn o r r')
end
/-- what has a text -/
structure TxG (b : Prop) (e : PyData) : Prop where
  s : AllI (OkI b) e
  d : e.depth ≤ 50
  l : e.shown.length ≤ sizeLine
theorem TxB.g {d : PyData} (h : TxB d) (b : Prop) : TxG b d := ⟨allI_show h.s, h.d, h.l⟩
def bReprG (b : Prop) : AB := fun O cs Kc => ∃ c d, cs = [c] ∧ Rdc O c d ∧ TxG b d ∧ Kc O (.dat (.str d.shown))
theorem sb_reprG {b : Prop} : SRB K (fun xs H Q => ∃ x d, xs = [x] ∧ Dn K H x d ∧ AllI (OkI b) d ∧ d.depth ≤ 50 ∧ d.shown.length ≤ sizeLine ∧ Q (.str d.shown) H) (bReprG b) := fun O H Q Kc cs vs o r ⟨c, d, e, h, t, k⟩ q => by
  subst e
  obtain ⟨v, rfl, rv⟩ := cls1 r
  exact ⟨v, d, rfl, h.dn o rv, t.s, t.d, t.l, q O _ _ H (Fr.refl _ _) o (.dat (.str _)) k⟩
end
theorem w_reprGD {b : Prop} {O : Ob} {d : PyData} {Kc : KC} : bReprG b O [.dat d] Kc ↔ TxG b d ∧ Kc O (.dat (.str d.shown)) := by
  constructor
  · rintro ⟨c, d', e, h, t, k⟩
    obtain rfl : Cl.dat d = c := (List.cons.inj e).1
    cases h
    exact ⟨t, k⟩
  · rintro ⟨t, k⟩
    exact ⟨_, d, rfl, .dat d, t, k⟩
theorem w_reprG {b : Prop} {O : Ob} {c : Cl} {d : PyData} {Kc : KC} (r : Rdc O c d) (t : TxG b d) (k : Kc O (.dat (.str d.shown))) : bReprG b O [c] Kc := ⟨c, d, rfl, r, t, k⟩
/-! ## {} -/
def aDct0 : AE := fun O _ _ Kc => Kc O (.dat (.dict []))
def aDct0O : AE := fun O _ _ Kc => ∀ p, Kc ((p, .dct []) :: O) (.at p)
theorem de_dct0 {X : Cx} {W : WX} {pos : Pos} : DE X W (.Dict [] [] pos) aDct0 :=
  ⟨_, pe_dnewK, fun O ρ σ H Q Kc XX S kc q x p hp => by
    obtain ⟨o2, f2, n⟩ := S.o.new (u := .dK []) hp
    exact q O _ _ _ f2 o2 (.dat (.dct n upd_same rfl .nil)) kc⟩
theorem de_dct0O {X : Cx} {W : WX} {pos : Pos} : DE X W (.Dict [] [] pos) aDct0O :=
  ⟨_, pe_dnewK, fun O ρ σ H Q Kc XX S kc q x p hp => by
    obtain ⟨o2, f2⟩ := S.o.own (u := .dK []) (w := .dct []) hp ⟨[], upd_same, rfl, .nil⟩
    exact q _ _ _ _ f2 o2 (.at p) (kc p)⟩
/-! ## isinstance of plain data -/
def isTupD : PyData → Bool
  | .tuple _ => true
  | _ => false
def isLisD : PyData → Bool
  | .list _ => true
  | _ => false
def isIntD : PyData → Bool
  | .int _ => true
  | .bool _ => true
  | _ => false
def isBoolD : PyData → Bool
  | .bool _ => true
  | _ => false
def isStrD : PyData → Bool
  | .str _ => true
  | _ => false
def isDctD : PyData → Bool
  | .dict _ => true
  | _ => false
theorem kit_tupD (d : PyData) : kitB (tnD d) "tuple" = some (isTupD d) := (kn_tuple (Kn.dat (O := []) d)).trans (by cases d <;> first | rfl | decide)
theorem kit_lisD (d : PyData) : kitB (tnD d) "list" = some (isLisD d) := (kn_list (Kn.dat (O := []) d)).trans (by cases d <;> first | rfl | decide)
theorem kit_intD (d : PyData) : kitB (tnD d) "int" = some (isIntD d) := (kn_int (Kn.dat (O := []) d)).trans (by cases d <;> first | rfl | decide)
theorem kit_boolD (d : PyData) : kitB (tnD d) "bool" = some (isBoolD d) := (kn_bool (Kn.dat (O := []) d)).trans (by cases d <;> first | rfl | decide)
theorem kit_strD (d : PyData) : kitB (tnD d) "str" = some (isStrD d) := (kn_str (Kn.dat (O := []) d)).trans (by cases d <;> first | rfl | decide)
theorem kit_dctD (d : PyData) : kitB (tnD d) "dict" = some (isDctD d) := (kn_dict (Kn.dat (O := []) d)).trans (by cases d <;> first | rfl | decide)
theorem w_isi {O : Ob} {d : PyData} {x : String} {b : Bool} {Kc : KC} (h : kitB (tnD d) x = some b) : bIsi O [.dat d, .raw (.ty x)] Kc ↔ Kc O (.dat (.bool b)) := by
  constructor
  · rintro ⟨c, n, cl, b', e, hn, hk, k⟩
    obtain ⟨e1, e2⟩ := List.cons.inj e
    subst e1
    have e3 : x = cl := V.ty.inj (Cl.raw.inj (List.cons.inj e2).1)
    subst e3
    cases hn
    rw [h] at hk
    rwa [Option.some.inj hk]
  · intro k
    exact ⟨_, _, _, b, rfl, .dat d, h, k⟩
theorem w_isiTup {O : Ob} {d : PyData} {Kc : KC} : bIsi O [.dat d, .raw (.ty "tuple")] Kc ↔ Kc O (.dat (.bool (isTupD d))) := w_isi (kit_tupD d)
theorem w_isiLis {O : Ob} {d : PyData} {Kc : KC} : bIsi O [.dat d, .raw (.ty "list")] Kc ↔ Kc O (.dat (.bool (isLisD d))) := w_isi (kit_lisD d)
theorem w_isiInt {O : Ob} {d : PyData} {Kc : KC} : bIsi O [.dat d, .raw (.ty "int")] Kc ↔ Kc O (.dat (.bool (isIntD d))) := w_isi (kit_intD d)
theorem w_isiBool {O : Ob} {d : PyData} {Kc : KC} : bIsi O [.dat d, .raw (.ty "bool")] Kc ↔ Kc O (.dat (.bool (isBoolD d))) := w_isi (kit_boolD d)
theorem w_isiStr {O : Ob} {d : PyData} {Kc : KC} : bIsi O [.dat d, .raw (.ty "str")] Kc ↔ Kc O (.dat (.bool (isStrD d))) := w_isi (kit_strD d)
theorem w_isiDct {O : Ob} {d : PyData} {Kc : KC} : bIsi O [.dat d, .raw (.ty "dict")] Kc ↔ Kc O (.dat (.bool (isDctD d))) := w_isi (kit_dctD d)
theorem w_listT {O : Ob} {ds : List PyData} {Kc : KC} : bList false O [.dat (.tuple ds)] Kc ↔ Kc O (.dat (.list ds)) := by
  constructor
  · rintro ⟨c, es, e, h, k⟩
    obtain rfl : Cl.dat (.tuple ds) = c := (List.cons.inj e).1
    rw [if_neg Bool.false_ne_true] at k
    rcases h with h | h
    · cases h
    · rw [elsT_tuple.mp h] at k
      have z : lisC (ds.map .dat) = .dat (.list ds) := by unfold lisC; rw [allD_dats]
      rwa [z] at k
  · intro k
    refine ⟨_, _, rfl, .inr (.dat ds), ?_⟩
    rw [if_neg Bool.false_ne_true]
    have z : lisC (ds.map .dat) = .dat (.list ds) := by unfold lisC; rw [allD_dats]
    rwa [z]
theorem w_listFr {O : Ob} {a b : Int} {Kc : KC} : bList false O [.dat (frD a b)] Kc ↔ Kc O (.dat (.list [.int a, .int b])) := w_listT
/-- the last of a list of data -/
theorem at_last {ds : List PyData} {d : PyData} : atI ((ds ++ [d]).map Cl.dat) (-1) = some (.dat d) := by
  have h : ((ds ++ [d]).map Cl.dat).length = ds.length + 1 := by simp
  unfold atI ixN
  rw [if_neg (by omega), h, if_pos (by omega)]
  show ((ds ++ [d]).map Cl.dat)[((-1 : Int) + ((ds.length + 1 : Nat) : Int)).toNat]? = _
  rw [show ((-1 : Int) + ((ds.length + 1 : Nat) : Int)).toNat = ds.length by omega]
  simp
theorem cutD_len {α : Type} {xs : List α} {lo hi : Option Int} : (cutD xs lo hi).length ≤ xs.length := by
  unfold cutD
  rw [List.length_take, List.length_drop]
  omega
theorem all_app {α : Type} {P : α → Prop} {xs ys : List α} (h : ∀ x ∈ xs, P x) (k : ∀ x ∈ ys, P x) : ∀ x ∈ xs ++ ys, P x := fun x hx => (List.mem_append.mp hx).elim (h x) (k x)
theorem all_cons {α : Type} {P : α → Prop} {x : α} {xs : List α} (h : P x) (k : ∀ x ∈ xs, P x) : ∀ y ∈ x :: xs, P y := fun y hy => by
  rcases List.mem_cons.mp hy with rfl | hy
  · exact h
  · exact k y hy
theorem all_nil {α : Type} {P : α → Prop} : ∀ x ∈ ([] : List α), P x := fun x h => nomatch h
/-- the turns of a loop over a list of data -/
theorem turns_d {O : Ob} {ρ : Rho} {XX : XC} {es : List PyData} {i : Nat} {w : AS} {A : AEn} (Wi : Nat → Ob → Rho → Prop) (w0 : Wi 0 O ρ)
    (st : ∀ j O2 ρ2 d, es[j]? = some d → Wi j O2 ρ2 → w { nx := Wi (j + 1), rt := A.rt, ct := Wi (j + 1), bk := A.nx } XX O2 (ρ2.set i (some (.dat d)))) (fin : ∀ O2 ρ2, Wi es.length O2 ρ2 → A.nx O2 ρ2) :
    aTurns (es.map .dat) (fun O2 => Els O2 (.dat (.list es)) (es.map .dat)) (aName i) w A XX O ρ := by
  refine ⟨Wi, w0, ?_, ?_⟩
  · intro j O2 ρ2 e hj hw
    rw [List.getElem?_map] at hj
    obtain ⟨d, hd, rfl⟩ := Option.map_eq_some_iff.mp hj
    exact ⟨.dat es, st j O2 ρ2 d hd hw⟩
  · intro O2 ρ2 hw
    rw [List.length_map] at hw
    exact ⟨.dat es, fin O2 ρ2 hw⟩
end Ab
namespace Ab
open PySem PySem.Spec PyProof.Rows L2 Vg
/-! ## a def with any number of defaults, called by places and by names -/
/-- those of a list that stand at places -/
def pickC {α : Type} : List Nat → List α → List α
  | [], _ => []
  | i :: r, l => match l[i]? with
    | some x => x :: pickC r l
    | none => pickC r l
theorem pickC_vals {vs : List V} {us : List Value} (h : Vals vs us) : ∀ ix : List Nat, Vals (pickC ix vs) (pickC ix us)
  | [] => .nil
  | i :: r => by
    have ih := pickC_vals h r
    unfold pickC
    cases e : vs[i]? with
    | none =>
      rw [List.getElem?_eq_none (by rw [← h.length]; exact List.getElem?_eq_none_iff.mp e)]
      exact ih
    | some v =>
      obtain ⟨u, hu, ru⟩ := h.get e
      rw [hu]
      exact .cons ru ih
theorem pickC_cls {K : PySem.W.Frag} {ok : Addr → Prop} {H : Hp} {vs : List V} {cs : List Cl} (h : ClsH K ok H vs cs) : ∀ ix : List Nat, ClsH K ok H (pickC ix vs) (pickC ix cs)
  | [] => .nil
  | i :: r => by
    have ih := pickC_cls h r
    unfold pickC
    cases e : cs[i]? with
    | none =>
      rw [List.getElem?_eq_none (by rw [h.len]; exact List.getElem?_eq_none_iff.mp e)]
      exact ih
    | some c =>
      obtain ⟨v, hv, rv⟩ := h.get e
      rw [hv]
      exact .cons rv ih
/-- values that are constants -/
inductive DfV : List V → List PyData → Prop
  | nil : DfV [] []
  | cons {v : V} {vs : List V} {d : PyData} {ds : List PyData} (h : ∀ ok H, Dq ok H v d) (r : DfV vs ds) : DfV (v :: vs) (d :: ds)
theorem DfV.cls {K : PySem.W.Frag} {ok : Addr → Prop} {H : Hp} : ∀ {vs : List V} {ds : List PyData}, DfV vs ds → ClsH K ok H vs (ds.map .dat)
  | _, _, .nil => .nil
  | _, _, .cons h r => .cons (.dat (h _ _)) (DfV.cls r)
theorem DfV.drop : ∀ {vs : List V} {ds : List PyData} (n : Nat), DfV vs ds → DfV (vs.drop n) (ds.drop n)
  | _, _, 0, h => h
  | _, _, _ + 1, .nil => .nil
  | _, _, n + 1, .cons _ r => DfV.drop n r
structure FvN (P : Program) (w : World) (K : PySem.W.Frag) (mg : Str → Option Value) (base : Heap) (k : Nat) (x : Str) (st : Stmt) (ps : List Str) (dvs : List V) (dds : List PyData) (af : AF) : Prop where
  ex : ∃ (f : Addr) (fd : FuncData), mg x = some (.ref f) ∧ FunD K x x (defArgs st) (defBody st) (defScope st) dvs [] f fd ∧ FnOk P w K mg base (L2.CX P w) k f fd ps (spG K af)
  df : DfV dvs dds
  ne : dvs ≠ []
theorem fvn_of {P : Program} {w : World} {K : PySem.W.Frag} {mg : Str → Option Value} {base : Heap} {k : Nat} {x : Str} {st : Stmt} {N ps : List Str} {dvs : List V} {dds : List PyData} {af : AF} (D : AtD K mg x st dvs) (S : FnScope N ps (defScope st)) (hd : DfV dvs dds) (ne : dvs ≠ [])
    (hl : ∀ O cs Xf Kc, af O cs Xf Kc → cs.length = ps.length)
    (body : ∀ (f : Addr) (cdv : Value) (A : Around) (outer : List Env) (s : Shared) (H : Hp) (E : XK),
      Room k (A.deeper (envOfC x (defScope st) s.heap.objs.size f cdv)) →
      ∃ a : AS, DSs (cxOf (L2.CX P w) P w K mg base N x (defScope st) f cdv A outer s H E) (fun cls d _ H => E cls d H) (defBody st) a ∧
        ∀ O cs Xf Kc, af O cs Xf Kc → a { nx := fun O' _ => Kc O' (.dat .none), rt := Kc } (fun O' _ y c => Xf O' y c) O (cs.map some ++ List.replicate (N.length - cs.length) none)) :
    FvN P w K mg base (k + 1) x st ps dvs dds af := by
  obtain ⟨f, fd, hm, F⟩ := D.ex
  refine ⟨⟨f, fd, hm, F, F.ok S (fun vs H Q E ⟨O, cs, Xf, Kc, o, r, h, _, _⟩ => r.len.trans (hl O cs Xf Kc h)) fun cdv A outer s H vs Q E hr ⟨O, cs, Xf, Kc, o, r, h, q, x⟩ => ?_⟩, hd, ne⟩
  obtain ⟨a, ⟨t, p, sa⟩, k⟩ := body f cdv A outer s H E hr
  refine ⟨t, p, sa O _ _ H _ _ _ (start_ss o r) (k O cs Xf Kc h) ⟨fun O' ρ' σ' H' f S k' => ?_, q, fun _ _ _ _ _ _ z => z.elim, fun _ _ _ _ _ _ z => z.elim⟩ ?_⟩
  · exact q O' _ _ H' f S.o (.dat .non) k'
  · exact fun O' ρ' σ' y c v H' dd f S r hd hf z => x O' y c v H' dd f S.o r hd hf z
/-- the names and values of keywords -/
structure DK (X : Cx) (W : WX) (kws : List Keyword) (a : AA) : Prop where
  ex : ∃ t, L2.PK X kws t ∧ SaA X.K W t a
theorem dk_nil {X : Cx} {W : WX} : DK X W [] aNil := ⟨_, pk_nil, sa_nil⟩
theorem dk_cons {X : Cx} {W : WX} {nm : Option Str} {e : Expr} {kp : Pos} {kws : List Keyword} {a : AE} {b : AA} (ha : DE X W e a) (hb : DK X W kws b) : DK X W (⟨nm, e, kp⟩ :: kws) (aCons a b) := by
  obtain ⟨t, p, s⟩ := ha.ex
  obtain ⟨u, q, r⟩ := hb.ex
  exact ⟨_, pk_cons p q, sa_cons s r⟩
/-- f(a, .., name = b, ..): the places, the defaults, the names' values are put in order by ix -/
def aCallN (n m : Nat) (ix : List Nat) (dds : List PyData) (af : AF) (a b : AA) : AE := fun O ρ XX Kc => a O ρ XX fun O1 cs => b O1 ρ XX fun O2 zs => cs.length = n ∧ zs.length = m ∧ af O2 (pickC ix (cs ++ (dds.map .dat ++ zs))) (fun O' x c => XX O' ρ x c) Kc
section
variable {X : Cx} {W : WX} {af : AF} {k : Nat} {ps ks : List Str} {x : Str} {e : Expr} {es : List Expr} {kws : List Keyword} {a b : AA} {p pos : Pos} {st : Stmt} {dvs : List V} {dds : List PyData}
theorem de_callN (F : FvN X.prog X.w X.K X.mg X.base k x st ps dvs dds af) (tk : Takes X W) (hr : Room k X.A) (hg : Gl X x) (n : Nat) (ix : List Nat) (ha : DA X W (e :: es) a) (hb : DK X W kws b)
    (hks : (backToKw pos (keywordEach kws X.env)).filterMap (·.1) = ks)
    (hbk : ∀ (T : Addr) (kV doc pm : Value) (an : Option Addr) (cdv ct : Value) (us its ws : List Value), us.length = n → its.length = dvs.length → ws.length = ks.length →
      ∃ k, bindArgs (PySem.W.fnOf x x (defArgs st) (defBody st) (defScope st) (.ref T) kV doc pm an cdv ct) ⟨us, ks.zip ws⟩ = seqItems? (.ref T) >>= k ∧ k (some its.toArray) = pure (ps.zip (pickC ix (us ++ (its ++ ws)))))
    (hdb : (x == ("__debug__" : Str)) = false := by decide) (hall : (backToKw pos (keywordEach kws X.env)).all (·.1.isSome) = true := by rfl)
    (he : starEach (e :: es) X.env = (false, eval e X.env) :: starEach es X.env := by rfl)
    (hpl : ((backTo pos (starEach (e :: es) X.env)).any (·.1) || (backToKw pos (keywordEach kws X.env)).any (·.1.isNone)) = false := by rfl) : DE X W (.Call (.Name x p) (e :: es) kws pos) (aCallN n ks.length ix dds af a b) := by
  obtain ⟨f, fd, hm, FD, FO⟩ := F.ex
  have hk := FD.kp
  obtain ⟨t, pa, s⟩ := ha.ex
  obtain ⟨u, pk, s2⟩ := hb.ex
  refine ⟨fun σ H Q => t σ H fun vs H1 => u σ H1 fun zs H2 => vs.length = n ∧ zs.length = ks.length ∧ spG X.K af (pickC ix (vs ++ (dvs ++ zs))) H2 Q (WE W σ), ⟨fun pins s σ H Q I h => ?_⟩, fun O ρ σ H Q Kc XX S k q x => s O ρ σ H _ _ XX S k (fun O1 cs vs H1 f1 o1 r1 k1 =>
    s2 O1 ρ σ H1 _ _ XX (S.go f1 o1) k1 (fun O2 zc zs H2 f2 o2 r2 k2 => ?_) (x.go f1)) x⟩
  · refine wpAny_Call_Name_kw (ld_glob I hg hm ?_ hdb)
    refine PySem.W.callWith_KW (h₀ := X.base) I.ok.mod.kin hk hall (thn (pa.run pos pins s σ H _ I h) fun us s1 ⟨vs, H1, I1, r, q⟩ => ?_) hpl he
    refine thn (pk.run pos pins s1 σ H1 (fun zs H2 => vs.length = n ∧ zs.length = ks.length ∧ spG X.K af (pickC ix (vs ++ (dvs ++ zs))) H2 Q (WE W σ)) I1 q) fun ws s2 ⟨zs, H2, I2, rz, q0, q1, q2⟩ => ⟨I2.kIn, ?_⟩
    · rw [hks]
      obtain ⟨oc, od, dV, kV, doc, pm, an, cdv, ct, osl, rfl, lk, hcd, hD, hK⟩ := FD.ex
      rcases hD with ⟨e, _⟩ | ⟨_, T, o, its, m, rfl, lT, oT, rT⟩
      · exact absurd e F.ne
      · have l1 : us.length = n := r.length ▸ q0
        have l2 : ws.length = ks.length := rz.length ▸ q1
        obtain ⟨k', e1, e2⟩ := hbk T kV doc pm an cdv ct us its ws l1 rT.length.symm l2
        have both : Vals (pickC ix (vs ++ (dvs ++ zs))) (pickC ix (us ++ (its ++ ws))) := pickC_vals (r.append (rT.append rz)) ix
        have bt : BindsTo s2 (PySem.W.fnOf _ _ (defArgs st) (defBody st) (defScope st) (.ref T) kV doc pm an cdv ct) ⟨us, ks.zip ws⟩ (ps.zip (pickC ix (us ++ (its ++ ws)))) := BindsTo.of_looks fun M => by
          rw [e1]
          exact looks_items I2.kIn lT oT (.of_pure e2)
        refine wpAny_call (codeAny_mono (FO.run X.A X.stack s2 H2 ⟨us, ks.zip ws⟩ (pickC ix (us ++ (its ++ ws))) (pickC ix (vs ++ (dvs ++ zs))) Q (WE W σ) hr I2.env0 bt both q2) fun r s' hq => ?_)
        match r, hq with
        | .error e, hq => exact passAt tk σ pins H2 s2 e s' I2 hq
        | .ok (.ret u), hq => exact I2.after hq
        | .ok .next, hq => exact False.elim hq
        | .ok .brk, hq => exact False.elim hq
        | .ok .cont, hq => exact False.elim hq
  · have f12 := f1.trans f2
    refine ⟨?_, ?_, O2, pickC ix (cs ++ (dds.map .dat ++ zc)), _, Kc, o2, pickC_cls ((r1.fr f2).app (F.df.cls.app r2)) ix, k2.2.2, q.go f12, fun O3 y c v H3 dd f3 o3 r3 hd hf hx => x O3 ρ σ y c v H3 dd (f12.trans f3) (S.go (f12.trans f3) o3) r3 hd hf hx⟩
    · rw [r1.len]; exact k2.1
    · rw [r2.len]; exact k2.2.1
end
end Ab
namespace Ab
open PySem PySem.Spec PyProof.Rows L2 Vg
/-! ## what the defs of neighbours tell -/
theorem numC_int {c : Cl} (h : numC c = true) : ∃ i, c = .dat (.int i) := by
  cases c with
  | dat d => cases d <;> first | exact ⟨_, rfl⟩ | cases h
  | _ => cases h
theorem gcd_le' {a b : Int} (hb : 1 ≤ b) : gcdI a b ≤ b := by
  have d2 : gcdI a b ∣ b := Int.ofNat_dvd_left.mpr (Nat.gcd_dvd_right _ _)
  exact Int.le_of_dvd (by omega) d2
theorem bd_lt {x : Int} (h : Bd x) : x.natAbs < 2 ^ 4000 := by
  have := h
  unfold Bd at this
  have e : (2 : Nat) ^ 600 ≤ 2 ^ 4000 := Nat.pow_le_pow_right (by decide) (by decide)
  omega
theorem bd_log {x : Int} (h : Bd x) : x.natAbs.log2 < 9000 := Nat.lt_of_lt_of_le (log_lt (bd_lt h) (by decide)) (by decide)
theorem bd_mul {x y : Int} (h : Bd x) (g : Bd y) : CMulW x y := mulC (bd_lt h) (bd_lt g)
def afMade : AF := fun O cs _ Kc => match cs with
  | [x, y] => ∃ a b : Int, x = .dat (.int a) ∧ y = .dat (.int b) ∧ 1 ≤ b ∧ a.natAbs < 2 ^ 1000 ∧ b.natAbs < 2 ^ 1000 ∧ ∀ t m : Int, gcdI t m = 1 → 1 ≤ m → t.natAbs ≤ a.natAbs → m ≤ b → Kc O (.dat (frD t m))
  | _ => False
def afStrict : AF := fun O cs _ Kc => match cs with
  | [x, y] => ∃ t m N : Int, x = .dat (frD t m) ∧ y = .dat (.int N) ∧ gcdI t m = 1 ∧ 1 ≤ N ∧ N < m ∧ Sm t ∧ Sm m ∧ ∀ a b c d, Nb t m N a b c d → N < b + d → Kc O (.dat (.tuple [frD a b, frD c d]))
  | _ => False
def boundC : Cl → Bool
  | .dat (.int i) => decide (1 ≤ i)
  | _ => false
def afNbrs : AF := fun O cs Xf Kc => match cs with
  | [x, y] => Pl O x ∧ Pl O y ∧ ((fracC x = false ∧ Xf O "NoFraction" x) ∨ (fracC x = true ∧ boundC y = false ∧ Xf O "NoNumber" y) ∨ ∃ t m N : Int, x = .dat (frD t m) ∧ y = .dat (.int N) ∧ gcdI t m = 1 ∧ 1 ≤ m ∧ 1 ≤ N ∧ Sm t ∧ Sm m ∧ ∀ a b c d, NbX t m N a b c d → Kc O (.dat (.tuple [frD a b, frD c d])))
  | _ => False
def okPair : PyData → Bool
  | .tuple [x, y] => fracD x && fracD y
  | _ => false
abbrev prE (a b c d : Int) : PyData := .tuple [frD a b, frD c d]
theorem okPair_of {d : PyData} (h : okPair d = true) : ∃ a b c e, d = prE a b c e ∧ 1 ≤ b ∧ 1 ≤ e ∧ gcdI a b = 1 ∧ gcdI c e = 1 := by
  unfold okPair at h
  split at h
  · rename_i x y
    obtain ⟨h1, h2⟩ := Bool.and_eq_true_iff.mp h
    obtain ⟨a, b, rfl, hb, hg⟩ := frac_pos h1
    obtain ⟨c, e, rfl, he, hg2⟩ := frac_pos h2
    exact ⟨a, b, c, e, rfl, hb, he, hg, hg2⟩
  · cases h
theorem pair_or (d : PyData) : (∃ x y, d = .tuple [x, y]) ∨ ((isTupD d = false ∨ ∃ ds, d = .tuple ds ∧ ds.length ≠ 2) ∧ fracD d = false ∧ okPair d = false) := by
  cases d with
  | tuple ds =>
    match ds with
    | [] => exact .inr ⟨.inr ⟨_, rfl, by simp⟩, rfl, rfl⟩
    | [z] => exact .inr ⟨.inr ⟨_, rfl, by simp⟩, by cases z <;> rfl, rfl⟩
    | [x, y] => exact .inl ⟨x, y, rfl⟩
    | x :: y :: z :: r => exact .inr ⟨.inr ⟨_, rfl, by simp⟩, by cases x <;> first | rfl | (cases y <;> rfl), rfl⟩
  | _ => exact .inr ⟨.inl rfl, rfl, rfl⟩
theorem eqv_prE (a b c e a' b' c' e' : Int) : PyData.eqv (prE a b c e) (prE a' b' c' e') = decide (a = a' ∧ b = b' ∧ c = c' ∧ e = e') := by
  have h : PyData.eqv (prE a b c e) (prE a' b' c' e') = (PyData.eqv (frD a b) (frD a' b') && (PyData.eqv (frD c e) (frD c' e') && true)) := by
    simp only [prE, PyData.eqv, PyData.eqvAll]
  rw [h, eqv_fr, eqv_fr]
  simp [Bool.decide_and, Bool.and_assoc]
/-- numbers of no more than 200 bits -/
def SmD (d : PyData) : Prop := AllI (fun i => i.natAbs < 2 ^ 210) d
theorem sm_nat {x : Int} (h : Sm x) : x.natAbs < 2 ^ 139 := by
  have h' : x.natAbs ≤ 1000000000000000000000000000000000000000 := by
    unfold Sm at h
    omega
  exact Nat.lt_of_le_of_lt h' (by decide)
theorem smD_tup {ds : List PyData} (h : ∀ d ∈ ds, SmD d) : SmD (.tuple ds) := by
  unfold SmD; simp only [AllI]
  induction ds with
  | nil => simp only [AllIs]
  | cons d ds ih => simp only [AllIs]; exact ⟨h d (List.mem_cons_self ..), ih fun x hx => h x (List.mem_cons_of_mem _ hx)⟩
theorem smD_lis {ds : List PyData} (h : ∀ d ∈ ds, SmD d) : SmD (.list ds) := by
  have z := smD_tup h
  unfold SmD at z ⊢
  simpa only [AllI] using z
theorem smD_0 : SmD (.dict []) ∧ SmD .none ∧ (∀ b, SmD (.bool b)) ∧ (∀ x, SmD (.str x)) := by
  unfold SmD; simp only [AllI, AllKv, implies_true, and_self]
theorem smD_int {i : Int} (h : i.natAbs < 2 ^ 210) : SmD (.int i) := by unfold SmD; simpa only [AllI] using h
theorem smD_fr {a b : Int} (h : a.natAbs < 2 ^ 210) (k : b.natAbs < 2 ^ 210) : SmD (frD a b) := smD_tup (Ab.all_cons (smD_int h) (Ab.all_cons (smD_int k) Ab.all_nil))
theorem br_if {b A : Prop} {inst : Decidable b} {P : Int → Prop} {N : Int} (hA : b → (∀ N', 1 ≤ N' → P N') → A) (h : ∀ N', 1 ≤ N' → P N') (hN : 1 ≤ N) : if b then A else P N := by
  by_cases hb : b
  · rw [if_pos hb]; exact hA hb h
  · rw [if_neg hb]; exact h N hN
end Ab
namespace Ab
open PySem PySem.Spec PyProof.Rows L2 Vg
/-! ## texts of great numbers -/
structure Tg (b : Prop) (n dp : Nat) (e : PyData) : Prop where
  s : AllI (OkI b) e
  d : e.depth ≤ dp
  l : e.shown.length ≤ n
theorem Tg.txG {b : Prop} {n dp : Nat} {e : PyData} (h : Tg b n dp e) (hn : n ≤ 16000000 := by omega) (hd : dp ≤ 50 := by omega) : TxG b e :=
  ⟨h.s, Nat.le_trans h.d hd, Nat.le_trans h.l (by have : (16777216 : Nat) ≤ sizeLine := by decide
                                                  omega)⟩
theorem Tg.up {b : Prop} {n dp n' dp' : Nat} {e : PyData} (h : Tg b n dp e) (hn : n ≤ n') (hd : dp ≤ dp') : Tg b n' dp' e := ⟨h.s, Nat.le_trans h.d hd, Nat.le_trans h.l hn⟩
theorem okI_big {i : Int} {k : Nat} (h : i.natAbs < 2 ^ k) (hk : k ≤ 12900) : OkI True i :=
  .inr ⟨trivial, Nat.lt_of_lt_of_le h (Nat.le_trans (Nat.pow_le_pow_right (by decide) hk) PyProof.Rows.pow_lo)⟩
theorem tg_int {i : Int} {k : Nat} (h : i.natAbs < 2 ^ k) (hk : k ≤ 12900) (h0 : 0 < k) : Tg True (k + 1) 0 (.int i) := by
  refine ⟨by simp only [AllI]; exact okI_big h hk, by simp only [PyData.depth]; omega, ?_⟩
  have z := intT_len h h0
  unfold intT at z
  simp only [PyData.shown]
  exact z
theorem tgs_all {b : Prop} {n dp : Nat} : ∀ {ds : List PyData}, (∀ e ∈ ds, Tg b n dp e) → AllIs (OkI b) ds ∧ PyData.depthAll ds ≤ dp ∧ ((PyData.shownAll ds).map (·.length)).sum ≤ ds.length * n ∧ (PyData.shownAll ds).length = ds.length
  | [], _ => by simp [AllIs, PyData.depthAll, PyData.shownAll]
  | d :: ds, h => by
    obtain ⟨h1, h2, h3, h4⟩ := tgs_all (ds := ds) fun e he => h e (List.mem_cons_of_mem _ he)
    have z := h d (List.mem_cons_self ..)
    have zd := z.d
    have zl := z.l
    simp only [AllIs, PyData.depthAll, PyData.shownAll, List.map_cons, List.sum_cons, List.length_cons, Nat.succ_mul]
    exact ⟨⟨z.s, h1⟩, by omega, by omega, by omega⟩
theorem tg_tup {b : Prop} {n dp : Nat} {ds : List PyData} (h : ∀ e ∈ ds, Tg b n dp e) : Tg b (ds.length * (n + 2) + 3) (dp + 1) (.tuple ds) := by
  obtain ⟨h1, h2, h3, h4⟩ := tgs_all h
  refine ⟨by simpa only [AllI] using h1, by simp only [PyData.depth]; omega, ?_⟩
  simp only [PyData.shown]
  have z := tupleText_len_le (PyData.shownAll ds)
  rw [Nat.mul_add]
  omega
theorem tg_list {b : Prop} {n dp : Nat} {ds : List PyData} (h : ∀ e ∈ ds, Tg b n dp e) : Tg b (ds.length * (n + 2) + 3) (dp + 1) (.list ds) := by
  obtain ⟨h1, h2, h3, h4⟩ := tgs_all h
  refine ⟨by simpa only [AllI] using h1, by simp only [PyData.depth]; omega, ?_⟩
  simp only [PyData.shown]
  have z := listText_len_le (PyData.shownAll ds)
  rw [Nat.mul_add]
  omega
theorem tg_fr {i j : Int} {k : Nat} (h : i.natAbs < 2 ^ k) (g : j.natAbs < 2 ^ k) (hk : k ≤ 12900) (h0 : 0 < k) : Tg True (2 * k + 9) 1 (frD i j) :=
  (tg_tup (ds := [.int i, .int j]) (all_cons (tg_int h hk h0) (all_cons (tg_int g hk h0) all_nil))).up (by simp only [List.length_cons, List.length_nil]; omega) (Nat.le_refl _)
/-! ## the value of a row, from behind -/
def valI : List Int → Int × Int
  | [] => (1, 0)
  | t :: r => (t * (valI r).1 + (valI r).2, (valI r).1)
theorem turn_val (r : Tn) : ∀ is : List Int, (is.foldl Tn.next r).a = r.a * (valI is).1 + r.b * (valI is).2 ∧ (is.foldl Tn.next r).c = r.c * (valI is).1 + r.d * (valI is).2
  | [] => by simp [valI]
  | t :: is => by
    obtain ⟨h1, h2⟩ := turn_val (r.next t) is
    rw [List.foldl_cons, h1, h2]
    simp only [valI, Tn.next]
    constructor
    · rw [Int.mul_add, Int.add_mul, ← Int.mul_assoc]; omega
    · rw [Int.mul_add, Int.add_mul, ← Int.mul_assoc]; omega
theorem turnI_val (is : List Int) : (turnI is).a = (valI is).1 ∧ (turnI is).c = (valI is).2 := by
  have h := turn_val tnOne is
  unfold turnI
  simpa [tnOne] using h
/-- what stands behind a first term of a legal row -/
def RestI (r : List Int) : Prop := (∀ t ∈ r, 1 ≤ t) ∧ (r ≠ [] → r.getLastD 0 ≠ 1)
theorem floorI_cons {t : Int} {r : List Int} : floorI (t :: r) = true ↔ RestI r := by
  unfold floorI RestI
  cases r with
  | nil => simp
  | cons u s =>
    have e : (t :: u :: s).getLastD 0 = (u :: s).getLastD 0 := by simp [List.getLastD]
    rw [e]
    simp only [List.length_cons, List.drop_succ_cons, List.drop_zero, Bool.and_eq_true, Bool.not_eq_true', decide_eq_false_iff_not, List.all_eq_true, decide_eq_true_eq, Bool.or_eq_true]
    constructor
    · rintro ⟨⟨_, h1⟩, h2⟩
      refine ⟨h1, fun _ => ?_⟩
      rcases h2 with h2 | h2
      · omega
      · exact h2
    · rintro ⟨h1, h2⟩
      exact ⟨⟨by omega, h1⟩, .inr (h2 (by simp))⟩
theorem RestI.tail {t : Int} {r : List Int} (h : RestI (t :: r)) : RestI r ∧ 1 ≤ t ∧ (r = [] → 2 ≤ t) := by
  refine ⟨⟨fun u hu => h.1 u (List.mem_cons_of_mem _ hu), fun hr => ?_⟩, h.1 t (List.mem_cons_self ..), ?_⟩
  · have z := h.2 (by simp)
    cases r with
    | nil => exact absurd rfl hr
    | cons u s => simpa [List.getLastD] using z
  · rintro rfl
    have z := h.2 (by simp)
    have := h.1 t (List.mem_cons_self ..)
    simp [List.getLastD] at z
    omega
/-- a rest lies above one -/
theorem rest_val : ∀ {r : List Int}, RestI r → 0 ≤ (valI r).2 ∧ (valI r).2 < (valI r).1 ∧ (r ≠ [] → 1 ≤ (valI r).2)
  | [], _ => ⟨by decide, by decide, fun h => absurd rfl h⟩
  | t :: r, h => by
    obtain ⟨hr, ht, h2⟩ := h.tail
    obtain ⟨a, b, c⟩ := rest_val hr
    show 0 ≤ (valI r).1 ∧ (valI r).1 < t * (valI r).1 + (valI r).2 ∧ _
    have m : (valI r).1 ≤ t * (valI r).1 := mul_ge ht (by omega)
    refine ⟨by omega, ?_, fun _ => by show 1 ≤ (valI r).1; omega⟩
    by_cases e : r = []
    · have := h2 e
      subst e
      simp [valI]
      omega
    · have := c e
      omega
theorem gcd_red (t x y : Int) : gcdI (t * x + y) x = gcdI x y := by
  show ((Int.gcd (t * x + y) x : Nat) : Int) = ((Int.gcd x y : Nat) : Int)
  rw [Int.gcd_comm, Int.add_comm, Int.mul_comm]
  simp
theorem gcd_val : ∀ r : List Int, gcdI (valI r).1 (valI r).2 = 1
  | [] => by decide
  | t :: r => by
    show gcdI (t * (valI r).1 + (valI r).2) (valI r).1 = 1
    rw [gcd_red, gcd_val r]
/-! ## == of truths -/
theorem eqv_bool (a b : Bool) : PyData.eqv (.bool a) (.bool b) = (a == b) := by cases a <;> cases b <;> rfl
theorem shaped_bool (b : Bool) : SeqAt.shaped (.bool b) = true := by cases b <;> decide +kernel
theorem hasDict_bool (b : Bool) : (PyData.bool b).hasDict = false := by unfold PyData.hasDict; rfl
theorem w_eqB {O : Ob} {a b : Bool} {Kc : KC} : aEqD O (.dat (.bool a)) (.dat (.bool b)) Kc ↔ Kc O (.dat (.bool (a == b))) := by
  constructor
  · rintro ⟨d, e, h1, h2, _, _, _, _, k⟩
    cases h1; cases h2
    rwa [eqv_bool] at k
  · intro k
    exact ⟨_, _, .dat _, .dat _, hasDict_bool a, hasDict_bool b, shaped_bool a, shaped_bool b, by rwa [eqv_bool]⟩
theorem w_neB {O : Ob} {a b : Bool} {Kc : KC} : aNeD O (.dat (.bool a)) (.dat (.bool b)) Kc ↔ Kc O (.dat (.bool (a != b))) := by
  constructor
  · rintro ⟨d, e, h1, h2, _, _, _, _, k⟩
    cases h1; cases h2
    rwa [eqv_bool] at k
  · intro k
    exact ⟨_, _, .dat _, .dat _, hasDict_bool a, hasDict_bool b, shaped_bool a, shaped_bool b, by rw [eqv_bool]; exact k⟩
/-- == and != of pairs of numbers -/
theorem w_eqFr {O : Ob} {a b c d : Int} {Kc : KC} : aEqD O (.dat (frD a b)) (.dat (frD c d)) Kc ↔ Kc O (.dat (.bool (decide (a = c) && decide (b = d)))) := by
  constructor
  · rintro ⟨x, y, h1, h2, _, _, _, _, k⟩
    cases h1; cases h2
    rwa [eqv_fr] at k
  · intro k
    exact ⟨_, _, .dat _, .dat _, rfl, rfl, rfl, rfl, by rwa [eqv_fr]⟩
theorem w_neFr {O : Ob} {a b c d : Int} {Kc : KC} : aNeD O (.dat (frD a b)) (.dat (frD c d)) Kc ↔ Kc O (.dat (.bool (!(decide (a = c) && decide (b = d))))) := by
  constructor
  · rintro ⟨x, y, h1, h2, _, _, _, _, k⟩
    cases h1; cases h2
    rwa [eqv_fr] at k
  · intro k
    exact ⟨_, _, .dat _, .dat _, rfl, rfl, rfl, rfl, by rwa [eqv_fr]⟩
/-! ## xs.reverse() -/
def aRevM (a : AE) : AE := fun O ρ XX Kc => a O ρ XX fun O1 c => ∃ p cs f, c = .at p ∧ Lo O1 p (.lst cs) f ∧ Kc (f (.lst cs.reverse)) (.dat .none)
theorem ClsH.rev {K : PySem.W.Frag} {ok : Addr → Prop} {H : Hp} : ∀ {vs : List V} {cs : List Cl}, ClsH K ok H vs cs → ClsH K ok H vs.reverse cs.reverse
  | _, _, .nil => .nil
  | _, _, .cons h r => by
    rw [List.reverse_cons, List.reverse_cons]
    exact (ClsH.rev r).app (.cons h .nil)
theorem sa_revM {K : PySem.W.Frag} {W : WX} {to : TE} {a : AE} (ha : SaE K W to a) : SaE K W (tBM0 K "list" rReverse to) (aRevM a) := fun O ρ σ H Q Kc XX S k q x =>
  ha O ρ σ H _ _ XX S k (fun O1 c v H1 f1 o1 r1 ⟨p, cs, f, e, lo, k1⟩ => by
    subst e
    have ev := dq_at r1
    subst ev
    obtain ⟨xs, hx, rs⟩ := o1.lo lo
    refine ⟨.inl ⟨rfl, xs, SqL.of hx⟩, p, xs, rfl, rfl, hx, ?_⟩
    obtain ⟨o3, f3⟩ := o1.put (w' := .lst cs.reverse) lo ⟨_, upd_same, rs.rev.mono (fun b v fb e => by rw [upd_ne fun z => fb _ lo.mem z.symm]; exact e) fun b v fb _ => (lo.fre b).mpr fb⟩
    exact q _ _ _ _ (f1.trans f3) o3 (.dat .non) k1) x
theorem de_revM {X : Cx} {W : WX} {o : Expr} {a : AE} {apos cpos : Pos} (ho : DE X W o a) (hbase : attributeBase o "reverse" X.env (eval o X.env) = eval o X.env := by rfl) (hline : (apos.endLine == cpos.line) = true := by rfl) :
    DE X W (.Call (.Attribute o "reverse" apos) [] [] cpos) (aRevM a) := by
  obtain ⟨t, p, s⟩ := ho.ex
  exact ⟨_, pe_bm0 PySem.F.plainAttrs_list PySem.F.slot_list_reverse PySem.F.type_list_reverse mt_reverse p hbase hline, sa_revM s⟩
/-! ## the beginnings of a row -/
theorem turn_take (is : List Int) (j : Nat) : turnI is = (is.drop j).foldl Tn.next (turnI (is.take j)) := by
  unfold turnI
  rw [← List.foldl_append, List.take_append_drop]
def sgn (j : Nat) : Int := if j % 2 = 0 then 1 else -1
theorem sgn_succ (j : Nat) : sgn (j + 1) = -sgn j := by
  unfold sgn
  by_cases h : j % 2 = 0
  · rw [if_pos h, if_neg (show ¬ (j + 1) % 2 = 0 by omega)]
  · rw [if_neg h, if_pos (show (j + 1) % 2 = 0 by omega)]; rfl
theorem det_foldl : ∀ (is : List Int) (r : Tn) (s : Int), r.a * r.d - r.b * r.c = s → (is.foldl Tn.next r).a * (is.foldl Tn.next r).d - (is.foldl Tn.next r).b * (is.foldl Tn.next r).c = s * sgn is.length
  | [], r, s, h => by simp [sgn, h]
  | t :: is, r, s, h => by
    have z := det_foldl is (r.next t) (-s) (by
      simp only [Tn.next]
      rw [Int.add_mul, Int.mul_add, ← h]
      have e : r.a * t * r.c = r.a * (r.c * t) := by rw [Int.mul_assoc, Int.mul_comm t]
      rw [e, Int.mul_comm r.b r.c]
      omega)
    rw [List.foldl_cons, z, List.length_cons, sgn_succ]
    rw [Int.neg_mul, Int.mul_neg]
theorem det_turn (is : List Int) : (turnI is).a * (turnI is).d - (turnI is).b * (turnI is).c = sgn is.length := by
  have z := det_foldl is tnOne 1 (by decide)
  rw [Int.one_mul] at z
  exact z
/-! ## enumerate(xs) -/
def enumC (es : List Cl) : List Cl := (List.range es.length).zipWith (fun j e => tupC [.dat (.int (j : Nat)), e]) es
theorem enumC_len (es : List Cl) : (enumC es).length = es.length := by simp [enumC]
theorem enumC_get {es : List Cl} {j : Nat} {e : Cl} (h : (enumC es)[j]? = some e) : ∃ x, es[j]? = some x ∧ e = tupC [.dat (.int (j : Nat)), x] := by
  unfold enumC at h
  rw [List.getElem?_zipWith] at h
  cases ex : es[j]? with
  | none => rw [ex] at h; cases hr : (List.range es.length)[j]? <;> rw [hr] at h <;> cases h
  | some x =>
    have hl := (List.getElem?_eq_some_iff.mp ex).1
    rw [ex, List.getElem?_range hl] at h
    exact ⟨x, rfl, (Option.some.inj h).symm⟩
section
variable {K : PySem.W.Frag} {W : WX}
theorem itok_enum {O : Ob} {H : Hp} {a : Addr} {c : Cl} {es : List Cl} (r : ClH K (fre O) H (.ref a) c) : ItOk K O H (Ite K a) (enumC es) (fun O2 => Els O2 c es) := by
  have at_ : ∀ O' H', Fr O H O' H' → OkO K O' H' → Els O' c es → ∃ xs, SqL K H' a xs ∧ ClsH K (fre O') H' xs es := fun O' H' f o st => by
    obtain ⟨b, xs, e, h, q⟩ := st.get o (r.fr f)
    cases e
    exact ⟨xs, SqL.of h, q⟩
  constructor
  · intro O' H' j e f o st hj
    obtain ⟨xs, h, q⟩ := at_ O' H' f o st
    obtain ⟨x, hx, rfl⟩ := enumC_get hj
    obtain ⟨v, hv, _⟩ := q.get hx
    exact ⟨xs, v, h, hv⟩
  · rintro O' H' H2 j e x f o st hj ⟨T, u, rfl, hT, rfl, hu⟩
    obtain ⟨xs, h, q⟩ := at_ O' H' f o st
    obtain ⟨y, hy, rfl⟩ := enumC_get hj
    obtain ⟨v, hv, rv⟩ := q.get hy
    cases Option.some.inj ((hu xs h).symm.trans hv)
    obtain ⟨o2, f2, n⟩ := o.new (u := .tup [.int (j : Nat), u]) hT
    exact ⟨o2, f2, cl_tup n upd_same (.cons (.dat (.int _)) (.cons (rv.fr f2) .nil))⟩
  · intro O' H' f o st
    obtain ⟨xs, h, q⟩ := at_ O' H' f o st
    exact ⟨xs, h, by rw [enumC_len, q.len]; exact Nat.le_refl _⟩
def aItEn (a : AA) : AIt := fun O ρ XX Kc => a O ρ XX fun O1 cs => ∃ c es, cs = [c] ∧ Els O1 c es ∧ Kc O1 (enumC es) fun O2 => Els O2 c es
theorem sai_enum {t : TA} {a : AA} (ha : SaA K W t a) : SaI K W (iEnum K t) (aItEn a) := fun O ρ σ H R Kc XX S k q x =>
  ha O ρ σ H _ _ XX S k (fun O1 cs vs H1 f1 o1 r1 ⟨c, es, e, h1, h⟩ => by
    subst e
    obtain ⟨v, rfl, rv⟩ := cls1 r1
    obtain ⟨b, xs, rfl, hb, rs⟩ := h1.get o1 rv
    exact ⟨b, xs, rfl, SqL.of hb, q O1 H1 _ _ _ f1 o1 (itok_enum rv) h⟩) x
end
theorem di_enum {X : Cx} {W : WX} {e : Expr} {aa : AA} {p pos tpos : Pos} {elts : List Expr} {kk : Nat} (hg : Gl X "enumerate") (hm : X.mg "enumerate" = none) (ha : DA X W [e] aa)
    (hs : starEach [e] X.env = [(false, eval e X.env)] := by rfl) : DI X W (.Tuple elts kk tpos) (.Call (.Name "enumerate" p) [e] [] pos) (aItEn aa) := by
  obtain ⟨t, pt, st⟩ := ha.ex
  exact ⟨_, pi_enum hg hm pt hs, sai_enum st⟩
/-- the turns of a loop over a list's places and items -/
theorem turns_en {O : Ob} {ρ : Rho} {XX : XC} {c : Cl} {es : List Cl} {g : AG} {w : AS} {A : AEn} (Wi : Nat → Ob → Rho → Prop) (w0 : Wi 0 O ρ) (keep : ∀ j O2 ρ2, Wi j O2 ρ2 → Els O2 c es)
    (st : ∀ j O2 ρ2 e, es[j]? = some e → Wi j O2 ρ2 → g (tupC [.dat (.int (j : Nat)), e]) O2 ρ2 fun O3 ρ3 => w { nx := Wi (j + 1), rt := A.rt, ct := Wi (j + 1), bk := A.nx } XX O3 ρ3) (fin : ∀ O2 ρ2, Wi es.length O2 ρ2 → A.nx O2 ρ2) :
    aTurns (enumC es) (fun O2 => Els O2 c es) g w A XX O ρ := by
  refine ⟨Wi, w0, ?_, ?_⟩
  · intro j O2 ρ2 e hj hw
    obtain ⟨x, hx, rfl⟩ := enumC_get hj
    exact ⟨keep j O2 ρ2 hw, st j O2 ρ2 x hx hw⟩
  · intro O2 ρ2 hw
    rw [enumC_len] at hw
    exact ⟨keep _ O2 ρ2 hw, fin O2 ρ2 hw⟩
theorem w_ixE {O : Ob} {c e : Cl} {es : List Cl} {i : Int} {Kc : KC} (h : Els O c es) (hat : atI es i = some e) (k : Kc O e) : aIxL O c (.dat (.int i)) Kc := ⟨es, i, e, rfl, h, hat, k⟩
theorem val_bound {m : Nat} : ∀ {is : List Int}, (∀ t ∈ is, t.natAbs < 2 ^ m) → (valI is).1.natAbs < 2 ^ (is.length * (m + 1) + 1) ∧ (valI is).2.natAbs < 2 ^ (is.length * (m + 1) + 1)
  | [], _ => by simp [valI]
  | t :: is, h => by
    obtain ⟨h1, h2⟩ := val_bound (is := is) fun u hu => h u (List.mem_cons_of_mem _ hu)
    have ht := h t (List.mem_cons_self ..)
    have e : (t :: is).length * (m + 1) + 1 = m + (is.length * (m + 1) + 1) + 1 := by rw [List.length_cons, Nat.succ_mul]; omega
    rw [e]
    exact ⟨addB (wide_lt ht h1) (upB h2 (by omega)), upB h1 (by omega)⟩
/-- behind the first term the lower numbers grow -/
theorem low_grow : ∀ (is : List Int) (r : Tn), (∀ t ∈ is, 1 ≤ t) → 0 ≤ r.d → r.d ≤ r.c → 0 ≤ (is.foldl Tn.next r).d ∧ (is.foldl Tn.next r).d ≤ (is.foldl Tn.next r).c
  | [], r, _, h1, h2 => ⟨h1, h2⟩
  | t :: is, r, h, h1, h2 => by
    rw [List.foldl_cons]
    refine low_grow is (r.next t) (fun u hu => h u (List.mem_cons_of_mem _ hu)) (by show 0 ≤ r.c; omega) ?_
    show r.c ≤ r.c * t + r.d
    have := mul_ge (h t (List.mem_cons_self ..)) (show 0 ≤ r.c by omega)
    rw [Int.mul_comm] at this
    omega
theorem low_turn {t : Int} {r : List Int} (h : ∀ u ∈ r, 1 ≤ u) : 0 ≤ (turnI (t :: r)).d ∧ (turnI (t :: r)).d ≤ (turnI (t :: r)).c := by
  unfold turnI
  rw [List.foldl_cons]
  exact low_grow r _ h (by simp [Tn.next, tnOne]) (by simp [Tn.next, tnOne])
/-- how far a beginning lies from the value -/
theorem side_eq (is : List Int) (j : Nat) (hj : j ≤ is.length) : (turnI (is.take j)).a * (valI is).2 - (valI is).1 * (turnI (is.take j)).c = (valI (is.drop j)).2 * sgn j := by
  obtain ⟨h1, h2⟩ := turnI_val is
  obtain ⟨z1, z2⟩ := turn_val (turnI (is.take j)) (is.drop j)
  rw [turn_take is j] at h1 h2
  rw [← h1, ← h2, z1, z2]
  have d := det_turn (is.take j)
  rw [List.length_take, Nat.min_eq_left hj] at d
  generalize turnI (is.take j) = T at d
  generalize (valI (is.drop j)).1 = x
  generalize (valI (is.drop j)).2 = y
  rw [← d]
  simp only [Int.mul_add, Int.add_mul, Int.mul_sub]
  have e1 : T.a * (T.c * x) = T.a * x * T.c := by rw [Int.mul_comm T.c x, Int.mul_assoc]
  have e2 : T.a * (T.d * y) = y * (T.a * T.d) := by rw [Int.mul_comm y, Int.mul_assoc]
  have e3 : T.b * y * T.c = y * (T.b * T.c) := by rw [Int.mul_comm T.b y, Int.mul_assoc]
  omega
theorem take_turn {is : List Int} {j : Nat} {t : Int} (h : is[j]? = some t) : turnI (is.take (j + 1)) = (turnI (is.take j)).next t := by
  unfold turnI
  rw [List.take_add_one, h, Option.toList_some, List.foldl_append]; rfl
theorem step_eq {is : List Int} {j : Nat} {t : Int} (h : is[j]? = some t) : (turnI (is.take (j + 1))).a * (turnI (is.take j)).c - (turnI (is.take j)).a * (turnI (is.take (j + 1))).c = sgn (j + 1) := by
  have hj := (List.getElem?_eq_some_iff.mp h).1
  have d := det_turn (is.take (j + 1))
  rw [List.length_take, Nat.min_eq_left hj] at d
  rw [← d, take_turn h]
  rfl
theorem elder_eq {is : List Int} {j : Nat} {t u : Int} (h : is[j + 1]? = some t) (g : is[j]? = some u) : (turnI (is.take (j + 2))).a * (turnI (is.take j)).c - (turnI (is.take j)).a * (turnI (is.take (j + 2))).c = t * sgn (j + 1) := by
  have hj := (List.getElem?_eq_some_iff.mp h).1
  have d := det_turn (is.take (j + 1))
  rw [List.length_take, Nat.min_eq_left (by omega)] at d
  have f1 : (turnI (is.take (j + 1))).b = (turnI (is.take j)).a := by rw [take_turn g]; rfl
  have f2 : (turnI (is.take (j + 1))).d = (turnI (is.take j)).c := by rw [take_turn g]; rfl
  rw [← d, take_turn h, ← f1, ← f2]
  generalize turnI (is.take (j + 1)) = S
  simp only [Tn.next, Int.mul_add, Int.add_mul, Int.mul_sub]
  have e1 : S.a * t * S.d = t * (S.a * S.d) := by rw [Int.mul_comm S.a t, Int.mul_assoc]
  have e2 : S.b * (S.c * t) = t * (S.b * S.c) := by rw [← Int.mul_assoc, Int.mul_comm]
  omega
theorem begs_at {is : List Int} {j : Nat} (h : j < is.length) : ((begsI is).map Cl.dat)[j]? = some (.dat (frD (turnI (is.take (j + 1))).a (turnI (is.take (j + 1))).c)) := by
  unfold begsI
  simp [List.getElem?_map, List.getElem?_range h]
theorem begs_len (is : List Int) : (begsI is).length = is.length := by simp [begsI]
/-- two branches that go on alike -/
theorem if_pick {b : Prop} {inst : Decidable b} {P : Cl → Prop} {c1 c2 : Cl} (h : ∀ c, c = c1 ∨ c = c2 → P c) : if b then P c1 else P c2 := by
  by_cases hb : b
  · rw [if_pos hb]; exact h _ (.inl rfl)
  · rw [if_neg hb]; exact h _ (.inr rfl)
theorem it_rng {O : Ob} {ρ : Rho} {XX : XC} {a : AE} {j : Int} (ha : Pu a O ρ XX (.dat (.int j))) (h0 : -1000000 ≤ j) (h1 : j ≤ 1000000) : ItS (aItR1 (aCons a aNil)) O ρ XX (nums 0 j.toNat) :=
  fun Kc' k => ha _ ⟨j, rfl, h0, h1, k _ fun _ => trivial⟩
theorem mem_nums {n : Nat} {c : Cl} (h : c ∈ nums 0 n) : ∃ j : Nat, j < n ∧ c = .dat (.int (j : Nat)) := by
  unfold nums at h
  obtain ⟨j, hj, rfl⟩ := List.mem_map.mp h
  exact ⟨j, List.mem_range.mp hj, by rw [Int.zero_add]⟩
theorem if_call {b : Prop} {inst : Decidable b} {af : AF} {O : Ob} {Xf : Ob → Str → Cl → Prop} {K : KC} {c1 c2 : Cl} (h : ∀ c, c = c1 ∨ c = c2 → af O [c] Xf K) : if b then af O [c1] Xf K else af O [c2] Xf K := by
  by_cases hb : b
  · rw [if_pos hb]; exact h _ (.inl rfl)
  · rw [if_neg hb]; exact h _ (.inr rfl)
theorem w_isiOwn {O : Ob} {p : Addr} {cs : List Cl} {Kc : KC} (m : (p, Ow.lst cs) ∈ O) (k : Kc O (.dat (.bool true))) : bIsi O [.at p, .raw (.ty "list")] Kc := ⟨_, _, _, _, rfl, .own m, kn_list (.own m), k⟩
theorem lc_arg {own : Bool} {a : AE} {i : Nat} {tt : AT} {te : AE} {O : Ob} {ρ : Rho} {XX : XC} {Kc : KC} :
    aLc own (aItR1 (aCons a aNil)) i tt te O ρ XX Kc = a O ρ XX fun O1 c => ∃ m : Int, c = .dat (.int m) ∧ aLc own (aItR1 (aCons (aC (.int m)) aNil)) i tt te O1 ρ XX Kc := by
  show a O ρ XX _ = a O ρ XX _
  congr 1
  funext O1 c
  refine propext ⟨?_, ?_⟩
  · rintro ⟨j, e, h⟩
    obtain rfl : c = .dat (.int j) := (List.cons.inj e).1
    exact ⟨j, rfl, j, rfl, h⟩
  · rintro ⟨m, rfl, h⟩
    exact h
theorem w_eqNilD {O : Ob} {ds : List PyData} {Kc : KC} : aEqNil O (.dat (.list ds)) (.dat (.list [])) Kc ↔ Kc O (.dat (.bool ds.isEmpty)) := by
  rw [← lisC_dats ds, w_eqNil]
  simp
theorem w_neNilD {O : Ob} {ds : List PyData} {Kc : KC} : aNeNil O (.dat (.list ds)) (.dat (.list [])) Kc ↔ Kc O (.dat (.bool (!ds.isEmpty))) := by
  rw [← lisC_dats ds, w_neNil]
  simp
theorem w_eqPr {O : Ob} {a b c d a' b' c' d' : Int} {Kc : KC} : aEqD O (.dat (prE a b c d)) (.dat (prE a' b' c' d')) Kc ↔ Kc O (.dat (.bool (decide (a = a' ∧ b = b' ∧ c = c' ∧ d = d')))) := by
  constructor
  · rintro ⟨x, y, h1, h2, _, _, _, _, k⟩
    cases h1; cases h2
    rwa [eqv_prE] at k
  · intro k
    exact ⟨_, _, .dat _, .dat _, rfl, rfl, rfl, rfl, by rwa [eqv_prE]⟩
theorem w_nePr {O : Ob} {a b c d a' b' c' d' : Int} {Kc : KC} : aNeD O (.dat (prE a b c d)) (.dat (prE a' b' c' d')) Kc ↔ Kc O (.dat (.bool (!decide (a = a' ∧ b = b' ∧ c = c' ∧ d = d')))) := by
  constructor
  · rintro ⟨x, y, h1, h2, _, _, _, _, k⟩
    cases h1; cases h2
    rwa [eqv_prE] at k
  · intro k
    exact ⟨_, _, .dat _, .dat _, rfl, rfl, rfl, rfl, by rwa [eqv_prE]⟩
theorem val_step {t : Int} {r : List Int} (h : RestI r) : (valI (t :: r)).1 / (valI (t :: r)).2 = t ∧ (valI (t :: r)).1 % (valI (t :: r)).2 = (valI r).2 ∧ 0 < (valI (t :: r)).2 := by
  obtain ⟨h1, h2, _⟩ := rest_val h
  show (t * (valI r).1 + (valI r).2) / (valI r).1 = t ∧ (t * (valI r).1 + (valI r).2) % (valI r).1 = (valI r).2 ∧ 0 < (valI r).1
  generalize (valI r).1 = x at *
  generalize (valI r).2 = y at *
  refine ⟨?_, ?_, by omega⟩
  · rw [Int.add_comm, Int.add_mul_ediv_right _ _ (by omega), Int.ediv_eq_zero_of_lt h1 h2]; omega
  · rw [Int.add_comm, Int.add_mul_emod_self_right, Int.emod_eq_of_lt h1 h2]
theorem restI_drop {r : List Int} (h : RestI r) (j : Nat) : RestI (r.drop j) := by
  induction j generalizing r with
  | zero => exact h
  | succ j ih =>
    cases r with
    | nil => exact ⟨fun u hu => by simp at hu, fun e => by simp at e⟩
    | cons u r => exact ih h.tail.1
theorem floor_drop {is : List Int} (h : floorI is = true) (j : Nat) : RestI (is.drop (j + 1)) := by
  cases is with
  | nil => cases h
  | cons t r => rw [List.drop_succ_cons]; exact restI_drop (floorI_cons.mp h) j
def afFloorRow : AF := fun O cs Xf Kc => match cs with
  | [c] => Pl O c ∧ ((fracC c = false ∧ Xf O "NoFraction" c) ∨ ∃ is : List Int, c = .dat (frD (valI is).1 (valI is).2) ∧ floorI is = true ∧ (valI is).2.natAbs < 2 ^ 8500 ∧ is.length ≤ 100000 ∧ ∀ p, Kc ((p, .lst (iCl is)) :: O) (.at p))
  | _ => False
theorem floor_pos {is : List Int} (h : floorI is = true) : 1 ≤ (valI is).2 ∧ gcdI (valI is).1 (valI is).2 = 1 := by
  refine ⟨?_, gcd_val is⟩
  cases is with
  | nil => cases h
  | cons t r =>
    have z := rest_val (floorI_cons.mp h)
    show 1 ≤ (valI r).1
    omega
theorem restI_cons {t : Int} {r : List Int} (h : RestI r) (ht : 1 ≤ t) (h2 : r = [] → 2 ≤ t) : RestI (t :: r) := by
  refine ⟨fun u hu => ?_, fun _ => ?_⟩
  · rcases List.mem_cons.mp hu with rfl | hu
    · exact ht
    · exact h.1 u hu
  · cases r with
    | nil => have := h2 rfl; simp [List.getLastD]; omega
    | cons v s =>
      have z := h.2 (by simp)
      simpa [List.getLastD] using z
theorem gcd_zero1 {b : Int} (hb : 1 ≤ b) (h : gcdI b 0 = 1) : b = 1 := by
  rw [gcd_zero (by omega)] at h; exact h
theorem row_ex : ∀ (n : Nat) (a b : Int), 1 ≤ b → gcdI a b = 1 → b < 2 ^ n → ∃ is, floorI is = true ∧ valI is = (a, b) ∧ is.length ≤ 2 * n + 1 ∧ ∀ t ∈ is, t.natAbs ≤ max a.natAbs b.natAbs
  | 0, a, b, hb, _, h => by omega
  | n + 1, a, b, hb, hg, h => by
    have ea : a / b * b + a % b = a := by have := Int.mul_ediv_add_emod a b; rw [Int.mul_comm] at this; exact this
    have r0 := Int.emod_nonneg a (show b ≠ 0 by omega)
    have r1 := Int.emod_lt_of_pos a (show 0 < b by omega)
    have ba : (a / b).natAbs ≤ a.natAbs := Int.natAbs_ediv_le_natAbs _ _
    have g1 : gcdI b (a % b) = 1 := by rw [← gcd_red (a / b), ea]; exact hg
    generalize hr : a % b = r at *
    by_cases hz : r = 0
    · subst hz
      have b1 := gcd_zero1 hb g1
      subst b1
      refine ⟨[a], by unfold floorI; simp, by simp [valI], by simp, fun t ht => ?_⟩
      cases List.mem_singleton.mp ht
      omega
    · have eb : b / r * r + b % r = b := by have := Int.mul_ediv_add_emod b r; rw [Int.mul_comm] at this; exact this
      have s0 := Int.emod_nonneg b (show r ≠ 0 by omega)
      have s1 := Int.emod_lt_of_pos b (show 0 < r by omega)
      have q1 : 1 ≤ b / r := (Int.le_ediv_iff_mul_le (by omega)).mpr (by omega)
      have bb : (b / r).natAbs ≤ b.natAbs := Int.natAbs_ediv_le_natAbs _ _
      have g2 : gcdI r (b % r) = 1 := by rw [← gcd_red (b / r), eb]; exact g1
      generalize hs : b % r = s at *
      by_cases hz2 : s = 0
      · subst hz2
        have e1 := gcd_zero1 (by omega) g2
        subst e1
        rw [Int.ediv_one] at *
        refine ⟨[a / b, b], floorI_cons.mpr (restI_cons ⟨fun u hu => by simp at hu, fun e => by simp at e⟩ hb fun _ => by omega), by simp [valI]; omega, by simp; omega, fun t ht => ?_⟩
        simp only [List.mem_cons, List.not_mem_nil, or_false] at ht
        rcases ht with rfl | rfl <;> omega
      · have m1 : r ≤ b / r * r := mul_ge q1 (by omega)
        have p2 : (2 : Int) ^ (n + 1) = 2 * 2 ^ n := by rw [Int.pow_succ, Int.mul_comm]
        obtain ⟨js, hf, hv, hl, ht⟩ := row_ex n r s (by omega) g2 (by omega)
        cases js with
        | nil => cases hf
        | cons u t =>
          have rt := floorI_cons.mp hf
          obtain ⟨v1, v2, _⟩ := rest_val rt
          have hv1 : u * (valI t).1 + (valI t).2 = r := congrArg Prod.fst hv
          have hv2 : (valI t).1 = s := congrArg Prod.snd hv
          have u1 : 1 ≤ u := by
            by_cases hu : 1 ≤ u
            · exact hu
            · have : u * (valI t).1 ≤ 0 := Int.mul_nonpos_of_nonpos_of_nonneg (by omega) (by omega)
              omega
          have rj : RestI (u :: t) := restI_cons rt u1 fun e => by subst e; simp [valI] at hv1 hv2; omega
          refine ⟨a / b :: b / r :: u :: t, floorI_cons.mpr (restI_cons rj q1 fun e => by cases e), ?_, by simp at hl ⊢; omega, fun w hw => ?_⟩
          · show ((a / b) * ((b / r) * (valI (u :: t)).1 + (valI (u :: t)).2) + (valI (u :: t)).1, (b / r) * (valI (u :: t)).1 + (valI (u :: t)).2) = (a, b)
            rw [hv]
            show ((a / b) * ((b / r) * r + s) + r, (b / r) * r + s) = (a, b)
            rw [eb, ea]
          · rcases List.mem_cons.mp hw with rfl | hw
            · omega
            · rcases List.mem_cons.mp hw with rfl | hw
              · omega
              · have := ht w hw
                omega
def aRev1 (a : AE) : AE := fun O ρ XX Kc => a O ρ XX fun O1 c => ∃ cs : List Cl, Els O1 c cs ∧ Kc O1 (lisC cs.reverse)
theorem sa_rev1 {K : PySem.W.Frag} {W : WX} {t : TE} {a : AE} (ha : SaE K W t a) : SaE K W (tRevL K t) (aRev1 a) := fun O ρ σ H Q Kc XX S k q x =>
  ha O ρ σ H _ _ XX S k (fun O1 c v H1 f1 o1 r1 ⟨ds, h, k1⟩ => by
    obtain ⟨b, xs, rfl, hb, rs⟩ := h.get o1 r1
    refine ⟨b, xs, rfl, SqL.of hb, fun p hp => ?_⟩
    obtain ⟨o2, f2, n⟩ := o1.new (u := .lst xs.reverse) hp
    exact q O1 _ _ _ (f1.trans f2) o2 (cl_lis n upd_same (rs.rev.fr f2)) k1) x
theorem de_rev {X : Cx} {W : WX} {e : Expr} {a : AE} {k : Nat} {p1 p2 p3 pos : Pos} (h : DE X W e a) : DE X W (.Subscript e (.Slice none none (some (.UnaryOp .USub (.Constant (.int 1) k p1) p2)) p3) pos) (aRev1 a) := by
  obtain ⟨t, p, s⟩ := h.ex
  exact ⟨_, pe_revL p, sa_rev1 s⟩
theorem val_down {is : List Int} (h : floorI is = true) : ∀ i, i < is.length → 0 ≤ (valI (is.drop i)).2 ∧ (valI (is.drop i)).2 ≤ (valI is).2
  | 0, _ => by
    have := floor_pos h
    exact ⟨by rw [List.drop_zero]; omega, by rw [List.drop_zero]; omega⟩
  | i + 1, hi => by
    obtain ⟨_, z⟩ := val_down h i (by omega)
    have e : is.drop i = is[i] :: is.drop (i + 1) := List.drop_eq_getElem_cons (by omega)
    obtain ⟨a, b, _⟩ := rest_val (floor_drop h i)
    have e2 : (valI (is.drop i)).2 = (valI (is.drop (i + 1))).1 := by rw [e]; rfl
    exact ⟨a, by omega⟩
end Ab
/-! defs that raise nothing, called within an except suite -/
theorem _root_.L2H.RoomH.units {k : Nat} {A : PySem.Around} (r : L2H.RoomH k A) : A.units + 64 < PySem.cLine := by have := r.un; omega
namespace Ab
open PySem PySem.Spec PyProof.Rows L2 Vg
def cxW (CX : CXT) (P : Program) (w : World) (K : PySem.W.Frag) (mg : Str → Option Value) (base : Heap) (N : List Str) (qual : Str) (scope : Scope) (f : Addr) (cd : Value) (A : Around) (outer : List Env) (s : Shared) (H : Hp) (E : XK) : Cx :=
  { cxOf CX P w K mg base N qual scope f cd A outer s H E with calm := false }
theorem inv_cool {X Y : Cx} {pins : List (Addr × Obj)} {σ : L2.St} {H : Hp} {s : Shared} {B : Around} {xe : Value → Shared → Prop} (I : Inv X pins σ H s) (hY : Y = { X with A := B, calm := false, xe := xe }) (hf : B.frames = X.A.frames) : Inv Y pins σ H s := by
  subst hY
  have o := I.ok
  exact ⟨⟨o.mod, o.kind, o.glob, o.blt, o.above, o.inj, o.has, o.cab, (fun z => Bool.noConfusion z), hf.trans o.frames, o.stk, o.exf, o.bs, o.bsz, o.noex, o.exfs, o.funs, o.frf⟩, I.os, I.bare, I.base, I.loc, I.cell, I.free, I.freeC, I.pin, I.hok, I.len⟩
structure FnW (P : Program) (w : World) (K : PySem.W.Frag) (mg : Str → Option Value) (base : Heap) (k : Nat) (f : Addr) (fd : FuncData) (ps : List Str) (sp : Sp) : Prop where
  len : ∀ vs H Q E, sp vs H Q E → vs.length = ps.length
  run : ∀ (A : Around) (outer : List Env) (s : Shared) (H : Hp) (args : Args) (us : List Value) (vs : List V) (Q : VK), A.guards = some [] → L2H.RoomH k A → Env0 P w K mg base A outer s H → BindsTo s fd args (ps.zip us) → Vals vs us →
    sp vs H Q (fun _ _ _ => False) → codeAny (model P w) A (.call (.ref f) args) (CR (L2.CX P w) outer P w H s Q fun _ _ _ => False) s
theorem fnw_of {P : Program} {w : World} {K : PySem.W.Frag} {mg : Str → Option Value} {base : Heap} {k : Nat} {f : Addr} {ps : List Str} {sp : Sp} {name qual : Str} {params : Arguments} {body : List Stmt} {scope : Scope} {dV kV doc pm cdv ct oc : Value} {an od : Option Addr}
    {osl : Array (Option Value)} {N : List Str}
    (lk : K.lookup f = some ⟨oc, od, .func (PySem.W.fnOf name qual params body scope dV kV doc pm an cdv ct), osl⟩)
    (hcd : PySem.W.codeIn K cdv qual = true) (S : FnScope N ps scope)
    (len : ∀ vs H Q E, sp vs H Q E → vs.length = ps.length)
    (hbody : ∀ (A : Around) (outer : List Env) (s : Shared) (H : Hp) (vs : List V) (Q : VK),
      (cxW (L2.CX P w) P w K mg base N qual scope f cdv A outer s H fun _ _ _ => False).A.guards = some [] →
      L2H.RoomH k (A.deeper (envOfC qual scope s.heap.objs.size f cdv)) → sp vs H Q (fun _ _ _ => False) →
      ∃ t, PSs (cxW (L2.CX P w) P w K mg base N qual scope f cdv A outer s H fun _ _ _ => False) body t ∧
        t { nx := fun _ H' => Q .non H', rt := Q } (start N vs) H) :
    FnW P w K mg base (k + 1) f (PySem.W.fnOf name qual params body scope dV kV doc pm an cdv ct) ps sp := by
  refine ⟨len, fun A outer s H args us vs Q hg hr e0 hb r hsp => ?_⟩
  have hl := len _ _ _ _ hsp
  have inK : K.In s.heap := e0.mod.kin.keeps fun b o e => (e0.bs b o e).1
  have noLim : s.heap.NoLimit := e0.mod.nolimit.keeps fun b o e => (e0.bs b o e).1
  have kinds : ∀ y ∈ ps.zip us, scope.names.lookup y.1 = some .local ∨
      (scope.names.lookup y.1 = some .cell ∧ ((cellsFrom (s.heap.objs.size + 1) scope.names []).lookup y.1).isSome = true) := by
    rintro ⟨n, v⟩ hy
    have hn : n ∈ ps := (List.of_mem_zip hy).1
    cases S.par n hn with
    | inl q => exact Or.inl q
    | inr q => exact Or.inr (And.intro q (PySem.W.cellsFrom_some _ _ _ (Or.inl q)))
  refine codeAny_call_function hr.depth (inK _ _ lk) rfl S.co S.gen rfl (PySem.W.codeRec_of inK hcd) (hb _ _ _ _ ?_)
  refine wpAny_newFunctionEnv_cells S.kind kinds fun env he s1 x => ?_
  subst he
  refine ⟨noLim.keeps x.toInCall.keep, codeAny_func ?_⟩
  obtain ⟨t, ht, hq⟩ := hbody A outer s H vs Q hg (hr.deeper _) hsp
  have e1 : Env0 P w K mg base { A with handled := none } outer s H := ⟨e0.frames, e0.mod, e0.bs, e0.bsz, e0.funs, e0.frf, e0.hok, e0.bare⟩
  have I0 := inv_start (CX := L2.CX P w) (P := P) (w := w) (K := K) (mg := mg) (base := base) (E := fun _ _ _ => False) S rfl e1 hl r x
  have I1 : Inv (cxW (L2.CX P w) P w K mg base N qual scope f cdv A outer s H fun _ _ _ => False) [] (start N vs) H s1 := inv_cool I0 rfl rfl
  refine wpAny_mono (ht.run [] s1 (start N vs) H _ I1 hq) (fun fl s' hs => ?_) fun e s' hs => hs
  match fl, hs with
  | .ret u, ⟨v, σ', H', J, rv, q⟩ => exact ⟨v, H', J.os, J.bare, J.base, J.hok, rv, q⟩
  | .next, ⟨σ', H', J, q⟩ => exact ⟨V.non, H', J.os, J.bare, J.base, J.hok, rfl, q⟩
  | .brk, ⟨_, _, _, q⟩ => exact q.elim
  | .cont, ⟨_, _, _, q⟩ => exact q.elim
structure FuW (P : Program) (w : World) (K : PySem.W.Frag) (mg : Str → Option Value) (base : Heap) (k : Nat) (x : Str) (ps : List Str) (af : AF) : Prop where
  ex : ∃ (f : Addr) (fd : FuncData), mg x = some (.ref f) ∧ PySem.W.keepIn K (.ref f) = true ∧ Binds K fd ps [] ∧ FnW P w K mg base k f fd ps (spG K af)
theorem fuw_of {P : Program} {w : World} {K : PySem.W.Frag} {mg : Str → Option Value} {base : Heap} {k : Nat} {x : Str} {st : Stmt} {N ps : List Str} {af : AF} (D : At K mg x st) (S : FnScope N ps (defScope st))
    (hb : ∀ (kV doc pm : Value) (an : Option Addr) (cdv ct : Value) (us : List Value), us.length = ps.length →
      bindArgs (PySem.W.fnOf x x (defArgs st) (defBody st) (defScope st) .none kV doc pm an cdv ct) ⟨us, []⟩ = pure (ps.zip us))
    (hl : ∀ O cs Xf Kc, af O cs Xf Kc → cs.length = ps.length)
    (body : ∀ (f : Addr) (cdv : Value) (A : Around) (outer : List Env) (s : Shared) (H : Hp),
      (cxW (L2.CX P w) P w K mg base N x (defScope st) f cdv A outer s H fun _ _ _ => False).A.guards = some [] →
      L2H.RoomH k (A.deeper (envOfC x (defScope st) s.heap.objs.size f cdv)) →
      ∃ a : AS, DSs (cxW (L2.CX P w) P w K mg base N x (defScope st) f cdv A outer s H fun _ _ _ => False) (fun _ _ _ _ => False) (defBody st) a ∧
        ∀ O cs Xf Kc, af O cs Xf Kc → a { nx := fun O' _ => Kc O' (.dat .none), rt := Kc } (fun O' _ y c => Xf O' y c) O (cs.map some ++ List.replicate (N.length - cs.length) none)) :
    FuW P w K mg base (k + 1) x ps af := by
  obtain ⟨f, fd, hm, F⟩ := D.ex
  refine ⟨f, fd, hm, F.kp, F.binds hb, ?_⟩
  obtain ⟨oc, od, kV, doc, pm, an, cdv, ct, osl, rfl, lk, hcd⟩ := F.ex
  refine fnw_of lk hcd S (fun vs H Q E ⟨O, cs, Xf, Kc, o, r, h, _, _⟩ => r.len.trans (hl O cs Xf Kc h)) fun A outer s H vs Q hg hr ⟨O, cs, Xf, Kc, o, r, h, q, x⟩ => ?_
  obtain ⟨a, ⟨t, p, sa⟩, k⟩ := body f cdv A outer s H hg hr
  refine ⟨t, p, sa O _ _ H _ _ _ (start_ss o r) (k O cs Xf Kc h) ⟨fun O' ρ' σ' H' f S k' => ?_, q, fun _ _ _ _ _ _ z => z.elim, fun _ _ _ _ _ _ z => z.elim⟩ ?_⟩
  · exact q O' _ _ H' f S.o (.dat .non) k'
  · exact fun O' ρ' σ' y c v H' dd f S r hd hf z => x O' y c v H' dd f S.o r hd hf z
def aCallH (af : AF) (a : AA) : AE := fun O ρ XX Kc => a O ρ XX fun O1 cs => af O1 cs (fun _ _ _ => False) Kc
section
variable {X : Cx} {W : WX}
theorem de_callH {af : AF} {k : Nat} {ps : List Str} {x : Str} {e : Expr} {es : List Expr} {a : AA} {p pos : Pos} (F : FuW X.prog X.w X.K X.mg X.base k x ps af) (hgd : X.A.guards = some []) (hr : L2H.RoomH k X.A) (hg : Gl X x) (ha : DA X W (e :: es) a)
    (hdb : (x == ("__debug__" : Str)) = false := by decide) (he : starEach (e :: es) X.env = (false, eval e X.env) :: starEach es X.env := by rfl)
    (hpl : (backTo pos (starEach es X.env)).any (·.1) = false := by rfl) : DE X W (.Call (.Name x p) (e :: es) [] pos) (aCallH af a) := by
  obtain ⟨f, fd, hm, hk, hb, F⟩ := F.ex
  obtain ⟨t, pa, s⟩ := ha.ex
  refine ⟨fun σ H Q => t σ H fun vs H1 => spG X.K af vs H1 Q (fun _ _ _ => False), ⟨fun pins st σ H Q I h => ?_⟩, fun O ρ σ H Q Kc XX S k q x => s O ρ σ H _ _ XX S k (fun O1 cs vs H1 f1 o1 r1 k1 => ⟨O1, cs, _, Kc, o1, r1, k1, q.go f1, fun _ _ _ _ _ _ _ _ _ _ _ z => z.elim⟩) x⟩
  refine wpAny_Call_Name_kw (ld_glob I hg hm ?_ hdb)
  refine PySem.W.callWith_K (h₀ := X.base) I.ok.mod.kin hk (thn (pa.run pos pins st σ H _ I h) fun us s1 ⟨vs, H1, I1, r, q⟩ => ⟨I1.kIn, ?_⟩) he hpl
  have hl : us.length = ps.length := by rw [← r.length]; exact F.len _ _ _ _ q
  have b := hb s1 us I1.kIn (by rw [List.append_nil]; exact hl)
  rw [List.append_nil] at b
  refine wpAny_call (codeAny_mono (F.run X.A X.stack s1 H1 ⟨us, []⟩ us vs Q hgd hr I1.env0 b r q) fun r s' hq => ?_)
  match r, hq with
  | .error e, ⟨_, _, _, _, _, _, _, _, _, _, _, _, z⟩ => exact z.elim
  | .ok (.ret u), hq => exact I1.after hq
  | .ok .next, hq => exact False.elim hq
  | .ok .brk, hq => exact False.elim hq
  | .ok .cont, hq => exact False.elim hq
end
theorem roomS {j k : Nat} {A : Around} {v : Option Value} (r : Room k A) (h : j ≤ k) : L2H.RoomH j (A.mark v) :=
  ⟨by have := r.dp; show A.depth + 3 * j + 5 < _; omega, by have := r.un; show A.units + 16 * j + 200 < _; omega⟩
/-- the turns of a loop over a list of cells -/
theorem turns_l {O : Ob} {ρ : Rho} {XX : XC} {cs : List Cl} {g : Ob → Prop} {i : Nat} {w : AS} {A : AEn} (Wi : Nat → Ob → Rho → Prop) (w0 : Wi 0 O ρ) (hg : ∀ j O2 ρ2, Wi j O2 ρ2 → g O2)
    (st : ∀ j O2 ρ2 c, cs[j]? = some c → Wi j O2 ρ2 → w { nx := Wi (j + 1), rt := A.rt, ct := Wi (j + 1), bk := A.nx } XX O2 (ρ2.set i (some c))) (fin : ∀ O2 ρ2, Wi cs.length O2 ρ2 → A.nx O2 ρ2) :
    aTurns cs g (aName i) w A XX O ρ := by
  refine ⟨Wi, w0, ?_, ?_⟩
  · intro j O2 ρ2 e hj hw
    exact ⟨hg _ _ _ hw, st j O2 ρ2 e hj hw⟩
  · intro O2 ρ2 hw
    exact ⟨hg _ _ _ hw, fin O2 ρ2 hw⟩
end Ab
namespace My
open PySem PySem.Spec PyProof.Rows L2 Vg Ab
def top (i : Nat) : Stmt := PySem.Challenge.pw_termstream_k08_rows_of_fractions.main.body.getD i (.Pass ⟨0, 0, 0, 0⟩)
abbrev s_is_number : Stmt := top 6
abbrev s_is_list : Stmt := top 7
abbrev s_are_numbers : Stmt := top 8
abbrev s_is_pair : Stmt := top 9
abbrev s_is_fraction : Stmt := top 11
abbrev s_need_fractions : Stmt := top 12
abbrev s_is_floor_row : Stmt := top 14
abbrev s_need_floor_row : Stmt := top 15
abbrev s_floor_row : Stmt := top 16
abbrev s_fraction_of : Stmt := top 17
abbrev s_turned : Stmt := top 18
abbrev s_turn_of : Stmt := top 19
abbrev s_law_cell : Stmt := top 21
abbrev s_law_purse : Stmt := top 22
abbrev s_law_take : Stmt := top 23
abbrev s_law_odd : Stmt := top 24
abbrev s_law_very : Stmt := top 25
abbrev s_law_whole : Stmt := top 26
abbrev s_law_common : Stmt := top 27
abbrev s_law_row : Stmt := top 28
abbrev s_law_value : Stmt := top 29
abbrev s_law_refused : Stmt := top 30
abbrev s_law : Stmt := top 31
abbrev N_is_number : List Str := ["thing"]
theorem sc_is_number : FnScope N_is_number ["thing"] (defScope s_is_number) := ⟨rfl, rfl, rfl, by decide +kernel, rfl, by decide +kernel, by decide +kernel⟩
abbrev N_is_list : List Str := ["thing"]
theorem sc_is_list : FnScope N_is_list ["thing"] (defScope s_is_list) := ⟨rfl, rfl, rfl, by decide +kernel, rfl, by decide +kernel, by decide +kernel⟩
abbrev N_are_numbers : List Str := ["thing", "part"]
theorem sc_are_numbers : FnScope N_are_numbers ["thing"] (defScope s_are_numbers) := ⟨rfl, rfl, rfl, by decide +kernel, rfl, by decide +kernel, by decide +kernel⟩
abbrev N_is_pair : List Str := ["thing"]
theorem sc_is_pair : FnScope N_is_pair ["thing"] (defScope s_is_pair) := ⟨rfl, rfl, rfl, by decide +kernel, rfl, by decide +kernel, by decide +kernel⟩
abbrev N_is_fraction : List Str := ["thing", "top", "bottom"]
theorem sc_is_fraction : FnScope N_is_fraction ["thing"] (defScope s_is_fraction) := ⟨rfl, rfl, rfl, by decide +kernel, rfl, by decide +kernel, by decide +kernel⟩
abbrev N_need_fractions : List Str := ["things", "thing"]
theorem sc_need_fractions : FnScope N_need_fractions ["things"] (defScope s_need_fractions) := ⟨rfl, rfl, rfl, by decide +kernel, rfl, by decide +kernel, by decide +kernel⟩
abbrev N_is_floor_row : List Str := ["thing", "term"]
theorem sc_is_floor_row : FnScope N_is_floor_row ["thing"] (defScope s_is_floor_row) := ⟨rfl, rfl, rfl, by decide +kernel, rfl, by decide +kernel, by decide +kernel⟩
abbrev N_need_floor_row : List Str := ["thing"]
theorem sc_need_floor_row : FnScope N_need_floor_row ["thing"] (defScope s_need_floor_row) := ⟨rfl, rfl, rfl, by decide +kernel, rfl, by decide +kernel, by decide +kernel⟩
abbrev N_floor_row : List Str := ["fraction", "top", "bottom", "row"]
theorem sc_floor_row : FnScope N_floor_row ["fraction"] (defScope s_floor_row) := ⟨rfl, rfl, rfl, by decide +kernel, rfl, by decide +kernel, by decide +kernel⟩
abbrev N_fraction_of : List Str := ["row", "turn"]
theorem sc_fraction_of : FnScope N_fraction_of ["row"] (defScope s_fraction_of) := ⟨rfl, rfl, rfl, by decide +kernel, rfl, by decide +kernel, by decide +kernel⟩
abbrev N_turned : List Str := ["rows", "term", "a", "b", "c", "d"]
theorem sc_turned : FnScope N_turned ["rows", "term"] (defScope s_turned) := ⟨rfl, rfl, rfl, by decide +kernel, rfl, by decide +kernel, by decide +kernel⟩
abbrev N_turn_of : List Str := ["terms", "rows", "term"]
theorem sc_turn_of : FnScope N_turn_of ["terms"] (defScope s_turn_of) := ⟨rfl, rfl, rfl, by decide +kernel, rfl, by decide +kernel, by decide +kernel⟩
abbrev N_law_cell : List Str := ["_law_script", "_law_k"]
theorem sc_law_cell : FnScope N_law_cell ["_law_script", "_law_k"] (defScope s_law_cell) := ⟨rfl, rfl, rfl, by decide +kernel, rfl, by decide +kernel, by decide +kernel⟩
abbrev N_law_purse : List Str := ["_law_cell_here"]
theorem sc_law_purse : FnScope N_law_purse ["_law_cell_here"] (defScope s_law_purse) := ⟨rfl, rfl, rfl, by decide +kernel, rfl, by decide +kernel, by decide +kernel⟩
abbrev N_law_take : List Str := ["_law_purse_here", "_law_many", "_law_digit", "_law_one", "_law_other"]
theorem sc_law_take : FnScope N_law_take ["_law_purse_here", "_law_many"] (defScope s_law_take) := ⟨rfl, rfl, rfl, by decide +kernel, rfl, by decide +kernel, by decide +kernel⟩
abbrev N_law_odd : List Str := ["_law_purse_here", "_law_some"]
theorem sc_law_odd : FnScope N_law_odd ["_law_purse_here"] (defScope s_law_odd) := ⟨rfl, rfl, rfl, by decide +kernel, rfl, by decide +kernel, by decide +kernel⟩
abbrev N_law_very : List Str := ["_law_found", "_law_thing"]
theorem sc_law_very : FnScope N_law_very ["_law_found", "_law_thing"] (defScope s_law_very) := ⟨rfl, rfl, rfl, by decide +kernel, rfl, by decide +kernel, by decide +kernel⟩
abbrev N_law_whole : List Str := ["_law_purse_here", "_law_some", "_law_found"]
theorem sc_law_whole : FnScope N_law_whole ["_law_purse_here"] (defScope s_law_whole) := ⟨rfl, rfl, rfl, by decide +kernel, rfl, by decide +kernel, by decide +kernel⟩
abbrev N_law_common : List Str := ["_law_one", "_law_other"]
theorem sc_law_common : FnScope N_law_common ["_law_one", "_law_other"] (defScope s_law_common) := ⟨rfl, rfl, rfl, by decide +kernel, rfl, by decide +kernel, by decide +kernel⟩
abbrev N_law_row : List Str := ["_law_purse_here", "_law_many", "_law_wide", "_law_first", "_law_row_here", "_law_k"]
theorem sc_law_row : FnScope N_law_row ["_law_purse_here"] (defScope s_law_row) := ⟨rfl, rfl, rfl, by decide +kernel, rfl, by decide +kernel, by decide +kernel⟩
abbrev N_law_value : List Str := ["_law_row_here", "_law_top", "_law_bottom", "_law_term"]
theorem sc_law_value : FnScope N_law_value ["_law_row_here"] (defScope s_law_value) := ⟨rfl, rfl, rfl, by decide +kernel, rfl, by decide +kernel, by decide +kernel⟩
abbrev N_law_refused : List Str := ["_law_thing", "e"]
theorem sc_law_refused : FnScope N_law_refused ["_law_thing"] (defScope s_law_refused) := ⟨rfl, rfl, rfl, by decide +kernel, rfl, by decide +kernel, by decide +kernel⟩
abbrev N_law : List Str := ["_law_script", "_law_k", "_law_purse_here", "_law_row_here", "_law_kept", "_law_value_here", "_law_turn", "_law_found", "_law_top", "_law_bottom", "_law_by", "_law_odd_here"]
theorem sc_law : FnScope N_law ["_law_script"] (defScope s_law) := ⟨rfl, rfl, rfl, by decide +kernel, rfl, by decide +kernel, by decide +kernel⟩
def methAt (i j : Nat) : Stmt := match top i with
  | .ClassDef (body := b) .. => b.getD j (.Pass ⟨0, 0, 0, 0⟩)
  | s => s
abbrev m_TermError : Stmt := methAt 2 0
theorem sc_m_TermError : FnScope ["self", "text"] ["self", "text"] (defScope m_TermError) := ⟨rfl, rfl, rfl, by decide +kernel, rfl, by decide +kernel, by decide +kernel⟩
abbrev m_NoFraction : Stmt := methAt 3 0
theorem sc_m_NoFraction : FnScope ["self", "found"] ["self", "found"] (defScope m_NoFraction) := ⟨rfl, rfl, rfl, by decide +kernel, rfl, by decide +kernel, by decide +kernel⟩
abbrev m_NoRow : Stmt := methAt 4 0
theorem sc_m_NoRow : FnScope ["self", "found"] ["self", "found"] (defScope m_NoRow) := ⟨rfl, rfl, rfl, by decide +kernel, rfl, by decide +kernel, by decide +kernel⟩
structure Txt (K : PySem.W.Frag) (mg : Str → Option Value) : Prop where
  v_ve : PySem.W.findCls K (.type "ValueError") (.type "type") "__init__" = some (.val (.builtin "ValueError.__init__"))
  n_ValueError : mg "ValueError" = none
  x_TermError : XtAt K mg "TermError" "TermError.__init__" m_TermError
  x_NoFraction : XeAt K mg "NoFraction" "found" "NoFraction.__init__" m_NoFraction
  x_NoRow : XeAt K mg "NoRow" "found" "NoRow.__init__" m_NoRow
  p_NoFraction_NoFraction : PairIn K "NoFraction" "NoFraction" true
  p_NoFraction_NoRow : PairIn K "NoFraction" "NoRow" false
  p_NoFraction_TermError : PairIn K "NoFraction" "TermError" true
  d_is_number : At K mg "is_number" s_is_number
  d_is_list : At K mg "is_list" s_is_list
  d_are_numbers : At K mg "are_numbers" s_are_numbers
  d_is_pair : At K mg "is_pair" s_is_pair
  d_is_fraction : At K mg "is_fraction" s_is_fraction
  d_need_fractions : At K mg "need_fractions" s_need_fractions
  d_is_floor_row : At K mg "is_floor_row" s_is_floor_row
  d_need_floor_row : At K mg "need_floor_row" s_need_floor_row
  d_floor_row : At K mg "floor_row" s_floor_row
  d_fraction_of : At K mg "fraction_of" s_fraction_of
  d_turned : At K mg "turned" s_turned
  d_turn_of : At K mg "turn_of" s_turn_of
  d_law_cell : At K mg "_law_cell" s_law_cell
  d_law_purse : At K mg "_law_purse" s_law_purse
  d_law_take : At K mg "_law_take" s_law_take
  d_law_odd : At K mg "_law_odd" s_law_odd
  d_law_very : At K mg "_law_very" s_law_very
  d_law_whole : At K mg "_law_whole" s_law_whole
  d_law_common : At K mg "_law_common" s_law_common
  d_law_row : At K mg "_law_row" s_law_row
  d_law_value : At K mg "_law_value" s_law_value
  d_law_refused : At K mg "_law_refused" s_law_refused
  d_law : At K mg "law" s_law
  n_isinstance : mg "isinstance" = none
  n_int : mg "int" = none
  n_bool : mg "bool" = none
  n_list : mg "list" = none
  n_tuple : mg "tuple" = none
  n_all : mg "all" = none
  n_len : mg "len" = none
  g_gcd : mg "gcd" = some (.builtin "math.gcd")
  n_max : mg "max" = none
  n_dict : mg "dict" = none
  n_repr : mg "repr" = none
  n_abs : mg "abs" = none
  n_range : mg "range" = none
  n_min : mg "min" = none
  nod : Ab.Nod K
/-- the things of other kinds, one of which is drawn -/
def oddD : List PyData := [.none, .bool true, .bool false, .int (0), .int (-1), .int (7), .int (100000000000000000000000000000), .int (-100000000000000000000000000000), .str "", .str "a", .str "7", .str "-3/7", .str "3;7", .str "floor", .list [], .list [.int (1)], .list [.str "a"], .tuple [], .tuple [.int (1)], .tuple [.int (3), .int (7)], .tuple [.int (4), .int (2)], .tuple [.int (3), .int (0)], .tuple [.int (3), .int (-7)], .tuple [.bool true, .int (2)], .list [.int (3), .int (7)], .tuple [.int (3), .int (7), .int (1)], .dict [], .dict [(.str "a", .int (1))], .dict [(.int (7), .none)], .list [.list [.list [.list [.list [.str "a"]]]]], .tuple [.tuple [.int (1), .int (0)], .tuple [.int (0), .int (1)]]]
section
variable {P : Program} {w : World} {K : PySem.W.Frag} {mg : Str → Option Value} {base : Heap}
theorem ok_take (T : Txt K mg) : Fn P w K mg base 1 "_law_take" ["_law_purse_here", "_law_many"] spTake := by
  refine T.d_law_take.fn sc_law_take (fun _ _ _ _ _ _ us hl => match us, hl with | [_, _], _ => rfl) ?_ ?_
  · rintro vs H Q E ⟨p, m, n, rfl, _⟩
    rfl
  · rintro f cdv A outer s H vs Q E hr ⟨p, m, n, rfl, hm, hm2, ⟨l, hp, a, b, c, rfl, ha, hb, hb2, hc, hcn⟩, k⟩
    refine ⟨_, (pss_cons (ps_if (pt_cmpR op_gt (pe_ix ix_list (pv 0) pe_int (fun _ _ => rfl)) pe_int (nomark _)) (pss_cons (ps_set (i := 2) sc_law_take.nd rfl (Or.inl rfl) (pe_op op_mod (pe_ix ix_list (pv 0) pe_int (fun _ _ => rfl)) (pv 1)))
 (pss_cons (ps_asg (pe_op op_fdivW (pe_ix ix_list (pv 0) pe_int (fun _ _ => rfl)) (pv 1)) (pg_sub (pv 0) pe_int set_list))
 (pss_one (ps_ret (pv 2))))) pss_nil)
 (pss_cons (ps_asg (pe_op op_add (pe_ix ix_list (pv 0) pe_int (fun _ _ => rfl)) pe_int) (pg_sub (pv 0) pe_int set_list))
 (pss_cons (ps_set (i := 3) sc_law_take.nd rfl (Or.inl rfl) (pe_op op_mod (pe_op op_pow (pe_op op_add (pe_op op_add (pe_ix ix_list (pv 0) pe_int (fun _ _ => rfl)) (pe_op op_mulW pe_int (pe_ix ix_list (pv 0) pe_int (fun _ _ => rfl)))) pe_int) pe_int) pe_int))
 (pss_cons (ps_set (i := 4) sc_law_take.nd rfl (Or.inl rfl) (pe_op op_mod (pe_op op_pow (pe_op op_add (pe_op op_add (pe_op op_fdivW (pv 3) pe_int) (pe_op op_mulW (pe_op op_mulW pe_int (pe_ix ix_list (pv 0) pe_int (fun _ _ => rfl))) (pe_ix ix_list (pv 0) pe_int (fun _ _ => rfl)))) pe_int) pe_int) pe_int))
 (pss_one (ps_ret (pe_op op_mod (pe_op op_add (pe_op op_fdivW (pv 3) pe_int) (pe_op op_mulW pe_int (pe_op op_fdivW (pv 4) pe_int))) (pv 1)))))))), ?_⟩
    refine ⟨_, rfl, p, _, _, _, rfl, rfl, SqL.of hp, rfl, _, _, rfl, rfl, _, rfl, ?_⟩
    by_cases h0 : 0 < a
    · rw [decide_eq_true h0]
      refine iteT ?_
      refine ⟨_, rfl, p, _, _, _, rfl, rfl, SqL.of hp, rfl, _, rfl, _, _, rfl, rfl, hm, ?_⟩
      refine ⟨_, rfl, p, _, _, _, rfl, rfl, SqL.of hp, rfl, _, rfl, _, _, rfl, rfl, wide_div hm hm2 (by decide) (by decide), ?_⟩
      refine ⟨_, rfl, p, _, _, 0, rfl, rfl, hp, rfl, ?_⟩
      refine ⟨_, rfl, ?_⟩
      exact k _ _ (Int.emod_nonneg _ (by omega)) (Int.emod_lt_of_pos _ hm) ⟨a / m, b, c, rfl, Int.ediv_nonneg ha (by omega), hb, hb2, hc, by omega⟩
    · rw [decide_eq_false h0]
      refine iteF ?_
      refine ⟨_, rfl, p, _, _, _, rfl, rfl, SqL.of hp, rfl, _, _, rfl, rfl, ?_⟩
      refine ⟨_, rfl, p, _, _, 2, rfl, rfl, hp, rfl, ?_⟩
      refine ⟨_, rfl, p, _, _, _, rfl, rfl, SqL.of upd_same, rfl, _, rfl, p, _, _, _, rfl, rfl, SqL.of upd_same, rfl, _, _, rfl, rfl, ?_, ?_⟩
      · exact wide_mul (a := 64) (b := 64) (by decide) (by omega) (by decide) (by decide) (by decide)
      refine ⟨_, _, rfl, rfl, _, _, rfl, rfl, _, _, rfl, rfl, ?_, ?_⟩
      · exact take_pow (by omega) (by omega) (by decide) (by decide)
      refine ⟨_, _, rfl, rfl, (by show (0 : Int) < 2147483647; decide), ?_⟩
      have y0 := Int.emod_nonneg ((b + 7919 * (c + 1) + 41) ^ Int.toNat 5) (show (2147483647 : Int) ≠ 0 by decide)
      have y1 := Int.emod_lt_of_pos ((b + 7919 * (c + 1) + 41) ^ Int.toNat 5) (show (0 : Int) < 2147483647 by decide)
      refine ⟨_, rfl, _, _, rfl, rfl, ?_, ?_⟩
      · exact wide_div (b := 64) (by decide) (by decide) (by decide) (by decide)
      refine ⟨_, rfl, p, _, _, _, rfl, rfl, SqL.of upd_same, rfl, _, _, rfl, rfl, ?_, ?_⟩
      · exact wide_mul (a := 64) (b := 64) (by decide) (by omega) (by decide) (by decide) (by decide)
      refine ⟨_, rfl, p, _, _, _, rfl, rfl, SqL.of upd_same, rfl, _, _, rfl, rfl, ?_, ?_⟩
      · exact wide_mul (a := 64) (b := 64) (by show (104729 * (c + 1)).natAbs < 2 ^ 64; omega) (by omega) (by decide) (by decide) (by decide)
      refine ⟨_, _, rfl, rfl, _, _, rfl, rfl, _, _, rfl, rfl, ?_, ?_⟩
      · have z1 : 104729 * (c + 1) * (c + 1) ≤ 104729 * 100000 * 100000 := Int.mul_le_mul (by omega) (by omega) (by omega) (by omega)
        have z0 : 0 ≤ 104729 * (c + 1) * (c + 1) := Int.mul_nonneg (by omega) (by omega)
        refine take_pow ?_ ?_ (by decide) (by decide)
        · show 0 ≤ (b + 7919 * (c + 1) + 41) ^ Int.toNat 5 % 2147483647 / 8 + 104729 * (c + 1) * (c + 1) + 3
          omega
        · show (b + 7919 * (c + 1) + 41) ^ Int.toNat 5 % 2147483647 / 8 + 104729 * (c + 1) * (c + 1) + 3 < 18446744073709551616
          omega
      refine ⟨_, _, rfl, rfl, (by show (0 : Int) < 2147483587; decide), ?_⟩
      refine ⟨_, rfl, _, _, rfl, rfl, ?_, ?_⟩
      · exact wide_div (b := 64) (by decide) (by decide) (by decide) (by decide)
      refine ⟨_, rfl, _, _, rfl, rfl, ?_, ?_⟩
      · exact wide_div (b := 64) (by decide) (by decide) (by decide) (by decide)
      refine ⟨_, _, rfl, rfl, ?_, _, _, rfl, rfl, _, rfl, _, _, rfl, rfl, hm, ?_⟩
      · generalize hg : ((b + 7919 * (c + 1) + 41) ^ Int.toNat 5 % 2147483647 / 8 + 104729 * (c + 1) * (c + 1) + 3) ^ Int.toNat 3 = g
        have v0 := Int.emod_nonneg g (show (2147483587 : Int) ≠ 0 by decide)
        have v1 := Int.emod_lt_of_pos g (show (0 : Int) < 2147483587 by decide)
        refine wide_mul (a := 64) (b := 64) (by decide) ?_ (by decide) (by decide) (by decide)
        omega
      exact k _ _ (Int.emod_nonneg _ (by omega)) (Int.emod_lt_of_pos _ hm) ⟨a, b, c + 1, rfl, ha, hb, hb2, by omega, by omega⟩
theorem ok_cell (T : Txt K mg) : Fn P w K mg base 1 "_law_cell" ["_law_script", "_law_k"] (Vg.spCell K) := by
  refine T.d_law_cell.fn sc_law_cell (fun _ _ _ _ _ _ us hl => match us, hl with | [_, _], _ => rfl) ?_ ?_
  · rintro vs H Q E ⟨a, ns, k, rfl, _⟩
    rfl
  · rintro f cdv A outer s H vs Q E hr ⟨a, ns, k, rfl, hS, hk0, hk1, q⟩
    refine ⟨_, (pss_cons (ps_if (pt_cmpR op_lt (pv 1) (pe_callB call_len_seq (by rfl) T.n_len PySem.boot_len (pa_cons (pv 0) pa_nil)) (nomark _)) (pss_one (ps_ret (pe_ix ix_list (pv 0) (pv 1) (fun _ _ => rfl)))) pss_nil)
 (pss_one (ps_ret (pe_op op_add (pe_op op_mulW pe_int (pv 1)) pe_int)))), ?_⟩
    refine ⟨_, rfl, _, rfl, a, _, rfl, .inl hS, _, _, rfl, rfl, _, rfl, ?_⟩
    by_cases h : k < (ns.map V.int).length
    · rw [decide_eq_true h]
      refine iteT ?_
      obtain ⟨j, rfl⟩ : ∃ j : Nat, k = (j : Int) := ⟨k.toNat, by omega⟩
      have hj : j < ns.length := by rw [List.length_map] at h; omega
      refine ⟨_, rfl, _, rfl, a, _, _, _, rfl, rfl, hS, atI_nat (v := .int ns[j]) (by rw [List.getElem?_map, List.getElem?_eq_getElem hj]; rfl), ?_⟩
      exact q _
    · rw [decide_eq_false h]
      refine iteF ?_
      refine ⟨_, rfl, _, _, rfl, rfl, wide_mul (a := 64) (b := 64) (by decide) (by omega) (by decide) (by decide) (by decide), _, _, rfl, rfl, ?_⟩
      exact q _
theorem ok_purse (T : Txt K mg) : Fn P w K mg base 1 "_law_purse" ["_law_cell_here"] spPurse := by
  refine T.d_law_purse.fn sc_law_purse (fun _ _ _ _ _ _ us hl => match us, hl with | [_], _ => rfl) ?_ ?_
  · rintro vs H Q E ⟨z, rfl, _⟩
    rfl
  · rintro f cdv A outer s H vs Q E hr ⟨z, rfl, q⟩
    refine ⟨_, (pss_one (ps_ret (pe_lst (pa_cons (pe_callB (call_max2 rfl) (by rfl) T.n_max (by decide +kernel) (pa_cons pe_int (pa_cons (pe_op op_sub (pv 0) (pe_op op_pow pe_int pe_int)) pa_nil))) (pa_cons (pe_op op_mod (pv 0) pe_int) (pa_cons pe_int pa_nil)))))), ?_⟩
    refine ⟨_, rfl, _, _, rfl, rfl, (by show (0 : Int) ≤ 18 ∧ (18 : Int) ≤ 1000000 ∧ (10 : Int).natAbs < 2 ^ 64; decide), _, _, rfl, rfl, _, _, rfl, _, rfl, _, _, rfl, rfl, (by show (0 : Int) < 2147483629; decide), (by show 3 ≤ sizeLine; decide), ?_⟩
    intro p hp
    refine q p _ hp ⟨_, _, _, rfl, ?_, Int.emod_nonneg _ (by decide), Int.emod_lt_of_pos _ (by decide), by decide, by decide⟩
    split <;> omega
theorem ok_odd (T : Txt K mg) : Fn P w K mg base 2 "_law_odd" ["_law_purse_here"] (spOdd oddD) := by
  refine T.d_law_odd.fn sc_law_odd (fun _ _ _ _ _ _ us hl => match us, hl with | [_], _ => rfl) ?_ ?_
  · rintro vs H Q E ⟨p, n, rfl, _⟩
    rfl
  · rintro f cdv A outer s H vs Q E hr ⟨p, n, rfl, hp, q⟩
    have F_law_take : Fn P w K mg base 1 "_law_take" ["_law_purse_here", "_law_many"] spTake := ok_take T
    refine ⟨_, (pss_cons (ps_set (i := 1) sc_law_odd.nd rfl (Or.inl rfl) (pe_lst (pa_cons pe_non (pa_cons pe_bl (pa_cons pe_bl (pa_cons pe_int (pa_cons (pe_un un_neg pe_int) (pa_cons pe_int (pa_cons (pe_op op_pow pe_int pe_int) (pa_cons (pe_un un_neg (pe_op op_pow pe_int pe_int)) (pa_cons pe_str (pa_cons pe_str (pa_cons pe_str (pa_cons pe_str (pa_cons pe_str (pa_cons pe_str (pa_cons (pe_lst pa_nil) (pa_cons (pe_lst (pa_cons pe_int pa_nil)) (pa_cons (pe_lst (pa_cons pe_str pa_nil)) pa_nil)))))))))))))))))))
 (pss_cons (ps_set (i := 1) sc_law_odd.nd rfl (Or.inl rfl) (pe_op op_cat (pv 1) (pe_lst (pa_cons (pe_tup pa_nil) (pa_cons (pe_tup (pa_cons pe_int pa_nil)) (pa_cons (pe_tup (pa_cons pe_int (pa_cons pe_int pa_nil))) (pa_cons (pe_tup (pa_cons pe_int (pa_cons pe_int pa_nil))) (pa_cons (pe_tup (pa_cons pe_int (pa_cons pe_int pa_nil))) (pa_cons (pe_tup (pa_cons pe_int (pa_cons (pe_un un_neg pe_int) pa_nil))) (pa_cons (pe_tup (pa_cons pe_bl (pa_cons pe_int pa_nil))) (pa_cons (pe_lst (pa_cons pe_int (pa_cons pe_int pa_nil))) (pa_cons (pe_tup (pa_cons pe_int (pa_cons pe_int (pa_cons pe_int pa_nil)))) (pa_cons pe_dnewK (pa_cons (pe_disp (pps_cons pe_str pe_int pps_nil) (by rfl) (by rfl) (fun z => by cases z) (by decide)) (pa_cons (pe_disp (pps_cons pe_int pe_non pps_nil) (by rfl) (by rfl) (fun z => by cases z) (by decide)) pa_nil)))))))))))))))
 (pss_one (ps_ret (pe_ix ix_list (pe_op op_cat (pv 1) (pe_lst (pa_cons (pe_lst (pa_cons (pe_lst (pa_cons (pe_lst (pa_cons (pe_lst (pa_cons (pe_lst (pa_cons pe_str pa_nil)) pa_nil)) pa_nil)) pa_nil)) pa_nil)) (pa_cons (pe_tup (pa_cons (pe_tup (pa_cons pe_int (pa_cons pe_int pa_nil))) (pa_cons (pe_tup (pa_cons pe_int (pa_cons pe_int pa_nil))) pa_nil))) pa_nil)))) (pe_fn F_law_take (hr.mono (by decide)) rfl pass0 (pa_cons (pv 0) (pa_cons pe_int pa_nil))) (fun _ _ => rfl)))))), ?_⟩
    refine sq_set (mk_lst (mkl_cons mk_non (mkl_cons (mk_bl _) (mkl_cons (mk_bl _) (mkl_cons (mk_int _) (mkl_cons (mk_of (mki_neg (mki_c _))) (mkl_cons (mk_int _) (mkl_cons (mk_of (mki_pow (mki_c _) (mki_c _))) (mkl_cons (mk_of (mki_neg (mki_pow (mki_c _) (mki_c _)))) (mkl_cons (mk_str _) (mkl_cons (mk_str _) (mkl_cons (mk_str _) (mkl_cons (mk_str _) (mkl_cons (mk_str _) (mkl_cons (mk_str _) (mkl_cons (mk_lst mkl_nil) (mkl_cons (mk_lst (mkl_cons (mk_int _) mkl_nil)) (mkl_cons (mk_lst (mkl_cons (mk_str _) mkl_nil)) mkl_nil)))))))))))))))))) ?_
    intro v1 H1 s1 r1
    cases r1 with
    | @lst a1 xs1 _ o1 h1 d1 =>
    refine mk_cat (mk_lst (mkl_cons (mk_tup mkl_nil) (mkl_cons (mk_tup (mkl_cons (mk_int _) mkl_nil)) (mkl_cons (mk_tup (mkl_cons (mk_int _) (mkl_cons (mk_int _) mkl_nil))) (mkl_cons (mk_tup (mkl_cons (mk_int _) (mkl_cons (mk_int _) mkl_nil))) (mkl_cons (mk_tup (mkl_cons (mk_int _) (mkl_cons (mk_int _) mkl_nil))) (mkl_cons (mk_tup (mkl_cons (mk_int _) (mkl_cons (mk_of (mki_neg (mki_c _))) mkl_nil))) (mkl_cons (mk_tup (mkl_cons (mk_bl _) (mkl_cons (mk_int _) mkl_nil))) (mkl_cons (mk_lst (mkl_cons (mk_int _) (mkl_cons (mk_int _) mkl_nil))) (mkl_cons (mk_tup (mkl_cons (mk_int _) (mkl_cons (mk_int _) (mkl_cons (mk_int _) mkl_nil)))) (mkl_cons mk_dct0 (mkl_cons (mk_dct1 (.inr "a") (mk_int _)) (mkl_cons (mk_dct1 (.inl 7) mk_non) mkl_nil))))))))))))) rfl h1 d1 (by decide) (fun b hb => s1.free hb) ?_
    intro a3 ys3 H3 s3 n3 h3 d3
    refine mk_cat (mk_lst (mkl_cons (mk_lst (mkl_cons (mk_lst (mkl_cons (mk_lst (mkl_cons (mk_lst (mkl_cons (mk_lst (mkl_cons (mk_str _) mkl_nil)) mkl_nil)) mkl_nil)) mkl_nil)) mkl_nil)) (mkl_cons (mk_tup (mkl_cons (mk_tup (mkl_cons (mk_int _) (mkl_cons (mk_int _) mkl_nil))) (mkl_cons (mk_tup (mkl_cons (mk_int _) (mkl_cons (mk_int _) mkl_nil))) mkl_nil))) mkl_nil))) rfl h3 d3 (by decide) (fun b hb => s1.free (s3.free hb)) ?_
    intro a5 ys5 H5 s5 n5 h5 all
    have t5 : Same H H5 := (s1.trans s3).trans s5
    obtain ⟨l0, hp0, hl0⟩ := id hp
    refine ⟨_, rfl, p, 31, n, rfl, by decide, by decide, hp.same t5, fun r l r0 r1 hl => ?_⟩
    obtain ⟨j, rfl⟩ : ∃ j : Nat, r = (j : Int) := ⟨r.toNat, by omega⟩
    have hj : j < oddD.length := by show j < 31; omega
    obtain ⟨v, hv, dv⟩ := all.get (List.getElem?_eq_getElem hj)
    have n5p : a5 ≠ p := (ne_of_none ((s1.trans s3) _ _ hp0) n5).symm
    refine ⟨a5, _, _, v, rfl, rfl, SqL.of (by rw [upd_ne n5p]; exact h5), atI_nat hv, ?_⟩
    refine q v _ _ (List.getElem_mem hj) ?_ (Pz.upd hl) (dv.mono (fun a o ho e => ?_) fun a o ho _ => ho)
    · exact (But.of t5).trans But.upd
    · have na : a ≠ p := fun z => by rw [z, hp0] at ho; cases ho
      rw [upd_ne na]
      exact e
theorem ok_whole (T : Txt K mg) : Fn P w K mg base 2 "_law_whole" ["_law_purse_here"] spWhole := by
  refine T.d_law_whole.fn sc_law_whole (fun _ _ _ _ _ _ us hl => match us, hl with | [_], _ => rfl) ?_ ?_
  · rintro vs H Q E ⟨p, n, rfl, _⟩
    rfl
  · rintro f cdv A outer s H vs Q E hr ⟨p, n, rfl, hp, q⟩
    have F_law_take : Fn P w K mg base 1 "_law_take" ["_law_purse_here", "_law_many"] spTake := ok_take T
    have pw : ∀ {a b : Int}, 0 ≤ b ∧ b ≤ 1000000 ∧ a.natAbs < 2 ^ 64 → CPow a b := fun h => h
    refine ⟨_, (pss_cons (ps_set (i := 1) sc_law_whole.nd rfl (Or.inl rfl) (pe_lst (pa_cons (pe_fn F_law_take (hr.mono (by decide)) rfl pass0 (pa_cons (pv 0) (pa_cons pe_int pa_nil))) (pa_cons (pe_fn F_law_take (hr.mono (by decide)) rfl pass0 (pa_cons (pv 0) (pa_cons pe_int pa_nil))) (pa_cons (pe_fn F_law_take (hr.mono (by decide)) rfl pass0 (pa_cons (pv 0) (pa_cons (pe_op op_pow pe_int pe_int) pa_nil))) pa_nil)))))
 (pss_cons (ps_set (i := 2) sc_law_whole.nd rfl (Or.inl rfl) (pe_ix ix_list (pe_op op_cat (pv 1) (pe_lst (pa_cons (pe_op op_sub (pe_op op_sub (pe_op op_pow pe_int pe_int) pe_int) (pe_fn F_law_take (hr.mono (by decide)) rfl pass0 (pa_cons (pv 0) (pa_cons pe_int pa_nil)))) pa_nil))) (pe_fn F_law_take (hr.mono (by decide)) rfl pass0 (pa_cons (pv 0) (pa_cons pe_int pa_nil))) (fun _ _ => rfl)))
 (pss_one (ps_ret (pe_ix ix_list (pe_lst (pa_cons (pv 2) (pa_cons (pe_un un_neg (pv 2)) pa_nil))) (pe_fn F_law_take (hr.mono (by decide)) rfl pass0 (pa_cons (pv 0) (pa_cons pe_int pa_nil))) (fun _ _ => rfl)))))), ?_⟩
    refine ⟨_, rfl, p, 12, _, rfl, by decide, by decide, hp, fun r1 l1 a1 b1 u1 => ?_⟩
    refine ⟨_, rfl, p, 1000, _, rfl, by decide, by decide, Pz.upd u1, fun r2 l2 a2 b2 u2 => ?_⟩
    refine ⟨_, rfl, _, _, rfl, rfl, pw (by decide), p, 10 ^ 15, _, rfl, by decide, by decide, Pz.upd u2, fun r3 l3 a3 b3 u3 => ?_⟩
    have c3 : But p H (upd (upd (upd H p (.lst l1)) p (.lst l2)) p (.lst l3)) := (But.upd.trans But.upd).trans But.upd
    have z3 := Pz.upd (H := upd (upd H p (.lst l1)) p (.lst l2)) (p := p) u3
    generalize upd (upd (upd H p (.lst l1)) p (.lst l2)) p (.lst l3) = H3 at c3 z3 ⊢
    refine ⟨(by show 3 ≤ sizeLine; decide), fun q1 n1 => ?_⟩
    have np1 := z3.ne n1
    refine ⟨_, rfl, _, _, rfl, rfl, pw (by decide), _, _, rfl, rfl, _, rfl, p, 9, _, rfl, by decide, by decide, z3.new n1, fun r4 l4 a4 b4 u4 => ?_⟩
    refine ⟨_, _, rfl, rfl, (by show 1 ≤ sizeLine; decide), fun q2 n2 => ?_⟩
    have c4 : But p H (upd (upd H3 q1 (.lst [V.int r1, V.int r2, V.int r3])) p (.lst l4)) := (c3.trans (But.new n1)).trans But.upd
    have z4 := Pz.upd (H := upd H3 q1 (.lst [V.int r1, V.int r2, V.int r3])) (p := p) u4
    have e4 : upd (upd H3 q1 (.lst [V.int r1, V.int r2, V.int r3])) p (.lst l4) q1 = some (.lst [V.int r1, V.int r2, V.int r3]) := by rw [upd_ne np1, upd_same]
    have n2' : upd (upd H3 q1 (.lst [V.int r1, V.int r2, V.int r3])) p (.lst l4) q2 = none := n2
    refine ⟨q1, q2, _, _, rfl, rfl, (by rw [upd_ne (ne_of_none e4 n2')]; exact e4), upd_same, (by show 3 + 1 ≤ sizeLine; decide), fun q3 n3 => ?_⟩
    have z5 : Pz (upd (upd (upd H3 q1 (.lst [V.int r1, V.int r2, V.int r3])) p (.lst l4)) q2 (.lst [V.int (10 ^ Int.toNat 30 - 1 - r4)])) p _ := z4.new n2'
    have c5 : But p H (upd (upd (upd H3 q1 (.lst [V.int r1, V.int r2, V.int r3])) p (.lst l4)) q2 (.lst [V.int (10 ^ Int.toNat 30 - 1 - r4)])) := c4.trans (But.new n2')
    have n3' : upd (upd (upd H3 q1 (.lst [V.int r1, V.int r2, V.int r3])) p (.lst l4)) q2 (.lst [V.int (10 ^ Int.toNat 30 - 1 - r4)]) q3 = none := n3
    refine ⟨_, rfl, p, 4, _, rfl, by decide, by decide, z5.new n3', fun r5 l5 a5 b5 u5 => ?_⟩
    have np3 := z5.ne n3'
    obtain ⟨z, hz, hat⟩ := pickI (zs := [r1, r2, r3, 10 ^ Int.toNat 30 - 1 - r4]) a5 b5
    have hb : z.natAbs < 10 ^ 30 := by
      have e30 : (10 : Int) ^ Int.toNat 30 = 1000000000000000000000000000000 := by decide
      have b3' : r3 < 1000000000000000 := b3
      rw [e30] at hz
      simp only [List.mem_cons, List.not_mem_nil, or_false] at hz
      rcases hz with rfl | rfl | rfl | rfl <;> omega
    refine ⟨q3, _, _, _, rfl, rfl, SqL.of (by rw [upd_ne np3]; exact upd_same), hat, ?_⟩
    refine ⟨_, rfl, _, rfl, _, rfl, (by show 2 ≤ sizeLine; decide), fun q4 n4 => ?_⟩
    have z6 := Pz.upd (H := upd (upd (upd (upd H3 q1 (.lst [V.int r1, V.int r2, V.int r3])) p (.lst l4)) q2 (.lst [V.int (10 ^ Int.toNat 30 - 1 - r4)])) q3 (.lst ([V.int r1, V.int r2, V.int r3] ++ [V.int (10 ^ Int.toNat 30 - 1 - r4)]))) (p := p) u5
    have c6 : But p H (upd (upd (upd (upd (upd H3 q1 (.lst [V.int r1, V.int r2, V.int r3])) p (.lst l4)) q2 (.lst [V.int (10 ^ Int.toNat 30 - 1 - r4)])) q3 (.lst ([V.int r1, V.int r2, V.int r3] ++ [V.int (10 ^ Int.toNat 30 - 1 - r4)]))) p (.lst l5)) := (c5.trans (But.new n3')).trans But.upd
    have np4 := z6.ne n4
    refine ⟨_, rfl, p, 2, n, rfl, by decide, by decide, (z6.new n4).mono (by omega), fun r6 l6 a6 b6 u6 => ?_⟩
    obtain ⟨y, hy, hat2⟩ := pickI (zs := [z, -z]) a6 b6
    refine ⟨q4, _, _, _, rfl, rfl, SqL.of (by rw [upd_ne np4]; exact upd_same), hat2, ?_⟩
    refine q y _ ?_ ((c6.trans (But.new n4)).trans But.upd) (Pz.upd u6)
    simp only [List.mem_cons, List.not_mem_nil, or_false] at hy
    rcases hy with rfl | rfl <;> omega
theorem ok_common (T : Txt K mg) : Fn P w K mg base 1 "_law_common" ["_law_one", "_law_other"] spCommon := by
  refine T.d_law_common.fn sc_law_common (fun _ _ _ _ _ _ us hl => match us, hl with | [_, _], _ => rfl) ?_ ?_
  · rintro vs H Q E ⟨a, b, rfl, _⟩
    rfl
  · rintro f cdv A outer s H vs Q E hr ⟨a, b, rfl, q⟩
    refine ⟨_, (pss_cons (ps_par (i := 0) (j := 1) (by rfl) sc_law_common.nd rfl rfl (by decide) rfl rfl (pa_cons (pe_callB call_abs (by rfl) T.n_abs (by decide +kernel) (pa_cons (pv 0) pa_nil)) (pa_cons (pe_callB call_abs (by rfl) T.n_abs (by decide +kernel) (pa_cons (pv 1) pa_nil)) pa_nil)) (by rfl))
 (pss_cons (ps_while PassesOwn.never (pt_cmpR op_gt (pv 1) pe_int (nomark _)) (pss_one (ps_par (i := 0) (j := 1) (by rfl) sc_law_common.nd rfl rfl (by decide) rfl rfl (pa_cons (pv 1) (pa_cons (pe_op op_mod (pv 0) (pv 1)) pa_nil)) (by rfl))))
 (pss_one (ps_ret (pv 0))))), ?_⟩
    refine ⟨_, rfl, _, rfl, _, rfl, _, rfl, _, _, rfl, ?_⟩
    have fin : ∀ x : Int, 0 ≤ x → gcdI x 0 = gcdI a b → Q (.int x) H := fun x h0 e => by
      rw [gcd_zero h0] at e
      rw [e]
      exact q
    refine while_by (fun σ H' => H' = H ∧ ∃ x y : Int, σ = [some (.int x), some (.int y)] ∧ 0 ≤ x ∧ 0 ≤ y ∧ gcdI x y = gcdI a b)
      (fun σ _ => match σ with | [_, some (.int y)] => y.natAbs | _ => 0) ?_ ?_ ?_
    · exact ⟨rfl, _, _, rfl, by split <;> omega, by split <;> omega, gcd_abs a b⟩
    · rintro σ H' ⟨rfl, x, y, rfl, hx, hy, e⟩
      refine ⟨_, rfl, _, _, rfl, rfl, _, rfl, ?_⟩
      by_cases h : 0 < y
      · rw [decide_eq_true h]
        refine iteT ?_
        refine ⟨_, rfl, _, rfl, _, rfl, _, _, rfl, rfl, h, _, _, rfl, ?_⟩
        have m0 := Int.emod_nonneg x (show y ≠ 0 by omega)
        have m1 := Int.emod_lt_of_pos x h
        refine ⟨⟨rfl, _, _, rfl, hy, m0, (gcd_step hx h).trans e⟩, ?_⟩
        show (x % y).natAbs < y.natAbs
        omega
      · rw [decide_eq_false h]
        refine iteF ?_
        refine ⟨_, rfl, ?_⟩
        have hy0 : y = 0 := by omega
        rw [hy0] at e
        exact fin x hx e
    · rintro σ H' Q1 Q2 hq ⟨v, h1, i, j, h2, h3, k, h4, h5⟩
      exact ⟨v, h1, i, j, h2, h3, k, h4, hq _ _ h5⟩
theorem ok_m_TermError (T : Txt K mg) {f : Addr} {fd : FuncData} (F : Fun K "__init__" "TermError.__init__" m_TermError f fd) : FnOk P w K mg base CX0 1 f fd ["self", "text"] (spTI K) := by
  refine F.ok sc_m_TermError ?_ ?_
  · rintro vs H Q E ⟨a, C, z, rfl, _⟩
    rfl
  · rintro cdv A outer s H vs Q E hr ⟨a, C, z, rfl, O, ha, q⟩
    refine ⟨_, pss_one (ps_expr (pe_veinit (by rfl) T.n_ValueError T.v_ve (pa_cons (pv 0) (pa_cons (pv 1) pa_nil)))), ?_⟩
    exact ⟨_, rfl, _, rfl, a, C, [.str z], rfl, (by show 1 ≤ 1000; decide), O, ha, q⟩
theorem ok_x_NoFraction (T : Txt K mg) : Xk P w K mg base "NoFraction" "found" := by
  obtain ⟨fI, fd, hm, O, E, xf, no, iC, tI, F⟩ := T.x_NoFraction.ex
  obtain ⟨f0, fd0, hm0, C0, F0⟩ := T.x_TermError.ex
  have F1 : FnOk P w K mg base CX0 1 f0 fd0 ["self", "text"] (spTI K) := ok_m_TermError T F0
  refine ⟨hm, O, E, xf, no, fI, fd, ["self", "found"], iC, tI, F.binds (fun _ _ _ _ _ _ us hl => match us, hl with | [_, _], _ => rfl), F.ok sc_m_NoFraction ?_ ?_⟩
  · rintro vs H Q E ⟨a, v, rfl, _⟩
    rfl
  · rintro cdv A outer s H vs Q E hr ⟨a, v, rfl, ha, k⟩
    refine ⟨_, pss_cons (ps_expr (pe_clsfn C0 F1 (hr.mono (by decide)) (by rfl) hm0 (F0.binds (fun _ _ _ _ _ _ us hl => match us, hl with | [_, _], _ => rfl)) (E := fun _ _ _ => False) (fun _ _ _ _ _ _ _ h => h.elim) (pa_cons (pv 0) (pa_cons pe_str pa_nil)))) (pss_one (ps_ost (pv 0) (pv 1))), ?_⟩
    exact ⟨_, rfl, _, _, _, rfl, O, ha, _, rfl, _, rfl, _, _, rfl, O, no, .inl ⟨ha, fun dx n ne => k dx n ne⟩⟩
theorem ok_x_NoRow (T : Txt K mg) : Xk P w K mg base "NoRow" "found" := by
  obtain ⟨fI, fd, hm, O, E, xf, no, iC, tI, F⟩ := T.x_NoRow.ex
  obtain ⟨f0, fd0, hm0, C0, F0⟩ := T.x_TermError.ex
  have F1 : FnOk P w K mg base CX0 1 f0 fd0 ["self", "text"] (spTI K) := ok_m_TermError T F0
  refine ⟨hm, O, E, xf, no, fI, fd, ["self", "found"], iC, tI, F.binds (fun _ _ _ _ _ _ us hl => match us, hl with | [_, _], _ => rfl), F.ok sc_m_NoRow ?_ ?_⟩
  · rintro vs H Q E ⟨a, v, rfl, _⟩
    rfl
  · rintro cdv A outer s H vs Q E hr ⟨a, v, rfl, ha, k⟩
    refine ⟨_, pss_cons (ps_expr (pe_clsfn C0 F1 (hr.mono (by decide)) (by rfl) hm0 (F0.binds (fun _ _ _ _ _ _ us hl => match us, hl with | [_, _], _ => rfl)) (E := fun _ _ _ => False) (fun _ _ _ _ _ _ _ h => h.elim) (pa_cons (pv 0) (pa_cons pe_str pa_nil)))) (pss_one (ps_ost (pv 0) (pv 1))), ?_⟩
    exact ⟨_, rfl, _, _, _, rfl, O, ha, _, rfl, _, rfl, _, _, rfl, O, no, .inl ⟨ha, fun dx n ne => k dx n ne⟩⟩
theorem hm_TermError (T : Txt K mg) : mg "TermError" = some (.ref (clsA K "TermError")) := by
  obtain ⟨f, fd, h, _⟩ := T.x_TermError.ex
  exact h
theorem hm_NoFraction (T : Txt K mg) : mg "NoFraction" = some (.ref (clsA K "NoFraction")) := by
  obtain ⟨f, fd, h, _⟩ := T.x_NoFraction.ex
  exact h
theorem fldE_NoFraction : fld "NoFraction" = "found" := by decide +kernel
theorem xk_NoFraction (T : Txt K mg) : Xk P w K mg base "NoFraction" (fld "NoFraction") := by
  rw [show fld "NoFraction" = "found" by decide +kernel]
  exact ok_x_NoFraction T
theorem hm_NoRow (T : Txt K mg) : mg "NoRow" = some (.ref (clsA K "NoRow")) := by
  obtain ⟨f, fd, h, _⟩ := T.x_NoRow.ex
  exact h
theorem fldE_NoRow : fld "NoRow" = "found" := by decide +kernel
theorem xk_NoRow (T : Txt K mg) : Xk P w K mg base "NoRow" (fld "NoRow") := by
  rw [show fld "NoRow" = "found" by decide +kernel]
  exact ok_x_NoRow T
theorem fu_is_number (T : Txt K mg) : Fv P w K mg base 1 "is_number" ["thing"] afNum := by
  refine fv_of T.d_is_number sc_is_number (fun _ _ _ _ _ _ us hl => match us, hl with | [_], _ => rfl) (fun O cs Xf Kc h => match cs, h with | [_], _ => rfl) ?_
  intro f cdv A outer s H E hr
  refine ⟨_, (dss_one (ds_ret (de_and (de_callB cr_isi sb_isi (by rfl) T.n_isinstance (by decide +kernel) (da_cons (dv 0) (da_cons (de_raw (pe_bltn (v := .ty "int") (by rfl) T.n_int (by decide +kernel) rfl)) da_nil))) (de_one (de_not (de_callB cr_isi sb_isi (by rfl) T.n_isinstance (by decide +kernel) (da_cons (dv 0) (da_cons (de_raw (pe_bltn (v := .ty "bool") (by rfl) T.n_bool (by decide +kernel) rfl)) da_nil)))))))), ?_⟩
  intro O cs Xf Kc h
  obtain ⟨c_thing, rfl⟩ : ∃ c_thing, cs = [c_thing] := match cs, h with | [c_thing], _ => ⟨c_thing, rfl⟩
  refine rho_is (ρ' := [some c_thing]) rfl ?_
  obtain ⟨⟨n, hn⟩, k⟩ := h
  refine ⟨_, rfl, _, _, _, _, rfl, hn, kn_int hn, _, rfl, ?_⟩
  rw [numC_kn hn] at k
  cases e : (n == "int" || n == "bool") with
  | false => rw [e] at k; exact iteF k
  | true =>
    rw [e] at k
    exact iteT ⟨_, rfl, _, _, _, _, rfl, hn, kn_bool hn, _, rfl, k⟩
theorem fu_is_pair (T : Txt K mg) : Fv P w K mg base 1 "is_pair" ["thing"] afPair := by
  refine fv_of T.d_is_pair sc_is_pair (fun _ _ _ _ _ _ us hl => match us, hl with | [_], _ => rfl) (fun O cs Xf Kc h => match cs, h with | [_], _ => rfl) ?_
  intro f cdv A outer s H E hr
  refine ⟨_, (dss_one (ds_ret (de_and (de_callB cr_isi sb_isi (by rfl) T.n_isinstance (by decide +kernel) (da_cons (dv 0) (da_cons (de_raw (pe_bltn (v := .ty "tuple") (by rfl) T.n_tuple (by decide +kernel) rfl)) da_nil))) (de_one (de_cmp (op_eqD hr.units) sr_eq (de_callB call_len_seq sb_len (by rfl) T.n_len PySem.boot_len (da_cons (dv 0) da_nil)) de_int (nomark _)))))), ?_⟩
  intro O cs Xf Kc h
  obtain ⟨c_thing, rfl⟩ : ∃ c_thing, cs = [c_thing] := match cs, h with | [c_thing], _ => ⟨c_thing, rfl⟩
  refine rho_is (ρ' := [some c_thing]) rfl ?_
  obtain ⟨⟨n, hn⟩, k⟩ := h
  refine ⟨_, rfl, _, _, _, _, rfl, hn, kn_tuple hn, _, rfl, ?_⟩
  cases e : (n == "tuple") with
  | false => rw [pairC_kn hn e] at k; exact iteF k
  | true =>
    obtain ⟨es, he, hp⟩ := tup_kn hn e
    refine iteT ⟨_, rfl, _, _, rfl, .inl ⟨_, .inr he, rfl⟩, _, _, .dat _, .dat _, rfl, rfl, rfl, rfl, ?_⟩
    rw [hp] at k
    rw [eqv_int, show decide ((es.length : Int) = 2) = decide (es.length = 2) from decide_eq_decide.mpr (by omega)]
    exact k
theorem fu_is_fraction (T : Txt K mg) : Fv P w K mg base 2 "is_fraction" ["thing"] afFrac := by
  refine fv_of T.d_is_fraction sc_is_fraction (fun _ _ _ _ _ _ us hl => match us, hl with | [_], _ => rfl) (fun O cs Xf Kc h => match cs, h with | [_], _ => rfl) ?_
  intro f cdv A outer s H E hr
  have F_is_pair := fu_is_pair (P := P) (w := w) (base := base) T
  have F_is_number := fu_is_number (P := P) (w := w) (base := base) T
  refine ⟨_, (dss_cons (ds_if (dt_not (dt_val (de_callV F_is_pair (takes_of rfl rfl rfl rfl) (hr.mono (by decide)) rfl (da_cons (dv 0) da_nil)))) (dss_one (ds_ret de_bl)) dss_nil)
 (dss_cons (ds_asg (dv 0) (dg_tup (n := 2) rfl (dgs_cons (dg_name (i := 1) sc_is_fraction.nd rfl (Or.inl rfl)) (dgs_cons (dg_name (i := 2) sc_is_fraction.nd rfl (Or.inl rfl)) dgs_nil))))
 (dss_cons (ds_if (dw_pt (dw_or (dt_not (dt_val (de_callV F_is_number (takes_of rfl rfl rfl rfl) (hr.mono (by decide)) rfl (da_cons (dv 1) da_nil)))) (dw_or1 (dt_not (dt_val (de_callV F_is_number (takes_of rfl rfl rfl rfl) (hr.mono (by decide)) rfl (da_cons (dv 2) da_nil))))))) (dss_one (ds_ret de_bl)) dss_nil)
 (dss_one (ds_ret (de_and (de_cmp op_ge sr_ge (dv 2) de_int (nomark _)) (de_one (de_cmp (op_eqD hr.units) sr_eq (de_callBfun cr_gcd sb_gcd (by rfl) T.g_gcd (da_cons (dv 1) (da_cons (dv 2) da_nil))) de_int (nomark _))))))))), ?_⟩
  intro O cs Xf Kc h
  obtain ⟨c_thing, rfl⟩ : ∃ c_thing, cs = [c_thing] := match cs, h with | [c_thing], _ => ⟨c_thing, rfl⟩
  refine rho_is (ρ' := [some c_thing, none, none]) rfl ?_
  obtain ⟨pl, k⟩ := h
  refine ⟨_, rfl, ⟨pl.1, _, rfl, ?_⟩⟩
  cases ep : pairC c_thing with
  | false =>
    rw [frac_nopairC pl ep] at k
    exact iteT k
  | true =>
    obtain ⟨d, e, rfl⟩ := pair_of pl ep
    refine iteF ⟨_, rfl, _, .dat _, rfl, _, _, rfl, _, _, rfl, rfl, ?_⟩
    refine ⟨_, rfl, ⟨⟨_, .dat d⟩, _, rfl, ?_⟩⟩
    cases hd : numC (.dat d) with
    | false =>
      rw [show fracC (.dat (.tuple [d, e])) = false from frac_nonum (by cases d <;> first | rfl | cases hd)] at k
      exact iteT (iteT k)
    | true =>
      refine iteF ⟨_, rfl, ⟨⟨_, .dat e⟩, _, rfl, ?_⟩⟩
      cases he : numC (.dat e) with
      | false =>
        rw [show fracC (.dat (.tuple [d, e])) = false from frac_nonum (by cases e <;> cases d <;> first | rfl | cases he)] at k
        exact iteT k
      | true =>
        obtain ⟨i, rfl⟩ : ∃ i, d = .int i := by cases d <;> first | exact ⟨_, rfl⟩ | cases hd
        obtain ⟨j, rfl⟩ : ∃ j, e = .int j := by cases e <;> first | exact ⟨_, rfl⟩ | cases he
        refine iteF ⟨_, rfl, _, _, rfl, rfl, _, rfl, ?_⟩
        have eq : fracC (.dat (.tuple [.int i, .int j])) = (decide (1 ≤ j) && decide (gcdI i j = 1)) := rfl
        rw [eq] at k
        by_cases h : 1 ≤ j
        · rw [decide_eq_true h]
          rw [decide_eq_true h, Bool.true_and] at k
          refine iteT ⟨_, rfl, _, rfl, _, _, rfl, _, _, .dat _, .dat _, rfl, rfl, rfl, rfl, ?_⟩
          rw [eqv_int]
          exact k
        · rw [decide_eq_false h]
          rw [decide_eq_false h, Bool.false_and] at k
          exact iteF k
theorem fu_need_fractions (T : Txt K mg) : FuR P w K mg base 4 "need_fractions" afNeed := by
  refine fur_of T.d_need_fractions sc_need_fractions (fun _ _ _ _ _ _ us => match us with | [] => rfl | _ :: _ => rfl) ?_
  intro f cdv A outer s H E hr
  have F_is_fraction := fu_is_fraction (P := P) (w := w) (base := base) T
  have X_NoFraction := xk_NoFraction (P := P) (w := w) (base := base) T
  refine ⟨_, (dss_one (ds_for (passes_of rfl) rfl (di_tup (dv 0)) (dg_name (i := 1) sc_need_fractions.nd rfl (Or.inl rfl)) (dss_one (ds_if (dt_not (dt_val (de_callV F_is_fraction (takes_of rfl rfl rfl rfl) (hr.mono (by decide)) rfl (da_cons (dv 1) da_nil)))) (dss_one (ds_rais X_NoFraction (hr.mono (by decide)) rfl (takes_of rfl rfl rfl rfl) rfl (dv 1))) dss_nil)))), ?_⟩
  intro O cs Xf Kc h
  obtain ⟨c_cs, rfl⟩ : ∃ c_cs, cs = [c_cs] := match cs, h with | [c_cs], _ => ⟨c_cs, rfl⟩
  refine rho_is (ρ' := [some c_cs, none]) rfl ?_
  obtain ⟨es, he, hp, h⟩ := h
  refine ⟨_, rfl, _, he, ?_⟩
  rcases h with ⟨hall, k⟩ | ⟨i, e, hi, hf, hb, k⟩
  · refine ⟨fun j O' ρ => O' = O ∧ ∃ v, ρ = [some c_cs, v], ⟨rfl, _, rfl⟩, ?_, ?_⟩
    · rintro j O' ρ e hj ⟨rfl, v, rfl⟩
      have hm := List.mem_of_getElem? hj
      refine ⟨trivial, ⟨_, rfl, ⟨hp e hm, _, rfl, ?_⟩⟩⟩
      rw [hall e hm]
      exact iteF ⟨rfl, _, rfl⟩
    · rintro O' ρ ⟨rfl, v, rfl⟩
      exact ⟨trivial, k⟩
  · refine ⟨fun j O' ρ => O' = O ∧ j ≤ i ∧ ∃ v, ρ = [some c_cs, v], ⟨rfl, Nat.zero_le _, _, rfl⟩, ?_, ?_⟩
    · rintro j O' ρ e' hj ⟨rfl, hle, v, rfl⟩
      have hm := List.mem_of_getElem? hj
      refine ⟨trivial, ⟨_, rfl, ⟨hp e' hm, _, rfl, ?_⟩⟩⟩
      by_cases hji : j = i
      · subst hji
        rw [hi] at hj
        cases hj
        rw [hf]
        exact iteT ⟨_, rfl, k⟩
      · rw [hb j e' (by omega) hj]
        exact iteF ⟨rfl, by omega, _, rfl⟩
    · rintro O' ρ ⟨rfl, hle, v, rfl⟩
      have := (List.getElem?_eq_some_iff.mp hi).1
      omega
end
end My
namespace My
open PySem PySem.Spec PyProof.Rows L2 Vg Ab
section
variable {P : Program} {w : World} {K : PySem.W.Frag} {mg : Str → Option Value} {base : Heap}
theorem fu_is_list (T : Txt K mg) : Fv P w K mg base 1 "is_list" ["thing"] afIsList := by
  refine fv_of T.d_is_list sc_is_list (fun _ _ _ _ _ _ us hl => match us, hl with | [_], _ => rfl) (fun O cs Xf Kc h => match cs, h with | [_], _ => rfl) ?_
  intro f cdv A outer s H E hr
  refine ⟨_, (dss_one (ds_ret (de_callB call_isiT sb_isi2 (by rfl) T.n_isinstance (by decide +kernel) (da_cons (dv 0) (da_cons (de_tup (da_cons (de_raw (pe_bltn (v := .ty "list") (by rfl) T.n_list (by decide +kernel) rfl)) (da_cons (de_raw (pe_bltn (v := .ty "tuple") (by rfl) T.n_tuple (by decide +kernel) rfl)) da_nil))) da_nil))))), ?_⟩
  intro O cs Xf Kc h
  obtain ⟨c_thing, rfl⟩ : ∃ c_thing, cs = [c_thing] := match cs, h with | [c_thing], _ => ⟨c_thing, rfl⟩
  refine rho_is (ρ' := [some c_thing]) rfl ?_
  obtain ⟨n, hn, k⟩ := h
  exact ⟨_, rfl, by simp, c_thing, n, "list", "tuple", _, _, rfl, hn, kn_list hn, kn_tuple hn, k⟩
theorem fu_are_numbers (T : Txt K mg) : Fv P w K mg base 2 "are_numbers" ["thing"] afNums := by
  refine fv_of T.d_are_numbers sc_are_numbers (fun _ _ _ _ _ _ us hl => match us, hl with | [_], _ => rfl) (fun O cs Xf Kc h => match cs, h with | [_], _ => rfl) ?_
  intro f cdv A outer s H E hr
  have F_is_list := fu_is_list (P := P) (w := w) (base := base) T
  have F_is_number := fu_is_number (P := P) (w := w) (base := base) T
  refine ⟨_, (dss_one (ds_ret (de_and (de_callV F_is_list (takes_of rfl rfl rfl rfl) (hr.mono (by decide)) rfl (da_cons (dv 0) da_nil)) (de_one (de_callB (cr_all rfl) sb_all (by rfl) T.n_all (by decide +kernel) (da_cons (de_lc false (by rfl) sc_are_numbers.nd (di_or2 (di_list (dv 0)) (di_tup (dv 0))) (blkOk_by (own := [("part", 1)]) (N := N_are_numbers) (sc := defScope s_are_numbers) (by decide +kernel)) (fun _ _ _ _ _ => pg_name (i := 1) sc_are_numbers.nd rfl (Or.inl rfl)) (fun _ _ _ _ _ => (de_callV F_is_number takes_none (hr.mono (by decide)) rfl (da_cons (dv 1) da_nil)))) da_nil)))))), ?_⟩
  intro O cs Xf Kc h
  obtain ⟨c_thing, rfl⟩ : ∃ c_thing, cs = [c_thing] := match cs, h with | [c_thing], _ => ⟨c_thing, rfl⟩
  refine rho_is (ρ' := [some c_thing, none]) rfl ?_
  obtain ⟨r, rd, k⟩ := h
  obtain ⟨n, hn, en⟩ := rd.kn
  refine ⟨_, rfl, n, hn, _, rfl, ?_⟩
  rw [en]
  cases r with
  | none => exact iteF k
  | some es => exact iteT (all_gen (it_seq rfl rd.sq) rd.2.2 (fun D w e K he kk => ⟨_, rfl, (rd.2.1 e he).imp fun n hn => hn.up _, kk⟩) k)
theorem fu_is_floor_row (T : Txt K mg) : Fv P w K mg base 3 "is_floor_row" ["thing"] afFloor := by
  refine fv_of T.d_is_floor_row sc_is_floor_row (fun _ _ _ _ _ _ us hl => match us, hl with | [_], _ => rfl) (fun O cs Xf Kc h => match cs, h with | [_], _ => rfl) ?_
  intro f cdv A outer s H E hr
  have F_are_numbers := fu_are_numbers (P := P) (w := w) (base := base) T
  refine ⟨_, (dss_cons (ds_if (dw_pt (dw_or (dt_not (dt_val (de_callV F_are_numbers (takes_of rfl rfl rfl rfl) (hr.mono (by decide)) rfl (da_cons (dv 0) da_nil)))) (dw_or1 (dt_cmp (op_eqD hr.units) sr_eq (de_callB call_len_seq sb_len (by rfl) T.n_len PySem.boot_len (da_cons (dv 0) da_nil)) de_int (nomark _))))) (dss_one (ds_ret de_bl)) dss_nil)
 (dss_cons (ds_if (dt_not (dt_val (de_callB (cr_all rfl) sb_all (by rfl) T.n_all (by decide +kernel) (da_cons (de_lc false (by rfl) sc_is_floor_row.nd (di_or2 (di_list (de_slice sl_list sr_slL (dv 0) (do_some de_int) do_none)) (di_tup (de_slice sl_tupA sr_slT (dv 0) (do_some de_int) do_none))) (blkOk_by (own := [("term", 1)]) (N := N_is_floor_row) (sc := defScope s_is_floor_row) (by decide +kernel)) (fun _ _ _ _ _ => pg_name (i := 1) sc_is_floor_row.nd rfl (Or.inl rfl)) (fun _ _ _ _ _ => (de_cmp op_ge sr_ge (dv 1) de_int (nomark _)))) da_nil)))) (dss_one (ds_ret de_bl)) dss_nil)
 (dss_one (ds_ret (de_or (de_cmp (op_eqD hr.units) sr_eq (de_callB call_len_seq sb_len (by rfl) T.n_len PySem.boot_len (da_cons (dv 0) da_nil)) de_int (nomark _)) (de_one (de_cmp (op_neD hr.units) sr_ne (de_or2 (de_ix ix_list sr_ixL (dv 0) (de_un un_neg sr_neg de_int) (fun _ _ => rfl)) (de_ix ix_tup sr_ixT (dv 0) (de_un un_neg sr_neg de_int) (fun _ _ => rfl))) de_int (nomark _)))))))), ?_⟩
  intro O cs Xf Kc h
  obtain ⟨c_thing, rfl⟩ : ∃ c_thing, cs = [c_thing] := match cs, h with | [c_thing], _ => ⟨c_thing, rfl⟩
  refine rho_is (ρ' := [some c_thing, none]) rfl ?_
  obtain ⟨r, rd, k⟩ := h
  (try simp only [aVar, aC, aSeq, aNext, aDrop, aRet, aRetN, aIfS, aAsg, aName, aPar, aPar3, aGNil, aGCons, aGTup, aOp, aUn, aI0, aI, aU, aTest, aAnd, aOr, aNot, aAndV, aOrV, aNotV, aIf, aCons, aNil, aTup, aLst, aCall, aCallD, aCallK, aCB, aEi, aApp, aRais, aAugI, aSl, aPart, aNoPart, w_slL, w_slS, w_cat, aJs, aFmtS, aFmtI, aJoin, bStr, bI1, bI2, bLenS, Ab.Cl.at.injEq, exists_eq_right, w_tru, w_truI, w_truB, w_truN, w_truS, w_odd1, bne_iff_ne, ne_eq, w_eqI, w_neI, w_eqB, w_neB, w_eqFr, w_neFr, aRevM, aRev1, aCallH, w_eqNilD, w_neNilD, w_ixT, w_ixL, w_elsT, w_atN, w_at0, w_at1, w_at2, w_at3, w_l0, w_l1, w_l2, w_l3, w_l4, w_l5, w_l6, w_l7, w_l8, w_l9, w_l10, w_l11, w_l12, w_t0, w_t1, w_t2, w_t3, w_t4, w_t5, w_t6, w_t7, w_t8, w_ixLC, w_ixTC, w_lenD, w_lenT, w_neNil, w_eqNil, w_ixLis, aDct1, aDct0, aDct0O, aCallN, pickC, List.cons_append, List.nil_append, w_elsTup, aCallR, w_elsFr, w_ixFr, aLstO, w_isiTup, w_isiLis, w_isiInt, w_isiBool, w_isiStr, w_isiDct, w_reprB, w_reprGD, w_tupleD, w_listT, w_listFr, aNeS, aEqS, aNotB, aIsB, eq_self, not_true_eq_false, not_false_eq_true, decide_true, decide_false, Bool.not_true, Bool.not_false, w_forR1, w_intB, w_elsTC, wipeR, aRaw, aTry, List.map_cons, List.map_nil, List.length_cons, List.length_nil, List.set_cons_zero, List.set_cons_succ, List.getElem?_cons_zero, List.getElem?_cons_succ, Option.some.injEq, Ab.Cl.dat.injEq, PyData.int.injEq, PyData.bool.injEq, PyData.str.injEq, PyData.tuple.injEq, List.cons.injEq, and_true, true_and, exists_eq_left, exists_eq_left', exists_and_left, exists_and_right, and_assoc, exists_const, decide_eq_true_eq, Bool.not_eq_true', decide_eq_false_iff_not, Bool.false_eq_true, Bool.true_eq_false, if_true, if_false, reduceIte, reduceCtorEq, false_and, Nat.reduceAdd, Nat.reduceLeDiff])
  refine ⟨r, rd, ?_⟩
  cases hn : numsR r with
  | false =>
    rw [floorR_no hn] at k
    (try simp only [aVar, aC, aSeq, aNext, aDrop, aRet, aRetN, aIfS, aAsg, aName, aPar, aPar3, aGNil, aGCons, aGTup, aOp, aUn, aI0, aI, aU, aTest, aAnd, aOr, aNot, aAndV, aOrV, aNotV, aIf, aCons, aNil, aTup, aLst, aCall, aCallD, aCallK, aCB, aEi, aApp, aRais, aAugI, aSl, aPart, aNoPart, w_slL, w_slS, w_cat, aJs, aFmtS, aFmtI, aJoin, bStr, bI1, bI2, bLenS, Ab.Cl.at.injEq, exists_eq_right, w_tru, w_truI, w_truB, w_truN, w_truS, w_odd1, bne_iff_ne, ne_eq, w_eqI, w_neI, w_eqB, w_neB, w_eqFr, w_neFr, aRevM, aRev1, aCallH, w_eqNilD, w_neNilD, w_ixT, w_ixL, w_elsT, w_atN, w_at0, w_at1, w_at2, w_at3, w_l0, w_l1, w_l2, w_l3, w_l4, w_l5, w_l6, w_l7, w_l8, w_l9, w_l10, w_l11, w_l12, w_t0, w_t1, w_t2, w_t3, w_t4, w_t5, w_t6, w_t7, w_t8, w_ixLC, w_ixTC, w_lenD, w_lenT, w_neNil, w_eqNil, w_ixLis, aDct1, aDct0, aDct0O, aCallN, pickC, List.cons_append, List.nil_append, w_elsTup, aCallR, w_elsFr, w_ixFr, aLstO, w_isiTup, w_isiLis, w_isiInt, w_isiBool, w_isiStr, w_isiDct, w_reprB, w_reprGD, w_tupleD, w_listT, w_listFr, aNeS, aEqS, aNotB, aIsB, eq_self, not_true_eq_false, not_false_eq_true, decide_true, decide_false, Bool.not_true, Bool.not_false, w_forR1, w_intB, w_elsTC, wipeR, aRaw, aTry, List.map_cons, List.map_nil, List.length_cons, List.length_nil, List.set_cons_zero, List.set_cons_succ, List.getElem?_cons_zero, List.getElem?_cons_succ, Option.some.injEq, Ab.Cl.dat.injEq, PyData.int.injEq, PyData.bool.injEq, PyData.str.injEq, PyData.tuple.injEq, List.cons.injEq, and_true, true_and, exists_eq_left, exists_eq_left', exists_and_left, exists_and_right, and_assoc, exists_const, decide_eq_true_eq, Bool.not_eq_true', decide_eq_false_iff_not, Bool.false_eq_true, Bool.true_eq_false, if_true, if_false, reduceIte, reduceCtorEq, false_and, Nat.reduceAdd, Nat.reduceLeDiff])
    exact k
  | true =>
    obtain ⟨is, rfl⟩ := numsR_some hn
    rw [floorR_ints] at k
    unfold floorI at k
    (try simp only [aVar, aC, aSeq, aNext, aDrop, aRet, aRetN, aIfS, aAsg, aName, aPar, aPar3, aGNil, aGCons, aGTup, aOp, aUn, aI0, aI, aU, aTest, aAnd, aOr, aNot, aAndV, aOrV, aNotV, aIf, aCons, aNil, aTup, aLst, aCall, aCallD, aCallK, aCB, aEi, aApp, aRais, aAugI, aSl, aPart, aNoPart, w_slL, w_slS, w_cat, aJs, aFmtS, aFmtI, aJoin, bStr, bI1, bI2, bLenS, Ab.Cl.at.injEq, exists_eq_right, w_tru, w_truI, w_truB, w_truN, w_truS, w_odd1, bne_iff_ne, ne_eq, w_eqI, w_neI, w_eqB, w_neB, w_eqFr, w_neFr, aRevM, aRev1, aCallH, w_eqNilD, w_neNilD, w_ixT, w_ixL, w_elsT, w_atN, w_at0, w_at1, w_at2, w_at3, w_l0, w_l1, w_l2, w_l3, w_l4, w_l5, w_l6, w_l7, w_l8, w_l9, w_l10, w_l11, w_l12, w_t0, w_t1, w_t2, w_t3, w_t4, w_t5, w_t6, w_t7, w_t8, w_ixLC, w_ixTC, w_lenD, w_lenT, w_neNil, w_eqNil, w_ixLis, aDct1, aDct0, aDct0O, aCallN, pickC, List.cons_append, List.nil_append, w_elsTup, aCallR, w_elsFr, w_ixFr, aLstO, w_isiTup, w_isiLis, w_isiInt, w_isiBool, w_isiStr, w_isiDct, w_reprB, w_reprGD, w_tupleD, w_listT, w_listFr, aNeS, aEqS, aNotB, aIsB, eq_self, not_true_eq_false, not_false_eq_true, decide_true, decide_false, Bool.not_true, Bool.not_false, w_forR1, w_intB, w_elsTC, wipeR, aRaw, aTry, List.map_cons, List.map_nil, List.length_cons, List.length_nil, List.set_cons_zero, List.set_cons_succ, List.getElem?_cons_zero, List.getElem?_cons_succ, Option.some.injEq, Ab.Cl.dat.injEq, PyData.int.injEq, PyData.bool.injEq, PyData.str.injEq, PyData.tuple.injEq, List.cons.injEq, and_true, true_and, exists_eq_left, exists_eq_left', exists_and_left, exists_and_right, and_assoc, exists_const, decide_eq_true_eq, Bool.not_eq_true', decide_eq_false_iff_not, Bool.false_eq_true, Bool.true_eq_false, if_true, if_false, reduceIte, reduceCtorEq, false_and, Nat.reduceAdd, Nat.reduceLeDiff])
    refine w_len rd.sq ?_
    rw [iCl_len]
    (try simp only [aVar, aC, aSeq, aNext, aDrop, aRet, aRetN, aIfS, aAsg, aName, aPar, aPar3, aGNil, aGCons, aGTup, aOp, aUn, aI0, aI, aU, aTest, aAnd, aOr, aNot, aAndV, aOrV, aNotV, aIf, aCons, aNil, aTup, aLst, aCall, aCallD, aCallK, aCB, aEi, aApp, aRais, aAugI, aSl, aPart, aNoPart, w_slL, w_slS, w_cat, aJs, aFmtS, aFmtI, aJoin, bStr, bI1, bI2, bLenS, Ab.Cl.at.injEq, exists_eq_right, w_tru, w_truI, w_truB, w_truN, w_truS, w_odd1, bne_iff_ne, ne_eq, w_eqI, w_neI, w_eqB, w_neB, w_eqFr, w_neFr, aRevM, aRev1, aCallH, w_eqNilD, w_neNilD, w_ixT, w_ixL, w_elsT, w_atN, w_at0, w_at1, w_at2, w_at3, w_l0, w_l1, w_l2, w_l3, w_l4, w_l5, w_l6, w_l7, w_l8, w_l9, w_l10, w_l11, w_l12, w_t0, w_t1, w_t2, w_t3, w_t4, w_t5, w_t6, w_t7, w_t8, w_ixLC, w_ixTC, w_lenD, w_lenT, w_neNil, w_eqNil, w_ixLis, aDct1, aDct0, aDct0O, aCallN, pickC, List.cons_append, List.nil_append, w_elsTup, aCallR, w_elsFr, w_ixFr, aLstO, w_isiTup, w_isiLis, w_isiInt, w_isiBool, w_isiStr, w_isiDct, w_reprB, w_reprGD, w_tupleD, w_listT, w_listFr, aNeS, aEqS, aNotB, aIsB, eq_self, not_true_eq_false, not_false_eq_true, decide_true, decide_false, Bool.not_true, Bool.not_false, w_forR1, w_intB, w_elsTC, wipeR, aRaw, aTry, List.map_cons, List.map_nil, List.length_cons, List.length_nil, List.set_cons_zero, List.set_cons_succ, List.getElem?_cons_zero, List.getElem?_cons_succ, Option.some.injEq, Ab.Cl.dat.injEq, PyData.int.injEq, PyData.bool.injEq, PyData.str.injEq, PyData.tuple.injEq, List.cons.injEq, and_true, true_and, exists_eq_left, exists_eq_left', exists_and_left, exists_and_right, and_assoc, exists_const, decide_eq_true_eq, Bool.not_eq_true', decide_eq_false_iff_not, Bool.false_eq_true, Bool.true_eq_false, if_true, if_false, reduceIte, reduceCtorEq, false_and, Nat.reduceAdd, Nat.reduceLeDiff])
    have hz : (iCl is).length < 1000000 := rd.2.2
    by_cases h0 : is.length = 0
    · rw [h0] at k ⊢
      exact k
    · rw [if_neg (by omega)]
      rw [decide_eq_false h0] at k
      refine w_all (g := intG fun t => decide (t ≥ 1)) (it_rest rfl rd.sq) (by rw [iCl_len] at hz ⊢; rw [List.length_drop]; omega) (fun D w e K he kk => ?_) ?_
      · obtain ⟨t, _, rfl⟩ := mem_iCl he
        simp only [wipeR, aVar, aC, aSeq, aNext, aDrop, aRet, aRetN, aIfS, aAsg, aName, aPar, aPar3, aGNil, aGCons, aGTup, aOp, aUn, aI0, aI, aU, aTest, aAnd, aOr, aNot, aAndV, aOrV, aNotV, aIf, aCons, aNil, aTup, aLst, aCall, aCallD, aCallK, aCB, aEi, aApp, aRais, aAugI, aSl, aPart, aNoPart, w_slL, w_slS, w_cat, aJs, aFmtS, aFmtI, aJoin, bStr, bI1, bI2, bLenS, Ab.Cl.at.injEq, exists_eq_right, w_tru, w_truI, w_truB, w_truN, w_truS, w_odd1, bne_iff_ne, ne_eq, w_eqI, w_neI, w_eqB, w_neB, w_eqFr, w_neFr, aRevM, aRev1, aCallH, w_eqNilD, w_neNilD, w_ixT, w_ixL, w_elsT, w_atN, w_at0, w_at1, w_at2, w_at3, w_l0, w_l1, w_l2, w_l3, w_l4, w_l5, w_l6, w_l7, w_l8, w_l9, w_l10, w_l11, w_l12, w_t0, w_t1, w_t2, w_t3, w_t4, w_t5, w_t6, w_t7, w_t8, w_ixLC, w_ixTC, w_lenD, w_lenT, w_neNil, w_eqNil, w_ixLis, aDct1, aDct0, aDct0O, aCallN, pickC, List.cons_append, List.nil_append, w_elsTup, aCallR, w_elsFr, w_ixFr, aLstO, w_isiTup, w_isiLis, w_isiInt, w_isiBool, w_isiStr, w_isiDct, w_reprB, w_reprGD, w_tupleD, w_listT, w_listFr, aNeS, aEqS, aNotB, aIsB, eq_self, not_true_eq_false, not_false_eq_true, decide_true, decide_false, Bool.not_true, Bool.not_false, w_forR1, w_intB, w_elsTC, wipeR, aRaw, aTry, List.map_cons, List.map_nil, List.length_cons, List.length_nil, List.set_cons_zero, List.set_cons_succ, List.getElem?_cons_zero, List.getElem?_cons_succ, Option.some.injEq, Ab.Cl.dat.injEq, PyData.int.injEq, PyData.bool.injEq, PyData.str.injEq, PyData.tuple.injEq, List.cons.injEq, and_true, true_and, exists_eq_left, exists_eq_left', exists_and_left, exists_and_right, and_assoc, exists_const, decide_eq_true_eq, Bool.not_eq_true', decide_eq_false_iff_not, Bool.false_eq_true, Bool.true_eq_false, if_true, if_false, reduceIte, reduceCtorEq, false_and, Nat.reduceAdd, Nat.reduceLeDiff]
        exact kk
      · rw [all_iG]
        (try simp only [aVar, aC, aSeq, aNext, aDrop, aRet, aRetN, aIfS, aAsg, aName, aPar, aPar3, aGNil, aGCons, aGTup, aOp, aUn, aI0, aI, aU, aTest, aAnd, aOr, aNot, aAndV, aOrV, aNotV, aIf, aCons, aNil, aTup, aLst, aCall, aCallD, aCallK, aCB, aEi, aApp, aRais, aAugI, aSl, aPart, aNoPart, w_slL, w_slS, w_cat, aJs, aFmtS, aFmtI, aJoin, bStr, bI1, bI2, bLenS, Ab.Cl.at.injEq, exists_eq_right, w_tru, w_truI, w_truB, w_truN, w_truS, w_odd1, bne_iff_ne, ne_eq, w_eqI, w_neI, w_eqB, w_neB, w_eqFr, w_neFr, aRevM, aRev1, aCallH, w_eqNilD, w_neNilD, w_ixT, w_ixL, w_elsT, w_atN, w_at0, w_at1, w_at2, w_at3, w_l0, w_l1, w_l2, w_l3, w_l4, w_l5, w_l6, w_l7, w_l8, w_l9, w_l10, w_l11, w_l12, w_t0, w_t1, w_t2, w_t3, w_t4, w_t5, w_t6, w_t7, w_t8, w_ixLC, w_ixTC, w_lenD, w_lenT, w_neNil, w_eqNil, w_ixLis, aDct1, aDct0, aDct0O, aCallN, pickC, List.cons_append, List.nil_append, w_elsTup, aCallR, w_elsFr, w_ixFr, aLstO, w_isiTup, w_isiLis, w_isiInt, w_isiBool, w_isiStr, w_isiDct, w_reprB, w_reprGD, w_tupleD, w_listT, w_listFr, aNeS, aEqS, aNotB, aIsB, eq_self, not_true_eq_false, not_false_eq_true, decide_true, decide_false, Bool.not_true, Bool.not_false, w_forR1, w_intB, w_elsTC, wipeR, aRaw, aTry, List.map_cons, List.map_nil, List.length_cons, List.length_nil, List.set_cons_zero, List.set_cons_succ, List.getElem?_cons_zero, List.getElem?_cons_succ, Option.some.injEq, Ab.Cl.dat.injEq, PyData.int.injEq, PyData.bool.injEq, PyData.str.injEq, PyData.tuple.injEq, List.cons.injEq, and_true, true_and, exists_eq_left, exists_eq_left', exists_and_left, exists_and_right, and_assoc, exists_const, decide_eq_true_eq, Bool.not_eq_true', decide_eq_false_iff_not, Bool.false_eq_true, Bool.true_eq_false, if_true, if_false, reduceIte, reduceCtorEq, false_and, Nat.reduceAdd, Nat.reduceLeDiff])
        cases ha : (is.drop 1).all fun t => decide (t ≥ 1) with
        | false =>
          rw [ha] at k
          exact k
        | true =>
          rw [ha] at k
          (try simp only [aVar, aC, aSeq, aNext, aDrop, aRet, aRetN, aIfS, aAsg, aName, aPar, aPar3, aGNil, aGCons, aGTup, aOp, aUn, aI0, aI, aU, aTest, aAnd, aOr, aNot, aAndV, aOrV, aNotV, aIf, aCons, aNil, aTup, aLst, aCall, aCallD, aCallK, aCB, aEi, aApp, aRais, aAugI, aSl, aPart, aNoPart, w_slL, w_slS, w_cat, aJs, aFmtS, aFmtI, aJoin, bStr, bI1, bI2, bLenS, Ab.Cl.at.injEq, exists_eq_right, w_tru, w_truI, w_truB, w_truN, w_truS, w_odd1, bne_iff_ne, ne_eq, w_eqI, w_neI, w_eqB, w_neB, w_eqFr, w_neFr, aRevM, aRev1, aCallH, w_eqNilD, w_neNilD, w_ixT, w_ixL, w_elsT, w_atN, w_at0, w_at1, w_at2, w_at3, w_l0, w_l1, w_l2, w_l3, w_l4, w_l5, w_l6, w_l7, w_l8, w_l9, w_l10, w_l11, w_l12, w_t0, w_t1, w_t2, w_t3, w_t4, w_t5, w_t6, w_t7, w_t8, w_ixLC, w_ixTC, w_lenD, w_lenT, w_neNil, w_eqNil, w_ixLis, aDct1, aDct0, aDct0O, aCallN, pickC, List.cons_append, List.nil_append, w_elsTup, aCallR, w_elsFr, w_ixFr, aLstO, w_isiTup, w_isiLis, w_isiInt, w_isiBool, w_isiStr, w_isiDct, w_reprB, w_reprGD, w_tupleD, w_listT, w_listFr, aNeS, aEqS, aNotB, aIsB, eq_self, not_true_eq_false, not_false_eq_true, decide_true, decide_false, Bool.not_true, Bool.not_false, w_forR1, w_intB, w_elsTC, wipeR, aRaw, aTry, List.map_cons, List.map_nil, List.length_cons, List.length_nil, List.set_cons_zero, List.set_cons_succ, List.getElem?_cons_zero, List.getElem?_cons_succ, Option.some.injEq, Ab.Cl.dat.injEq, PyData.int.injEq, PyData.bool.injEq, PyData.str.injEq, PyData.tuple.injEq, List.cons.injEq, and_true, true_and, exists_eq_left, exists_eq_left', exists_and_left, exists_and_right, and_assoc, exists_const, decide_eq_true_eq, Bool.not_eq_true', decide_eq_false_iff_not, Bool.false_eq_true, Bool.true_eq_false, if_true, if_false, reduceIte, reduceCtorEq, false_and, Nat.reduceAdd, Nat.reduceLeDiff])
          refine w_len rd.sq ?_
          rw [iCl_len]
          (try simp only [aVar, aC, aSeq, aNext, aDrop, aRet, aRetN, aIfS, aAsg, aName, aPar, aPar3, aGNil, aGCons, aGTup, aOp, aUn, aI0, aI, aU, aTest, aAnd, aOr, aNot, aAndV, aOrV, aNotV, aIf, aCons, aNil, aTup, aLst, aCall, aCallD, aCallK, aCB, aEi, aApp, aRais, aAugI, aSl, aPart, aNoPart, w_slL, w_slS, w_cat, aJs, aFmtS, aFmtI, aJoin, bStr, bI1, bI2, bLenS, Ab.Cl.at.injEq, exists_eq_right, w_tru, w_truI, w_truB, w_truN, w_truS, w_odd1, bne_iff_ne, ne_eq, w_eqI, w_neI, w_eqB, w_neB, w_eqFr, w_neFr, aRevM, aRev1, aCallH, w_eqNilD, w_neNilD, w_ixT, w_ixL, w_elsT, w_atN, w_at0, w_at1, w_at2, w_at3, w_l0, w_l1, w_l2, w_l3, w_l4, w_l5, w_l6, w_l7, w_l8, w_l9, w_l10, w_l11, w_l12, w_t0, w_t1, w_t2, w_t3, w_t4, w_t5, w_t6, w_t7, w_t8, w_ixLC, w_ixTC, w_lenD, w_lenT, w_neNil, w_eqNil, w_ixLis, aDct1, aDct0, aDct0O, aCallN, pickC, List.cons_append, List.nil_append, w_elsTup, aCallR, w_elsFr, w_ixFr, aLstO, w_isiTup, w_isiLis, w_isiInt, w_isiBool, w_isiStr, w_isiDct, w_reprB, w_reprGD, w_tupleD, w_listT, w_listFr, aNeS, aEqS, aNotB, aIsB, eq_self, not_true_eq_false, not_false_eq_true, decide_true, decide_false, Bool.not_true, Bool.not_false, w_forR1, w_intB, w_elsTC, wipeR, aRaw, aTry, List.map_cons, List.map_nil, List.length_cons, List.length_nil, List.set_cons_zero, List.set_cons_succ, List.getElem?_cons_zero, List.getElem?_cons_succ, Option.some.injEq, Ab.Cl.dat.injEq, PyData.int.injEq, PyData.bool.injEq, PyData.str.injEq, PyData.tuple.injEq, List.cons.injEq, and_true, true_and, exists_eq_left, exists_eq_left', exists_and_left, exists_and_right, and_assoc, exists_const, decide_eq_true_eq, Bool.not_eq_true', decide_eq_false_iff_not, Bool.false_eq_true, Bool.true_eq_false, if_true, if_false, reduceIte, reduceCtorEq, false_and, Nat.reduceAdd, Nat.reduceLeDiff])
          by_cases h1 : is.length = 1
          · rw [if_pos (by omega)]
            rw [decide_eq_true h1] at k
            exact k
          · rw [if_neg (by omega)]
            rw [decide_eq_false h1] at k
            refine w_ix rd.sq (last_cons h0) ?_
            (try simp only [aVar, aC, aSeq, aNext, aDrop, aRet, aRetN, aIfS, aAsg, aName, aPar, aPar3, aGNil, aGCons, aGTup, aOp, aUn, aI0, aI, aU, aTest, aAnd, aOr, aNot, aAndV, aOrV, aNotV, aIf, aCons, aNil, aTup, aLst, aCall, aCallD, aCallK, aCB, aEi, aApp, aRais, aAugI, aSl, aPart, aNoPart, w_slL, w_slS, w_cat, aJs, aFmtS, aFmtI, aJoin, bStr, bI1, bI2, bLenS, Ab.Cl.at.injEq, exists_eq_right, w_tru, w_truI, w_truB, w_truN, w_truS, w_odd1, bne_iff_ne, ne_eq, w_eqI, w_neI, w_eqB, w_neB, w_eqFr, w_neFr, aRevM, aRev1, aCallH, w_eqNilD, w_neNilD, w_ixT, w_ixL, w_elsT, w_atN, w_at0, w_at1, w_at2, w_at3, w_l0, w_l1, w_l2, w_l3, w_l4, w_l5, w_l6, w_l7, w_l8, w_l9, w_l10, w_l11, w_l12, w_t0, w_t1, w_t2, w_t3, w_t4, w_t5, w_t6, w_t7, w_t8, w_ixLC, w_ixTC, w_lenD, w_lenT, w_neNil, w_eqNil, w_ixLis, aDct1, aDct0, aDct0O, aCallN, pickC, List.cons_append, List.nil_append, w_elsTup, aCallR, w_elsFr, w_ixFr, aLstO, w_isiTup, w_isiLis, w_isiInt, w_isiBool, w_isiStr, w_isiDct, w_reprB, w_reprGD, w_tupleD, w_listT, w_listFr, aNeS, aEqS, aNotB, aIsB, eq_self, not_true_eq_false, not_false_eq_true, decide_true, decide_false, Bool.not_true, Bool.not_false, w_forR1, w_intB, w_elsTC, wipeR, aRaw, aTry, List.map_cons, List.map_nil, List.length_cons, List.length_nil, List.set_cons_zero, List.set_cons_succ, List.getElem?_cons_zero, List.getElem?_cons_succ, Option.some.injEq, Ab.Cl.dat.injEq, PyData.int.injEq, PyData.bool.injEq, PyData.str.injEq, PyData.tuple.injEq, List.cons.injEq, and_true, true_and, exists_eq_left, exists_eq_left', exists_and_left, exists_and_right, and_assoc, exists_const, decide_eq_true_eq, Bool.not_eq_true', decide_eq_false_iff_not, Bool.false_eq_true, Bool.true_eq_false, if_true, if_false, reduceIte, reduceCtorEq, false_and, Nat.reduceAdd, Nat.reduceLeDiff])
            exact k
theorem fu_need_floor_row (T : Txt K mg) : Fv P w K mg base 4 "need_floor_row" ["thing"] afNeedFloor := by
  refine fv_of T.d_need_floor_row sc_need_floor_row (fun _ _ _ _ _ _ us hl => match us, hl with | [_], _ => rfl) (fun O cs Xf Kc h => match cs, h with | [_], _ => rfl) ?_
  intro f cdv A outer s H E hr
  have F_is_floor_row := fu_is_floor_row (P := P) (w := w) (base := base) T
  have X_NoRow := xk_NoRow (P := P) (w := w) (base := base) T
  refine ⟨_, (dss_one (ds_if (dt_not (dt_val (de_callV F_is_floor_row (takes_of rfl rfl rfl rfl) (hr.mono (by decide)) rfl (da_cons (dv 0) da_nil)))) (dss_one (ds_rais X_NoRow (hr.mono (by decide)) rfl (takes_of rfl rfl rfl rfl) rfl (dv 0))) dss_nil)), ?_⟩
  intro O cs Xf Kc h
  obtain ⟨c_thing, rfl⟩ : ∃ c_thing, cs = [c_thing] := match cs, h with | [c_thing], _ => ⟨c_thing, rfl⟩
  refine rho_is (ρ' := [some c_thing]) rfl ?_
  obtain ⟨r, rd, h⟩ := h
  (try simp only [aVar, aC, aSeq, aNext, aDrop, aRet, aRetN, aIfS, aAsg, aName, aPar, aPar3, aGNil, aGCons, aGTup, aOp, aUn, aI0, aI, aU, aTest, aAnd, aOr, aNot, aAndV, aOrV, aNotV, aIf, aCons, aNil, aTup, aLst, aCall, aCallD, aCallK, aCB, aEi, aApp, aRais, aAugI, aSl, aPart, aNoPart, w_slL, w_slS, w_cat, aJs, aFmtS, aFmtI, aJoin, bStr, bI1, bI2, bLenS, Ab.Cl.at.injEq, exists_eq_right, w_tru, w_truI, w_truB, w_truN, w_truS, w_odd1, bne_iff_ne, ne_eq, w_eqI, w_neI, w_eqB, w_neB, w_eqFr, w_neFr, aRevM, aRev1, aCallH, w_eqNilD, w_neNilD, w_ixT, w_ixL, w_elsT, w_atN, w_at0, w_at1, w_at2, w_at3, w_l0, w_l1, w_l2, w_l3, w_l4, w_l5, w_l6, w_l7, w_l8, w_l9, w_l10, w_l11, w_l12, w_t0, w_t1, w_t2, w_t3, w_t4, w_t5, w_t6, w_t7, w_t8, w_ixLC, w_ixTC, w_lenD, w_lenT, w_neNil, w_eqNil, w_ixLis, aDct1, aDct0, aDct0O, aCallN, pickC, List.cons_append, List.nil_append, w_elsTup, aCallR, w_elsFr, w_ixFr, aLstO, w_isiTup, w_isiLis, w_isiInt, w_isiBool, w_isiStr, w_isiDct, w_reprB, w_reprGD, w_tupleD, w_listT, w_listFr, aNeS, aEqS, aNotB, aIsB, eq_self, not_true_eq_false, not_false_eq_true, decide_true, decide_false, Bool.not_true, Bool.not_false, w_forR1, w_intB, w_elsTC, wipeR, aRaw, aTry, List.map_cons, List.map_nil, List.length_cons, List.length_nil, List.set_cons_zero, List.set_cons_succ, List.getElem?_cons_zero, List.getElem?_cons_succ, Option.some.injEq, Ab.Cl.dat.injEq, PyData.int.injEq, PyData.bool.injEq, PyData.str.injEq, PyData.tuple.injEq, List.cons.injEq, and_true, true_and, exists_eq_left, exists_eq_left', exists_and_left, exists_and_right, and_assoc, exists_const, decide_eq_true_eq, Bool.not_eq_true', decide_eq_false_iff_not, Bool.false_eq_true, Bool.true_eq_false, if_true, if_false, reduceIte, reduceCtorEq, false_and, Nat.reduceAdd, Nat.reduceLeDiff])
  refine ⟨r, rd, ?_⟩
  rcases h with ⟨e, k⟩ | ⟨e, k⟩
  · rw [e]
    (try simp only [aVar, aC, aSeq, aNext, aDrop, aRet, aRetN, aIfS, aAsg, aName, aPar, aPar3, aGNil, aGCons, aGTup, aOp, aUn, aI0, aI, aU, aTest, aAnd, aOr, aNot, aAndV, aOrV, aNotV, aIf, aCons, aNil, aTup, aLst, aCall, aCallD, aCallK, aCB, aEi, aApp, aRais, aAugI, aSl, aPart, aNoPart, w_slL, w_slS, w_cat, aJs, aFmtS, aFmtI, aJoin, bStr, bI1, bI2, bLenS, Ab.Cl.at.injEq, exists_eq_right, w_tru, w_truI, w_truB, w_truN, w_truS, w_odd1, bne_iff_ne, ne_eq, w_eqI, w_neI, w_eqB, w_neB, w_eqFr, w_neFr, aRevM, aRev1, aCallH, w_eqNilD, w_neNilD, w_ixT, w_ixL, w_elsT, w_atN, w_at0, w_at1, w_at2, w_at3, w_l0, w_l1, w_l2, w_l3, w_l4, w_l5, w_l6, w_l7, w_l8, w_l9, w_l10, w_l11, w_l12, w_t0, w_t1, w_t2, w_t3, w_t4, w_t5, w_t6, w_t7, w_t8, w_ixLC, w_ixTC, w_lenD, w_lenT, w_neNil, w_eqNil, w_ixLis, aDct1, aDct0, aDct0O, aCallN, pickC, List.cons_append, List.nil_append, w_elsTup, aCallR, w_elsFr, w_ixFr, aLstO, w_isiTup, w_isiLis, w_isiInt, w_isiBool, w_isiStr, w_isiDct, w_reprB, w_reprGD, w_tupleD, w_listT, w_listFr, aNeS, aEqS, aNotB, aIsB, eq_self, not_true_eq_false, not_false_eq_true, decide_true, decide_false, Bool.not_true, Bool.not_false, w_forR1, w_intB, w_elsTC, wipeR, aRaw, aTry, List.map_cons, List.map_nil, List.length_cons, List.length_nil, List.set_cons_zero, List.set_cons_succ, List.getElem?_cons_zero, List.getElem?_cons_succ, Option.some.injEq, Ab.Cl.dat.injEq, PyData.int.injEq, PyData.bool.injEq, PyData.str.injEq, PyData.tuple.injEq, List.cons.injEq, and_true, true_and, exists_eq_left, exists_eq_left', exists_and_left, exists_and_right, and_assoc, exists_const, decide_eq_true_eq, Bool.not_eq_true', decide_eq_false_iff_not, Bool.false_eq_true, Bool.true_eq_false, if_true, if_false, reduceIte, reduceCtorEq, false_and, Nat.reduceAdd, Nat.reduceLeDiff])
    exact k
  · rw [e]
    (try simp only [aVar, aC, aSeq, aNext, aDrop, aRet, aRetN, aIfS, aAsg, aName, aPar, aPar3, aGNil, aGCons, aGTup, aOp, aUn, aI0, aI, aU, aTest, aAnd, aOr, aNot, aAndV, aOrV, aNotV, aIf, aCons, aNil, aTup, aLst, aCall, aCallD, aCallK, aCB, aEi, aApp, aRais, aAugI, aSl, aPart, aNoPart, w_slL, w_slS, w_cat, aJs, aFmtS, aFmtI, aJoin, bStr, bI1, bI2, bLenS, Ab.Cl.at.injEq, exists_eq_right, w_tru, w_truI, w_truB, w_truN, w_truS, w_odd1, bne_iff_ne, ne_eq, w_eqI, w_neI, w_eqB, w_neB, w_eqFr, w_neFr, aRevM, aRev1, aCallH, w_eqNilD, w_neNilD, w_ixT, w_ixL, w_elsT, w_atN, w_at0, w_at1, w_at2, w_at3, w_l0, w_l1, w_l2, w_l3, w_l4, w_l5, w_l6, w_l7, w_l8, w_l9, w_l10, w_l11, w_l12, w_t0, w_t1, w_t2, w_t3, w_t4, w_t5, w_t6, w_t7, w_t8, w_ixLC, w_ixTC, w_lenD, w_lenT, w_neNil, w_eqNil, w_ixLis, aDct1, aDct0, aDct0O, aCallN, pickC, List.cons_append, List.nil_append, w_elsTup, aCallR, w_elsFr, w_ixFr, aLstO, w_isiTup, w_isiLis, w_isiInt, w_isiBool, w_isiStr, w_isiDct, w_reprB, w_reprGD, w_tupleD, w_listT, w_listFr, aNeS, aEqS, aNotB, aIsB, eq_self, not_true_eq_false, not_false_eq_true, decide_true, decide_false, Bool.not_true, Bool.not_false, w_forR1, w_intB, w_elsTC, wipeR, aRaw, aTry, List.map_cons, List.map_nil, List.length_cons, List.length_nil, List.set_cons_zero, List.set_cons_succ, List.getElem?_cons_zero, List.getElem?_cons_succ, Option.some.injEq, Ab.Cl.dat.injEq, PyData.int.injEq, PyData.bool.injEq, PyData.str.injEq, PyData.tuple.injEq, List.cons.injEq, and_true, true_and, exists_eq_left, exists_eq_left', exists_and_left, exists_and_right, and_assoc, exists_const, decide_eq_true_eq, Bool.not_eq_true', decide_eq_false_iff_not, Bool.false_eq_true, Bool.true_eq_false, if_true, if_false, reduceIte, reduceCtorEq, false_and, Nat.reduceAdd, Nat.reduceLeDiff])
    exact k
theorem fu_turned (T : Txt K mg) : Fv P w K mg base 1 "turned" ["rows", "term"] afTurned := by
  refine fv_of T.d_turned sc_turned (fun _ _ _ _ _ _ us hl => match us, hl with | [_, _], _ => rfl) (fun O cs Xf Kc h => match cs, h with | [_, _], _ => rfl) ?_
  intro f cdv A outer s H E hr
  refine ⟨_, (dss_cons (ds_asg (dv 0) (dg_tup (n := 2) rfl (dgs_cons (dg_tup (n := 2) rfl (dgs_cons (dg_name (i := 2) sc_turned.nd rfl (Or.inl rfl)) (dgs_cons (dg_name (i := 3) sc_turned.nd rfl (Or.inl rfl)) dgs_nil))) (dgs_cons (dg_tup (n := 2) rfl (dgs_cons (dg_name (i := 4) sc_turned.nd rfl (Or.inl rfl)) (dgs_cons (dg_name (i := 5) sc_turned.nd rfl (Or.inl rfl)) dgs_nil))) dgs_nil))))
 (dss_one (ds_ret (de_tup (da_cons (de_tup (da_cons (de_op op_add sr_add (de_op op_mulW sr_mul (dv 2) (dv 1)) (dv 3)) (da_cons (dv 2) da_nil))) (da_cons (de_tup (da_cons (de_op op_add sr_add (de_op op_mulW sr_mul (dv 4) (dv 1)) (dv 5)) (da_cons (dv 4) da_nil))) da_nil)))))), ?_⟩
  intro O cs Xf Kc h
  obtain ⟨c_rows, c_term, rfl⟩ : ∃ c_rows c_term, cs = [c_rows, c_term] := match cs, h with | [c_rows, c_term], _ => ⟨c_rows, c_term, rfl⟩
  refine rho_is (ρ' := [some c_rows, some c_term, none, none, none, none]) rfl ?_
  obtain ⟨r, t, n, m, rfl, rfl, hr, ht, h0, h1, h2, k⟩ := h
  (try simp only [aVar, aC, aSeq, aNext, aDrop, aRet, aRetN, aIfS, aAsg, aName, aPar, aPar3, aGNil, aGCons, aGTup, aOp, aUn, aI0, aI, aU, aTest, aAnd, aOr, aNot, aAndV, aOrV, aNotV, aIf, aCons, aNil, aTup, aLst, aCall, aCallD, aCallK, aCB, aEi, aApp, aRais, aAugI, aSl, aPart, aNoPart, w_slL, w_slS, w_cat, aJs, aFmtS, aFmtI, aJoin, bStr, bI1, bI2, bLenS, Ab.Cl.at.injEq, exists_eq_right, w_tru, w_truI, w_truB, w_truN, w_truS, w_odd1, bne_iff_ne, ne_eq, w_eqI, w_neI, w_eqB, w_neB, w_eqFr, w_neFr, aRevM, aRev1, aCallH, w_eqNilD, w_neNilD, w_ixT, w_ixL, w_elsT, w_atN, w_at0, w_at1, w_at2, w_at3, w_l0, w_l1, w_l2, w_l3, w_l4, w_l5, w_l6, w_l7, w_l8, w_l9, w_l10, w_l11, w_l12, w_t0, w_t1, w_t2, w_t3, w_t4, w_t5, w_t6, w_t7, w_t8, w_ixLC, w_ixTC, w_lenD, w_lenT, w_neNil, w_eqNil, w_ixLis, aDct1, aDct0, aDct0O, aCallN, pickC, List.cons_append, List.nil_append, w_elsTup, aCallR, w_elsFr, w_ixFr, aLstO, w_isiTup, w_isiLis, w_isiInt, w_isiBool, w_isiStr, w_isiDct, w_reprB, w_reprGD, w_tupleD, w_listT, w_listFr, aNeS, aEqS, aNotB, aIsB, eq_self, not_true_eq_false, not_false_eq_true, decide_true, decide_false, Bool.not_true, Bool.not_false, w_forR1, w_intB, w_elsTC, wipeR, aRaw, aTry, List.map_cons, List.map_nil, List.length_cons, List.length_nil, List.set_cons_zero, List.set_cons_succ, List.getElem?_cons_zero, List.getElem?_cons_succ, Option.some.injEq, Ab.Cl.dat.injEq, PyData.int.injEq, PyData.bool.injEq, PyData.str.injEq, PyData.tuple.injEq, List.cons.injEq, and_true, true_and, exists_eq_left, exists_eq_left', exists_and_left, exists_and_right, and_assoc, exists_const, decide_eq_true_eq, Bool.not_eq_true', decide_eq_false_iff_not, Bool.false_eq_true, Bool.true_eq_false, if_true, if_false, reduceIte, reduceCtorEq, false_and, Nat.reduceAdd, Nat.reduceLeDiff])
  exact ⟨mulC hr.a ht h0 h1 h2, mulC hr.c ht h0 h1 h2, k⟩
theorem fu_turn_of (T : Txt K mg) : Fv P w K mg base 4 "turn_of" ["terms"] afTurnOf := by
  refine fv_of T.d_turn_of sc_turn_of (fun _ _ _ _ _ _ us hl => match us, hl with | [_], _ => rfl) (fun O cs Xf Kc h => match cs, h with | [_], _ => rfl) ?_
  intro f cdv A outer s H E hr
  have F_are_numbers := fu_are_numbers (P := P) (w := w) (base := base) T
  have F_turned := fu_turned (P := P) (w := w) (base := base) T
  have X_NoRow := xk_NoRow (P := P) (w := w) (base := base) T
  refine ⟨_, (dss_cons (ds_if (dt_not (dt_val (de_callV F_are_numbers (takes_of rfl rfl rfl rfl) (hr.mono (by decide)) rfl (da_cons (dv 0) da_nil)))) (dss_one (ds_rais X_NoRow (hr.mono (by decide)) rfl (takes_of rfl rfl rfl rfl) rfl (dv 0))) dss_nil)
 (dss_cons (ds_set (i := 1) sc_turn_of.nd rfl (Or.inl rfl) (de_tup (da_cons (de_tup (da_cons de_int (da_cons de_int da_nil))) (da_cons (de_tup (da_cons de_int (da_cons de_int da_nil))) da_nil))))
 (dss_cons (ds_for (passes_of rfl) rfl (di_or2 (di_list (dv 0)) (di_tup (dv 0))) (dg_name (i := 2) sc_turn_of.nd rfl (Or.inl rfl)) (dss_one (ds_set (i := 1) sc_turn_of.nd rfl (Or.inl rfl) (de_callV F_turned (takes_of rfl rfl rfl rfl) (hr.mono (by decide)) rfl (da_cons (dv 1) (da_cons (dv 2) da_nil))))))
 (dss_one (ds_ret (dv 1)))))), ?_⟩
  intro O cs Xf Kc h
  obtain ⟨c_terms, rfl⟩ : ∃ c_terms, cs = [c_terms] := match cs, h with | [c_terms], _ => ⟨c_terms, rfl⟩
  refine rho_is (ρ' := [some c_terms, none, none]) rfl ?_
  obtain ⟨r, rd, h⟩ := h
  (try simp only [aVar, aC, aSeq, aNext, aDrop, aRet, aRetN, aIfS, aAsg, aName, aPar, aPar3, aGNil, aGCons, aGTup, aOp, aUn, aI0, aI, aU, aTest, aAnd, aOr, aNot, aAndV, aOrV, aNotV, aIf, aCons, aNil, aTup, aLst, aCall, aCallD, aCallK, aCB, aEi, aApp, aRais, aAugI, aSl, aPart, aNoPart, w_slL, w_slS, w_cat, aJs, aFmtS, aFmtI, aJoin, bStr, bI1, bI2, bLenS, Ab.Cl.at.injEq, exists_eq_right, w_tru, w_truI, w_truB, w_truN, w_truS, w_odd1, bne_iff_ne, ne_eq, w_eqI, w_neI, w_eqB, w_neB, w_eqFr, w_neFr, aRevM, aRev1, aCallH, w_eqNilD, w_neNilD, w_ixT, w_ixL, w_elsT, w_atN, w_at0, w_at1, w_at2, w_at3, w_l0, w_l1, w_l2, w_l3, w_l4, w_l5, w_l6, w_l7, w_l8, w_l9, w_l10, w_l11, w_l12, w_t0, w_t1, w_t2, w_t3, w_t4, w_t5, w_t6, w_t7, w_t8, w_ixLC, w_ixTC, w_lenD, w_lenT, w_neNil, w_eqNil, w_ixLis, aDct1, aDct0, aDct0O, aCallN, pickC, List.cons_append, List.nil_append, w_elsTup, aCallR, w_elsFr, w_ixFr, aLstO, w_isiTup, w_isiLis, w_isiInt, w_isiBool, w_isiStr, w_isiDct, w_reprB, w_reprGD, w_tupleD, w_listT, w_listFr, aNeS, aEqS, aNotB, aIsB, eq_self, not_true_eq_false, not_false_eq_true, decide_true, decide_false, Bool.not_true, Bool.not_false, w_forR1, w_intB, w_elsTC, wipeR, aRaw, aTry, List.map_cons, List.map_nil, List.length_cons, List.length_nil, List.set_cons_zero, List.set_cons_succ, List.getElem?_cons_zero, List.getElem?_cons_succ, Option.some.injEq, Ab.Cl.dat.injEq, PyData.int.injEq, PyData.bool.injEq, PyData.str.injEq, PyData.tuple.injEq, List.cons.injEq, and_true, true_and, exists_eq_left, exists_eq_left', exists_and_left, exists_and_right, and_assoc, exists_const, decide_eq_true_eq, Bool.not_eq_true', decide_eq_false_iff_not, Bool.false_eq_true, Bool.true_eq_false, if_true, if_false, reduceIte, reduceCtorEq, false_and, Nat.reduceAdd, Nat.reduceLeDiff])
  refine ⟨r, rd, ?_⟩
  rcases h with ⟨e, k⟩ | ⟨is, m, rfl, sm, k⟩
  · rw [e]
    (try simp only [aVar, aC, aSeq, aNext, aDrop, aRet, aRetN, aIfS, aAsg, aName, aPar, aPar3, aGNil, aGCons, aGTup, aOp, aUn, aI0, aI, aU, aTest, aAnd, aOr, aNot, aAndV, aOrV, aNotV, aIf, aCons, aNil, aTup, aLst, aCall, aCallD, aCallK, aCB, aEi, aApp, aRais, aAugI, aSl, aPart, aNoPart, w_slL, w_slS, w_cat, aJs, aFmtS, aFmtI, aJoin, bStr, bI1, bI2, bLenS, Ab.Cl.at.injEq, exists_eq_right, w_tru, w_truI, w_truB, w_truN, w_truS, w_odd1, bne_iff_ne, ne_eq, w_eqI, w_neI, w_eqB, w_neB, w_eqFr, w_neFr, aRevM, aRev1, aCallH, w_eqNilD, w_neNilD, w_ixT, w_ixL, w_elsT, w_atN, w_at0, w_at1, w_at2, w_at3, w_l0, w_l1, w_l2, w_l3, w_l4, w_l5, w_l6, w_l7, w_l8, w_l9, w_l10, w_l11, w_l12, w_t0, w_t1, w_t2, w_t3, w_t4, w_t5, w_t6, w_t7, w_t8, w_ixLC, w_ixTC, w_lenD, w_lenT, w_neNil, w_eqNil, w_ixLis, aDct1, aDct0, aDct0O, aCallN, pickC, List.cons_append, List.nil_append, w_elsTup, aCallR, w_elsFr, w_ixFr, aLstO, w_isiTup, w_isiLis, w_isiInt, w_isiBool, w_isiStr, w_isiDct, w_reprB, w_reprGD, w_tupleD, w_listT, w_listFr, aNeS, aEqS, aNotB, aIsB, eq_self, not_true_eq_false, not_false_eq_true, decide_true, decide_false, Bool.not_true, Bool.not_false, w_forR1, w_intB, w_elsTC, wipeR, aRaw, aTry, List.map_cons, List.map_nil, List.length_cons, List.length_nil, List.set_cons_zero, List.set_cons_succ, List.getElem?_cons_zero, List.getElem?_cons_succ, Option.some.injEq, Ab.Cl.dat.injEq, PyData.int.injEq, PyData.bool.injEq, PyData.str.injEq, PyData.tuple.injEq, List.cons.injEq, and_true, true_and, exists_eq_left, exists_eq_left', exists_and_left, exists_and_right, and_assoc, exists_const, decide_eq_true_eq, Bool.not_eq_true', decide_eq_false_iff_not, Bool.false_eq_true, Bool.true_eq_false, if_true, if_false, reduceIte, reduceCtorEq, false_and, Nat.reduceAdd, Nat.reduceLeDiff])
    exact k
  · have e : numsR (some (iCl is)) = true := by
      show (iCl is).all numC = true
      rw [intsC_all, intsC_some]; rfl
    rw [e]
    (try simp only [aVar, aC, aSeq, aNext, aDrop, aRet, aRetN, aIfS, aAsg, aName, aPar, aPar3, aGNil, aGCons, aGTup, aOp, aUn, aI0, aI, aU, aTest, aAnd, aOr, aNot, aAndV, aOrV, aNotV, aIf, aCons, aNil, aTup, aLst, aCall, aCallD, aCallK, aCB, aEi, aApp, aRais, aAugI, aSl, aPart, aNoPart, w_slL, w_slS, w_cat, aJs, aFmtS, aFmtI, aJoin, bStr, bI1, bI2, bLenS, Ab.Cl.at.injEq, exists_eq_right, w_tru, w_truI, w_truB, w_truN, w_truS, w_odd1, bne_iff_ne, ne_eq, w_eqI, w_neI, w_eqB, w_neB, w_eqFr, w_neFr, aRevM, aRev1, aCallH, w_eqNilD, w_neNilD, w_ixT, w_ixL, w_elsT, w_atN, w_at0, w_at1, w_at2, w_at3, w_l0, w_l1, w_l2, w_l3, w_l4, w_l5, w_l6, w_l7, w_l8, w_l9, w_l10, w_l11, w_l12, w_t0, w_t1, w_t2, w_t3, w_t4, w_t5, w_t6, w_t7, w_t8, w_ixLC, w_ixTC, w_lenD, w_lenT, w_neNil, w_eqNil, w_ixLis, aDct1, aDct0, aDct0O, aCallN, pickC, List.cons_append, List.nil_append, w_elsTup, aCallR, w_elsFr, w_ixFr, aLstO, w_isiTup, w_isiLis, w_isiInt, w_isiBool, w_isiStr, w_isiDct, w_reprB, w_reprGD, w_tupleD, w_listT, w_listFr, aNeS, aEqS, aNotB, aIsB, eq_self, not_true_eq_false, not_false_eq_true, decide_true, decide_false, Bool.not_true, Bool.not_false, w_forR1, w_intB, w_elsTC, wipeR, aRaw, aTry, List.map_cons, List.map_nil, List.length_cons, List.length_nil, List.set_cons_zero, List.set_cons_succ, List.getElem?_cons_zero, List.getElem?_cons_succ, Option.some.injEq, Ab.Cl.dat.injEq, PyData.int.injEq, PyData.bool.injEq, PyData.str.injEq, PyData.tuple.injEq, List.cons.injEq, and_true, true_and, exists_eq_left, exists_eq_left', exists_and_left, exists_and_right, and_assoc, exists_const, decide_eq_true_eq, Bool.not_eq_true', decide_eq_false_iff_not, Bool.false_eq_true, Bool.true_eq_false, if_true, if_false, reduceIte, reduceCtorEq, false_and, Nat.reduceAdd, Nat.reduceLeDiff])
    refine loop_fold (xs := is) (ec := fun i => .dat (.int i)) rfl rd.sq (fun r v => [some c_terms, some (.dat r.D), v]) Tn.next tnOne none rfl (fun j t u K hj hk => ?_) fun u => ?_
    · (try simp only [aVar, aC, aSeq, aNext, aDrop, aRet, aRetN, aIfS, aAsg, aName, aPar, aPar3, aGNil, aGCons, aGTup, aOp, aUn, aI0, aI, aU, aTest, aAnd, aOr, aNot, aAndV, aOrV, aNotV, aIf, aCons, aNil, aTup, aLst, aCall, aCallD, aCallK, aCB, aEi, aApp, aRais, aAugI, aSl, aPart, aNoPart, w_slL, w_slS, w_cat, aJs, aFmtS, aFmtI, aJoin, bStr, bI1, bI2, bLenS, Ab.Cl.at.injEq, exists_eq_right, w_tru, w_truI, w_truB, w_truN, w_truS, w_odd1, bne_iff_ne, ne_eq, w_eqI, w_neI, w_eqB, w_neB, w_eqFr, w_neFr, aRevM, aRev1, aCallH, w_eqNilD, w_neNilD, w_ixT, w_ixL, w_elsT, w_atN, w_at0, w_at1, w_at2, w_at3, w_l0, w_l1, w_l2, w_l3, w_l4, w_l5, w_l6, w_l7, w_l8, w_l9, w_l10, w_l11, w_l12, w_t0, w_t1, w_t2, w_t3, w_t4, w_t5, w_t6, w_t7, w_t8, w_ixLC, w_ixTC, w_lenD, w_lenT, w_neNil, w_eqNil, w_ixLis, aDct1, aDct0, aDct0O, aCallN, pickC, List.cons_append, List.nil_append, w_elsTup, aCallR, w_elsFr, w_ixFr, aLstO, w_isiTup, w_isiLis, w_isiInt, w_isiBool, w_isiStr, w_isiDct, w_reprB, w_reprGD, w_tupleD, w_listT, w_listFr, aNeS, aEqS, aNotB, aIsB, eq_self, not_true_eq_false, not_false_eq_true, decide_true, decide_false, Bool.not_true, Bool.not_false, w_forR1, w_intB, w_elsTC, wipeR, aRaw, aTry, List.map_cons, List.map_nil, List.length_cons, List.length_nil, List.set_cons_zero, List.set_cons_succ, List.getElem?_cons_zero, List.getElem?_cons_succ, Option.some.injEq, Ab.Cl.dat.injEq, PyData.int.injEq, PyData.bool.injEq, PyData.str.injEq, PyData.tuple.injEq, List.cons.injEq, and_true, true_and, exists_eq_left, exists_eq_left', exists_and_left, exists_and_right, and_assoc, exists_const, decide_eq_true_eq, Bool.not_eq_true', decide_eq_false_iff_not, Bool.false_eq_true, Bool.true_eq_false, if_true, if_false, reduceIte, reduceCtorEq, false_and, Nat.reduceAdd, Nat.reduceLeDiff])
      refine ⟨_, t, _, m, rfl, rfl, sm.bound j, sm.t t (List.mem_of_getElem? hj), by omega, sm.m0, sm.sum, ?_⟩
      exact hk _
    · (try simp only [aVar, aC, aSeq, aNext, aDrop, aRet, aRetN, aIfS, aAsg, aName, aPar, aPar3, aGNil, aGCons, aGTup, aOp, aUn, aI0, aI, aU, aTest, aAnd, aOr, aNot, aAndV, aOrV, aNotV, aIf, aCons, aNil, aTup, aLst, aCall, aCallD, aCallK, aCB, aEi, aApp, aRais, aAugI, aSl, aPart, aNoPart, w_slL, w_slS, w_cat, aJs, aFmtS, aFmtI, aJoin, bStr, bI1, bI2, bLenS, Ab.Cl.at.injEq, exists_eq_right, w_tru, w_truI, w_truB, w_truN, w_truS, w_odd1, bne_iff_ne, ne_eq, w_eqI, w_neI, w_eqB, w_neB, w_eqFr, w_neFr, aRevM, aRev1, aCallH, w_eqNilD, w_neNilD, w_ixT, w_ixL, w_elsT, w_atN, w_at0, w_at1, w_at2, w_at3, w_l0, w_l1, w_l2, w_l3, w_l4, w_l5, w_l6, w_l7, w_l8, w_l9, w_l10, w_l11, w_l12, w_t0, w_t1, w_t2, w_t3, w_t4, w_t5, w_t6, w_t7, w_t8, w_ixLC, w_ixTC, w_lenD, w_lenT, w_neNil, w_eqNil, w_ixLis, aDct1, aDct0, aDct0O, aCallN, pickC, List.cons_append, List.nil_append, w_elsTup, aCallR, w_elsFr, w_ixFr, aLstO, w_isiTup, w_isiLis, w_isiInt, w_isiBool, w_isiStr, w_isiDct, w_reprB, w_reprGD, w_tupleD, w_listT, w_listFr, aNeS, aEqS, aNotB, aIsB, eq_self, not_true_eq_false, not_false_eq_true, decide_true, decide_false, Bool.not_true, Bool.not_false, w_forR1, w_intB, w_elsTC, wipeR, aRaw, aTry, List.map_cons, List.map_nil, List.length_cons, List.length_nil, List.set_cons_zero, List.set_cons_succ, List.getElem?_cons_zero, List.getElem?_cons_succ, Option.some.injEq, Ab.Cl.dat.injEq, PyData.int.injEq, PyData.bool.injEq, PyData.str.injEq, PyData.tuple.injEq, List.cons.injEq, and_true, true_and, exists_eq_left, exists_eq_left', exists_and_left, exists_and_right, and_assoc, exists_const, decide_eq_true_eq, Bool.not_eq_true', decide_eq_false_iff_not, Bool.false_eq_true, Bool.true_eq_false, if_true, if_false, reduceIte, reduceCtorEq, false_and, Nat.reduceAdd, Nat.reduceLeDiff])
      exact k
theorem fu_fraction_of (T : Txt K mg) : Fu P w K mg base 5 "fraction_of" ["row"] afFracOf := by
  refine fu_of T.d_fraction_of sc_fraction_of (fun _ _ _ _ _ _ us hl => match us, hl with | [_], _ => rfl) (fun O cs Xf Kc h => match cs, h with | [_], _ => rfl) ?_
  intro f cdv A outer s H E hgd hr
  have F_need_floor_row := fu_need_floor_row (P := P) (w := w) (base := base) T
  have F_turn_of := fu_turn_of (P := P) (w := w) (base := base) T
  refine ⟨_, (dss_cons (ds_expr (de_callV F_need_floor_row (takes_of rfl rfl rfl rfl) (hr.mono (by decide)) rfl (da_cons (dv 0) da_nil)))
 (dss_cons (ds_set (i := 1) sc_fraction_of.nd rfl (Or.inl rfl) (de_callV F_turn_of (takes_of rfl rfl rfl rfl) (hr.mono (by decide)) rfl (da_cons (dv 0) da_nil)))
 (dss_one (ds_ret (de_tup (da_cons (de_ix ix_tup sr_ixT (de_ix ix_tup sr_ixT (dv 1) de_int (fun _ _ => rfl)) de_int (fun _ _ => rfl)) (da_cons (de_ix ix_tup sr_ixT (de_ix ix_tup sr_ixT (dv 1) de_int (fun _ _ => rfl)) de_int (fun _ _ => rfl)) da_nil))))))), ?_⟩
  intro O cs Xf Kc h
  obtain ⟨c_row, rfl⟩ : ∃ c_row, cs = [c_row] := match cs, h with | [c_row], _ => ⟨c_row, rfl⟩
  refine rho_is (ρ' := [some c_row, none]) rfl ?_
  obtain ⟨r, rd, h⟩ := h
  (try simp only [aVar, aC, aSeq, aNext, aDrop, aRet, aRetN, aIfS, aAsg, aName, aPar, aPar3, aGNil, aGCons, aGTup, aOp, aUn, aI0, aI, aU, aTest, aAnd, aOr, aNot, aAndV, aOrV, aNotV, aIf, aCons, aNil, aTup, aLst, aCall, aCallD, aCallK, aCB, aEi, aApp, aRais, aAugI, aSl, aPart, aNoPart, w_slL, w_slS, w_cat, aJs, aFmtS, aFmtI, aJoin, bStr, bI1, bI2, bLenS, Ab.Cl.at.injEq, exists_eq_right, w_tru, w_truI, w_truB, w_truN, w_truS, w_odd1, bne_iff_ne, ne_eq, w_eqI, w_neI, w_eqB, w_neB, w_eqFr, w_neFr, aRevM, aRev1, aCallH, w_eqNilD, w_neNilD, w_ixT, w_ixL, w_elsT, w_atN, w_at0, w_at1, w_at2, w_at3, w_l0, w_l1, w_l2, w_l3, w_l4, w_l5, w_l6, w_l7, w_l8, w_l9, w_l10, w_l11, w_l12, w_t0, w_t1, w_t2, w_t3, w_t4, w_t5, w_t6, w_t7, w_t8, w_ixLC, w_ixTC, w_lenD, w_lenT, w_neNil, w_eqNil, w_ixLis, aDct1, aDct0, aDct0O, aCallN, pickC, List.cons_append, List.nil_append, w_elsTup, aCallR, w_elsFr, w_ixFr, aLstO, w_isiTup, w_isiLis, w_isiInt, w_isiBool, w_isiStr, w_isiDct, w_reprB, w_reprGD, w_tupleD, w_listT, w_listFr, aNeS, aEqS, aNotB, aIsB, eq_self, not_true_eq_false, not_false_eq_true, decide_true, decide_false, Bool.not_true, Bool.not_false, w_forR1, w_intB, w_elsTC, wipeR, aRaw, aTry, List.map_cons, List.map_nil, List.length_cons, List.length_nil, List.set_cons_zero, List.set_cons_succ, List.getElem?_cons_zero, List.getElem?_cons_succ, Option.some.injEq, Ab.Cl.dat.injEq, PyData.int.injEq, PyData.bool.injEq, PyData.str.injEq, PyData.tuple.injEq, List.cons.injEq, and_true, true_and, exists_eq_left, exists_eq_left', exists_and_left, exists_and_right, and_assoc, exists_const, decide_eq_true_eq, Bool.not_eq_true', decide_eq_false_iff_not, Bool.false_eq_true, Bool.true_eq_false, if_true, if_false, reduceIte, reduceCtorEq, false_and, Nat.reduceAdd, Nat.reduceLeDiff])
  refine ⟨r, rd, ?_⟩
  rcases h with ⟨e, k⟩ | ⟨is, m, rfl, e, sm, k⟩
  · exact .inl ⟨e, k⟩
  · refine .inr ⟨by rwa [floorR_ints], _, rd, .inr ⟨is, m, rfl, sm, ?_⟩⟩
    (try simp only [aVar, aC, aSeq, aNext, aDrop, aRet, aRetN, aIfS, aAsg, aName, aPar, aPar3, aGNil, aGCons, aGTup, aOp, aUn, aI0, aI, aU, aTest, aAnd, aOr, aNot, aAndV, aOrV, aNotV, aIf, aCons, aNil, aTup, aLst, aCall, aCallD, aCallK, aCB, aEi, aApp, aRais, aAugI, aSl, aPart, aNoPart, w_slL, w_slS, w_cat, aJs, aFmtS, aFmtI, aJoin, bStr, bI1, bI2, bLenS, Ab.Cl.at.injEq, exists_eq_right, w_tru, w_truI, w_truB, w_truN, w_truS, w_odd1, bne_iff_ne, ne_eq, w_eqI, w_neI, w_eqB, w_neB, w_eqFr, w_neFr, aRevM, aRev1, aCallH, w_eqNilD, w_neNilD, w_ixT, w_ixL, w_elsT, w_atN, w_at0, w_at1, w_at2, w_at3, w_l0, w_l1, w_l2, w_l3, w_l4, w_l5, w_l6, w_l7, w_l8, w_l9, w_l10, w_l11, w_l12, w_t0, w_t1, w_t2, w_t3, w_t4, w_t5, w_t6, w_t7, w_t8, w_ixLC, w_ixTC, w_lenD, w_lenT, w_neNil, w_eqNil, w_ixLis, aDct1, aDct0, aDct0O, aCallN, pickC, List.cons_append, List.nil_append, w_elsTup, aCallR, w_elsFr, w_ixFr, aLstO, w_isiTup, w_isiLis, w_isiInt, w_isiBool, w_isiStr, w_isiDct, w_reprB, w_reprGD, w_tupleD, w_listT, w_listFr, aNeS, aEqS, aNotB, aIsB, eq_self, not_true_eq_false, not_false_eq_true, decide_true, decide_false, Bool.not_true, Bool.not_false, w_forR1, w_intB, w_elsTC, wipeR, aRaw, aTry, List.map_cons, List.map_nil, List.length_cons, List.length_nil, List.set_cons_zero, List.set_cons_succ, List.getElem?_cons_zero, List.getElem?_cons_succ, Option.some.injEq, Ab.Cl.dat.injEq, PyData.int.injEq, PyData.bool.injEq, PyData.str.injEq, PyData.tuple.injEq, List.cons.injEq, and_true, true_and, exists_eq_left, exists_eq_left', exists_and_left, exists_and_right, and_assoc, exists_const, decide_eq_true_eq, Bool.not_eq_true', decide_eq_false_iff_not, Bool.false_eq_true, Bool.true_eq_false, if_true, if_false, reduceIte, reduceCtorEq, false_and, Nat.reduceAdd, Nat.reduceLeDiff])
    exact k
theorem fu_floor_row (T : Txt K mg) : Fu P w K mg base 5 "floor_row" ["fraction"] afFloorRow := by
  refine fu_of T.d_floor_row sc_floor_row (fun _ _ _ _ _ _ us hl => match us, hl with | [_], _ => rfl) (fun O cs Xf Kc h => match cs, h with | [_], _ => rfl) ?_
  intro f cdv A outer s H E hgd hr
  have F_need_fractions := fu_need_fractions (P := P) (w := w) (base := base) T
  refine ⟨_, (dss_cons (ds_expr (de_callR F_need_fractions (takes_of rfl rfl rfl rfl) (hr.mono (by decide)) rfl (da_cons (dv 0) da_nil)))
 (dss_cons (ds_asg (dv 0) (dg_tup (n := 2) rfl (dgs_cons (dg_name (i := 1) sc_floor_row.nd rfl (Or.inl rfl)) (dgs_cons (dg_name (i := 2) sc_floor_row.nd rfl (Or.inl rfl)) dgs_nil))))
 (dss_cons (ds_set (i := 3) sc_floor_row.nd rfl (Or.inl rfl) (de_lstO da_nil))
 (dss_cons (ds_while (passes_of rfl) (dt_cmp (op_neD hr.units) sr_ne (dv 2) de_int (nomark _)) (dss_cons (ds_expr (de_app (dv 3) (da_cons (de_op op_fdivW sr_fdiv (dv 1) (dv 2)) da_nil)))
 (dss_one (ds_par (i := 1) (j := 2) (by rfl) sc_floor_row.nd rfl rfl (by decide) rfl rfl (da_cons (dv 2) (da_cons (de_op op_mod sr_mod (dv 1) (dv 2)) da_nil)) (by rfl)))))
 (dss_one (ds_ret (dv 3))))))), ?_⟩
  intro O cs Xf Kc h
  obtain ⟨c_fraction, rfl⟩ : ∃ c_fraction, cs = [c_fraction] := match cs, h with | [c_fraction], _ => ⟨c_fraction, rfl⟩
  refine rho_is (ρ' := [some c_fraction, none, none, none]) rfl ?_
  obtain ⟨px, h⟩ := h
  (try simp only [aVar, aC, aSeq, aNext, aDrop, aRet, aRetN, aIfS, aAsg, aName, aPar, aPar3, aGNil, aGCons, aGTup, aOp, aUn, aI0, aI, aU, aTest, aAnd, aOr, aNot, aAndV, aOrV, aNotV, aIf, aCons, aNil, aTup, aLst, aCall, aCallD, aCallK, aCB, aEi, aApp, aRais, aAugI, aSl, aPart, aNoPart, w_slL, w_slS, w_cat, aJs, aFmtS, aFmtI, aJoin, bStr, bI1, bI2, bLenS, Ab.Cl.at.injEq, exists_eq_right, w_tru, w_truI, w_truB, w_truN, w_truS, w_odd1, bne_iff_ne, ne_eq, w_eqI, w_neI, w_eqB, w_neB, w_eqFr, w_neFr, aRevM, aRev1, aCallH, w_eqNilD, w_neNilD, w_ixT, w_ixL, w_elsT, w_atN, w_at0, w_at1, w_at2, w_at3, w_l0, w_l1, w_l2, w_l3, w_l4, w_l5, w_l6, w_l7, w_l8, w_l9, w_l10, w_l11, w_l12, w_t0, w_t1, w_t2, w_t3, w_t4, w_t5, w_t6, w_t7, w_t8, w_ixLC, w_ixTC, w_lenD, w_lenT, w_neNil, w_eqNil, w_ixLis, aDct1, aDct0, aDct0O, aCallN, pickC, List.cons_append, List.nil_append, w_elsTup, aCallR, w_elsFr, w_ixFr, aLstO, w_isiTup, w_isiLis, w_isiInt, w_isiBool, w_isiStr, w_isiDct, w_reprB, w_reprGD, w_tupleD, w_listT, w_listFr, aNeS, aEqS, aNotB, aIsB, eq_self, not_true_eq_false, not_false_eq_true, decide_true, decide_false, Bool.not_true, Bool.not_false, w_forR1, w_intB, w_elsTC, wipeR, aRaw, aTry, List.map_cons, List.map_nil, List.length_cons, List.length_nil, List.set_cons_zero, List.set_cons_succ, List.getElem?_cons_zero, List.getElem?_cons_succ, Option.some.injEq, Ab.Cl.dat.injEq, PyData.int.injEq, PyData.bool.injEq, PyData.str.injEq, PyData.tuple.injEq, List.cons.injEq, and_true, true_and, exists_eq_left, exists_eq_left', exists_and_left, exists_and_right, and_assoc, exists_const, decide_eq_true_eq, Bool.not_eq_true', decide_eq_false_iff_not, Bool.false_eq_true, Bool.true_eq_false, if_true, if_false, reduceIte, reduceCtorEq, false_and, Nat.reduceAdd, Nat.reduceLeDiff])
  refine need1 px ?_
  rcases h with ⟨hf, k⟩ | ⟨is, rfl, hf, hb, hl, k⟩
  · exact .inl ⟨hf, k⟩
  · have fp := floor_pos hf
    refine .inr ⟨fr_true fp.1 fp.2, ?_⟩
    (try simp only [aVar, aC, aSeq, aNext, aDrop, aRet, aRetN, aIfS, aAsg, aName, aPar, aPar3, aGNil, aGCons, aGTup, aOp, aUn, aI0, aI, aU, aTest, aAnd, aOr, aNot, aAndV, aOrV, aNotV, aIf, aCons, aNil, aTup, aLst, aCall, aCallD, aCallK, aCB, aEi, aApp, aRais, aAugI, aSl, aPart, aNoPart, w_slL, w_slS, w_cat, aJs, aFmtS, aFmtI, aJoin, bStr, bI1, bI2, bLenS, Ab.Cl.at.injEq, exists_eq_right, w_tru, w_truI, w_truB, w_truN, w_truS, w_odd1, bne_iff_ne, ne_eq, w_eqI, w_neI, w_eqB, w_neB, w_eqFr, w_neFr, aRevM, aRev1, aCallH, w_eqNilD, w_neNilD, w_ixT, w_ixL, w_elsT, w_atN, w_at0, w_at1, w_at2, w_at3, w_l0, w_l1, w_l2, w_l3, w_l4, w_l5, w_l6, w_l7, w_l8, w_l9, w_l10, w_l11, w_l12, w_t0, w_t1, w_t2, w_t3, w_t4, w_t5, w_t6, w_t7, w_t8, w_ixLC, w_ixTC, w_lenD, w_lenT, w_neNil, w_eqNil, w_ixLis, aDct1, aDct0, aDct0O, aCallN, pickC, List.cons_append, List.nil_append, w_elsTup, aCallR, w_elsFr, w_ixFr, aLstO, w_isiTup, w_isiLis, w_isiInt, w_isiBool, w_isiStr, w_isiDct, w_reprB, w_reprGD, w_tupleD, w_listT, w_listFr, aNeS, aEqS, aNotB, aIsB, eq_self, not_true_eq_false, not_false_eq_true, decide_true, decide_false, Bool.not_true, Bool.not_false, w_forR1, w_intB, w_elsTC, wipeR, aRaw, aTry, List.map_cons, List.map_nil, List.length_cons, List.length_nil, List.set_cons_zero, List.set_cons_succ, List.getElem?_cons_zero, List.getElem?_cons_succ, Option.some.injEq, Ab.Cl.dat.injEq, PyData.int.injEq, PyData.bool.injEq, PyData.str.injEq, PyData.tuple.injEq, List.cons.injEq, and_true, true_and, exists_eq_left, exists_eq_left', exists_and_left, exists_and_right, and_assoc, exists_const, decide_eq_true_eq, Bool.not_eq_true', decide_eq_false_iff_not, Bool.false_eq_true, Bool.true_eq_false, if_true, if_false, reduceIte, reduceCtorEq, false_and, Nat.reduceAdd, Nat.reduceLeDiff])
    intro p
    (try simp only [aVar, aC, aSeq, aNext, aDrop, aRet, aRetN, aIfS, aAsg, aName, aPar, aPar3, aGNil, aGCons, aGTup, aOp, aUn, aI0, aI, aU, aTest, aAnd, aOr, aNot, aAndV, aOrV, aNotV, aIf, aCons, aNil, aTup, aLst, aCall, aCallD, aCallK, aCB, aEi, aApp, aRais, aAugI, aSl, aPart, aNoPart, w_slL, w_slS, w_cat, aJs, aFmtS, aFmtI, aJoin, bStr, bI1, bI2, bLenS, Ab.Cl.at.injEq, exists_eq_right, w_tru, w_truI, w_truB, w_truN, w_truS, w_odd1, bne_iff_ne, ne_eq, w_eqI, w_neI, w_eqB, w_neB, w_eqFr, w_neFr, aRevM, aRev1, aCallH, w_eqNilD, w_neNilD, w_ixT, w_ixL, w_elsT, w_atN, w_at0, w_at1, w_at2, w_at3, w_l0, w_l1, w_l2, w_l3, w_l4, w_l5, w_l6, w_l7, w_l8, w_l9, w_l10, w_l11, w_l12, w_t0, w_t1, w_t2, w_t3, w_t4, w_t5, w_t6, w_t7, w_t8, w_ixLC, w_ixTC, w_lenD, w_lenT, w_neNil, w_eqNil, w_ixLis, aDct1, aDct0, aDct0O, aCallN, pickC, List.cons_append, List.nil_append, w_elsTup, aCallR, w_elsFr, w_ixFr, aLstO, w_isiTup, w_isiLis, w_isiInt, w_isiBool, w_isiStr, w_isiDct, w_reprB, w_reprGD, w_tupleD, w_listT, w_listFr, aNeS, aEqS, aNotB, aIsB, eq_self, not_true_eq_false, not_false_eq_true, decide_true, decide_false, Bool.not_true, Bool.not_false, w_forR1, w_intB, w_elsTC, wipeR, aRaw, aTry, List.map_cons, List.map_nil, List.length_cons, List.length_nil, List.set_cons_zero, List.set_cons_succ, List.getElem?_cons_zero, List.getElem?_cons_succ, Option.some.injEq, Ab.Cl.dat.injEq, PyData.int.injEq, PyData.bool.injEq, PyData.str.injEq, PyData.tuple.injEq, List.cons.injEq, and_true, true_and, exists_eq_left, exists_eq_left', exists_and_left, exists_and_right, and_assoc, exists_const, decide_eq_true_eq, Bool.not_eq_true', decide_eq_false_iff_not, Bool.false_eq_true, Bool.true_eq_false, if_true, if_false, reduceIte, reduceCtorEq, false_and, Nat.reduceAdd, Nat.reduceLeDiff])
    obtain ⟨Wi, hWi⟩ : ∃ Wi : Nat → Ob → Rho → Prop, Wi = fun j O2 ρ2 => ∃ i, i + j = is.length ∧ O2 = (p, .lst (iCl (is.take i))) :: O ∧ ρ2 = [some (.dat (frD (valI is).1 (valI is).2)), some (.dat (.int (valI (is.drop i)).1)), some (.dat (.int (valI (is.drop i)).2)), some (.at p)] := ⟨_, rfl⟩
    refine ⟨Wi, ⟨is.length, by rw [hWi]; exact ⟨0, by omega, rfl, rfl⟩⟩, ?_⟩
    intro j O2 ρ2 hw
    rw [hWi] at hw
    obtain ⟨i, hi, rfl, rfl⟩ := hw
    (try simp only [aVar, aC, aSeq, aNext, aDrop, aRet, aRetN, aIfS, aAsg, aName, aPar, aPar3, aGNil, aGCons, aGTup, aOp, aUn, aI0, aI, aU, aTest, aAnd, aOr, aNot, aAndV, aOrV, aNotV, aIf, aCons, aNil, aTup, aLst, aCall, aCallD, aCallK, aCB, aEi, aApp, aRais, aAugI, aSl, aPart, aNoPart, w_slL, w_slS, w_cat, aJs, aFmtS, aFmtI, aJoin, bStr, bI1, bI2, bLenS, Ab.Cl.at.injEq, exists_eq_right, w_tru, w_truI, w_truB, w_truN, w_truS, w_odd1, bne_iff_ne, ne_eq, w_eqI, w_neI, w_eqB, w_neB, w_eqFr, w_neFr, aRevM, aRev1, aCallH, w_eqNilD, w_neNilD, w_ixT, w_ixL, w_elsT, w_atN, w_at0, w_at1, w_at2, w_at3, w_l0, w_l1, w_l2, w_l3, w_l4, w_l5, w_l6, w_l7, w_l8, w_l9, w_l10, w_l11, w_l12, w_t0, w_t1, w_t2, w_t3, w_t4, w_t5, w_t6, w_t7, w_t8, w_ixLC, w_ixTC, w_lenD, w_lenT, w_neNil, w_eqNil, w_ixLis, aDct1, aDct0, aDct0O, aCallN, pickC, List.cons_append, List.nil_append, w_elsTup, aCallR, w_elsFr, w_ixFr, aLstO, w_isiTup, w_isiLis, w_isiInt, w_isiBool, w_isiStr, w_isiDct, w_reprB, w_reprGD, w_tupleD, w_listT, w_listFr, aNeS, aEqS, aNotB, aIsB, eq_self, not_true_eq_false, not_false_eq_true, decide_true, decide_false, Bool.not_true, Bool.not_false, w_forR1, w_intB, w_elsTC, wipeR, aRaw, aTry, List.map_cons, List.map_nil, List.length_cons, List.length_nil, List.set_cons_zero, List.set_cons_succ, List.getElem?_cons_zero, List.getElem?_cons_succ, Option.some.injEq, Ab.Cl.dat.injEq, PyData.int.injEq, PyData.bool.injEq, PyData.str.injEq, PyData.tuple.injEq, List.cons.injEq, and_true, true_and, exists_eq_left, exists_eq_left', exists_and_left, exists_and_right, and_assoc, exists_const, decide_eq_true_eq, Bool.not_eq_true', decide_eq_false_iff_not, Bool.false_eq_true, Bool.true_eq_false, if_true, if_false, reduceIte, reduceCtorEq, false_and, Nat.reduceAdd, Nat.reduceLeDiff])
    by_cases hz : i = is.length
    · subst hz
      rw [List.drop_length]
      rw [if_neg (by simp [valI])]
      rw [List.take_length]
      exact k p
    · have hil : i < is.length := by omega
      obtain ⟨t, ht⟩ : ∃ t, is[i]? = some t := ⟨_, List.getElem?_eq_getElem hil⟩
      have ed : is.drop i = t :: is.drop (i + 1) := by
        rw [List.drop_eq_getElem_cons hil, (List.getElem?_eq_some_iff.mp ht).2]
      obtain ⟨s1, s2, s3⟩ := val_step (t := t) (floor_drop hf i)
      have vd := val_down hf i hil
      have lg : (valI (is.drop i)).2.natAbs.log2 < 9000 := by
        have h0 := (val_step (t := t) (floor_drop hf i)).2.2
        rw [← ed] at h0
        exact (Nat.log2_lt (by omega)).mpr (Nat.lt_of_le_of_lt (show _ ≤ (valI is).2.natAbs by omega) (upB hb (by decide)))
      rw [← ed] at s1 s2 s3
      rw [if_pos (by omega)]
      refine ⟨⟨_, _, .here⟩, ⟨s3, lg⟩, _, _, .here, by rw [iCl_len, List.length_take]; omega, s3, j - 1, by omega, ?_⟩
      rw [hWi]
      refine ⟨i + 1, by omega, ?_, ?_⟩
      · have et : iCl (is.take (i + 1)) = iCl (is.take i) ++ [.dat (.int t)] := by
          rw [List.take_succ, ht]
          simp [iCl]
        rw [et, s1]
      · have e2 : (valI (is.drop i)).2 = (valI (is.drop (i + 1))).1 := by rw [ed]; rfl
        rw [s2, e2]
/-- the row that is drawn -/
def afRow : AF := fun O cs _ Kc => match cs with
  | [c] => ∃ (p : Addr) (n : Nat) (f : Ow → Ob), c = .at p ∧ Lo O p (.pur n) f ∧ 200 ≤ n ∧ ∀ (is : List Int) (n' : Nat), floorI is = true → is.length ≤ 100 → (∀ t ∈ is, t.natAbs < 2 ^ 40) → n ≤ n' + 120 → Kc (f (.pur n')) (.dat (.list (is.map .int)))
  | _ => False
theorem floor_of {a b : Int} {ts : List Int} (h : ∀ t ∈ ts, 1 ≤ t) (hb : 2 ≤ b) : floorI (a :: ts ++ [b]) = true := by
  unfold floorI
  have e1 : (a :: ts ++ [b]).length = ts.length + 2 := by simp
  have e2 : (a :: ts ++ [b]).getLastD 0 = b := by rw [List.getLastD_eq_getLast?, List.getLast?_append]; rfl
  have e3 : ((a :: ts ++ [b]).drop 1).all (fun t => decide (t ≥ 1)) = true := by
    rw [List.all_eq_true]
    intro t ht
    have ht : t ∈ ts ++ [b] := by simpa using ht
    rcases List.mem_append.mp ht with q | q
    · exact decide_eq_true (h t q)
    · cases List.mem_singleton.mp q
      exact decide_eq_true (by omega)
  rw [e1, e2, e3, decide_eq_false (by omega), decide_eq_false (show ¬ b = 1 by omega)]
  simp
theorem fu_law_row (T : Txt K mg) : Fu P w K mg base 2 "_law_row" ["_law_purse_here"] afRow := by
  refine fu_of T.d_law_row sc_law_row (fun _ _ _ _ _ _ us hl => match us, hl with | [_], _ => rfl) (fun O cs Xf Kc h => match cs, h with | [_], _ => rfl) ?_
  intro f cdv A outer s H E hgd hr
  have F_law_take := ok_take (P := P) (w := w) (base := base) T
  refine ⟨_, (dss_cons (ds_set (i := 1) sc_law_row.nd rfl (Or.inl rfl) (de_ix ix_list sr_ixL (de_lst (da_cons de_int (da_cons de_int (da_cons (de_op op_add sr_add de_int (de_old F_law_take sp_take (hr.mono (by decide)) rfl (da_cons (dv 0) (da_cons de_int da_nil)))) (da_cons (de_op op_add sr_add de_int (de_old F_law_take sp_take (hr.mono (by decide)) rfl (da_cons (dv 0) (da_cons de_int da_nil)))) da_nil))))) (de_old F_law_take sp_take (hr.mono (by decide)) rfl (da_cons (dv 0) (da_cons de_int da_nil))) (fun _ _ => rfl)))
 (dss_cons (ds_set (i := 2) sc_law_row.nd rfl (Or.inr rfl) (de_ix ix_list sr_ixL (de_lst (da_cons de_int (da_cons de_int (da_cons de_int (da_cons (de_op op_pow sr_pow de_int de_int) (da_cons (de_op op_sub sr_sub (de_op op_pow sr_pow de_int de_int) de_int) da_nil)))))) (de_old F_law_take sp_take (hr.mono (by decide)) rfl (da_cons (dv 0) (da_cons de_int da_nil))) (fun _ _ => rfl)))
 (dss_cons (ds_set (i := 3) sc_law_row.nd rfl (Or.inl rfl) (de_ix ix_list sr_ixL (de_lst (da_cons (de_old F_law_take sp_take (hr.mono (by decide)) rfl (da_cons (dv 0) (da_cons (dv 2) da_nil))) (da_cons (de_op op_sub sr_sub (de_un un_neg sr_neg de_int) (de_old F_law_take sp_take (hr.mono (by decide)) rfl (da_cons (dv 0) (da_cons (dv 2) da_nil)))) (da_cons de_int da_nil)))) (de_old F_law_take sp_take (hr.mono (by decide)) rfl (da_cons (dv 0) (da_cons de_int da_nil))) (fun _ _ => rfl)))
 (dss_cons (ds_set (i := 4) sc_law_row.nd rfl (Or.inl rfl) (de_op op_cat sr_cat (de_lst (da_cons (dv 3) da_nil)) (de_lc false (by rfl) sc_law_row.nd (di_r1 (by rfl) T.n_range (da_cons (de_op op_sub sr_sub (dv 1) de_int) da_nil)) (blkOk_by (own := [("_law_k", 5)]) (N := N_law_row) (sc := defScope s_law_row) (by decide +kernel)) (fun _ _ _ _ _ => pg_name (i := 5) sc_law_row.nd rfl (Or.inl rfl)) (fun _ _ _ _ _ => (de_op op_add sr_add de_int (de_old F_law_take sp_take (hr.mono (by decide)) rfl (da_cons (dv 0) (da_cons (dv 2) da_nil))))))))
 (dss_one (ds_ret (de_ifExp (dt_cmp op_gt sr_gt (dv 1) de_int (nomark _)) (de_op op_cat sr_cat (de_slice sl_list sr_slL (dv 4) do_none (do_some (de_un un_neg sr_neg de_int))) (de_lst (da_cons (de_op op_add sr_add (de_ix ix_list sr_ixL (dv 4) (de_un un_neg sr_neg de_int) (fun _ _ => rfl)) de_int) da_nil))) (dv 4)))))))), ?_⟩
  intro O cs Xf Kc h
  obtain ⟨c_law_purse_here, rfl⟩ : ∃ c_law_purse_here, cs = [c_law_purse_here] := match cs, h with | [c_law_purse_here], _ => ⟨c_law_purse_here, rfl⟩
  refine rho_is (ρ' := [some c_law_purse_here, none, none, none, none, none]) rfl ?_
  obtain ⟨p, n, f, rfl, lo, hn, k⟩ := h
  (try simp only [aVar, aC, aSeq, aNext, aDrop, aRet, aRetN, aIfS, aAsg, aName, aPar, aPar3, aGNil, aGCons, aGTup, aOp, aUn, aI0, aI, aU, aTest, aAnd, aOr, aNot, aAndV, aOrV, aNotV, aIf, aCons, aNil, aTup, aLst, aCall, aCallD, aCallK, aCB, aEi, aApp, aRais, aAugI, aSl, aPart, aNoPart, w_slL, w_slS, w_cat, aJs, aFmtS, aFmtI, aJoin, bStr, bI1, bI2, bLenS, Ab.Cl.at.injEq, exists_eq_right, w_tru, w_truI, w_truB, w_truN, w_truS, w_odd1, bne_iff_ne, ne_eq, w_eqI, w_neI, w_eqB, w_neB, w_eqFr, w_neFr, aRevM, aRev1, aCallH, w_eqNilD, w_neNilD, w_ixT, w_ixL, w_elsT, w_atN, w_at0, w_at1, w_at2, w_at3, w_l0, w_l1, w_l2, w_l3, w_l4, w_l5, w_l6, w_l7, w_l8, w_l9, w_l10, w_l11, w_l12, w_t0, w_t1, w_t2, w_t3, w_t4, w_t5, w_t6, w_t7, w_t8, w_ixLC, w_ixTC, w_lenD, w_lenT, w_neNil, w_eqNil, w_ixLis, aDct1, aDct0, aDct0O, aCallN, pickC, List.cons_append, List.nil_append, w_elsTup, aCallR, w_elsFr, w_ixFr, aLstO, w_isiTup, w_isiLis, w_isiInt, w_isiBool, w_isiStr, w_isiDct, w_reprB, w_reprGD, w_tupleD, w_listT, w_listFr, aNeS, aEqS, aNotB, aIsB, eq_self, not_true_eq_false, not_false_eq_true, decide_true, decide_false, Bool.not_true, Bool.not_false, w_forR1, w_intB, w_elsTC, wipeR, aRaw, aTry, List.map_cons, List.map_nil, List.length_cons, List.length_nil, List.set_cons_zero, List.set_cons_succ, List.getElem?_cons_zero, List.getElem?_cons_succ, Option.some.injEq, Ab.Cl.dat.injEq, PyData.int.injEq, PyData.bool.injEq, PyData.str.injEq, PyData.tuple.injEq, List.cons.injEq, and_true, true_and, exists_eq_left, exists_eq_left', exists_and_left, exists_and_right, and_assoc, exists_const, decide_eq_true_eq, Bool.not_eq_true', decide_eq_false_iff_not, Bool.false_eq_true, Bool.true_eq_false, if_true, if_false, reduceIte, reduceCtorEq, false_and, Nat.reduceAdd, Nat.reduceLeDiff])
  refine take_at lo fun r1 a1 b1 => ⟨_, rfl, ?_⟩
  refine take_at lo.next fun r2 a2 b2 => ⟨_, rfl, ?_⟩
  refine take_at lo.next fun r3 a3 b3 => ?_
  (try simp only [aVar, aC, aSeq, aNext, aDrop, aRet, aRetN, aIfS, aAsg, aName, aPar, aPar3, aGNil, aGCons, aGTup, aOp, aUn, aI0, aI, aU, aTest, aAnd, aOr, aNot, aAndV, aOrV, aNotV, aIf, aCons, aNil, aTup, aLst, aCall, aCallD, aCallK, aCB, aEi, aApp, aRais, aAugI, aSl, aPart, aNoPart, w_slL, w_slS, w_cat, aJs, aFmtS, aFmtI, aJoin, bStr, bI1, bI2, bLenS, Ab.Cl.at.injEq, exists_eq_right, w_tru, w_truI, w_truB, w_truN, w_truS, w_odd1, bne_iff_ne, ne_eq, w_eqI, w_neI, w_eqB, w_neB, w_eqFr, w_neFr, aRevM, aRev1, aCallH, w_eqNilD, w_neNilD, w_ixT, w_ixL, w_elsT, w_atN, w_at0, w_at1, w_at2, w_at3, w_l0, w_l1, w_l2, w_l3, w_l4, w_l5, w_l6, w_l7, w_l8, w_l9, w_l10, w_l11, w_l12, w_t0, w_t1, w_t2, w_t3, w_t4, w_t5, w_t6, w_t7, w_t8, w_ixLC, w_ixTC, w_lenD, w_lenT, w_neNil, w_eqNil, w_ixLis, aDct1, aDct0, aDct0O, aCallN, pickC, List.cons_append, List.nil_append, w_elsTup, aCallR, w_elsFr, w_ixFr, aLstO, w_isiTup, w_isiLis, w_isiInt, w_isiBool, w_isiStr, w_isiDct, w_reprB, w_reprGD, w_tupleD, w_listT, w_listFr, aNeS, aEqS, aNotB, aIsB, eq_self, not_true_eq_false, not_false_eq_true, decide_true, decide_false, Bool.not_true, Bool.not_false, w_forR1, w_intB, w_elsTC, wipeR, aRaw, aTry, List.map_cons, List.map_nil, List.length_cons, List.length_nil, List.set_cons_zero, List.set_cons_succ, List.getElem?_cons_zero, List.getElem?_cons_succ, Option.some.injEq, Ab.Cl.dat.injEq, PyData.int.injEq, PyData.bool.injEq, PyData.str.injEq, PyData.tuple.injEq, List.cons.injEq, and_true, true_and, exists_eq_left, exists_eq_left', exists_and_left, exists_and_right, and_assoc, exists_const, decide_eq_true_eq, Bool.not_eq_true', decide_eq_false_iff_not, Bool.false_eq_true, Bool.true_eq_false, if_true, if_false, reduceIte, reduceCtorEq, false_and, Nat.reduceAdd, Nat.reduceLeDiff])
  refine at_any a3 b3 fun c hc => ?_
  obtain ⟨m, rfl, m1, m2⟩ : ∃ m : Int, c = .dat (.int m) ∧ 1 ≤ m ∧ m ≤ 100 := by
    simp only [List.mem_cons, List.not_mem_nil, or_false] at hc
    rcases hc with rfl | rfl | rfl | rfl <;> exact ⟨_, rfl, by omega, by omega⟩
  refine ⟨by unfold CPow; decide, by unfold CPow; decide, take_at lo.next fun r4 a4 b4 => ?_⟩
  (try simp only [aVar, aC, aSeq, aNext, aDrop, aRet, aRetN, aIfS, aAsg, aName, aPar, aPar3, aGNil, aGCons, aGTup, aOp, aUn, aI0, aI, aU, aTest, aAnd, aOr, aNot, aAndV, aOrV, aNotV, aIf, aCons, aNil, aTup, aLst, aCall, aCallD, aCallK, aCB, aEi, aApp, aRais, aAugI, aSl, aPart, aNoPart, w_slL, w_slS, w_cat, aJs, aFmtS, aFmtI, aJoin, bStr, bI1, bI2, bLenS, Ab.Cl.at.injEq, exists_eq_right, w_tru, w_truI, w_truB, w_truN, w_truS, w_odd1, bne_iff_ne, ne_eq, w_eqI, w_neI, w_eqB, w_neB, w_eqFr, w_neFr, aRevM, aRev1, aCallH, w_eqNilD, w_neNilD, w_ixT, w_ixL, w_elsT, w_atN, w_at0, w_at1, w_at2, w_at3, w_l0, w_l1, w_l2, w_l3, w_l4, w_l5, w_l6, w_l7, w_l8, w_l9, w_l10, w_l11, w_l12, w_t0, w_t1, w_t2, w_t3, w_t4, w_t5, w_t6, w_t7, w_t8, w_ixLC, w_ixTC, w_lenD, w_lenT, w_neNil, w_eqNil, w_ixLis, aDct1, aDct0, aDct0O, aCallN, pickC, List.cons_append, List.nil_append, w_elsTup, aCallR, w_elsFr, w_ixFr, aLstO, w_isiTup, w_isiLis, w_isiInt, w_isiBool, w_isiStr, w_isiDct, w_reprB, w_reprGD, w_tupleD, w_listT, w_listFr, aNeS, aEqS, aNotB, aIsB, eq_self, not_true_eq_false, not_false_eq_true, decide_true, decide_false, Bool.not_true, Bool.not_false, w_forR1, w_intB, w_elsTC, wipeR, aRaw, aTry, List.map_cons, List.map_nil, List.length_cons, List.length_nil, List.set_cons_zero, List.set_cons_succ, List.getElem?_cons_zero, List.getElem?_cons_succ, Option.some.injEq, Ab.Cl.dat.injEq, PyData.int.injEq, PyData.bool.injEq, PyData.str.injEq, PyData.tuple.injEq, List.cons.injEq, and_true, true_and, exists_eq_left, exists_eq_left', exists_and_left, exists_and_right, and_assoc, exists_const, decide_eq_true_eq, Bool.not_eq_true', decide_eq_false_iff_not, Bool.false_eq_true, Bool.true_eq_false, if_true, if_false, reduceIte, reduceCtorEq, false_and, Nat.reduceAdd, Nat.reduceLeDiff])
  refine at_any a4 b4 fun c hc => ?_
  obtain ⟨g, rfl, g1, g2⟩ : ∃ m : Int, c = .dat (.int m) ∧ 2 ≤ m ∧ m ≤ 10 ^ 12 - 2 := by
    simp only [List.mem_cons, List.not_mem_nil, or_false] at hc
    rcases hc with rfl | rfl | rfl | rfl | rfl <;> exact ⟨_, rfl, by decide, by decide⟩
  have gs : g.natAbs < 2 ^ 200 := Nat.lt_of_lt_of_le (show g.natAbs < 2 ^ 40 by omega) (by decide)
  refine take_at lo.next (h0 := by omega) (h1 := gs) fun r5 a5 b5 => ?_
  refine take_at lo.next (h0 := by omega) (h1 := gs) fun r6 a6 b6 => ⟨_, rfl, ?_⟩
  refine take_at lo.next fun r7 a7 b7 => ?_
  (try simp only [aVar, aC, aSeq, aNext, aDrop, aRet, aRetN, aIfS, aAsg, aName, aPar, aPar3, aGNil, aGCons, aGTup, aOp, aUn, aI0, aI, aU, aTest, aAnd, aOr, aNot, aAndV, aOrV, aNotV, aIf, aCons, aNil, aTup, aLst, aCall, aCallD, aCallK, aCB, aEi, aApp, aRais, aAugI, aSl, aPart, aNoPart, w_slL, w_slS, w_cat, aJs, aFmtS, aFmtI, aJoin, bStr, bI1, bI2, bLenS, Ab.Cl.at.injEq, exists_eq_right, w_tru, w_truI, w_truB, w_truN, w_truS, w_odd1, bne_iff_ne, ne_eq, w_eqI, w_neI, w_eqB, w_neB, w_eqFr, w_neFr, aRevM, aRev1, aCallH, w_eqNilD, w_neNilD, w_ixT, w_ixL, w_elsT, w_atN, w_at0, w_at1, w_at2, w_at3, w_l0, w_l1, w_l2, w_l3, w_l4, w_l5, w_l6, w_l7, w_l8, w_l9, w_l10, w_l11, w_l12, w_t0, w_t1, w_t2, w_t3, w_t4, w_t5, w_t6, w_t7, w_t8, w_ixLC, w_ixTC, w_lenD, w_lenT, w_neNil, w_eqNil, w_ixLis, aDct1, aDct0, aDct0O, aCallN, pickC, List.cons_append, List.nil_append, w_elsTup, aCallR, w_elsFr, w_ixFr, aLstO, w_isiTup, w_isiLis, w_isiInt, w_isiBool, w_isiStr, w_isiDct, w_reprB, w_reprGD, w_tupleD, w_listT, w_listFr, aNeS, aEqS, aNotB, aIsB, eq_self, not_true_eq_false, not_false_eq_true, decide_true, decide_false, Bool.not_true, Bool.not_false, w_forR1, w_intB, w_elsTC, wipeR, aRaw, aTry, List.map_cons, List.map_nil, List.length_cons, List.length_nil, List.set_cons_zero, List.set_cons_succ, List.getElem?_cons_zero, List.getElem?_cons_succ, Option.some.injEq, Ab.Cl.dat.injEq, PyData.int.injEq, PyData.bool.injEq, PyData.str.injEq, PyData.tuple.injEq, List.cons.injEq, and_true, true_and, exists_eq_left, exists_eq_left', exists_and_left, exists_and_right, and_assoc, exists_const, decide_eq_true_eq, Bool.not_eq_true', decide_eq_false_iff_not, Bool.false_eq_true, Bool.true_eq_false, if_true, if_false, reduceIte, reduceCtorEq, false_and, Nat.reduceAdd, Nat.reduceLeDiff])
  refine at_any a7 b7 fun c hc => ?_
  obtain ⟨t0, rfl, t1⟩ : ∃ m : Int, c = .dat (.int m) ∧ m.natAbs < 2 ^ 40 := by
    simp only [List.mem_cons, List.not_mem_nil, or_false] at hc
    rcases hc with rfl | rfl | rfl <;> exact ⟨_, rfl, by omega⟩
  refine lc_draws 1 (Pr := fun d => ∃ t : Int, d = .int t ∧ 1 ≤ t ∧ t < 10 ^ 12) (m := m - 1) lo.next (fun K k => ?_) (by omega) (by omega) (by omega) (fun j O' f' n' K hj lo' hc hk => ?_) fun ds n' hd hl hn' => ?_
  · (try simp only [aVar, aC, aSeq, aNext, aDrop, aRet, aRetN, aIfS, aAsg, aName, aPar, aPar3, aGNil, aGCons, aGTup, aOp, aUn, aI0, aI, aU, aTest, aAnd, aOr, aNot, aAndV, aOrV, aNotV, aIf, aCons, aNil, aTup, aLst, aCall, aCallD, aCallK, aCB, aEi, aApp, aRais, aAugI, aSl, aPart, aNoPart, w_slL, w_slS, w_cat, aJs, aFmtS, aFmtI, aJoin, bStr, bI1, bI2, bLenS, Ab.Cl.at.injEq, exists_eq_right, w_tru, w_truI, w_truB, w_truN, w_truS, w_odd1, bne_iff_ne, ne_eq, w_eqI, w_neI, w_eqB, w_neB, w_eqFr, w_neFr, aRevM, aRev1, aCallH, w_eqNilD, w_neNilD, w_ixT, w_ixL, w_elsT, w_atN, w_at0, w_at1, w_at2, w_at3, w_l0, w_l1, w_l2, w_l3, w_l4, w_l5, w_l6, w_l7, w_l8, w_l9, w_l10, w_l11, w_l12, w_t0, w_t1, w_t2, w_t3, w_t4, w_t5, w_t6, w_t7, w_t8, w_ixLC, w_ixTC, w_lenD, w_lenT, w_neNil, w_eqNil, w_ixLis, aDct1, aDct0, aDct0O, aCallN, pickC, List.cons_append, List.nil_append, w_elsTup, aCallR, w_elsFr, w_ixFr, aLstO, w_isiTup, w_isiLis, w_isiInt, w_isiBool, w_isiStr, w_isiDct, w_reprB, w_reprGD, w_tupleD, w_listT, w_listFr, aNeS, aEqS, aNotB, aIsB, eq_self, not_true_eq_false, not_false_eq_true, decide_true, decide_false, Bool.not_true, Bool.not_false, w_forR1, w_intB, w_elsTC, wipeR, aRaw, aTry, List.map_cons, List.map_nil, List.length_cons, List.length_nil, List.set_cons_zero, List.set_cons_succ, List.getElem?_cons_zero, List.getElem?_cons_succ, Option.some.injEq, Ab.Cl.dat.injEq, PyData.int.injEq, PyData.bool.injEq, PyData.str.injEq, PyData.tuple.injEq, List.cons.injEq, and_true, true_and, exists_eq_left, exists_eq_left', exists_and_left, exists_and_right, and_assoc, exists_const, decide_eq_true_eq, Bool.not_eq_true', decide_eq_false_iff_not, Bool.false_eq_true, Bool.true_eq_false, if_true, if_false, reduceIte, reduceCtorEq, false_and, Nat.reduceAdd, Nat.reduceLeDiff])
    exact k
  · simp only [wipeR, aVar, aC, aSeq, aNext, aDrop, aRet, aRetN, aIfS, aAsg, aName, aPar, aPar3, aGNil, aGCons, aGTup, aOp, aUn, aI0, aI, aU, aTest, aAnd, aOr, aNot, aAndV, aOrV, aNotV, aIf, aCons, aNil, aTup, aLst, aCall, aCallD, aCallK, aCB, aEi, aApp, aRais, aAugI, aSl, aPart, aNoPart, w_slL, w_slS, w_cat, aJs, aFmtS, aFmtI, aJoin, bStr, bI1, bI2, bLenS, Ab.Cl.at.injEq, exists_eq_right, w_tru, w_truI, w_truB, w_truN, w_truS, w_odd1, bne_iff_ne, ne_eq, w_eqI, w_neI, w_eqB, w_neB, w_eqFr, w_neFr, aRevM, aRev1, aCallH, w_eqNilD, w_neNilD, w_ixT, w_ixL, w_elsT, w_atN, w_at0, w_at1, w_at2, w_at3, w_l0, w_l1, w_l2, w_l3, w_l4, w_l5, w_l6, w_l7, w_l8, w_l9, w_l10, w_l11, w_l12, w_t0, w_t1, w_t2, w_t3, w_t4, w_t5, w_t6, w_t7, w_t8, w_ixLC, w_ixTC, w_lenD, w_lenT, w_neNil, w_eqNil, w_ixLis, aDct1, aDct0, aDct0O, aCallN, pickC, List.cons_append, List.nil_append, w_elsTup, aCallR, w_elsFr, w_ixFr, aLstO, w_isiTup, w_isiLis, w_isiInt, w_isiBool, w_isiStr, w_isiDct, w_reprB, w_reprGD, w_tupleD, w_listT, w_listFr, aNeS, aEqS, aNotB, aIsB, eq_self, not_true_eq_false, not_false_eq_true, decide_true, decide_false, Bool.not_true, Bool.not_false, w_forR1, w_intB, w_elsTC, wipeR, aRaw, aTry, List.map_cons, List.map_nil, List.length_cons, List.length_nil, List.set_cons_zero, List.set_cons_succ, List.getElem?_cons_zero, List.getElem?_cons_succ, Option.some.injEq, Ab.Cl.dat.injEq, PyData.int.injEq, PyData.bool.injEq, PyData.str.injEq, PyData.tuple.injEq, List.cons.injEq, and_true, true_and, exists_eq_left, exists_eq_left', exists_and_left, exists_and_right, and_assoc, exists_const, decide_eq_true_eq, Bool.not_eq_true', decide_eq_false_iff_not, Bool.false_eq_true, Bool.true_eq_false, if_true, if_false, reduceIte, reduceCtorEq, false_and, Nat.reduceAdd, Nat.reduceLeDiff]
    refine take_at lo' (h0 := by omega) (h1 := gs) fun r a b => ⟨_, rfl, ?_⟩
    exact hk _ _ ⟨_, rfl, by omega, by omega⟩ (by omega)
  · obtain ⟨ts, rfl, hts⟩ := ds_ints hd
    rw [List.length_map] at hl
    (try simp only [aVar, aC, aSeq, aNext, aDrop, aRet, aRetN, aIfS, aAsg, aName, aPar, aPar3, aGNil, aGCons, aGTup, aOp, aUn, aI0, aI, aU, aTest, aAnd, aOr, aNot, aAndV, aOrV, aNotV, aIf, aCons, aNil, aTup, aLst, aCall, aCallD, aCallK, aCB, aEi, aApp, aRais, aAugI, aSl, aPart, aNoPart, w_slL, w_slS, w_cat, aJs, aFmtS, aFmtI, aJoin, bStr, bI1, bI2, bLenS, Ab.Cl.at.injEq, exists_eq_right, w_tru, w_truI, w_truB, w_truN, w_truS, w_odd1, bne_iff_ne, ne_eq, w_eqI, w_neI, w_eqB, w_neB, w_eqFr, w_neFr, aRevM, aRev1, aCallH, w_eqNilD, w_neNilD, w_ixT, w_ixL, w_elsT, w_atN, w_at0, w_at1, w_at2, w_at3, w_l0, w_l1, w_l2, w_l3, w_l4, w_l5, w_l6, w_l7, w_l8, w_l9, w_l10, w_l11, w_l12, w_t0, w_t1, w_t2, w_t3, w_t4, w_t5, w_t6, w_t7, w_t8, w_ixLC, w_ixTC, w_lenD, w_lenT, w_neNil, w_eqNil, w_ixLis, aDct1, aDct0, aDct0O, aCallN, pickC, List.cons_append, List.nil_append, w_elsTup, aCallR, w_elsFr, w_ixFr, aLstO, w_isiTup, w_isiLis, w_isiInt, w_isiBool, w_isiStr, w_isiDct, w_reprB, w_reprGD, w_tupleD, w_listT, w_listFr, aNeS, aEqS, aNotB, aIsB, eq_self, not_true_eq_false, not_false_eq_true, decide_true, decide_false, Bool.not_true, Bool.not_false, w_forR1, w_intB, w_elsTC, wipeR, aRaw, aTry, List.map_cons, List.map_nil, List.length_cons, List.length_nil, List.set_cons_zero, List.set_cons_succ, List.getElem?_cons_zero, List.getElem?_cons_succ, Option.some.injEq, Ab.Cl.dat.injEq, PyData.int.injEq, PyData.bool.injEq, PyData.str.injEq, PyData.tuple.injEq, List.cons.injEq, and_true, true_and, exists_eq_left, exists_eq_left', exists_and_left, exists_and_right, and_assoc, exists_const, decide_eq_true_eq, Bool.not_eq_true', decide_eq_false_iff_not, Bool.false_eq_true, Bool.true_eq_false, if_true, if_false, reduceIte, reduceCtorEq, false_and, Nat.reduceAdd, Nat.reduceLeDiff])
    refine ⟨by simp; omega, ?_⟩
    (try simp only [aVar, aC, aSeq, aNext, aDrop, aRet, aRetN, aIfS, aAsg, aName, aPar, aPar3, aGNil, aGCons, aGTup, aOp, aUn, aI0, aI, aU, aTest, aAnd, aOr, aNot, aAndV, aOrV, aNotV, aIf, aCons, aNil, aTup, aLst, aCall, aCallD, aCallK, aCB, aEi, aApp, aRais, aAugI, aSl, aPart, aNoPart, w_slL, w_slS, w_cat, aJs, aFmtS, aFmtI, aJoin, bStr, bI1, bI2, bLenS, Ab.Cl.at.injEq, exists_eq_right, w_tru, w_truI, w_truB, w_truN, w_truS, w_odd1, bne_iff_ne, ne_eq, w_eqI, w_neI, w_eqB, w_neB, w_eqFr, w_neFr, aRevM, aRev1, aCallH, w_eqNilD, w_neNilD, w_ixT, w_ixL, w_elsT, w_atN, w_at0, w_at1, w_at2, w_at3, w_l0, w_l1, w_l2, w_l3, w_l4, w_l5, w_l6, w_l7, w_l8, w_l9, w_l10, w_l11, w_l12, w_t0, w_t1, w_t2, w_t3, w_t4, w_t5, w_t6, w_t7, w_t8, w_ixLC, w_ixTC, w_lenD, w_lenT, w_neNil, w_eqNil, w_ixLis, aDct1, aDct0, aDct0O, aCallN, pickC, List.cons_append, List.nil_append, w_elsTup, aCallR, w_elsFr, w_ixFr, aLstO, w_isiTup, w_isiLis, w_isiInt, w_isiBool, w_isiStr, w_isiDct, w_reprB, w_reprGD, w_tupleD, w_listT, w_listFr, aNeS, aEqS, aNotB, aIsB, eq_self, not_true_eq_false, not_false_eq_true, decide_true, decide_false, Bool.not_true, Bool.not_false, w_forR1, w_intB, w_elsTC, wipeR, aRaw, aTry, List.map_cons, List.map_nil, List.length_cons, List.length_nil, List.set_cons_zero, List.set_cons_succ, List.getElem?_cons_zero, List.getElem?_cons_succ, Option.some.injEq, Ab.Cl.dat.injEq, PyData.int.injEq, PyData.bool.injEq, PyData.str.injEq, PyData.tuple.injEq, List.cons.injEq, and_true, true_and, exists_eq_left, exists_eq_left', exists_and_left, exists_and_right, and_assoc, exists_const, decide_eq_true_eq, Bool.not_eq_true', decide_eq_false_iff_not, Bool.false_eq_true, Bool.true_eq_false, if_true, if_false, reduceIte, reduceCtorEq, false_and, Nat.reduceAdd, Nat.reduceLeDiff])
    by_cases h1 : 1 < m
    · rw [if_pos h1]
      obtain ⟨us, b, rfl⟩ : ∃ us b, ts = us ++ [b] := by
        rcases List.eq_nil_or_concat ts with e | ⟨us, b, e⟩
        · rw [e] at hl; simp at hl; omega
        · exact ⟨us, b, by rw [e]; simp⟩
      have hb := hts b (by simp)
      have e1 : PyData.int t0 :: (us ++ [b]).map PyData.int = (t0 :: us).map PyData.int ++ [.int b] := by simp
      rw [e1, cut_last, List.dropLast_concat]
      rw [List.length_append, List.length_singleton] at hl
      have e2 : Ab.Cl.dat (.int t0) :: ((us ++ [b]).map PyData.int).map Ab.Cl.dat = ((t0 :: us).map PyData.int ++ [PyData.int b]).map .dat := by simp
      rw [e2]
      refine ⟨.dat (.int b), ?_, _, rfl, by simp; omega, ?_⟩
      · have z := last_ne (is := t0 :: us ++ [b]) (by simp)
        rw [iCl_dat, List.map_append, List.getLastD_eq_getLast?, List.getLast?_append] at z
        exact z
      · have z := k (t0 :: us ++ [b + 1]) n' (floor_of (fun t ht => (hts t (by simp [ht])).1) (by omega)) (by simp; omega) (fun t ht => ?_) (by omega)
        · rw [List.map_append] at z; exact z
        · rcases List.mem_append.mp ht with q | q
          · rcases List.mem_cons.mp q with rfl | q
            · exact t1
            · have := hts t (by simp [q]); omega
          · cases List.mem_singleton.mp q; omega
    · rw [if_neg h1]
      have e0 : ts = [] := List.eq_nil_of_length_eq_zero (by omega)
      subst e0
      exact k [t0] n' (by unfold floorI; simp) (by simp) (fun t ht => by cases List.mem_singleton.mp ht; exact t1) (by omega)
def afVal : AF := fun O cs _ Kc => match cs with
  | [c] => ∃ is : List Int, Els O c (iCl is) ∧ is ≠ [] ∧ ∃ m, (∀ t ∈ is, t.natAbs < 2 ^ m) ∧ 0 < m ∧ (is.length + 1) * (m + 1) ≤ 900000 ∧ Kc O (.dat (frD (valI is).1 (valI is).2))
  | _ => False
theorem fu_law_value (T : Txt K mg) : Fu P w K mg base 1 "_law_value" ["_law_row_here"] afVal := by
  refine fu_of T.d_law_value sc_law_value (fun _ _ _ _ _ _ us hl => match us, hl with | [_], _ => rfl) (fun O cs Xf Kc h => match cs, h with | [_], _ => rfl) ?_
  intro f cdv A outer s H E hgd hr
  refine ⟨_, (dss_cons (ds_par (i := 1) (j := 2) (by rfl) sc_law_value.nd rfl rfl (by decide) rfl rfl (da_cons (de_ix ix_list sr_ixL (dv 0) (de_un un_neg sr_neg de_int) (fun _ _ => rfl)) (da_cons de_int da_nil)) (by rfl))
 (dss_cons (ds_for (passes_of rfl) rfl (di_list (de_rev2 (dv 0))) (dg_name (i := 3) sc_law_value.nd rfl (Or.inl rfl)) (dss_one (ds_par (i := 1) (j := 2) (by rfl) sc_law_value.nd rfl rfl (by decide) rfl rfl (da_cons (de_op op_add sr_add (de_op op_mulW sr_mul (dv 3) (dv 1)) (dv 2)) (da_cons (dv 1) da_nil)) (by rfl))))
 (dss_one (ds_ret (de_tup (da_cons (dv 1) (da_cons (dv 2) da_nil))))))), ?_⟩
  intro O cs Xf Kc h
  obtain ⟨c_law_row_here, rfl⟩ : ∃ c_law_row_here, cs = [c_law_row_here] := match cs, h with | [c_law_row_here], _ => ⟨c_law_row_here, rfl⟩
  refine rho_is (ρ' := [some c_law_row_here, none, none, none]) rfl ?_
  obtain ⟨is, he, hne, m, hb, hm, hl, k⟩ := h
  (try simp only [aVar, aC, aSeq, aNext, aDrop, aRet, aRetN, aIfS, aAsg, aName, aPar, aPar3, aGNil, aGCons, aGTup, aOp, aUn, aI0, aI, aU, aTest, aAnd, aOr, aNot, aAndV, aOrV, aNotV, aIf, aCons, aNil, aTup, aLst, aCall, aCallD, aCallK, aCB, aEi, aApp, aRais, aAugI, aSl, aPart, aNoPart, w_slL, w_slS, w_cat, aJs, aFmtS, aFmtI, aJoin, bStr, bI1, bI2, bLenS, Ab.Cl.at.injEq, exists_eq_right, w_tru, w_truI, w_truB, w_truN, w_truS, w_odd1, bne_iff_ne, ne_eq, w_eqI, w_neI, w_eqB, w_neB, w_eqFr, w_neFr, aRevM, aRev1, aCallH, w_eqNilD, w_neNilD, w_ixT, w_ixL, w_elsT, w_atN, w_at0, w_at1, w_at2, w_at3, w_l0, w_l1, w_l2, w_l3, w_l4, w_l5, w_l6, w_l7, w_l8, w_l9, w_l10, w_l11, w_l12, w_t0, w_t1, w_t2, w_t3, w_t4, w_t5, w_t6, w_t7, w_t8, w_ixLC, w_ixTC, w_lenD, w_lenT, w_neNil, w_eqNil, w_ixLis, aDct1, aDct0, aDct0O, aCallN, pickC, List.cons_append, List.nil_append, w_elsTup, aCallR, w_elsFr, w_ixFr, aLstO, w_isiTup, w_isiLis, w_isiInt, w_isiBool, w_isiStr, w_isiDct, w_reprB, w_reprGD, w_tupleD, w_listT, w_listFr, aNeS, aEqS, aNotB, aIsB, eq_self, not_true_eq_false, not_false_eq_true, decide_true, decide_false, Bool.not_true, Bool.not_false, w_forR1, w_intB, w_elsTC, wipeR, aRaw, aTry, List.map_cons, List.map_nil, List.length_cons, List.length_nil, List.set_cons_zero, List.set_cons_succ, List.getElem?_cons_zero, List.getElem?_cons_succ, Option.some.injEq, Ab.Cl.dat.injEq, PyData.int.injEq, PyData.bool.injEq, PyData.str.injEq, PyData.tuple.injEq, List.cons.injEq, and_true, true_and, exists_eq_left, exists_eq_left', exists_and_left, exists_and_right, and_assoc, exists_const, decide_eq_true_eq, Bool.not_eq_true', decide_eq_false_iff_not, Bool.false_eq_true, Bool.true_eq_false, if_true, if_false, reduceIte, reduceCtorEq, false_and, Nat.reduceAdd, Nat.reduceLeDiff])
  obtain ⟨rs, t, rfl⟩ : ∃ rs t, is = rs ++ [t] := by
    rcases List.eq_nil_or_concat is with e | ⟨us, b, e⟩
    · exact absurd e hne
    · exact ⟨us, b, by rw [e]; simp⟩
  refine w_ixE he (by rw [last_ne hne]) ?_
  simp only [aFor, aItL, aRev2]
  (try simp only [aVar, aC, aSeq, aNext, aDrop, aRet, aRetN, aIfS, aAsg, aName, aPar, aPar3, aGNil, aGCons, aGTup, aOp, aUn, aI0, aI, aU, aTest, aAnd, aOr, aNot, aAndV, aOrV, aNotV, aIf, aCons, aNil, aTup, aLst, aCall, aCallD, aCallK, aCB, aEi, aApp, aRais, aAugI, aSl, aPart, aNoPart, w_slL, w_slS, w_cat, aJs, aFmtS, aFmtI, aJoin, bStr, bI1, bI2, bLenS, Ab.Cl.at.injEq, exists_eq_right, w_tru, w_truI, w_truB, w_truN, w_truS, w_odd1, bne_iff_ne, ne_eq, w_eqI, w_neI, w_eqB, w_neB, w_eqFr, w_neFr, aRevM, aRev1, aCallH, w_eqNilD, w_neNilD, w_ixT, w_ixL, w_elsT, w_atN, w_at0, w_at1, w_at2, w_at3, w_l0, w_l1, w_l2, w_l3, w_l4, w_l5, w_l6, w_l7, w_l8, w_l9, w_l10, w_l11, w_l12, w_t0, w_t1, w_t2, w_t3, w_t4, w_t5, w_t6, w_t7, w_t8, w_ixLC, w_ixTC, w_lenD, w_lenT, w_neNil, w_eqNil, w_ixLis, aDct1, aDct0, aDct0O, aCallN, pickC, List.cons_append, List.nil_append, w_elsTup, aCallR, w_elsFr, w_ixFr, aLstO, w_isiTup, w_isiLis, w_isiInt, w_isiBool, w_isiStr, w_isiDct, w_reprB, w_reprGD, w_tupleD, w_listT, w_listFr, aNeS, aEqS, aNotB, aIsB, eq_self, not_true_eq_false, not_false_eq_true, decide_true, decide_false, Bool.not_true, Bool.not_false, w_forR1, w_intB, w_elsTC, wipeR, aRaw, aTry, List.map_cons, List.map_nil, List.length_cons, List.length_nil, List.set_cons_zero, List.set_cons_succ, List.getElem?_cons_zero, List.getElem?_cons_succ, Option.some.injEq, Ab.Cl.dat.injEq, PyData.int.injEq, PyData.bool.injEq, PyData.str.injEq, PyData.tuple.injEq, List.cons.injEq, and_true, true_and, exists_eq_left, exists_eq_left', exists_and_left, exists_and_right, and_assoc, exists_const, decide_eq_true_eq, Bool.not_eq_true', decide_eq_false_iff_not, Bool.false_eq_true, Bool.true_eq_false, if_true, if_false, reduceIte, reduceCtorEq, false_and, Nat.reduceAdd, Nat.reduceLeDiff])
  refine ⟨_, by rw [← iCl_dat]; exact he, ?_⟩
  have er : ((rs ++ [t]).map PyData.int).dropLast.reverse = rs.reverse.map .int := by simp
  have el : (rs ++ [t]).getLastD 0 = t := by rw [List.getLastD_eq_getLast?, List.getLast?_append]; rfl
  rw [er, el]
  refine ⟨_, .dat _, ?_⟩
  obtain ⟨Wi, hWi⟩ : ∃ Wi : Nat → Ob → Rho → Prop, Wi = fun j O2 ρ2 => O2 = O ∧ ∃ u3, ρ2 = [some c_law_row_here, some (.dat (.int (valI (rs.drop (rs.length - j) ++ [t])).1)), some (.dat (.int (valI (rs.drop (rs.length - j) ++ [t])).2)), u3] := ⟨_, rfl⟩
  have bd : ∀ us : List Int, (∀ u ∈ us, u ∈ rs ++ [t]) → us.length ≤ (rs ++ [t]).length → (valI us).1.natAbs < 2 ^ ((rs ++ [t]).length * (m + 1) + 1) := fun us hu hl => by
    have z := val_bound (m := m) (is := us) fun u h => hb u (hu u h)
    exact upB z.1 (Nat.succ_le_succ (Nat.mul_le_mul_right _ hl))
  refine turns_d Wi (by rw [hWi]; exact ⟨rfl, none, by simp [valI]⟩) ?_ ?_
  · intro j O2 ρ2 d hj hw
    rw [hWi] at hw
    obtain ⟨rfl, u3, rfl⟩ := hw
    rw [List.getElem?_map] at hj
    obtain ⟨u, hu, rfl⟩ := Option.map_eq_some_iff.mp hj
    have hjl : j < rs.length := by have := (List.getElem?_eq_some_iff.mp hu).1; simpa using this
    rw [List.getElem?_reverse hjl] at hu
    have ed : rs.drop (rs.length - (j + 1)) = u :: rs.drop (rs.length - j) := by
      have h1 : rs.length - (j + 1) < rs.length := by omega
      rw [List.drop_eq_getElem_cons h1, show rs.length - (j + 1) + 1 = rs.length - j by omega]
      have h2 : rs.length - 1 - j = rs.length - (j + 1) := by omega
      rw [h2] at hu
      rw [(List.getElem?_eq_some_iff.mp hu).2]
    have hum : u ∈ rs ++ [t] := List.mem_append_left _ (List.mem_of_getElem? hu)
    have z := bd (rs.drop (rs.length - j) ++ [t]) (fun v hv => (List.mem_append.mp hv).elim (fun h => List.mem_append_left _ (List.mem_of_mem_drop h)) fun h => List.mem_append_right _ h) (by
      rw [List.length_append, List.length_append, List.length_drop]; omega)
    (try simp only [aVar, aC, aSeq, aNext, aDrop, aRet, aRetN, aIfS, aAsg, aName, aPar, aPar3, aGNil, aGCons, aGTup, aOp, aUn, aI0, aI, aU, aTest, aAnd, aOr, aNot, aAndV, aOrV, aNotV, aIf, aCons, aNil, aTup, aLst, aCall, aCallD, aCallK, aCB, aEi, aApp, aRais, aAugI, aSl, aPart, aNoPart, w_slL, w_slS, w_cat, aJs, aFmtS, aFmtI, aJoin, bStr, bI1, bI2, bLenS, Ab.Cl.at.injEq, exists_eq_right, w_tru, w_truI, w_truB, w_truN, w_truS, w_odd1, bne_iff_ne, ne_eq, w_eqI, w_neI, w_eqB, w_neB, w_eqFr, w_neFr, aRevM, aRev1, aCallH, w_eqNilD, w_neNilD, w_ixT, w_ixL, w_elsT, w_atN, w_at0, w_at1, w_at2, w_at3, w_l0, w_l1, w_l2, w_l3, w_l4, w_l5, w_l6, w_l7, w_l8, w_l9, w_l10, w_l11, w_l12, w_t0, w_t1, w_t2, w_t3, w_t4, w_t5, w_t6, w_t7, w_t8, w_ixLC, w_ixTC, w_lenD, w_lenT, w_neNil, w_eqNil, w_ixLis, aDct1, aDct0, aDct0O, aCallN, pickC, List.cons_append, List.nil_append, w_elsTup, aCallR, w_elsFr, w_ixFr, aLstO, w_isiTup, w_isiLis, w_isiInt, w_isiBool, w_isiStr, w_isiDct, w_reprB, w_reprGD, w_tupleD, w_listT, w_listFr, aNeS, aEqS, aNotB, aIsB, eq_self, not_true_eq_false, not_false_eq_true, decide_true, decide_false, Bool.not_true, Bool.not_false, w_forR1, w_intB, w_elsTC, wipeR, aRaw, aTry, List.map_cons, List.map_nil, List.length_cons, List.length_nil, List.set_cons_zero, List.set_cons_succ, List.getElem?_cons_zero, List.getElem?_cons_succ, Option.some.injEq, Ab.Cl.dat.injEq, PyData.int.injEq, PyData.bool.injEq, PyData.str.injEq, PyData.tuple.injEq, List.cons.injEq, and_true, true_and, exists_eq_left, exists_eq_left', exists_and_left, exists_and_right, and_assoc, exists_const, decide_eq_true_eq, Bool.not_eq_true', decide_eq_false_iff_not, Bool.false_eq_true, Bool.true_eq_false, if_true, if_false, reduceIte, reduceCtorEq, false_and, Nat.reduceAdd, Nat.reduceLeDiff])
    refine ⟨mulC (hb u hum) z hm (by omega) (by rw [Nat.succ_mul] at hl; omega), ?_⟩
    rw [hWi]
    refine ⟨rfl, some (.dat (.int u)), ?_⟩
    rw [ed]
    rfl
  · intro O2 ρ2 hw
    rw [hWi] at hw
    obtain ⟨rfl, u3, rfl⟩ := hw
    (try simp only [aVar, aC, aSeq, aNext, aDrop, aRet, aRetN, aIfS, aAsg, aName, aPar, aPar3, aGNil, aGCons, aGTup, aOp, aUn, aI0, aI, aU, aTest, aAnd, aOr, aNot, aAndV, aOrV, aNotV, aIf, aCons, aNil, aTup, aLst, aCall, aCallD, aCallK, aCB, aEi, aApp, aRais, aAugI, aSl, aPart, aNoPart, w_slL, w_slS, w_cat, aJs, aFmtS, aFmtI, aJoin, bStr, bI1, bI2, bLenS, Ab.Cl.at.injEq, exists_eq_right, w_tru, w_truI, w_truB, w_truN, w_truS, w_odd1, bne_iff_ne, ne_eq, w_eqI, w_neI, w_eqB, w_neB, w_eqFr, w_neFr, aRevM, aRev1, aCallH, w_eqNilD, w_neNilD, w_ixT, w_ixL, w_elsT, w_atN, w_at0, w_at1, w_at2, w_at3, w_l0, w_l1, w_l2, w_l3, w_l4, w_l5, w_l6, w_l7, w_l8, w_l9, w_l10, w_l11, w_l12, w_t0, w_t1, w_t2, w_t3, w_t4, w_t5, w_t6, w_t7, w_t8, w_ixLC, w_ixTC, w_lenD, w_lenT, w_neNil, w_eqNil, w_ixLis, aDct1, aDct0, aDct0O, aCallN, pickC, List.cons_append, List.nil_append, w_elsTup, aCallR, w_elsFr, w_ixFr, aLstO, w_isiTup, w_isiLis, w_isiInt, w_isiBool, w_isiStr, w_isiDct, w_reprB, w_reprGD, w_tupleD, w_listT, w_listFr, aNeS, aEqS, aNotB, aIsB, eq_self, not_true_eq_false, not_false_eq_true, decide_true, decide_false, Bool.not_true, Bool.not_false, w_forR1, w_intB, w_elsTC, wipeR, aRaw, aTry, List.map_cons, List.map_nil, List.length_cons, List.length_nil, List.set_cons_zero, List.set_cons_succ, List.getElem?_cons_zero, List.getElem?_cons_succ, Option.some.injEq, Ab.Cl.dat.injEq, PyData.int.injEq, PyData.bool.injEq, PyData.str.injEq, PyData.tuple.injEq, List.cons.injEq, and_true, true_and, exists_eq_left, exists_eq_left', exists_and_left, exists_and_right, and_assoc, exists_const, decide_eq_true_eq, Bool.not_eq_true', decide_eq_false_iff_not, Bool.false_eq_true, Bool.true_eq_false, if_true, if_false, reduceIte, reduceCtorEq, false_and, Nat.reduceAdd, Nat.reduceLeDiff])
    have e0 : (rs.reverse.map PyData.int).length = rs.length := by simp
    rw [e0, Nat.sub_self, List.drop_zero]
    exact k
end
end My
namespace My
open PySem PySem.Spec PyProof.Rows L2 Vg Ab
section
variable {P : Program} {w : World} {K : PySem.W.Frag} {mg : Str → Option Value} {base : Heap}
theorem fh_law_very (T : Txt K mg) : FuW P w K mg base 1 "_law_very" ["_law_found", "_law_thing"] afVery := by
  refine fuw_of T.d_law_very sc_law_very (fun _ _ _ _ _ _ us hl => match us, hl with | [_, _], _ => rfl) (fun O cs Xf Kc h => match cs, h with | [_, _], _ => rfl) ?_
  intro f cdv A outer s H hgd hr
  refine ⟨_, (dss_cons (ds_if (dt_val (de_callB cr_isi sb_isi (by rfl) T.n_isinstance (by decide +kernel) (da_cons (dv 1) (da_cons (de_raw (pe_bltn (v := .ty "list") (by rfl) T.n_list (by decide +kernel) rfl)) da_nil)))) (dss_one (ds_expr (de_app (dv 1) (da_cons de_str da_nil)))) dss_nil)
 (dss_cons (ds_if (dt_val (de_callB cr_isi sb_isi (by rfl) T.n_isinstance (by decide +kernel) (da_cons (dv 1) (da_cons (de_raw (pe_bltn (v := .ty "dict") (by rfl) T.n_dict (by decide +kernel) rfl)) da_nil)))) (dss_one (ds_dput hr.units de_int (dv 1) de_str)) dss_nil)
 (dss_one (ds_ret (de_cmp op_eq sr_eqS (de_callB (cr_reprG (b := True) hgd hr.units (fun _ => T.nod)) sb_reprG (by rfl) T.n_repr (by decide +kernel) (da_cons (dv 0) da_nil)) (de_callB (cr_reprG (b := True) hgd hr.units (fun _ => T.nod)) sb_reprG (by rfl) T.n_repr (by decide +kernel) (da_cons (dv 1) da_nil)) (nomark _)))))), ?_⟩
  intro O cs Xf Kc h
  obtain ⟨c_law_found, c_law_thing, rfl⟩ : ∃ c_law_found c_law_thing, cs = [c_law_found, c_law_thing] := match cs, h with | [c_law_found, c_law_thing], _ => ⟨c_law_found, c_law_thing, rfl⟩
  refine rho_is (ρ' := [some c_law_found, some c_law_thing]) rfl ?_
  obtain ⟨rfl, h⟩ := h
  (try simp only [aVar, aC, aSeq, aNext, aDrop, aRet, aRetN, aIfS, aAsg, aName, aPar, aPar3, aGNil, aGCons, aGTup, aOp, aUn, aI0, aI, aU, aTest, aAnd, aOr, aNot, aAndV, aOrV, aNotV, aIf, aCons, aNil, aTup, aLst, aCall, aCallD, aCallK, aCB, aEi, aApp, aRais, aAugI, aSl, aPart, aNoPart, w_slL, w_slS, w_cat, aJs, aFmtS, aFmtI, aJoin, bStr, bI1, bI2, bLenS, Ab.Cl.at.injEq, exists_eq_right, w_tru, w_truI, w_truB, w_truN, w_truS, w_odd1, bne_iff_ne, ne_eq, w_eqI, w_neI, w_eqB, w_neB, w_eqFr, w_neFr, aRevM, aRev1, aCallH, w_eqNilD, w_neNilD, w_ixT, w_ixL, w_elsT, w_atN, w_at0, w_at1, w_at2, w_at3, w_l0, w_l1, w_l2, w_l3, w_l4, w_l5, w_l6, w_l7, w_l8, w_l9, w_l10, w_l11, w_l12, w_t0, w_t1, w_t2, w_t3, w_t4, w_t5, w_t6, w_t7, w_t8, w_ixLC, w_ixTC, w_lenD, w_lenT, w_neNil, w_eqNil, w_ixLis, aDct1, aDct0, aDct0O, aCallN, pickC, List.cons_append, List.nil_append, w_elsTup, aCallR, w_elsFr, w_ixFr, aLstO, w_isiTup, w_isiLis, w_isiInt, w_isiBool, w_isiStr, w_isiDct, w_reprB, w_reprGD, w_tupleD, w_listT, w_listFr, aNeS, aEqS, aNotB, aIsB, eq_self, not_true_eq_false, not_false_eq_true, decide_true, decide_false, Bool.not_true, Bool.not_false, w_forR1, w_intB, w_elsTC, wipeR, aRaw, aTry, List.map_cons, List.map_nil, List.length_cons, List.length_nil, List.set_cons_zero, List.set_cons_succ, List.getElem?_cons_zero, List.getElem?_cons_succ, Option.some.injEq, Ab.Cl.dat.injEq, PyData.int.injEq, PyData.bool.injEq, PyData.str.injEq, PyData.tuple.injEq, List.cons.injEq, and_true, true_and, exists_eq_left, exists_eq_left', exists_and_left, exists_and_right, and_assoc, exists_const, decide_eq_true_eq, Bool.not_eq_true', decide_eq_false_iff_not, Bool.false_eq_true, Bool.true_eq_false, if_true, if_false, reduceIte, reduceCtorEq, false_and, Nat.reduceAdd, Nat.reduceLeDiff])
  rcases h with ⟨e, rfl, h1, h2, hd, tx, k⟩ | ⟨a, es, f, rfl, lo, hl, hd, tx, k⟩ | ⟨a, es, ds, f, rfl, lo, hl, hv, hf, tx, k⟩
  · have k1 : isLisD e = false := by cases e <;> first | rfl | exact absurd rfl (h1 _)
    have k2 : isDctD e = false := by cases e <;> first | rfl | exact absurd rfl (h2 _)
    (try simp only [aVar, aC, aSeq, aNext, aDrop, aRet, aRetN, aIfS, aAsg, aName, aPar, aPar3, aGNil, aGCons, aGTup, aOp, aUn, aI0, aI, aU, aTest, aAnd, aOr, aNot, aAndV, aOrV, aNotV, aIf, aCons, aNil, aTup, aLst, aCall, aCallD, aCallK, aCB, aEi, aApp, aRais, aAugI, aSl, aPart, aNoPart, w_slL, w_slS, w_cat, aJs, aFmtS, aFmtI, aJoin, bStr, bI1, bI2, bLenS, Ab.Cl.at.injEq, exists_eq_right, w_tru, w_truI, w_truB, w_truN, w_truS, w_odd1, bne_iff_ne, ne_eq, w_eqI, w_neI, w_eqB, w_neB, w_eqFr, w_neFr, aRevM, aRev1, aCallH, w_eqNilD, w_neNilD, w_ixT, w_ixL, w_elsT, w_atN, w_at0, w_at1, w_at2, w_at3, w_l0, w_l1, w_l2, w_l3, w_l4, w_l5, w_l6, w_l7, w_l8, w_l9, w_l10, w_l11, w_l12, w_t0, w_t1, w_t2, w_t3, w_t4, w_t5, w_t6, w_t7, w_t8, w_ixLC, w_ixTC, w_lenD, w_lenT, w_neNil, w_eqNil, w_ixLis, aDct1, aDct0, aDct0O, aCallN, pickC, List.cons_append, List.nil_append, w_elsTup, aCallR, w_elsFr, w_ixFr, aLstO, w_isiTup, w_isiLis, w_isiInt, w_isiBool, w_isiStr, w_isiDct, w_reprB, w_reprGD, w_tupleD, w_listT, w_listFr, aNeS, aEqS, aNotB, aIsB, eq_self, not_true_eq_false, not_false_eq_true, decide_true, decide_false, Bool.not_true, Bool.not_false, w_forR1, w_intB, w_elsTC, wipeR, aRaw, aTry, List.map_cons, List.map_nil, List.length_cons, List.length_nil, List.set_cons_zero, List.set_cons_succ, List.getElem?_cons_zero, List.getElem?_cons_succ, Option.some.injEq, Ab.Cl.dat.injEq, PyData.int.injEq, PyData.bool.injEq, PyData.str.injEq, PyData.tuple.injEq, List.cons.injEq, and_true, true_and, exists_eq_left, exists_eq_left', exists_and_left, exists_and_right, and_assoc, exists_const, decide_eq_true_eq, Bool.not_eq_true', decide_eq_false_iff_not, Bool.false_eq_true, Bool.true_eq_false, if_true, if_false, reduceIte, reduceCtorEq, false_and, Nat.reduceAdd, Nat.reduceLeDiff])
    rw [if_neg (by rw [k1]; exact Bool.noConfusion), if_neg (by rw [k2]; exact Bool.noConfusion)]
    exact ⟨tx.g _, tx.g _, k⟩
  · refine w_isiOwn lo.mem ?_
    (try simp only [aVar, aC, aSeq, aNext, aDrop, aRet, aRetN, aIfS, aAsg, aName, aPar, aPar3, aGNil, aGCons, aGTup, aOp, aUn, aI0, aI, aU, aTest, aAnd, aOr, aNot, aAndV, aOrV, aNotV, aIf, aCons, aNil, aTup, aLst, aCall, aCallD, aCallK, aCB, aEi, aApp, aRais, aAugI, aSl, aPart, aNoPart, w_slL, w_slS, w_cat, aJs, aFmtS, aFmtI, aJoin, bStr, bI1, bI2, bLenS, Ab.Cl.at.injEq, exists_eq_right, w_tru, w_truI, w_truB, w_truN, w_truS, w_odd1, bne_iff_ne, ne_eq, w_eqI, w_neI, w_eqB, w_neB, w_eqFr, w_neFr, aRevM, aRev1, aCallH, w_eqNilD, w_neNilD, w_ixT, w_ixL, w_elsT, w_atN, w_at0, w_at1, w_at2, w_at3, w_l0, w_l1, w_l2, w_l3, w_l4, w_l5, w_l6, w_l7, w_l8, w_l9, w_l10, w_l11, w_l12, w_t0, w_t1, w_t2, w_t3, w_t4, w_t5, w_t6, w_t7, w_t8, w_ixLC, w_ixTC, w_lenD, w_lenT, w_neNil, w_eqNil, w_ixLis, aDct1, aDct0, aDct0O, aCallN, pickC, List.cons_append, List.nil_append, w_elsTup, aCallR, w_elsFr, w_ixFr, aLstO, w_isiTup, w_isiLis, w_isiInt, w_isiBool, w_isiStr, w_isiDct, w_reprB, w_reprGD, w_tupleD, w_listT, w_listFr, aNeS, aEqS, aNotB, aIsB, eq_self, not_true_eq_false, not_false_eq_true, decide_true, decide_false, Bool.not_true, Bool.not_false, w_forR1, w_intB, w_elsTC, wipeR, aRaw, aTry, List.map_cons, List.map_nil, List.length_cons, List.length_nil, List.set_cons_zero, List.set_cons_succ, List.getElem?_cons_zero, List.getElem?_cons_succ, Option.some.injEq, Ab.Cl.dat.injEq, PyData.int.injEq, PyData.bool.injEq, PyData.str.injEq, PyData.tuple.injEq, List.cons.injEq, and_true, true_and, exists_eq_left, exists_eq_left', exists_and_left, exists_and_right, and_assoc, exists_const, decide_eq_true_eq, Bool.not_eq_true', decide_eq_false_iff_not, Bool.false_eq_true, Bool.true_eq_false, if_true, if_false, reduceIte, reduceCtorEq, false_and, Nat.reduceAdd, Nat.reduceLeDiff])
    refine ⟨⟨_, _, lo⟩, _, _, lo, by rw [List.length_map]; omega, ?_⟩
    have em : es.map Ab.Cl.dat ++ [Ab.Cl.dat (.str "more")] = (es ++ [PyData.str "more"]).map .dat := by simp
    rw [em]
    have mm := (lo.next (w' := .lst ((es ++ [PyData.str "more"]).map .dat))).mem
    refine ⟨_, _, _, _, rfl, .own mm, kn_dict (.own mm), ?_⟩
    refine ⟨_, rfl, ?_⟩
    rw [if_neg (by decide)]
    refine w_reprG (.at mm (Rdcs.dats _)) (tx.g _) (w_reprG (.at mm (Rdcs.dats _)) (tx.g _) ?_)
    (try simp only [aVar, aC, aSeq, aNext, aDrop, aRet, aRetN, aIfS, aAsg, aName, aPar, aPar3, aGNil, aGCons, aGTup, aOp, aUn, aI0, aI, aU, aTest, aAnd, aOr, aNot, aAndV, aOrV, aNotV, aIf, aCons, aNil, aTup, aLst, aCall, aCallD, aCallK, aCB, aEi, aApp, aRais, aAugI, aSl, aPart, aNoPart, w_slL, w_slS, w_cat, aJs, aFmtS, aFmtI, aJoin, bStr, bI1, bI2, bLenS, Ab.Cl.at.injEq, exists_eq_right, w_tru, w_truI, w_truB, w_truN, w_truS, w_odd1, bne_iff_ne, ne_eq, w_eqI, w_neI, w_eqB, w_neB, w_eqFr, w_neFr, aRevM, aRev1, aCallH, w_eqNilD, w_neNilD, w_ixT, w_ixL, w_elsT, w_atN, w_at0, w_at1, w_at2, w_at3, w_l0, w_l1, w_l2, w_l3, w_l4, w_l5, w_l6, w_l7, w_l8, w_l9, w_l10, w_l11, w_l12, w_t0, w_t1, w_t2, w_t3, w_t4, w_t5, w_t6, w_t7, w_t8, w_ixLC, w_ixTC, w_lenD, w_lenT, w_neNil, w_eqNil, w_ixLis, aDct1, aDct0, aDct0O, aCallN, pickC, List.cons_append, List.nil_append, w_elsTup, aCallR, w_elsFr, w_ixFr, aLstO, w_isiTup, w_isiLis, w_isiInt, w_isiBool, w_isiStr, w_isiDct, w_reprB, w_reprGD, w_tupleD, w_listT, w_listFr, aNeS, aEqS, aNotB, aIsB, eq_self, not_true_eq_false, not_false_eq_true, decide_true, decide_false, Bool.not_true, Bool.not_false, w_forR1, w_intB, w_elsTC, wipeR, aRaw, aTry, List.map_cons, List.map_nil, List.length_cons, List.length_nil, List.set_cons_zero, List.set_cons_succ, List.getElem?_cons_zero, List.getElem?_cons_succ, Option.some.injEq, Ab.Cl.dat.injEq, PyData.int.injEq, PyData.bool.injEq, PyData.str.injEq, PyData.tuple.injEq, List.cons.injEq, and_true, true_and, exists_eq_left, exists_eq_left', exists_and_left, exists_and_right, and_assoc, exists_const, decide_eq_true_eq, Bool.not_eq_true', decide_eq_false_iff_not, Bool.false_eq_true, Bool.true_eq_false, if_true, if_false, reduceIte, reduceCtorEq, false_and, Nat.reduceAdd, Nat.reduceLeDiff])
    exact k
  · refine ⟨_, _, _, _, rfl, .dct lo.mem, kn_list (.dct lo.mem), ?_⟩
    refine ⟨_, rfl, ?_⟩
    rw [if_neg (by decide)]
    refine ⟨_, _, _, _, rfl, .dct lo.mem, kn_dict (.dct lo.mem), ?_⟩
    refine ⟨_, rfl, ?_⟩
    rw [if_pos (by decide)]
    refine ⟨_, rfl, a, es, f, .inr "more", rfl, rfl, lo, by omega, ?_⟩
    have len : ((putC es (.inr "more" : Key) (Ab.Cl.dat (.int 1))).map fun e => kD e.1).length = ds.length := by
      have := congrArg List.length hv
      simpa using this
    have rd : Rdc (f (.dct (putC es (.inr "more" : Key) (Ab.Cl.dat (.int 1))))) (.at a) (.dict (((putC es (.inr "more" : Key) (Ab.Cl.dat (.int 1))).map fun e => kD e.1).zip ds)) := by
      refine .dct lo.next.mem ?_ ?_
      · rw [List.map_fst_zip (by omega)]
      · rw [List.map_snd_zip (by omega), hv]
        exact Rdcs.dats _
    (try simp only [aVar, aC, aSeq, aNext, aDrop, aRet, aRetN, aIfS, aAsg, aName, aPar, aPar3, aGNil, aGCons, aGTup, aOp, aUn, aI0, aI, aU, aTest, aAnd, aOr, aNot, aAndV, aOrV, aNotV, aIf, aCons, aNil, aTup, aLst, aCall, aCallD, aCallK, aCB, aEi, aApp, aRais, aAugI, aSl, aPart, aNoPart, w_slL, w_slS, w_cat, aJs, aFmtS, aFmtI, aJoin, bStr, bI1, bI2, bLenS, Ab.Cl.at.injEq, exists_eq_right, w_tru, w_truI, w_truB, w_truN, w_truS, w_odd1, bne_iff_ne, ne_eq, w_eqI, w_neI, w_eqB, w_neB, w_eqFr, w_neFr, aRevM, aRev1, aCallH, w_eqNilD, w_neNilD, w_ixT, w_ixL, w_elsT, w_atN, w_at0, w_at1, w_at2, w_at3, w_l0, w_l1, w_l2, w_l3, w_l4, w_l5, w_l6, w_l7, w_l8, w_l9, w_l10, w_l11, w_l12, w_t0, w_t1, w_t2, w_t3, w_t4, w_t5, w_t6, w_t7, w_t8, w_ixLC, w_ixTC, w_lenD, w_lenT, w_neNil, w_eqNil, w_ixLis, aDct1, aDct0, aDct0O, aCallN, pickC, List.cons_append, List.nil_append, w_elsTup, aCallR, w_elsFr, w_ixFr, aLstO, w_isiTup, w_isiLis, w_isiInt, w_isiBool, w_isiStr, w_isiDct, w_reprB, w_reprGD, w_tupleD, w_listT, w_listFr, aNeS, aEqS, aNotB, aIsB, eq_self, not_true_eq_false, not_false_eq_true, decide_true, decide_false, Bool.not_true, Bool.not_false, w_forR1, w_intB, w_elsTC, wipeR, aRaw, aTry, List.map_cons, List.map_nil, List.length_cons, List.length_nil, List.set_cons_zero, List.set_cons_succ, List.getElem?_cons_zero, List.getElem?_cons_succ, Option.some.injEq, Ab.Cl.dat.injEq, PyData.int.injEq, PyData.bool.injEq, PyData.str.injEq, PyData.tuple.injEq, List.cons.injEq, and_true, true_and, exists_eq_left, exists_eq_left', exists_and_left, exists_and_right, and_assoc, exists_const, decide_eq_true_eq, Bool.not_eq_true', decide_eq_false_iff_not, Bool.false_eq_true, Bool.true_eq_false, if_true, if_false, reduceIte, reduceCtorEq, false_and, Nat.reduceAdd, Nat.reduceLeDiff])
    refine w_reprG rd (tx.g _) (w_reprG rd (tx.g _) ?_)
    (try simp only [aVar, aC, aSeq, aNext, aDrop, aRet, aRetN, aIfS, aAsg, aName, aPar, aPar3, aGNil, aGCons, aGTup, aOp, aUn, aI0, aI, aU, aTest, aAnd, aOr, aNot, aAndV, aOrV, aNotV, aIf, aCons, aNil, aTup, aLst, aCall, aCallD, aCallK, aCB, aEi, aApp, aRais, aAugI, aSl, aPart, aNoPart, w_slL, w_slS, w_cat, aJs, aFmtS, aFmtI, aJoin, bStr, bI1, bI2, bLenS, Ab.Cl.at.injEq, exists_eq_right, w_tru, w_truI, w_truB, w_truN, w_truS, w_odd1, bne_iff_ne, ne_eq, w_eqI, w_neI, w_eqB, w_neB, w_eqFr, w_neFr, aRevM, aRev1, aCallH, w_eqNilD, w_neNilD, w_ixT, w_ixL, w_elsT, w_atN, w_at0, w_at1, w_at2, w_at3, w_l0, w_l1, w_l2, w_l3, w_l4, w_l5, w_l6, w_l7, w_l8, w_l9, w_l10, w_l11, w_l12, w_t0, w_t1, w_t2, w_t3, w_t4, w_t5, w_t6, w_t7, w_t8, w_ixLC, w_ixTC, w_lenD, w_lenT, w_neNil, w_eqNil, w_ixLis, aDct1, aDct0, aDct0O, aCallN, pickC, List.cons_append, List.nil_append, w_elsTup, aCallR, w_elsFr, w_ixFr, aLstO, w_isiTup, w_isiLis, w_isiInt, w_isiBool, w_isiStr, w_isiDct, w_reprB, w_reprGD, w_tupleD, w_listT, w_listFr, aNeS, aEqS, aNotB, aIsB, eq_self, not_true_eq_false, not_false_eq_true, decide_true, decide_false, Bool.not_true, Bool.not_false, w_forR1, w_intB, w_elsTC, wipeR, aRaw, aTry, List.map_cons, List.map_nil, List.length_cons, List.length_nil, List.set_cons_zero, List.set_cons_succ, List.getElem?_cons_zero, List.getElem?_cons_succ, Option.some.injEq, Ab.Cl.dat.injEq, PyData.int.injEq, PyData.bool.injEq, PyData.str.injEq, PyData.tuple.injEq, List.cons.injEq, and_true, true_and, exists_eq_left, exists_eq_left', exists_and_left, exists_and_right, and_assoc, exists_const, decide_eq_true_eq, Bool.not_eq_true', decide_eq_false_iff_not, Bool.false_eq_true, Bool.true_eq_false, if_true, if_false, reduceIte, reduceCtorEq, false_and, Nat.reduceAdd, Nat.reduceLeDiff])
    exact k
def afRefused : AF := fun O cs _ Kc => match cs with
  | [c] => Pl O c ∧ fracC c = false ∧ afVery O [c, c] (fun _ _ _ => False) Kc
  | _ => False
theorem fu_law_refused (T : Txt K mg) : Fu P w K mg base 6 "_law_refused" ["_law_thing"] afRefused := by
  refine fu_of T.d_law_refused sc_law_refused (fun _ _ _ _ _ _ us hl => match us, hl with | [_], _ => rfl) (fun O cs Xf Kc h => match cs, h with | [_], _ => rfl) ?_
  intro f cdv A outer s H E hgd hr
  have F_floor_row := fu_floor_row (P := P) (w := w) (base := base) T
  have H_law_very := fh_law_very (P := P) (w := w) (base := base) T
  have X_NoFraction := xk_NoFraction (P := P) (w := w) (base := base) T
  refine ⟨_, (dss_cons (ds_try rfl rfl sc_law_refused.nd (fun W pn xe tk own => (dss_one (ds_expr (de_call F_floor_row tk hgd (hr.mono (by decide)) rfl (da_cons (dv 0) da_nil))))) (DH.cons (i := 1) rfl rfl ⟨rfl, by decide, .inl X_NoFraction.hm⟩ (fun a dd oe pn hz hf => (dss_one (ds_ret (de_and (de_callB (call_isX X_NoFraction.E hz hf) (sb_isX (K := K) (x := "NoFraction") (a := a) (dd := dd)) (by rfl) T.n_isinstance (by decide +kernel) (da_cons (dv 1) (da_cons (de_raw (pe_glob (v := .ref (clsA K "TermError")) rfl (hm_TermError T) rfl)) da_nil))) (de_and (de_not (de_callB (call_isX X_NoFraction.E hz hf) (sb_isX (K := K) (x := "NoFraction") (a := a) (dd := dd)) (by rfl) T.n_isinstance (by decide +kernel) (da_cons (dv 1) (da_cons (de_raw (pe_glob (v := .ref (clsA K "NoRow")) rfl (hm_NoRow T) rfl)) da_nil)))) (de_one (de_callH H_law_very hgd (roomS hr (by decide)) rfl (da_cons (de_xf X_NoFraction.xf X_NoFraction.no hz hf (dv 1)) (da_cons (dv 0) da_nil))))))))) (DH.never _)))
 (dss_one (ds_ret de_bl))), ?_⟩
  intro O cs Xf Kc h
  obtain ⟨c_law_thing, rfl⟩ : ∃ c_law_thing, cs = [c_law_thing] := match cs, h with | [c_law_thing], _ => ⟨c_law_thing, rfl⟩
  refine rho_is (ρ' := [some c_law_thing, none]) rfl ?_
  obtain ⟨pl, hf, k⟩ := h
  (try simp only [aVar, aC, aSeq, aNext, aDrop, aRet, aRetN, aIfS, aAsg, aName, aPar, aPar3, aGNil, aGCons, aGTup, aOp, aUn, aI0, aI, aU, aTest, aAnd, aOr, aNot, aAndV, aOrV, aNotV, aIf, aCons, aNil, aTup, aLst, aCall, aCallD, aCallK, aCB, aEi, aApp, aRais, aAugI, aSl, aPart, aNoPart, w_slL, w_slS, w_cat, aJs, aFmtS, aFmtI, aJoin, bStr, bI1, bI2, bLenS, Ab.Cl.at.injEq, exists_eq_right, w_tru, w_truI, w_truB, w_truN, w_truS, w_odd1, bne_iff_ne, ne_eq, w_eqI, w_neI, w_eqB, w_neB, w_eqFr, w_neFr, aRevM, aRev1, aCallH, w_eqNilD, w_neNilD, w_ixT, w_ixL, w_elsT, w_atN, w_at0, w_at1, w_at2, w_at3, w_l0, w_l1, w_l2, w_l3, w_l4, w_l5, w_l6, w_l7, w_l8, w_l9, w_l10, w_l11, w_l12, w_t0, w_t1, w_t2, w_t3, w_t4, w_t5, w_t6, w_t7, w_t8, w_ixLC, w_ixTC, w_lenD, w_lenT, w_neNil, w_eqNil, w_ixLis, aDct1, aDct0, aDct0O, aCallN, pickC, List.cons_append, List.nil_append, w_elsTup, aCallR, w_elsFr, w_ixFr, aLstO, w_isiTup, w_isiLis, w_isiInt, w_isiBool, w_isiStr, w_isiDct, w_reprB, w_reprGD, w_tupleD, w_listT, w_listFr, aNeS, aEqS, aNotB, aIsB, eq_self, not_true_eq_false, not_false_eq_true, decide_true, decide_false, Bool.not_true, Bool.not_false, w_forR1, w_intB, w_elsTC, wipeR, aRaw, aTry, List.map_cons, List.map_nil, List.length_cons, List.length_nil, List.set_cons_zero, List.set_cons_succ, List.getElem?_cons_zero, List.getElem?_cons_succ, Option.some.injEq, Ab.Cl.dat.injEq, PyData.int.injEq, PyData.bool.injEq, PyData.str.injEq, PyData.tuple.injEq, List.cons.injEq, and_true, true_and, exists_eq_left, exists_eq_left', exists_and_left, exists_and_right, and_assoc, exists_const, decide_eq_true_eq, Bool.not_eq_true', decide_eq_false_iff_not, Bool.false_eq_true, Bool.true_eq_false, if_true, if_false, reduceIte, reduceCtorEq, false_and, Nat.reduceAdd, Nat.reduceLeDiff])
  refine ⟨pl, .inl ⟨hf, ?_⟩⟩
  (try simp only [cxOf_K, fldE_NoFraction, fldE_NoRow, w_hsT T.p_NoFraction_NoFraction.em, w_hsF T.p_NoFraction_NoRow.em, w_hsT T.p_NoFraction_TermError.em, w_isX T.p_NoFraction_NoFraction.is, w_isX T.p_NoFraction_NoRow.is, w_isX T.p_NoFraction_TermError.is, AEn.gone, aXf, Ab.Cl.exc.injEq, forall_const, implies_true, Bool.not_true, Bool.not_false, aVar, aC, aSeq, aNext, aDrop, aRet, aRetN, aIfS, aAsg, aName, aPar, aPar3, aGNil, aGCons, aGTup, aOp, aUn, aI0, aI, aU, aTest, aAnd, aOr, aNot, aAndV, aOrV, aNotV, aIf, aCons, aNil, aTup, aLst, aCall, aCallD, aCallK, aCB, aEi, aApp, aRais, aAugI, aSl, aPart, aNoPart, w_slL, w_slS, w_cat, aJs, aFmtS, aFmtI, aJoin, bStr, bI1, bI2, bLenS, Ab.Cl.at.injEq, exists_eq_right, w_tru, w_truI, w_truB, w_truN, w_truS, w_odd1, bne_iff_ne, ne_eq, w_eqI, w_neI, w_eqB, w_neB, w_eqFr, w_neFr, aRevM, aRev1, aCallH, w_eqNilD, w_neNilD, w_ixT, w_ixL, w_elsT, w_atN, w_at0, w_at1, w_at2, w_at3, w_l0, w_l1, w_l2, w_l3, w_l4, w_l5, w_l6, w_l7, w_l8, w_l9, w_l10, w_l11, w_l12, w_t0, w_t1, w_t2, w_t3, w_t4, w_t5, w_t6, w_t7, w_t8, w_ixLC, w_ixTC, w_lenD, w_lenT, w_neNil, w_eqNil, w_ixLis, aDct1, aDct0, aDct0O, aCallN, pickC, List.cons_append, List.nil_append, w_elsTup, aCallR, w_elsFr, w_ixFr, aLstO, w_isiTup, w_isiLis, w_isiInt, w_isiBool, w_isiStr, w_isiDct, w_reprB, w_reprGD, w_tupleD, w_listT, w_listFr, aNeS, aEqS, aNotB, aIsB, eq_self, not_true_eq_false, not_false_eq_true, decide_true, decide_false, Bool.not_true, Bool.not_false, w_forR1, w_intB, w_elsTC, wipeR, aRaw, aTry, List.map_cons, List.map_nil, List.length_cons, List.length_nil, List.set_cons_zero, List.set_cons_succ, List.getElem?_cons_zero, List.getElem?_cons_succ, Option.some.injEq, Ab.Cl.dat.injEq, PyData.int.injEq, PyData.bool.injEq, PyData.str.injEq, PyData.tuple.injEq, List.cons.injEq, and_true, true_and, exists_eq_left, exists_eq_left', exists_and_left, exists_and_right, and_assoc, exists_const, decide_eq_true_eq, Bool.not_eq_true', decide_eq_false_iff_not, Bool.false_eq_true, Bool.true_eq_false, if_true, if_false, reduceIte, reduceCtorEq, false_and, Nat.reduceAdd, Nat.reduceLeDiff])
  exact k
theorem list_ints {O : Ob} {is : List Int} {Kc : KC} (k : Kc O (.dat (.list (is.map .int)))) : bList false O [.dat (.list (is.map .int))] Kc := by
  refine ⟨_, _, rfl, .inl (.dat _), ?_⟩
  rw [if_neg Bool.false_ne_true, lisC_dats]
  exact k
end
end My
namespace My
open PySem PySem.Spec PyProof.Rows L2 Vg Ab
section
variable {P : Program} {w : World} {K : PySem.W.Frag} {mg : Str → Option Value} {base : Heap}
theorem odd_ok : ∀ d ∈ oddD, oddOk5 d = true := by decide +kernel
theorem ok_law (T : Txt K mg) {f : Addr} {fd : FuncData} (F : Fun K "law" "law" s_law f fd) : FnG P w K mg base CX0 10 f fd ["_law_script"] (spLaw K) := by
  refine Ab.law_fng F sc_law fun cdv A outer s H E hgd hr => ?_
  · have F_law_purse := ok_purse (P := P) (w := w) (base := base) T
    have F_law_row := fu_law_row (P := P) (w := w) (base := base) T
    have F_law_value := fu_law_value (P := P) (w := w) (base := base) T
    have F_law_common := ok_common (P := P) (w := w) (base := base) T
    have F_floor_row := fu_floor_row (P := P) (w := w) (base := base) T
    have F_law_odd := ok_odd (P := P) (w := w) (base := base) T
    have F_law_cell := ok_cell (P := P) (w := w) (base := base) T
    have F_law_whole := ok_whole (P := P) (w := w) (base := base) T
    have F_fraction_of := fu_fraction_of (P := P) (w := w) (base := base) T
    have F_is_floor_row := fu_is_floor_row (P := P) (w := w) (base := base) T
    have F_is_fraction := fu_is_fraction (P := P) (w := w) (base := base) T
    have F_law_refused := fu_law_refused (P := P) (w := w) (base := base) T
    refine ⟨_, (dss_cons (ds_for PassesOwn.never rfl (di_r1 (by rfl) T.n_range (da_cons (de_callB (call_max2 rfl) sb_i2 (by rfl) T.n_max (by decide +kernel) (da_cons de_int (da_cons (de_callB (call_min2 rfl) sb_i2 (by rfl) T.n_min (by decide +kernel) (da_cons de_int (da_cons (de_callB call_len_seq sb_len (by rfl) T.n_len PySem.boot_len (da_cons (dv 0) da_nil)) da_nil))) da_nil))) da_nil)) (dg_name (i := 1) sc_law.nd rfl (Or.inl rfl)) (dss_cons (ds_set (i := 2) sc_law.nd rfl (Or.inl rfl) (de_old F_law_purse sp_purse (hr.mono (by decide)) rfl (da_cons (de_old F_law_cell sp_cell (hr.mono (by decide)) rfl (da_cons (dv 0) (da_cons (dv 1) da_nil))) da_nil)))
 (dss_cons (ds_set (i := 3) sc_law.nd rfl (Or.inl rfl) (de_call F_law_row takes_none hgd (hr.mono (by decide)) rfl (da_cons (dv 2) da_nil)))
 (dss_cons (ds_set (i := 4) sc_law.nd rfl (Or.inl rfl) (de_callTy call_list_of sb_list (by rfl) T.n_list (by decide +kernel) (da_cons (dv 3) da_nil)))
 (dss_cons (ds_set (i := 5) sc_law.nd rfl (Or.inl rfl) (de_call F_law_value takes_none hgd (hr.mono (by decide)) rfl (da_cons (dv 3) da_nil)))
 (dss_cons (ds_if (dw_pt (dw_or (dt_cmp op_ne sr_neS (de_callB (cr_reprG (b := True) hgd hr.units (fun _ => T.nod)) sb_reprG (by rfl) T.n_repr (by decide +kernel) (da_cons (de_call F_fraction_of takes_none hgd (hr.mono (by decide)) rfl (da_cons (dv 3) da_nil)) da_nil)) (de_callB (cr_reprG (b := True) hgd hr.units (fun _ => T.nod)) sb_reprG (by rfl) T.n_repr (by decide +kernel) (da_cons (dv 5) da_nil)) (nomark _)) (dw_or (dt_cmp (op_neD hr.units) sr_ne (de_call F_fraction_of takes_none hgd (hr.mono (by decide)) rfl (da_cons (de_callTy call_tuple_of sb_tuple (by rfl) T.n_tuple (by decide +kernel) (da_cons (dv 3) da_nil)) da_nil)) (dv 5) (nomark _)) (dw_or1 (dt_cmp (op_neD hr.units) sr_ne (dv 3) (dv 4) (nomark _)))))) (dss_one (ds_ret de_bl)) dss_nil)
 (dss_cons (ds_for PassesOwn.never rfl (di_r1 (by rfl) T.n_range (da_cons de_int da_nil)) (dg_name (i := 6) sc_law.nd rfl (Or.inl rfl)) (dss_cons (ds_set (i := 7) sc_law.nd rfl (Or.inl rfl) (de_call F_floor_row takes_none hgd (hr.mono (by decide)) rfl (da_cons (dv 5) da_nil)))
 (dss_cons (ds_if (dw_pt (dw_or (dt_not (dt_val (de_callB cr_isi sb_isi (by rfl) T.n_isinstance (by decide +kernel) (da_cons (dv 7) (da_cons (de_raw (pe_bltn (v := .ty "list") (by rfl) T.n_list (by decide +kernel) rfl)) da_nil))))) (dw_or1 (dt_cmp op_ne sr_neS (de_callB (cr_reprG (b := True) hgd hr.units (fun _ => T.nod)) sb_reprG (by rfl) T.n_repr (by decide +kernel) (da_cons (dv 7) da_nil)) (de_callB (cr_reprG (b := True) hgd hr.units (fun _ => T.nod)) sb_reprG (by rfl) T.n_repr (by decide +kernel) (da_cons (dv 4) da_nil)) (nomark _))))) (dss_one (ds_ret de_bl)) dss_nil)
 (dss_one (ds_expr (de_app (dv 7) (da_cons de_int da_nil)))))))
 (dss_cons (ds_par (i := 8) (j := 9) (by rfl) sc_law.nd rfl rfl (by decide) rfl rfl (da_cons (de_old F_law_whole sp_whole (hr.mono (by decide)) rfl (da_cons (dv 2) da_nil)) (da_cons (de_callB (call_max2 rfl) sb_i2 (by rfl) T.n_max (by decide +kernel) (da_cons de_int (da_cons (de_callB call_abs sb_i1 (by rfl) T.n_abs (by decide +kernel) (da_cons (de_old F_law_whole sp_whole (hr.mono (by decide)) rfl (da_cons (dv 2) da_nil)) da_nil)) da_nil))) da_nil)) (by rfl))
 (dss_cons (ds_set (i := 10) sc_law.nd rfl (Or.inl rfl) (de_old F_law_common sp_common (hr.mono (by decide)) rfl (da_cons (dv 8) (da_cons (dv 9) da_nil))))
 (dss_cons (ds_set (i := 7) sc_law.nd rfl (Or.inl rfl) (de_call F_floor_row takes_none hgd (hr.mono (by decide)) rfl (da_cons (de_tup (da_cons (de_op op_fdivW sr_fdiv (dv 8) (dv 10)) (da_cons (de_op op_fdivW sr_fdiv (dv 9) (dv 10)) da_nil))) da_nil)))
 (dss_cons (ds_if (dw_pt (dw_or (dt_not (dt_val (de_callV F_is_floor_row takes_none (hr.mono (by decide)) rfl (da_cons (dv 7) da_nil)))) (dw_or1 (dt_cmp (op_neD hr.units) sr_ne (de_call F_law_value takes_none hgd (hr.mono (by decide)) rfl (da_cons (dv 7) da_nil)) (de_tup (da_cons (de_op op_fdivW sr_fdiv (dv 8) (dv 10)) (da_cons (de_op op_fdivW sr_fdiv (dv 9) (dv 10)) da_nil))) (nomark _))))) (dss_one (ds_ret de_bl)) dss_nil)
 (dss_cons (ds_if (dt_cmp op_ne sr_neS (de_callB (cr_reprG (b := True) hgd hr.units (fun _ => T.nod)) sb_reprG (by rfl) T.n_repr (by decide +kernel) (da_cons (de_call F_fraction_of takes_none hgd (hr.mono (by decide)) rfl (da_cons (dv 7) da_nil)) da_nil)) (de_callB (cr_reprG (b := True) hgd hr.units (fun _ => T.nod)) sb_reprG (by rfl) T.n_repr (by decide +kernel) (da_cons (de_tup (da_cons (de_op op_fdivW sr_fdiv (dv 8) (dv 10)) (da_cons (de_op op_fdivW sr_fdiv (dv 9) (dv 10)) da_nil))) da_nil)) (nomark _)) (dss_one (ds_ret de_bl)) dss_nil)
 (dss_cons (ds_set (i := 11) sc_law.nd rfl (Or.inl rfl) (de_old F_law_odd sp_odd (hr.mono (by decide)) rfl (da_cons (dv 2) da_nil)))
 (dss_one (ds_if (dw_pt (dw_and (dt_not (dt_val (de_callV F_is_fraction takes_none (hr.mono (by decide)) rfl (da_cons (dv 11) da_nil)))) (dw_and1 (dt_not (dt_val (de_call F_law_refused takes_none hgd (hr.mono (by decide)) rfl (da_cons (dv 11) da_nil))))))) (dss_one (ds_ret de_bl)) dss_nil)))))))))))))))
 (dss_one (ds_ret de_bl))), fun ns hns => ?_⟩
    refine rho_is (ρ' := [some (.scr ns), none, none, none, none, none, none, none, none, none, none, none]) rfl ?_
    (try simp only [aVar, aC, aSeq, aNext, aDrop, aRet, aRetN, aIfS, aAsg, aName, aPar, aPar3, aGNil, aGCons, aGTup, aOp, aUn, aI0, aI, aU, aTest, aAnd, aOr, aNot, aAndV, aOrV, aNotV, aIf, aCons, aNil, aTup, aLst, aCall, aCallD, aCallK, aCB, aEi, aApp, aRais, aAugI, aSl, aPart, aNoPart, w_slL, w_slS, w_cat, aJs, aFmtS, aFmtI, aJoin, bStr, bI1, bI2, bLenS, Ab.Cl.at.injEq, exists_eq_right, w_tru, w_truI, w_truB, w_truN, w_truS, w_odd1, bne_iff_ne, ne_eq, w_eqI, w_neI, w_eqB, w_neB, w_eqFr, w_neFr, aRevM, aRev1, aCallH, w_eqNilD, w_neNilD, w_ixT, w_ixL, w_elsT, w_atN, w_at0, w_at1, w_at2, w_at3, w_l0, w_l1, w_l2, w_l3, w_l4, w_l5, w_l6, w_l7, w_l8, w_l9, w_l10, w_l11, w_l12, w_t0, w_t1, w_t2, w_t3, w_t4, w_t5, w_t6, w_t7, w_t8, w_ixLC, w_ixTC, w_lenD, w_lenT, w_neNil, w_eqNil, w_ixLis, aDct1, aDct0, aDct0O, aCallN, pickC, List.cons_append, List.nil_append, w_elsTup, aCallR, w_elsFr, w_ixFr, aLstO, w_isiTup, w_isiLis, w_isiInt, w_isiBool, w_isiStr, w_isiDct, w_reprB, w_reprGD, w_tupleD, w_listT, w_listFr, aNeS, aEqS, aNotB, aIsB, eq_self, not_true_eq_false, not_false_eq_true, decide_true, decide_false, Bool.not_true, Bool.not_false, w_forR1, w_intB, w_elsTC, wipeR, aRaw, aTry, List.map_cons, List.map_nil, List.length_cons, List.length_nil, List.set_cons_zero, List.set_cons_succ, List.getElem?_cons_zero, List.getElem?_cons_succ, Option.some.injEq, Ab.Cl.dat.injEq, PyData.int.injEq, PyData.bool.injEq, PyData.str.injEq, PyData.tuple.injEq, List.cons.injEq, and_true, true_and, exists_eq_left, exists_eq_left', exists_and_left, exists_and_right, and_assoc, exists_const, decide_eq_true_eq, Bool.not_eq_true', decide_eq_false_iff_not, Bool.false_eq_true, Bool.true_eq_false, if_true, if_false, reduceIte, reduceCtorEq, false_and, Nat.reduceAdd, Nat.reduceLeDiff])
    refine law_cells (cap := 15) (fun x => by split <;> split <;> omega) (by decide) (fun ρ2 => ∃ v1 v2 v3 v4 v5 v6 v7 v8 v9 v10 v11, ρ2 = [some (.scr ns), v1, v2, v3, v4, v5, v6, v7, v8, v9, v10, v11]) ⟨_, _, _, _, _, _, _, _, _, _, _, rfl⟩ ?_ ?_
    · rintro k O ρ hk ⟨v1, v2, v3, v4, v5, v6, v7, v8, v9, v10, v11, rfl⟩
      (try simp only [aVar, aC, aSeq, aNext, aDrop, aRet, aRetN, aIfS, aAsg, aName, aPar, aPar3, aGNil, aGCons, aGTup, aOp, aUn, aI0, aI, aU, aTest, aAnd, aOr, aNot, aAndV, aOrV, aNotV, aIf, aCons, aNil, aTup, aLst, aCall, aCallD, aCallK, aCB, aEi, aApp, aRais, aAugI, aSl, aPart, aNoPart, w_slL, w_slS, w_cat, aJs, aFmtS, aFmtI, aJoin, bStr, bI1, bI2, bLenS, Ab.Cl.at.injEq, exists_eq_right, w_tru, w_truI, w_truB, w_truN, w_truS, w_odd1, bne_iff_ne, ne_eq, w_eqI, w_neI, w_eqB, w_neB, w_eqFr, w_neFr, aRevM, aRev1, aCallH, w_eqNilD, w_neNilD, w_ixT, w_ixL, w_elsT, w_atN, w_at0, w_at1, w_at2, w_at3, w_l0, w_l1, w_l2, w_l3, w_l4, w_l5, w_l6, w_l7, w_l8, w_l9, w_l10, w_l11, w_l12, w_t0, w_t1, w_t2, w_t3, w_t4, w_t5, w_t6, w_t7, w_t8, w_ixLC, w_ixTC, w_lenD, w_lenT, w_neNil, w_eqNil, w_ixLis, aDct1, aDct0, aDct0O, aCallN, pickC, List.cons_append, List.nil_append, w_elsTup, aCallR, w_elsFr, w_ixFr, aLstO, w_isiTup, w_isiLis, w_isiInt, w_isiBool, w_isiStr, w_isiDct, w_reprB, w_reprGD, w_tupleD, w_listT, w_listFr, aNeS, aEqS, aNotB, aIsB, eq_self, not_true_eq_false, not_false_eq_true, decide_true, decide_false, Bool.not_true, Bool.not_false, w_forR1, w_intB, w_elsTC, wipeR, aRaw, aTry, List.map_cons, List.map_nil, List.length_cons, List.length_nil, List.set_cons_zero, List.set_cons_succ, List.getElem?_cons_zero, List.getElem?_cons_succ, Option.some.injEq, Ab.Cl.dat.injEq, PyData.int.injEq, PyData.bool.injEq, PyData.str.injEq, PyData.tuple.injEq, List.cons.injEq, and_true, true_and, exists_eq_left, exists_eq_left', exists_and_left, exists_and_right, and_assoc, exists_const, decide_eq_true_eq, Bool.not_eq_true', decide_eq_false_iff_not, Bool.false_eq_true, Bool.true_eq_false, if_true, if_false, reduceIte, reduceCtorEq, false_and, Nat.reduceAdd, Nat.reduceLeDiff])
      refine ⟨ns, _, rfl, by omega, by omega, fun z => ⟨z, rfl, fun p => ?_⟩⟩
      (try simp only [aVar, aC, aSeq, aNext, aDrop, aRet, aRetN, aIfS, aAsg, aName, aPar, aPar3, aGNil, aGCons, aGTup, aOp, aUn, aI0, aI, aU, aTest, aAnd, aOr, aNot, aAndV, aOrV, aNotV, aIf, aCons, aNil, aTup, aLst, aCall, aCallD, aCallK, aCB, aEi, aApp, aRais, aAugI, aSl, aPart, aNoPart, w_slL, w_slS, w_cat, aJs, aFmtS, aFmtI, aJoin, bStr, bI1, bI2, bLenS, Ab.Cl.at.injEq, exists_eq_right, w_tru, w_truI, w_truB, w_truN, w_truS, w_odd1, bne_iff_ne, ne_eq, w_eqI, w_neI, w_eqB, w_neB, w_eqFr, w_neFr, aRevM, aRev1, aCallH, w_eqNilD, w_neNilD, w_ixT, w_ixL, w_elsT, w_atN, w_at0, w_at1, w_at2, w_at3, w_l0, w_l1, w_l2, w_l3, w_l4, w_l5, w_l6, w_l7, w_l8, w_l9, w_l10, w_l11, w_l12, w_t0, w_t1, w_t2, w_t3, w_t4, w_t5, w_t6, w_t7, w_t8, w_ixLC, w_ixTC, w_lenD, w_lenT, w_neNil, w_eqNil, w_ixLis, aDct1, aDct0, aDct0O, aCallN, pickC, List.cons_append, List.nil_append, w_elsTup, aCallR, w_elsFr, w_ixFr, aLstO, w_isiTup, w_isiLis, w_isiInt, w_isiBool, w_isiStr, w_isiDct, w_reprB, w_reprGD, w_tupleD, w_listT, w_listFr, aNeS, aEqS, aNotB, aIsB, eq_self, not_true_eq_false, not_false_eq_true, decide_true, decide_false, Bool.not_true, Bool.not_false, w_forR1, w_intB, w_elsTC, wipeR, aRaw, aTry, List.map_cons, List.map_nil, List.length_cons, List.length_nil, List.set_cons_zero, List.set_cons_succ, List.getElem?_cons_zero, List.getElem?_cons_succ, Option.some.injEq, Ab.Cl.dat.injEq, PyData.int.injEq, PyData.bool.injEq, PyData.str.injEq, PyData.tuple.injEq, List.cons.injEq, and_true, true_and, exists_eq_left, exists_eq_left', exists_and_left, exists_and_right, and_assoc, exists_const, decide_eq_true_eq, Bool.not_eq_true', decide_eq_false_iff_not, Bool.false_eq_true, Bool.true_eq_false, if_true, if_false, reduceIte, reduceCtorEq, false_and, Nat.reduceAdd, Nat.reduceLeDiff])
      refine ⟨p, _, _, rfl, (by repeat (first | exact Lo.here | assumption | exact Lo.next (by assumption) | apply Lo.there)), by omega, fun is n' hf hl hb hn => ?_⟩
      have hne : is ≠ [] := fun e => by subst e; cases hf
      have rdL : ∀ O : Ob, RdA O (.dat (.list (is.map .int))) (some (iCl is)) := fun O => by rw [iCl_dat]; exact rd_list _ (by rw [List.length_map]; omega)
      have rdT : ∀ O : Ob, RdA O (.dat (.tuple (is.map .int))) (some (iCl is)) := fun O => by rw [iCl_dat]; exact rd_tup _ (by rw [List.length_map]; omega)
      have sm : Sml is 40 := ⟨hb, by decide, by omega⟩
      have bV := val_bound hb
      have bV1 := upB (m := 4200) bV.1 (by omega)
      have bV2 := upB (m := 4200) bV.2 (by omega)
      have tx := (tg_fr (k := 4200) bV1 bV2 (by decide) (by decide)).txG
      refine list_ints ?_
      refine ⟨is, by rw [iCl_dat]; exact .dat _, hne, 40, hb, by decide, by omega, ?_⟩
      refine ⟨_, rdL _, .inr ⟨is, 40, rfl, hf, sm, ?_⟩⟩
      rw [(turnI_val is).1, (turnI_val is).2]
      (try simp only [aVar, aC, aSeq, aNext, aDrop, aRet, aRetN, aIfS, aAsg, aName, aPar, aPar3, aGNil, aGCons, aGTup, aOp, aUn, aI0, aI, aU, aTest, aAnd, aOr, aNot, aAndV, aOrV, aNotV, aIf, aCons, aNil, aTup, aLst, aCall, aCallD, aCallK, aCB, aEi, aApp, aRais, aAugI, aSl, aPart, aNoPart, w_slL, w_slS, w_cat, aJs, aFmtS, aFmtI, aJoin, bStr, bI1, bI2, bLenS, Ab.Cl.at.injEq, exists_eq_right, w_tru, w_truI, w_truB, w_truN, w_truS, w_odd1, bne_iff_ne, ne_eq, w_eqI, w_neI, w_eqB, w_neB, w_eqFr, w_neFr, aRevM, aRev1, aCallH, w_eqNilD, w_neNilD, w_ixT, w_ixL, w_elsT, w_atN, w_at0, w_at1, w_at2, w_at3, w_l0, w_l1, w_l2, w_l3, w_l4, w_l5, w_l6, w_l7, w_l8, w_l9, w_l10, w_l11, w_l12, w_t0, w_t1, w_t2, w_t3, w_t4, w_t5, w_t6, w_t7, w_t8, w_ixLC, w_ixTC, w_lenD, w_lenT, w_neNil, w_eqNil, w_ixLis, aDct1, aDct0, aDct0O, aCallN, pickC, List.cons_append, List.nil_append, w_elsTup, aCallR, w_elsFr, w_ixFr, aLstO, w_isiTup, w_isiLis, w_isiInt, w_isiBool, w_isiStr, w_isiDct, w_reprB, w_reprGD, w_tupleD, w_listT, w_listFr, aNeS, aEqS, aNotB, aIsB, eq_self, not_true_eq_false, not_false_eq_true, decide_true, decide_false, Bool.not_true, Bool.not_false, w_forR1, w_intB, w_elsTC, wipeR, aRaw, aTry, List.map_cons, List.map_nil, List.length_cons, List.length_nil, List.set_cons_zero, List.set_cons_succ, List.getElem?_cons_zero, List.getElem?_cons_succ, Option.some.injEq, Ab.Cl.dat.injEq, PyData.int.injEq, PyData.bool.injEq, PyData.str.injEq, PyData.tuple.injEq, List.cons.injEq, and_true, true_and, exists_eq_left, exists_eq_left', exists_and_left, exists_and_right, and_assoc, exists_const, decide_eq_true_eq, Bool.not_eq_true', decide_eq_false_iff_not, Bool.false_eq_true, Bool.true_eq_false, if_true, if_false, reduceIte, reduceCtorEq, false_and, Nat.reduceAdd, Nat.reduceLeDiff])
      refine ⟨tx, tx, ?_⟩
      refine ⟨_, rdT _, .inr ⟨is, 40, rfl, hf, sm, ?_⟩⟩
      rw [(turnI_val is).1, (turnI_val is).2]
      (try simp only [aVar, aC, aSeq, aNext, aDrop, aRet, aRetN, aIfS, aAsg, aName, aPar, aPar3, aGNil, aGCons, aGTup, aOp, aUn, aI0, aI, aU, aTest, aAnd, aOr, aNot, aAndV, aOrV, aNotV, aIf, aCons, aNil, aTup, aLst, aCall, aCallD, aCallK, aCB, aEi, aApp, aRais, aAugI, aSl, aPart, aNoPart, w_slL, w_slS, w_cat, aJs, aFmtS, aFmtI, aJoin, bStr, bI1, bI2, bLenS, Ab.Cl.at.injEq, exists_eq_right, w_tru, w_truI, w_truB, w_truN, w_truS, w_odd1, bne_iff_ne, ne_eq, w_eqI, w_neI, w_eqB, w_neB, w_eqFr, w_neFr, aRevM, aRev1, aCallH, w_eqNilD, w_neNilD, w_ixT, w_ixL, w_elsT, w_atN, w_at0, w_at1, w_at2, w_at3, w_l0, w_l1, w_l2, w_l3, w_l4, w_l5, w_l6, w_l7, w_l8, w_l9, w_l10, w_l11, w_l12, w_t0, w_t1, w_t2, w_t3, w_t4, w_t5, w_t6, w_t7, w_t8, w_ixLC, w_ixTC, w_lenD, w_lenT, w_neNil, w_eqNil, w_ixLis, aDct1, aDct0, aDct0O, aCallN, pickC, List.cons_append, List.nil_append, w_elsTup, aCallR, w_elsFr, w_ixFr, aLstO, w_isiTup, w_isiLis, w_isiInt, w_isiBool, w_isiStr, w_isiDct, w_reprB, w_reprGD, w_tupleD, w_listT, w_listFr, aNeS, aEqS, aNotB, aIsB, eq_self, not_true_eq_false, not_false_eq_true, decide_true, decide_false, Bool.not_true, Bool.not_false, w_forR1, w_intB, w_elsTC, wipeR, aRaw, aTry, List.map_cons, List.map_nil, List.length_cons, List.length_nil, List.set_cons_zero, List.set_cons_succ, List.getElem?_cons_zero, List.getElem?_cons_succ, Option.some.injEq, Ab.Cl.dat.injEq, PyData.int.injEq, PyData.bool.injEq, PyData.str.injEq, PyData.tuple.injEq, List.cons.injEq, and_true, true_and, exists_eq_left, exists_eq_left', exists_and_left, exists_and_right, and_assoc, exists_const, decide_eq_true_eq, Bool.not_eq_true', decide_eq_false_iff_not, Bool.false_eq_true, Bool.true_eq_false, if_true, if_false, reduceIte, reduceCtorEq, false_and, Nat.reduceAdd, Nat.reduceLeDiff])
      rw [if_neg (by decide)]
      refine w_neInts ?_
      (try simp only [aVar, aC, aSeq, aNext, aDrop, aRet, aRetN, aIfS, aAsg, aName, aPar, aPar3, aGNil, aGCons, aGTup, aOp, aUn, aI0, aI, aU, aTest, aAnd, aOr, aNot, aAndV, aOrV, aNotV, aIf, aCons, aNil, aTup, aLst, aCall, aCallD, aCallK, aCB, aEi, aApp, aRais, aAugI, aSl, aPart, aNoPart, w_slL, w_slS, w_cat, aJs, aFmtS, aFmtI, aJoin, bStr, bI1, bI2, bLenS, Ab.Cl.at.injEq, exists_eq_right, w_tru, w_truI, w_truB, w_truN, w_truS, w_odd1, bne_iff_ne, ne_eq, w_eqI, w_neI, w_eqB, w_neB, w_eqFr, w_neFr, aRevM, aRev1, aCallH, w_eqNilD, w_neNilD, w_ixT, w_ixL, w_elsT, w_atN, w_at0, w_at1, w_at2, w_at3, w_l0, w_l1, w_l2, w_l3, w_l4, w_l5, w_l6, w_l7, w_l8, w_l9, w_l10, w_l11, w_l12, w_t0, w_t1, w_t2, w_t3, w_t4, w_t5, w_t6, w_t7, w_t8, w_ixLC, w_ixTC, w_lenD, w_lenT, w_neNil, w_eqNil, w_ixLis, aDct1, aDct0, aDct0O, aCallN, pickC, List.cons_append, List.nil_append, w_elsTup, aCallR, w_elsFr, w_ixFr, aLstO, w_isiTup, w_isiLis, w_isiInt, w_isiBool, w_isiStr, w_isiDct, w_reprB, w_reprGD, w_tupleD, w_listT, w_listFr, aNeS, aEqS, aNotB, aIsB, eq_self, not_true_eq_false, not_false_eq_true, decide_true, decide_false, Bool.not_true, Bool.not_false, w_forR1, w_intB, w_elsTC, wipeR, aRaw, aTry, List.map_cons, List.map_nil, List.length_cons, List.length_nil, List.set_cons_zero, List.set_cons_succ, List.getElem?_cons_zero, List.getElem?_cons_succ, Option.some.injEq, Ab.Cl.dat.injEq, PyData.int.injEq, PyData.bool.injEq, PyData.str.injEq, PyData.tuple.injEq, List.cons.injEq, and_true, true_and, exists_eq_left, exists_eq_left', exists_and_left, exists_and_right, and_assoc, exists_const, decide_eq_true_eq, Bool.not_eq_true', decide_eq_false_iff_not, Bool.false_eq_true, Bool.true_eq_false, if_true, if_false, reduceIte, reduceCtorEq, false_and, Nat.reduceAdd, Nat.reduceLeDiff])
      refine ⟨by decide, by decide, ?_⟩
      obtain ⟨R, hR⟩ : ∃ R : Option Ab.Cl → Option Ab.Cl → Rho, R = fun u6 u7 => [some (.scr ns), some (.dat (.int k)), some (.at p), some (.dat (.list (is.map .int))), some (.dat (.list (is.map .int))), some (.dat (frD (valI is).1 (valI is).2)), u6, u7, v8, v9, v10, v11] := ⟨_, rfl⟩
      obtain ⟨Wi, hWi⟩ : ∃ Wi : Nat → Ob → Rho → Prop, Wi = fun t O2 ρ2 => ∃ G u6 u7, O2 = G ++ ((p, .pur n') :: O) ∧ ρ2 = R u6 u7 := ⟨_, rfl⟩
      refine turns_n Wi (by rw [hWi, hR]; exact ⟨[], _, _, rfl, rfl⟩) ?_ ?_
      · intro t O2 ρ2 ht hw
        rw [hWi] at hw
        obtain ⟨G, u6, u7, rfl, rfl⟩ := hw
        rw [hR]
        (try simp only [aVar, aC, aSeq, aNext, aDrop, aRet, aRetN, aIfS, aAsg, aName, aPar, aPar3, aGNil, aGCons, aGTup, aOp, aUn, aI0, aI, aU, aTest, aAnd, aOr, aNot, aAndV, aOrV, aNotV, aIf, aCons, aNil, aTup, aLst, aCall, aCallD, aCallK, aCB, aEi, aApp, aRais, aAugI, aSl, aPart, aNoPart, w_slL, w_slS, w_cat, aJs, aFmtS, aFmtI, aJoin, bStr, bI1, bI2, bLenS, Ab.Cl.at.injEq, exists_eq_right, w_tru, w_truI, w_truB, w_truN, w_truS, w_odd1, bne_iff_ne, ne_eq, w_eqI, w_neI, w_eqB, w_neB, w_eqFr, w_neFr, aRevM, aRev1, aCallH, w_eqNilD, w_neNilD, w_ixT, w_ixL, w_elsT, w_atN, w_at0, w_at1, w_at2, w_at3, w_l0, w_l1, w_l2, w_l3, w_l4, w_l5, w_l6, w_l7, w_l8, w_l9, w_l10, w_l11, w_l12, w_t0, w_t1, w_t2, w_t3, w_t4, w_t5, w_t6, w_t7, w_t8, w_ixLC, w_ixTC, w_lenD, w_lenT, w_neNil, w_eqNil, w_ixLis, aDct1, aDct0, aDct0O, aCallN, pickC, List.cons_append, List.nil_append, w_elsTup, aCallR, w_elsFr, w_ixFr, aLstO, w_isiTup, w_isiLis, w_isiInt, w_isiBool, w_isiStr, w_isiDct, w_reprB, w_reprGD, w_tupleD, w_listT, w_listFr, aNeS, aEqS, aNotB, aIsB, eq_self, not_true_eq_false, not_false_eq_true, decide_true, decide_false, Bool.not_true, Bool.not_false, w_forR1, w_intB, w_elsTC, wipeR, aRaw, aTry, List.map_cons, List.map_nil, List.length_cons, List.length_nil, List.set_cons_zero, List.set_cons_succ, List.getElem?_cons_zero, List.getElem?_cons_succ, Option.some.injEq, Ab.Cl.dat.injEq, PyData.int.injEq, PyData.bool.injEq, PyData.str.injEq, PyData.tuple.injEq, List.cons.injEq, and_true, true_and, exists_eq_left, exists_eq_left', exists_and_left, exists_and_right, and_assoc, exists_const, decide_eq_true_eq, Bool.not_eq_true', decide_eq_false_iff_not, Bool.false_eq_true, Bool.true_eq_false, if_true, if_false, reduceIte, reduceCtorEq, false_and, Nat.reduceAdd, Nat.reduceLeDiff])
        refine ⟨pl_fr _ _ _, .inr ⟨is, rfl, hf, upB bV2 (by decide), by omega, fun q => ?_⟩⟩
        (try simp only [aVar, aC, aSeq, aNext, aDrop, aRet, aRetN, aIfS, aAsg, aName, aPar, aPar3, aGNil, aGCons, aGTup, aOp, aUn, aI0, aI, aU, aTest, aAnd, aOr, aNot, aAndV, aOrV, aNotV, aIf, aCons, aNil, aTup, aLst, aCall, aCallD, aCallK, aCB, aEi, aApp, aRais, aAugI, aSl, aPart, aNoPart, w_slL, w_slS, w_cat, aJs, aFmtS, aFmtI, aJoin, bStr, bI1, bI2, bLenS, Ab.Cl.at.injEq, exists_eq_right, w_tru, w_truI, w_truB, w_truN, w_truS, w_odd1, bne_iff_ne, ne_eq, w_eqI, w_neI, w_eqB, w_neB, w_eqFr, w_neFr, aRevM, aRev1, aCallH, w_eqNilD, w_neNilD, w_ixT, w_ixL, w_elsT, w_atN, w_at0, w_at1, w_at2, w_at3, w_l0, w_l1, w_l2, w_l3, w_l4, w_l5, w_l6, w_l7, w_l8, w_l9, w_l10, w_l11, w_l12, w_t0, w_t1, w_t2, w_t3, w_t4, w_t5, w_t6, w_t7, w_t8, w_ixLC, w_ixTC, w_lenD, w_lenT, w_neNil, w_eqNil, w_ixLis, aDct1, aDct0, aDct0O, aCallN, pickC, List.cons_append, List.nil_append, w_elsTup, aCallR, w_elsFr, w_ixFr, aLstO, w_isiTup, w_isiLis, w_isiInt, w_isiBool, w_isiStr, w_isiDct, w_reprB, w_reprGD, w_tupleD, w_listT, w_listFr, aNeS, aEqS, aNotB, aIsB, eq_self, not_true_eq_false, not_false_eq_true, decide_true, decide_false, Bool.not_true, Bool.not_false, w_forR1, w_intB, w_elsTC, wipeR, aRaw, aTry, List.map_cons, List.map_nil, List.length_cons, List.length_nil, List.set_cons_zero, List.set_cons_succ, List.getElem?_cons_zero, List.getElem?_cons_succ, Option.some.injEq, Ab.Cl.dat.injEq, PyData.int.injEq, PyData.bool.injEq, PyData.str.injEq, PyData.tuple.injEq, List.cons.injEq, and_true, true_and, exists_eq_left, exists_eq_left', exists_and_left, exists_and_right, and_assoc, exists_const, decide_eq_true_eq, Bool.not_eq_true', decide_eq_false_iff_not, Bool.false_eq_true, Bool.true_eq_false, if_true, if_false, reduceIte, reduceCtorEq, false_and, Nat.reduceAdd, Nat.reduceLeDiff])
        refine w_isiOwn (by repeat (first | exact List.mem_cons_self .. | apply List.mem_cons_of_mem)) ?_
        (try simp only [aVar, aC, aSeq, aNext, aDrop, aRet, aRetN, aIfS, aAsg, aName, aPar, aPar3, aGNil, aGCons, aGTup, aOp, aUn, aI0, aI, aU, aTest, aAnd, aOr, aNot, aAndV, aOrV, aNotV, aIf, aCons, aNil, aTup, aLst, aCall, aCallD, aCallK, aCB, aEi, aApp, aRais, aAugI, aSl, aPart, aNoPart, w_slL, w_slS, w_cat, aJs, aFmtS, aFmtI, aJoin, bStr, bI1, bI2, bLenS, Ab.Cl.at.injEq, exists_eq_right, w_tru, w_truI, w_truB, w_truN, w_truS, w_odd1, bne_iff_ne, ne_eq, w_eqI, w_neI, w_eqB, w_neB, w_eqFr, w_neFr, aRevM, aRev1, aCallH, w_eqNilD, w_neNilD, w_ixT, w_ixL, w_elsT, w_atN, w_at0, w_at1, w_at2, w_at3, w_l0, w_l1, w_l2, w_l3, w_l4, w_l5, w_l6, w_l7, w_l8, w_l9, w_l10, w_l11, w_l12, w_t0, w_t1, w_t2, w_t3, w_t4, w_t5, w_t6, w_t7, w_t8, w_ixLC, w_ixTC, w_lenD, w_lenT, w_neNil, w_eqNil, w_ixLis, aDct1, aDct0, aDct0O, aCallN, pickC, List.cons_append, List.nil_append, w_elsTup, aCallR, w_elsFr, w_ixFr, aLstO, w_isiTup, w_isiLis, w_isiInt, w_isiBool, w_isiStr, w_isiDct, w_reprB, w_reprGD, w_tupleD, w_listT, w_listFr, aNeS, aEqS, aNotB, aIsB, eq_self, not_true_eq_false, not_false_eq_true, decide_true, decide_false, Bool.not_true, Bool.not_false, w_forR1, w_intB, w_elsTC, wipeR, aRaw, aTry, List.map_cons, List.map_nil, List.length_cons, List.length_nil, List.set_cons_zero, List.set_cons_succ, List.getElem?_cons_zero, List.getElem?_cons_succ, Option.some.injEq, Ab.Cl.dat.injEq, PyData.int.injEq, PyData.bool.injEq, PyData.str.injEq, PyData.tuple.injEq, List.cons.injEq, and_true, true_and, exists_eq_left, exists_eq_left', exists_and_left, exists_and_right, and_assoc, exists_const, decide_eq_true_eq, Bool.not_eq_true', decide_eq_false_iff_not, Bool.false_eq_true, Bool.true_eq_false, if_true, if_false, reduceIte, reduceCtorEq, false_and, Nat.reduceAdd, Nat.reduceLeDiff])
        refine w_reprG (.at (by repeat (first | exact List.mem_cons_self .. | apply List.mem_cons_of_mem)) (by rw [iCl_dat]; exact Rdcs.dats _)) ((txB_ints (fun t ht => upB (hb t ht) (by decide)) (by omega)).g _) ?_
        (try simp only [aVar, aC, aSeq, aNext, aDrop, aRet, aRetN, aIfS, aAsg, aName, aPar, aPar3, aGNil, aGCons, aGTup, aOp, aUn, aI0, aI, aU, aTest, aAnd, aOr, aNot, aAndV, aOrV, aNotV, aIf, aCons, aNil, aTup, aLst, aCall, aCallD, aCallK, aCB, aEi, aApp, aRais, aAugI, aSl, aPart, aNoPart, w_slL, w_slS, w_cat, aJs, aFmtS, aFmtI, aJoin, bStr, bI1, bI2, bLenS, Ab.Cl.at.injEq, exists_eq_right, w_tru, w_truI, w_truB, w_truN, w_truS, w_odd1, bne_iff_ne, ne_eq, w_eqI, w_neI, w_eqB, w_neB, w_eqFr, w_neFr, aRevM, aRev1, aCallH, w_eqNilD, w_neNilD, w_ixT, w_ixL, w_elsT, w_atN, w_at0, w_at1, w_at2, w_at3, w_l0, w_l1, w_l2, w_l3, w_l4, w_l5, w_l6, w_l7, w_l8, w_l9, w_l10, w_l11, w_l12, w_t0, w_t1, w_t2, w_t3, w_t4, w_t5, w_t6, w_t7, w_t8, w_ixLC, w_ixTC, w_lenD, w_lenT, w_neNil, w_eqNil, w_ixLis, aDct1, aDct0, aDct0O, aCallN, pickC, List.cons_append, List.nil_append, w_elsTup, aCallR, w_elsFr, w_ixFr, aLstO, w_isiTup, w_isiLis, w_isiInt, w_isiBool, w_isiStr, w_isiDct, w_reprB, w_reprGD, w_tupleD, w_listT, w_listFr, aNeS, aEqS, aNotB, aIsB, eq_self, not_true_eq_false, not_false_eq_true, decide_true, decide_false, Bool.not_true, Bool.not_false, w_forR1, w_intB, w_elsTC, wipeR, aRaw, aTry, List.map_cons, List.map_nil, List.length_cons, List.length_nil, List.set_cons_zero, List.set_cons_succ, List.getElem?_cons_zero, List.getElem?_cons_succ, Option.some.injEq, Ab.Cl.dat.injEq, PyData.int.injEq, PyData.bool.injEq, PyData.str.injEq, PyData.tuple.injEq, List.cons.injEq, and_true, true_and, exists_eq_left, exists_eq_left', exists_and_left, exists_and_right, and_assoc, exists_const, decide_eq_true_eq, Bool.not_eq_true', decide_eq_false_iff_not, Bool.false_eq_true, Bool.true_eq_false, if_true, if_false, reduceIte, reduceCtorEq, false_and, Nat.reduceAdd, Nat.reduceLeDiff])
        refine ⟨(txB_ints (fun t ht => upB (hb t ht) (by decide)) (by omega)).g _, ?_⟩
        refine ⟨⟨_, _, .here⟩, _, _, .here, by rw [iCl_len]; omega, ?_⟩
        rw [hWi, hR]
        exact ⟨(q, _) :: G, _, _, rfl, rfl⟩
      · intro O2 ρ2 hw
        rw [hWi] at hw
        obtain ⟨G, u6, u7, rfl, rfl⟩ := hw
        rw [hR]
        (try simp only [aVar, aC, aSeq, aNext, aDrop, aRet, aRetN, aIfS, aAsg, aName, aPar, aPar3, aGNil, aGCons, aGTup, aOp, aUn, aI0, aI, aU, aTest, aAnd, aOr, aNot, aAndV, aOrV, aNotV, aIf, aCons, aNil, aTup, aLst, aCall, aCallD, aCallK, aCB, aEi, aApp, aRais, aAugI, aSl, aPart, aNoPart, w_slL, w_slS, w_cat, aJs, aFmtS, aFmtI, aJoin, bStr, bI1, bI2, bLenS, Ab.Cl.at.injEq, exists_eq_right, w_tru, w_truI, w_truB, w_truN, w_truS, w_odd1, bne_iff_ne, ne_eq, w_eqI, w_neI, w_eqB, w_neB, w_eqFr, w_neFr, aRevM, aRev1, aCallH, w_eqNilD, w_neNilD, w_ixT, w_ixL, w_elsT, w_atN, w_at0, w_at1, w_at2, w_at3, w_l0, w_l1, w_l2, w_l3, w_l4, w_l5, w_l6, w_l7, w_l8, w_l9, w_l10, w_l11, w_l12, w_t0, w_t1, w_t2, w_t3, w_t4, w_t5, w_t6, w_t7, w_t8, w_ixLC, w_ixTC, w_lenD, w_lenT, w_neNil, w_eqNil, w_ixLis, aDct1, aDct0, aDct0O, aCallN, pickC, List.cons_append, List.nil_append, w_elsTup, aCallR, w_elsFr, w_ixFr, aLstO, w_isiTup, w_isiLis, w_isiInt, w_isiBool, w_isiStr, w_isiDct, w_reprB, w_reprGD, w_tupleD, w_listT, w_listFr, aNeS, aEqS, aNotB, aIsB, eq_self, not_true_eq_false, not_false_eq_true, decide_true, decide_false, Bool.not_true, Bool.not_false, w_forR1, w_intB, w_elsTC, wipeR, aRaw, aTry, List.map_cons, List.map_nil, List.length_cons, List.length_nil, List.set_cons_zero, List.set_cons_succ, List.getElem?_cons_zero, List.getElem?_cons_succ, Option.some.injEq, Ab.Cl.dat.injEq, PyData.int.injEq, PyData.bool.injEq, PyData.str.injEq, PyData.tuple.injEq, List.cons.injEq, and_true, true_and, exists_eq_left, exists_eq_left', exists_and_left, exists_and_right, and_assoc, exists_const, decide_eq_true_eq, Bool.not_eq_true', decide_eq_false_iff_not, Bool.false_eq_true, Bool.true_eq_false, if_true, if_false, reduceIte, reduceCtorEq, false_and, Nat.reduceAdd, Nat.reduceLeDiff])
        refine ⟨p, n', _, rfl, Ab.Lo.here.app G, by omega, fun a n1 ha hn1 => ?_⟩
        refine ⟨p, n1, _, rfl, Ab.Lo.here.app G, by omega, fun z2 n2 hz hn2 => ?_⟩
        (try simp only [aVar, aC, aSeq, aNext, aDrop, aRet, aRetN, aIfS, aAsg, aName, aPar, aPar3, aGNil, aGCons, aGTup, aOp, aUn, aI0, aI, aU, aTest, aAnd, aOr, aNot, aAndV, aOrV, aNotV, aIf, aCons, aNil, aTup, aLst, aCall, aCallD, aCallK, aCB, aEi, aApp, aRais, aAugI, aSl, aPart, aNoPart, w_slL, w_slS, w_cat, aJs, aFmtS, aFmtI, aJoin, bStr, bI1, bI2, bLenS, Ab.Cl.at.injEq, exists_eq_right, w_tru, w_truI, w_truB, w_truN, w_truS, w_odd1, bne_iff_ne, ne_eq, w_eqI, w_neI, w_eqB, w_neB, w_eqFr, w_neFr, aRevM, aRev1, aCallH, w_eqNilD, w_neNilD, w_ixT, w_ixL, w_elsT, w_atN, w_at0, w_at1, w_at2, w_at3, w_l0, w_l1, w_l2, w_l3, w_l4, w_l5, w_l6, w_l7, w_l8, w_l9, w_l10, w_l11, w_l12, w_t0, w_t1, w_t2, w_t3, w_t4, w_t5, w_t6, w_t7, w_t8, w_ixLC, w_ixTC, w_lenD, w_lenT, w_neNil, w_eqNil, w_ixLis, aDct1, aDct0, aDct0O, aCallN, pickC, List.cons_append, List.nil_append, w_elsTup, aCallR, w_elsFr, w_ixFr, aLstO, w_isiTup, w_isiLis, w_isiInt, w_isiBool, w_isiStr, w_isiDct, w_reprB, w_reprGD, w_tupleD, w_listT, w_listFr, aNeS, aEqS, aNotB, aIsB, eq_self, not_true_eq_false, not_false_eq_true, decide_true, decide_false, Bool.not_true, Bool.not_false, w_forR1, w_intB, w_elsTC, wipeR, aRaw, aTry, List.map_cons, List.map_nil, List.length_cons, List.length_nil, List.set_cons_zero, List.set_cons_succ, List.getElem?_cons_zero, List.getElem?_cons_succ, Option.some.injEq, Ab.Cl.dat.injEq, PyData.int.injEq, PyData.bool.injEq, PyData.str.injEq, PyData.tuple.injEq, List.cons.injEq, and_true, true_and, exists_eq_left, exists_eq_left', exists_and_left, exists_and_right, and_assoc, exists_const, decide_eq_true_eq, Bool.not_eq_true', decide_eq_false_iff_not, Bool.false_eq_true, Bool.true_eq_false, if_true, if_false, reduceIte, reduceCtorEq, false_and, Nat.reduceAdd, Nat.reduceLeDiff])
        obtain ⟨b, eb, b1, b2⟩ : ∃ b : Int, (if (if z2 < 0 then -z2 else z2) > 1 then if z2 < 0 then -z2 else z2 else 1) = b ∧ 1 ≤ b ∧ b < 10 ^ 30 := by
          refine ⟨_, rfl, ?_, ?_⟩ <;> split <;> (try split) <;> omega
        simp only [eb]
        obtain ⟨g1, g2, g3⟩ := gcd_divs (a := a) b1
        have g4 := gcd_le' (a := a) b1
        refine ⟨a, b, rfl, ?_⟩
        obtain ⟨g, hg⟩ : ∃ g, g = gcdI a b := ⟨_, rfl⟩
        rw [← hg] at g1 g2 g3 g4 ⊢
        have lg : g.natAbs.log2 < 9000 := (Nat.log2_lt (by omega)).mpr (Nat.lt_trans (show g.natAbs < 2 ^ 100 by omega) (Nat.pow_lt_pow_right (by decide) (by decide)))
        have q1 : (a / g).natAbs ≤ a.natAbs := Int.natAbs_ediv_le_natAbs _ _
        have q2 : b / g ≤ b := Int.ediv_le_self _ (by omega)
        obtain ⟨js, fj, vj, lj, tj⟩ := row_ex 100 (a / g) (b / g) g3 g1 (by omega)
        have bj : ∀ t ∈ js, t.natAbs < 2 ^ 100 := fun t ht => by have := tj t ht; omega
        have nj : js ≠ [] := fun e => by subst e; cases fj
        have cd1 : CDivW a g := ⟨by omega, lg⟩
        have cd2 : CDivW b g := ⟨by omega, lg⟩
        have ev1 : (valI js).1 = a / g := congrArg Prod.fst vj
        have ev2 : (valI js).2 = b / g := congrArg Prod.snd vj
        have txq : TxG True (frD (a / g) (b / g)) := (tg_fr (k := 100) (by omega) (by omega) (by decide) (by decide)).txG
        (try simp only [aVar, aC, aSeq, aNext, aDrop, aRet, aRetN, aIfS, aAsg, aName, aPar, aPar3, aGNil, aGCons, aGTup, aOp, aUn, aI0, aI, aU, aTest, aAnd, aOr, aNot, aAndV, aOrV, aNotV, aIf, aCons, aNil, aTup, aLst, aCall, aCallD, aCallK, aCB, aEi, aApp, aRais, aAugI, aSl, aPart, aNoPart, w_slL, w_slS, w_cat, aJs, aFmtS, aFmtI, aJoin, bStr, bI1, bI2, bLenS, Ab.Cl.at.injEq, exists_eq_right, w_tru, w_truI, w_truB, w_truN, w_truS, w_odd1, bne_iff_ne, ne_eq, w_eqI, w_neI, w_eqB, w_neB, w_eqFr, w_neFr, aRevM, aRev1, aCallH, w_eqNilD, w_neNilD, w_ixT, w_ixL, w_elsT, w_atN, w_at0, w_at1, w_at2, w_at3, w_l0, w_l1, w_l2, w_l3, w_l4, w_l5, w_l6, w_l7, w_l8, w_l9, w_l10, w_l11, w_l12, w_t0, w_t1, w_t2, w_t3, w_t4, w_t5, w_t6, w_t7, w_t8, w_ixLC, w_ixTC, w_lenD, w_lenT, w_neNil, w_eqNil, w_ixLis, aDct1, aDct0, aDct0O, aCallN, pickC, List.cons_append, List.nil_append, w_elsTup, aCallR, w_elsFr, w_ixFr, aLstO, w_isiTup, w_isiLis, w_isiInt, w_isiBool, w_isiStr, w_isiDct, w_reprB, w_reprGD, w_tupleD, w_listT, w_listFr, aNeS, aEqS, aNotB, aIsB, eq_self, not_true_eq_false, not_false_eq_true, decide_true, decide_false, Bool.not_true, Bool.not_false, w_forR1, w_intB, w_elsTC, wipeR, aRaw, aTry, List.map_cons, List.map_nil, List.length_cons, List.length_nil, List.set_cons_zero, List.set_cons_succ, List.getElem?_cons_zero, List.getElem?_cons_succ, Option.some.injEq, Ab.Cl.dat.injEq, PyData.int.injEq, PyData.bool.injEq, PyData.str.injEq, PyData.tuple.injEq, List.cons.injEq, and_true, true_and, exists_eq_left, exists_eq_left', exists_and_left, exists_and_right, and_assoc, exists_const, decide_eq_true_eq, Bool.not_eq_true', decide_eq_false_iff_not, Bool.false_eq_true, Bool.true_eq_false, if_true, if_false, reduceIte, reduceCtorEq, false_and, Nat.reduceAdd, Nat.reduceLeDiff])
        refine ⟨cd1, cd2, ?_⟩
        refine ⟨pl_fr _ _ _, .inr ⟨js, by rw [ev1, ev2]; rfl, fj, by rw [ev2]; exact Nat.lt_trans (show _ < 2 ^ 100 by omega) (Nat.pow_lt_pow_right (by decide) (by decide)), by omega, fun q => ?_⟩⟩
        have rdO : ∀ O' : Ob, RdA ((q, Ow.lst (iCl js)) :: O') (.at q) (some (iCl js)) := fun O' => by rw [iCl_dat]; exact rd_own (List.mem_cons_self ..) (by rw [List.length_map]; omega)
        refine ⟨_, rdO _, ?_⟩
        rw [floorR_ints, fj]
        (try simp only [aVar, aC, aSeq, aNext, aDrop, aRet, aRetN, aIfS, aAsg, aName, aPar, aPar3, aGNil, aGCons, aGTup, aOp, aUn, aI0, aI, aU, aTest, aAnd, aOr, aNot, aAndV, aOrV, aNotV, aIf, aCons, aNil, aTup, aLst, aCall, aCallD, aCallK, aCB, aEi, aApp, aRais, aAugI, aSl, aPart, aNoPart, w_slL, w_slS, w_cat, aJs, aFmtS, aFmtI, aJoin, bStr, bI1, bI2, bLenS, Ab.Cl.at.injEq, exists_eq_right, w_tru, w_truI, w_truB, w_truN, w_truS, w_odd1, bne_iff_ne, ne_eq, w_eqI, w_neI, w_eqB, w_neB, w_eqFr, w_neFr, aRevM, aRev1, aCallH, w_eqNilD, w_neNilD, w_ixT, w_ixL, w_elsT, w_atN, w_at0, w_at1, w_at2, w_at3, w_l0, w_l1, w_l2, w_l3, w_l4, w_l5, w_l6, w_l7, w_l8, w_l9, w_l10, w_l11, w_l12, w_t0, w_t1, w_t2, w_t3, w_t4, w_t5, w_t6, w_t7, w_t8, w_ixLC, w_ixTC, w_lenD, w_lenT, w_neNil, w_eqNil, w_ixLis, aDct1, aDct0, aDct0O, aCallN, pickC, List.cons_append, List.nil_append, w_elsTup, aCallR, w_elsFr, w_ixFr, aLstO, w_isiTup, w_isiLis, w_isiInt, w_isiBool, w_isiStr, w_isiDct, w_reprB, w_reprGD, w_tupleD, w_listT, w_listFr, aNeS, aEqS, aNotB, aIsB, eq_self, not_true_eq_false, not_false_eq_true, decide_true, decide_false, Bool.not_true, Bool.not_false, w_forR1, w_intB, w_elsTC, wipeR, aRaw, aTry, List.map_cons, List.map_nil, List.length_cons, List.length_nil, List.set_cons_zero, List.set_cons_succ, List.getElem?_cons_zero, List.getElem?_cons_succ, Option.some.injEq, Ab.Cl.dat.injEq, PyData.int.injEq, PyData.bool.injEq, PyData.str.injEq, PyData.tuple.injEq, List.cons.injEq, and_true, true_and, exists_eq_left, exists_eq_left', exists_and_left, exists_and_right, and_assoc, exists_const, decide_eq_true_eq, Bool.not_eq_true', decide_eq_false_iff_not, Bool.false_eq_true, Bool.true_eq_false, if_true, if_false, reduceIte, reduceCtorEq, false_and, Nat.reduceAdd, Nat.reduceLeDiff])
        refine ⟨js, .own (List.mem_cons_self ..), nj, 100, bj, by decide, by omega, ?_⟩
        rw [ev1, ev2]
        (try simp only [aVar, aC, aSeq, aNext, aDrop, aRet, aRetN, aIfS, aAsg, aName, aPar, aPar3, aGNil, aGCons, aGTup, aOp, aUn, aI0, aI, aU, aTest, aAnd, aOr, aNot, aAndV, aOrV, aNotV, aIf, aCons, aNil, aTup, aLst, aCall, aCallD, aCallK, aCB, aEi, aApp, aRais, aAugI, aSl, aPart, aNoPart, w_slL, w_slS, w_cat, aJs, aFmtS, aFmtI, aJoin, bStr, bI1, bI2, bLenS, Ab.Cl.at.injEq, exists_eq_right, w_tru, w_truI, w_truB, w_truN, w_truS, w_odd1, bne_iff_ne, ne_eq, w_eqI, w_neI, w_eqB, w_neB, w_eqFr, w_neFr, aRevM, aRev1, aCallH, w_eqNilD, w_neNilD, w_ixT, w_ixL, w_elsT, w_atN, w_at0, w_at1, w_at2, w_at3, w_l0, w_l1, w_l2, w_l3, w_l4, w_l5, w_l6, w_l7, w_l8, w_l9, w_l10, w_l11, w_l12, w_t0, w_t1, w_t2, w_t3, w_t4, w_t5, w_t6, w_t7, w_t8, w_ixLC, w_ixTC, w_lenD, w_lenT, w_neNil, w_eqNil, w_ixLis, aDct1, aDct0, aDct0O, aCallN, pickC, List.cons_append, List.nil_append, w_elsTup, aCallR, w_elsFr, w_ixFr, aLstO, w_isiTup, w_isiLis, w_isiInt, w_isiBool, w_isiStr, w_isiDct, w_reprB, w_reprGD, w_tupleD, w_listT, w_listFr, aNeS, aEqS, aNotB, aIsB, eq_self, not_true_eq_false, not_false_eq_true, decide_true, decide_false, Bool.not_true, Bool.not_false, w_forR1, w_intB, w_elsTC, wipeR, aRaw, aTry, List.map_cons, List.map_nil, List.length_cons, List.length_nil, List.set_cons_zero, List.set_cons_succ, List.getElem?_cons_zero, List.getElem?_cons_succ, Option.some.injEq, Ab.Cl.dat.injEq, PyData.int.injEq, PyData.bool.injEq, PyData.str.injEq, PyData.tuple.injEq, List.cons.injEq, and_true, true_and, exists_eq_left, exists_eq_left', exists_and_left, exists_and_right, and_assoc, exists_const, decide_eq_true_eq, Bool.not_eq_true', decide_eq_false_iff_not, Bool.false_eq_true, Bool.true_eq_false, if_true, if_false, reduceIte, reduceCtorEq, false_and, Nat.reduceAdd, Nat.reduceLeDiff])
        refine ⟨cd1, cd2, ?_⟩
        show aNeD _ (.dat (frD (a / g) (b / g))) (.dat (frD (a / g) (b / g))) _
        rw [w_neFr]
        (try simp only [aVar, aC, aSeq, aNext, aDrop, aRet, aRetN, aIfS, aAsg, aName, aPar, aPar3, aGNil, aGCons, aGTup, aOp, aUn, aI0, aI, aU, aTest, aAnd, aOr, aNot, aAndV, aOrV, aNotV, aIf, aCons, aNil, aTup, aLst, aCall, aCallD, aCallK, aCB, aEi, aApp, aRais, aAugI, aSl, aPart, aNoPart, w_slL, w_slS, w_cat, aJs, aFmtS, aFmtI, aJoin, bStr, bI1, bI2, bLenS, Ab.Cl.at.injEq, exists_eq_right, w_tru, w_truI, w_truB, w_truN, w_truS, w_odd1, bne_iff_ne, ne_eq, w_eqI, w_neI, w_eqB, w_neB, w_eqFr, w_neFr, aRevM, aRev1, aCallH, w_eqNilD, w_neNilD, w_ixT, w_ixL, w_elsT, w_atN, w_at0, w_at1, w_at2, w_at3, w_l0, w_l1, w_l2, w_l3, w_l4, w_l5, w_l6, w_l7, w_l8, w_l9, w_l10, w_l11, w_l12, w_t0, w_t1, w_t2, w_t3, w_t4, w_t5, w_t6, w_t7, w_t8, w_ixLC, w_ixTC, w_lenD, w_lenT, w_neNil, w_eqNil, w_ixLis, aDct1, aDct0, aDct0O, aCallN, pickC, List.cons_append, List.nil_append, w_elsTup, aCallR, w_elsFr, w_ixFr, aLstO, w_isiTup, w_isiLis, w_isiInt, w_isiBool, w_isiStr, w_isiDct, w_reprB, w_reprGD, w_tupleD, w_listT, w_listFr, aNeS, aEqS, aNotB, aIsB, eq_self, not_true_eq_false, not_false_eq_true, decide_true, decide_false, Bool.not_true, Bool.not_false, w_forR1, w_intB, w_elsTC, wipeR, aRaw, aTry, List.map_cons, List.map_nil, List.length_cons, List.length_nil, List.set_cons_zero, List.set_cons_succ, List.getElem?_cons_zero, List.getElem?_cons_succ, Option.some.injEq, Ab.Cl.dat.injEq, PyData.int.injEq, PyData.bool.injEq, PyData.str.injEq, PyData.tuple.injEq, List.cons.injEq, and_true, true_and, exists_eq_left, exists_eq_left', exists_and_left, exists_and_right, and_assoc, exists_const, decide_eq_true_eq, Bool.not_eq_true', decide_eq_false_iff_not, Bool.false_eq_true, Bool.true_eq_false, if_true, if_false, reduceIte, reduceCtorEq, false_and, Nat.reduceAdd, Nat.reduceLeDiff])
        rw [if_neg (by decide)]
        refine ⟨_, rdO _, .inr ⟨js, 100, rfl, fj, ⟨bj, by decide, by omega⟩, ?_⟩⟩
        rw [(turnI_val js).1, (turnI_val js).2, ev1, ev2]
        (try simp only [aVar, aC, aSeq, aNext, aDrop, aRet, aRetN, aIfS, aAsg, aName, aPar, aPar3, aGNil, aGCons, aGTup, aOp, aUn, aI0, aI, aU, aTest, aAnd, aOr, aNot, aAndV, aOrV, aNotV, aIf, aCons, aNil, aTup, aLst, aCall, aCallD, aCallK, aCB, aEi, aApp, aRais, aAugI, aSl, aPart, aNoPart, w_slL, w_slS, w_cat, aJs, aFmtS, aFmtI, aJoin, bStr, bI1, bI2, bLenS, Ab.Cl.at.injEq, exists_eq_right, w_tru, w_truI, w_truB, w_truN, w_truS, w_odd1, bne_iff_ne, ne_eq, w_eqI, w_neI, w_eqB, w_neB, w_eqFr, w_neFr, aRevM, aRev1, aCallH, w_eqNilD, w_neNilD, w_ixT, w_ixL, w_elsT, w_atN, w_at0, w_at1, w_at2, w_at3, w_l0, w_l1, w_l2, w_l3, w_l4, w_l5, w_l6, w_l7, w_l8, w_l9, w_l10, w_l11, w_l12, w_t0, w_t1, w_t2, w_t3, w_t4, w_t5, w_t6, w_t7, w_t8, w_ixLC, w_ixTC, w_lenD, w_lenT, w_neNil, w_eqNil, w_ixLis, aDct1, aDct0, aDct0O, aCallN, pickC, List.cons_append, List.nil_append, w_elsTup, aCallR, w_elsFr, w_ixFr, aLstO, w_isiTup, w_isiLis, w_isiInt, w_isiBool, w_isiStr, w_isiDct, w_reprB, w_reprGD, w_tupleD, w_listT, w_listFr, aNeS, aEqS, aNotB, aIsB, eq_self, not_true_eq_false, not_false_eq_true, decide_true, decide_false, Bool.not_true, Bool.not_false, w_forR1, w_intB, w_elsTC, wipeR, aRaw, aTry, List.map_cons, List.map_nil, List.length_cons, List.length_nil, List.set_cons_zero, List.set_cons_succ, List.getElem?_cons_zero, List.getElem?_cons_succ, Option.some.injEq, Ab.Cl.dat.injEq, PyData.int.injEq, PyData.bool.injEq, PyData.str.injEq, PyData.tuple.injEq, List.cons.injEq, and_true, true_and, exists_eq_left, exists_eq_left', exists_and_left, exists_and_right, and_assoc, exists_const, decide_eq_true_eq, Bool.not_eq_true', decide_eq_false_iff_not, Bool.false_eq_true, Bool.true_eq_false, if_true, if_false, reduceIte, reduceCtorEq, false_and, Nat.reduceAdd, Nat.reduceLeDiff])
        refine ⟨txq, cd1, cd2, txq, ?_⟩
        rw [if_neg (fun z => z rfl)]
        refine ⟨p, n2, _, rfl, (Ab.Lo.here.app G).there, by omega, fun d c G2 md od => ?_⟩
        have pl : Pl (G2 ++ ((q, Ow.lst (iCl js)) :: (G ++ ((p, Ow.pur (n2 - 1)) :: O)))) c := od.m.pl _ fun x hx => List.mem_append_left _ hx
        refine ⟨pl, ?_⟩
        (try simp only [aVar, aC, aSeq, aNext, aDrop, aRet, aRetN, aIfS, aAsg, aName, aPar, aPar3, aGNil, aGCons, aGTup, aOp, aUn, aI0, aI, aU, aTest, aAnd, aOr, aNot, aAndV, aOrV, aNotV, aIf, aCons, aNil, aTup, aLst, aCall, aCallD, aCallK, aCB, aEi, aApp, aRais, aAugI, aSl, aPart, aNoPart, w_slL, w_slS, w_cat, aJs, aFmtS, aFmtI, aJoin, bStr, bI1, bI2, bLenS, Ab.Cl.at.injEq, exists_eq_right, w_tru, w_truI, w_truB, w_truN, w_truS, w_odd1, bne_iff_ne, ne_eq, w_eqI, w_neI, w_eqB, w_neB, w_eqFr, w_neFr, aRevM, aRev1, aCallH, w_eqNilD, w_neNilD, w_ixT, w_ixL, w_elsT, w_atN, w_at0, w_at1, w_at2, w_at3, w_l0, w_l1, w_l2, w_l3, w_l4, w_l5, w_l6, w_l7, w_l8, w_l9, w_l10, w_l11, w_l12, w_t0, w_t1, w_t2, w_t3, w_t4, w_t5, w_t6, w_t7, w_t8, w_ixLC, w_ixTC, w_lenD, w_lenT, w_neNil, w_eqNil, w_ixLis, aDct1, aDct0, aDct0O, aCallN, pickC, List.cons_append, List.nil_append, w_elsTup, aCallR, w_elsFr, w_ixFr, aLstO, w_isiTup, w_isiLis, w_isiInt, w_isiBool, w_isiStr, w_isiDct, w_reprB, w_reprGD, w_tupleD, w_listT, w_listFr, aNeS, aEqS, aNotB, aIsB, eq_self, not_true_eq_false, not_false_eq_true, decide_true, decide_false, Bool.not_true, Bool.not_false, w_forR1, w_intB, w_elsTC, wipeR, aRaw, aTry, List.map_cons, List.map_nil, List.length_cons, List.length_nil, List.set_cons_zero, List.set_cons_succ, List.getElem?_cons_zero, List.getElem?_cons_succ, Option.some.injEq, Ab.Cl.dat.injEq, PyData.int.injEq, PyData.bool.injEq, PyData.str.injEq, PyData.tuple.injEq, List.cons.injEq, and_true, true_and, exists_eq_left, exists_eq_left', exists_and_left, exists_and_right, and_assoc, exists_const, decide_eq_true_eq, Bool.not_eq_true', decide_eq_false_iff_not, Bool.false_eq_true, Bool.true_eq_false, if_true, if_false, reduceIte, reduceCtorEq, false_and, Nat.reduceAdd, Nat.reduceLeDiff])
        cases hf : fracC c with
        | true => exact ⟨_, rfl⟩
        | false =>
          rw [if_pos rfl]
          refine ⟨pl, hf, oddM_very (Xf := fun _ _ _ => False) od.m (by decide) (odd_ok d md) fun G3 _ => ?_⟩
          (try simp only [aVar, aC, aSeq, aNext, aDrop, aRet, aRetN, aIfS, aAsg, aName, aPar, aPar3, aGNil, aGCons, aGTup, aOp, aUn, aI0, aI, aU, aTest, aAnd, aOr, aNot, aAndV, aOrV, aNotV, aIf, aCons, aNil, aTup, aLst, aCall, aCallD, aCallK, aCB, aEi, aApp, aRais, aAugI, aSl, aPart, aNoPart, w_slL, w_slS, w_cat, aJs, aFmtS, aFmtI, aJoin, bStr, bI1, bI2, bLenS, Ab.Cl.at.injEq, exists_eq_right, w_tru, w_truI, w_truB, w_truN, w_truS, w_odd1, bne_iff_ne, ne_eq, w_eqI, w_neI, w_eqB, w_neB, w_eqFr, w_neFr, aRevM, aRev1, aCallH, w_eqNilD, w_neNilD, w_ixT, w_ixL, w_elsT, w_atN, w_at0, w_at1, w_at2, w_at3, w_l0, w_l1, w_l2, w_l3, w_l4, w_l5, w_l6, w_l7, w_l8, w_l9, w_l10, w_l11, w_l12, w_t0, w_t1, w_t2, w_t3, w_t4, w_t5, w_t6, w_t7, w_t8, w_ixLC, w_ixTC, w_lenD, w_lenT, w_neNil, w_eqNil, w_ixLis, aDct1, aDct0, aDct0O, aCallN, pickC, List.cons_append, List.nil_append, w_elsTup, aCallR, w_elsFr, w_ixFr, aLstO, w_isiTup, w_isiLis, w_isiInt, w_isiBool, w_isiStr, w_isiDct, w_reprB, w_reprGD, w_tupleD, w_listT, w_listFr, aNeS, aEqS, aNotB, aIsB, eq_self, not_true_eq_false, not_false_eq_true, decide_true, decide_false, Bool.not_true, Bool.not_false, w_forR1, w_intB, w_elsTC, wipeR, aRaw, aTry, List.map_cons, List.map_nil, List.length_cons, List.length_nil, List.set_cons_zero, List.set_cons_succ, List.getElem?_cons_zero, List.getElem?_cons_succ, Option.some.injEq, Ab.Cl.dat.injEq, PyData.int.injEq, PyData.bool.injEq, PyData.str.injEq, PyData.tuple.injEq, List.cons.injEq, and_true, true_and, exists_eq_left, exists_eq_left', exists_and_left, exists_and_right, and_assoc, exists_const, decide_eq_true_eq, Bool.not_eq_true', decide_eq_false_iff_not, Bool.false_eq_true, Bool.true_eq_false, if_true, if_false, reduceIte, reduceCtorEq, false_and, Nat.reduceAdd, Nat.reduceLeDiff])
          exact ⟨_, rfl⟩
    · rintro O ρ ⟨v1, v2, v3, v4, v5, v6, v7, v8, v9, v10, v11, rfl⟩
      (try simp only [aVar, aC, aSeq, aNext, aDrop, aRet, aRetN, aIfS, aAsg, aName, aPar, aPar3, aGNil, aGCons, aGTup, aOp, aUn, aI0, aI, aU, aTest, aAnd, aOr, aNot, aAndV, aOrV, aNotV, aIf, aCons, aNil, aTup, aLst, aCall, aCallD, aCallK, aCB, aEi, aApp, aRais, aAugI, aSl, aPart, aNoPart, w_slL, w_slS, w_cat, aJs, aFmtS, aFmtI, aJoin, bStr, bI1, bI2, bLenS, Ab.Cl.at.injEq, exists_eq_right, w_tru, w_truI, w_truB, w_truN, w_truS, w_odd1, bne_iff_ne, ne_eq, w_eqI, w_neI, w_eqB, w_neB, w_eqFr, w_neFr, aRevM, aRev1, aCallH, w_eqNilD, w_neNilD, w_ixT, w_ixL, w_elsT, w_atN, w_at0, w_at1, w_at2, w_at3, w_l0, w_l1, w_l2, w_l3, w_l4, w_l5, w_l6, w_l7, w_l8, w_l9, w_l10, w_l11, w_l12, w_t0, w_t1, w_t2, w_t3, w_t4, w_t5, w_t6, w_t7, w_t8, w_ixLC, w_ixTC, w_lenD, w_lenT, w_neNil, w_eqNil, w_ixLis, aDct1, aDct0, aDct0O, aCallN, pickC, List.cons_append, List.nil_append, w_elsTup, aCallR, w_elsFr, w_ixFr, aLstO, w_isiTup, w_isiLis, w_isiInt, w_isiBool, w_isiStr, w_isiDct, w_reprB, w_reprGD, w_tupleD, w_listT, w_listFr, aNeS, aEqS, aNotB, aIsB, eq_self, not_true_eq_false, not_false_eq_true, decide_true, decide_false, Bool.not_true, Bool.not_false, w_forR1, w_intB, w_elsTC, wipeR, aRaw, aTry, List.map_cons, List.map_nil, List.length_cons, List.length_nil, List.set_cons_zero, List.set_cons_succ, List.getElem?_cons_zero, List.getElem?_cons_succ, Option.some.injEq, Ab.Cl.dat.injEq, PyData.int.injEq, PyData.bool.injEq, PyData.str.injEq, PyData.tuple.injEq, List.cons.injEq, and_true, true_and, exists_eq_left, exists_eq_left', exists_and_left, exists_and_right, and_assoc, exists_const, decide_eq_true_eq, Bool.not_eq_true', decide_eq_false_iff_not, Bool.false_eq_true, Bool.true_eq_false, if_true, if_false, reduceIte, reduceCtorEq, false_and, Nat.reduceAdd, Nat.reduceLeDiff])
end
theorem all_mk {P : Program} {w : World} {K : PySem.W.Frag} {h : Heap} {mg : Str → Option Value} {fa : Addr} (X : K.In h) (G : h.Ns mainGlobals mg) (hfa : mg "law" = some (.ref fa))
    (h_v_ve : PySem.W.findCls K (.type "ValueError") (.type "type") "__init__" = some (.val (.builtin "ValueError.__init__")))
    (h_n_ValueError : PySem.W.nsIn K mainGlobals "ValueError" = some none)
    (h_x_TermError : XtIn K "TermError" "TermError.__init__" m_TermError)
    (h_x_NoFraction : XeIn K "NoFraction" "found" "NoFraction.__init__" m_NoFraction)
    (h_x_NoRow : XeIn K "NoRow" "found" "NoRow.__init__" m_NoRow)
    (h_p_NoFraction_NoFraction : PairIn K "NoFraction" "NoFraction" true)
    (h_p_NoFraction_NoRow : PairIn K "NoFraction" "NoRow" false)
    (h_p_NoFraction_TermError : PairIn K "NoFraction" "TermError" true)
    (h_d_is_number : DefIn K "is_number" s_is_number)
    (h_d_is_list : DefIn K "is_list" s_is_list)
    (h_d_are_numbers : DefIn K "are_numbers" s_are_numbers)
    (h_d_is_pair : DefIn K "is_pair" s_is_pair)
    (h_d_is_fraction : DefIn K "is_fraction" s_is_fraction)
    (h_d_need_fractions : DefIn K "need_fractions" s_need_fractions)
    (h_d_is_floor_row : DefIn K "is_floor_row" s_is_floor_row)
    (h_d_need_floor_row : DefIn K "need_floor_row" s_need_floor_row)
    (h_d_floor_row : DefIn K "floor_row" s_floor_row)
    (h_d_fraction_of : DefIn K "fraction_of" s_fraction_of)
    (h_d_turned : DefIn K "turned" s_turned)
    (h_d_turn_of : DefIn K "turn_of" s_turn_of)
    (h_d_law_cell : DefIn K "_law_cell" s_law_cell)
    (h_d_law_purse : DefIn K "_law_purse" s_law_purse)
    (h_d_law_take : DefIn K "_law_take" s_law_take)
    (h_d_law_odd : DefIn K "_law_odd" s_law_odd)
    (h_d_law_very : DefIn K "_law_very" s_law_very)
    (h_d_law_whole : DefIn K "_law_whole" s_law_whole)
    (h_d_law_common : DefIn K "_law_common" s_law_common)
    (h_d_law_row : DefIn K "_law_row" s_law_row)
    (h_d_law_value : DefIn K "_law_value" s_law_value)
    (h_d_law_refused : DefIn K "_law_refused" s_law_refused)
    (h_d_law : DefIn K "law" s_law)
    (h_n_isinstance : PySem.W.nsIn K mainGlobals "isinstance" = some none)
    (h_n_int : PySem.W.nsIn K mainGlobals "int" = some none)
    (h_n_bool : PySem.W.nsIn K mainGlobals "bool" = some none)
    (h_n_list : PySem.W.nsIn K mainGlobals "list" = some none)
    (h_n_tuple : PySem.W.nsIn K mainGlobals "tuple" = some none)
    (h_n_all : PySem.W.nsIn K mainGlobals "all" = some none)
    (h_n_len : PySem.W.nsIn K mainGlobals "len" = some none)
    (h_g_gcd : PySem.W.nsIn K mainGlobals "gcd" = some (some (.builtin "math.gcd")))
    (h_n_max : PySem.W.nsIn K mainGlobals "max" = some none)
    (h_n_dict : PySem.W.nsIn K mainGlobals "dict" = some none)
    (h_n_repr : PySem.W.nsIn K mainGlobals "repr" = some none)
    (h_n_abs : PySem.W.nsIn K mainGlobals "abs" = some none)
    (h_n_range : PySem.W.nsIn K mainGlobals "range" = some none)
    (h_n_min : PySem.W.nsIn K mainGlobals "min" = some none)
    (h_nod : Ab.Nod K) :
    ∃ fd : FuncData, (∀ (s : Shared) (u : Value), BindsTo s fd ⟨[u], []⟩ [("_law_script", u)]) ∧ ∀ base : Heap, K.In base → base.Ns mainGlobals mg → FnG P w K mg base CX0 10 fa fd ["_law_script"] (spLaw K) := by
  have T : Txt K mg := ⟨h_v_ve, (PySem.W.mg_none_of X G h_n_ValueError), (h_x_TermError.at X G), (h_x_NoFraction.at X G), (h_x_NoRow.at X G), h_p_NoFraction_NoFraction, h_p_NoFraction_NoRow, h_p_NoFraction_TermError, (h_d_is_number.at X G), (h_d_is_list.at X G), (h_d_are_numbers.at X G), (h_d_is_pair.at X G), (h_d_is_fraction.at X G), (h_d_need_fractions.at X G), (h_d_is_floor_row.at X G), (h_d_need_floor_row.at X G), (h_d_floor_row.at X G), (h_d_fraction_of.at X G), (h_d_turned.at X G), (h_d_turn_of.at X G), (h_d_law_cell.at X G), (h_d_law_purse.at X G), (h_d_law_take.at X G), (h_d_law_odd.at X G), (h_d_law_very.at X G), (h_d_law_whole.at X G), (h_d_law_common.at X G), (h_d_law_row.at X G), (h_d_law_value.at X G), (h_d_law_refused.at X G), (h_d_law.at X G), (PySem.W.mg_none_of X G h_n_isinstance), (PySem.W.mg_none_of X G h_n_int), (PySem.W.mg_none_of X G h_n_bool), (PySem.W.mg_none_of X G h_n_list), (PySem.W.mg_none_of X G h_n_tuple), (PySem.W.mg_none_of X G h_n_all), (PySem.W.mg_none_of X G h_n_len), (PySem.W.mg_of X G h_g_gcd), (PySem.W.mg_none_of X G h_n_max), (PySem.W.mg_none_of X G h_n_dict), (PySem.W.mg_none_of X G h_n_repr), (PySem.W.mg_none_of X G h_n_abs), (PySem.W.mg_none_of X G h_n_range), (PySem.W.mg_none_of X G h_n_min), h_nod⟩
  exact law_end X G hfa h_d_law (fun _ _ _ _ _ _ _ => rfl) fun f fd base F => ok_law T F
end My
open PySem PySem.W PyProof.Rows
set_option maxRecDepth 100000 in
set_option maxHeartbeats 0 in
theorem PySem.Challenge.cw_termstream_k08_rows_of_fractions_holds : PySem.Challenge.rw_termstream_k08_rows_of_fractions.Holds := by
  w_on; o_law; k_head; (case hw => w_witness2)
  k_fill
  refine Vg.walk_ofG (l := PySem.Challenge.rw_termstream_k08_rows_of_fractions) (n := 63) (k := 10) (x := "_law_script") (K := _) (sp := fun w => Vg.spLaw _) rfl (by decide) rfl ⟨rfl, by decide, by decide⟩ (fun w h Y => PySem.W.kIn_of Y) ?F (fun w H a ns hl hS => ⟨a, ns, rfl, hS, hl, fun _ => rfl⟩)
  case F =>
    intro w mg fa h KX G hmg
    refine' My.all_mk KX G hmg ?v_ve ?n_ValueError ?x_TermError ?x_NoFraction ?x_NoRow ?p_NoFraction_NoFraction ?p_NoFraction_NoRow ?p_NoFraction_TermError ?d_is_number ?d_is_list ?d_are_numbers ?d_is_pair ?d_is_fraction ?d_need_fractions ?d_is_floor_row ?d_need_floor_row ?d_floor_row ?d_fraction_of ?d_turned ?d_turn_of ?d_law_cell ?d_law_purse ?d_law_take ?d_law_odd ?d_law_very ?d_law_whole ?d_law_common ?d_law_row ?d_law_value ?d_law_refused ?d_law ?n_isinstance ?n_int ?n_bool ?n_list ?n_tuple ?n_all ?n_len ?g_gcd ?n_max ?n_dict ?n_repr ?n_abs ?n_range ?n_min ?nod
    case v_ve => k_is
    case n_ValueError => k_is
    case x_TermError => (refine' Vg.XtIn.by ?a ?ga ?rd ?fc ?kp ?l ?c; (case a => k_is); (case ga => k_is); (case rd => k_is); (case fc => k_is); (case kp => k_is); (case l => k_is); (case c => k_is))
    case x_NoFraction => (refine' Vg.XeIn.by ?a (Vg.oex_by ?xl ?xb ?sa ?exC ?tyC ?kC) ?hg ?hk ?hd ?ha ?hn ?ht ?hm ?no ?iC ?tI ?l ?c ?kp; (case a => k_is); (case xl => k_is); (case xb => decide +kernel); (case sa => k_is); (case exC => k_is); (case tyC => k_is); (case kC => k_is); (case hg => k_is); (case hk => k_is); (case hd => k_is); (case ha => k_is); (case hn => k_is); (case ht => k_is); (case hm => k_is); (case no => k_is); (case iC => k_is); (case tI => k_is); (case l => k_is); (case c => k_is); (case kp => k_is))
    case x_NoRow => (refine' Vg.XeIn.by ?a (Vg.oex_by ?xl ?xb ?sa ?exC ?tyC ?kC) ?hg ?hk ?hd ?ha ?hn ?ht ?hm ?no ?iC ?tI ?l ?c ?kp; (case a => k_is); (case xl => k_is); (case xb => decide +kernel); (case sa => k_is); (case exC => k_is); (case tyC => k_is); (case kC => k_is); (case hg => k_is); (case hk => k_is); (case hd => k_is); (case ha => k_is); (case hn => k_is); (case ht => k_is); (case hm => k_is); (case no => k_is); (case iC => k_is); (case tI => k_is); (case l => k_is); (case c => k_is); (case kp => k_is))
    case p_NoFraction_NoFraction => (refine' Vg.PairIn.by ?h1 ?h2 ?h3 ?h4; (case h1 => k_is); (case h2 => k_is); (case h3 => kit_is); (case h4 => kts_exm))
    case p_NoFraction_NoRow => (refine' Vg.PairIn.by ?h1 ?h2 ?h3 ?h4; (case h1 => k_is); (case h2 => k_is); (case h3 => kit_is); (case h4 => kts_exm))
    case p_NoFraction_TermError => (refine' Vg.PairIn.by ?h1 ?h2 ?h3 ?h4; (case h1 => k_is); (case h2 => k_is); (case h3 => kit_is); (case h4 => kts_exm))
    case d_is_number => (refine' Vg.DefIn.by ?a ?l ?c ?k; (case a => k_is); (case l => k_is); (case c => k_is); (case k => k_is))
    case d_is_list => (refine' Vg.DefIn.by ?a ?l ?c ?k; (case a => k_is); (case l => k_is); (case c => k_is); (case k => k_is))
    case d_are_numbers => (refine' Vg.DefIn.by ?a ?l ?c ?k; (case a => k_is); (case l => k_is); (case c => k_is); (case k => k_is))
    case d_is_pair => (refine' Vg.DefIn.by ?a ?l ?c ?k; (case a => k_is); (case l => k_is); (case c => k_is); (case k => k_is))
    case d_is_fraction => (refine' Vg.DefIn.by ?a ?l ?c ?k; (case a => k_is); (case l => k_is); (case c => k_is); (case k => k_is))
    case d_need_fractions => (refine' Vg.DefIn.by ?a ?l ?c ?k; (case a => k_is); (case l => k_is); (case c => k_is); (case k => k_is))
    case d_is_floor_row => (refine' Vg.DefIn.by ?a ?l ?c ?k; (case a => k_is); (case l => k_is); (case c => k_is); (case k => k_is))
    case d_need_floor_row => (refine' Vg.DefIn.by ?a ?l ?c ?k; (case a => k_is); (case l => k_is); (case c => k_is); (case k => k_is))
    case d_floor_row => (refine' Vg.DefIn.by ?a ?l ?c ?k; (case a => k_is); (case l => k_is); (case c => k_is); (case k => k_is))
    case d_fraction_of => (refine' Vg.DefIn.by ?a ?l ?c ?k; (case a => k_is); (case l => k_is); (case c => k_is); (case k => k_is))
    case d_turned => (refine' Vg.DefIn.by ?a ?l ?c ?k; (case a => k_is); (case l => k_is); (case c => k_is); (case k => k_is))
    case d_turn_of => (refine' Vg.DefIn.by ?a ?l ?c ?k; (case a => k_is); (case l => k_is); (case c => k_is); (case k => k_is))
    case d_law_cell => (refine' Vg.DefIn.by ?a ?l ?c ?k; (case a => k_is); (case l => k_is); (case c => k_is); (case k => k_is))
    case d_law_purse => (refine' Vg.DefIn.by ?a ?l ?c ?k; (case a => k_is); (case l => k_is); (case c => k_is); (case k => k_is))
    case d_law_take => (refine' Vg.DefIn.by ?a ?l ?c ?k; (case a => k_is); (case l => k_is); (case c => k_is); (case k => k_is))
    case d_law_odd => (refine' Vg.DefIn.by ?a ?l ?c ?k; (case a => k_is); (case l => k_is); (case c => k_is); (case k => k_is))
    case d_law_very => (refine' Vg.DefIn.by ?a ?l ?c ?k; (case a => k_is); (case l => k_is); (case c => k_is); (case k => k_is))
    case d_law_whole => (refine' Vg.DefIn.by ?a ?l ?c ?k; (case a => k_is); (case l => k_is); (case c => k_is); (case k => k_is))
    case d_law_common => (refine' Vg.DefIn.by ?a ?l ?c ?k; (case a => k_is); (case l => k_is); (case c => k_is); (case k => k_is))
    case d_law_row => (refine' Vg.DefIn.by ?a ?l ?c ?k; (case a => k_is); (case l => k_is); (case c => k_is); (case k => k_is))
    case d_law_value => (refine' Vg.DefIn.by ?a ?l ?c ?k; (case a => k_is); (case l => k_is); (case c => k_is); (case k => k_is))
    case d_law_refused => (refine' Vg.DefIn.by ?a ?l ?c ?k; (case a => k_is); (case l => k_is); (case c => k_is); (case k => k_is))
    case d_law => (refine' Vg.DefIn.by ?a ?l ?c ?k; (case a => k_is); (case l => k_is); (case c => k_is); (case k => k_is))
    case n_isinstance => k_is
    case n_int => k_is
    case n_bool => k_is
    case n_list => k_is
    case n_tuple => k_is
    case n_all => k_is
    case n_len => k_is
    case g_gcd => k_is
    case n_max => k_is
    case n_dict => k_is
    case n_repr => k_is
    case n_abs => k_is
    case n_range => k_is
    case n_min => k_is
    case nod => (refine' Ab.Nod.mk ?ndB; (case ndB => k_is))
